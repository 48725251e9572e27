import PyProof.Rows.All
import Wide.All
import OpenK.AllK
import Wide.FinOn
import Lean
import PyProof.EqAt
import PyProof.EqKinds
import PyProof.TupleCall
import KE.KSortTup
import KE.KLam
import KE.KTryMore
import PyProof.NsDelKeeps
import PyProof.RulesAs
import PyProof.Rows.SumAny
import PySem.SetTable
import KE.KDictList
import PyProof.SetRoads
import PyProof.WalksMore
import PySem.Challenge.RW_fieldclaim_k08_whole_safe_by_weights
set_option Elab.async false
set_option linter.all false
set_option maxRecDepth 100000
set_option maxHeartbeats 4000000
theorem aa:type_of% @PySem.wpAny_bind:=@PySem.wpAny_bind
theorem ae.{iF,HQ}:type_of% @List.length_map.{iF,HQ}:=@List.length_map
theorem af.{iF}:type_of% @List.mem_cons_self.{iF}:=@List.mem_cons_self
theorem ag:type_of% @PySem.Heap.get?_push_of_some:=@PySem.Heap.get?_push_of_some
theorem ah.{iF}:type_of% @List.getElem?_eq_getElem.{iF}:=@List.getElem?_eq_getElem
theorem ai.{iF}:type_of% @List.mem_cons_of_mem.{iF}:=@List.mem_cons_of_mem
theorem aj:type_of% @PySem.wpAny_pure:=@PySem.wpAny_pure
theorem ak.{iF}:type_of% @List.getD_eq_getElem?_getD.{iF}:=@List.getD_eq_getElem?_getD
theorem ao.{iF,HQ}:type_of% @Option.bind_some.{iF,HQ}:=@Option.bind_some
theorem aq.{u}:type_of% @List.size_toArray.{u}:=@List.size_toArray
theorem au:type_of% @Nat.le_refl:=@Nat.le_refl
theorem av.{iF,HQ}:type_of% @List.getElem?_map.{iF,HQ}:=@List.getElem?_map
theorem aw:type_of% @Nat.lt_of_lt_of_le:=@Nat.lt_of_lt_of_le
theorem ax.{u}:type_of% @List.length_cons.{u}:=@List.length_cons
theorem ay:type_of% @PySem.Heap.get?_push_size:=@PySem.Heap.get?_push_size
theorem az:type_of% @PySem.Heap.lt_size:=@PySem.Heap.lt_size
theorem aB:type_of% @Nat.le_trans:=@Nat.le_trans
theorem aD:type_of% @Nat.ne_of_lt:=@Nat.ne_of_lt
theorem aE.{u,v}:type_of% @List.map_cons.{u,v}:=@List.map_cons
theorem aF.{iF}:type_of% @List.getElem?_set_ne.{iF}:=@List.getElem?_set_ne
theorem aG:type_of% @decide_eq_false:=@decide_eq_false
theorem aH:type_of% @Bool.false_eq_true:=@Bool.false_eq_true
theorem aJ.{iF}:type_of% @List.getElem?_append_left.{iF}:=@List.getElem?_append_left
theorem aK.{iF}:type_of% @List.getElem?_cons_succ.{iF}:=@List.getElem?_cons_succ
theorem aL.{u}:type_of% @List.mem_append_right.{u}:=@List.mem_append_right
theorem aM.{iF}:type_of% @List.getElem?_cons_zero.{iF}:=@List.getElem?_cons_zero
theorem aN.{iF}:type_of% @Array.length_toList.{iF}:=@Array.length_toList
theorem aO:type_of% @PySem.W.mg_of:=@PySem.W.mg_of
theorem aP.{iF}:type_of% @List.getElem?_append_right.{iF}:=@List.getElem?_append_right
theorem aQ.{u}:type_of% @List.length_append.{u}:=@List.length_append
theorem aR:type_of% @decide_eq_true:=@decide_eq_true
theorem aS.{u}:type_of% @Option.some.inj.{u}:=@Option.some.inj
theorem aT.{iF}:type_of% @Array.getD_eq_getD_getElem?.{iF}:=@Array.getD_eq_getD_getElem?
theorem aU.{iF}:type_of% @Array.getElem?_eq_getElem.{iF}:=@Array.getElem?_eq_getElem
theorem aV.{iF,HQ,Y5}:type_of% @List.map_map.{iF,HQ,Y5}:=@List.map_map
theorem aW.{iF}:type_of% @List.length_filter_le.{iF}:=@List.length_filter_le
theorem aX.{iF}:type_of% @List.set_cons_zero.{iF}:=@List.set_cons_zero
theorem aY.{iF}:type_of% @List.set_cons_succ.{iF}:=@List.set_cons_succ
theorem aZ:type_of% @Bool.false_ne_true:=@Bool.false_ne_true
theorem bc.{iF}:type_of% @List.getElem?_set_self.{iF}:=@List.getElem?_set_self
theorem bf.{iF}:type_of% @List.getElem?_replicate.{iF}:=@List.getElem?_replicate
theorem bg:type_of% @Nat.le_of_lt:=@Nat.le_of_lt
theorem bh.{iF}:type_of% @List.mem_of_getElem?.{iF}:=@List.mem_of_getElem?
theorem bo:type_of% @PySem.wpAny_holding:=@PySem.wpAny_holding
theorem bp.{iF}:type_of% @List.getElem?_of_mem.{iF}:=@List.getElem?_of_mem
theorem bq.{u,iF}:type_of% @List.lookup_cons.{u,iF}:=@List.lookup_cons
theorem br.{iF}:type_of% @List.filter_cons.{iF}:=@List.filter_cons
theorem bt.{iF}:type_of% @List.mem_singleton.{iF}:=@List.mem_singleton
theorem bu:type_of% @PySem.sizeLine_eq:=@PySem.sizeLine_eq
theorem bw:type_of% @Nat.ne_of_gt:=@Nat.ne_of_gt
theorem bx:type_of% @PySem.Heap.get?_update_other:=@PySem.Heap.get?_update_other
theorem bz:type_of% @PySem.PassesOwn.never:=@PySem.PassesOwn.never
theorem bA.{iF,HQ}:type_of% @Option.map_some.{iF,HQ}:=@Option.map_some
theorem bB.{u}:type_of% @List.append_nil.{u}:=@List.append_nil
theorem bC.{u}:type_of% @List.mem_append_left.{u}:=@List.mem_append_left
theorem bD.{iF}:type_of% @if_false.{iF}:=@if_false
theorem bE:type_of% @PySem.W.mg_none_of:=@PySem.W.mg_none_of
theorem bF.{iF}:type_of% @List.any_cons.{iF}:=@List.any_cons
theorem bG:type_of% @Nat.lt_trans:=@Nat.lt_trans
theorem bH.{iF}:type_of% @List.not_mem_nil.{iF}:=@List.not_mem_nil
theorem bJ.{iF}:type_of% @List.length_take.{iF}:=@List.length_take
theorem bK:type_of% @of_decide_eq_true:=@of_decide_eq_true
theorem bL:type_of% @Nat.zero_le:=@Nat.zero_le
theorem bM:type_of% @PySem.wpAny_call_entry:=@PySem.wpAny_call_entry
theorem bN.{iF}:type_of% @beq_self_eq_true.{iF}:=@beq_self_eq_true
theorem bO.{iF}:type_of% @List.any_eq_true.{iF}:=@List.any_eq_true
theorem bP:type_of% @PySem.wpAny_mono:=@PySem.wpAny_mono
theorem bQ:type_of% @PySem.wpAny_truthy_bool:=@PySem.wpAny_truthy_bool
theorem bR:type_of% @PySem.wpAny_newObj_type:=@PySem.wpAny_newObj_type
theorem bS.{iF,HQ}:type_of% @List.map_congr_left.{iF,HQ}:=@List.map_congr_left
theorem bT:type_of% @Bool.not_true:=@Bool.not_true
theorem bU:type_of% @Classical.byContradiction:=@Classical.byContradiction
theorem bW.{iF}:type_of% @List.Nodup.length_le_of_subset.{iF}:=@List.Nodup.length_le_of_subset
theorem bX:type_of% @PySem.Around.under_plainId:=@PySem.Around.under_plainId
abbrev cm:=List (List Int)
abbrev cn:=List Int
abbrev cg:=PySem.Value->PySem.Shared->Prop
abbrev cj:=PySem.Str->Option PySem.Value
abbrev ck:=List (PySem.Addr×PySem.Obj)
abbrev cp:=Option PySem.Addr
abbrev cq:=Array (Option PySem.Value)
abbrev cv:=List PySem.Value
abbrev cw:=PySem.Value
abbrev cx:=PySem.Shared
abbrev cy:=PySem.FuncData
abbrev cz:=PySem.Program
abbrev cA:=PySem.World
abbrev cB:=PySem.Around
abbrev cC:=PySem.SetTable
abbrev cD:=PySem.Addr
abbrev cE:=PySem.Expr
abbrev cF:=PySem.Stmt
namespace L2
open PySem
noncomputable def va:List (Str×Pos×Str):=[(Str.ofString "points_by_use",⟨89,34,89,69⟩,Str.ofString "points_by_use.<locals>.<lambda>")]
end L2
namespace L2
open PySem PySem.Spec PyProof.Rows
noncomputable abbrev Key:=Sum Int Str
noncomputable def yw:Key->cw->Bool
 |.inl k,v=>Value.isInt k v
 |.inr x,v=>Value.isStrOf x v
noncomputable def Uj (w:cA):Key->Int
 |.inl k=>hashInt k
 |.inr x=>hashStr w x
theorem gh:∀{k:Key}{v:cw},yw k v=true->(∃i t,k=Sum.inl i/\v=Value.int i t)\/(∃x t,k=Sum.inr x/\v=Value.str x t)
 |.inl i,v,h=>by
  obtain⟨t,e⟩:=Value.isInt_shape (k:=i) (v:=v) h;exact .inl ⟨i,t,rfl,e⟩
 |.inr x,v,h=>by
  obtain⟨t,e⟩:=Value.isStrOf_shape (x:=x) (v:=v) h;exact .inr ⟨x,t,rfl,e⟩
theorem FY (i:Int) (t:Tok):yw (.inl i) (.int i t)=true:=by simp[yw,Value.isInt]
theorem FZ (x:Str) (t:Tok):yw (.inr x) (.str x t)=true:=by simp[yw,Value.isStrOf]
theorem NU (a b:Int):decide ((Sum.inl a:Key)=Sum.inl b)=(a==b):=by
 by_cases e:a=b
 ·subst e;simp
 ·have h:¬ (Sum.inl a:Key)=Sum.inl b:=λq=>e (Sum.inl.inj q)
  rw[aG h];exact(beq_eq_false_iff_ne.mpr e).symm
theorem NV (a b:Str):decide ((Sum.inr a:Key)=Sum.inr b)=decide (a=b):=by
 by_cases e:a=b
 ·subst e;simp
 ·have h:¬ (Sum.inr a:Key)=Sum.inr b:=λq=>e (Sum.inr.inj q)
  rw[aG h,aG e]
theorem NW (a:Int) (b:Str):decide ((Sum.inl a:Key)=Sum.inr b)=false:=aG (λq=>nomatch q)
theorem NX (a:Str) (b:Int):decide ((Sum.inr a:Key)=Sum.inl b)=false:=aG (λq=>nomatch q)
noncomputable def eT (prog:cz) (w:cA):PySem.KeyKind prog w Key where
 is:=yw
 hash:=Uj w
 inj:=λv a b ha hb=>by
  rcases gh ha with⟨i,t,rfl,rfl⟩|⟨x,t,rfl,rfl⟩
  ·rcases gh hb with⟨j,u,rfl,e⟩|⟨y,u,rfl,e⟩
   ·injection e with e1 _;rw[e1]
   ·exact nomatch e
  ·rcases gh hb with⟨j,u,rfl,e⟩|⟨y,u,rfl,e⟩
   ·exact nomatch e
   ·injection e with e1 _;rw[e1]
 byValue:=λk v h=>by
  rcases gh h with⟨i,t,rfl,rfl⟩|⟨x,t,rfl,rfl⟩<;>rfl
 pyHash:=λhv h=>by
  rcases gh hv with⟨i,t,rfl,rfl⟩|⟨x,t,rfl,rfl⟩
  ·exact wpAny_pyHash_int h
  ·exact wpAny_pyHash_str h
 eqBool:=λhu hv h=>by
  rcases gh hu with⟨i,t,rfl,rfl⟩|⟨x,t,rfl,rfl⟩
  ·rcases gh hv with⟨j,u,rfl,rfl⟩|⟨y,u,rfl,rfl⟩
   ·rw[NU]at h;exact wpAny_eqBool_int h
   ·rw[NW]at h;exact SeqAt.EqAt.int_str i t y u _ _ _ _ h
  ·rcases gh hv with⟨j,u,rfl,rfl⟩|⟨y,u,rfl,rfl⟩
   ·rw[NX]at h;exact SeqAt.EqAt.str_int x t j u _ _ _ _ h
   ·rw[NV]at h;exact wpAny_eqBool_str h
 «strs»:=λk x t v h=>by
  rcases gh h with⟨i,u,rfl,e⟩|⟨y,u,rfl,e⟩
  ·exact nomatch e
  ·injection e with e1 _
   subst e1;cases v<;>rfl
theorem A2 (prog:cz) (w:cA) (i:Int) (t:Tok):(eT prog w).is (.inl i) (.int i t)=true:=FY i t
theorem A3 (prog:cz) (w:cA) (x:Str) (t:Tok):(eT prog w).is (.inr x) (.str x t)=true:=FZ x t
end L2
namespace L2
open PySem PySem.Spec PyProof.Rows
inductive V where
 |eU|bl (b:Bool)|int (i:Int)|str (x:Str)|QF (b:Array UInt8)|Ts (b:UInt64)|ref (a:cD)|ty (n:String)
 deriving DecidableEq
noncomputable def RelV:V->cw->Prop
 |.eU,u=>u=Value.none
 |.bl b,u=>u=Value.bool b
 |.int i,u=>∃t,u=Value.int i t
 |.str x,u=>∃t,u=Value.str x t
 |.QF b,u=>∃t,u=Value.bytes b t
 |.Ts b,u=>∃t,u=Value.float b t
 |.ref a,u=>u=Value.ref a
 |.ty n,u=>u=Value.type n
noncomputable abbrev Vals:List V->cv->Prop:=Paired RelV
theorem Vals.length {xs:List V}{us:cv}(r:Vals xs us):xs.length=us.length:=Paired.length r
theorem Vals.get:∀{xs:List V}{us:cv}{i:Nat}{x:V},Vals xs us->xs[i]? =some x->∃u,us[i]? =some u/\RelV x u
 |_,_,_,_,.nil,e=>by simp at e
 |_,_,0,_,.cons r _,e=>by simp at e;subst e;exact⟨_,rfl,r⟩
 |_,_,i+1,x,.cons _ t,e=>by
  obtain⟨u,h1,h2⟩:=Vals.get (i:=i) (x:=x) t (by simpa using e)
  exact⟨u,by simpa using h1,h2⟩
theorem Vals.append:∀{xs ys:List V}{us ws:cv},Vals xs us->Vals ys ws->Vals (xs++ys) (us++ws)
 |_,_,_,_,.nil,s=>s
 |_,_,_,_,.cons r t,s=>.cons r (Vals.append t s)
theorem Vals.take:∀{xs:List V}{us:cv}(n:Nat),Vals xs us->Vals (xs.take n) (us.take n)
 |_,_,0,_=>.nil
 |_,_,_+1,.nil=>.nil
 |_,_,n+1,.cons r t=>.cons r (Vals.take n t)
theorem Vals.drop:∀{xs:List V}{us:cv}(n:Nat),Vals xs us->Vals (xs.drop n) (us.drop n)
 |_,_,0,r=>r
 |_,_,_+1,.nil=>.nil
 |_,_,n+1,.cons _ t=>Vals.drop n t
noncomputable def pj:Option V->Option cw->Prop
 |some v,some u=>RelV v u
 |none,none=>True
 |_,_=>False
noncomputable def KV {κ:Type}:List (κ×V)->List (κ×cw)->Prop:=Paired λ(p:κ×V) (q:κ×cw)=>p.1=q.1/\RelV p.2 q.2
noncomputable def kV:Key->V
 |.inl i=>.int i
 |.inr x=>.str x
inductive HO where
 |lst (xs:List V)
 |tup (xs:List V)
 |dK (kvs:List (Key×V))|dT (kvs:List (List Key×V))
 |set (S:Int->Bool) (n:Nat)
 |ins (C dx:cD) (fs:List (Str×V))
 |own (x:cD)
 |xd (fs:List (Str×V))
 |met (f x:cD)
 |Na (lo hi:Int)
 |CH (o:Obj) (u:HO)
 |CO (ps:Array cw)
 |ext (φ:Heap->Prop)
noncomputable abbrev Hp:=cD->Option HO
noncomputable def upd (H:Hp) (a:cD) (o:HO):Hp:=λb=>if b=a then some o else H b
theorem da {H:Hp}{a:cD}{o:HO}:upd H a o a=some o:=by unfold upd;rw[if_pos rfl]
theorem cR {H:Hp}{a b:cD}{o:HO}(h:b≠a):upd H a o b=H b:=by unfold upd;rw[if_neg h]
theorem QY {H:Hp}{a b:cD}{o u:HO}(h:H a=some o) (h':H b=some u) (d:o≠u):a≠b:=by
 intro e;subst e;rw[h]at h';exact d (aS h')
theorem cV {H:Hp}{a b:cD}{o:HO}(h:H a=some o) (h':H b=none):a≠b:=by
 intro e;subst e;rw[h]at h';cases h'
noncomputable def xH (pos:Pos) (qual:Str):Array cw:=#[.int pos.line 0,.int pos.col 0,.str qual 0]
def yx (H:Hp) (h:Heap) (a:cD) (ps:Array cw):Prop:=
 ∃qs:Array cw,h.get? a=some {cls:=.none,data:=.fields qs}/\TriplesOk qs.toList/\∃pos qual more,ps=xH pos qual++more/\
  (codeAmong pos qs.toList=none\/∃c oc vs t,codeAmong pos qs.toList=some (.ref c)/\H c=some (.CH oc (.own 0))/\oc.data=.fields vs/\vs[1]? =some (.str qual t))
def Ga (K:W.Frag) (mg:cj) (base:Heap) (H:Hp):Prop:=∀x c Pt pos qual,(x,pos,qual)∈va->W.tabIn K x=some (c,Pt)->(∃more,H Pt=some (.CO (xH pos qual++more)))/\W.CodeHd base c Pt/\base.BuiltinsAt mg Pt
section
variable (P:cz) (w:cA)
noncomputable def il (H:Hp) (h:Heap) (a:cD):HO->Prop
 |.lst xs=>xs.length<=sizeLine/\∃(dz:cv) (n:Nat),Vals xs dz/\h.get? a=some {cls:=.type "list",data:=.seq dz.toArray n}
 |.tup xs=>xs.length<=sizeLine/\∃dz:cv,Vals xs dz/\IsTup h a dz.toArray
 |.dK kvs=>kvs.length<=sizeLine/\(a==sysModules)=false/\∃vs,KV kvs vs/\h.DictOf (eT P w) a vs
 |.dT kvs=>kvs.length<=sizeLine/\(a==sysModules)=false/\∃xs:List (List Key×cD×cw),
   Paired (λ(p:List Key×V) (q:List Key×cD×cw)=>p.1=q.1/\H q.2.1=some (.tup (p.1.map kV))/\RelV p.2 q.2.2) kvs xs/\
   ∃o es ep,h.get? a=some o/\o.ExactDict/\o.data=.dict es ep/\es.toList=xs.map (entryOfKey (tupleKind (eT P w)))/\(xs.map (·.1)).Nodup
 |.set S n=>h.SetOf (intKind P w) a S n
 |.ins C dx fs=>H dx=some (.own a)/\fs.length<=1000/\dx≠a/\h.get? a=some (W.instObj C dx)/\
   ∃mA,h.Ns1 dx mA/\(∀f,pj (fs.lookup f) (mA f))/\PySem.Within mA (fs.map (·.1))
 |.own _=>∃o,h.get? a=some o
 |.xd fs=>∃mA,h.Ns1 a mA/\∀f,pj (fs.lookup f) (mA f)
 |.Na lo hi=>∃t u v,h.get? a=some {cls:=.type "range",data:=.fields #[.int lo t,.int hi u,.int 1 v]}
 |.CH o u=>h.get? a=some o/\il H h a u
 |.CO ps=>yx H h a ps
 |.met f x=>h.get? a=some (W.methodObj (.ref f) (.ref x))
 |.ext φ=>φ h/\(∃o,h.get? a=some o)/\∀h1 h2:Heap,φ h1->(∀o,h1.get? a=some o->h2.get? a=some o)->φ h2
def qV (H:Hp) (h:Heap):Prop:=∀a o,H a=some o->il P w H h a o
end
section
variable {P:cz}{w:cA}{H H':Hp}{h h':Heap}{a:cD}{o:HO}
theorem il.lt (x:il P w H h a o):a<h.objs.size:=by
 cases o with
 |lst xs=>obtain⟨_,_,_,_,e⟩:=x;exact az e
 |tup xs=>obtain⟨_,_,_,p⟩:=x;exact p.lt
 |dK kvs=>obtain⟨_,_,_,_,o,_,_,e,_⟩:=x;exact az e
 |dT kvs=>obtain⟨_,_,_,_,o,_,_,e,_⟩:=x;exact az e
 |set S n=>obtain⟨o,_,_,_,e,_⟩:=x;exact az e
 |ins C dx fs=>obtain⟨_,_,_,e,_⟩:=x;exact az e
 |own y=>obtain⟨_,e⟩:=x;exact az e
 |xd fs=>obtain⟨_,⟨_,_,_,e,_⟩,_⟩:=x;exact az e
 |Na lo hi=>obtain⟨_,_,_,e⟩:=x;exact az e
 |CH ob u=>obtain⟨e,_⟩:=x;exact az e
 |CO ps=>obtain⟨_,e,_⟩:=(show yx H h a ps from x);exact az e
 |met f y=>exact az (show h.get? a=some _ from x)
 |ext φ=>obtain⟨_,⟨_,e⟩,_⟩:=x;exact az e
theorem Paired.NY {α β:Type}{F G:α->β->Prop}:∀{l₁:List α}{l₂:List β},Paired F l₁ l₂->(∀a b,F a b->G a b)->Paired G l₁ l₂
 |_,_,.nil,_=>.nil
 |_,_,.cons r t,f=>.cons (f _ _ r) (Paired.NY t f)
theorem il.zv (x:il P w H h a o) (k:∀b u,(b=a\/H b=some (.own a))->h.get? b=some u->h'.get? b=some u)
  (ho:∀b,H b=some (.own a)->H' b=some (.own a)) (ht:∀b xs,H b=some (.tup xs)->H' b=some (.tup xs)) (hz:∀b ob u,H b=some (.CH ob u)->H' b=some (.CH ob u):=by intro b ob u q;first|exact q|exact(cR (cV q (by assumption))).trans q):il P w H' h' a o:=by
 induction o with
 |lst xs=>obtain⟨z,dz,n,r,e⟩:=x;exact⟨z,dz,n,r,k _ _ (.inl rfl) e⟩
 |tup xs=>obtain⟨z,dz,r,ob,e,c⟩:=x;exact⟨z,dz,r,ob,k _ _ (.inl rfl) e,c⟩
 |dK kvs=>obtain⟨z,y,vs,r,ob,es,ep,e,c⟩:=x;exact⟨z,y,vs,r,ob,es,ep,k _ _ (.inl rfl) e,c⟩
 |dT kvs=>
  obtain⟨z,y,xs,r,ob,es,ep,e,c⟩:=x;exact⟨z,y,xs,Paired.NY r λp q z=>⟨z.1,ht _ _ z.2.1,z.2.2⟩,ob,es,ep,k _ _ (.inl rfl) e,c⟩
 |set S n=>obtain⟨ob,es,ep,t,e,c⟩:=x;exact⟨ob,es,ep,t,k _ _ (.inl rfl) e,c⟩
 |ins C dx fs=>
  obtain⟨d,z,ne,e,mA,⟨od,es,ep,e2,c⟩,r⟩:=x;exact⟨ho _ d,z,ne,k _ _ (.inl rfl) e,mA,⟨od,es,ep,k _ _ (.inr d) e2,c⟩,r⟩
 |own y=>obtain⟨ob,e⟩:=x;exact⟨ob,k _ _ (.inl rfl) e⟩
 |xd fs=>obtain⟨mA,⟨od,es,ep,e,c⟩,r⟩:=x;exact⟨mA,⟨od,es,ep,k _ _ (.inl rfl) e,c⟩,r⟩
 |Na lo hi=>obtain⟨t,u,v,e⟩:=x;exact⟨t,u,v,k _ _ (.inl rfl) e⟩
 |CH ob u ih=>obtain⟨e,q⟩:=x;exact⟨k _ _ (.inl rfl) e,ih q⟩
 |CO ps=>
  obtain⟨qs,e,tr,pos,qual,more,eq,r⟩:=(show yx H h a ps from x)
  exact⟨qs,k _ _ (.inl rfl) e,tr,pos,qual,more,eq,r.imp id λ⟨c,oc,vs,tt,q1,q2,q3⟩=>⟨c,oc,vs,tt,q1,hz _ _ _ q2,q3⟩⟩
 |met f y=>
  have e:h.get? a=some (W.methodObj (.ref f) (.ref y)):=x;show h'.get? a=some (W.methodObj (.ref f) (.ref y));exact k a _ (.inl rfl) e
 |ext φ=>obtain⟨p,⟨o,e⟩,st⟩:=x;exact⟨st _ _ p λo q=>k _ _ (.inl rfl) q,⟨o,k _ _ (.inl rfl) e⟩,st⟩
theorem qV.lt (x:qV P w H h) (e:H a=some o):a<h.objs.size:=(x a o e).lt
theorem qV.fresh (x:qV P w H h) (e:h.objs.size<=a):H a=none:=by
 cases q:H a with
 |none=>rfl
 |some u=>exact absurd (aw (x.lt q) e) (Nat.lt_irrefl _)
theorem qV.kept (x:qV P w H h) (k:∀b u,h.get? b=some u->h'.get? b=some u):qV P w H h':=λa o e=>
 (x a o e).zv (λb u _ q=>k b u q) (λ_ q=>q) λ_ _ q=>q
theorem qV.laid (x:qV P w H h) (k:∀b u,h.get? b=some u->h'.get? b=some u) (hp:h.objs.size<=a) (new:il P w (upd H a o) h' a o):qV P w (upd H a o) h':=λb u e=>by
 have hn:=x.fresh hp;by_cases hb:b=a
 ·subst hb;rw[da]at e;cases e;exact new
 ·rw[cR hb]at e;exact(x b u e).zv (λc v _ q=>k c v q) (λc q=>by rw[cR (cV q hn)];exact q) λc xs q=>by rw[cR (cV q hn)];exact q
end
def Rd (H:Hp) (a:cD) (u:HO):Prop:=H a=some u\/∃o,H a=some (.CH o u)
theorem Rd.ok {P:cz}{w:cA}{H:Hp}{h:Heap}{a:cD}{u:HO}(r:Rd H a u) (x:qV P w H h):il P w H h a u:=by
 rcases r with r|⟨o,r⟩
 ·exact x a u r
 ·obtain⟨_,q⟩:=x a _ r;exact q
noncomputable def QZ:Option HO->Prop
 |some (.lst _)=>True
 |some (.dK _)=>True
 |some (.dT _)=>True
 |some (.set _ _)=>True
 |some (.ins _ _ _)=>True
 |some (.ext _)=>True
 |_=>False
section
variable {P:cz}{w:cA}{H:Hp}{h h':Heap}{x e:cD}{o':HO}
theorem qV.write (ok:qV P w H h) (mu:QZ (H x)) (he:e=x\/H e=some (.own x)) (k:∀b u,b≠e->h.get? b=some u->h'.get? b=some u) (QG:∃u,h'.get? e=some u)
  (new:il P w (upd H x o') h' x o'):qV P w (upd H x o') h':=λb u q=>by
 have Q0:∀c y,H c=some (.own y)->c≠x:=λc y r z=>by subst z;rw[r]at mu;exact mu
 have Uk:∀c xs,H c=some (.tup xs)->c≠x:=λc xs r z=>by subst z;rw[r]at mu;exact mu
 by_cases hb:b=x
 ·subst hb;rw[da]at q;cases q;exact new
 ·rw[cR hb]at q;by_cases NZ:b=e
  ·have q':H b=some (.own x):=by
    rcases he with z|z
    ·exact absurd (NZ.trans z) hb
    ·rw[NZ];exact z
   rw[q]at q';cases q';obtain⟨v,hv⟩:=QG;exact⟨v,by rw[NZ];exact hv⟩
  ·refine(ok b u q).zv (λc v hc r=>k c v ?_ r) (λc r=>by rw[cR (Q0 c b r)];exact r) (λc xs r=>by rw[cR (Uk c xs r)];exact r) λc ob' u' r=>(cR (λz=>by subst z;rw[r]at mu;exact mu)).trans r
   rcases hc with rfl|hc
   ·exact NZ
   ·rintro rfl
    rcases he with z|z
    ·exact Q0 c b hc z
    ·rw[hc]at z;cases z;exact hb rfl
end
structure Un (fs ex:List cD) (H H':Hp) (h h':Heap):Prop where
 keep:∀b o,h.get? b=some o->H b=none->b∉fs->b∉ex->h'.get? b=some o
 slot:∀b o,h.get? b=some o->H b=none->b∈fs->b∉ex->∃sl,h'.get? b=some {o with slots:=sl}
 free:∀b o,h.get? b=some o->H b=none->b∉ex->H' b=none
 there:∀b o,h.get? b=some o->b∉ex->∃o',h'.get? b=some o'
 fN:∀b xs,H b=some (.tup xs)->H' b=some (.tup xs)
 zw:∀b o u,H b=some (.CH o u)->H' b=some (.CH o u)
 xI:∀b ps,H b=some (.CO ps)->∃more,H' b=some (.CO (ps++more))
section
variable {fs Y6 ex ex':List cD}{H H1 H2:Hp}{h h1 h2 h':Heap}{a x e:cD}{o:HO}
theorem Un.any (u:Un fs ex H H1 h h1) {b:cD}{ob:Obj}(q:h.get? b=some ob) (n:H b=none) (hx:b∉ex):∃sl,h1.get? b=some {ob with slots:=sl}:=by
 by_cases hb:b∈fs
 ·exact u.slot b ob q n hb hx
 ·exact⟨ob.slots,u.keep b ob q n hb hx⟩
theorem Un.kept (k:∀b u,h.get? b=some u->h'.get? b=some u):Un fs ex H H h h':=
 ⟨λb ob q _ _ _=>k b ob q,λb ob q _ _ _=>⟨ob.slots,k b ob q⟩,λ_ _ _ n _=>n,λb ob q _=>⟨ob,k b ob q⟩,λ_ _ q=>q,λ_ _ _ q=>q,λ_ ps q=>⟨#[],by rw[q];simp⟩⟩
theorem Un.refl:Un fs ex H H h h:=Un.kept λ_ _ q=>q
theorem Un.laid (k:∀b u,h.get? b=some u->h'.get? b=some u) (hp:h.objs.size<=a) (hn:H a=none):Un fs ex H (upd H a o) h h' where
 keep:=λb u q _ _ _=>k b u q
 slot:=λb u q _ _ _=>⟨u.slots,k b u q⟩
 free:=λb u q n _=>by rw[cR (aD (aw (az q) hp))];exact n
 there:=λb u q _=>⟨u,k b u q⟩
 fN:=λb xs q=>by rw[cR (cV q hn)];exact q
 zw:=λb u xs q=>by rw[cR (cV q hn)];exact q
 xI:=λb ps q=>⟨#[],by rw[cR (cV q hn),q];simp⟩
theorem Un.write (mu:QZ (H x)) (he:e=x\/H e=some (.own x)) (k:∀b u,b≠e->h.get? b=some u->h'.get? b=some u) (QG:∃u,h'.get? e=some u):Un fs ex H (upd H x o) h h':=by
 have hx:∀b,H b=none->b≠x:=λb n z=>by subst z;rw[n]at mu;exact mu
 have hb:∀b,H b=none->b≠e:=λb n z=>by
  subst z;rcases he with r|r
  ·exact hx b n r
  ·rw[n]at r;cases r
 have hm:∀b u,H b=some u->¬ QZ (some u)->b≠x:=λb u q nm z=>by subst z;rw[q]at mu;exact nm mu
 refine⟨λb u q n _ _=>k b u (hb b n) q,λb u q n _ _=>⟨u.slots,k b u (hb b n) q⟩,λb u q n _=>by rw[cR (hx b n)];exact n,λb u q _=>?_,
  λb xs q=>by rw[cR (hm b _ q λz=>z)];exact q,λb u xs q=>by rw[cR (hm b _ q λz=>z)];exact q,λb ps q=>⟨#[],by rw[cR (hm b _ q λz=>z),q];simp⟩⟩
 by_cases NZ:b=e
 ·subst NZ;exact QG
 ·exact⟨u,k b u NZ q⟩
end
noncomputable def Tt (h:Heap) (H:Hp):List cD:=(List.range h.objs.size).filter λa=>(H a).isSome
noncomputable def xJ (h:Heap) (H:Hp):Heap:=W.hideAll h (Tt h H)
theorem Gb (h:Heap) (H:Hp):(xJ h H).objs.size=h.objs.size:=W.hideAll_size _ _
theorem HR {h:Heap}{H:Hp}{b:cD}{o:Obj}(e:h.get? b=some o) (n:H b=none):(xJ h H).get? b=some o:=
 W.hideAll_get _ e λhm=>by
  have q:(H b).isSome=true:=(List.mem_filter.mp hm).2;rw[n]at q;simp at q
theorem Lj {h:Heap}{H:Hp}{b:cD}{o:Obj}(e:(xJ h H).get? b=some o):h.get? b=some o/\H b=none:=by
 have e':h.get? b=some o:=W.of_hideAll (Tt h H) e;refine⟨e',?_⟩;cases q:H b with
 |none=>rfl
 |some x=>
  have hm:b∈Tt h H:=List.mem_filter.mpr ⟨List.mem_range.mpr (az e'),by simp[q]⟩
  have z:(xJ h H).get? b=none:=W.hideAll_none (Tt h H) hm;rw[z]at e;cases e
noncomputable def jH (g h:Heap) (L:cD):ck:=(List.range h.objs.size).filterMap λa=>if a=L\/(g.get? a).isSome=true then none else(h.get? a).map λo=>(a,o)
theorem mQ {g h:Heap}{L a:cD}{o:Obj}(h1:a≠L) (h2:g.get? a=none) (h3:h.get? a=some o):(a,o)∈jH g h L:=
 List.mem_filterMap.mpr ⟨a,List.mem_range.mpr (az h3),by simp[h1,h2,h3]⟩
theorem vP {g h:Heap}{L:cD}{p:cD×Obj}(hp:p∈jH g h L):p.1≠L/\g.get? p.1=none/\h.get? p.1=some p.2:=by
 obtain⟨b,_,e⟩:=List.mem_filterMap.mp hp;split at e
 ·cases e
 ·rename_i hn;cases q:h.get? b with
  |none=>rw[q]at e;simp at e
  |some u=>
   rw[q]at e;simp only[bA,Option.some.injEq]at e;subst e;refine⟨λz=>hn (.inl z),?_,q⟩
   show g.get? b=none;cases r:g.get? b with
   |none=>rfl
   |some v=>exact(hn (.inr (by simp[r]))).elim
theorem vQ {g h:Heap}{L:cD}:News g L h (jH g h L):=λp hp=>let ⟨a,b,c⟩:=vP hp;⟨c,a,b⟩
end L2
namespace L2
open PySem PySem.Spec PyProof.Rows
structure Mod (K:W.Frag) (mg:cj) (base:Heap):Prop where
 Q1:K.In base
 glob:base.Ns mainGlobals mg
 blt:∃mb,base.Ns builtinsNs mb/\∀x:Str,x≠"__name__"->mb x=bootBuiltins x
 nolimit:base.NoLimit
structure Cx where
 prog:cz
 w:cA
 K:W.Frag
 mg:cj
 base:Heap
 A:cB
 N:List Str
 s₀:cx
 H₀:Hp
 env:Env
 outer:List Env
 stack:List Env
 ex:List cD
 fn:Str->Bool
 calm:Bool
 pn:ck
 xe:cg
noncomputable def HF (l:List Env):List cD:=l.filterMap (·.frame)
noncomputable abbrev Cx.fs (X:Cx):List cD:=HF X.outer
def QH (sc:Scope) (x:Str):Prop:=sc.names.lookup x=some .local\/sc.names.lookup x=some .cell\/sc.names.lookup x=some .free
def Loc (sc:Scope) (x:Str):Prop:=sc.names.lookup x=some .local\/sc.names.lookup x=some .cell
def Look (env:Env) (h:Heap) (m:cj) (x:Str) (u:cw):Prop:=
 (env.kindOf x=some .local/\m x=some u)\/((env.kindOf x=some .cell\/env.kindOf x=some .free)/\∃c,env.cells.lookup x=some c/\h.IsCell c (some u))
structure Cx.Ok (X:Cx):Prop where
 mod:Mod X.K X.mg X.base
 kind:X.env.scope.kind=.function
 glob:X.env.globals=mainGlobals
 blt:X.env.builtins=builtinsNs
 above:X.s₀.heap.objs.size<=X.env.locals
 inj:∀x y c,X.env.cells.lookup x=some c->X.env.cells.lookup y=some c->x=y
 has:∀x,(X.env.kindOf x=some .cell\/X.env.kindOf x=some .free)->∃c,X.env.cells.lookup x=some c
 Q2:∀x c,X.fn x=true->X.env.cells.lookup x=some c->X.s₀.heap.objs.size<=c
 hd:X.calm=true->X.A.handled=none
 frames:X.A.frames=some X.stack
 Tu:X.stack=X.outer\/(X.stack=X.env::X.outer/\X.env.frame=some X.env.locals)
 WH:∀b∈X.ex,b≠X.env.locals/\∀x c,X.env.cells.lookup x=some c->c≠b
 bs:∀b o,X.base.get? b=some o->X.s₀.heap.get? b=some o/\X.H₀ b=none
 La:X.base.objs.size<=X.s₀.heap.objs.size
 HS:∀b o,X.base.get? b=some o->b∉X.ex
 Lk:∀b∈X.ex,b∉X.fs
 vb:X.s₀.heap.FunFrames X.base X.outer
 N0:∀b∈X.fs,X.H₀ b=none
 tb:Ga X.K X.mg X.base X.H₀
structure Inv (X:Cx) (pins:ck) (σ:List (Option V)) (H:Hp) (s:cx):Prop where
 ok:X.Ok
 os:s.os=X.s₀.os
 bare:AllBare s.gens
 base:Un X.fs X.ex X.H₀ H X.s₀.heap s.heap
 loc:∃m,s.heap.Ns X.env.locals m/\∀(i:Nat) (x:Str) (v:V),X.N[i]? =some x->σ[i]? =some (some v)->QH X.env.scope x->∃u,RelV v u/\Look X.env s.heap m x u
 cell:∀x c,X.env.cells.lookup x=some c->∃v,s.heap.IsCell c v
 free:H X.env.locals=none
 pk:∀x c,X.env.cells.lookup x=some c->H c=none
 pin:∀p∈X.pn++pins,s.heap.get? p.1=some p.2/\H p.1=none/\p.1≠X.env.locals/\p.1∉X.fs/\∀v,p.2.data≠.cell v
 gb:qV X.prog X.w H s.heap
 len:σ.length=X.N.length
section
variable {X:Cx}{pins:ck}{σ:List (Option V)}{H H':Hp}{s:cx}{h':Heap}
theorem Cx.Ok.Ul (ok:X.Ok) {b:cD}{o:Obj}(e:X.base.get? b=some o):b∉X.fs:=λhb=>by
 have:=(ok.vb.mem hb).1;rw[e]at this;cases this
theorem Inv.bs (I:Inv X pins σ H s):∀b o,X.base.get? b=some o->s.heap.get? b=some o/\H b=none:=λb o e=>
 ⟨I.base.keep b o (I.ok.bs b o e).1 (I.ok.bs b o e).2 (I.ok.Ul e) (I.ok.HS b o e),I.base.free b o (I.ok.bs b o e).1 (I.ok.bs b o e).2 (I.ok.HS b o e)⟩
theorem Inv.bk (I:Inv X pins σ H s):∀b o,X.base.get? b=some o->s.heap.get? b=some o:=λb o e=>(I.bs b o e).1
theorem Inv.mod (I:Inv X pins σ H s):Mod X.K X.mg X.base:=I.ok.mod
theorem Inv.Ge (I:Inv X pins σ H s):X.K.In s.heap:=I.ok.mod.Q1.keeps I.bk
theorem Inv.nolimit (I:Inv X pins σ H s):s.heap.NoLimit:=I.ok.mod.nolimit.keeps I.bk
theorem Inv.fr (I:Inv X pins σ H s):∃m,Fr X.base X.env.locals s.heap m:=
 let ⟨m,hn,_⟩:=I.loc
 ⟨m,hn,I.bk,aB I.ok.La I.ok.above⟩
theorem Inv.lt (I:Inv X pins σ H s):X.env.locals<s.heap.objs.size:=let ⟨_,hn,_⟩:=I.loc;hn.lt
theorem Inv.sz (I:Inv X pins σ H s):X.s₀.heap.objs.size<=s.heap.objs.size:=aB I.ok.above (bg I.lt)
theorem Inv.Um (I:Inv X pins σ H s) {a:cD}(h:s.heap.objs.size<=a):a∉X.fs:=λhb=>by
 obtain⟨_,o,ho,_⟩:=I.ok.vb.mem hb;exact absurd (aw (az ho) (aB I.sz h)) (Nat.lt_irrefl _)
theorem Inv.N1 (I:Inv X pins σ H s):∀x c,X.env.cells.lookup x=some c->c≠X.env.locals:=λx c e z=>by
 obtain⟨v,o,ho,hd⟩:=I.cell x c e;obtain⟨m,⟨o',es,ep,rM,Nb,_⟩,_⟩:=I.loc;rw[z,rM]at ho;cases ho;rw[Nb]at hd;cases hd
theorem Inv.vb (I:Inv X pins σ H s):s.heap.FunFrames X.base X.outer:=by
 have all:∀(l:List Env),(∀b∈HF l,b∈X.fs)->X.s₀.heap.FunFrames X.base l->s.heap.FunFrames X.base l:=by
  intro l;induction l with
  |nil=>intro _ _;trivial
  |cons env r ih=>
   intro hs hl;obtain⟨hk,⟨L,o,hf,hn,ho,hd⟩,hr⟩:=hl;have hL:L∈X.fs:=hs L (by unfold HF;rw[List.filterMap_cons,hf];exact af)
   obtain⟨sl,e⟩:=I.base.slot L o ho (I.ok.N0 L hL) hL λz=>I.ok.Lk L z hL
   exact⟨hk,⟨L,_,hf,hn,e,hd⟩,ih (λb hb=>hs b (by unfold HF;rw[List.filterMap_cons,hf];exact ai _ hb)) hr⟩
 exact all X.outer (λ_ hb=>hb) I.ok.vb
theorem Inv.stack (I:Inv X pins σ H s):s.heap.FunFrames X.base X.stack:=by
 rcases I.ok.Tu with e|⟨e,hf⟩
 ·rw[e];exact I.vb
 ·rw[e];obtain⟨m,hn,_⟩:=I.loc;refine .cons (by rw[I.ok.kind];decide) hf hn ?_ I.vb
  exact Heap.get?_none_of_le (aB I.ok.La I.ok.above)
theorem Inv.zx (I:Inv X pins σ H s):∀b∈HF X.stack,b∈X.env.locals::X.fs:=λb hb=>by
 rcases I.ok.Tu with e|⟨e,hf⟩
 ·rw[e]at hb;exact ai _ hb
 ·rw[e]at hb;unfold HF at hb;rw[List.filterMap_cons,hf]at hb;exact hb
theorem Inv.EB (I:Inv X pins σ H s):∀b∈HF X.stack,H b=none:=λb hb=>by
 rcases List.mem_cons.mp (I.zx b hb)with e|hb
 ·rw[e];exact I.free
 ·obtain⟨_,o,ho,_⟩:=I.ok.vb.mem hb;exact I.base.free b o ho (I.ok.N0 b hb) λz=>I.ok.Lk b z hb
theorem Inv.step {g':Array GenState}{t':Nat}{d':Drawn}{ch:List cD}(I:Inv X pins σ H s)
  (Lb:∀b∈ch,(b∈X.ex\/X.s₀.heap.objs.size<=b)/\b≠X.env.locals/\(∀x c,X.env.cells.lookup x=some c->c≠b)/\∀p∈X.pn++pins,p.1≠b)
  (keep:∀b o,b≠X.env.locals->b∉X.fs->b∉ch->s.heap.get? b=some o->H b=none->h'.get? b=some o)
  (slot:∀b o,b≠X.env.locals->b∈X.fs->b∉ch->s.heap.get? b=some o->H b=none->∃sl,h'.get? b=some {o with slots:=sl}) (free:∀b o,b∉ch->s.heap.get? b=some o->H b=none->H' b=none)
  (there:∀b o,b∉ch->s.heap.get? b=some o->∃o',h'.get? b=some o')
  (fN:∀b xs,H b=some (.tup xs)->H' b=some (.tup xs)) (zw:∀b o u,H b=some (.CH o u)->H' b=some (.CH o u)) (xI:∀b ps,H b=some (.CO ps)->∃more,H' b=some (.CO (ps++more)))
  (ns:∀m,s.heap.Ns X.env.locals m->h'.Ns X.env.locals m) (gb:qV X.prog X.w H' h') (hg:AllBare g'):
  Inv X pins σ H' {s with heap:=h',gens:=g',drawn:=d',toks:=t'}:=by
 have WI:∀b o,X.s₀.heap.get? b=some o->b≠X.env.locals:=λb o e=>aD (aw (az e) I.ok.above)
 have Tv:∀b o,X.s₀.heap.get? b=some o->b∉X.ex->b∉ch:=λb o e hx hb=>by
  rcases(Lb b hb).1 with z|z
  ·exact hx z
  ·exact absurd (aw (az e) z) (Nat.lt_irrefl _)
 have cellK:∀x c,X.env.cells.lookup x=some c->∀v,s.heap.IsCell c v->h'.IsCell c v:=λx c e v ⟨o,ho,hd⟩=>by
  have Q3:c∉ch:=λz=>(Lb c z).2.2.1 x c e rfl
  by_cases hc:c∈X.fs
  ·obtain⟨sl,q⟩:=slot c o (I.N1 x c e) hc Q3 ho (I.pk x c e);exact⟨_,q,hd⟩
  ·exact⟨o,keep c o (I.N1 x c e) hc Q3 ho (I.pk x c e),hd⟩
 refine⟨I.ok,I.os,hg,⟨λb o e n hb hx=>?_,λb o e n hb hx=>?_,λb o e n hx=>?_,λb o e hx=>?_,λb xs e=>fN b xs (I.base.fN b xs e),λb o xs e=>zw b o xs (I.base.zw b o xs e),λb ps e=>?_⟩,?_,λx c e=>?_,?_,λx c e=>?_,λp hp=>?_,gb,I.len⟩
 ·exact keep b o (WI b o e) hb (Tv b o e hx) (I.base.keep b o e n hb hx) (I.base.free b o e n hx)
 ·obtain⟨sl,e1⟩:=I.base.slot b o e n hb hx;obtain⟨Y7,e2⟩:=slot b _ (WI b o e) hb (Tv b o e hx) e1 (I.base.free b o e n hx);exact⟨Y7,e2⟩
 ·obtain⟨o',e1⟩:=I.base.there b o e hx;exact free b o' (Tv b o e hx) e1 (I.base.free b o e n hx)
 ·obtain⟨o',e1⟩:=I.base.there b o e hx;exact there b o' (Tv b o e hx) e1
 ·obtain⟨m1,e1⟩:=I.base.xI b ps e;obtain⟨m2,e2⟩:=xI b _ e1;exact⟨m1++m2,by rw[e2,Array.append_assoc]⟩
 ·obtain⟨m,hn,hl⟩:=I.loc;refine⟨m,ns m hn,λi x v e1 e2 e3=>?_⟩
  obtain⟨u,r,l⟩:=hl i x v e1 e2 e3;refine⟨u,r,?_⟩;rcases l with l|⟨k,c,e,z⟩
  ·exact .inl l
  ·exact .inr ⟨k,c,e,cellK x c e _ z⟩
 ·obtain⟨v,z⟩:=I.cell x c e;exact⟨v,cellK x c e v z⟩
 ·obtain⟨m,⟨o,_,_,ho,_⟩,_⟩:=I.loc;exact free _ o (λz=>(Lb _ z).2.1 rfl) ho I.free
 ·obtain⟨v,o,ho,hd⟩:=I.cell x c e;exact free c o (λz=>(Lb c z).2.2.1 x c e rfl) ho (I.pk x c e)
 ·obtain⟨e,n,ne,nf,d⟩:=I.pin p hp;have Q3:p.1∉ch:=λz=>(Lb p.1 z).2.2.2 p hp rfl
  exact⟨keep p.1 p.2 ne nf Q3 e n,free p.1 p.2 Q3 e n,ne,nf,d⟩
theorem Inv.un {t':Nat}(I:Inv X pins σ H s) (u:Un X.fs [] H H' s.heap h') (gb:qV X.prog X.w H' h'):Inv X pins σ H' {s with heap:=h',toks:=t'}:=by
 obtain⟨m,⟨o,es,ep,ho,r⟩,_⟩:=id I.loc;obtain⟨sl,hL⟩:=u.any ho I.free (by simp)
 exact I.step (g':=s.gens) (d':=s.drawn) (ch:=[]) (λ_ z=>nomatch z) (λb o _ hb _ e n=>u.keep b o e n hb (by simp)) (λb o _ hb _ e n=>u.slot b o e n hb (by simp)) (λb o _ e n=>u.free b o e n (by simp)) (λb o _ e=>u.there b o e (by simp)) u.fN u.zw u.xI (λm' hm=>by
  obtain⟨o',HU,N4,rM,r'⟩:=hm;rw[ho]at rM;cases rM;exact⟨_,HU,N4,hL,r'⟩) gb I.bare
theorem Inv.call {g':Array GenState}{t':Nat}{d':Drawn}{ch:List cD}(I:Inv X pins σ H s) (u:Un (HF X.stack) ch H H' s.heap h') (gb:qV X.prog X.w H' h') (hg:AllBare g')
  (Lb:∀b∈ch,(b∈X.ex\/X.s₀.heap.objs.size<=b)/\b≠X.env.locals/\(∀x c,X.env.cells.lookup x=some c->c≠b)/\∀p∈X.pn++pins,p.1≠b):
  Inv X pins σ H' {s with heap:=h',gens:=g',drawn:=d',toks:=t'}:=by
 obtain⟨m,⟨o,es,ep,ho,r⟩,_⟩:=id I.loc;obtain⟨sl,hL⟩:=u.any ho I.free λz=>(Lb _ z).2.1 rfl
 exact I.step (ch:=ch) Lb (λb o hL hb hc e n=>u.keep b o e n (λz=>(List.mem_cons.mp (I.zx b z)).elim hL hb) hc) (λb o _ _ hc e n=>u.any e n hc) (λb o hc e n=>u.free b o e n hc) (λb o hc e=>u.there b o e hc) u.fN u.zw u.xI (λm' hm=>by
  obtain⟨o',HU,N4,rM,r'⟩:=hm;rw[ho]at rM;cases rM;exact⟨_,HU,N4,hL,r'⟩) gb hg
theorem Inv.turned {t':Nat}{it:cD}(I:Inv X pins σ H s) (k:∀b o,b≠it->s.heap.get? b=some o->h'.get? b=some o) (hn:H it=none) (hL:it≠X.env.locals)
  (h1:it∈X.ex\/X.s₀.heap.objs.size<=it) (h2:∀x c,X.env.cells.lookup x=some c->c≠it) (h3:∀p∈X.pn++pins,p.1≠it):Inv X pins σ H {s with heap:=h',toks:=t'}:=by
 have WJ:∀b u,H b=some u->b≠it:=λb u e z=>by rw[z,hn]at e;cases e
 refine I.step (g':=s.gens) (d':=s.drawn) (ch:=[it]) (λb hb=>?_) (λb o _ _ hc e _=>k b o (λz=>hc (by simp[z])) e) (λb o _ _ hc e _=>⟨o.slots,k b o (λz=>hc (by simp[z])) e⟩) (λ_ _ _ _ n=>n)
  (λb o hc e=>⟨o,k b o (λz=>hc (by simp[z])) e⟩) (λ_ _ e=>e) (λ_ _ _ e=>e) (λb ps e=>⟨#[],by rw[e];simp⟩) (λm hm=>?_) (λb u e=>?_) I.bare
 ·have e:b=it:=by simpa using hb
  subst e;exact⟨h1,hL,h2,h3⟩
 ·obtain⟨o,es,ep,ho,r⟩:=hm;exact⟨o,es,ep,k _ o (Ne.symm hL) ho,r⟩
 ·refine(I.gb b u e).zv (λc v hc q=>k c v ?_ q) (λ_ q=>q) λ_ _ q=>q
  rcases hc with z|z
  ·rw[z];exact WJ b u e
  ·exact WJ c _ z
theorem Inv.tok (I:Inv X pins σ H s) (t:Nat):Inv X pins σ H {s with toks:=t}:=I.un (h':=s.heap) (t':=t) Un.refl I.gb
theorem Inv.kept {t':Nat}(I:Inv X pins σ H s) (k:∀b u,s.heap.get? b=some u->h'.get? b=some u):Inv X pins σ H {s with heap:=h',toks:=t'}:=I.un (Un.kept k) (I.gb.kept k)
theorem Inv.laid {a:cD}{o:HO}{t':Nat}(I:Inv X pins σ H s) (k:∀b u,s.heap.get? b=some u->h'.get? b=some u) (hp:s.heap.objs.size<=a) (new:il X.prog X.w (upd H a o) h' a o):
  Inv X pins σ (upd H a o) {s with heap:=h',toks:=t'}:=I.un (Un.laid k hp (I.gb.fresh hp)) (I.gb.laid k hp new)
theorem Inv.write {x e:cD}{o:HO}{t':Nat}(I:Inv X pins σ H s) (mu:QZ (H x)) (he:e=x\/H e=some (.own x)) (k:∀b u,b≠e->s.heap.get? b=some u->h'.get? b=some u) (QG:∃u,h'.get? e=some u)
  (new:il X.prog X.w (upd H x o) h' x o):Inv X pins σ (upd H x o) {s with heap:=h',toks:=t'}:=I.un (Un.write mu he k QG) (I.gb.write mu he k QG new)
theorem Inv.weak {σ':List (Option V)}(I:Inv X pins σ H s) (hl:σ'.length=σ.length) (w:∀(i:Nat) v,σ'[i]? =some (some v)->σ[i]? =some (some v)):Inv X pins σ' H s:=
 ⟨I.ok,I.os,I.bare,I.base,let ⟨m,hn,iE⟩:=I.loc;⟨m,hn,λi x v e1 e2 e3=>iE i x v e1 (w i v e2) e3⟩,I.cell,I.free,I.pk,I.pin,I.gb,hl.trans I.len⟩
theorem Inv.EC {Nc:ck}(I:Inv X pins σ H s) (h:∀p∈Nc,s.heap.get? p.1=some p.2/\H p.1=none/\p.1≠X.env.locals/\p.1∉X.fs/\∀v,p.2.data≠.cell v):Inv X Nc σ H s:=
 ⟨I.ok,I.os,I.bare,I.base,I.loc,I.cell,I.free,I.pk,λp hp=>(List.mem_append.mp hp).elim (λz=>I.pin p (bC _ z)) (h p),I.gb,I.len⟩
theorem vR {N:List Str}(hN:N.Nodup) {i j:Nat}{x:Str}(a:N[i]? =some x) (b:N[j]? =some x):i=j:=by
 obtain⟨h1,e1⟩:=List.getElem?_eq_some_iff.mp a;obtain⟨h2,e2⟩:=List.getElem?_eq_some_iff.mp b;exact(List.getElem_inj hN).mp (e1.trans e2.symm)
theorem yy {M:Model}{A:cB}{E:cg}{i:Nat}{x:Str}{v:V}{u:cw}{Q:Unit->cx->Prop}(I:Inv X pins σ H s) (hN:X.N.Nodup) (hi:X.N[i]? =some x) (hx:Loc X.env.scope x) (r:RelV v u)
  (h:∀s',Inv X pins (σ.set i (some v)) H s'->(∃a,Heap.SameBut a s.heap s'.heap/\(a=X.env.locals\/X.env.cells.lookup x=some a))->Q () s') (hf:X.fn x=true\/X.env.scope.names.lookup x=some .local:=by first|exact .inl rfl|exact .inr rfl|assumption):wpAny M A (storeName X.env x u) Q E s:=by
 obtain⟨m,hn,hl⟩:=id I.loc;have Uo:(X.env.scope.kind==.class||(X.env.scope.kind==.module&&X.env.locals !=X.env.globals))=false:=by rw[I.ok.kind];rfl
 have hiσ:i<σ.length:=by rw[I.len];exact(List.getElem?_eq_some_iff.mp hi).1
 have N1:=I.N1;have tracked:∀{a:cD}{h':Heap},(∃o,s.heap.get? a=some o/\H a=none)->Heap.SameBut a s.heap h'->qV X.prog X.w H h':=λ{a h'} ha hs b ob e=>by
  obtain⟨_,_,uM⟩:=ha;refine(I.gb b ob e).zv (λc w' hc q=>(hs.2 c ?_).trans q) (λ_ q=>q) λ_ _ q=>q
  rintro rfl
  rcases hc with rfl|hc
  ·rw[uM]at e;cases e
  ·rw[uM]at hc;cases hc
 rcases hx with hk|hk
 ·refine wpAny_storeName_local hk hn (λh' CI hs=>?_) Uo
  obtain⟨oL,_,_,ED,_⟩:=id hn;refine h _ ⟨I.ok,I.os,I.bare,⟨λb o e n hb hx=>?_,λb o e n hb hx=>?_,I.base.free,λb o e hx=>?_,I.base.fN,I.base.zw,I.base.xI⟩,⟨_,CI,λj y v' e1 e2 e3=>?_⟩,λy c e=>?_,I.free,I.pk,λp hp=>?_,tracked ⟨oL,ED,I.free⟩ hs,by simpa using I.len⟩ ⟨_,hs,.inl rfl⟩
  ·exact(hs.2 b (aD (aw (az e) I.ok.above))).trans (I.base.keep b o e n hb hx)
  ·obtain⟨sl,e1⟩:=I.base.slot b o e n hb hx;exact⟨sl,(hs.2 b (aD (aw (az e) I.ok.above))).trans e1⟩
  ·obtain⟨o',e1⟩:=I.base.there b o e hx;exact⟨o',(hs.2 b (aD (aw (az e) I.ok.above))).trans e1⟩
  ·by_cases hj:j=i
   ·subst hj;rw[hi]at e1;cases e1;rw[bc hiσ]at e2;cases e2;exact⟨u,r,.inl ⟨hk,by simp⟩⟩
   ·rw[aF (Ne.symm hj)]at e2;obtain⟨u',r',q⟩:=hl j y v' e1 e2 e3;refine⟨u',r',?_⟩;rcases q with⟨k,e⟩|⟨k,c,e,z⟩
    ·refine .inl ⟨k,?_⟩;have:y≠x:=λe=>hj (vR hN e1 (e▸hi))
     simp[this,e]
    ·exact .inr ⟨k,c,e,z.sameBut hs (N1 y c e)⟩
  ·obtain⟨w',z⟩:=I.cell y c e;exact⟨w',z.sameBut hs (N1 y c e)⟩
  ·obtain⟨e,n,ne,nf,d⟩:=I.pin p hp;exact⟨(hs.2 p.1 ne).trans e,n,ne,nf,d⟩
 ·have Nd:X.fn x=true:=by
   rcases hf with z|z
   ·exact z
   ·rw[z]at hk;cases hk
  obtain⟨c,hc⟩:=I.ok.has x (.inl hk);obtain⟨w',z⟩:=I.cell x c hc;refine wpAny_storeName_cell I.ok.kind hk hc z (λh' se hs=>?_)
  obtain⟨oc,QI,Up⟩:=id z;refine h {s with heap:=h'} ⟨I.ok,I.os,I.bare,⟨λb o e n hb hx=>?_,λb o e n hb hx=>?_,I.base.free,λb o e hx=>?_,I.base.fN,I.base.zw,I.base.xI⟩,⟨m,hn.sameBut hs (Ne.symm (N1 x c hc)),λj y v' e1 e2 e3=>?_⟩,λy c' e=>?_,I.free,I.pk,λp hp=>?_,tracked ⟨oc,QI,I.pk x c hc⟩ hs,by simpa using I.len⟩ ⟨c,hs,.inr hc⟩
  ·exact(hs.2 b (aD (aw (az e) (I.ok.Q2 x c Nd hc)))).trans (I.base.keep b o e n hb hx)
  ·obtain⟨sl,e1⟩:=I.base.slot b o e n hb hx;exact⟨sl,(hs.2 b (aD (aw (az e) (I.ok.Q2 x c Nd hc)))).trans e1⟩
  ·obtain⟨o',e1⟩:=I.base.there b o e hx;exact⟨o',(hs.2 b (aD (aw (az e) (I.ok.Q2 x c Nd hc)))).trans e1⟩
  ·by_cases hj:j=i
   ·subst hj;rw[hi]at e1;cases e1;rw[bc hiσ]at e2;cases e2;exact⟨u,r,.inr ⟨.inl hk,c,hc,se⟩⟩
   ·rw[aF (Ne.symm hj)]at e2;obtain⟨u',r',q⟩:=hl j y v' e1 e2 e3;refine⟨u',r',?_⟩;rcases q with q|⟨k,c',e,z'⟩
    ·exact .inl q
    ·refine .inr ⟨k,c',e,z'.sameBut hs ?_⟩
     rintro rfl
     exact hj (vR hN e1 (I.ok.inj _ _ _ e hc▸hi))
  ·by_cases QJ:c'=c
   ·subst QJ;exact⟨_,se⟩
   ·obtain⟨w2,z2⟩:=I.cell y c' e;exact⟨w2,z2.sameBut hs QJ⟩
  ·obtain⟨e,n,ne,nf,d⟩:=I.pin p hp;refine⟨(hs.2 p.1 ?_).trans e,n,ne,nf,d⟩;intro q;rw[q,QI]at e;have q':oc=p.2:=aS e;exact d w' (by rw[<-q'];exact Up)
theorem vS {M:Model}{A:cB}{E:cg}{i:Nat}{x:Str}{v:V}{u:cw}{Q:Unit->cx->Prop}(I:Inv X pins σ H s) (hN:X.N.Nodup) (hi:X.N[i]? =some x) (hx:Loc X.env.scope x) (r:RelV v u)
  (h:∀s',Inv X pins (σ.set i (some v)) H s'->Q () s') (hf:X.fn x=true\/X.env.scope.names.lookup x=some .local:=by first|exact .inl rfl|exact .inr rfl|assumption):wpAny M A (storeName X.env x u) Q E s:=
 yy I hN hi hx r (λs' I' _=>h s' I') hf
theorem Inv.Q4 {s':cx}{ch:List cD}(I:Inv X pins σ H s) (ho:s'.os=s.os) (u:Un (HF X.stack) ch H H' s.heap s'.heap) (gb:qV X.prog X.w H' s'.heap) (hg:AllBare s'.gens)
  (Lb:∀b∈ch,(b∈X.ex\/X.s₀.heap.objs.size<=b)/\b≠X.env.locals/\(∀x c,X.env.cells.lookup x=some c->c≠b)/\∀p∈X.pn++pins,p.1≠b):Inv X pins σ H' s':=by
 obtain⟨h',g',d',t',o'⟩:=s';have e:o'=s.os:=ho;subst e;exact I.call (g':=g') (t':=t') (d':=d') u gb hg Lb
end
noncomputable abbrev XK:=cw->cp->Hp->Prop
noncomputable abbrev St:=List (Option V)
noncomputable abbrev VK:=V->Hp->Prop
noncomputable abbrev TE:=St->Hp->VK->Prop
noncomputable abbrev TT:=St->Hp->(Bool->Hp->Prop)->Prop
noncomputable abbrev TA:=St->Hp->(List V->Hp->Prop)->Prop
structure Ends where
 nx:St->Hp->Prop
 rt:VK
 bk:St->Hp->Prop:=λ_ _=>False
 ct:St->Hp->Prop:=λ_ _=>False
noncomputable abbrev TS:=Ends->St->Hp->Prop
def EP (X:Cx) (pins:ck) (σ:St) (Q:VK) (u:cw) (s':cx):Prop:=∃v H',Inv X pins σ H' s'/\RelV v u/\Q v H'
def TP (X:Cx) (pins:ck) (σ:St) (Q:Bool->Hp->Prop) (b:Bool) (s':cx):Prop:=∃H',Inv X pins σ H' s'/\Q b H'
def AP (X:Cx) (pins:ck) (σ:St) (Q:List V->Hp->Prop) (us:cv) (s':cx):Prop:=∃vs H',Inv X pins σ H' s'/\Vals vs us/\Q vs H'
def SP (X:Cx) (pins:ck) (D:Ends) (f:Flow) (s':cx):Prop:=
 match f with
 |.next=>∃σ' H',Inv X pins σ' H' s'/\D.nx σ' H'
 |.brk=>∃σ' H',Inv X pins σ' H' s'/\D.bk σ' H'
 |.cont=>∃σ' H',Inv X pins σ' H' s'/\D.ct σ' H'
 |.ret u=>∃v σ' H',Inv X pins σ' H' s'/\RelV v u/\D.rt v H'
def PE (X:Cx) (e:cE) (t:TE):Prop:=
 ∀(pins:ck) (s:cx) (σ:St) (H:Hp) (Q:VK),Inv X pins σ H s->t σ H Q->wpAny (model X.prog X.w) X.A (eval e X.env) (EP X pins σ Q) X.xe s
def PT (X:Cx) (e:cE) (t:TT):Prop:=
 ∀(pins:ck) (s:cx) (σ:St) (H:Hp) (Q:Bool->Hp->Prop),Inv X pins σ H s->t σ H Q->wpAny (model X.prog X.w) X.A (isTrue e X.env (eval e X.env)) (TP X pins σ Q) X.xe s
def PW (X:Cx) (e:cE) (t:TT):Prop:=
 ∀(whole:Sem cw) (pins:ck) (s:cx) (σ:St) (H:Hp) (Q:Bool->Hp->Prop),Inv X pins σ H s->t σ H Q->wpAny (model X.prog X.w) X.A (isTrue e X.env whole) (TP X pins σ Q) X.xe s
theorem PW.pt {X:Cx}{e:cE}{t:TT}(h:PW X e t):PT X e t:=h _
def PA (X:Cx) (es:List cE) (t:TA):Prop:=
 ∀(pos:Pos) (pins:ck) (s:cx) (σ:St) (H:Hp) (Q:List V->Hp->Prop),Inv X pins σ H s->t σ H Q->wpAny (model X.prog X.w) X.A (spliced (backTo pos (starEach es X.env))) (AP X pins σ Q) X.xe s
def PS (X:Cx) (st:cF) (t:TS):Prop:=
 ∀(pins:ck) (s:cx) (σ:St) (H:Hp) (D:Ends),Inv X pins σ H s->t D σ H->wpAny (model X.prog X.w) X.A (exec st X.env) (SP X pins D) X.xe s
def xK (X:Cx) (st:List cF) (t:TS):Prop:=
 ∀(pins:ck) (s:cx) (σ:St) (H:Hp) (D:Ends),Inv X pins σ H s->t D σ H->wpAny (model X.prog X.w) X.A (execs st X.env) (SP X pins D) X.xe s
theorem gR {α:Type}{t:Sem α}{Q Q':α->cx->Prop}{M:Model}{A:cB}{E:cg}{s:cx}(h:wpAny M A t Q E s) (hQ:∀a s,Q a s->Q' a s):wpAny M A t Q' E s:=bP h hQ λ_ _ x=>x
end L2
namespace L2
open PySem PySem.Spec PyProof.Rows
section
variable {X:Cx}
noncomputable def jo (i:Nat):TE:=λσ H Q=>∃v,σ[i]? =some (some v)/\Q v H
noncomputable def tC (v:V):TE:=λ_ H Q=>Q v H
theorem CP {i:Nat}{x:Str}{pos:Pos}(hN:X.N[i]? =some x) (hv:QH X.env.scope x) (hd:(x==("__debug__":Str))=false:=by decide) (vd:(x==("__classdict__":Str))=false:=by decide):PE X (.Name x pos) (jo i):=by
 intro pins s σ H Q I h;obtain⟨v,e,h⟩:=h;obtain⟨m,hn,hl⟩:=I.loc;obtain⟨u,r,l⟩:=hl i x v hN e hv;have fin:EP X pins σ Q u s:=⟨v,H,I,r,h⟩;rcases l with⟨hk,hm⟩|⟨hk,c,hc,si⟩
 ·exact wpAny_Name (wpAny_loadName_local I.ok.kind hk hn hm fin) hd
 ·rcases hk with hk|hk
  ·exact wpAny_Name (wpAny_loadName_cell I.ok.kind hk hc si fin) hd
  ·exact wpAny_Name (wpAny_loadName_free I.ok.kind hk hc si fin vd) hd
theorem CQ {i j pos}:PE X (.Constant (.int i) j pos) (tC (.int i)):=λ_ _ _ H _ I h=>wpAny_Constant_int ⟨.int i,H,I.tok _,⟨_,rfl⟩,h⟩
theorem Q5 {b j pos}:PE X (.Constant (.bool b) j pos) (tC (.bl b)):=λ_ _ _ H _ I h=>Constant_bool ⟨.bl b,H,I,rfl,h⟩
theorem N5 {j pos}:PE X (.Constant .none j pos) (tC .eU):=λ_ _ _ H _ I h=>Constant_none ⟨.eU,H,I,rfl,h⟩
def Gl (X:Cx) (x:Str):Prop:=X.env.kindOf x=some .globalImplicit
theorem zy {E:cg}{pins:ck}{s:cx}{σ:St}{H:Hp}{x:Str}{u:cw}{pos:Pos}{Q:cg}(I:Inv X pins σ H s) (hg:Gl X x) (hm:X.mg x=some u) (h:Q u s)
  (hd:(x==("__debug__":Str))=false:=by decide):wpAny (model X.prog X.w) X.A (eval (.Name x pos) X.env) Q E s:=
 Calls.Name_function_global I.ok.kind hg (Calls.loadGlobal_global (by rw[I.ok.glob];exact I.mod.glob.keeps I.bk) hm h) hd
theorem oh {E:cg}{pins:ck}{s:cx}{σ:St}{H:Hp}{x:Str}{u:cw}{pos:Pos}{Q:cg}(I:Inv X pins σ H s) (hg:Gl X x) (hm:X.mg x=none) (hv:bootBuiltins x=some u) (h:Q u s)
  (hn:x≠"__name__":=by decide) (hd:(x==("__debug__":Str))=false:=by decide):wpAny (model X.prog X.w) X.A (eval (.Name x pos) X.env) Q E s:=by
 obtain⟨mb,h1,h2⟩:=I.mod.blt;exact Calls.Name_function_global I.ok.kind hg (Calls.loadGlobal_builtin (by rw[I.ok.glob];exact I.mod.glob.keeps I.bk) hm (by rw[I.ok.blt];exact h1.keeps I.bk) ((h2 x hn).trans hv) h) hd
theorem Ll {x:Str}{v:V}{u:cw}{pos:Pos}(hg:Gl X x) (hm:X.mg x=some u) (r:RelV v u) (hd:(x==("__debug__":Str))=false:=by decide):PE X (.Name x pos) (tC v):=
 λ_ _ _ H _ I h=>zy I hg hm ⟨v,H,I,r,h⟩ hd
variable {a b:cE}{ta tb:TE}{pos:Pos}
def PC (X:Cx) (op:CmpOp) (a b:cE) (t:TE):Prop:=
 ∀(pins:ck) (s:cx) (σ:St) (H:Hp) (Q:VK),Inv X pins σ H s->t σ H Q->
  wpAny (model X.prog X.w) X.A (eval a X.env) (λv s₁=>wpAny (model X.prog X.w) X.A (eval b X.env) (λu s₂=>wpAny (model X.prog X.w) X.A (compareOp op v u) (EP X pins σ Q) X.xe s₂) X.xe s₁) X.xe s
noncomputable def tB (t:TE):TT:=λσ H Q=>t σ H λx H1=>∃c,x=.bl c/\Q c H1
theorem N6 {e:cE}{t:TE}(h:PE X e t) (he:∀whole,isTrue e X.env whole=(do let v <-whole;standAt e.pos;holding [v] (truthy v)):=by intro _;rfl):PT X e (tB t):=by
 intro pins s σ H Q I hw;refine isTrue_plain (gR (h pins s σ H _ I hw) λv s1 ⟨x,H1,I1,r1,q1⟩=>?_) (he _)
 obtain⟨d,rfl,q⟩:=q1;cases r1;exact bQ ⟨H1,I1,q⟩
variable {tA Tw:TT}{rest:List cE}
noncomputable def Q6 (t u:TT):TT:=λσ H Q=>t σ H λc H1=>if c=true then u σ H1 Q else Q false H1
noncomputable def WK (t u:TT):TT:=λσ H Q=>t σ H λc H1=>if c=true then Q true H1 else u σ H1 Q
noncomputable def Uq (t:TT):TT:=λσ H Q=>t σ H λc H1=>Q (!c) H1
theorem Lm (ha:PT X a tA):PW X (.BoolOp .And [a] pos) tA:=by
 intro wh pins s σ H Q I h;refine isTrue_and (gR (ha pins s σ H Q I h) λc s1 e=>?_)
 cases c with
 |true=>exact isTrue_and_nil e
 |false=>exact e
theorem N7 (ha:PT X a tA):PW X (.BoolOp .Or [a] pos) tA:=by
 intro wh pins s σ H Q I h;refine isTrue_or (gR (ha pins s σ H Q I h) λc s1 e=>?_)
 cases c with
 |false=>exact isTrue_or_nil e
 |true=>exact e
theorem N8 (ha:PT X a tA) (hb:PW X (.BoolOp .And (b::rest) pos) Tw):PW X (.BoolOp .And (a::b::rest) pos) (Q6 tA Tw):=by
 intro wh pins s σ H Q I h;refine isTrue_and (gR (ha pins s σ H _ I h) λc s1 ⟨H1,I1,q1⟩=>?_)
 cases c with
 |true=>exact hb wh pins s1 σ H1 Q I1 q1
 |false=>exact⟨H1,I1,q1⟩
theorem Q7 (ha:PT X a tA) (hb:PW X (.BoolOp .Or (b::rest) pos) Tw):PW X (.BoolOp .Or (a::b::rest) pos) (WK tA Tw):=by
 intro wh pins s σ H Q I h;refine isTrue_or (gR (ha pins s σ H _ I h) λc s1 ⟨H1,I1,q1⟩=>?_)
 cases c with
 |true=>exact⟨H1,I1,q1⟩
 |false=>exact hb wh pins s1 σ H1 Q I1 q1
theorem N9 (ha:PT X a tA):PT X (.UnaryOp .Not a pos) (Uq tA):=by
 intro pins s σ H Q I h;exact isTrue_not (ha pins s σ H (λc H1=>Q (!c) H1) I h)
noncomputable def Q8 (ta tb:TE):TE:=λσ H Q=>ta σ H λx H1=>∃c,x=.bl c/\if c=true then tb σ H1 Q else Q (.bl false) H1
noncomputable def Ur (ta tb:TE):TE:=λσ H Q=>ta σ H λx H1=>∃c,x=.bl c/\if c=true then Q (.bl true) H1 else tb σ H1 Q
theorem Oa {op} {t:TE}(h:PE X a t):PE X (.BoolOp op [a] pos) t:=λpins s σ H Q I hw=>BoolOp_one (h pins s σ H Q I hw)
theorem Ob (ha:PE X a ta) (hb:PE X (.BoolOp .And (b::rest) pos) tb):PE X (.BoolOp .And (a::b::rest) pos) (Q8 ta tb):=by
 intro pins s σ H Q I h;refine BoolOp_and (gR (ha pins s σ H _ I h) λv s1 ⟨x,H1,I1,r1,q1⟩=>?_)
 obtain⟨c,rfl,q1⟩:=q1;cases r1;refine bQ ?_;cases c with
 |true=>exact hb pins s1 σ H1 Q I1 q1
 |false=>exact⟨.bl false,H1,I1,rfl,q1⟩
theorem Q9 (ha:PE X a ta) (hb:PE X (.BoolOp .Or (b::rest) pos) tb):PE X (.BoolOp .Or (a::b::rest) pos) (Ur ta tb):=by
 intro pins s σ H Q I h;refine BoolOp_or (gR (ha pins s σ H _ I h) λv s1 ⟨x,H1,I1,r1,q1⟩=>?_)
 obtain⟨c,rfl,q1⟩:=q1;cases r1;refine bQ ?_;cases c with
 |false=>exact hb pins s1 σ H1 Q I1 q1
 |true=>exact⟨.bl true,H1,I1,rfl,q1⟩
noncomputable def Y8 (t:TT) (ta tb:TE):TE:=λσ H Q=>t σ H λc H1=>if c=true then ta σ H1 Q else tb σ H1 Q
theorem HV {c:cE}(hc:PT X c tA) (ha:PE X a ta) (hb:PE X b tb):PE X (.IfExp c a b pos) (Y8 tA ta tb):=by
 intro pins s σ H Q I h;refine wpAny_IfExp (gR (hc pins s σ H _ I h) λd s1 ⟨H1,I1,q1⟩=>?_)
 cases d with
 |true=>exact ha pins s1 σ H1 Q I1 q1
 |false=>exact hb pins s1 σ H1 Q I1 q1
end
end L2
namespace L2
open PySem PySem.Spec PyProof.Rows
def pf (K:W.Frag) (H:Hp) (a:cD) (xs:List V):Prop:=
 Rd H a (.lst xs)\/
  ∃(o:Obj) (dz:Array cw) (n:Nat),K.lookup a=some o/\o.cls=.type "list"/\o.dict=none/\o.data=.seq dz n/\dz.size<=sizeLine/\Vals xs dz.toList
def jk (K:W.Frag) (H:Hp) (a:cD) (xs:List V):Prop:=
 Rd H a (.tup xs)\/
  ∃(o:Obj) (dz:Array cw) (n:Nat),K.lookup a=some o/\o.cls=.type "tuple"/\o.data=.seq dz n/\dz.size<=sizeLine/\Vals xs dz.toList
noncomputable def Us:cw->Option V
 |.none=>some .eU
 |.bool b=>some (.bl b)
 |.int i _=>some (.int i)
 |.str x _=>some (.str x)
 |.bytes b _=>some (.QF b)
 |.float b _=>some (.Ts b)
 |.ref a=>some (.ref a)
 |.type n=>some (.ty n)
 |_=>none
theorem RelV.abs {x:V}{u:cw}(r:RelV x u):Us u=some x:=by
 cases x with
 |eU=>cases r;rfl
 |bl _=>cases r;rfl
 |int _=>obtain⟨t,rfl⟩:=r;rfl
 |str _=>obtain⟨t,rfl⟩:=r;rfl
 |QF _=>obtain⟨t,rfl⟩:=r;rfl
 |Ts _=>obtain⟨t,rfl⟩:=r;rfl
 |ref _=>cases r;rfl
 |ty _=>cases r;rfl
theorem RelV.inj {x y:V}{u:cw}(r:RelV x u) (q:RelV y u):x=y:=aS (r.abs.symm.trans q.abs)
theorem Vals.inj:∀{xs ys:List V}{us:cv},Vals xs us->Vals ys us->xs=ys
 |_,_,_,.nil,.nil=>rfl
 |_,_,_,.cons r t,.cons r' t'=>by rw[r.inj r',Vals.inj t t']
section
variable {X:Cx}{pins:ck}{σ:St}{H:Hp}{s:cx}{a:cD}{xs ys:List V}
theorem pf.of {K:W.Frag}(h:H a=some (.lst xs)):pf K H a xs:=.inl (.inl h)
theorem jk.of {K:W.Frag}(h:H a=some (.tup xs)):jk K H a xs:=.inl (.inl h)
theorem Inv.list (I:Inv X pins σ H s) (h:pf X.K H a xs):∃dz:cv,Vals xs dz/\PlainL s.heap a dz.toArray/\xs.length<=sizeLine:=by
 rcases h with h|⟨o,dz,n,hk,hc,hd,hs,hz,r⟩
 ·obtain⟨z,dz,n,r,e⟩:=h.ok I.gb;exact⟨dz,r,⟨_,n,e,rfl,rfl,rfl⟩,z⟩
 ·refine⟨dz.toList,r,⟨o,n,I.Ge a o hk,hc,hd,by simpa using hs⟩,?_⟩
  have e:=r.length;simp only[aN]at e;omega
theorem Inv.tuple (I:Inv X pins σ H s) (h:jk X.K H a xs):∃dz:cv,Vals xs dz/\IsTup s.heap a dz.toArray/\xs.length<=sizeLine:=by
 rcases h with h|⟨o,dz,n,hk,hc,hs,hz,r⟩
 ·obtain⟨z,dz,r,p⟩:=h.ok I.gb;exact⟨dz,r,p,z⟩
 ·refine⟨dz.toList,r,⟨o,I.Ge a o hk,hc,n,by simpa using hs⟩,?_⟩
  have e:=r.length;simp only[aN]at e;omega
theorem Inv.HW (I:Inv X pins σ H s) (h:pf X.K H a xs) (h':pf X.K H a ys):xs=ys:=by
 obtain⟨dz,r,⟨o,n,e,_,_,d⟩,_⟩:=I.list h;obtain⟨its',r',⟨o',n',e',_,_,d'⟩,_⟩:=I.list h';rw[e]at e';cases e';rw[d]at d';injection d' with d1 _
 have:dz=its':=by simpa using congrArg Array.toList d1
 subst this;exact r.inj r'
theorem Inv.Gf (I:Inv X pins σ H s) (h:jk X.K H a xs) (h':jk X.K H a ys):xs=ys:=by
 obtain⟨dz,r,⟨o,e,_,n,d⟩,_⟩:=I.tuple h;obtain⟨its',r',⟨o',e',_,n',d'⟩,_⟩:=I.tuple h';rw[e]at e';cases e';rw[d]at d';injection d' with d1 _
 have:dz=its':=by simpa using congrArg Array.toList d1
 subst this;exact r.inj r'
end
noncomputable abbrev Cx.xM (X:Cx) (E:cg):Cx:={X with xe:=E}
noncomputable abbrev Cx.EE (X:Cx):Cx:=X.xM λ_ _=>False
theorem Cx.Ok.xM {X:Cx}(ok:X.Ok) (E:cg):(X.xM E).Ok:=
 ⟨ok.mod,ok.kind,ok.glob,ok.blt,ok.above,ok.inj,ok.has,ok.Q2,ok.hd,ok.frames,ok.Tu,ok.WH,ok.bs,ok.La,ok.HS,ok.Lk,ok.vb,ok.N0,ok.tb⟩
theorem Cx.Ok.pq {X:Cx}{E:cg}(ok:(X.xM E).Ok):X.Ok:=
 ⟨ok.mod,ok.kind,ok.glob,ok.blt,ok.above,ok.inj,ok.has,ok.Q2,ok.hd,ok.frames,ok.Tu,ok.WH,ok.bs,ok.La,ok.HS,ok.Lk,ok.vb,ok.N0,ok.tb⟩
section
variable {X:Cx}{pins:ck}{σ:St}{H:Hp}{s:cx}{E:cg}
theorem Inv.xM (I:Inv X pins σ H s) (E:cg):Inv (X.xM E) pins σ H s:=⟨I.ok.xM E,I.os,I.bare,I.base,I.loc,I.cell,I.free,I.pk,I.pin,I.gb,I.len⟩
theorem Inv.pq (I:Inv (X.xM E) pins σ H s):Inv X pins σ H s:=⟨I.ok.pq,I.os,I.bare,I.base,I.loc,I.cell,I.free,I.pk,I.pin,I.gb,I.len⟩
theorem SP.pq {D:Ends}{f:Flow}{s':cx}(h:SP (X.xM E) pins D f s'):SP X pins D f s':=by
 cases f with
 |next=>obtain⟨σ',H',I,q⟩:=h;exact⟨σ',H',I.pq,q⟩
 |brk=>obtain⟨σ',H',I,q⟩:=h;exact⟨σ',H',I.pq,q⟩
 |cont=>obtain⟨σ',H',I,q⟩:=h;exact⟨σ',H',I.pq,q⟩
 |ret u=>obtain⟨v,σ',H',I,r,q⟩:=h;exact⟨v,σ',H',I.pq,r,q⟩
theorem xK.EE {st:List cF}{t:TS}(h:xK X.EE st t):xK X st t:=λpins s σ H D I hw=>
 bP (h pins s σ H D (I.xM _) hw) (λ_ _ q=>q.pq) λ_ _ z=>False.elim z
end
section
variable {X:Cx}{st:cF}{rest:List cF}{t u:TS}{e:cE}{te:TE}{pos:Pos}
noncomputable def Ra:TS:=λD σ H=>D.nx σ H
noncomputable def Ut (t u:TS):TS:=λD σ H=>t {D with nx:=u D} σ H
theorem EF:xK X [] Ra:=λ_ _ σ H _ I h=>wpAny_execs_nil ⟨σ,H,I,h⟩
theorem vT (h1:PS X st t) (h2:xK X rest u):xK X (st::rest) (Ut t u):=by
 intro pins s σ H D I h;refine wpAny_execs_cons (gR (h1 pins s σ H {D with nx:=u D} I h) λf s1 q=>?_)
 cases f with
 |next=>
  obtain⟨σ',H',I',q⟩:=q;exact h2 pins s1 σ' H' D I' q
 |ret v=>exact q
 |brk=>exact q
 |cont=>exact q
theorem EG (h1:PS X st t):xK X [st] t:=by
 intro pins s σ H D I h;refine wpAny_execs_cons (gR (h1 pins s σ H D I h) λf s1 q=>?_)
 cases f with
 |next=>exact wpAny_execs_nil q
 |ret v=>exact q
 |brk=>exact q
 |cont=>exact q
theorem Inv.quiet {pins:ck}{σ:St}{H:Hp}{s:cx}(I:Inv X pins σ H s):interactive X.env=false:=by simp[interactive,I.ok.kind]
noncomputable def Rb (te:TE):TS:=λD σ H=>te σ H λ_ H1=>D.nx σ H1
theorem Ln (he:PE X e te) (hs:swapsWith e none pos.line X.env=pure false:=by rfl):PS X (.Expr e pos) (Rb te):=by
 intro pins s σ H D I h;exact wpAny_Expr_any (gR (he pins s σ H _ I h) λv s1 ⟨x,H1,I1,r1,q1⟩=>⟨σ,H1,I1,q1⟩) I.quiet hs
noncomputable def Uu (te:TE):TS:=λD σ H=>te σ H D.rt
theorem Oc (he:PE X e te):PS X (.Return (some e) pos) (Uu te):=by
 intro pins s σ H D I h;exact wpAny_Return_some (gR (he pins s σ H _ I h) λv s1 ⟨x,H1,I1,r1,q1⟩=>⟨x,σ,H1,I1,r1,q1⟩)
noncomputable def Uv (c:TT) (t u:TS):TS:=λD σ H=>c σ H λb H1=>if b=true then t D σ H1 else u D σ H1
theorem Nf {c:cE}{a b:List cF}{tc:TT}(hc:PT X c tc) (ha:xK X a t) (hb:xK X b u):PS X (.If c a b pos) (Uv tc t u):=by
 intro pins s σ H D I h;refine wpAny_If (gR (hc pins s σ H _ I h) λd s1 ⟨H1,I1,q1⟩=>?_)
 cases d with
 |true=>exact ha pins s1 σ H1 D I1 q1
 |false=>exact hb pins s1 σ H1 D I1 q1
end
noncomputable abbrev TG:=V->St->Hp->(St->Hp->Prop)->Prop
def PG (X:Cx) (target:cE) (t:TG):Prop:=
 ∀(pins:ck) (s:cx) (σ:St) (H:Hp) (v:V) (u:cw) (Q:St->Hp->Prop),Inv X pins σ H s->RelV v u->t v σ H Q->
  wpAny (model X.prog X.w) X.A (assign target X.env u) (λ_ s'=>∃σ' H',Inv X pins σ' H' s'/\Q σ' H') X.xe s
noncomputable abbrev Lo:=V->V->V->Hp->(Hp->Prop)->Prop
def Rc (X:Cx) (t:Lo):Prop:=
 ∀(pins:ck) (s:cx) (σ:St) (H:Hp) (o i v:V) (ov iv u:cw) (Q:Hp->Prop),Inv X pins σ H s->RelV o ov->RelV i iv->RelV v u->t o i v H Q->
  wpAny (model X.prog X.w) X.A (setItem ov iv u) (λ_ s'=>∃H',Inv X pins σ H' s'/\Q H') X.xe s
section
variable {X:Cx}{pos:Pos}
noncomputable def A4 (i:Nat):TG:=λv σ H Q=>Q (σ.set i (some v)) H
theorem jl {i:Nat}{x:Str}(hN:X.N.Nodup) (hi:X.N[i]? =some x) (hx:Loc X.env.scope x) (hf:X.fn x=true\/X.env.scope.names.lookup x=some .local:=by first|exact .inl rfl|exact .inr rfl|assumption):PG X (.Name x pos) (A4 i):=by
 intro pins s σ H v u Q I r h;exact wpAny_assign_Name (vS I hN hi hx r (λs' I'=>⟨_,H,I',h⟩) hf)
noncomputable def Uw (to ti:TE) (t:Lo):TG:=λv σ H Q=>to σ H λo H1=>ti σ H1 λi H2=>t o i v H2 λH3=>Q σ H3
theorem Od {o i:cE}{to ti:TE}{t:Lo}(ho:PE X o to) (hi:PE X i ti) (hs:Rc X t)
  (ha:∀v,assign (.Subscript o i pos) X.env v=(do
   let ov <-holding [v] (eval o X.env)
   let iv <-holding [v,ov] (eval i X.env)
   standAt pos
   holding [v,ov,iv] (setItem ov iv v)
   release [v,ov,iv] []):=by intro _;rfl):PG X (.Subscript o i pos) (Uw to ti t):=by
 intro pins s σ H v u Q I r h;rw[ha];refine aa (bo (gR (ho pins s σ H _ I h) λov s1 ⟨x,H1,I1,r1,q1⟩=>?_))
 refine aa (bo (gR (hi pins s1 σ H1 _ I1 q1) λiv s2 ⟨y,H2,I2,r2,q2⟩=>?_))
 refine aa (wpAny_standAt (aa (bo (gR (hs pins s2 σ H2 x y v ov iv u _ I2 r1 r2 r q2) λ_ s3 ⟨H3,I3,q3⟩=>?_))))
 exact wpAny_release ⟨σ,H3,I3,q3⟩
noncomputable def Rf (te:TE) (g:TG):TS:=λD σ H=>te σ H λx H1=>g x σ H1 D.nx
theorem Oe {tg e:cE}{te:TE}{g:TG}(he:PE X e te) (hg:PG X tg g) (hs:swapsWithSole [tg] e pos.line X.env=pure false:=by rfl) (hw:swappedStores [tg] e X.env=pure none:=by rfl)
  (h1:(assignEach [tg] X.env).map (·.2)=[assign tg X.env]:=by rfl):PS X (.Assign [tg] e pos) (Rf te g):=by
 intro pins s σ H D I h;refine wpAny_Assign_stores (gR (he pins s σ H _ I h) λv s1 ⟨x,H1,I1,r1,q1⟩=>?_) hs hw
 rw[h1];exact gR (hg pins s1 σ H1 x v _ I1 r1 q1) λ_ s2 q=>q
theorem CS {i:Nat}{x:Str}{e:cE}{te:TE}{pos':Pos}(hN:X.N.Nodup) (hi:X.N[i]? =some x) (hx:Loc X.env.scope x) (he:PE X e te) (hs:swapsWith e (some (.Name x pos')) pos.line X.env=pure false:=by rfl) (hf:X.fn x=true\/X.env.scope.names.lookup x=some .local:=by first|exact .inl rfl|exact .inr rfl|assumption):
  PS X (.Assign [.Name x pos'] e pos) (Rf te (A4 i)):=by
 intro pins s σ H D I h;refine wpAny_Assign_Name (gR (he pins s σ H _ I h) λv s1 ⟨y,H1,I1,r1,q1⟩=>?_) hs
 exact vS I1 hN hi hx r1 (λs2 I2=>⟨_,H1,I2,q1⟩) hf
end
section
variable {X:Cx}{pos:Pos}
noncomputable def Of (c:TT) (tb:TS):TS:=λD σ H=>∃W:Nat->St->Hp->Prop,(∃m,W m σ H)/\∀m σ H,W m σ H->
 c σ H λb H1=>if b=true then ∃N:St->Hp->Prop,(∀σ' H',N σ' H'->∃m',m'<m/\W m' σ' H')/\tb {D with nx:=N,ct:=N,bk:=D.nx} σ H1 else D.nx σ H1
theorem HX {c:cE}{body:List cF}{tc:TT}{tb:TS}(hp:PassesOwn (model X.prog X.w) X.A X.env X.xe) (hc:PT X c tc) (hb:xK X body tb):PS X (.While c body [] pos) (Of tc tb):=by
 intro pins s σ H D I h;obtain⟨W,⟨m0,w0⟩,turn⟩:=h;refine wpAny_While (codeAny_whileLoop (λn s'=>∃σ' H',Inv X pins σ' H' s'/\W n σ' H') ?_ m0 ⟨σ,H,I,w0⟩)
 rintro n s1 ⟨σ1,H1,I1,w1⟩
 refine wpAny_passesOwn hp (gR (hc pins s1 σ1 H1 _ I1 (turn n σ1 H1 w1)) λb s2 ⟨H2,I2,q2⟩=>?_)
 cases b with
 |true=>
  obtain⟨N,hN,q2⟩:=q2;rw[if_pos rfl];refine wpAny_passesOwn hp (gR (hb pins s2 σ1 H2 _ I2 q2) λf s3 q3=>?_)
  cases f with
  |next=>
   obtain⟨σ3,H3,I3,n3⟩:=q3;obtain⟨m',hm,w3⟩:=hN σ3 H3 n3;exact⟨m',hm,σ3,H3,I3,w3⟩
  |cont=>
   obtain⟨σ3,H3,I3,n3⟩:=q3;obtain⟨m',hm,w3⟩:=hN σ3 H3 n3;exact⟨m',hm,σ3,H3,I3,w3⟩
  |brk=>exact q3
  |ret v=>exact q3
 |false=>
  rw[if_neg aZ];exact wpAny_execs_nil ⟨σ1,H2,I2,q2⟩
end
structure It where
 go:Nat->Hp->Prop
 Og:Nat->Hp->V->Hp->Prop
 stop:Nat->Hp->Prop
def A5 (X:Cx) (pins:ck) (H:Hp) (b:cD):Prop:=
 H b=none/\b≠X.env.locals/\b∉X.fs/\(b∈X.ex\/X.s₀.heap.objs.size<=b)/\(∀x c,X.env.cells.lookup x=some c->c≠b)/\∀p∈X.pn++pins,p.1≠b
theorem Inv.HY {X:Cx}{pins:ck}{σ:St}{H H':Hp}{s:cx}{b:cD}(I:Inv X pins σ H s) (hb:s.heap.objs.size<=b) (hn:H' b=none):A5 X pins H' b:=by
 refine⟨hn,bw (aw I.lt hb),I.Um hb,.inr (aB I.sz hb),λx c e z=>?_,λp hp z=>?_⟩
 ·obtain⟨v,q⟩:=I.cell x c e;exact absurd (aw q.lt (by rw[z];exact hb)) (Nat.lt_irrefl _)
 ·exact absurd (aw (az (I.pin p hp).1) (by rw[z];exact hb)) (Nat.lt_irrefl _)
structure Turn (P:cz) (w:cA) (K:W.Frag) (tg:cE) (J:It) (fp:List cD) (it:cD) (tn:Nat->Heap->Prop):Prop where
 mem:it∈fp
 obj:∀i h,tn i h->∀b∈fp,∃o,h.get? b=some o/\∀v,o.data≠.cell v
 keep:∀i h h',tn i h->(∀b∈fp,∀o,h.get? b=some o->h'.get? b=some o)->tn i h'
 item:∀(X:Cx),X.prog=P->X.w=w->X.K=K->X.calm=true->∀(i:Nat) (pins:ck) (s:cx) (σ:St) (H:Hp) (E:cg),Inv X pins σ H s->(∀b∈fp,A5 X pins H b)->tn i s.heap->J.go i H->
  wpAny (model P w) X.A (pyNext (.ref it)) (λr s1=>∃u,r=some u/\
   wpAny (model P w) X.A (letOwnedTupleGo tg (.ref it) u) (λ_ s2=>∃x H',Inv X pins σ H' s2/\RelV x u/\J.Og i H x H'/\tn (i+1) s2.heap/\∀b∈fp,H' b=none) E s1) E s
 done:∀(X:Cx),X.prog=P->X.w=w->X.K=K->X.calm=true->∀(i:Nat) (pins:ck) (s:cx) (σ:St) (H:Hp) (E:cg),Inv X pins σ H s->(∀b∈fp,A5 X pins H b)->tn i s.heap->J.stop i H->
  wpAny (model P w) X.A (pyNext (.ref it)) (λr s1=>r=none/\Inv X pins σ H s1) E s
 self:∀(A:cB) (i:Nat) (s:cx) (Q:cg) (E:cg),tn i s.heap->Q (.ref it) s->wpAny (model P w) A (pyIter (.ref it)) Q E s
noncomputable abbrev TI:=St->Hp->(It->Hp->Prop)->Prop
def WL (X:Cx) (pins:ck) (σ:St) (tg:cE) (R:It->Hp->Prop) (Tx:cw) (s2:cx):Prop:=
 ∃(it:cD) (fp:List cD) (tn:Nat->Heap->Prop) (J:It) (H':Hp),Tx=.ref it/\Inv X pins σ H' s2/\Turn X.prog X.w X.K tg J fp it tn/\tn 0 s2.heap/\(∀b∈fp,A5 X pins H' b)/\R J H'
def PI (X:Cx) (tg iter:cE) (wi:TI):Prop:=
 ∀(pins:ck) (s:cx) (σ:St) (H:Hp) (R:It->Hp->Prop),Inv X pins σ H s->wi σ H R->
  wpAny (model X.prog X.w) X.A (eval iter X.env) (λv s1=>wpAny (model X.prog X.w) X.A (pyIter v) (WL X pins σ tg R) X.xe s1) X.xe s
theorem HZ {M:Model}{A:cB}{E:cg}{s:cx}{tg:cE}{it:cD}{u:cw}{o:Obj}{n:String}{vs:Array cw}{Q:Unit->cx->Prop}(ho:s.heap.get? it=some o) (hc:o.cls=.type n) (hd:o.data=.fields vs)
  (hn:["enumerate","zip","dict_itemiterator","dict_reverseitemiterator","odict_iterator","itertools.zip_longest","itertools.pairwise"].contains n=false) (hQ:Q () s):wpAny M A (letOwnedTupleGo tg (.ref it) u) Q E s:=by
 unfold letOwnedTupleGo;cases tg<;>first
  |exact aj hQ
  |(cases u<;>first
    |exact aj hQ
    |(refine aa (wpAny_load ho ?_)
      rw[hc,hd];show wpAny M A (if(["enumerate","zip","dict_itemiterator","dict_reverseitemiterator","odict_iterator","itertools.zip_longest","itertools.pairwise"].contains n&&vs[0]? ==some (rawInt _))=true then _ else _) Q E s
      rw[if_neg (by intro h;rw[hn,Bool.false_and]at h;cases h)]
      exact aj hQ))
noncomputable def Ux (K:W.Frag) (a:cD):It:=
 ⟨λi H=>∃xs x,pf K H a xs/\xs[i]? =some x,λi H x H'=>H'=H/\∀xs,pf K H a xs->xs[i]? =some x,λi H=>∃xs,pf K H a xs/\xs.length<=i⟩
noncomputable def Uy (K:W.Frag) (a:cD):It:=
 ⟨λi H=>∃xs x,jk K H a xs/\xs[i]? =some x,λi H x H'=>H'=H/\∀xs,jk K H a xs->xs[i]? =some x,λi H=>∃xs,jk K H a xs/\xs.length<=i⟩
noncomputable def Tz (lo:Int) (n:Nat):It:=⟨λi _=>i<n,λi H x H'=>H'=H/\x=.int (lo+i),λi _=>n<=i⟩
theorem Gg {P:cz}{w:cA}{K:W.Frag}{tg:cE}(a it:cD):Turn P w K tg (Ux K a) [it] it (λi h=>h.IsListIter it a i)where
 mem:=by simp
 obj:=λi h st b hb=>by
  have e:b=it:=by simpa using hb
  subst e;obtain⟨o,e,c,d⟩:=st;exact⟨o,e,λv z=>by rw[d]at z;cases z⟩
 keep:=λi h h' st k=>st.at λo e=>k it (by simp) o e
 item:=by
  intro X hP hw hK hc i pins s σ H E I hf st hg;subst hP hw hK;obtain⟨xs,x,hq,hx⟩:=hg;obtain⟨dz,rv,p,hz⟩:=I.list hq;obtain⟨u,hu,ru⟩:=rv.get hx;obtain⟨f0,f1,f2,f3,f4,f5⟩:=hf it (by simp)
  refine wpAny_pyNext_list_item st p.isList (x:=u) (by simpa using hu) λh' Ng sb=>?_
  have I1:Inv X pins σ H {s with heap:=h'}:=I.turned (t':=s.toks) (λb o hb e=>(sb.2 b hb).trans e) f0 f1 f3 f4 f5
  obtain⟨o,e,c,d⟩:=id Ng;exact⟨u,rfl,HZ (s:={s with heap:=h'}) e c d (by decide) ⟨x,H,I1,ru,⟨rfl,λys hy=>by rw[I.HW hy hq];exact hx⟩,Ng,λb hb=>(hf b hb).1⟩⟩
 done:=by
  intro X hP hw hK hc i pins s σ H E I hf st hg;subst hP hw hK;obtain⟨xs,hq,hx⟩:=hg;obtain⟨dz,rv,p,hz⟩:=I.list hq;obtain⟨f0,f1,f2,f3,f4,f5⟩:=hf it (by simp)
  have hl:=rv.length;exact wpAny_pyNext_list_end (I.ok.hd hc) st p.isList (by simp;omega) λh' eb=>⟨rfl,I.turned (t':=s.toks) (λb o hb e=>eb b o hb e) f0 f1 f3 f4 f5⟩
 self:=λ_ _ _ _ _ st h=>wpAny_pyIter_listiter st h
theorem CT {P:cz}{w:cA}{K:W.Frag}{tg:cE}(a it:cD):Turn P w K tg (Uy K a) [it] it (λi h=>h.IsTupleIter it a i)where
 mem:=by simp
 obj:=λi h st b hb=>by
  have e:b=it:=by simpa using hb
  subst e;obtain⟨o,e,c,d⟩:=st;exact⟨o,e,λv z=>by rw[d]at z;cases z⟩
 keep:=λi h h' st k=>st.at λo e=>k it (by simp) o e
 item:=by
  intro X hP hw hK hc i pins s σ H E I hf st hg;subst hP hw hK;obtain⟨xs,x,hq,hx⟩:=hg;obtain⟨dz,rv,p,hz⟩:=I.tuple hq;obtain⟨u,hu,ru⟩:=rv.get hx;obtain⟨f0,f1,f2,f3,f4,f5⟩:=hf it (by simp)
  refine wpAny_pyNext_tuple_item st (show s.heap.IsTuple a dz.toArray from p) (x:=u) (by simpa using hu) λh' Ng sb=>?_
  have I1:Inv X pins σ H {s with heap:=h'}:=I.turned (t':=s.toks) (λb o hb e=>(sb.2 b hb).trans e) f0 f1 f3 f4 f5
  obtain⟨o,e,c,d⟩:=id Ng;exact⟨u,rfl,HZ (s:={s with heap:=h'}) e c d (by decide) ⟨x,H,I1,ru,⟨rfl,λys hy=>by rw[I.Gf hy hq];exact hx⟩,Ng,λb hb=>(hf b hb).1⟩⟩
 done:=by
  intro X hP hw hK hc i pins s σ H E I hf st hg;subst hP hw hK;obtain⟨xs,hq,hx⟩:=hg;obtain⟨dz,rv,p,hz⟩:=I.tuple hq;obtain⟨f0,f1,f2,f3,f4,f5⟩:=hf it (by simp)
  have hl:=rv.length;exact wpAny_pyNext_tuple_end (I.ok.hd hc) st (show s.heap.IsTuple a dz.toArray from p) (by simp;omega) λh' eb=>⟨rfl,I.turned (t':=s.toks) (λb o hb e=>eb b o hb e) f0 f1 f3 f4 f5⟩
 self:=λ_ _ _ _ _ st h=>wpAny_pyIter_tupleiter st h
theorem CU {P:cz}{w:cA}{K:PySem.W.Frag}{tg:cE}(it:cD) (lo:Int) (n:Nat):Turn P w K tg (Tz lo n) [it] it (λi h=>IsRangeIter h it (lo+(i:Nat)*1) ((n:Int)-(i:Nat)) 1)where
 mem:=by simp
 obj:=λi h st b hb=>by
  have e:b=it:=by simpa using hb
  subst e;exact⟨_,st,λv z=>by
   have z':Data.fields _=Data.cell v:=z;cases z'⟩
 keep:=λi h h' st k=>k it (by simp) _ st
 item:=by
  intro X hP hw hK hc i pins s σ H E I hf st hg;subst hP hw hK;obtain⟨f0,f1,f2,f3,f4,f5⟩:=hf it (by simp)
  have W:=Walks.range (prog:=X.prog) (w:=X.w) (I.ok.hd hc) it lo 1 n;refine W.item i s _ _ hg st λv h' tk hv Ng kk=>?_
  obtain⟨t,rfl⟩:=hv;have I1:Inv X pins σ H {s with heap:=h',toks:=tk}:=I.turned (λb o hb e=>kk b o (by simpa using hb) e) f0 f1 f3 f4 f5
  refine⟨_,rfl,HZ (s:={s with heap:=h',toks:=tk}) (n:="range_iterator") Ng rfl rfl (by decide) ⟨.int (lo+i),H,I1,⟨t,?_⟩,⟨rfl,rfl⟩,Ng,λb hb=>(hf b hb).1⟩⟩
  rw[Int.mul_one]
 done:=by
  intro X hP hw hK hc i pins s σ H E I hf st hg;subst hP hw hK;obtain⟨f0,f1,f2,f3,f4,f5⟩:=hf it (by simp)
  exact wpAny_pyNext_range_end (I.ok.hd hc) st (by have:n<=i:=hg;omega) λh' eb=>⟨rfl,I.turned (t':=s.toks) (λb o hb e=>eb b o hb e) f0 f1 f3 f4 f5⟩
 self:=λ_ _ _ _ _ st h=>wpAny_pyIter_rangeiter st h
end L2
namespace L2
open PySem PySem.Spec PyProof.Rows
section
variable {X:Cx}{tg:cE}
noncomputable def Rg (K:W.Frag) (tl:TE):TI:=λσ H R=>tl σ H λx H1=>∃a,x=.ref a/\(∃xs,pf K H1 a xs)/\R (Ux K a) H1
noncomputable def Uz (K:W.Frag) (tl:TE):TI:=λσ H R=>tl σ H λx H1=>∃a,x=.ref a/\(∃xs,jk K H1 a xs)/\R (Uy K a) H1
theorem EH {l:cE}{tl:TE}(hl:PE X l tl):PI X tg l (Rg X.K tl):=by
 intro pins s σ H R I h;refine gR (hl pins s σ H _ I h) λv s1 ⟨x,H1,I1,r1,q1⟩=>?_
 obtain⟨a,e,⟨xs,hq⟩,q⟩:=q1;subst e;cases r1;obtain⟨dz,rv,p,hz⟩:=I1.list hq;refine wpAny_pyIter_list p.isList ?_;refine⟨s1.heap.objs.size,[s1.heap.objs.size],_,_,H1,rfl,I1.kept (t':=s1.toks) λb o e=>ag _ e,Gg a _,⟨_,ay _ rfl,rfl,rfl⟩,λb hb=>?_,q⟩
 have e:b=s1.heap.objs.size:=by simpa using hb
 subst e;exact I1.HY (au _) (I1.gb.fresh (au _))
theorem Oh {l:cE}{tl:TE}(hl:PE X l tl):PI X tg l (Uz X.K tl):=by
 intro pins s σ H R I h;refine gR (hl pins s σ H _ I h) λv s1 ⟨x,H1,I1,r1,q1⟩=>?_
 obtain⟨a,e,⟨xs,hq⟩,q⟩:=q1;subst e;cases r1;obtain⟨dz,rv,p,hz⟩:=I1.tuple hq;refine wpAny_pyIter_tuple (show s1.heap.IsTuple a dz.toArray from p) ?_
 refine⟨s1.heap.objs.size,[s1.heap.objs.size],_,_,H1,rfl,I1.kept (t':=s1.toks) λb o e=>ag _ e,CT a _,⟨_,ay _ rfl,rfl,rfl⟩,λb hb=>?_,q⟩
 have e:b=s1.heap.objs.size:=by simpa using hb
 subst e;exact I1.HY (au _) (I1.gb.fresh (au _))
theorem Ia {pins:ck}{σ:St}{H:Hp}{s:cx}{R:It->Hp->Prop}{E:cg}{lo hi:Int}{t u v:Tok}{tk:Nat}(I:Inv X pins σ H s) (h1: -(2^62)<=lo) (h2:lo<2^62) (h3: -(2^62)<=hi) (h4:hi<2^62)
  (q:R (Tz lo (hi-lo).toNat) H):wpAny (model X.prog X.w) X.A (pyIter (.ref s.heap.objs.size)) (WL X pins σ tg R) E {s with heap:=s.heap.push {cls:=.type "range",data:=.fields #[.int lo t,.int hi u,.int 1 v]},toks:=tk}:=by
 refine wpAny_pyIter_range (IsRange.new ..) (small_one h1 h2 h3 h4) ?_;have I1:Inv X pins σ H {s with heap:=s.heap.push {cls:=.type "range",data:=.fields #[.int lo t,.int hi u,.int 1 v]},toks:=tk}:=I.kept λb o e=>ag _ e
 refine⟨(s.heap.push {cls:=.type "range",data:=.fields #[.int lo t,.int hi u,.int 1 v]}).objs.size,[(s.heap.push {cls:=.type "range",data:=.fields #[.int lo t,.int hi u,.int 1 v]}).objs.size],_,_,H,rfl,
  I1.kept (t':=tk) λb o e=>ag _ e,CU _ lo (hi-lo).toNat,?_,λb hb=>?_,q⟩
 ·have e1:lo+((0:Nat):Int)*1=lo:=by simp
  have e2:(((hi-lo).toNat:Nat):Int)-((0:Nat):Int)=Builtin.Range.rangeSize lo hi 1:=by rw[rangeSize_one];split<;>omega
  show IsRangeIter _ _ (lo+((0:Nat):Int)*1) ((((hi-lo).toNat:Nat):Int)-((0:Nat):Int)) 1;rw[e1,e2];exact ay _ rfl
 ·have e:b=(s.heap.push {cls:=.type "range",data:=.fields #[.int lo t,.int hi u,.int 1 v]}).objs.size:=by simpa using hb
  subst e;exact I1.HY (au _) (I1.gb.fresh (au _))
noncomputable def Rh (ta:TA):TI:=λσ H R=>ta σ H λvs H1=>∃j:Int,vs=[.int j]/\-(2^62)<=j/\j<2^62/\R (Tz 0 j.toNat) H1
theorem Gh {a:cE}{ta:TA}{p pos:Pos}(hg:Gl X "range") (hm:X.mg "range"=none) (ha:PA X [a] ta) (hs:starEach [a] X.env=[(false,eval a X.env)]:=by rfl):PI X tg (.Call (.Name "range" p) [a] [] pos) (Rh ta):=by
 intro pins s σ H R I h;refine Call_ (oh I hg hm boot_range (PyProof.Rows.callWith_type1 (gR (ha pos pins s σ H _ I h) λus s1 ⟨vs,H1,I1,r1,q1⟩=>?_) hs rfl))
 obtain⟨j,e,q1,q2,q⟩:=q1;subst e;cases r1 with
 |cons r rr=>
  cases rr;obtain⟨t,rfl⟩:=r;exact call_range_1 (Ia I1 (by omega) (by omega) q1 q2 (by simpa using q))
noncomputable def UA (wi:TI) (g:TG) (tb:TS):TS:=λD σ H=>wi σ H λJ H1=>∃W:Nat->Nat->St->Hp->Prop,(∃m,W 0 m σ H1)/\∀i m σ H,W i m σ H->
 (J.stop i H/\D.nx σ H)\/(J.go i H/\∃N:St->Hp->Prop,(∀σ' H',N σ' H'->∃m',m'<m/\W (i+1) m' σ' H')/\∀x H',J.Og i H x H'->g x σ H' λσ2 H2=>tb {D with nx:=N,ct:=N,bk:=D.nx} σ2 H2)
noncomputable def vU (fp:List cD) (h:Heap):ck:=fp.filterMap λb=>(h.get? b).map λo=>(b,o)
theorem oi {fp:List cD}{h:Heap}{b:cD}{o:Obj}(hb:b∈fp) (e:h.get? b=some o):(b,o)∈vU fp h:=List.mem_filterMap.mpr ⟨b,hb,by rw[e];rfl⟩
theorem Gi {fp:List cD}{h:Heap}{p:cD×Obj}(hp:p∈vU fp h):p.1∈fp/\h.get? p.1=some p.2:=by
 obtain⟨b,hb,e⟩:=List.mem_filterMap.mp hp;cases q:h.get? b with
 |none=>rw[q]at e;cases e
 |some o=>
  rw[q]at e;have e':(b,o)=p:=aS e;subst e';exact⟨hb,q⟩
theorem Inv.pinned {pins:ck}{σ:St}{H:Hp}{s:cx}{fp:List cD}(I:Inv X pins σ H s) (hf:∀b∈fp,A5 X pins H b) (ho:∀b∈fp,∃o,s.heap.get? b=some o/\∀v,o.data≠.cell v):Inv X (pins++vU fp s.heap) σ H s:=
 I.EC λp hp=>(List.mem_append.mp hp).elim (λz=>I.pin p (aL _ z)) λz=>by
  obtain⟨hb,e⟩:=Gi z;obtain⟨f0,f1,f2,_⟩:=hf p.1 hb;obtain⟨o,e',d⟩:=ho p.1 hb;rw[e]at e';cases e';exact⟨e,f0,f1,f2,d⟩
theorem Inv.sj {pins pl:ck}{σ:St}{H:Hp}{s:cx}(I:Inv X (pins++pl) σ H s):Inv X pins σ H s:=I.EC λp hp=>I.pin p (aL _ (bC _ hp))
theorem Oi {iter:cE}{body:List cF}{wi:TI}{g:TG}{tb:TS}{pos:Pos}(hp:PassesOwn (model X.prog X.w) X.A X.env X.xe) (hc:X.calm=true) (hi:PI X tg iter wi) (hg:PG X tg g) (hb:xK X body tb)
  (hs:∀x,foldedSetIterable iter X.env x=pure x:=by intro _;rfl):PS X (.For tg iter body [] pos) (UA wi g tb):=by
 intro pins s σ H D I h;refine wpAny_For (gR (hi pins s σ H _ I h) λv s1 h1=>gR h1 λTx s2 h2=>?_) hs
 obtain⟨it,fp,tn,J,H2,e,I2,T,Nh,f2,W,⟨m0,w0⟩,turn⟩:=h2;subst e;have CV:∀{H':Hp},(∀b∈fp,H' b=none)->∀b∈fp,A5 X pins H' b:=λhn b hb=>⟨hn b hb,(f2 b hb).2⟩
 refine codeAny_forLoop_any (λn s'=>∃i σ' H',Inv X pins σ' H' s'/\tn i s'.heap/\(∀b∈fp,H' b=none)/\W i n σ' H') ?_ m0 ⟨0,σ,H2,I2,Nh,λb hb=>(f2 b hb).1,w0⟩
 rintro n s3 ⟨i,σ3,H3,I3,Ri,Rj,w3⟩
 rcases turn i n σ3 H3 w3 with⟨stop,qn⟩|⟨go,N,hN,step⟩
 ·refine wpAny_passesOwn hp (gR (T.done X rfl rfl rfl hc i pins s3 σ3 H3 X.xe I3 (CV Rj) Ri stop) λr s4 ⟨hr,I4⟩=>?_)
  subst hr;exact wpAny_execs_nil ⟨σ3,H3,I4,qn⟩
 ·refine wpAny_passesOwn hp (gR (T.item X rfl rfl rfl hc i pins s3 σ3 H3 X.xe I3 (CV Rj) Ri go) λr s4 ⟨u,hr,h4⟩=>?_)
  subst hr;refine wpAny_passesOwn hp (gR h4 λ_ s5 ⟨x,H5,I5,r5,y5,Oj,UB⟩=>?_)
  have UC:=I5.pinned (CV UB) (T.obj _ _ Oj);refine wpAny_passesOwn hp (gR (hg _ s5 σ3 H5 x u _ UC r5 (step x H5 y5)) λ_ s6 ⟨σ6,H6,I6,q6⟩=>?_)
  refine wpAny_passesOwn hp (gR (hb _ s6 σ6 H6 _ I6 q6) λf s7 q7=>?_)
  have again:∀{σ7:St}{H7:Hp},Inv X (pins++vU fp s5.heap) σ7 H7 s7->N σ7 H7->∃m,m<n/\∃i σ' H',Inv X pins σ' H' s7/\tn i s7.heap/\(∀b∈fp,H' b=none)/\W i m σ' H':=λ{σ7 H7} I7 n7=>by
   obtain⟨m',hm,w7⟩:=hN σ7 H7 n7;refine⟨m',hm,i+1,σ7,H7,I7.sj,T.keep _ _ _ Oj λb hb o e=>(I7.pin (b,o) (aL _ (aL _ (oi hb e)))).1,λb hb=>?_,w7⟩
   obtain⟨o,e,d⟩:=T.obj _ _ Oj b hb;exact(I7.pin (b,o) (aL _ (aL _ (oi hb e)))).2.1
  cases f with
  |next=>obtain⟨σ7,H7,I7,n7⟩:=q7;exact again I7 n7
  |cont=>obtain⟨σ7,H7,I7,n7⟩:=q7;exact again I7 n7
  |brk=>obtain⟨σ7,H7,I7,q7⟩:=q7;exact⟨σ7,H7,I7.sj,q7⟩
  |ret v=>obtain⟨x7,σ7,H7,I7,r7,q7⟩:=q7;exact⟨x7,σ7,H7,I7.sj,r7,q7⟩
end
end L2
namespace L2
open PySem PySem.Spec PyProof.Rows
noncomputable abbrev R2:=V->V->Hp->VK->Prop
def ve (X:Cx) (f:cw->cw->Sem cw) (r:R2):Prop:=
 ∀(pins:ck) (s:cx) (σ:St) (H:Hp) (x y:V) (v u:cw) (Q:VK),Inv X pins σ H s->RelV x v->RelV y u->r x y H Q->
  wpAny (model X.prog X.w) X.A (f v u) (EP X pins σ Q) X.xe s
def i6 (X:Cx) (f:cw) (r:List V->Hp->VK->Prop):Prop:=
 ∀(pins:ck) (s:cx) (σ:St) (H:Hp) (xs:List V) (us:cv) (Q:VK),Inv X pins σ H s->Vals xs us->r xs H Q->
  wpAny (model X.prog X.w) X.A (call f us) (EP X pins σ Q) X.xe s
def UD (X:Cx) (r:V->Hp->(Bool->Hp->Prop)->Prop):Prop:=
 ∀(pins:ck) (s:cx) (σ:St) (H:Hp) (x:V) (v:cw) (Q:Bool->Hp->Prop),Inv X pins σ H s->RelV x v->r x H Q->
  wpAny (model X.prog X.w) X.A (truthy v) (TP X pins σ Q) X.xe s
noncomputable def Rk (r:R2) (ta tb:TE):TE:=λσ H Q=>ta σ H λx H1=>tb σ H1 λy H2=>r x y H2 Q
noncomputable def rI (C:Int->Int->Prop) (g:Int->Int->V):R2:=λx y H Q=>∃i j,x=.int i/\y=.int j/\C i j/\Q (g i j) H
noncomputable def Lp (g:Int->Int->V):R2:=λx y H Q=>∃i j,x=.int i/\y=.int j/\Q (g i j) H
section
variable {X:Cx}{a b c:cE}{ta tb tc:TE}{pos:Pos}
theorem Ol (ha:PE X a ta) (hb:PE X b tb) {pins:ck}{s:cx}{σ:St}{H:Hp}{R:V->V->Hp->Prop}(I:Inv X pins σ H s)
  (h:ta σ H λx H1=>tb σ H1 λy H2=>R x y H2) {Q:cg}{f:cw->cw->Sem cw}
  (hf:∀v u s2 x y H2,Inv X pins σ H2 s2->RelV x v->RelV y u->R x y H2->wpAny (model X.prog X.w) X.A (f v u) Q X.xe s2):
  wpAny (model X.prog X.w) X.A (eval a X.env) (λv s₁=>wpAny (model X.prog X.w) X.A (eval b X.env) (λu s₂=>wpAny (model X.prog X.w) X.A (f v u) Q X.xe s₂) X.xe s₁) X.xe s:=by
 refine gR (ha pins s σ H _ I h) λv s1 ⟨x,H1,I1,r1,q1⟩=>?_
 refine gR (hb pins s1 σ H1 _ I1 q1) λu s2 ⟨y,H2,I2,r2,q2⟩=>?_
 exact hf v u s2 x y H2 I2 r1 r2 q2
theorem Ni {op:Operator}{r:R2}(ho:ve X (binaryOp op) r) (ha:PE X a ta) (hb:PE X b tb):PE X (.BinOp a op b pos) (Rk r ta tb):=by
 intro pins s σ H Q I h;exact wpAny_BinOp (Ol ha hb I h λv u s2 x y H2 I2 rx ry q=>ho pins s2 σ H2 x y v u Q I2 rx ry q)
theorem UE {f:cw->cw->Sem cw}{C:Int->Int->Prop}{g:Int->Int->Int}
  (rule:∀(i j:Int) (t u:Tok) (s:cx) (Q:cg) (E:cg),C i j->Q (.int (g i j) s.toks) {s with toks:=s.toks+1}->wpAny (model X.prog X.w) X.A (f (.int i t) (.int j u)) Q E s):
  ve X f (rI C λi j=>.int (g i j)):=by
 intro pins s σ H x y v u Q I rx ry h;obtain⟨i,j,rfl,rfl,hc,q⟩:=h;obtain⟨t,rfl⟩:=rx;obtain⟨t',rfl⟩:=ry;exact rule i j t t' s _ _ hc ⟨.int (g i j),H,I.tok _,⟨_,rfl⟩,q⟩
theorem Rl {f:cw->cw->Sem cw}{g:Int->Int->Int}
  (rule:∀(i j:Int) (t u:Tok) (s:cx) (Q:cg) (E:cg),Q (.int (g i j) s.toks) {s with toks:=s.toks+1}->wpAny (model X.prog X.w) X.A (f (.int i t) (.int j u)) Q E s):
  ve X f (Lp λi j=>.int (g i j)):=by
 intro pins s σ H x y v u Q I rx ry h;obtain⟨i,j,rfl,rfl,q⟩:=h;obtain⟨t,rfl⟩:=rx;obtain⟨t',rfl⟩:=ry;exact rule i j t t' s _ _ ⟨.int (g i j),H,I.tok _,⟨_,rfl⟩,q⟩
theorem Lq {f:cw->cw->Sem cw}{g:Int->Int->Bool}
  (rule:∀(i j:Int) (t u:Tok) (s:cx) (Q:cg) (E:cg),Q (.bool (g i j)) s->wpAny (model X.prog X.w) X.A (f (.int i t) (.int j u)) Q E s):
  ve X f (Lp λi j=>.bl (g i j)):=by
 intro pins s σ H x y v u Q I rx ry h;obtain⟨i,j,rfl,rfl,q⟩:=h;obtain⟨t,rfl⟩:=rx;obtain⟨t',rfl⟩:=ry;exact rule i j t t' s _ _ ⟨.bl (g i j),H,I,rfl,q⟩
def Rm (i j:Int):Prop:=0<j/\j<1073741824
def Lr (i j:Int):Prop:=(-(2^64)<i/\i<2^64)\/(-(2^64)<j/\j<2^64)
theorem Lr.ok {i j:Int}(h:Lr i j):IntMulOk i j:=by
 rcases h with⟨h1,h2⟩|⟨h1,h2⟩
 ·exact .of_left (intBits_le_64 h1 h2)
 ·exact .of_right (intBits_le_64 h1 h2)
theorem Ib:ve X (binaryOp .Add) (Lp λi j=>.int (i+j)):=Rl λ_ _ _ _ _ _ _ q=>add_int q
theorem Om:ve X (binaryOp .Sub) (Lp λi j=>.int (i-j)):=Rl λ_ _ _ _ _ _ _ q=>sub_int q
theorem Oo:ve X (binaryOp .Mult) (rI Lr λi j=>.int (i*j)):=UE λ_ _ _ _ _ _ _ hc q=>mul_int q hc.ok
theorem Lu:ve X (binaryOp .FloorDiv) (rI Rm λi j=>.int (i/j)):=UE λi j _ _ _ _ _ hc q=>by
 have h1:(0:Int)<j:=hc.1;have h2:j<1073741824:=hc.2;exact floordiv_int (by omega) (by rw[Int.fdiv_eq_ediv_of_nonneg i (by omega)];exact q) (.inl (PyProof.noPylong_small (by omega)))
theorem Oq:ve X (binaryOp .Mod) (rI (λ_ j=>0<j) λi j=>.int (i%j)):=UE λi j _ _ _ _ _ hc q=>by
 have h1:(0:Int)<j:=hc;exact mod_int' (by omega) (by rw[Int.fmod_eq_emod_of_nonneg i (by omega)];exact q)
end
section
variable {X:Cx}{a b c:cE}{ta tb tc:TE}{pos:Pos}
theorem Rn:ve X (compareOp .Lt) (Lp λi j=>.bl (decide (i<j))):=Lq λ_ _ _ _ _ _ _ q=>lt_int q
theorem Ro:ve X (compareOp .LtE) (Lp λi j=>.bl (decide (i<=j))):=Lq λ_ _ _ _ _ _ _ q=>le_int q
theorem Rp:ve X (compareOp .Gt) (Lp λi j=>.bl (decide (j<i))):=Lq λ_ _ _ _ _ _ _ q=>gt_int q
theorem Rq:ve X (compareOp .GtE) (Lp λi j=>.bl (decide (j<=i))):=Lq λ_ _ _ _ _ _ _ q=>ge_int q
theorem ve.or {f:cw->cw->Sem cw}{r r':R2}(h:ve X f r) (h':ve X f r'):ve X f (λx y H Q=>r x y H Q\/r' x y H Q):=by
 intro pins s σ H x y v u Q I rx ry q;rcases q with q|q
 ·exact h pins s σ H x y v u Q I rx ry q
 ·exact h' pins s σ H x y v u Q I rx ry q
theorem vV (b:cE) {op:CmpOp}(h:op≠.In:=by decide) (h2:op≠.NotIn:=by decide):behindInMarks op b=false:=by
 have e1:(op==CmpOp.In)=false:=by cases op<;>first|rfl|exact absurd rfl h
 have e2:(op==CmpOp.NotIn)=false:=by cases op<;>first|rfl|exact absurd rfl h2
 cases b<;>simp[behindInMarks,e1,e2]
theorem Lv {op:CmpOp}{r:R2}(ho:ve X (compareOp op) r) (ha:PE X a ta) (hb:PE X b tb) (hm:behindInMarks op b=false):PE X (.Compare a [op] [b] pos) (Rk r ta tb):=by
 intro pins s σ H Q I h;exact wpAny_Compare1 (Ol ha hb I h λv u s2 x y H2 I2 rx ry q=>ho pins s2 σ H2 x y v u Q I2 rx ry q) hm
noncomputable def Rr (t:TE):TT:=λσ H Q=>t σ H λx H'=>∃k,x=.bl k/\Q k H'
theorem EI {op:CmpOp}{r:R2}(ho:ve X (compareOp op) r) (ha:PE X a ta) (hb:PE X b tb) (hm:behindInMarks op b=false):PT X (.Compare a [op] [b] pos) (Rr (Rk r ta tb)):=by
 intro pins s σ H Q I h;refine wpAny_isTrue_Compare1 (gR (ha pins s σ H _ I h) λv s1 ⟨x,H1,I1,r1,q1⟩=>gR (hb pins s1 σ H1 _ I1 q1) λu s2 ⟨y,H2,I2,r2,q2⟩=>
  gR (ho pins s2 σ H2 x y v u _ I2 r1 r2 q2) λc s3 ⟨z,H3,I3,r3,k,e,q3⟩=>?_) hm
 subst e;cases r3;exact bQ ⟨H3,I3,q3⟩
def Lw (K:W.Frag) (x:V) (H:Hp) (k:Bool):Prop:=
 match x with
 |.eU=>k=false
 |.bl b=>k=b
 |.int i=>k=(i !=0)
 |.str y=>y.length<=sizeLine/\k=((y.length:Int)!=0)
 |.QF y=>y.size<=sizeLine/\k=((y.size:Int)!=0)
 |.ref p=>(∃xs,pf K H p xs/\k= !xs.isEmpty)\/(∃xs,jk K H p xs/\k= !xs.isEmpty)\/∃kvs,H p=some (.dK kvs)/\k= !kvs.isEmpty
 |_=>False
theorem CW {κ:Type}{kvs:List (κ×V)}{vs:List (κ×cw)}(r:KV kvs vs):(!vs.isEmpty)= !kvs.isEmpty:=by
 cases r<;>rfl
theorem vW {xs:List V}{dz:cv}(r:Vals xs dz):(!dz.toArray.isEmpty)= !xs.isEmpty:=by
 cases r<;>simp
theorem t8:(sizeLine:Nat)<2^63:=by rw[bu];decide
theorem Ic:UD X (λx H Q=>∃k,Lw X.K x H k/\Q k H):=by
 intro pins s σ H x v Q I rx h;obtain⟨k,e,q⟩:=h;have hl:=t8;have hs:sizeLine=16777216:=bu;cases x with
 |eU=>
  cases rx;have e':k=false:=e;subst e';exact truthy_none ⟨H,I,q⟩
 |bl b=>
  cases rx;have e':k=b:=e;subst e';exact bQ ⟨H,I,q⟩
 |int i=>
  obtain⟨t,rfl⟩:=rx;have e':k=(i !=0):=e;subst e';exact PySem.P.truthy_int ⟨H,I,q⟩
 |str y=>
  obtain⟨t,rfl⟩:=rx;obtain⟨hy,e'⟩:y.length<=sizeLine/\k=((y.length:Int)!=0):=e;subst e';exact PySem.P.truthy_str (by omega) ⟨H,I.tok _,q⟩
 |QF y=>
  obtain⟨t,rfl⟩:=rx;obtain⟨hy,e'⟩:y.size<=sizeLine/\k=((y.size:Int)!=0):=e;subst e';exact W.truthy_bytes (by omega) ⟨H,I.tok _,q⟩
 |ref p=>
  cases rx;have e':(∃xs,pf X.K H p xs/\k= !xs.isEmpty)\/(∃xs,jk X.K H p xs/\k= !xs.isEmpty)\/∃kvs,H p=some (.dK kvs)/\k= !kvs.isEmpty:=e;rcases e' with⟨xs,hx,e'⟩|⟨xs,hx,e'⟩|⟨kvs,hx,e'⟩
  ·subst e';obtain⟨dz,r,pl,hz⟩:=I.list hx;have hlen:=r.length;exact wpAny_truthy_list pl.isList (by simp only[aq];omega) ⟨H,I.tok _,by rw[vW r];exact q⟩
  ·subst e';obtain⟨dz,r,pl,hz⟩:=I.tuple hx;have hlen:=r.length;exact truthy_tuple pl (by simp only[aq];omega) ⟨H,I.tok _,by rw[vW r];exact q⟩
  ·subst e';obtain⟨hz,hS,vs,r,m⟩:kvs.length<=sizeLine/\(p==sysModules)=false/\∃vs,KV kvs vs/\s.heap.DictOf (eT X.prog X.w) p vs:=I.gb p _ hx;have hlen:kvs.length=vs.length:=Paired.length r;exact wpAny_truthy_dict hS m (by omega) ⟨H,I.tok _,by rw[CW r];exact q⟩
 |_=>exact(show False from e).elim
theorem Ie (ha:PE X a ta) (he:∀whole,isTrue a X.env whole=(do let v <-whole;standAt a.pos;holding [v] (truthy v))):
  PT X a (λσ H Q=>ta σ H λx H'=>∃k,Lw X.K x H' k/\Q k H'):=by
 intro pins s σ H Q I h;exact isTrue_plain (gR (ha pins s σ H _ I h) λv s1 ⟨x,H1,I1,r1,q1⟩=>Ic pins s1 σ H1 x v Q I1 r1 q1) (he _)
theorem vals1 {x:V}{us:cv}(r:Vals [x] us):∃u,us=[u]/\RelV x u:=by
 cases r with
 |cons r1 r2=>cases r2;exact⟨_,rfl,r1⟩
theorem vals2 {x y:V}{us:cv}(r:Vals [x,y] us):∃u w',us=[u,w']/\RelV x u/\RelV y w':=by
 cases r with
 |cons r1 r2=>
  cases r2 with
  |cons r3 r4=>cases r4;exact⟨_,_,rfl,r1,r3⟩
theorem Gj (hc:X.calm=true):i6 X (.builtin "min") (λxs H Q=>∃i j,xs=[.int i,.int j]/\Q (.int (if j<i then j else i)) H):=by
 intro pins s σ H xs us Q I r h;obtain⟨i,j,rfl,q⟩:=h;obtain⟨u,w',rfl,⟨t,rfl⟩,⟨t',rfl⟩⟩:=vals2 r;refine min_two_ints (I.ok.hd hc) λh' tk k=>⟨_,H,I.kept k,?_,q⟩
 by_cases hj:j<i
 ·rw[if_pos hj,if_pos hj];exact⟨_,rfl⟩
 ·rw[if_neg hj,if_neg hj];exact⟨_,rfl⟩
end
end L2
namespace L2
open PySem PySem.Spec PyProof.Rows
structure CY (h:Heap) (x dx C:cD) (mA:cj):Prop where
 obj:h.get? x=some (W.instObj C dx)
 ns:h.Ns1 dx mA
 ne:dx≠x
theorem Gk {h:Heap}{dx:cD}{mA:cj}(n:h.Ns1 dx mA):∃od,h.get? dx=some od/\∀name,W.lookIn name od=some (mA name):=by
 obtain⟨o,es,ep,ho,hd,hk,_,hm⟩:=n;refine⟨o,ho,λname=>?_⟩
 have e:=hm name;unfold nsFind findBy at e;rw[<-Array.find?_toList]at e;unfold W.lookIn;rw[hd];dsimp only;split
 ·rename_i y q;rw[q]at e;exact congrArg some e
 ·rename_i q;rw[q]at e;have a:es.toList.any (·.refKey)=false:=by
   rw[List.any_eq_false];intro y hy;obtain⟨z,t,CZ⟩:=hk y (Array.mem_toList_iff.mp hy);simp[DictEntry.refKey,CZ]
  have a':¬ es.toList.any (·.refKey)=true:=by rw[a];exact aZ
  rw[if_neg a'];exact congrArg some e
theorem CY.look {h:Heap}{x dx C:cD}{mA:cj}(I:CY h x dx C mA):∃od,W.InstAt h x (W.instObj C dx) C (some od)/\∀name,W.lookIn name od=some (mA name):=
 let ⟨od,ho,hl⟩:=Gk I.ns
 ⟨od,⟨I.obj,rfl,rfl,ho⟩,hl⟩
section
variable {prog:cz}{w:cA}{A:cB}{E:cg}{s:cx}{K:W.Frag}{x dx C f:cD}{mA:cj}{name:Str}{v:cw}
theorem get_map {expr:Bool}{Q:cg}(X:K.In s.heap) (I:CY s.heap x dx C mA) (hg:W.plainGet K C name=true) (hh:W.hasDictIn K C=true)
  (ha:W.findIn K (.ref C) name=some none) (hv:mA name=some v) (Lx:W.handedIn v=true) (h:Q v {s with toks:=s.toks+1}):
  wpAny (model prog w) A (getAttr (.ref x) name expr) Q E s:=by
 obtain⟨od,J,hl⟩:=I.look;exact W.get_value X J (W.plainGet_of hg).1 (W.findObj_own hh ha rfl (by rw[hl,hv])) Lx h
theorem Ig {pl:Sem Bool}{Q:cw×cv->cx->Prop}(X:K.In s.heap) (I:CY s.heap x dx C mA) (hg:W.plainGet K C name=true)
  (hf:W.findIn K (.ref C) name=some (some (.ref f))) (ht:W.isFn K (.ref f)=true) (hv:mA name=none) (h:Q (.ref f,[.ref x]) s):
  wpAny (model prog w) A (getMethod (.ref x) name pl) Q E s:=by
 obtain⟨od,J,hl⟩:=I.look;exact W.method_fn X J (W.plainGet_of hg).1 (W.plainGet_of hg).2 hf (beq_iff_eq.mp ht) (by show(W.lookIn name od).map (·.isSome)=some false;rw[hl,hv];rfl) h
theorem Ly {ns:List Str}{Q:Unit->cx->Prop}(X:K.In s.heap) (I:CY s.heap x dx C mA)
  (hs:W.findIn K (.ref C) "__setattr__"=some (some (.builtin "object.__setattr__"))) (hp:W.plainOver K C=true) (ht:W.takerIn K C name=some none) (hh:W.hasDictIn K C=true)
  (hw:PySem.Within mA ns) (hsz:ns.length<=sizeLine)
  (h:∀h',CY h' x dx C (λy=>if y=name then some v else mA y)->Heap.SameBut dx s.heap h'->Q () {s with heap:=h',toks:=s.toks+2}):
  wpAny (model prog w) A (setAttr (.ref x) name v) Q E s:=by
 obtain⟨od,J,hl⟩:=I.look;refine W.set_plain X J hs (W.osa_open (s:={s with toks:=s.toks+1}) (r:=none) X J hp ht λb=>?_)
 obtain⟨cd,hc,Nb⟩:=W.any_some hh;have hx:s.heap.get? x=some ⟨.ref C,some dx,.plain,#[]⟩:=I.obj;refine aa (aj (aa (aa (wpAny_loadPart hx (aa (W.Looks.here (s:={s with toks:=s.toks+1}) (W.looks_clsIn X hc) ?_))))))
 rw[Nb];refine aj (a:=some dx) (aa (aj (aa ?_)));refine wpAny_nsSet1 (s:={s with toks:=s.toks+1}) I.ns λh' QK HG=>?_
 obtain⟨oD,esD,epD,Y9,Za,Zb⟩:=QK.count (PySem.Within.cons name v hw);refine aa (wpAny_lookBehind Y9 (by rw[Za];exact pastItsLine_dict (aB Zb (by rw[ax];omega))) ?_)
 exact aj (h _ ⟨(HG.2 _ (Ne.symm I.ne)).trans I.obj,QK,I.ne⟩ HG)
theorem Ih {R:Result->cx->Prop}{vs:cv}{kw:List (Str×cw)}(X:K.In s.heap) (hm:W.makesIn K C=true)
  (hi:W.findIn K (.ref C) "__init__"=some (some (.ref f))) (hf:W.typeIn K (.ref f)=some (.type "function"))
  (h:codeAny (model prog w) (A.under (.builtin "type.__call__" ⟨.ref C::vs,kw⟩)) (.call (.ref f) ⟨.ref (s.heap.objs.size+1)::vs,kw⟩) (W.InitBack (s.heap.objs.size+1) R)
   {s with heap:=(s.heap.push W.emptyDict).push (W.instObj C s.heap.objs.size)}):
  codeAny (model prog w) A (.call (.ref C) ⟨vs,kw⟩) R s:=by
 obtain⟨hh,g,d,t,os⟩:=s;exact W.make_core (W.makes_of X hm) (W.looks_findIn X hi) (λself=>W.bind_fn X self hf) (.inl rfl) h
end
noncomputable def oj (f:Str) (v:V):List (Str×V)->List (Str×V)
 |[]=>[(f,v)]
 |(g,x)::r=>if g=f then(g,v)::r else(g,x)::oj f v r
theorem ip (f g:Str) (v:V):∀fs:List (Str×V),(oj f v fs).lookup g=if g=f then some v else fs.lookup g
 |[]=>by
  show List.lookup g [(f,v)]=_;by_cases h:g=f
  ·have hb:(g==f)=true:=beq_iff_eq.mpr h;simp only[List.lookup,hb,if_pos h]
  ·have hb:(g==f)=false:=beq_eq_false_iff_ne.mpr h;simp only[List.lookup,hb,if_neg h]
 |(k,x)::r=>by
  have ih:=ip f g v r;rw[show oj f v ((k,x)::r)=(if k=f then(k,v)::r else(k,x)::oj f v r)from rfl]
  by_cases hk:k=f
  ·rw[if_pos hk];by_cases h:g=k
   ·have hb:(g==k)=true:=beq_iff_eq.mpr h;simp only[List.lookup,hb,if_pos (h.trans hk)]
   ·have hb:(g==k)=false:=beq_eq_false_iff_ne.mpr h;simp only[List.lookup,hb,if_neg (λe:g=f=>h (e.trans hk.symm))]
  ·rw[if_neg hk];by_cases h:g=k
   ·have hb:(g==k)=true:=beq_iff_eq.mpr h;simp only[List.lookup,hb,if_neg (λe:g=f=>hk (h.symm.trans e))]
   ·have hb:(g==k)=false:=beq_eq_false_iff_ne.mpr h;simp only[List.lookup,hb];exact ih
theorem t9 (f:Str) (v:V):∀fs:List (Str×V),f∈(oj f v fs).map (·.1)/\∀g,g∈fs.map (·.1)->g∈(oj f v fs).map (·.1)
 |[]=>⟨by simp[oj],λg h=>by simp at h⟩
 |(k,x)::r=>by
  obtain⟨i1,i2⟩:=t9 f v r;rw[show oj f v ((k,x)::r)=(if k=f then(k,v)::r else(k,x)::oj f v r)from rfl]
  by_cases hk:k=f
  ·rw[if_pos hk];subst hk;exact⟨by simp,λg h=>by simpa using h⟩
  ·rw[if_neg hk];refine⟨?_,λg h=>?_⟩
   ·rw[aE];exact ai _ i1
   ·rw[aE]at h ⊢;rcases List.mem_cons.mp h with e|e
    ·exact List.mem_cons.mpr (.inl e)
    ·exact ai _ (i2 g e)
theorem uN (f:Str) (v:V):∀fs:List (Str×V),(oj f v fs).length<=fs.length+1
 |[]=>by simp[oj]
 |(k,x)::r=>by
  have ih:=uN f v r;rw[show oj f v ((k,x)::r)=(if k=f then(k,v)::r else(k,x)::oj f v r)from rfl]
  by_cases hk:k=f
  ·rw[if_pos hk,ax,ax];omega
  ·rw[if_neg hk,ax,ax];omega
theorem pj.some_of {v:V}{o:Option cw}(r:pj (some v) o):∃u,o=some u/\RelV v u:=by
 cases o with
 |none=>exact(show False from r).elim
 |some u=>exact⟨u,rfl,r⟩
theorem pj.none_of {o:Option cw}(r:pj none o):o=none:=by
 cases o with
 |none=>rfl
 |some u=>exact(show False from r).elim
theorem Gn {v:V}{u:cw}(r:RelV v u):W.handedIn u=true:=by
 cases v with
 |eU=>cases (show u=Value.none from r);rfl
 |bl b=>cases (show u=Value.bool b from r);rfl
 |int i=>obtain⟨t,e⟩:=(show ∃t,u=Value.int i t from r);cases e;rfl
 |str x=>obtain⟨t,e⟩:=(show ∃t,u=Value.str x t from r);cases e;rfl
 |QF b=>obtain⟨t,e⟩:=(show ∃t,u=Value.bytes b t from r);cases e;rfl
 |Ts b=>obtain⟨t,e⟩:=(show ∃t,u=Value.float b t from r);cases e;rfl
 |ref a=>cases (show u=Value.ref a from r);rfl
 |ty n=>cases (show u=Value.type n from r);rfl
section
variable {P:cz}{w:cA}{H H':Hp}{h h':Heap}{a C dx:cD}{fs Y6:List (Str×V)}
theorem mR (gb:qV P w H h) (e:H a=some (.ins C dx fs)):∃mA,CY h a dx C mA/\(∀f,pj (fs.lookup f) (mA f))/\PySem.Within mA (fs.map (·.1))/\fs.length<=1000/\H dx=some (.own a):=by
 obtain⟨d,z,ne,ob,mA,n,r,q⟩:=(show il P w H h a (.ins C dx fs)from gb a _ e)
 exact⟨mA,⟨ob,n,ne⟩,r,q,z,d⟩
end
structure Lz (K:W.Frag) (C:cD):Prop where
 pg:W.plainGet K C Str.empty=true
 hd:W.hasDictIn K C=true
 po:W.plainOver K C=true
 sa:W.findIn K (.ref C) "__setattr__"=some (some (.builtin "object.__setattr__"))
theorem Lz.get {K:W.Frag}{C:cD}(c:Lz K C) (f:Str):W.plainGet K C f=true:=c.pg
def pA (K:W.Frag) (C:cD) (f:Str):Prop:=W.findIn K (.ref C) f=some none
theorem pA.Rt {K:W.Frag}{C:cD}{f:Str}(n:pA K C f):W.takerIn K C f=some none:=by
 unfold W.takerIn;rw[show W.findIn K (.ref C) f=some none from n]
 rfl
structure Meth (K:W.Frag) (C:cD) (m:Str) (f:cD):Prop where
 at_:W.findIn K (.ref C) m=some (some (.ref f))
 fn:W.isFn K (.ref f)=true
 kp:W.keepIn K (.ref f)=true
section
variable {X:Cx}{pins:ck}{σ:St}{H:Hp}{s:cx}{a C dx:cD}{fs:List (Str×V)}{f:Str}{v:V}{A:cB}{E:cg}
theorem Dc {b:Bool}{Q:cg}(I:Inv X pins σ H s) (e:H a=some (.ins C dx fs)) (c:Lz X.K C) (n:pA X.K C f) (l:fs.lookup f=some v)
  (h:∀u s',Inv X pins σ H s'->RelV v u->Q u s'):wpAny (model X.prog X.w) A (getAttr (.ref a) f b) Q E s:=by
 obtain⟨mA,O,r,_,_,_⟩:=mR I.gb e;obtain⟨u,hu,ru⟩:=pj.some_of (v:=v) (o:=mA f) (by rw[<-l];exact r f)
 exact get_map I.Ge O (c.get f) c.hd n hu (Gn ru) (h u _ (I.tok _) ru)
theorem Dd {m:Str}{g:cD}{pl:Sem Bool}{Q:cw×cv->cx->Prop}(I:Inv X pins σ H s) (e:H a=some (.ins C dx fs)) (c:Lz X.K C) (k:Meth X.K C m g) (l:fs.lookup m=none)
  (h:Q (.ref g,[.ref a]) s):wpAny (model X.prog X.w) A (getMethod (.ref a) m pl) Q E s:=by
 obtain⟨mA,O,r,_,_,_⟩:=mR I.gb e;have hn:mA m=none:=pj.none_of (by rw[<-l];exact r m)
 exact Ig I.Ge O (c.get m) k.at_ k.fn hn h
theorem De {y:V}{u:cw}{Q:Unit->cx->Prop}(I:Inv X pins σ H s) (e:H a=some (.ins C dx fs)) (c:Lz X.K C) (n:pA X.K C f) (hl:fs.length<1000) (ry:RelV y u)
  (h:∀s',Inv X pins σ (upd H a (.ins C dx (oj f y fs))) s'->Q () s'):wpAny (model X.prog X.w) A (setAttr (.ref a) f u) Q E s:=by
 obtain⟨mA,O,r,wi,_,ho⟩:=mR I.gb e;have hz:(fs.map (·.1)).length<=sizeLine:=by rw[ae,bu];omega
 refine Ly I.Ge O c.sa c.po n.Rt c.hd wi hz λh' O' sb=>h _ ?_
 have hd:∃o,h'.get? dx=some o:=let ⟨o,_,_,e',_⟩:=O'.ns;⟨o,e'⟩;refine I.write (x:=a) (e:=dx) (by rw[e];exact True.intro) (.inr ho) (λb q hb z=>(sb.2 b hb).trans z) hd ?_
 refine⟨by rw[cR O.ne];exact ho,?_,O.ne,O'.obj,_,O'.ns,λg=>?_,λg hg=>?_⟩
 ·have:=uN f y fs;omega
 ·show pj ((oj f y fs).lookup g) (if g=f then some u else mA g)
  rw[ip];by_cases q:g=f
  ·rw[if_pos q,if_pos q];exact ry
  ·rw[if_neg q,if_neg q];exact r g
 ·by_cases q:g=f
  ·rw[q];exact(t9 f y fs).1
  ·refine(t9 f y fs).2 g (wi g λz=>hg ?_)
   show(if g=f then some u else mA g)=none
   rw[if_neg q];exact z
theorem Inv.made (I:Inv X pins σ H s):Inv X pins σ (upd (upd H s.heap.objs.size (.own (s.heap.objs.size+1))) (s.heap.objs.size+1) (.ins C s.heap.objs.size []))
  {s with heap:=(s.heap.push W.emptyDict).push (W.instObj C s.heap.objs.size)}:=by
 have e1:(s.heap.push W.emptyDict).get? s.heap.objs.size=some W.emptyDict:=ay s.heap rfl;have e2:((s.heap.push W.emptyDict).push (W.instObj C s.heap.objs.size)).get? (s.heap.objs.size+1)=some (W.instObj C s.heap.objs.size):=by
  have:=ay (s.heap.push W.emptyDict) (o:=W.instObj C s.heap.objs.size) rfl
  rwa [Heap.size_push]at this
 have e3:(s.heap.push W.emptyDict).Ns s.heap.objs.size (λ_=>none):=⟨W.emptyDict,#[],_,e1,rfl,(λe he=>absurd he (by simp)),λ_=>rfl⟩
 have I1:=I.laid (a:=s.heap.objs.size) (o:=.own (s.heap.objs.size+1)) (h':=s.heap.push W.emptyDict) (t':=s.toks) (λb u q=>ag _ q) (au _) ⟨_,e1⟩
 refine I1.laid (a:=s.heap.objs.size+1) (o:=.ins C s.heap.objs.size []) (t':=s.toks) (λb u q=>ag _ q) (Nat.le_of_eq (Heap.size_push _ _)) ?_
 have ne:s.heap.objs.size≠s.heap.objs.size+1:=aD (Nat.lt_succ_self _);refine⟨by rw[cR ne,da],bL _,ne,e2,λ_=>none,(Heap.Ns1.of_empty e3).at λo q=>ag _ q,λ_=>True.intro,λy hy=>absurd rfl hy⟩
theorem LA {prog:cz}{w:cA}{env:Env}{e:cE}{f:Str}{pos:Pos}{s:cx}{Q:cg}(hb:attributeBase e f env (eval e env)=eval e env)
  (h:wpAny (model prog w) A (eval e env) (λo s₁=>wpAny (model prog w) A (getAttr o f true) Q E s₁) E s):wpAny (model prog w) A (eval (.Attribute e f pos) env) Q E s:=
 Attribute_any_ h (by rw[arm_eval_Attribute,hb])
end
noncomputable def Ru (K:W.Frag) (ta:TE) (f:Str):TE:=λσ H Q=>ta σ H λx H1=>∃a C dx fs v,x=.ref a/\H1 a=some (.ins C dx fs)/\Lz K C/\pA K C f/\fs.lookup f=some v/\Q v H1
noncomputable def UG (K:W.Frag) (ta tv:TE) (f:Str):TS:=λD σ H=>tv σ H λy H1=>ta σ H1 λx H2=>∃a C dx fs,x=.ref a/\H2 a=some (.ins C dx fs)/\Lz K C/\pA K C f/\fs.length<1000/\
 D.nx σ (upd H2 a (.ins C dx (oj f y fs)))
section
variable {X:Cx}{o e value:cE}{f:Str}{pos pos' Rv:Pos}{ta tv:TE}
theorem zA (he:PE X e ta) (hb:attributeBase e f X.env (eval e X.env)=eval e X.env):PE X (.Attribute e f pos) (Ru X.K ta f):=by
 intro pins s σ H Q I h;refine LA hb (gR (he pins s σ H _ I h) λu s1 ⟨x,H1,I1,rx,a,C,dx,fs,v,ex,ea,c,n,l,q⟩=>?_)
 subst ex;obtain rfl:u=Value.ref a:=rx;exact Dc I1 ea c n l λu' s2 I2 ru=>⟨v,H1,I2,ru,q⟩
theorem Ii (ha:PE X o ta) (hv:PE X value tv) (hs:swapsWith value (some (.Attribute o f pos')) pos.line X.env=pure false):PS X (.Assign [.Attribute o f pos'] value pos) (UG X.K ta tv f):=by
 intro pins s σ H D I h;refine plainObj_wpAny_Assign_Attribute (gR (hv pins s σ H _ I h) λu s1 ⟨y,H1,I1,ry,q⟩=>gR (ha pins s1 σ H1 _ I1 q) λov s2 ⟨x,H2,I2,rx,a,C,dx,fs,ex,ea,c,n,l,q2⟩=>?_) hs
 subst ex;obtain rfl:ov=Value.ref a:=rx;exact De I2 ea c n l ry λs3 I3=>⟨σ,_,I3,q2⟩
end
section
variable {X:Cx}{pins:ck}{σ:St}{H:Hp}{s:cx}{A:cB}{E:cg}{Q:cg}{c:cw}{b:Bool}
end
end L2
namespace L2
open PySem PySem.Spec PyProof.Rows
structure gy (k:Nat) (A:cB):Prop where
 hd:A.handled=none
 dp:A.depth+3*k+5<recursionLimit
 un:A.units+16*k+200<cLine
 gd:A.guards=some []
theorem gy.mono {j k:Nat}{A:cB}(r:gy k A) (h:j<=k):gy j A:=⟨r.hd,by have:=r.dp;omega,by have:=r.un;omega,r.gd⟩
theorem gy.deeper {k:Nat}{A:cB}(r:gy (k+1) A) (env:Env):gy k (A.deeper env):=
 ⟨r.hd,by have:=r.dp;show A.depth+1+3*k+5<_;omega,by have:=r.un;show A.units+3+16*k+200<_;omega,r.gd⟩
theorem Df {A:cB}{C:cD}{us:cv}{kw:List (Str×cw)}:(A.under (.builtin "type.__call__" ⟨.ref C::us,kw⟩)).depth=A.depth+1:=by
 first|rfl|simp[Around.under,Code.weight,Code.isCreation,Code.isGuard,Code.isCaller,Code.frames,Code.isFrame,guardIds]
theorem Dg {A:cB}{C:cD}{us:cv}{kw:List (Str×cw)}:(A.under (.builtin "type.__call__" ⟨.ref C::us,kw⟩)).units=A.units+1:=by
 first|rfl|simp[Around.under,Code.cUnits,Code.frames,Code.isFrame]
theorem A6 {A:cB}{C:cD}{us:cv}{kw:List (Str×cw)}:(A.under (.builtin "type.__call__" ⟨.ref C::us,kw⟩)).guards=A.guards:=by
 cases A with|mk hd d fr gs u=>cases gs<;>rfl
theorem gy.make {k:Nat}{A:cB}(r:gy (k+1) A) (C:cD) (us:cv) (kw:List (Str×cw)):gy k (A.under (.builtin "type.__call__" ⟨.ref C::us,kw⟩)):=
 ⟨r.hd,by have:=r.dp;rw[Df];omega,by have:=r.un;rw[Dg];omega,A6.trans r.gd⟩
theorem gy.depth {k:Nat}{A:cB}(r:gy k A):A.depth<recursionLimit:=by have:=r.dp;omega
theorem gy.units {k:Nat}{A:cB}(r:gy k A):A.units+64<cLine:=by have:=r.un;omega
noncomputable def UH:TA:=λ_ H Q=>Q [] H
noncomputable def Rw (ta:TE) (tr:TA):TA:=λσ H Q=>ta σ H λx H1=>tr σ H1 λxs H2=>Q (x::xs) H2
section
variable {X:Cx}{e:cE}{es:List cE}{te:TE}{t:TA}{pos:Pos}
theorem ua:PA X [] UH:=λ_ _ _ _ H Q I h=>Calls.spliced_nil ⟨[],H,I,.nil,h⟩
theorem qm (ha:PE X e te) (hr:PA X es t) (hs:starEach (e::es) X.env=(false,eval e X.env)::starEach es X.env:=by rfl):PA X (e::es) (Rw te t):=by
 intro pos pins s σ H Q I h;rw[hs];show wpAny _ _ (spliced ((false,eval e X.env)::backTo pos (starEach es X.env))) _ _ s;refine Calls.spliced_cons (gR (ha pins s σ H _ I h) λu s1 ⟨x,H1,I1,r1,q1⟩=>?_)
 exact gR (hr pos pins s1 σ H1 _ I1 q1) λus s2 ⟨xs,H2,I2,r2,q2⟩=>⟨x::xs,H2,I2,.cons r1 r2,q2⟩
noncomputable def UI (t:TA):TE:=λσ H Q=>t σ H λxs H1=>xs.length<=sizeLine/\∀p,H1 p=none->Q (.ref p) (upd H1 p (.tup xs))
noncomputable def UJ (t:TA):TE:=λσ H Q=>t σ H λxs H1=>xs.length<=sizeLine/\∀p,H1 p=none->Q (.ref p) (upd H1 p (.lst xs))
theorem Ot {x1} (h:PA X es t):PE X (.Tuple es x1 pos) (UI t):=by
 intro pins s σ H Q I hq;refine wpAny_Tuple_spliced (gR (h pos pins s σ H _ I hq) λus s1 ⟨xs,H1,I1,r,z,q⟩=>⟨by rw[<-r.length];exact z,?_⟩)
 have hf:H1 s1.heap.objs.size=none:=I1.gb.fresh (au _);refine⟨.ref s1.heap.objs.size,upd H1 s1.heap.objs.size (.tup xs),I1.laid (t':=s1.toks) (λb u e=>ag _ e) (au _) ?_,rfl,q _ hf⟩
 exact⟨z,us,r,⟨_,ay _ rfl,rfl,_,rfl⟩⟩
theorem Ou (h:PA X es t):PE X (.List es pos) (UJ t):=by
 intro pins s σ H Q I hq;refine wpAny_List_spliced (gR (h pos pins s σ H _ I hq) λus s1 ⟨xs,H1,I1,r,z,q⟩=>⟨by rw[<-r.length];exact z,?_⟩)
 have hf:H1 s1.heap.objs.size=none:=I1.gb.fresh (au _);refine⟨.ref s1.heap.objs.size,upd H1 s1.heap.objs.size (.lst xs),I1.laid (t':=s1.toks) (λb u e=>ag _ e) (au _) ?_,rfl,q _ hf⟩
 exact⟨z,us,0,r,ay _ rfl⟩
end
noncomputable abbrev Sp:=List V->Hp->VK->XK->Prop
noncomputable abbrev Gp:=List Env->Hp->cx->XK->cg
structure Dh (P:cz) (w:cA) (K:W.Frag) (mg:cj) (base:Heap) (A:cB) (outer:List Env) (s:cx) (H:Hp):Prop where
 frames:A.frames=some outer
 mod:Mod K mg base
 bs:∀b o,base.get? b=some o->s.heap.get? b=some o/\H b=none
 La:base.objs.size<=s.heap.objs.size
 vb:s.heap.FunFrames base outer
 N0:∀b∈HF outer,H b=none
 gb:qV P w H s.heap
 bare:AllBare s.gens
 tb:Ga K mg base H
theorem Ga.un {K:W.Frag}{mg:cj}{base:Heap}{fs ex:List cD}{H H':Hp}{h h':Heap}(t:Ga K mg base H) (u:Un fs ex H H' h h'):Ga K mg base H':=λx c Pt pos qual hm ht=>by
 obtain⟨⟨m1,e1⟩,hr⟩:=t x c Pt pos qual hm ht;obtain⟨m2,e2⟩:=u.xI Pt _ e1;exact⟨⟨m1++m2,by rw[e2,Array.append_assoc]⟩,hr⟩
def CE (outer:List Env) (P:cz) (w:cA) (H:Hp) (s:cx) (Q:VK) (u:cw) (s':cx):Prop:=
 ∃v H',s'.os=s.os/\AllBare s'.gens/\Un (HF outer) [] H H' s.heap s'.heap/\qV P w H' s'.heap/\RelV v u/\Q v H'
def CR (CX:Gp) (outer:List Env) (P:cz) (w:cA) (H:Hp) (s:cx) (Q:VK) (E:XK) (r:Result) (s':cx):Prop:=
 match r with
 |.ok (.ret u)=>CE outer P w H s Q u s'
 |.ok _=>False
 |.error e=>CX outer H s E e s'
structure eA (P:cz) (w:cA) (K:W.Frag) (mg:cj) (base:Heap) (CX:Gp) (k:Nat) (f:cD) (fd:cy) (ps:List Str) (sp:Sp):Prop where
 len:∀vs H Q E,sp vs H Q E->vs.length=ps.length
 run:∀(A:cB) (outer:List Env) (s:cx) (H:Hp) (args:Args) (us:cv) (vs:List V) (Q:VK) (E:XK),gy k A->Dh P w K mg base A outer s H->BindsTo s fd args (ps.zip us)->Vals vs us->sp vs H Q E->
  codeAny (model P w) A (.call (.ref f) args) (CR CX outer P w H s Q E) s
theorem eA.mono {P:cz}{w:cA}{K:W.Frag}{mg:cj}{base:Heap}{CX:Gp}{j k:Nat}{f:cD}{fd:cy}{ps:List Str}{sp:Sp}(F:eA P w K mg base CX j f fd ps sp) (h:j<=k):
  eA P w K mg base CX k f fd ps sp:=⟨F.len,λA outer s H args us vs Q E hr=>F.run A outer s H args us vs Q E (hr.mono h)⟩
theorem eA.imp {P:cz}{w:cA}{K:W.Frag}{mg:cj}{base:Heap}{CX:Gp}{k:Nat}{f:cD}{fd:cy}{ps:List Str}{sp WM:Sp}(F:eA P w K mg base CX k f fd ps sp)
  (h:∀vs H Q E,WM vs H Q E->sp vs H Q E):eA P w K mg base CX k f fd ps WM:=
 ⟨λvs H Q E q=>F.len vs H Q E (h _ _ _ _ q),λA outer s H args us vs Q E hr he hb hv hs=>F.run A outer s H args us vs Q E hr he hb hv (h _ _ _ _ hs)⟩
theorem Dh.make {P:cz}{w:cA}{K:W.Frag}{mg:cj}{base:Heap}{A:cB}{outer:List Env}{s:cx}{H:Hp}(e:Dh P w K mg base A outer s H) (C:cD) (us:cv) (kw:List (Str×cw)):
  Dh P w K mg base (A.under (.builtin "type.__call__" ⟨.ref C::us,kw⟩)) outer s H:=⟨by first|exact e.frames|(simpa [Around.under,Code.envs,Code.isFrame,pushEnvs]using e.frames),e.mod,e.bs,e.La,e.vb,e.N0,e.gb,e.bare,e.tb⟩
section
variable {X:Cx}{pins:ck}{σ:St}{H:Hp}{s s':cx}
theorem Inv.Rx (I:Inv X pins σ H s):Dh X.prog X.w X.K X.mg X.base X.A X.stack s H:=
 ⟨I.ok.frames,I.ok.mod,I.bs,aB I.ok.La I.sz,I.stack,I.EB,I.gb,I.bare,I.ok.tb.un I.base⟩
theorem Inv.after {Q:VK}{u:cw}(I:Inv X pins σ H s) (h:CE X.stack X.prog X.w H s Q u s'):EP X pins σ Q u s':=by
 obtain⟨v,H',os,bare,un,gb,r,q⟩:=h;obtain⟨hh,g,d,t,Ov⟩:=s';obtain rfl:Ov=s.os:=os;exact⟨v,H',I.call (h':=hh) (g':=g) (d':=d) (t':=t) (ch:=[]) un gb bare (λb z=>absurd z (by simp)),r,q⟩
end
noncomputable def Nj (sp:Sp) (zB:List V) (E:XK) (t:TA):TE:=λσ H Q=>t σ H λvs H1=>sp (vs++zB) H1 Q E
noncomputable def Ry (C:cD) (m:Str) (sp:Sp) (zB:List V) (E:XK) (ta:TE) (t:TA):TE:=λσ H Q=>ta σ H λx H1=>∃a dx fs,x=.ref a/\H1 a=some (.ins C dx fs)/\fs.lookup m=none/\
 t σ H1 λvs H2=>sp (x::(vs++zB)) H2 Q E
noncomputable def Rz (C:cD) (sp:Sp) (zB:List V) (E:XK) (t:TA):TE:=λσ H Q=>t σ H λvs H1=>∀x dx,H1 x=none->H1 dx=none->dx≠x->
 sp (.ref x::(vs++zB)) (upd (upd H1 dx (.own x)) x (.ins C dx [])) (λv H2=>v=.eU/\Q (.ref x) H2) E
def Binds (K:W.Frag) (fd:cy) (ps:List Str) (ds:cv):Prop:=
 ∀(s:cx) (us:cv),K.In s.heap->(us++ds).length=ps.length->BindsTo s fd ⟨us,[]⟩ (ps.zip (us++ds))
theorem Binds.all {K:W.Frag}{fd:cy}{ps:List Str}(h:∀us:cv,us.length=ps.length->bindArgs fd ⟨us,[]⟩=pure (ps.zip us)):Binds K fd ps []:=λs us _ hl=>by
 rw[bB]at hl ⊢;exact .of_eq (h us hl)
def Passes (CX:Gp) (X:Cx) (E:XK):Prop:=∀(pins:ck) (σ:St) (H:Hp) (s:cx) (e:cw) (s':cx),Inv X pins σ H s->CX X.stack H s E e s'->X.xe e s'
section
variable {X:Cx}{CX:Gp}{k:Nat}{f C:cD}{fd:cy}{ps:List Str}{sp:Sp}{zB:List V}{ds:cv}{E:XK}{x m:Str}{p pos apos:Pos}{e o:cE}{es:List cE}{ta:TE}{t:TA}
theorem Ij {pins:ck}{σ:St}{H:Hp}{s:cx}{Q:VK}{us:cv}{vs:List V}(F:eA X.prog X.w X.K X.mg X.base CX k f fd ps sp) (hr:gy k X.A) (hb:Binds X.K fd ps ds) (hd:Vals zB ds) (hx:Passes CX X E)
  (I:Inv X pins σ H s) (r:Vals vs us) (h:sp (vs++zB) H Q E):wpAny (model X.prog X.w) X.A (call (.ref f) us) (EP X pins σ Q) X.xe s:=by
 have r2:Vals (vs++zB) (us++ds):=r.append hd;have hl:(us++ds).length=ps.length:=by rw[<-r2.length];exact F.len _ _ _ _ h
 refine wpAny_call (codeAny_mono (F.run X.A X.stack s H ⟨us,[]⟩ (us++ds) (vs++zB) Q E hr I.Rx (hb s us I.Ge hl) r2 h) λr s' hq=>?_)
 cases r with
 |error e=>exact hx pins σ H s e s' I hq
 |ok fl=>
  cases fl with
  |ret u=>exact I.after hq
  |next=>exact False.elim hq
  |brk=>exact False.elim hq
  |cont=>exact False.elim hq
theorem LB (F:eA X.prog X.w X.K X.mg X.base CX k f fd ps sp) (hr:gy k X.A) (hg:Gl X x) (hm:X.mg x=some (.ref f)) (hk:W.keepIn X.K (.ref f)=true) (hb:Binds X.K fd ps ds) (hd:Vals zB ds) (hx:Passes CX X E)
  (ha:PA X (e::es) t) (sk:(x==("__debug__":Str))=false:=by decide) (he:starEach (e::es) X.env=(false,eval e X.env)::starEach es X.env:=by rfl) (kO:(backTo pos (starEach es X.env)).any (·.1)=false:=by rfl):
  PE X (.Call (.Name x p) (e::es) [] pos) (Nj sp zB E t):=by
 intro pins s σ H Q I h;refine wpAny_Call_Name_kw (zy I hg hm ?_ sk);refine W.callWith_K (h₀:=X.base) I.ok.mod.Q1 hk (gR (ha pos pins s σ H _ I h) λus s1 ⟨vs,H1,I1,r,q⟩=>⟨I1.Ge,?_⟩) he kO
 exact Ij F hr hb hd hx I1 r q
theorem EJ {pl:Sem Bool}(he:PE X o ta) (c:Lz X.K C) (hm:Meth X.K C m f) (F:eA X.prog X.w X.K X.mg X.base CX k f fd ps sp) (hr:gy k X.A) (hb:Binds X.K fd ps ds) (hd:Vals zB ds) (hx:Passes CX X E) (ha:PA X (e::es) t)
  (qN:starEach (e::es) X.env=(false,eval e X.env)::starEach es X.env:=by rfl) (kO:(backTo pos (starEach es X.env)).any (·.1)=false:=by rfl)
  (ht:eval (.Call (.Attribute o m apos) (e::es) [] pos) X.env=(do
   let ov <-eval o X.env
   standAt apos.atName
   let (f,first) <-holding [ov] (getMethod ov m pl)
   callWith pos f first (backTo pos (starEach (e::es) X.env)) (backToKw pos (keywordEach [] X.env))):=by rfl):
  PE X (.Call (.Attribute o m apos) (e::es) [] pos) (Ry C m sp zB E ta t):=by
 intro pins s σ H Q I h;refine W.methodCall_KW (pl:=pl) (gR (he pins s σ H _ I h) λu s1 ⟨x,H1,I1,rx,a,dx,fs,ex,ea,l,q⟩=>?_) ht
 subst ex;obtain rfl:u=Value.ref a:=rx;refine Dd I1 ea c hm l ?_;refine W.callWith_K (first:=[.ref a]) (h₀:=X.base) I.ok.mod.Q1 hm.kp (gR (ha pos pins s1 σ H1 _ I1 q) λus s2 ⟨vs,H2,I2,r,q2⟩=>⟨I2.Ge,?_⟩) qN kO
 exact Ij (us:=.ref a::us) (vs:=.ref a::vs) F hr hb hd hx I2 (.cons rfl r) q2
structure Mk (K:W.Frag) (C f:cD):Prop where
 makes:W.makesIn K C=true
 init:W.findIn K (.ref C) "__init__"=some (some (.ref f))
 fn:W.isFn K (.ref f)=true
 kp:W.keepIn K (.ref C)=true
theorem Ik {pins:ck}{σ:St}{H:Hp}{s:cx}{Q:VK}{us:cv}{vs:List V}(M:Mk X.K C f) (F:eA X.prog X.w X.K X.mg X.base CX k f fd ps sp) (hr:gy (k+1) X.A) (hb:Binds X.K fd ps ds) (hd:Vals zB ds)
  (hx:Passes CX X E) (I:Inv X pins σ H s) (r:Vals vs us)
  (h:∀x dx,H x=none->H dx=none->dx≠x->sp (.ref x::(vs++zB)) (upd (upd H dx (.own x)) x (.ins C dx [])) (λv H2=>v=.eU/\Q (.ref x) H2) E):
  wpAny (model X.prog X.w) X.A (call (.ref C) us) (EP X pins σ Q) X.xe s:=by
 have hq:=h (s.heap.objs.size+1) s.heap.objs.size (I.gb.fresh (Nat.le_succ _)) (I.gb.fresh (au _)) (aD (Nat.lt_succ_self _));have I2:=Inv.made (C:=C) I;have r2:Vals (V.ref (s.heap.objs.size+1)::(vs++zB)) (Value.ref (s.heap.objs.size+1)::(us++ds)):=.cons rfl (r.append hd);have hl:(Value.ref (s.heap.objs.size+1)::us++ds).length=ps.length:=by
  have e:=r2.length;rw[F.len _ _ _ _ hq]at e;exact e.symm
 refine wpAny_call (Ih (f:=f) I.Ge M.makes M.init (beq_iff_eq.mp M.fn) (codeAny_mono (F.run _ X.stack _ _ ⟨Value.ref (s.heap.objs.size+1)::us,[]⟩ (Value.ref (s.heap.objs.size+1)::(us++ds)) _ _ E (hr.make C us [])
  (I2.Rx.make C us []) (hb _ (Value.ref (s.heap.objs.size+1)::us) I2.Ge hl) r2 hq) λr s' Ox=>?_))
 cases r with
 |error e=>exact hx pins σ _ _ e s' I2 Ox
 |ok fl=>
  cases fl with
  |ret u=>
   obtain⟨v,H',I3,rv,ev,q3⟩:=I2.after Ox;subst ev;exact⟨rv,⟨V.ref (s.heap.objs.size+1),H',I3,rfl,q3⟩⟩
  |next=>exact False.elim Ox
  |brk=>exact False.elim Ox
  |cont=>exact False.elim Ox
theorem LC (M:Mk X.K C f) (F:eA X.prog X.w X.K X.mg X.base CX k f fd ps sp) (hr:gy (k+1) X.A) (hg:Gl X x) (hm:X.mg x=some (.ref C)) (hb:Binds X.K fd ps ds) (hd:Vals zB ds) (hx:Passes CX X E)
  (ha:PA X (e::es) t) (sk:(x==("__debug__":Str))=false:=by decide) (he:starEach (e::es) X.env=(false,eval e X.env)::starEach es X.env:=by rfl) (kO:(backTo pos (starEach es X.env)).any (·.1)=false:=by rfl):
  PE X (.Call (.Name x p) (e::es) [] pos) (Rz C sp zB E t):=by
 intro pins s σ H Q I h;refine wpAny_Call_Name_kw (zy I hg hm ?_ sk);refine W.callWith_K (h₀:=X.base) I.ok.mod.Q1 M.kp (gR (ha pos pins s σ H _ I h) λus s1 ⟨vs,H1,I1,r,q⟩=>⟨I1.Ge,?_⟩) he kO
 exact Ik M F hr hb hd hx I1 r q
end
section
variable {X:Cx}{CX:Gp}{k:Nat}{f C:cD}{fd:cy}{ps ks:List Str}{sp:Sp}{E:XK}{x m:Str}{p pos apos Zc:Pos}{e o:cE}{es:List cE}{kws:List Keyword}{te ta:TE}{t tk:TA}{nm:Option Str}
variable {g:cv->cv->cv}{gV:List V->List V->List V}
end
structure du (N P:List Str) (sc:Scope):Prop where
 kind:sc.kind=.function:=by rfl
 co:sc.isCoroutine=false:=by rfl
 gen:sc.isGenerator=false:=by rfl
 nd:N.Nodup:=by decide +kernel
 pre:N.take P.length=P:=by rfl
 par:∀x∈P,sc.names.lookup x=some .local\/sc.names.lookup x=some .cell:=by decide +kernel
 Oy:∀y∈sc.names,y.2≠.free:=by decide +kernel
theorem yz {kindOf:Str->Option NameKind}{x:Str}:∀{binds:List (Str×cw)}{m:cj},(∀v,(x,v)∉binds)->bindL kindOf binds m x=m x
 |[],_,_=>rfl
 |(n,v)::r,m,h=>by
  unfold bindL;rw[yz λw hw=>h w (ai _ hw)]
  split
  ·have:x≠n:=by rintro rfl;exact h v af
   simp[this]
  ·rfl
theorem yA {kindOf:Str->Option NameKind}{x:Str}:∀{binds:List (Str×cw)}{m:cj},(∀v,(x,v)∉binds)->bindC kindOf binds m x=m x
 |[],_,_=>rfl
 |(n,v)::r,m,h=>by
  unfold bindC;rw[yA λw hw=>h w (ai _ hw)]
  split
  ·rfl
  ·have:x≠n:=by rintro rfl;exact h v af
   simp[this]
theorem yB {kindOf:Str->Option NameKind}{x:Str}{v:cw}:∀{P:List Str}{vs:cv}{i:Nat}{m:cj},P.Nodup->P[i]? =some x->vs[i]? =some v->kindOf x=some .local->
  bindL kindOf (P.zip vs) m x=some v
 |[],_,_,_,_,h,_,_=>by simp at h
 |_::_,[],_,_,_,_,h,_=>by simp at h
 |p::P,w::vs,0,m,nd,h1,h2,hk=>by
  simp at h1 h2;subst h1;subst h2;show bindL kindOf ((p,w)::P.zip vs) m p=_;unfold bindL;rw[yz λv hv=>(List.nodup_cons.mp nd).1 (List.of_mem_zip hv).1,if_pos hk]
  simp
 |p::P,w::vs,i+1,m,nd,h1,h2,hk=>by
  show bindL kindOf ((p,w)::P.zip vs) m x=_;unfold bindL;exact yB (i:=i) (List.nodup_cons.mp nd).2 (by simpa using h1) (by simpa using h2) hk
theorem yC {kindOf:Str->Option NameKind}{x:Str}{v:cw}:∀{P:List Str}{vs:cv}{i:Nat}{m:cj},P.Nodup->P[i]? =some x->vs[i]? =some v->kindOf x≠some .local->
  bindC kindOf (P.zip vs) m x=some v
 |[],_,_,_,_,h,_,_=>by simp at h
 |_::_,[],_,_,_,_,h,_=>by simp at h
 |p::P,w::vs,0,m,nd,h1,h2,hk=>by
  simp at h1 h2;subst h1;subst h2;show bindC kindOf ((p,w)::P.zip vs) m p=_;unfold bindC;rw[yA λv hv=>(List.nodup_cons.mp nd).1 (List.of_mem_zip hv).1,if_neg hk]
  simp
 |p::P,w::vs,i+1,m,nd,h1,h2,hk=>by
  show bindC kindOf ((p,w)::P.zip vs) m x=_;unfold bindC;exact yC (i:=i) (List.nodup_cons.mp nd).2 (by simpa using h1) (by simpa using h2) hk
noncomputable def start (N:List Str) (vs:List V):St:=vs.map some++List.replicate (N.length-vs.length) none
noncomputable def rN (CX:Gp) (P:cz) (w:cA) (K:W.Frag) (mg:cj) (base:Heap) (N:List Str) (qual:Str) (scope:Scope) (f:cD) (cd:cw) (A:cB) (outer:List Env) (s:cx) (H:Hp) (E:XK):Cx where
 prog:=P
 w:=w
 K:=K
 mg:=mg
 base:=base
 A:=A.deeper (envOfC qual scope s.heap.objs.size f cd)
 N:=N
 s₀:=s
 H₀:=H
 env:=envOfC qual scope s.heap.objs.size f cd
 outer:=outer
 stack:=envOfC qual scope s.heap.objs.size f cd::outer
 ex:=[]
 calm:=true
 fn:=λ_=>true
 pn:=[]
 xe:=λe s'=>wpAny (model P w) (A.deeper (envOfC qual scope s.heap.objs.size f cd)) (leaving (envOfC qual scope s.heap.objs.size f cd) e) (λ_ HH=>CX outer H s E e HH) (λe' HH=>CX outer H s E e' HH) s'
theorem A7 {sc:Scope}{n:Nat}{x:Str}(h:sc.names.lookup x=some .cell):∃c,(cellsFrom n sc.names []).lookup x=some c:=by
 have q:=W.cellsFrom_some sc.names n [] (.inl h);exact Option.isSome_iff_exists.mp q
theorem Gq {CX:Gp}{P:cz}{w:cA}{K:W.Frag}{mg:cj}{base:Heap}{N ps:List Str}{qual:Str}{scope:Scope}{f:cD}{cd:cw}{A:cB}{outer:List Env}{s s1:cx}{H:Hp}{E:XK}{us:cv}{vs:List V}
  (S:du N ps scope) (hd:A.handled=none) (e0:Dh P w K mg base A outer s H) (hl:vs.length=ps.length) (r:Vals vs us)
  (x:InCallC s s.heap.objs.size (bindL (envOfC qual scope s.heap.objs.size f cd).kindOf (ps.zip us) λ_=>none) (cellsFrom (s.heap.objs.size+1) scope.names []) (bindC (envOfC qual scope s.heap.objs.size f cd).kindOf (ps.zip us) λ_=>none) s1):
  Inv (rN CX P w K mg base N qual scope f cd A outer s H E) [] (start N vs) H s1:=by
 have kO:ps.length<=N.length:=by have:=congrArg List.length S.pre;rw[bJ]at this;omega
 obtain⟨h1,tk,rfl,hk⟩:=x.done;have RA:∀b:cD,b∉(rN CX P w K mg base N qual scope f cd A outer s H E).ex:=λb z=>absurd (show b∈([]:List cD)from z) (by simp)
 refine⟨⟨e0.mod,S.kind,rfl,rfl,au _,λy z c h1 h2=>?_,λy hy=>?_,λy c _ h=>?_,λ_=>hd,Around.frames_deeper e0.frames,.inr ⟨rfl,rfl⟩,λb z=>absurd z (RA b),e0.bs,e0.La,λb _ _=>RA b,λb z=>absurd z (RA b),e0.vb,e0.N0,e0.tb⟩,
  rfl,e0.bare,Un.kept hk,⟨_,x.toInCall.ns,λi y v h1 h2 h3=>?_⟩,λy c h=>⟨_,x.cell y c h⟩,e0.gb.fresh (au _),λy c h=>?_,λp hp=>absurd (show p∈([]:ck)from hp) (by simp),e0.gb.kept hk,?_⟩
 ·exact name_of_addr x.apart (PySem.mem_of_lookup h1) (PySem.mem_of_lookup h2)
 ·have hy:scope.names.lookup y=some .cell\/scope.names.lookup y=some .free:=hy;rcases hy with hy|hy
  ·exact A7 hy
  ·exact absurd rfl (S.Oy _ (PySem.mem_of_lookup hy))
 ·exact bg (x.above y c (PySem.mem_of_lookup h))
 ·have hi:i<vs.length:=by
   unfold start at h2;by_cases hi:i<vs.length
   ·exact hi
   ·rw[aP (by simpa using hi)]at h2
    rw[bf]at h2;split at h2<;>cases h2
  have ha:vs[i]? =some v:=by
   unfold start at h2;rw[aJ (by simpa using hi),av]at h2
   cases e:vs[i]? with
   |none=>rw[e]at h2;cases h2
   |some a=>rw[e]at h2;cases h2;rfl
  obtain⟨u,hu,rv⟩:=r.get ha;have hp:ps[i]? =some y:=by
   rw[<-S.pre,List.getElem?_take_of_lt (by omega)];exact h1
  have WN:ps.Nodup:=by rw[<-S.pre];exact S.nd.sublist (List.take_sublist _ _)
  refine⟨u,rv,?_⟩;rcases S.par y (bh hp)with k|k
  ·exact .inl ⟨k,yB WN hp hu k⟩
  ·obtain⟨c,e⟩:=A7 (n:=s.heap.objs.size+1) k;refine .inr ⟨.inl k,c,e,?_⟩;have q:=x.cell y c e;rw[yC WN hp hu (by show scope.names.lookup y≠_;rw[k];decide)]at q
   exact q
 ·exact e0.gb.fresh (bg (x.above y c (PySem.mem_of_lookup h)))
 ·unfold start;show _=N.length;rw[aQ,ae,List.length_replicate];omega
theorem Nk {CX:Gp}{P:cz}{w:cA}{K:W.Frag}{mg:cj}{base:Heap}{k:Nat}{f:cD}{name qual:Str}{params:Arguments}{body:List cF}{scope:Scope}{dV kV doc pm fO ct oc:cw}{an od:cp}
  {LD:cq}{N ps:List Str}{sp:Sp}(lk:K.lookup f=some ⟨oc,od,.func (W.fnOf name qual params body scope dV kV doc pm an fO ct),LD⟩) (vd:W.codeIn K fO qual=true) (S:du N ps scope)
  (len:∀vs H Q E,sp vs H Q E->vs.length=ps.length)
  (kP:∀(A:cB) (outer:List Env) (s:cx) (H:Hp) (vs:List V) (Q:VK) (E:XK),gy k (A.deeper (envOfC qual scope s.heap.objs.size f fO))->sp vs H Q E->
   ∃t,xK (rN CX P w K mg base N qual scope f fO A outer s H E) body t/\t {nx:=λ_ H'=>Q .eU H',rt:=Q} (start N vs) H):
  eA P w K mg base CX (k+1) f (W.fnOf name qual params body scope dV kV doc pm an fO ct) ps sp:=by
 refine⟨len,λA outer s H args us vs Q E hr e0 hb r Lc=>?_⟩
 have hl:=len _ _ _ _ Lc;have KX:K.In s.heap:=e0.mod.Q1.keeps λb o e=>(e0.bs b o e).1
 have lim:s.heap.NoLimit:=e0.mod.nolimit.keeps λb o e=>(e0.bs b o e).1
 have RB:∀y∈ps.zip us,scope.names.lookup y.1=some .local\/(scope.names.lookup y.1=some .cell/\((cellsFrom (s.heap.objs.size+1) scope.names []).lookup y.1).isSome=true):=λ⟨n,v⟩ hy=>by
  rcases S.par n (List.of_mem_zip hy).1 with q|q
  ·exact .inl q
  ·exact .inr ⟨q,W.cellsFrom_some _ _ _ (.inl q)⟩
 refine codeAny_call_function hr.depth (KX _ _ lk) rfl S.co S.gen rfl (W.codeRec_of KX vd) (hb _ _ _ _ ?_);refine wpAny_newFunctionEnv_cells S.kind RB λenv he s1 x=>?_
 subst he;refine⟨lim.keeps x.toInCall.keep,codeAny_func ?_⟩;obtain⟨t,ht,hq⟩:=kP A outer s H vs Q E (hr.deeper _) Lc;have I:Inv (rN CX P w K mg base N qual scope f fO A outer s H E) [] (start N vs) H s1:=Gq S hr.hd e0 hl r x;refine bP (ht [] s1 (start N vs) H _ I hq) (λfl s' hs=>?_) λe s' hs=>hs
 have fin:∀{σ':St}{H':Hp}{v:V}{u:cw},Inv (rN CX P w K mg base N qual scope f fO A outer s H E) [] σ' H' s'->RelV v u->Q v H'->CE outer P w H s Q u s':=
  λ{σ' H' v u} J rv q=>⟨v,H',J.os,J.bare,J.base,J.gb,rv,q⟩
 cases fl with
 |ret u=>
  obtain⟨v,σ',H',J,rv,q⟩:=hs;exact fin J rv q
 |next=>
  obtain⟨σ',H',J,q⟩:=hs;exact fin (v:=V.eU) (u:=Value.none) J rfl q
 |brk=>
  obtain⟨_,_,_,q⟩:=hs;exact False.elim q
 |cont=>
  obtain⟨_,_,_,q⟩:=hs;exact False.elim q
end L2
namespace L2
open PySem PySem.Spec PyProof.Rows
section
variable {X:Cx}{x:Str}{p pos:Pos}{e:cE}{es:List cE}{t:TA}{id T:String}{r:List V->Hp->VK->Prop}
noncomputable def TB (r:List V->Hp->VK->Prop) (t:TA):TE:=λσ H Q=>t σ H λvs H1=>r vs H1 Q
theorem A8 (hc:i6 X (.builtin id) r) (hg:Gl X x) (hm:X.mg x=none) (hv:bootBuiltins x=some (.builtin id)) (ha:PA X (e::es) t) (hn:x≠"__name__":=by decide) (sk:(x==("__debug__":Str))=false:=by decide)
  (he:starEach (e::es) X.env=(false,eval e X.env)::starEach es X.env:=by rfl) (kO:(backTo pos (starEach es X.env)).any (·.1)=false:=by rfl):PE X (.Call (.Name x p) (e::es) [] pos) (TB r t):=by
 intro pins s σ H Q I h;refine wpAny_Call_Name_kw (oh I hg hm hv ?_ hn sk);exact PyProof.Rows.callWith_builtin1 (gR (ha pos pins s σ H _ I h) λus s1 ⟨vs,H1,I1,r1,q1⟩=>hc pins s1 σ H1 vs us Q I1 r1 q1) he kO
theorem yD (hc:i6 X (.type T) r) (hg:Gl X x) (hm:X.mg x=none) (hv:bootBuiltins x=some (.type T)) (ha:PA X (e::es) t) (hn:x≠"__name__":=by decide) (sk:(x==("__debug__":Str))=false:=by decide)
  (he:starEach (e::es) X.env=(false,eval e X.env)::starEach es X.env:=by rfl) (kO:(backTo pos (starEach es X.env)).any (·.1)=false:=by rfl):PE X (.Call (.Name x p) (e::es) [] pos) (TB r t):=by
 intro pins s σ H Q I h;refine wpAny_Call_Name_kw (oh I hg hm hv ?_ hn sk);exact PyProof.Rows.callWith_type1 (gR (ha pos pins s σ H _ I h) λus s1 ⟨vs,H1,I1,r1,q1⟩=>hc pins s1 σ H1 vs us Q I1 r1 q1) he kO
end
end L2
namespace HT
open PySem PyProof.Rows
noncomputable def lexLt:cn->cn->Bool
 |[],[]=>false
 |[],_::_=>true
 |_::_,[]=>false
 |x::xs,y::ys=>if x=y then lexLt xs ys else decide (x<y)
theorem jq (x y:Int) (xs ys:cn):lexLt (x::xs) (y::ys)=if x=y then lexLt xs ys else decide (x<y):=rfl
theorem xN:lexLt [] []=false:=rfl
theorem pB (y:Int) (ys:cn):lexLt [] (y::ys)=true:=rfl
theorem pC (x:Int) (xs:cn):lexLt (x::xs) []=false:=rfl
theorem Il (A:cB) (s:cx) (a:Int) (t:Tok) (c:Int) (u:Tok):∃e,SeqAt.EqAt A s (.int a t) (.int c u) e/\(e=true↔a=c):=
 ⟨(a==c),SeqAt.EqAt.int_int a t c u,by simp⟩
theorem Im (A:cB) (s:cx) (a:Int) (t:Tok) (c:Int) (u:Tok) (prog:cz) (w:cA) (E:cg) (Q:cg) (h:Q (.bool (decide (a<c))) s):
  wpAny (model prog w) A (richCompare .Lt (.int a t) (.int c u)) Q E s:=
 (PyProof.Rows.lt_int h:wpAny (model prog w) A (compareOp .Lt (.int a t) (.int c u)) Q E s)
section
open PySem.SeqAt
open PySem.AutoSeq1 (wpAny_loadPart')
open PySem.MeetsSeq PySem.MeetsSeq2 PySem.MeetsSeq3
theorem qW (l b:cD) (items gz:Array cw) (n n2:Nat) (dd Ld:cp) (sl Io:cq) (ns ms:cn) (hi:IntsAre items.toList ns) (hj:IntsAre gz.toList ms):
  Meets (Builtin.«tuple.__lt__» ⟨[.ref l,.ref b],[]⟩)
   (λ_ R s=>s.heap.get? l=some {cls:=.type "tuple",dict:=dd,data:=.seq items n,slots:=sl}/\s.heap.get? b=some {cls:=.type "tuple",dict:=Ld,data:=.seq gz n2,slots:=Io}/\
    R (.ok (.ret (.bool (lexLt ns ms)))) s):=
 .of_wp λprog w A R s h=>by
  obtain⟨hp,g,d,tk,os⟩:=s;obtain⟨hl,hb,h⟩:=h;have f2:=AutoSeq1.sub_tuple_tuple;have z1:items.size=ns.length:=by rw[<-hi.length];simp
  have z2:gz.size=ms.length:=by rw[<-hj.length];simp
  wp_walk using wpAny_loadPart' hl,wpAny_loadPart' hb,wpAny_forIn_list _ (λrest b s'=>b.1=none/\s'=⟨hp,g,d,tk,os⟩/\∃(vs ws:cv) (AY QL:cn),rest=vs.zip ws/\
   IntsAre vs AY/\IntsAre ws QL/\AY.length+gz.size=QL.length+items.size/\R (.ok (.ret (.bool (lexLt AY QL)))) ⟨hp,g,d,tk,os⟩) _
  case turn=>
   rintro⟨y,x⟩ rest b s' ⟨LF,rfl,vs,ws,AY,QL,hz,UK,TC,hlen,hR⟩
   cases UK with
   |nil=>rw[List.zip_nil_left]at hz;cases hz
   |cons a t UL=>
    cases TC with
    |nil=>rw[List.zip_nil_right]at hz;cases hz
    |cons c u UM=>
     rw[List.zip_cons_cons]at hz;injection hz with Zd RC
     injection Zd with hy hx
     subst hy hx;rw[jq]at hR;simp only[ax]at hlen;obtain⟨e,he,RD⟩:=Il A.in1 ⟨hp,g,d,tk,os⟩ a t c u;refine aa (he prog w _ _ ?_);cases e with
     |true=>
      rw[if_pos (RD.mp rfl)]at hR
      wp_walk
      exact⟨rfl,rfl,_,_,_,_,RC,UL,UM,by omega,hR⟩
     |false=>
      rw[if_neg (λq=>absurd (RD.mpr q) aZ)]at hR
      have Ze:=Im A.in1 ⟨hp,g,d,tk,os⟩ a t c u prog w
      wp_walk using Ze
      exact⟨_,rfl,by simpa using hR⟩
  case fin=>
   rintro⟨b1,b2⟩ s' ⟨LF,rfl,vs,ws,AY,QL,hz,UK,TC,hlen,hR⟩
   simp only at LF;subst LF;have hv:lexLt AY QL=decide (items.size<gz.size):=by
    cases UK with
    |nil=>
     cases TC with
     |nil=>
      simp only[List.length_nil]at hlen;rw[xN];exact(aG (by omega)).symm
     |cons c u hw=>
      simp only[List.length_nil,ax]at hlen;rw[pB];exact(aR (by omega)).symm
    |cons a t hv=>
     cases TC with
     |nil=>
      simp only[List.length_nil,ax]at hlen;rw[pC];exact(aG (by omega)).symm
     |cons c u hw=>
      rw[List.zip_cons_cons]at hz;cases hz
   rw[hv]at hR
   wp_walk
   exact⟨_,rfl,by simpa [Builtin.Tuple.tupleCompareSizes]using hR⟩
  case h=>
   exact⟨rfl,rfl,items.toList,gz.toList,ns,ms,rfl,hi,hj,by omega,h⟩
end
section
variable {prog:cz}{w:cA}{A:cB}{E:cg}{s:cx}
theorem vX {l b:cD}{items gz:Array cw}{ns ms:cn}{Q:cg}(hl:IsTup s.heap l items) (hb:IsTup s.heap b gz) (hi:IntsAre items.toList ns) (hj:IntsAre gz.toList ms)
  (hu:A.units<cLine) (h:Q (.bool (lexLt ns ms)) s):wpAny (model prog w) A (compareOp .Lt (.ref l) (.ref b)) Q E s:=by
 obtain⟨⟨cls,dd,data,sl⟩,ho,hc,n,hd⟩:=id hl;obtain⟨⟨Oz,Ld,data2,Io⟩,vf,so,n2,hd2⟩:=id hb;simp only at hc hd so hd2;subst hc hd so hd2;exact richCompare_meets_room (op:=.Lt) ⟨_,ho,rfl⟩ ⟨_,vf,rfl⟩ PySem.F.slot_tuple_lt PySem.F.entry_tuple_lt (PySem.F.args_tuple_lt_2 _ _) (qW l b items gz n n2 dd Ld sl Io ns ms hi hj)
  ⟨ho,vf,show Value.bool (lexLt ns ms)≠Value.notImplemented/\Q (.bool (lexLt ns ms)) s from⟨(λx=>nomatch x),h⟩⟩ hu
theorem LG {t b:cD}{vs ws:cv}{Q:cg}(ht:IsTup s.heap t vs.toArray) (hb:IsTup s.heap b ws.toArray) (hv:vs≠[])
  (h1:ws=[]->Q (.ref t) s) (h2:ws≠[]->Q (.ref s.heap.objs.size) {s with heap:=s.heap.push {cls:=.type "tuple",data:=.seq (vs++ws).toArray}})
  (hsz:vs.length+ws.length<=sizeLine):wpAny (model prog w) A (binaryOp .Add (.ref t) (.ref b)) Q E s:=by
 obtain⟨⟨cls,dd,data,sl⟩,ho,hc,n,hd⟩:=id ht;obtain⟨⟨Oz,Ld,data2,Io⟩,vf,so,n2,hd2⟩:=id hb;simp only at hc hd so hd2;subst hc hd so hd2;have e:vs.toArray++ws.toArray=(vs++ws).toArray:=by simp
 by_cases hw:ws=[]
 ·exact concat_meets ⟨_,ho,rfl⟩ ⟨_,vf,rfl⟩ noFill_tuple_add seq_tuple_add PySem.F.slot_tuple_add PySem.F.entry_tuple_add (PySem.F.args_tuple_add_2 _ _)
   (tuple_addW1 t b vs.toArray ws.toArray n n2 dd Ld sl Io (by simpa using hv) (by simp[hw])) ⟨ho,vf,h1 hw⟩
 ·refine concat_meets ⟨_,ho,rfl⟩ ⟨_,vf,rfl⟩ noFill_tuple_add seq_tuple_add PySem.F.slot_tuple_add PySem.F.entry_tuple_add (PySem.F.args_tuple_add_2 _ _)
   (tuple_addW2 t b vs.toArray ws.toArray n n2 dd Ld sl Io (by simpa using hv) (by simpa using hw) (by rw[aq,aq];exact hsz)) ⟨ho,vf,?_⟩
  rw[e];exact h2 hw
noncomputable def ij (n d:Nat):Option Int->Nat
 |none=>d
 |some v=>if v<0 then(v+(n:Int)).toNat else min v.toNat n
theorem OA (n d:Nat) (hd:d<=n) (o:Option Int):ij n d o<=n:=by
 cases o with
 |none=>exact hd
 |some v=>
  show(if v<0 then(v+(n:Int)).toNat else min v.toNat n)<=n
  by_cases hv:v<0
  ·rw[if_pos hv];omega
  ·rw[if_neg hv];exact Nat.min_le_right _ _
theorem EK (v:Int) (n d:Nat):(if v<0 then max (v+(n:Int)) 0 else min v (n:Int))=((ij n d (some v):Nat):Int):=by
 show(if v<0 then max (v+(n:Int)) 0 else min v (n:Int))=(((if v<0 then(v+(n:Int)).toNat else min v.toNat n):Nat):Int)
 by_cases hv:v<0
 ·simp only[if_pos hv];omega
 ·simp only[if_neg hv];omega
theorem Di (lo hi:Option Int) (n:Nat):Builtin.Slice.sliceAdjust lo hi 1 (n:Int)=(((ij n 0 lo:Nat):Int),((ij n n hi:Nat):Int)):=by
 have h1:¬ ((1:Int)<0):=by omega
 unfold Builtin.Slice.sliceAdjust;simp only[h1,bD];refine Prod.ext ?_ ?_
 ·cases lo with
  |none=>rfl
  |some v=>exact EK v n 0
 ·cases hi with
  |none=>rfl
  |some v=>exact EK v n n
theorem Dj (i j:Nat):Builtin.Slice.slicePlaces (i:Int) (j:Int) 1=j-i:=by
 unfold Builtin.Slice.slicePlaces;have h1:(1:Int)>0:=by omega
 simp only[h1,if_true,Int.ediv_one];split<;>omega
theorem vY {v:cw}{o:Option Int}{Q:Option Int->cx->Prop}(p:IsPart v o) (h:Q o s):wpAny (model prog w) A (Builtin.Slice.slicePartIndex v) Q E s:=by
 cases p with
 |none=>exact slicePart_none h
 |int i t=>exact slicePart_int h
theorem nB {sl:cD}{vl vu:cw}{lo hi:Option Int}{n:Nat}{Q:Int×Int×Nat->cx->Prop}(hs:s.heap.IsSliceOf sl vl vu .none) (pl:IsPart vl lo) (pu:IsPart vu hi)
  (h:Q (((ij n 0 lo:Nat):Int),1,ij n n hi-ij n 0 lo) s):wpAny (model prog w) A (Builtin.Slice.sliceApplied (.ref sl) (pure (n:Int))) Q E s:=by
 obtain⟨os,OB,TF,RE⟩:=id hs;unfold Builtin.Slice.sliceApplied Builtin.Slice.sliceFields;refine aa (aa (wpAny_field OB RE (x:=vl) rfl (aa (wpAny_field OB RE (x:=vu) rfl (aa (wpAny_field OB RE (x:=.none) rfl (aj ?_)))))));refine aa (slicePart_none ?_);show wpAny _ _ (if((1:Int)==0)=true then _ else _) _ _ s
 rw[if_neg (by decide)]
 refine aa (vY pl (aa (vY pu (aa (aj ?_)))));show wpAny _ _ (match Builtin.Slice.sliceAdjust lo hi 1 (n:Int)with|(lo,hi)=>pure (lo,(1:Int),Builtin.Slice.slicePlaces lo hi 1)) _ _ s
 rw[Di lo hi n];show wpAny _ _ (pure (((ij n 0 lo:Nat):Int),(1:Int),Builtin.Slice.slicePlaces ((ij n 0 lo:Nat):Int) ((ij n n hi:Nat):Int) 1)) _ _ s;rw[Dj];exact aj h
theorem Ip (xs:Array cw) (i k:Nat):((List.range k).filterMap λ(m:Nat)=>xs[((i:Int)+(m:Int)*1).toNat]?).toArray=((xs.toList.drop i).take k).toArray:=by
 have e:(λ(m:Nat)=>xs[((i:Int)+(m:Int)*1).toNat]?)=λm=>xs[i+m]? :=by
  funext m
  have:((i:Int)+(m:Int)*1).toNat=i+m:=by omega
  rw[this]
 rw[e];have:=pick_run xs i k;rw[List.filterMap_map]at this;have e2:((λx=>xs[x]?)∘λx=>i+x)=λm=>xs[i+m]? :=rfl
 rw[e2]at this;rw[this]
theorem sq {t sl:cD}{items:Array cw}{vl vu:cw}{lo hi:Option Int}{Q:cg}(ht:IsTup s.heap t items) (hs:s.heap.IsSliceOf sl vl vu .none) (pl:IsPart vl lo) (pu:IsPart vu hi)
  (hw:¬ (ij items.size 0 lo=0/\ij items.size items.size hi=items.size))
  (h:Q (.ref s.heap.objs.size) {s with heap:=s.heap.push {cls:=.type "tuple",data:=.seq ((items.toList.drop (ij items.size 0 lo)).take (ij items.size items.size hi-ij items.size 0 lo)).toArray}})
  (hsz:items.size<=sizeLine):wpAny (model prog w) A (getItem (.ref t) (.ref sl)) Q E s:=by
 have EL:sizeOk (.seq ((items.toList.drop (ij items.size 0 lo)).take (ij items.size items.size hi-ij items.size 0 lo)).toArray):=by
  show((items.toList.drop (ij items.size 0 lo)).take (ij items.size items.size hi-ij items.size 0 lo)).toArray.size<=sizeLine;rw[aq,bJ,List.length_drop,aN];omega
 have hj:ij items.size items.size hi<=items.size:=OA _ _ (au _) hi;obtain⟨os,OB,TF,RE⟩:=id hs;have UN:s.TypeIs (.ref sl) "slice":=⟨os,OB,TF⟩;unfold getItem;try with_reducible refine bo ?_
 first|refine aa (aj ?_)|skip
 refine aa (wpAny_sequenceKey ht.typeIs (by decide) ?_)
 refine aa (wpAny_callSpecial?_slot (name:=Str.ofString "__getitem__") ht.typeIs PyProof.Rows.slot_tuple_getitem
  (bM PyProof.Rows.slot_tuple_getitem ht.typeIs entry_tuple_getitem ?_ (args_tuple_getitem _ _)))
 show wpAny _ _ (Builtin.Tuple.tupleItemsOf (.ref t)>>=_) _ _ s;refine aa (tupleItemsOf_ ht ?_);refine aa (wpAny_typeOf UN ?_);rw[if_pos (by decide)]
 refine aa (nB hs pl pu ?_);have Zf:¬ ((((ij items.size 0 lo:Nat):Int)==0&&(1:Int)==1&&(ij items.size items.size hi-ij items.size 0 lo)==items.size)=true):=by
  intro q;rw[Bool.and_eq_true,Bool.and_eq_true]at q;have q1:((ij items.size 0 lo:Nat):Int)=0:=eq_of_beq q.1.1;have q2:ij items.size items.size hi-ij items.size 0 lo=items.size:=eq_of_beq q.2;exact hw ⟨by omega,by omega⟩
 show wpAny _ _ (if(((ij items.size 0 lo:Nat):Int)==0&&(1:Int)==1&&(ij items.size items.size hi-ij items.size 0 lo)==items.size)=true then _ else _) _ _ s
 rw[if_neg Zf,Ip]
 first
  |exact aa (m:=Builtin.Tuple.tupleExact _) (bR (aj ⟨_,rfl,aj h⟩) EL)
  |exact aa (m:=Builtin.Tuple.tupleExact _) (bR (aa (aj (aj ⟨_,rfl,aj h⟩))) EL)
  |exact aa (aa (m:=Builtin.Tuple.tupleExact _) (bR (aj (aj ⟨_,rfl,aj h⟩)) EL))
  |exact aa (aa (m:=Builtin.Tuple.tupleExact _) (bR (aj ⟨_,rfl,aj h⟩) EL))
end
end HT
namespace L2
open PySem PySem.Spec PyProof.Rows
noncomputable abbrev TO:=St->Hp->(Option Int->Hp->Prop)->Prop
def PO (X:Cx) (e:Option cE) (t:TO):Prop:=
 ∀(pins:ck) (s:cx) (σ:St) (H:Hp) (Q:Option Int->Hp->Prop),Inv X pins σ H s->t σ H Q->
  wpAny (model X.prog X.w) X.A (evalPart e X.env) (λu s'=>∃o H',Inv X pins σ H' s'/\IsPart u o/\Q o H') X.xe s
noncomputable def LH:TO:=λ_ H Q=>Q none H
noncomputable def RF (t:TE):TO:=λσ H Q=>t σ H λx H1=>∃i,x=.int i/\Q (some i) H1
theorem intsAre_of {ns:cn}:∀{us:cv},Vals (ns.map V.int) us->IntsAre us ns:=by
 induction ns with
 |nil=>intro us r;rw[List.map_nil]at r;cases r;exact .nil
 |cons n ns ih=>
  intro us r;rw[aE]at r;cases r with
  |cons r1 r2=>
   obtain⟨t,e⟩:=r1;subst e;exact .cons n t (ih r2)
section
variable {X:Cx}{e:cE}{te:TE}{lo hi:Option cE}{tl th:TO}{pos p2:Pos}
theorem LI:PO X none LH:=by
 intro pins s σ H Q I h;rw[evalPart_none];exact aj ⟨none,H,I,.none,h⟩
theorem LJ (h:PE X e te):PO X (some e) (RF te):=by
 intro pins s σ H Q I hw;rw[evalPart_some];refine gR (h pins s σ H _ I hw) λu s1 ⟨x,H1,I1,r1,q1⟩=>?_
 obtain⟨i,rfl,q⟩:=q1;obtain⟨t,rfl⟩:=r1;exact⟨some i,H1,I1,.int i t,q⟩
def Nl (X:Cx) (r:V->Option Int->Option Int->Hp->VK->Prop):Prop:=
 ∀(pins:ck) (s:cx) (σ:St) (H:Hp) (x:V) (v vl vu:cw) (lo hi:Option Int) (sl:cD) (Q:VK),Inv X pins σ H s->RelV x v->s.heap.IsSliceOf sl vl vu .none->IsPart vl lo->IsPart vu hi->r x lo hi H Q->
  ∃T id,typeLookup (.type T) "__getitem__"=pure (some (.builtin id))/\s.TypeIs v T/\wpAny (model X.prog X.w) X.A (getItem v (.ref sl)) (EP X pins σ Q) X.xe s
theorem Nl.or {r r':V->Option Int->Option Int->Hp->VK->Prop}(h:Nl X r) (h':Nl X r'):Nl X (λx lo hi H Q=>r x lo hi H Q\/r' x lo hi H Q):=by
 intro pins s σ H x v vl vu lo hi sl Q I rx hs pl pu q;rcases q with q|q
 ·exact h pins s σ H x v vl vu lo hi sl Q I rx hs pl pu q
 ·exact h' pins s σ H x v vl vu lo hi sl Q I rx hs pl pu q
noncomputable def Zg (r:V->Option Int->Option Int->Hp->VK->Prop) (te:TE) (tl th:TO):TE:=λσ H Q=>te σ H λx H1=>tl σ H1 λl H2=>th σ H2 λu H3=>r x l u H3 Q
theorem A9 {r:V->Option Int->Option Int->Hp->VK->Prop}(hr:Nl X r) (he:PE X e te) (hl:PO X lo tl) (hu:PO X hi th):PE X (.Subscript e (.Slice lo hi none p2) pos) (Zg r te tl th):=by
 intro pins s σ H Q I h;refine Subscript_ (gR (he pins s σ H _ I h) λv s1 ⟨x,H1,I1,r1,q1⟩=>?_)
 refine wpAny_Slice (gR (hl pins s1 σ H1 _ I1 q1) λvl s2 ⟨l,H2,I2,pl,q2⟩=>gR (hu pins s2 σ H2 _ I2 q2) λvu s3 ⟨u,H3,I3,pu,q3⟩=>?_)
 rw[evalPart_none];refine aj ?_;have I4:Inv X pins σ H3 {s3 with heap:=s3.heap.push {cls:=.type "slice",data:=.fields #[vl,vu,.none]}}:=I3.kept (t':=s3.toks) λb ob q=>ag _ q
 obtain⟨T,id,hT,ht,hg⟩:=hr pins {s3 with heap:=s3.heap.push {cls:=.type "slice",data:=.fields #[vl,vu,.none]}} σ H3 x v vl vu l u s3.heap.objs.size Q I4 r1 (Heap.IsSliceOf.new ..) pl pu q3
 show wpAny (model X.prog X.w) X.A (subscriptTail e (.Slice lo hi none p2) v (.ref s3.heap.objs.size)) (EP X pins σ Q) X.xe {s3 with heap:=s3.heap.push {cls:=.type "slice",data:=.fields #[vl,vu,.none]}}
 exact tail_any (ops:=[.ref s3.heap.objs.size,v]) ht hT hg (by with_unfolding_all rfl)
noncomputable def Ba (xs:List V) (lo hi:Option Int):List V:=(xs.drop (HT.ij xs.length 0 lo)).take (HT.ij xs.length xs.length hi-HT.ij xs.length 0 lo)
theorem uO (xs:List V) (lo hi:Option Int):(Ba xs lo hi).length<=xs.length:=by
 unfold Ba;rw[bJ,List.length_drop];omega
noncomputable def UO (K:W.Frag):V->Option Int->Option Int->Hp->VK->Prop:=λx lo hi H Q=>∃a xs,x=.ref a/\jk K H a xs/\
 ¬ (HT.ij xs.length 0 lo=0/\HT.ij xs.length xs.length hi=xs.length)/\∀p,H p=none->Q (.ref p) (upd H p (.tup (Ba xs lo hi)))
theorem OD:Nl X (UO X.K):=by
 intro pins s σ H x v vl vu lo hi sl Q I rx hs pl pu h;obtain⟨a,xs,rfl,hx,hw,q⟩:=h;cases rx;obtain⟨dz,r,ht,hz⟩:=I.tuple hx;have hlen:dz.toArray.size=xs.length:=by rw[aq];exact r.length.symm
 refine⟨"tuple",_,PyProof.Rows.slot_tuple_getitem.lookup,ht.typeIs,?_⟩;refine HT.sq ht hs pl pu (by rw[hlen];exact hw) ?_ (by rw[hlen];exact hz)
 rw[hlen];refine⟨.ref s.heap.objs.size,_,I.laid (t':=s.toks) (o:=.tup (Ba xs lo hi)) (λb ob q=>ag _ q) (au _) ?_,rfl,q _ (I.gb.fresh (au _))⟩
 exact⟨aB (uO xs lo hi) hz,_,(r.drop (HT.ij xs.length 0 lo)).take (HT.ij xs.length xs.length hi-HT.ij xs.length 0 lo),IsTup.new _ _⟩
noncomputable def UP (K:W.Frag):R2:=λx y H Q=>∃a b ns ms,x=.ref a/\y=.ref b/\jk K H a (ns.map V.int)/\jk K H b (ms.map V.int)/\Q (.bl (HT.lexLt ns ms)) H
theorem OE (hu:X.A.units<cLine):ve X (compareOp .Lt) (UP X.K):=by
 intro pins s σ H x y v u Q I rx ry h;obtain⟨a,b,ns,ms,rfl,rfl,ha,hb,q⟩:=h;cases rx;cases ry;obtain⟨dz,r1,p1,_⟩:=I.tuple ha;obtain⟨fm,r2,p2,_⟩:=I.tuple hb;have i1:IntsAre dz.toArray.toList ns:=intsAre_of r1;have i2:IntsAre fm.toArray.toList ms:=intsAre_of r2;exact HT.vX p1 p2 i1 i2 hu ⟨.bl (HT.lexLt ns ms),H,I,rfl,q⟩
noncomputable def Nm (K:W.Frag):R2:=λx y H Q=>∃a b xs ys,x=.ref a/\y=.ref b/\jk K H a xs/\jk K H b ys/\xs≠[]/\xs.length+ys.length<=sizeLine/\
 (ys=[]->Q (.ref a) H)/\(ys≠[]->∀p,H p=none->Q (.ref p) (upd H p (.tup (xs++ys))))
theorem Vals.zC {xs:List V}{us:cv}(r:Vals xs us):us=[]↔xs=[]:=by
 cases r with
 |nil=>simp
 |cons _ _=>simp
theorem LK:ve X (binaryOp .Add) (Nm X.K):=by
 intro pins s σ H x y v u Q I rx ry h;obtain⟨a,b,xs,ys,rfl,rfl,ha,hb,hx,hz,q1,q2⟩:=h;cases rx;cases ry;obtain⟨dz,r1,p1,_⟩:=I.tuple ha;obtain⟨fm,r2,p2,_⟩:=I.tuple hb;refine HT.LG p1 p2 (λz=>hx (r1.zC.mp z)) (λz=>⟨.ref a,H,I,rfl,q1 (r2.zC.mp z)⟩) (λz=>?_) (by rw[<-r1.length,<-r2.length];exact hz)
 refine⟨.ref s.heap.objs.size,_,I.laid (t':=s.toks) (o:=.tup (xs++ys)) (λb ob q=>ag _ q) (au _) ?_,rfl,q2 (λw=>z (r2.zC.mpr w)) _ (I.gb.fresh (au _))⟩
 exact⟨by rw[aQ];exact hz,_,r1.append r2,IsTup.new _ _⟩
end
end L2
namespace L2
open PySem PySem.Spec PyProof.Rows
noncomputable def qX (n:Nat) (i:Int):Option Nat:=if 0<=i then(if i<n then some i.toNat else none)else if -(n:Int)<=i then some (i+n).toNat else none
noncomputable def j9 {α:Type}(xs:List α) (i:Int):Option α:=(qX xs.length i).bind λj=>xs[j]?
theorem LL {n:Nat}{i:Int}{j:Nat}(h:qX n i=some j):seqIndex? i n=some j/\j<n/\-(n:Int)<=i/\i<n:=by
 unfold qX at h;by_cases h0:0<=i
 ·rw[if_pos h0]at h;by_cases h1:i<n
  ·rw[if_pos h1]at h;have e:i.toNat=j:=aS h;exact⟨by rw[seqIndex_of h0 h1,e],by omega,by omega,h1⟩
  ·rw[if_neg h1]at h;cases h
 ·rw[if_neg h0]at h;by_cases h1: -(n:Int)<=i
  ·rw[if_pos h1]at h;have e:(i+n).toNat=j:=aS h;exact⟨by rw[seqIndex_neg (by omega) h1,e],by omega,h1,by omega⟩
  ·rw[if_neg h1]at h;cases h
theorem zD {α:Type}{xs:List α}{i:Int}{v:α}(h:j9 xs i=some v):∃j,seqIndex? i xs.length=some j/\xs[j]? =some v/\j<xs.length/\-(xs.length:Int)<=i/\i<xs.length:=by
 unfold j9 at h;cases e:qX xs.length i with
 |none=>rw[e]at h;cases h
 |some j=>
  rw[e]at h;obtain⟨h1,h2,h3,h4⟩:=LL e;exact⟨j,h1,h,h2,h3,h4⟩
def qo (b:cE):Prop:=∀o i,subscripted b false o i=operate [o,i] (getItem o i)
def Iq (X:Cx) (r:R2):Prop:=
 ∀(value slice:cE) (pins:ck) (s:cx) (σ:St) (H:Hp) (x y:V) (v u:cw) (Q:VK),Inv X pins σ H s->RelV x v->RelV y u->r x y H Q->
  subscripted slice false v u=operate [v,u] (getItem v u)->wpAny (model X.prog X.w) X.A (subscriptTail value slice v u) (EP X pins σ Q) X.xe s
def WR (X:Cx) (id:String) (r:V->List V->Hp->VK->Prop):Prop:=
 ∀(pins:ck) (s:cx) (σ:St) (H:Hp) (x:V) (xs:List V) (v:cw) (us:cv) (Q:VK),Inv X pins σ H s->RelV x v->Vals xs us->r x xs H Q->
  wpAny (model X.prog X.w) X.A (call (.builtin id) (v::us)) (EP X pins σ Q) X.xe s
section
variable {X:Cx}{a b:cE}{ta tb:TE}{pos:Pos}
theorem Iq.or {r r':R2}(h:Iq X r) (h':Iq X r'):Iq X (λx y H Q=>r x y H Q\/r' x y H Q):=by
 intro value slice pins s σ H x y v u Q I rx ry q hs;rcases q with q|q
 ·exact h value slice pins s σ H x y v u Q I rx ry q hs
 ·exact h' value slice pins s σ H x y v u Q I rx ry q hs
theorem Nn {r:R2}(hr:Iq X r) (ha:PE X a ta) (hb:PE X b tb) (hs:qo b):PE X (.Subscript a b pos) (Rk r ta tb):=by
 intro pins s σ H Q I h;exact Subscript_ (Ol ha hb I h λv u s2 x y H2 I2 rx ry q=>hr a b pins s2 σ H2 x y v u Q I2 rx ry q (hs _ _))
noncomputable def RG (K:W.Frag):R2:=λx y H Q=>∃p xs i v,x=.ref p/\y=.int i/\pf K H p xs/\j9 xs i=some v/\Q v H
noncomputable def RH (K:W.Frag):R2:=λx y H Q=>∃p xs i v,x=.ref p/\y=.int i/\jk K H p xs/\j9 xs i=some v/\Q v H
noncomputable def RI:R2:=λx y H Q=>∃z i c,x=.str z/\y=.int i/\z.length<=sizeLine/\j9 z.cps.toList i=some c/\Q (.str ⟨#[c]⟩) H
theorem LM:Iq X (RG X.K):=by
 intro value slice pins s σ H x y v u Q I rx ry h hs;obtain⟨p,xs,i,z,rfl,rfl,hq,he,q⟩:=h;cases rx;obtain⟨t,rfl⟩:=ry;obtain⟨dz,r,pl,hz⟩:=I.list hq;obtain⟨j,h1,h2,h3,h4,h5⟩:=zD he;obtain⟨w,ew,LN⟩:=r.get h2;have hl:=r.length;have hn:=t8;have fin:EP X pins σ Q w s:=⟨z,H,I,LN,q⟩;by_cases h0:0<=i
 ·have hj:i.toNat=j:=by
   rw[seqIndex_of h0 h5]at h1;exact aS h1
  exact item_listR pl.isList h0 (by omega) (by rw[hj];simpa using ew) fin hs
 ·have hj:(i+(dz.toArray.size:Int)).toNat=j:=by
   rw[seqIndex_neg (by omega) h4]at h1
   rw[aq,<-hl];exact aS h1
  exact subscriptTail_builtinR (x:=w) pl.isList.typeIs slot_list_getitem.lookup
   (wpAny_getItem_list_neg (Q:=λr s'=>r=w/\EP X pins σ Q r s') pl.isList (by omega) (by rw[aq]<;>omega) (by omega) (by rw[hj];simpa using ew) ⟨rfl,fin⟩) hs
theorem OF:Iq X (RH X.K):=by
 intro value slice pins s σ H x y v u Q I rx ry h hs;obtain⟨p,xs,i,z,rfl,rfl,hq,he,q⟩:=h;cases rx;obtain⟨t,rfl⟩:=ry;obtain⟨dz,r,pl,hz⟩:=I.tuple hq;obtain⟨j,h1,h2,h3,h4,h5⟩:=zD he;obtain⟨w,ew,LN⟩:=r.get h2;have hl:=r.length;have hn:=t8;have fin:EP X pins σ Q w s:=⟨z,H,I,LN,q⟩;exact subscriptTail_builtinR (x:=w) pl.typeIs slot_tuple_getitem.lookup
  (getItem_tuple (j:=j) (Q:=λr s'=>r=w/\EP X pins σ Q r s') pl (by omega) (by omega) (by rw[aq,<-hl];exact h1) (by simpa using ew) ⟨rfl,fin⟩) hs
theorem OG:Iq X RI:=by
 intro value slice pins s σ H x y v u Q I rx ry h hs;obtain⟨z,i,c,rfl,rfl,hz,he,q⟩:=h;obtain⟨t,rfl⟩:=rx;obtain⟨t',rfl⟩:=ry;obtain⟨j,h1,h2,h3,h4,h5⟩:=zD he;have hl:z.cps.toList.length=z.length:=by simp[Str.length]
 rw[hl]at h1 h4 h5;have hn:=t8;exact tail_any (typeIs_str s z t) slot_str_getitem.lookup (getItem_str (c:=c) (by
  have e1:decide (i< -(2^63:Int))=false:=aG (by omega)
  have e2:decide (i ≥ 2^63)=false:=aG (by omega)
  rw[e1,e2,Bool.or_false]) (by rw[h1];simpa using h2) ⟨.str ⟨#[c]⟩,H,I.tok _,⟨_,rfl⟩,q⟩) hs
noncomputable def WT (K:W.Frag):R2:=λx y H Q=>RG K x y H Q\/RH K x y H Q\/RI x y H Q
theorem OH:Iq X (WT X.K):=LM.or (OF.or OG)
theorem zE (lo hi:Option Int) (n:Nat):(sliceBounds lo hi none n).1=((HT.ij n 0 lo:Nat):Int)/\(sliceBounds lo hi none n).2.1=((HT.ij n n hi:Nat):Int)/\(sliceBounds lo hi none n).2.2=1:=by
 refine⟨?_,?_,rfl⟩
 ·cases lo with
  |none=>simp[sliceBounds,HT.ij]
  |some i=>
   simp only[sliceBounds,HT.ij,Option.getD_none,show(1:Int)>0 by decide,if_true]
   by_cases h:i<0
   ·simp only[h,if_true]<;>omega
   ·simp only[h,bD]<;>omega
 ·cases hi with
  |none=>simp[sliceBounds,HT.ij]
  |some i=>
   simp only[sliceBounds,HT.ij,Option.getD_none,show(1:Int)>0 by decide,if_true]
   by_cases h:i<0
   ·simp only[h,if_true]<;>omega
   ·simp only[h,bD]<;>omega
theorem xO (dz:cv) (lo hi:Option Int):slicePick dz.toArray lo hi none=((dz.drop (HT.ij dz.length 0 lo)).take (HT.ij dz.length dz.length hi-HT.ij dz.length 0 lo)).toArray:=by
 obtain⟨h1,h2,h3⟩:=zE lo hi dz.toArray.size;unfold slicePick;rw[h1,h2,h3];simp only[sliceRange_one,pick_run,aq]<;>rfl
noncomputable def UQ (K:W.Frag):V->Option Int->Option Int->Hp->VK->Prop:=λx lo hi H Q=>∃a xs,x=.ref a/\pf K H a xs/\∀p,H p=none->Q (.ref p) (upd H p (.lst (Ba xs lo hi)))
theorem LO:Nl X (UQ X.K):=by
 intro pins s σ H x v vl vu lo hi sl Q I rx hs pl pu h;obtain⟨a,xs,rfl,hx,q⟩:=h;cases rx;obtain⟨dz,r,ht,hz⟩:=I.list hx;have hlen:=r.length;refine⟨"list",_,slot_list_getitem.lookup,ht.isList.typeIs,?_⟩;refine wpAny_getItem_list_slice ht.isList hs pl pu .none (by simp) ?_ (by rw[aq]<;>omega)
 rw[xO,<-hlen];refine⟨.ref s.heap.objs.size,_,I.laid (t':=s.toks) (o:=.lst (Ba xs lo hi)) (λb ob q=>ag _ q) (au _) ?_,rfl,q _ (I.gb.fresh (au _))⟩
 exact⟨aB (uO xs lo hi) hz,_,0,(r.drop (HT.ij xs.length 0 lo)).take (HT.ij xs.length xs.length hi-HT.ij xs.length 0 lo),ay _ rfl⟩
noncomputable def yE:V->Bool
 |.eU=>true
 |.bl _=>true
 |.int _=>true
 |.str _=>true
 |_=>false
noncomputable def OI:V->V->Bool
 |.eU,.eU=>true
 |.bl a,.bl b=>a==b
 |.bl a,.int b=>(if a then 1 else 0)==b
 |.int a,.bl b=>a==(if b then 1 else 0)
 |.int a,.int b=>a==b
 |.str a,.str b=>a==b
 |_,_=>false
theorem OJ {A:cB}{s:cx}{y x:V}{u v:cw}(ry:RelV y u) (rx:RelV x v) (fy:yE y=true) (fx:yE x=true):SeqAt.EqAt A s u v (OI y x):=by
 cases y with
 |eU=>
  cases ry;cases x with
  |eU=>cases rx;exact SeqAt.EqAt.same _
  |bl b=>cases rx;exact SeqAt.EqAt.none_bool b
  |int b=>obtain⟨t,rfl⟩:=rx;exact SeqAt.EqAt.none_int b t
  |str b=>obtain⟨t,rfl⟩:=rx;exact SeqAt.EqAt.none_str b t
  |_=>exact absurd (show false=true from fx) aZ
 |bl a=>
  cases ry;cases x with
  |eU=>cases rx;exact SeqAt.EqAt.bool_none a
  |bl b=>cases rx;exact SeqAt.EqAt.bool_bool a b
  |int b=>obtain⟨t,rfl⟩:=rx;exact SeqAt.EqAt.bool_int a b t
  |str b=>obtain⟨t,rfl⟩:=rx;exact SeqAt.EqAt.bool_str a b t
  |_=>exact absurd (show false=true from fx) aZ
 |int a=>
  obtain⟨t',rfl⟩:=ry;cases x with
  |eU=>cases rx;exact SeqAt.EqAt.int_none a t'
  |bl b=>cases rx;exact SeqAt.EqAt.int_bool a t' b
  |int b=>obtain⟨t,rfl⟩:=rx;exact SeqAt.EqAt.int_int a t' b t
  |str b=>obtain⟨t,rfl⟩:=rx;exact SeqAt.EqAt.int_str a t' b t
  |_=>exact absurd (show false=true from fx) aZ
 |str a=>
  obtain⟨t',rfl⟩:=ry;cases x with
  |eU=>cases rx;exact SeqAt.EqAt.str_none a t'
  |bl b=>cases rx;exact SeqAt.EqAt.str_bool a t' b
  |int b=>obtain⟨t,rfl⟩:=rx;exact SeqAt.EqAt.str_int a t' b t
  |str b=>obtain⟨t,rfl⟩:=rx;exact SeqAt.EqAt.str_str a t' b t
  |_=>exact absurd (show false=true from fx) aZ
 |_=>exact absurd (show false=true from fy) aZ
noncomputable def QM (x:V) (u:cw):Bool:=match u with
 |.none=>OI .eU x
 |.bool b=>OI (.bl b) x
 |.int i _=>OI (.int i) x
 |.str z _=>OI (.str z) x
 |_=>false
theorem OK {x y:V}{u:cw}(r:RelV y u) (f:yE y=true):QM x u=OI y x:=by
 cases y with
 |eU=>cases r;rfl
 |bl b=>cases r;rfl
 |int i=>obtain⟨t,rfl⟩:=r;rfl
 |str z=>obtain⟨t,rfl⟩:=r;rfl
 |_=>exact absurd (show false=true from f) aZ
theorem Bb {A:cB}{s:cx}{x:V}{v:cw}(rx:RelV x v) (fx:yE x=true):∀{xs:List V}{us:cv},Vals xs us->xs.all yE=true->∀u∈us,SeqAt.EqAt A s u v (QM x u)
 |_,_,.nil,_=>λu hu=>by cases hu
 |y::xs,u::us,.cons r t,f=>λu' hu=>by
  rw[List.all_cons,Bool.and_eq_true]at f;rcases List.mem_cons.mp hu with rfl|hu
  ·rw[OK r f.1];exact OJ r rx f.1 fx
  ·exact Bb rx fx t f.2 u' hu
theorem zF:i6 X (.builtin "len") (λxs H Q=>∃p ys,xs=[.ref p]/\(pf X.K H p ys\/jk X.K H p ys)/\Q (.int ys.length) H):=by
 intro pins s σ H xs us Q I r h;obtain⟨p,ys,rfl,hq,q⟩:=h;obtain⟨u,rfl,rx⟩:=vals1 r;cases rx;have hn:=t8;rcases hq with hq|hq
 ·obtain⟨dz,r',pl,hz⟩:=I.list hq;have hlen:=r'.length;exact Calls.call_len_list pl.isList (by simp only[aq]<;>omega) ⟨.int ys.length,H,I.tok _,⟨s.toks+1,by rw[aq,hlen]⟩,q⟩
 ·obtain⟨dz,r',pl,hz⟩:=I.tuple hq;have hlen:=r'.length;exact len_tuple pl (by simp only[aq]<;>omega) ⟨.int ys.length,H,I.tok _,⟨s.toks+1,by rw[aq,hlen]⟩,q⟩
theorem zG:i6 X (.builtin "len") (λxs H Q=>∃z,xs=[.str z]/\z.length<=sizeLine/\Q (.int z.length) H):=by
 intro pins s σ H xs us Q I r h;obtain⟨z,rfl,hz,q⟩:=h;obtain⟨u,rfl,t,rfl⟩:=vals1 r;have hn:=t8;exact len_str (by omega) ⟨.int z.length,H,I.tok _,⟨_,rfl⟩,q⟩
theorem i6.or {f:cw}{r r':List V->Hp->VK->Prop}(h:i6 X f r) (h':i6 X f r'):i6 X f (λxs H Q=>r xs H Q\/r' xs H Q):=by
 intro pins s σ H xs us Q I rs q;rcases q with q|q
 ·exact h pins s σ H xs us Q I rs q
 ·exact h' pins s σ H xs us Q I rs q
theorem xP:i6 X (.type "tuple") (λxs H Q=>∃p ys,xs=[.ref p]/\((pf X.K H p ys/\∀l,H l=none->Q (.ref l) (upd H l (.tup ys)))\/(jk X.K H p ys/\Q (.ref p) H))):=by
 intro pins s σ H xs us Q I r h;obtain⟨p,ys,rfl,h⟩:=h;obtain⟨u,rfl,rx⟩:=vals1 r;cases rx;rcases h with⟨hq,q⟩|⟨hq,q⟩
 ·obtain⟨dz,r',pl,hz⟩:=I.list hq;have hlen:=r'.length;refine call_tuple_list pl.isList (λh' kp=>?_) (by simp only[aq]<;>omega)
  have I1:Inv X pins σ H {s with heap:=h'}:=I.kept (t':=s.toks) kp
  have I2:Inv X pins σ (upd H h'.objs.size (.tup ys)) {s with heap:=h'.push {cls:=.type "tuple",data:=.seq dz.toArray}}:=
   I1.laid (t':=s.toks) (λb o e=>ag _ e) (au _) (show il X.prog X.w _ _ _ (.tup ys)from⟨hz,dz,r',IsTup.new _ _⟩)
  exact⟨.ref h'.objs.size,_,I2,rfl,q _ (I1.gb.fresh (au _))⟩
 ·obtain⟨dz,r',pl,hz⟩:=I.tuple hq;exact call_tuple_same pl ⟨.ref p,H,I,rfl,q⟩
def WU (K:W.Frag) (T:String) (x:V) (H:Hp):Prop:=match x with
 |.str _=>T="str"
 |.int _=>T="int"
 |.ref p=>(T="list"/\∃xs,pf K H p xs)\/(T="tuple"/\∃o,K.lookup p=some o/\o.cls=.type "tuple"/\o.dict=none)\/
   (T="dict"/\((∃kvs,H p=some (.dK kvs))\/∃kvs,H p=some (.dT kvs)))\/(T="set"/\∃S n,H p=some (.set S n))
 |_=>False
theorem OL {pins:ck}{σ:St}{H:Hp}{s:cx}{T:String}{x:V}{v:cw}(I:Inv X pins σ H s) (r:RelV x v) (ty:WU X.K T x H):
  s.TypeIs v T/\∀a,v=.ref a->∃ob,s.heap.get? a=some ob/\ob.dict=none:=by
 cases x with
 |str z=>
  obtain⟨t,rfl⟩:=r;cases (show T="str" from ty)
  exact⟨typeIs_str s z t,λ_ e=>nomatch e⟩
 |int i=>
  obtain⟨t,rfl⟩:=r;cases (show T="int" from ty)
  exact⟨typeIs_int s i t,λ_ e=>nomatch e⟩
 |ref p=>
  cases r;rcases ty with⟨rfl,xs,hq⟩|⟨rfl,o,hk,hc,hd⟩|⟨rfl,hk⟩|⟨rfl,S,n,hk⟩
  ·obtain⟨dz,_,pl,_⟩:=I.list hq;refine⟨pl.isList.typeIs,λa e=>?_⟩
   cases e;obtain⟨o,n,e,c,hd,_⟩:=pl;exact⟨o,e,hd⟩
  ·refine⟨⟨o,I.Ge p o hk,hc⟩,λa e=>?_⟩
   cases e;exact⟨o,I.Ge _ o hk,hd⟩
  ·have z:∃o,s.heap.get? p=some o/\o.ExactDict:=by
    rcases hk with⟨kvs,hk⟩|⟨kvs,hk⟩
    ·obtain⟨_,_,_,_,o,_,_,e,ex,_⟩:=I.gb p _ hk;exact⟨o,e,ex⟩
    ·obtain⟨_,_,_,_,o,_,_,e,ex,_⟩:=I.gb p _ hk;exact⟨o,e,ex⟩
   obtain⟨o,e,ex⟩:=z;refine⟨⟨o,e,ex.1⟩,λa e2=>?_⟩
   cases e2;exact⟨o,e,ex.2.1⟩
  ·obtain⟨o,_,_,_,e,ex,_⟩:=I.gb p _ hk;refine⟨⟨o,e,ex.1⟩,λa e2=>?_⟩
   cases e2;exact⟨o,e,ex.2.1⟩
 |_=>exact False.elim ty
noncomputable def UR (K:W.Frag) (T:String) (r:V->List V->Hp->VK->Prop) (to:TE) (t:TA):TE:=λσ H Q=>to σ H λx H1=>WU K T x H1/\t σ H1 λxs H2=>r x xs H2 Q
variable {o e:cE}{es:List cE}{to:TE}{t:TA}{name:Str}{apos eP:Pos}{T id:String}{r:V->List V->Hp->VK->Prop}
theorem Ir (pa:PlainAttrs T) (slot:Slot T name id) (Zh:typeOf (.builtin id)=pure (.type "method_descriptor")) (hm:WR X id r) (ho:PE X o to) (ha:PA X (e::es) t)
  (pD:attributeBase o name X.env (eval o X.env)=eval o X.env:=by rfl)
  (vZ:((backTo eP (starEach (e::es) X.env)).all (λx=> !x.1)&&(backToKw eP (keywordEach [] X.env)).all (λx=>x.1.isSome)
   &&decide ((e::es).length+([]:List Keyword).length+(if([]:List Keyword).isEmpty then 0 else 1)<30))=true:=by rfl)
  (pE:(apos.endLine==eP.line)=true:=by rfl) (hs:starEach (e::es) X.env=(false,eval e X.env)::starEach es X.env:=by rfl) (lR:(backTo eP (starEach es X.env)).any (·.1)=false:=by rfl):
  PE X (.Call (.Attribute o name apos) (e::es) [] eP) (UR X.K T r to t):=by
 intro pins s σ H Q I h;refine wpAny_Call_method_late pD vZ pE rfl (gR (ho pins s σ H _ I h) λv s1 ⟨x,H1,I1,r1,ty,q1⟩=>?_)
 obtain⟨h1,h2⟩:=OL I1 r1 ty;refine⟨T,id,pa,slot,Zh,h1,h2,?_⟩;have hA:=ha eP pins s1 σ H1 _ I1 q1;rw[hs]at hA ⊢;refine Calls.callWith_builtin (by show(false||(backTo eP (starEach es X.env)).any (·.1))=false;rw[lR]<;>rfl) (Calls.evalArgs_plain ?_)
 exact gR hA λus s2 ⟨vs,H2,I2,r2,q2⟩=>hm pins s2 σ H2 x vs v us Q I2 r1 r2 q2
end
end L2
namespace L2
open PySem PySem.Spec PyProof.Rows
def WV (X:Cx) (id:String) (r:V->List V->Hp->VK->Prop):Prop:=
 ∀(pins:ck) (s:cx) (σ:St) (H:Hp) (x:V) (xs:List V) (v:cw) (us:cv) (Q:VK),Inv X pins σ H s->RelV x v->Vals xs us->r x xs H Q->
  wpAny (model X.prog X.w) X.A (call (.builtin id) (v::us)) (EP X pins σ Q) X.xe s
theorem Vals.one:∀{x:V}{us:cv},Vals [x] us->∃u,us=[u]/\RelV x u
 |_,_,.cons r .nil=>⟨_,rfl,r⟩
theorem Vals.eraseIdx:∀{xs:List V}{us:cv}(i:Nat),Vals xs us->Vals (xs.eraseIdx i) (us.eraseIdx i)
 |_,_,_,.nil=>.nil
 |_,_,0,.cons _ t=>t
 |_,_,i+1,.cons r t=>.cons r (Vals.eraseIdx i t)
theorem ub {α:Type}:∀(l:List α) (i:Nat),(l.eraseIdx i).length<=l.length
 |[],_=>au _
 |_::_,0=>Nat.le_succ _
 |_::r,i+1=>Nat.succ_le_succ (ub r i)
section
variable {X:Cx}{pins:ck}{σ:St}{H:Hp}{s:cx}{l b:cD}{xs ys zs:List V}
theorem Inv.RJ {dz its':cv}{n:Nat}{f:Array cw->Array cw}{t':Nat}(I:Inv X pins σ H s) (hH:H l=some (.lst xs))
  (e:s.heap.get? l=some {cls:=.type "list",data:=.seq dz.toArray n}) (hf:f dz.toArray=its'.toArray) (hv:Vals ys its') (hz:ys.length<=sizeLine):
  Inv X pins σ (upd H l (.lst ys)) {s with heap:=s.heap.update l (Obj.mapSeq f),toks:=t'}:=by
 have q:=PySem.IsL.update e f;rw[hf]at q;refine I.write (x:=l) (e:=l) (by rw[hH];exact trivial) (.inl rfl) (λb' u hb hu=>(bx s.heap (Obj.mapSeq f) (Ne.symm hb)).trans hu) ⟨_,q⟩ ?_
 exact⟨hz,its',_,hv,q⟩
theorem Inv.RK (I:Inv X pins σ H s) (hH:H l=some (.lst xs)):xs.length<=sizeLine/\∃(dz:cv) (n:Nat),Vals xs dz/\xs.length=dz.length/\s.heap.get? l=some {cls:=.type "list",data:=.seq dz.toArray n}:=by
 obtain⟨z,dz,n,r,e⟩:=I.gb l _ hH;exact⟨z,dz,n,r,r.length,e⟩
end
section
variable {X:Cx}
noncomputable def EM:V->List V->Hp->VK->Prop:=λx vs H Q=>∃l xs y,x=.ref l/\vs=[y]/\H l=some (.lst xs)/\xs.length<sizeLine/\Q .eU (upd H l (.lst (xs++[y])))
theorem yF:WV X "list.append" EM:=by
 intro pins s σ H x vs v us Q I rx rv h;obtain⟨l,xs,y,rfl,rfl,hH,hz,q⟩:=h;cases rx;obtain⟨u,rfl,ru⟩:=rv.one;obtain⟨z,dz,n,r,hl,e⟩:=I.RK hH;refine call_meets F.slot_list_append ⟨_,e,rfl⟩ F.entry_list_append (F.args_list_append_2 _ _) (PySem.list_append l dz.toArray n u (by rw[aq];omega)) ⟨e,?_⟩
 refine⟨.eU,_,I.RJ (its':=dz++[u]) hH e (by simp) (r.append (.cons ru .nil)) ?_,rfl,q⟩
 rw[aQ,List.length_singleton];omega
noncomputable def Iu:V->List V->Hp->VK->Prop:=λx vs H Q=>∃l xs i k y,x=.ref l/\vs=[.int i]/\H l=some (.lst xs)/\-(2^63)<=i/\i<2^63/\seqIndex? i xs.length=some k/\xs[k]? =some y/\Q y (upd H l (.lst (xs.eraseIdx k)))
theorem Iv:WV X "list.pop" Iu:=by
 intro pins s σ H x vs v us Q I rx rv h;obtain⟨l,xs,i,k,y,rfl,rfl,hH,h1,h2,hk,hy,q⟩:=h;cases rx;obtain⟨u,rfl,ru⟩:=rv.one;obtain⟨t,rfl⟩:=ru;obtain⟨z,dz,n,r,hl,e⟩:=I.RK hH;obtain⟨w,hw,LN⟩:=r.get hy;refine call_meets F.slot_list_pop ⟨_,e,rfl⟩ F.entry_list_pop (F.args_list_pop_2 _ _)
  (MeetsSeq.list_pop_at l dz.toArray n i t k w (fitsIndex_both h1 h2) (by rw[aq,<-hl];exact hk) (by rw[<-Array.getElem?_toList];exact hw) (by rw[aq];omega)) ⟨e,?_⟩
 refine⟨y,_,I.RJ (its':=dz.eraseIdx k) hH e ?_ (r.eraseIdx k) ?_,LN,q⟩
 ·show dz.toArray.eraseIdxIfInBounds k=(dz.eraseIdx k).toArray;rw[List.eraseIdxIfInBounds_toArray]
 ·have:=ub xs k;omega
end
section
variable {prog:cz}{w:cA}{A:cB}{E:cg}{s:cx}
end
section
variable {X:Cx}
end
end L2
namespace WW
open PySem PySem.W PySem.Calls PyProof.Rows
theorem vg {P:Params}{h:Heap}:∀(ns:cn) (vs:cv),WellAll P h vs (ns.map WData.int)->IntsAre vs ns:=by
 intro ns;induction ns with
 |nil=>
  intro vs w;rw[List.map_nil]at w;cases w;exact .nil
 |cons n ns ih=>
  intro vs w;rw[aE]at w;cases w with
  |cons a b=>
   cases a;exact .cons _ _ (ih _ b)
theorem Gr {l:OpenLaw}{n:Nat}(hn:l.most=some n) {P:Params}{h:Heap}{args:List WData}{vals:cv}
  (LP:l.row.toRowW.claim.pre args=true) (US:WellAll P h vals args):
  ∃a vs ns,vals=[Value.ref a]/\args=[WData.list (ns.map WData.int)]/\h.get? a=some {cls:=.type "list",data:=.seq vs.toArray}/\IntsAre vs ns/\ns.length<=n:=by
 have Zi:WShape.hasAll [] args [.list .int]=true:=(pre_splitW LP).1;have hc:l.pre.holds [] {args:=args}=true:=(pre_splitW LP).2;obtain⟨d,r,rfl,h1,h2⟩:=hasAllW_cons Zi;obtain rfl:=hasAllW_nil h2;obtain⟨xs,rfl,h3⟩:=hasW_list h1;obtain⟨ns,rfl⟩:=items_int h3;have hlen:ns.length<=n:=by
  unfold OpenLaw.pre at hc;have h4:(WTm.not (.lt (.lit (.int (n:Int))) (.len (.arg 0)))).holds [] {args:=[.list (ns.map .int)]}=true:=by
   have h4:=(holds_andW hc).1;rw[hn]at h4;exact h4
  have h5:=condW_of h4 (w_not (w_lt w_lit (w_len_list (w_arg rfl))));rw[ae]at h5;refine Nat.le_of_not_lt λq=>?_
  have q':(n:Int)<((ns.length:Nat):Int):=by omega
  first
   |(rw[aR q']at h5;exact absurd h5 (by decide))
   |(simp at h5;omega)
 cases US with
 |cons w1 w2=>
  cases w2;cases w1 with
  |list ho v3=>exact⟨_,_,ns,rfl,rfl,ho,vg ns _ v3,hlen⟩
theorem Gs (l:OpenLaw) (args:List WData):l.row.toRowW.claim.post args (.bool true) args=true:=
 postW_of (r:=l.row.toRowW) (X:=(true==true))
  (show WShape.has [] (.bool true) .bool=true by first|rfl|decide|simp[WShape.has,WShape.arms,WShape.armsAll])
  (show(WTm.eq .res (.lit (.bool true))).value [] {args:=args,res:=some (.bool true),after:=args}=some (.bool (true==true))from w_eq_bool (w_res rfl) w_lit) rfl
theorem Bc {l:OpenLaw}{n:Nat}{q:cz}{loose:List Str}{XP:(cj)->Heap->Prop}{YP:cA->Heap->Prop}{d:DefRec}
  (hn:l.most=some n) (RL:d.params.defaults=[])
  (call:∀(w:cA) (s₀ s₁:cx) (mg mb:cj) (fa:cD) (o:Obj) (pm cd doc:cw) (a:cD) (vs:cv) (ns:cn),
   Ground q loose [] XP w s₀ mg mb s₁.heap->YP w s₁.heap->
   s₁.heap.get? fa=some o->o.data=.func (docDef d.name d.params d.body d.scope pm cd doc)->s₁.heap.CodeRec cd d.name->mg d.name=some (.ref fa)->
   s₁.heap.get? a=some {cls:=.type "list",data:=.seq vs.toArray}->IntsAre vs ns->ns.length<=n->s₁.gens=#[]->
   codeAny (model l.prog w) callerA (.call (.ref fa) ⟨[.ref a],[]⟩) (λr s'=>r=.ok (.ret (.bool true))/\OldK s₁.heap s'.heap/\s'.os=s₁.os/\AllBare s'.gens) s₁):
  WalkO q loose XP YP l.row.toRowW d [] (λf vs=>PySem.call f vs):=by
 intro w s₀ s₁ mg mb G Y fa o pm cd doc dV kV ho hd vd hD RM hg args vals as LP Zj hrd US RN;obtain rfl:dV=.none:=Dflts.none hD RL;obtain rfl:kV=.none:=Dflts.noKw hD;obtain⟨a,vs,ns,rfl,rfl,OM,hints,hlen⟩:=Gr hn LP US;refine enter_call (codeAny_mono (call w s₀ s₁ mg mb fa o pm cd doc a vs ns G Y ho (fd_plain hd) vd RM OM hints hlen hg) λr s' hq=>?_)
 obtain⟨rfl,h2,h3,h4⟩:=hq;exact⟨.inl ⟨.bool true,.bool true,[],rfl,λ_=>rfl,.bool true,Gs l _,λ_=>⟨List.Pairwise.nil,λ_ hm=>(nomatch hm)⟩⟩,h2,h3,h4⟩
section
variable {prog:cz}{w:cA}{A:cB}{E:cg}{s:cx}{K:Frag}
end
end WW
namespace L2
open PySem PySem.Spec PyProof.Rows
theorem qp:∀{vs:cv}{ns:cn},IntsAre vs ns->Vals (ns.map V.int) vs
 |_,_,.nil=>.nil
 |_,_,.cons n t h=>.cons ⟨t,rfl⟩ (qp h)
end L2
namespace L2
open PySem PySem.Spec PyProof.Rows
end L2
namespace L2
open PySem PySem.Spec PyProof.Rows
noncomputable def inClass (s:cF) (j:Nat):cF:=match s with
 |.ClassDef _ _ _ body _ _ _ _ _ _ _=>body.getD j (.Pass ⟨0,0,0,0⟩)
 |_=>.Pass ⟨0,0,0,0⟩
noncomputable def dD (s:cF):Arguments:=match s with
 |.FunctionDef _ a _ _ _ _ _ _ _ _=>a
 |_=>{posonlyargs:=[],args:=[],vararg:=none,kwonlyargs:=[],kw_defaults:=[],kwarg:=none,defaults:=[]}
noncomputable def dh (s:cF):List cF:=match s with
 |.FunctionDef _ _ b _ _ _ _ _ _ _=>b
 |_=>[]
noncomputable def cK (s:cF):Scope:=match s with
 |.FunctionDef _ _ _ _ _ _ sc _ _ _=>sc
 |_=>{kind:=.function,names:=[],isGenerator:=false,isCoroutine:=false}
noncomputable abbrev jb:Gp:=λ_ _ _ _ _ _=>False
noncomputable abbrev E0:XK:=λ_ _ _=>False
theorem EN {X:Cx}:Passes jb X E0:=λ_ _ _ _ _ _ _ h=>h.elim
structure lS (K:W.Frag) (x qual:Str) (st:cF) (f:cD) (fd:cy):Prop where
 ex:∃(oc:cw) (od:cp) (kV doc pm:cw) (an:cp) (fO ct:cw) (LD:cq),
  fd=W.fnOf x qual (dD st) (dh st) (cK st) .none kV doc pm an fO ct/\K.lookup f=some ⟨oc,od,.func fd,LD⟩/\W.codeIn K fO qual=true
 kp:W.keepIn K (.ref f)=true
section
variable {P:cz}{w:cA}{K:W.Frag}{mg:cj}{base:Heap}
theorem lS.ok {x qual:Str}{st:cF}{f:cD}{fd:cy}{N ps:List Str}{k:Nat}{sp:Sp}(F:lS K x qual st f fd) (S:du N ps (cK st)) (len:∀vs H Q E,sp vs H Q E->vs.length=ps.length)
  (kP:∀(fO:cw) (A:cB) (outer:List Env) (s:cx) (H:Hp) (vs:List V) (Q:VK) (E:XK),gy k (A.deeper (envOfC qual (cK st) s.heap.objs.size f fO))->sp vs H Q E->
   ∃t,xK (rN jb P w K mg base N qual (cK st) f fO A outer s H E).EE (dh st) t/\t {nx:=λ_ H'=>Q .eU H',rt:=Q} (start N vs) H):eA P w K mg base jb (k+1) f fd ps sp:=by
 obtain⟨oc,od,kV,doc,pm,an,fO,ct,LD,rfl,lk,vd⟩:=F.ex;refine Nk lk vd S len λA outer s H vs Q E hr Lc=>?_
 obtain⟨t,h,q⟩:=kP fO A outer s H vs Q E hr Lc;exact⟨t,h.EE,q⟩
theorem lS.binds {x qual:Str}{st:cF}{f:cD}{fd:cy}{ps:List Str}(F:lS K x qual st f fd)
  (h:∀(kV doc pm:cw) (an:cp) (fO ct:cw) (us:cv),us.length=ps.length->bindArgs (W.fnOf x qual (dD st) (dh st) (cK st) .none kV doc pm an fO ct) ⟨us,[]⟩=pure (ps.zip us)):Binds K fd ps []:=by
 obtain⟨oc,od,kV,doc,pm,an,fO,ct,LD,rfl,lk,vd⟩:=F.ex;exact .all (h kV doc pm an fO ct)
theorem dX {x qual:Str}{st:cF}{f:cD}{oc:cw}{od an:cp}{LD:cq}{kV doc pm fO ct:cw}(l:K.lookup f=some ⟨oc,od,.func (W.fnOf x qual (dD st) (dh st) (cK st) .none kV doc pm an fO ct),LD⟩)
  (c:W.codeIn K fO qual=true) (k:W.keepIn K (.ref f)=true):lS K x qual st f (W.fnOf x qual (dD st) (dh st) (cK st) .none kV doc pm an fO ct):=⟨⟨oc,od,kV,doc,pm,an,fO,ct,LD,rfl,l,c⟩,k⟩
end
theorem kb {n:Nat}(h:n<=1000):n<sizeLine:=Nat.lt_of_le_of_lt h (by decide)
section
variable {X:Cx}
theorem pv (i:Nat) {x:Str}{pos:Pos}(hN:X.N[i]? =some x:=by rfl) (hv:QH X.env.scope x:=by first|exact Or.inl rfl|exact Or.inr (Or.inl rfl)|exact Or.inr (Or.inr rfl)) (hd:(x==("__debug__":Str))=false:=by decide)
  (vd:(x==("__classdict__":Str))=false:=by decide):PE X (.Name x pos) (jo i):=CP hN hv hd vd
end
theorem zH {A B:Prop}(h:B):if false=true then A else B:=by
 rw[if_neg aZ];exact h
theorem xQ {A B:Prop}(h:A):if true=true then A else B:=by
 rw[if_pos rfl];exact h
def dU (H H':Hp):Prop:=∀b o,H b=some o->H' b=some o
theorem dU.refl (H:Hp):dU H H:=λ_ _ h=>h
theorem dU.trans {H H1 H2:Hp}(a:dU H H1) (b:dU H1 H2):dU H H2:=λc o h=>b c o (a c o h)
theorem dU.free {H H':Hp}(e:dU H H') {l:cD}(h:H' l=Option.none):H l=Option.none:=by
 cases q:H l with
 |none=>rfl
 |some o=>
  rw[e l o q]at h;cases h
end L2
namespace L2
open PySem PySem.Spec PyProof.Rows
noncomputable def uc (K:W.Frag):List (cD×Array cw):=va.filterMap λ(t:Str×Pos×Str)=>(W.tabIn K t.1).map λq=>(q.2,xH t.2.1 t.2.2)
theorem LQ {K:W.Frag}{b:cD}{ps:Array cw}(h:(b,ps)∈uc K):∃x c pos qual,(x,pos,qual)∈va/\W.tabIn K x=some (c,b)/\ps=xH pos qual:=by
 obtain⟨⟨x,pos,qual⟩,hm,he⟩:=List.mem_filterMap.mp h;cases ht:W.tabIn K x with
 |none=>rw[show W.tabIn K (x,pos,qual).1=none from ht]at he;cases he
 |some q=>
  obtain⟨c,P⟩:=q;rw[show W.tabIn K (x,pos,qual).1=some (c,P)from ht]at he
  cases he;exact⟨x,c,pos,qual,hm,ht,rfl⟩
theorem Iw {K:W.Frag}{x:Str}{c b:cD}{pos:Pos}{qual:Str}(hm:(x,pos,qual)∈va) (ht:W.tabIn K x=some (c,b)):(b,xH pos qual)∈uc K:=
 List.mem_filterMap.mpr ⟨(x,pos,qual),hm,by show(W.tabIn K x).map _=_;rw[ht];rfl⟩
theorem sr {α:Type}:∀{l:List (cD×α)}{b:cD}{v:α},(l.map (·.1)).Nodup->(b,v)∈l->l.lookup b=some v
 |[],_,_,_,h=>by cases h
 |(c,u)::r,b,v,nd,h=>by
  rw[aE,List.nodup_cons]at nd;rcases List.mem_cons.mp h with e|h
  ·cases e;simp[bq]
  ·have ja:b≠c:=λz=>nd.1 (by rw[<-z];exact List.mem_map_of_mem (f:=(·.1)) h)
   have hb:(b==c)=false:=by simpa using ja
   rw[bq,hb];exact sr nd.2 h
theorem uP {α:Type}:∀{l:List (cD×α)}{b:cD}{v:α},l.lookup b=some v->(b,v)∈l
 |[],_,_,h=>by cases h
 |(c,u)::r,b,v,h=>by
  by_cases e:b=c
  ·subst e;simp only[bq,bN,Option.some.injEq]at h;subst h;exact af
  ·have hb:(b==c)=false:=by simpa using e
   simp only[bq,hb]at h;exact ai _ (uP h)
noncomputable def tabsOk (K:W.Frag):Bool:=W.noTabs K&&decide ((uc K).map (·.1)).Nodup
theorem Gu {P:cz}{w:cA}{K:W.Frag}{mg mb:cj}{CX:Gp}{k:Nat}{fa a:cD}{fd:cy}{x:Str}{sp:Sp}{s₁:cx}{vs:cv}{ns:cn}
  (KX:K.In s₁.heap) (LR:s₁.heap.Ns mainGlobals mg) (hb:s₁.heap.Ns builtinsNs mb) (WX:∀x:Str,x≠"__name__"->mb x=bootBuiltins x) (ON:s₁.heap.NoLimit) (hg:s₁.gens=#[])
  (ha:s₁.heap.get? a=some {cls:=.type "list",data:=.seq vs.toArray}) (hi:IntsAre vs ns) (hl:ns.length<=sizeLine) (hr:gy k callerA)
  (UT:tabsOk K=true) (hT:∀x c Pt pos qual,(x,pos,qual)∈va->W.tabIn K x=some (c,Pt)->W.CodeHd s₁.heap c Pt/\s₁.heap.get? Pt=some (W.tabObj #[]))
  (Zk:∃bm ob,mg "__builtins__"=some (.ref bm)/\bm≠builtinsNs/\s₁.heap.get? bm=some ob/\ob.cls=.type "module"/\ob.dict=some builtinsNs/\ob.data=.plain)
  (F:∀base:Heap,K.In base->base.Ns mainGlobals mg->eA P w K mg base CX k fa fd [x] sp) (RO:∀(s:cx) (u:cw),BindsTo s fd ⟨[u],[]⟩ [(x,u)])
  (Lc:∀H:Hp,pf K H a (ns.map V.int)->sp [.ref a] H (λv _=>v=.bl true) λ_ _ _=>False)
  (UU:∀H e s',CX [] H s₁ (λ_ _ _=>False) e s'->False):
  codeAny (model P w) callerA (.call (.ref fa) ⟨[.ref a],[]⟩) (λr s'=>r=.ok (.ret (.bool true))/\OldK s₁.heap s'.heap/\s'.os=s₁.os/\AllBare s'.gens) s₁:=by
 have rv:=qp hi;have UW:=hi.length;obtain⟨TH,UX⟩:=Bool.and_eq_true_iff.mp UT;have Le:((uc K).map (·.1)).Nodup:=bK UX
 have atT:∀{b:cD}{ps:Array cw},(uc K).lookup b=some ps->∃c pos qual,ps=xH pos qual/\W.CodeHd s₁.heap c b/\s₁.heap.get? b=some (W.tabObj #[]):=λ{b ps} h=>by
  obtain⟨x,c,pos,qual,hm,ht,e⟩:=LQ (uP h);exact⟨c,pos,qual,e,hT x c b pos qual hm ht⟩
 have core:∀H0:Hp,(∀b u,H0 b=some u->b=a/\K.lookup a=none/\u=.CH {cls:=.type "list",data:=.seq vs.toArray} (.lst (ns.map V.int)))->pf K H0 a (ns.map V.int)->
   codeAny (model P w) callerA (.call (.ref fa) ⟨[.ref a],[]⟩) (λr s'=>r=.ok (.ret (.bool true))/\OldK s₁.heap s'.heap/\s'.os=s₁.os/\AllBare s'.gens) s₁:=by
  intro H0 h0 Zl;have hex:∃H:Hp,(∀b u,H0 b=some u->H b=some u)/\(∀b ps,(uc K).lookup b=some ps->H b=some (.CO ps))/\∀b u,H b=some u->(b=a/\K.lookup a=none/\u=.CH {cls:=.type "list",data:=.seq vs.toArray} (.lst (ns.map V.int)))\/∃ps,(uc K).lookup b=some ps/\u=.CO ps:=by
   refine⟨λb=>match(uc K).lookup b with|some ps=>some (HO.CO ps)|none=>H0 b,λb u e=>?_,λb ps e=>?_,λb u e=>?_⟩
   ·show(match(uc K).lookup b with|some ps=>some (HO.CO ps)|none=>H0 b)=_
    cases q:(uc K).lookup b with
    |none=>exact e
    |some ps=>
     obtain⟨c,pos,qual,_,_,e2⟩:=atT q;obtain⟨rfl,_⟩:=h0 b u e;rw[ha]at e2;cases e2
   ·show(match(uc K).lookup b with|some ps=>some (HO.CO ps)|none=>H0 b)=_
    rw[e]
   ·have e':(match(uc K).lookup b with|some ps=>some (HO.CO ps)|none=>H0 b)=some u:=e
    cases q:(uc K).lookup b with
    |none=>
     rw[q]at e';exact .inl (h0 b u e')
    |some ps=>
     rw[q]at e';cases e';exact .inr ⟨ps,rfl,rfl⟩
  obtain⟨H,up,ut,uo⟩:=hex;have hS:pf K H a (ns.map V.int):=by
   rcases Zl with h|h
   ·rcases h with h|⟨o,h⟩
    ·exact .inl (.inl (up _ _ h))
    ·exact .inl (.inr ⟨o,up _ _ h⟩)
   ·exact .inr h
  have gb:qV P w H s₁.heap:=λb u e=>by
   rcases uo b u e with⟨rfl,_,rfl⟩|⟨ps,q,rfl⟩
   ·exact⟨ha,by rw[ae];exact hl,vs,_,rv,ha⟩
   ·obtain⟨c,pos,qual,rfl,_,e2⟩:=atT q;exact⟨#[],e2,trivial,pos,qual,#[],by simp,.inl rfl⟩
  have vy:∀{b:cD}{o:Obj},s₁.heap.get? b=some o->H b=none->(xJ s₁.heap H).get? b=some o:=λe n=>HR e n
  have RA:∀{b:cD}{o:Obj}{es:Array DictEntry}{ep:Nat},s₁.heap.get? b=some o->o.data=.dict es ep->H b=none:=λ{b o es ep} e d=>by
   cases q:H b with
   |none=>rfl
   |some u=>
    rcases uo b u q with⟨rfl,_,_⟩|⟨ps,q2,_⟩
    ·rw[ha]at e;cases e;have d':Data.seq vs.toArray _=Data.dict es ep:=d;cases d'
    ·obtain⟨c,pos,qual,_,_,e2⟩:=atT q2;rw[e]at e2;cases e2;cases d
  have TJ:∀{b:cD}{m:cj},s₁.heap.Ns b m->(xJ s₁.heap H).Ns b m:=λ{b m} ⟨o,es,ep,e,d,r⟩=>⟨o,es,ep,vy e (RA e d),d,r⟩
  have WY:K.In (xJ s₁.heap H):=λb o e=>vy (KX b o e) (by
   cases q:H b with
   |none=>rfl
   |some u=>
    rcases uo b u q with⟨rfl,hk,_⟩|⟨ps,q2,_⟩
    ·rw[hk]at e;cases e
    ·obtain⟨c,pos,qual,_,_,e2⟩:=atT q2;rw[KX b o e]at e2;cases e2;have h2:=List.all_eq_true.mp TH (b,W.tabObj #[]) (W.mem_of_lookupK e);exact absurd (show false=true from h2) aZ)
  have hM:Mod K mg (xJ s₁.heap H):=⟨WY,TJ LR,⟨mb,TJ hb,WX⟩,let ⟨mc,h1,h2⟩:=ON;⟨mc,TJ h1,h2⟩⟩;have WZ:∀{b:cD}{o:Obj}{T:String},s₁.heap.get? b=some o->o.cls=.type T->T≠"list"->H b=none:=λ{b o T} e d nl=>by
   cases q:H b with
   |none=>rfl
   |some u=>
    rcases uo b u q with⟨rfl,_,_⟩|⟨ps,q2,_⟩
    ·rw[ha]at e;cases e;injection (show Value.type "list"=Value.type T from d)with d'
     exact absurd d'.symm nl
    ·obtain⟨c,pos,qual,_,_,e2⟩:=atT q2;rw[e]at e2;cases e2;cases d
  have TK:Ga K mg (xJ s₁.heap H) H:=λx c Pt pos qual hm ht=>by
   obtain⟨hC,hP⟩:=hT x c Pt pos qual hm ht;obtain⟨o,Zm,file,tf,flags,tg,Zn,text,tt,c1,c2,c3⟩:=hC;obtain⟨bm,ob,b1,b2,b3,b4,b5,b6⟩:=Zk;refine⟨⟨#[],by rw[ut Pt _ (sr Le (Iw hm ht))];simp⟩,⟨o,Zm,file,tf,flags,tg,Zn,text,tt,vy c1 (WZ c1 c2 (by decide)),c2,c3⟩,bm,ob,b1,b2,λz=>?_,λz=>?_,vy b3 (WZ b3 b4 (by decide)),b4,b5,b6⟩
   ·obtain⟨og,es,ep,e,hd,_⟩:=LR;rw[z,e]at b3;cases b3;rw[hd]at b6;cases b6
   ·rw[z,hP]at b3;cases b3;cases b4
  have e0:Dh P w K mg (xJ s₁.heap H) callerA [] s₁ H:=⟨rfl,hM,λb o e=>Lj e,Nat.le_of_eq (Gb _ _),trivial,λb hb=>absurd (show b∈([]:List cD)from hb) (by simp),gb,.of_eq hg,TK⟩
  refine codeAny_mono ((F _ WY (TJ LR)).run callerA [] s₁ H ⟨[.ref a],[]⟩ [.ref a] [.ref a] _ _ hr e0 (RO s₁ (.ref a)) (.cons rfl .nil) (Lc H hS)) λr s' h=>?_
  cases r with
  |error e=>exact(UU H e s' h).elim
  |ok fl=>
   cases fl with
   |next=>exact False.elim h
   |brk=>exact False.elim h
   |cont=>exact False.elim h
   |ret u=>
    obtain⟨v,H',os,bare,un,RP,r',q⟩:=h;have q':v=.bl true:=q;subst q';obtain rfl:u=Value.bool true:=r';refine⟨rfl,⟨λb o e=>?_,λb o e=>un.there b o e (by simp)⟩,os,bare⟩
    cases q:H b with
    |none=>exact .inl (un.keep b o e q (by intro z;exact absurd (show b∈([]:List cD)from z) (by simp)) (by simp))
    |some u=>
     rcases uo b u q with⟨_,_,rfl⟩|⟨ps,q2,rfl⟩
     ·have z2:=un.zw b _ _ q;obtain⟨e1,_⟩:=gb b _ q;obtain⟨e2,_⟩:=RP b _ z2;rw[e]at e1;cases e1;exact .inl e2
     ·obtain⟨c,pos,qual,_,hC,e2⟩:=atT q2;obtain⟨more,e3⟩:=un.xI b _ q;obtain⟨qs,e4,_⟩:=(show yx H' s'.heap b (ps++more)from RP b _ e3)
      rw[e]at e2;cases e2;exact .inr (.inl ⟨(hC.tab e).isCodeTable,rfl,#[],qs,rfl,by rw[e4];simp⟩)
 cases hk:K.lookup a with
 |some o=>
  have e:=KX a o hk;rw[ha]at e;cases e;exact core (λ_=>none) (λb u z=>by cases z) (.inr ⟨_,vs.toArray,_,hk,rfl,rfl,rfl,by rw[aq,UW];exact hl,by simpa using rv⟩)
 |none=>
  refine core (λb=>if b=a then some (.CH {cls:=.type "list",data:=.seq vs.toArray} (.lst (ns.map V.int)))else none) (λb u z=>?_) (.inl (.inr ⟨{cls:=.type "list",data:=.seq vs.toArray},if_pos rfl⟩))
  by_cases hb:b=a
  ·have z':=(if_pos hb).symm.trans z;cases z';exact⟨hb,hk,rfl⟩
  ·have z':=(if_neg hb).symm.trans z;cases z'
theorem LS {l:W.OpenLaw}{n k:Nat}{q:cz}{loose:List Str}{XP:(cj)->Heap->Prop}{YP:cA->Heap->Prop}{d:DefRec}{K:Params->W.Frag}{CX:cA->Gp}{sp:cA->Sp}{x:Str}
  (hn:l.most=some n) (QK:n<=sizeLine) (RL:d.params.defaults=[]) (hr:gy k callerA)
  (hY:∀(w:cA) (h:Heap),YP w h->(K w.params).In h)
  (Iy:∀t∈va,((recsOf q).find? λe=>e.name==t.1).isSome=true)
  (F:∀(w:cA) (mg:cj) (fa:cD) (h:Heap),(K w.params).In h->h.Ns mainGlobals mg->mg d.name=some (.ref fa)->
   tabsOk (K w.params)=true/\∃fd:cy,(∀(s:cx) (u:cw),BindsTo s fd ⟨[u],[]⟩ [(x,u)])/\
    ∀base:Heap,(K w.params).In base->base.Ns mainGlobals mg->eA l.prog w (K w.params) mg base (CX w) k fa fd [x] (sp w))
  (Lc:∀(w:cA) (H:Hp) (a:cD) (ns:cn),ns.length<=n->pf (K w.params) H a (ns.map V.int)->sp w [.ref a] H (λv _=>v=.bl true) λ_ _ _=>False)
  (UU:∀(w:cA) (H:Hp) (s:cx) (e:cw) (s':cx),CX w [] H s (λ_ _ _=>False) e s'->False):
  W.WalkO q loose XP YP l.row.toRowW d [] (λf vs=>PySem.call f vs):=by
 refine WW.Bc hn RL λw s₀ s₁ mg mb fa o pm cd doc a vs ns G Y ho hd vd RM OM hints hlen hg=>?_
 have KX:=hY w _ Y;obtain⟨UT,fd,hb,hF⟩:=F w mg fa _ KX G.T.g RM;refine Gu KX G.T.g G.T.b G.T.builtins G.T.nolimit hg OM hints (aB hlen QK) hr UT (λx c Pt pos qual hm ht=>?_) (let ⟨bm,ob,b1,b2,b3,b4,b5,b6⟩:=G.T.bmain;⟨bm,ob,b1,b2,b3,b4,b5,b6⟩) hF hb (λH hS=>Lc w H a ns hlen hS) λH e s'=>UU w H s₁ e s'
 obtain⟨d',Nb⟩:=Option.isSome_iff_exists.mp (Iy _ hm);exact W.tab_of G.T KX Nb ht
end L2
namespace L2
open PySem PySem.Spec PyProof.Rows
theorem lT (env:Env):∀(names:List (Str×NameKind)) (x:Str),
  (names.map λ(n,k)=>if(k==NameKind.free&&env.scope.kind==.function&&env.kindOf n==some .cell)then(n,NameKind.cell)else(n,k)).lookup x=
   (names.lookup x).map λk=>if(k==NameKind.free&&env.scope.kind==.function&&env.kindOf x==some .cell)then NameKind.cell else k
 |[],_=>rfl
 |(n,k)::r,x=>by
  have ih:=lT env r x;rw[aE];show List.lookup x ((if(k==NameKind.free&&env.scope.kind==.function&&env.kindOf n==some .cell)=true then(n,NameKind.cell)else(n,k))::_)=_
  by_cases hx:x=n
  ·subst hx;by_cases hc:(k==NameKind.free&&env.scope.kind==.function&&env.kindOf x==some .cell)=true
   ·rw[if_pos hc];simp only[bq,bN,bA];rw[if_pos hc]
   ·rw[if_neg hc];simp only[bq,bN,bA];rw[if_neg hc]
  ·have hb:(x==n)=false:=by simpa using hx
   by_cases hc:(k==NameKind.free&&env.scope.kind==.function&&env.kindOf n==some .cell)=true
   ·rw[if_pos hc];simp only[bq,hb];exact ih
   ·rw[if_neg hc];simp only[bq,hb];exact ih
theorem mem_lookup {α:Type}:∀{l:List (Str×α)}{x:Str}{a:α},l.lookup x=some a->(x,a)∈l
 |[],_,_,h=>by cases h
 |(n,b)::r,x,a,h=>by
  by_cases hx:x=n
  ·subst hx;simp only[bq,bN,Option.some.injEq]at h;subst h;exact af
  ·have hb:(x==n)=false:=by simpa using hx
   simp only[bq,hb]at h;exact ai _ (mem_lookup h)
theorem Dk {scope:Scope}{env:Env}(h:∀y∈scope.names,y.2=.free->∃c,env.cells.lookup y.1=some c):
  ∃cl,closureFor scope env=pure cl/\(∀x c,cl.lookup x=some c->env.cells.lookup x=some c/\(x,NameKind.free)∈scope.names)/\(∀x,(x,NameKind.free)∈scope.names->∃c,cl.lookup x=some c):=by
 have loop:∀(l:List (Str×NameKind)) (acc:List (Str×cD)) (f:Str×NameKind->List (Str×cD)->Sem (ForInStep (List (Str×cD)))),
   (∀n k a,f (n,k) a=if(k==NameKind.free)=true then(do let c <-cellOf env n;pure (ForInStep.yield ((n,c)::a)))else pure (ForInStep.yield a))->
   (∀y∈l,y.2=.free->∃c,env.cells.lookup y.1=some c)->
   ∃cl,forIn l acc f=pure cl/\(∀x c,cl.lookup x=some c->acc.lookup x=some c\/(env.cells.lookup x=some c/\(x,NameKind.free)∈l))/\(∀x,((x,NameKind.free)∈l\/∃c,acc.lookup x=some c)->∃c,cl.lookup x=some c):=by
  intro l;induction l with
  |nil=>intro acc f _ _;exact⟨acc,rfl,λx c e=>.inl e,λx e=>e.elim (λz=>nomatch z) id⟩
  |cons y r ih=>
   intro acc f hf hl;obtain⟨n,k⟩:=y;have hr:∀y∈r,y.2=.free->∃c,env.cells.lookup y.1=some c:=λy hy=>hl y (ai _ hy)
   rw[List.forIn_cons,hf];by_cases hk:k=.free
   ·subst hk;obtain⟨c,hc⟩:=hl (n,.free) af rfl;have ec:cellOf env n=pure c:=by unfold cellOf;rw[hc]
    rw[if_pos (by rfl),ec]
    obtain⟨cl,e1,e2,e3⟩:=ih ((n,c)::acc) f hf hr;refine⟨cl,by simpa using e1,λx d hx=>?_,λx hx=>e3 x ?_⟩
    ·rcases e2 x d hx with z|⟨z1,z2⟩
     ·by_cases QN:x=n
      ·subst QN;simp only[bq,bN,Option.some.injEq]at z;subst z;exact .inr ⟨hc,af⟩
      ·have hb:(x==n)=false:=by simpa using QN
       simp only[bq,hb]at z;exact .inl z
     ·exact .inr ⟨z1,ai _ z2⟩
    ·by_cases QN:x=n
     ·subst QN;exact .inr ⟨c,by simp[bq]⟩
     ·have hb:(x==n)=false:=by simpa using QN
      rcases hx with z|⟨d,z⟩
      ·rcases List.mem_cons.mp z with z|z
       ·cases z;exact absurd rfl QN
       ·exact .inl z
      ·exact .inr ⟨d,by simp only[bq,hb];exact z⟩
   ·have hb:(k==NameKind.free)=false:=by simpa using hk
    rw[if_neg (by rw[hb];exact aZ)]
    obtain⟨cl,e1,e2,e3⟩:=ih acc f hf hr;refine⟨cl,by simpa using e1,λx d hx=>(e2 x d hx).elim .inl λz=>.inr ⟨z.1,ai _ z.2⟩,λx hx=>e3 x ?_⟩
    rcases hx with z|z
    ·rcases List.mem_cons.mp z with z|z
     ·cases z;exact absurd rfl hk
     ·exact .inl z
    ·exact .inr z
 have ec:closureFor scope env=forIn scope.names ([]:List (Str×cD)) (λ(x:Str×NameKind) a=>if(x.2==NameKind.free)=true then(do let c <-cellOf env x.1;pure (ForInStep.yield ((x.1,c)::a)))else pure (ForInStep.yield a)):=by
  unfold closureFor;simp only[bind_pure]
 obtain⟨cl,e1,e2,e3⟩:=loop scope.names [] (λ(x:Str×NameKind) a=>if(x.2==NameKind.free)=true then(do let c <-cellOf env x.1;pure (ForInStep.yield ((x.1,c)::a)))else pure (ForInStep.yield a)) (λn k a=>rfl) h
 refine⟨cl,?_,λx c hx=>?_,λx hx=>e3 x (.inl hx)⟩
 ·rw[ec,e1]
 ·rcases e2 x c hx with z|z
  ·simp at z
  ·exact z
noncomputable def dE (X:Cx) (scope:Scope) (cl:List (Str×cD)) (C:cD) (s:cx) (H:Hp) (fp:List cD):Cx:=
 {X with s₀:=s,H₀:=H,env:=compEnvC scope cl C X.env,outer:=X.stack,ex:=fp,fn:=λ_=>false,pn:=[],xe:=λ_ _=>False}
noncomputable def vz (N:List Str) (outer names:List (Str×NameKind)) (x:Str):Bool:=
 names.all (λy=>(y.2!=.cell&&(y.2!=.local||y.1==x|| !(N.contains y.1)))&&(y.2!=.local||names.lookup y.1==some .local)&&(y.2!=.free||((outer.lookup y.1==some .cell||outer.lookup y.1==some .free)&&names.lookup y.1==some .free)))&&names.lookup x==some .local
structure gA (X:Cx) (scope:Scope) (x:Str) (j:Nat):Prop where
 kind:scope.kind=.function
 ok:vz X.N X.env.scope.names scope.names x=true
 hj:X.N[j]? =some x
 nd:X.N.Nodup
section
variable {X:Cx}{scope:Scope}{x:Str}{j:Nat}
theorem gA.all (S:gA X scope x j):∀y∈scope.names,y.2≠.cell/\(y.2=.local->scope.names.lookup y.1=some .local)/\(y.2=.free->(X.env.kindOf y.1=some .cell\/X.env.kindOf y.1=some .free)/\scope.names.lookup y.1=some .free):=λy hy=>by
 have h:=S.ok;unfold vz at h;have h1:=(List.all_eq_true.mp (Bool.and_eq_true_iff.mp h).1) y hy;have h2:=Bool.and_eq_true_iff.mp h1;have h3:=Bool.and_eq_true_iff.mp h2.1;have h0:=Bool.and_eq_true_iff.mp h3.1;refine⟨by simpa using h0.1,λe=>?_,λe=>?_⟩
 ·have:=h3.2;rw[e]at this
  simpa using this
 ·have:=h2.2;rw[e]at this;exact(by simpa using this:(X.env.scope.names.lookup y.1=some .cell\/X.env.scope.names.lookup y.1=some .free)/\scope.names.lookup y.1=some .free)
theorem gA.only(S:gA X scope x j) {y:Str}(hm:(y,NameKind.local)∈scope.names) {i:Nat}(vh:i≠j) (e:X.N[i]? =some y):False:=by
 have h:=S.ok;unfold vz at h;have h1:=(List.all_eq_true.mp (Bool.and_eq_true_iff.mp h).1) _ hm;have h2:=Bool.and_eq_true_iff.mp h1;have h3:=Bool.and_eq_true_iff.mp h2.1;have h0:=(Bool.and_eq_true_iff.mp h3.1).2;have hN:y∈X.N:=bh e;have Zo:X.N.contains y=true:=by simpa using hN
 simp only[Zo,bne_self_eq_false,Bool.false_or,bT,Bool.or_false]at h0;have:y=x:=by simpa using h0
 subst this;exact vh (vR S.nd e S.hj)
theorem gA.hx (S:gA X scope x j):scope.names.lookup x=some .local:=by
 have h:=S.ok;unfold vz at h
 simpa using (Bool.and_eq_true_iff.mp h).2
end
def Iz (X:Cx) (ifs:List cE) (t:TT):Prop:=
 ∀(pins:ck) (s:cx) (σ:St) (H:Hp) (Q:Bool->Hp->Prop),Inv X pins σ H s->t σ H Q->
  wpAny (model X.prog X.w) X.A (forIn ifs true λc r=>if r=true then do let ok <-isTrue c X.env (eval c X.env);pure (ForInStep.yield ok)else pure (ForInStep.yield r)) (TP X pins σ Q) X.xe s
noncomputable def RQ:TT:=λ_ H Q=>Q true H
theorem v5 {X:Cx}:Iz X [] RQ:=λ_ _ _ H _ I h=>wpAny_tests_nil ⟨H,I,h⟩
theorem Bd {X:Cx}{c:cE}{t:TT}(h:PT X c t):Iz X [c] t:=λpins s σ H Q I q=>wpAny_tests_one (h pins s σ H Q I q)
noncomputable def EO (wi:TI) (j:Nat) (tt:TT) (te:TE):TE:=λσ H Q=>wi σ H λJ H1=>∀D,H1 D=none->∃W:Nat->Nat->List V->Hp->Prop,(∃m,W 0 m [] (upd H1 D (.lst [])))/\
 ∀i m acc H,W i m acc H->(J.stop i H/\Q (.ref D) H)\/(J.go i H/\∀x H',J.Og i H x H'->tt (σ.set j (some x)) H' λb H2=>
  if b=true then te (σ.set j (some x)) H2 λy H3=>H3 D=some (.lst acc)/\acc.length<sizeLine/\∃m',m'<m/\W (i+1) m' (acc++[y]) (upd H3 D (.lst (acc++[y])))else ∃m',m'<m/\W (i+1) m' acc H2)
theorem zI {prog:cz}{w:cA}{A:cB}{R:Result->cx->Prop}{s:cx}{elt target iter:cE}{ifs:List cE}{scope:Scope}{pos:Pos}{it acc:cw}{env:Env}(I:Nat->cx->Prop)
  (turn:∀n s,I n s->wpAny (model prog w) A (pyNext it) (λr s₁=>match r with
   |none=>R (.ok .next) s₁
   |some v=>wpAny (model prog w) A (letOwnedTupleGo target it v) (λ_ s₁=>wpAny (model prog w) A (assign target env v) (λ_ s₂=>
     wpAny (model prog w) A (forIn ifs true λc r=>if r=true then do let ok <-isTrue c env (eval c env);pure (ForInStep.yield ok)else pure (ForInStep.yield r)) (λok s₃=>
      if ok=true then wpAny (model prog w) A (eval elt env) (λx s₄=>
       wpAny (model prog w) A (call (.builtin "list.append") [acc,x]) (λ_ s₅=>∃m,m<n/\I m s₅) (λ_ _=>False) s₄) (λ_ _=>False) s₃
      else ∃m,m<n/\I m s₃) (λ_ _=>False) s₂) (λ_ _=>False) s₁) (λ_ _=>False) s₁) (λ_ _=>False) s)
  (n:Nat) (h:I n s):
  codeAny (model prog w) A (.compLoop (.ListComp elt [⟨target,iter,ifs,0⟩] scope pos) 0 it acc env) R s:=by
 refine codeAny_loop rfl I (λn s hI=>?_) n h
 show wpAny _ A ((compTurn (.ListComp elt [⟨target,iter,ifs,0⟩] scope pos) 0 it acc env).onRaise (λx=>do noteFrame x env;theTreesLotGoes x)) _ _ s
 refine wpAny_noted ?_;rw[compTurn_list];refine aa (wpAny_standAt (aa (bP (turn n s hI) (λr s₁ h₁=>?_) λ_ _ h'=>h'.elim)))
 cases r with
 |none=>exact aj h₁
 |some v=>
  refine aa (bP h₁ (λ_ s₁ h₁=>?_) λ_ _ h'=>h'.elim)
  refine aa (bP h₁ (λ_ s₂ h₂=>aa (bP h₂ (λok s₃ h₃=>?_) λ_ _ h'=>h'.elim)) λ_ _ h'=>h'.elim)
  cases ok with
  |false=>exact aj ⟨rfl,h₃⟩
  |true=>
   exact aa (aa (bP h₃ (λx s₄ h₄=>aa (bP h₄ (λ_ s₅ h₅=>aj (aj ⟨rfl,h₅⟩)) λ_ _ h'=>h'.elim)) λ_ _ h'=>h'.elim))
section
variable {X:Cx}{elt iter:cE}{ifs:List cE}{x:Str}{px pos:Pos}{scope:Scope}{j:Nat}{wi:TI}{tt:TT}{te:TE}
theorem v7 (hc:X.calm=true) (S:gA X scope x j) {cl:List (Str×cD)}(t7:closureFor scope X.env=pure cl) (HI:∀y c,cl.lookup y=some c->X.env.cells.lookup y=some c/\(y,NameKind.free)∈scope.names)
  (QO:∀y,(y,NameKind.free)∈scope.names->∃c,cl.lookup y=some c)
  (ht:∀cl C s H fp,Iz (dE X scope cl C s H fp) ifs tt) (he:∀cl C s H fp,PE (dE X scope cl C s H fp) elt te)
  {pins:ck}{σ:St}{H2:Hp}{s₂:cx}{it:cD}{fp:List cD}{tn:Nat->Heap->Prop}{J:It}{Q:VK}(I2:Inv X pins σ H2 s₂) (T:Turn X.prog X.w X.K (.Name x px) J fp it tn) (Nh:tn 0 s₂.heap) (f2:∀b∈fp,A5 X pins H2 b)
  (hR:∀D,H2 D=none->∃W:Nat->Nat->List V->Hp->Prop,(∃m,W 0 m [] (upd H2 D (.lst [])))/\
   ∀i m acc H,W i m acc H->(J.stop i H/\Q (.ref D) H)\/(J.go i H/\∀x H',J.Og i H x H'->tt (σ.set j (some x)) H' λb H2=>
    if b=true then te (σ.set j (some x)) H2 λy H3=>H3 D=some (.lst acc)/\acc.length<sizeLine/\∃m',m'<m/\W (i+1) m' (acc++[y]) (upd H3 D (.lst (acc++[y])))else ∃m',m'<m/\W (i+1) m' acc H2))
  {RR:cw->cD->Result->cx->Prop}
  (Zp:∀D C s' H' m',s₂.heap.objs.size<=C->Inv X pins σ H' s'->s'.heap.Ns C m'->H' C=none->Q (.ref D) H'->RR (.ref D) C (.ok .next) s') {E:cg}:
  wpAny (model X.prog X.w) X.A (newList []) (λacc s₃=>wpAny (model X.prog X.w) X.A (newFunctionEnv scope X.env.globals cl [] X.env.qual none .none (some X.env)) (λRS s₄=>
   codeAny (model X.prog X.w) X.A (.compStart (.ListComp elt [⟨.Name x px,iter,ifs,0⟩] scope pos) 0 (.ref it) acc {RS with scope:=relabel scope X.env}) (RR acc RS.locals) s₄) E s₃) E s₂:=by
 have A1:=S.all;refine bR (wpAny_newFunctionEnv (λy hy=>(A1 y hy).1) (by intro y hy;simp at hy) (λh₁ LU IA=>?_) S.kind)
 dsimp only at LU IA ⊢;generalize RT:s₂.heap.push {cls:=.type "list",dict:=none,data:=.seq ([]:cv).toArray}=G at LU IA ⊢;have hC:G.objs.size=s₂.heap.objs.size+1:=by rw[<-RT,Heap.size_push]
 have TL:s₂.heap.objs.size≠G.objs.size:=by rw[hC];exact aD (Nat.lt_succ_self _)
 have Dl:s₂.heap.objs.size<=G.objs.size:=by rw[hC];exact Nat.le_succ _
 have below:∀b,b<s₂.heap.objs.size->b≠G.objs.size/\b≠s₂.heap.objs.size:=λb hb=>⟨by rw[hC];exact aD (Nat.lt_succ_of_lt hb),aD hb⟩
 have old:∀b o,s₂.heap.get? b=some o->h₁.get? b=some o:=λb o e=>IA.extBut b o (below b (az e)).1 (ag _ (RT▸ag _ e))
 have qO:h₁.get? s₂.heap.objs.size=some {cls:=.type "list",data:=.seq ([]:cv).toArray 0}:=IA.extBut _ _ TL (ag _ (RT▸ay _ rfl));generalize hCn:G.objs.size=C at LU IA hC TL Dl below ⊢;generalize Dm:s₂.heap.objs.size=D at qO hC TL Dl below ⊢;have W0:H2 D=none:=by rw[<-Dm];exact I2.gb.fresh (au _)
 have Zq:H2 C=none:=I2.gb.fresh (by rw[Dm];exact Dl)
 obtain⟨W,⟨m0,w0⟩,turn⟩:=hR D W0;have IB:∀b∈fp,b<D:=λb hb=>by
  obtain⟨o,e,_⟩:=T.obj 0 _ Nh b hb;rw[<-Dm];exact az e
 have ok:(dE X scope cl C s₂ H2 fp).Ok:=by
  have o:=I2.ok;refine⟨o.mod,S.kind,o.glob,o.blt,by show s₂.heap.objs.size<=C;rw[Dm];exact Dl,λy z c e1 e2=>o.inj y z c (HI y c e1).1 (HI z c e2).1,λy hy=>?_,λy c z=>(by cases z),o.hd,o.frames,.inl rfl,λb hb=>⟨?_,λy c e=>(f2 b hb).2.2.2.2.1 y c (HI y c e).1⟩,
   λb ob e=>I2.bs b ob e,aB o.La I2.sz,λb ob e hb=>?_,λb hb z=>?_,I2.stack,I2.EB,I2.ok.tb.un I2.base⟩
  ·have q:((relabel scope X.env).names.lookup y=some .cell\/(relabel scope X.env).names.lookup y=some .free):=hy;have e:=lT X.env scope.names y;have fr:scope.names.lookup y=some .free:=by
    cases k:scope.names.lookup y with
    |none=>
     rw[k]at e;have e':(relabel scope X.env).names.lookup y=none:=e;rw[e']at q;rcases q with q|q<;>cases q
    |some kk=>
     by_cases hk:kk=.free
     ·rw[hk]
     ·rw[k]at e;have hb:(kk==NameKind.free)=false:=by simpa using hk
      have e':(relabel scope X.env).names.lookup y=some kk:=by
       refine e.trans ?_;simp only[bA,hb,Bool.false_and,aH,bD]
      rw[e']at q;have hm:(y,kk)∈scope.names:=mem_lookup k;rcases q with q|q
      ·exact absurd (aS q) (A1 _ hm).1
      ·exact absurd (aS q) hk
   exact QO y (mem_lookup fr)
  ·show b≠C;exact aD (aw (IB b hb) Dl)
  ·rcases(f2 b hb).2.2.2.1 with z|z
   ·exact o.HS b ob e z
   ·exact absurd (aw (az e) (aB o.La z)) (Nat.lt_irrefl _)
  ·rcases List.mem_cons.mp (I2.zx b z)with z|z
   ·exact(f2 b hb).2.1 z
   ·exact(f2 b hb).2.2.1 z
 have RU:Un (HF X.stack) fp H2 (upd H2 D (.lst [])) s₂.heap h₁:=Un.laid old (by rw[Dm];exact au _) W0
 have LV:∀y c,cl.lookup y=some c->c<D:=λy c e=>by
  obtain⟨v,z⟩:=I2.cell y c (HI y c e).1;rw[<-Dm];exact z.lt
 have CV:∀{H':Hp},(∀b∈fp,H' b=none)->∀b∈fp,A5 (dE X scope cl C s₂ H2 fp) [] H' b:=λhn b hb=>
  ⟨hn b hb,aD (aw (IB b hb) Dl),λz=>(List.mem_cons.mp (I2.zx b z)).elim (λq=>(f2 b hb).2.1 q) λq=>(f2 b hb).2.2.1 q,.inl hb,λy c e=>(f2 b hb).2.2.2.2.1 y c (HI y c e).1,(λp hp=>nomatch hp)⟩
 have RV:(relabel scope X.env).names.lookup x=some .local:=lookup_relabel_local S.hx;have start:Inv (dE X scope cl C s₂ H2 fp) [] (σ.set j none) (upd H2 D (.lst [])) {s₂ with heap:=h₁,toks:=s₂.toks+([]:List (Str×cw)).length}:=by
  refine⟨ok,rfl,I2.bare,RU,⟨_,LU,λi y v e1 e2 e3=>?_⟩,λy c e=>?_,?_,λy c e=>?_,(λp hp=>nomatch hp),?_,?_⟩
  ·obtain⟨m,hn,hl⟩:=I2.loc;by_cases vh:i=j
   ·subst vh;have:(σ.set i none)[i]? =some none\/(σ.set i none)[i]? =none:=by
     by_cases hi:i<σ.length
     ·left;rw[bc hi]
     ·right;simp;omega
    rcases this with q|q<;>(rw[q]at e2;cases e2)
   ·rw[aF (Ne.symm vh)]at e2;have TM:(relabel scope X.env).names.lookup y=some .local\/(relabel scope X.env).names.lookup y=some .cell\/(relabel scope X.env).names.lookup y=some .free:=e3;have er:=lT X.env scope.names y;have TN:(relabel scope X.env).names.lookup y=(scope.names.lookup y).map λk=>if(k==NameKind.free&&X.env.scope.kind==.function&&X.env.kindOf y==some .cell)then NameKind.cell else k:=er
    cases k:scope.names.lookup y with
    |none=>
     rw[k]at TN;have OO:(relabel scope X.env).names.lookup y=none:=TN;rw[OO]at TM;rcases TM with q|q|q<;>cases q
    |some kk=>
     have hm:(y,kk)∈scope.names:=mem_lookup k;obtain⟨a1,a2,a3⟩:=A1 _ hm;by_cases hk:kk=.free
     ·subst hk;obtain⟨o1,_⟩:=a3 rfl;have UY:QH X.env.scope y:=o1.elim (λz=>.inr (.inl z)) λz=>.inr (.inr z)
      obtain⟨u,r,l⟩:=hl i y v e1 e2 UY;obtain⟨c',se⟩:=QO y hm;refine⟨u,r,.inr ⟨?_,c',se,?_⟩⟩
      ·show(relabel scope X.env).names.lookup y=some .cell\/(relabel scope X.env).names.lookup y=some .free;rw[TN,k];simp only[bA];split
       ·exact .inl rfl
       ·exact .inr rfl
      ·rcases l with⟨l1,_⟩|⟨_,c,ec,z⟩
       ·rcases o1 with o1|o1<;>(rw[l1]at o1;cases o1)
       ·have W3:=(HI y c' se).1;rw[ec]at W3;cases W3;obtain⟨oc,ho,hd⟩:=z;exact⟨oc,old _ _ ho,hd⟩
     ·have hb:(kk==NameKind.free)=false:=by simpa using hk
      have OO:(relabel scope X.env).names.lookup y=some kk:=by rw[TN,k];simp only[bA,hb,Bool.false_and,aH,bD]
      rw[OO]at TM;rcases TM with q|q|q
      ·
       cases q;exact(S.only hm vh e1).elim
      ·cases q;exact absurd rfl a1
      ·cases q;exact absurd rfl hk
  ·obtain⟨v,oc,ho,hd⟩:=I2.cell y c (HI y c e).1;exact⟨v,oc,old _ _ ho,hd⟩
  ·show upd H2 D (.lst []) C=none;rw[cR (Ne.symm TL)];exact Zq
  ·rw[cR (aD (LV y c e))];exact I2.pk y c (HI y c e).1
  ·exact I2.gb.laid old (by rw[Dm];exact au _) ⟨bL _,[],0,.nil,qO⟩
  ·show(σ.set j none).length=X.N.length;rw[List.length_set];exact I2.len
 have W4:tn 0 h₁:=T.keep _ _ _ Nh λb hb o e=>old b o e
 have Zr:∀b∈fp,upd H2 D (.lst []) b=none:=λb hb=>by rw[cR (aD (IB b hb))];exact(f2 b hb).1
 have HJ:j<σ.length:=by rw[I2.len];exact(List.getElem?_eq_some_iff.mp S.hj).1
 have loop:∀s₄:cx,s₄={s₂ with heap:=h₁,toks:=s₂.toks+([]:List (Str×cw)).length}->
   codeAny (model X.prog X.w) X.A (.compLoop (.ListComp elt [⟨.Name x px,iter,ifs,0⟩] scope pos) 0 (.ref it) (.ref D) (compEnvC scope cl C X.env)) (RR (.ref D) C) s₄:=by
  rintro s₄ rfl
  refine zI (λn s'=>∃i acc H',Inv (dE X scope cl C s₂ H2 fp) [] (σ.set j none) H' s'/\tn i s'.heap/\(∀b∈fp,H' b=none)/\W i n acc H') ?_ m0 ⟨0,[],_,start,W4,Zr,w0⟩
  rintro n s3 ⟨i,acc,H3,I3,Ri,Rj,w3⟩
  rcases turn i n acc H3 w3 with⟨stop,qn⟩|⟨go,step⟩
  ·refine gR (T.done (dE X scope cl C s₂ H2 fp) rfl rfl rfl hc i [] s3 _ H3 _ I3 (CV Rj) Ri stop) λr s4 ⟨hr,I4⟩=>?_
   subst hr;obtain⟨m',CI,_⟩:=I4.loc;exact Zp D C s4 H3 m' (by rw[Dm];exact Dl) (I2.Q4 (ch:=fp) I4.os I4.base I4.gb I4.bare λb hb=>⟨(f2 b hb).2.2.2.1,(f2 b hb).2.1,(f2 b hb).2.2.2.2.1,(f2 b hb).2.2.2.2.2⟩) CI I4.free qn
  ·refine gR (T.item (dE X scope cl C s₂ H2 fp) rfl rfl rfl hc i [] s3 _ H3 _ I3 (CV Rj) Ri go) λr s4 ⟨u,hr,h4⟩=>?_
   subst hr;refine gR h4 λ_ s5 ⟨y,H5,I5,r5,y5,Oj,UB⟩=>?_
   have UC:=I5.pinned (CV UB) (T.obj _ _ Oj);refine wpAny_assign_Name (vS UC S.nd (show(dE X scope cl C s₂ H2 fp).N[j]? =some x from S.hj) (.inl RV) r5 (λs6 I6=>?_) (.inr RV))
   have eσ:(σ.set j none).set j (some y)=σ.set j (some y):=by rw[List.set_set]
   rw[eσ]at I6;refine gR (ht cl C s₂ H2 fp _ s6 _ H5 _ I6 (step y H5 y5)) λb s7 ⟨H7,I7,q7⟩=>?_
   have again:∀{H8:Hp}{s8:cx}{OP:List V},Inv (dE X scope cl C s₂ H2 fp) ([]++vU fp s5.heap) (σ.set j (some y)) H8 s8->(∃m',m'<n/\W (i+1) m' OP H8)->∃m,m<n/\∃i acc H',Inv (dE X scope cl C s₂ H2 fp) [] (σ.set j none) H' s8/\tn i s8.heap/\(∀b∈fp,H' b=none)/\W i m acc H':=λ{H8 s8 OP} I8 ⟨m',hm,w8⟩=>by
    refine⟨m',hm,i+1,OP,H8,I8.sj.weak (by simp) (λk v e=>?_),T.keep _ _ _ Oj λb hb o e=>(I8.pin (b,o) (aL _ (aL _ (oi hb e)))).1,λb hb=>?_,w8⟩
    ·by_cases hk:k=j
     ·subst hk;rw[bc HJ]at e;cases e
     ·rw[aF (Ne.symm hk)]at e ⊢;exact e
    ·obtain⟨o,e,d⟩:=T.obj _ _ Oj b hb;exact(I8.pin (b,o) (aL _ (aL _ (oi hb e)))).2.1
   cases b with
   |false=>exact again I7 (by simpa using q7)
   |true=>
    simp only[if_true]at q7 ⊢;refine gR (he cl C s₂ H2 fp _ s7 _ H7 _ I7 q7) λv s8 ⟨z,H8,I8,r8,Zs,Zt,q8⟩=>?_
    refine gR (yF (X:=dE X scope cl C s₂ H2 fp) _ s8 _ H8 (.ref D) [z] (.ref D) [v] (λ_ H9=>∃m',m'<n/\W (i+1) m' (acc++[z]) H9) I8 rfl (.cons r8 .nil) ⟨D,acc,z,rfl,rfl,Zs,Zt,q8⟩) λ_ s9 ⟨_,H9,I9,_,q9⟩=>?_
    exact again I9 q9
 exact codeAny_compStart_list (loop _ rfl) (T.self _ 0 _ _ _ W4 (loop _ rfl))
theorem v8 (I0:X.Ok) (S:gA X scope x j):∃cl,closureFor scope X.env=pure cl/\(∀y c,cl.lookup y=some c->X.env.cells.lookup y=some c/\(y,NameKind.free)∈scope.names)/\(∀y,(y,NameKind.free)∈scope.names->∃c,cl.lookup y=some c):=
 Dk λy hy e=>I0.has y.1 ((S.all y hy).2.2 e).1
theorem ER (hc:X.calm=true) (S:gA X scope x j) (hi:PI X (.Name x px) iter wi) (ht:∀cl C s H fp,Iz (dE X scope cl C s H fp) ifs tt) (he:∀cl C s H fp,PE (dE X scope cl C s H fp) elt te)
  (hs:∀v,foldedSetIterable iter X.env v=pure v:=by intro _;rfl):PE X (.ListComp elt [⟨.Name x px,iter,ifs,0⟩] scope pos) (EO wi j tt te):=by
 intro pins s σ H Q I h;obtain⟨cl,t7,HI,QO⟩:=v8 I.ok S;rw[eval_ListComp];refine wpAny_comprehension_free (use:=none) rfl hs t7 S.kind (λy hy=>(S.all y hy).2.1) (gR (hi pins s σ H _ I h) λv s1 h1=>gR h1 λTx s2 h2=>?_)
 obtain⟨it,fp,tn,J,H2,e,I2,T,Nh,f2,hR⟩:=h2;subst e;refine v7 hc S t7 HI QO ht he I2 T Nh f2 hR (RR:=λacc C=>compPost (model X.prog X.w) X.A X.xe none (EP X pins σ Q) acc C) ?_
 intro D C s' H' m' hC I' hn hf q;refine⟨m',hn,λh' IC=>⟨.ref D,H',?_,rfl,q⟩⟩
 exact I'.turned (t':=s'.toks) (it:=C) (λb o hb e=>(IC.2 b hb).trans e) hf (bw (aw I2.lt hC)) (.inr (aB I2.sz hC))
  (λy c e z=>by obtain⟨v,q⟩:=I2.cell y c e;exact absurd (aw q.lt (by rw[z];exact hC)) (Nat.lt_irrefl _)) λp hp z=>absurd (aw (az (I2.pin p hp).1) (by rw[z];exact hC)) (Nat.lt_irrefl _)
noncomputable def Be (i:Nat) (t:TE):TS:=λDn σ H=>t σ H λv H1=>Dn.nx (σ.set i (some v)) H1
theorem rO {i:Nat}{y:Str}{py ph:Pos}(hc:X.calm=true) (S:gA X scope x j) (hi:PI X (.Name x px) iter wi) (ht:∀cl C s H fp,Iz (dE X scope cl C s H fp) ifs tt) (he:∀cl C s H fp,PE (dE X scope cl C s H fp) elt te)
  (hN:X.N[i]? =some y) (hy:Loc X.env.scope y) (hf:X.fn y=true\/X.env.scope.names.lookup y=some .local)
  (Gv:swapsWith (.ListComp elt [⟨.Name x px,iter,ifs,0⟩] scope pos) (some (.Name y py)) ph.line X.env=pure true)
  (hs:∀v,foldedSetIterable iter X.env v=pure v:=by intro _;rfl):PS X (.Assign [.Name y py] (.ListComp elt [⟨.Name x px,iter,ifs,0⟩] scope pos) ph) (Be i (EO wi j tt te)):=by
 intro pins s σ H Dn I h;obtain⟨cl,t7,HI,QO⟩:=v8 I.ok S;rw[exec_Assign_Name_used _ _ _ _ Gv];refine aa (wpAny_standAt (aa ?_));show wpAny _ X.A (do let _ <-comprehension (.ListComp elt [⟨.Name x px,iter,ifs,0⟩] scope pos) scope X.env _ (newList []) false (eval iter X.env) (some (assign (.Name y py) X.env))) _ _ s
 refine aa (bP (wpAny_comprehension_free (use:=some (assign (.Name y py) X.env)) (Q:=λ_ s'=>SP X pins Dn .next s') rfl hs t7 S.kind (λy hy=>(S.all y hy).2.1)
  (gR (hi pins s σ H _ I h) λv s1 h1=>gR h1 λTx s2 h2=>?_)) (λ_ s' hq=>aj (aj hq)) λ_ _ e=>e)
 obtain⟨it,fp,tn,J,H2,e,I2,T,Nh,f2,hR⟩:=h2;subst e;refine v7 (Q:=λv H1=>Dn.nx (σ.set i (some v)) H1) hc S t7 HI QO ht he I2 T Nh f2 hR (RR:=λacc C=>compPost (model X.prog X.w) X.A X.xe (some (assign (.Name y py) X.env)) (λ_ s'=>SP X pins Dn .next s') acc C) ?_
 intro D C s' H' m' hC I' hn LX q;show wpAny _ X.A (assign (.Name y py) X.env (.ref D)) _ _ _;have W5:C≠X.env.locals:=bw (aw I2.lt hC);have W6:∀y c,X.env.cells.lookup y=some c->c≠C:=λy c e z=>by obtain⟨v,q⟩:=I2.cell y c e;exact absurd (aw q.lt (by rw[z];exact hC)) (Nat.lt_irrefl _)
 refine wpAny_assign_Name (yy (v:=.ref D) I' S.nd hN hy rfl (λs6 I6 Zu=>?_) hf)
 obtain⟨a,Lf,ha⟩:=Zu;have Zv:C≠a:=ha.elim (λz=>by rw[z];exact W5) λz w=>W6 _ _ z w.symm
 refine⟨m',hn.sameBut Lf Zv,λh' IC=>⟨_,H',?_,q⟩⟩
 exact I6.turned (t':=s6.toks) (it:=C) (λb o hb e=>(IC.2 b hb).trans e) LX W5 (.inr (aB I2.sz hC)) W6 λp hp z=>absurd (aw (az (I2.pin p hp).1) (by rw[z];exact hC)) (Nat.lt_irrefl _)
end
end L2
namespace So
open PySem PySem.W PyProof.Rows
noncomputable def iG {α:Type}(lt:Nat->Nat->Bool):KasT α->α
 |.ret a=>a
 |.ask i j k=>iG lt (k (lt i j))
theorem lL {α β:Type}(lt:Nat->Nat->Bool) (f:α->KasT β):∀t:KasT α,iG lt (t.bind f)=iG lt (f (iG lt t))
 |.ret _=>rfl
 |.ask i j k=>lL lt f (k (lt i j))
section
variable (rank:Nat->Int)
noncomputable def kk (p:Array Nat) (i:Nat):Int:=rank (p.getD i 0)
def Dp (p:Array Nat) (n:Nat):Prop:=∀i j,i<=j->j<n->kk rank p i<=kk rank p j
def Dec (p:Array Nat) (n:Nat):Prop:=∀i j,i<=j->j<n->kk rank p j<=kk rank p i
variable {rank}
theorem Bf {p q:Array Nat}{i j:Nat}(h:p[i]? =q[j]?):kk rank p i=kk rank q j:=by
 unfold kk;rw[aT,aT,h]
theorem Dq {p:Array Nat}{i j:Nat}(hj:j<=p.size) (k:Nat):kk rank (kas_rev p i j) k=if i<=k/\k<j then kk rank p (i+j-1-k)else kk rank p k:=by
 have e:=getElem?_mirror_all (xs:=p) (i:=i) hj k;unfold kas_rev;split
 ·rename_i h;rw[if_pos h]at e;exact Bf e
 ·rename_i h;rw[if_neg h]at e;exact Bf e
theorem ud {p:Array Nat}{i j:Nat}(hj:j<=p.size) (he:∀k,i<=k->k<j->kk rank p k=kk rank p (j-1)) (k:Nat):kk rank (kas_rev p i j) k=kk rank p k:=by
 rw[Dq hj];split
 ·rw[he _ (by omega) (by omega),he k (by omega) (by omega)]
 ·rfl
theorem je (p:Array Nat) (i j:Nat):(kas_rev p i j).Perm p:=mirror_perm _ _ _ _
theorem v9 (p:Array Nat) (i j:Nat):(kas_rev p i j).size=p.size:=(je p i j).size_eq
theorem Dp.snoc {p:Array Nat}{n:Nat}(h:Dp rank p n) (h1:1<=n) (hx:kk rank p (n-1)<=kk rank p n):Dp rank p (n+1):=λi j vh hj=>by
 by_cases ID:j<n
 ·exact h i j vh ID
 ·have e:j=n:=by omega
  subst e;by_cases hi:i=j
  ·subst hi;exact Int.le_refl _
  ·exact Int.le_trans (h i (j-1) (by omega) (by omega)) hx
theorem Dec.snoc {p:Array Nat}{n:Nat}(h:Dec rank p n) (h1:1<=n) (hx:kk rank p n<=kk rank p (n-1)):Dec rank p (n+1):=λi j vh hj=>by
 by_cases ID:j<n
 ·exact h i j vh ID
 ·have e:j=n:=by omega
  subst e;by_cases hi:i=j
  ·subst hi;exact Int.le_refl _
  ·exact Int.le_trans hx (h i (j-1) (by omega) (by omega))
theorem Dec.congr {p q:Array Nat}{n:Nat}(h:Dec rank p n) (e:∀k,kk rank q k=kk rank p k):Dec rank q n:=λi j vh hj=>by rw[e,e];exact h i j vh hj
variable {lt:Nat->Nat->Bool}(fM:∀i j,lt i j=decide (rank i<rank j))
include fM
theorem IE {p:Array Nat}(f n:Nat):iG lt (kas_asc p (f+1) n)=if rank (p.getD n 0)<rank (p.getD (n-1) 0)then n else iG lt (kas_asc p f (n+1)):=by
 show iG lt (if lt (p.getD n 0) (p.getD (n-1) 0)=true then KasT.ret n else kas_asc p f (n+1))=_
 rw[fM];by_cases c:rank (p.getD n 0)<rank (p.getD (n-1) 0)
 ·rw[aR c,if_pos rfl,if_pos c];rfl
 ·rw[aG c,if_neg aZ,if_neg c]
theorem zJ {p:Array Nat}:∀(f n:Nat),1<=n->Dp rank p n->let m:=iG lt (kas_asc p f n);n<=m/\m<=n+f/\Dp rank p m/\(m=n+f\/kk rank p m<kk rank p (m-1))
 |0,n,h1,h=>⟨au _,au _,h,.inl rfl⟩
 |f+1,n,h1,h=>by
  dsimp only;rw[IE fM];by_cases c:rank (p.getD n 0)<rank (p.getD (n-1) 0)
  ·rw[if_pos c];exact⟨au _,by omega,h,.inr c⟩
  ·rw[if_neg c];have ih:=zJ f (n+1) (by omega) (h.snoc h1 (by show rank _<=rank _;omega))
   dsimp only at ih;obtain⟨a,b,c',d⟩:=ih;exact⟨by omega,by omega,c',d.elim (λz=>.inl (by omega)) .inr⟩
theorem Gw (f:Nat) (p:Array Nat) (n q:Nat):iG lt (kas_desc (f+1) p n q)=if rank (p.getD n 0)<rank (p.getD (n-1) 0)then(if q>0 then iG lt (kas_desc f (kas_rev p (n-(q+1)) n) (n+1) 0)else iG lt (kas_desc f p (n+1) 0))
  else if rank (p.getD (n-1) 0)<rank (p.getD n 0)then(p,n,q)else iG lt (kas_desc f p (n+1) (q+1)):=by
 show iG lt (if lt (p.getD n 0) (p.getD (n-1) 0)=true then(if q>0 then kas_desc f (kas_rev p (n-(q+1)) n) (n+1) 0 else kas_desc f p (n+1) 0)
  else .ask (p.getD (n-1) 0) (p.getD n 0) λd=>if d=true then .ret (p,n,q)else kas_desc f p (n+1) (q+1))=_
 rw[fM];by_cases c:rank (p.getD n 0)<rank (p.getD (n-1) 0)
 ·rw[aR c,if_pos rfl,if_pos c];split<;>rfl
 ·rw[aG c,if_neg aZ,if_neg c];show iG lt (if lt (p.getD (n-1) 0) (p.getD n 0)=true then KasT.ret (p,n,q)else kas_desc f p (n+1) (q+1))=_
  rw[fM];by_cases c2:rank (p.getD (n-1) 0)<rank (p.getD n 0)
  ·rw[aR c2,if_pos rfl,if_pos c2];rfl
  ·rw[aG c2,if_neg aZ,if_neg c2]
theorem su:∀(f:Nat) (p:Array Nat) (n q:Nat),1<=n->n+f<=p.size->Dec rank p n->q+1<=n->(∀i,n-(q+1)<=i->i<n->kk rank p i=kk rank p (n-1))->
  let r:=iG lt (kas_desc f p n q);r.1.Perm p/\n<=r.2.1/\r.2.1<=n+f/\Dec rank r.1 r.2.1/\r.2.2+1<=r.2.1/\(∀i,r.2.1-(r.2.2+1)<=i->i<r.2.1->kk rank r.1 i=kk rank r.1 (r.2.1-1))
 |0,p,n,q,h1,hz,h,hq,he=>⟨Array.Perm.refl _,au _,au _,h,hq,he⟩
 |f+1,p,n,q,h1,hz,h,hq,he=>by
  dsimp only;rw[Gw fM];by_cases c:rank (p.getD n 0)<rank (p.getD (n-1) 0)
  ·rw[if_pos c];have hx:kk rank p n<=kk rank p (n-1):=Int.le_of_lt c;by_cases W7:q>0
   ·rw[if_pos W7];have es:=ud (rank:=rank) (p:=p) (i:=n-(q+1)) (j:=n) (by omega) he
    have ih:=su f (kas_rev p (n-(q+1)) n) (n+1) 0 (by omega) (by rw[v9];omega) ((h.snoc h1 hx).congr es) (by omega) (λi a b=>by rw[show i=n+1-1 by omega])
    dsimp only at ih;obtain⟨a,b,c',d⟩:=ih;exact⟨a.trans (je _ _ _),by omega,by omega,d⟩
   ·rw[if_neg W7];have ih:=su f p (n+1) 0 (by omega) (by omega) (h.snoc h1 hx) (by omega) (λi a b=>by rw[show i=n+1-1 by omega])
    dsimp only at ih;obtain⟨a,b,c',d⟩:=ih;exact⟨a,by omega,by omega,d⟩
  ·rw[if_neg c];by_cases c2:rank (p.getD (n-1) 0)<rank (p.getD n 0)
   ·rw[if_pos c2];exact⟨Array.Perm.refl _,au _,by show n<=_;omega,h,hq,he⟩
   ·rw[if_neg c2];have ex:kk rank p n=kk rank p (n-1):=by unfold kk;omega
    have ih:=su f p (n+1) (q+1) (by omega) (by omega) (h.snoc h1 (Int.le_of_eq ex)) (by omega) (λi a b=>by
     rw[show n+1-1=n by omega]
     by_cases hi:i=n
     ·rw[hi]
     ·rw[ex];exact he i (by omega) (by omega))
    dsimp only at ih;obtain⟨a,b,c',d⟩:=ih;exact⟨a,by omega,by omega,d⟩
theorem yG {p:Array Nat}{n nrem:Nat}(h1:1<=n) (hn:n<=nrem) (hz:nrem<=p.size) (h:Dec rank p n):let r:=iG lt (kas_tail3 n nrem p);r.2.Perm p/\1<=r.1/\r.1<=nrem/\Dp rank r.2 r.1:=by
 dsimp only;unfold kas_tail3;rw[lL];have hi:Dp rank (kas_rev p 0 n) n:=λi j vh hj=>by
  rw[Dq (by omega),Dq (by omega),if_pos (by omega),if_pos (by omega)]
  exact h _ _ (by omega) (by omega)
 have ih:=zJ fM (p:=kas_rev p 0 n) (nrem-n) n h1 hi;dsimp only at ih;exact⟨je _ _ _,by show 1<=iG lt (kas_asc _ _ _);omega,by show iG lt (kas_asc _ _ _)<=nrem;omega,ih.2.2.1⟩
theorem sv {p:Array Nat}{n nrem:Nat}(hn:n+1<=nrem) (hz:nrem<=p.size) (h:Dec rank p (n+1)):let r:=iG lt (kas_descPart n nrem p);r.2.Perm p/\1<=r.1/\r.1<=nrem/\Dp rank r.2 r.1:=by
 dsimp only;unfold kas_descPart;rw[lL];have ih:=su fM (nrem-(n+1)) p (n+1) 0 (by omega) (by omega) h (by omega) (λi a b=>by rw[show i=n+1-1 by omega])
 dsimp only at ih;generalize iG lt (kas_desc (nrem-(n+1)) p (n+1) 0)=r at ih ⊢;obtain⟨a,b,c,d,e,g⟩:=ih;have sz:r.1.size=p.size:=a.size_eq;by_cases hq:r.2.2>0
 ·rw[if_pos hq];have es:=ud (rank:=rank) (p:=r.1) (i:=r.2.1-(r.2.2+1)) (j:=r.2.1) (by omega) g
  have t:=yG fM (p:=kas_rev r.1 (r.2.1-(r.2.2+1)) r.2.1) (n:=r.2.1) (nrem:=nrem) (by omega) (by omega) (by rw[v9];omega) (d.congr es)
  exact⟨t.1.trans ((je _ _ _).trans a),t.2⟩
 ·rw[if_neg hq];have t:=yG fM (p:=r.1) (n:=r.2.1) (nrem:=nrem) (by omega) (by omega) (by omega) d
  exact⟨t.1.trans a,t.2⟩
theorem Gx {p:Array Nat}{nrem:Nat}(h1:1<=nrem) (hz:nrem<=p.size):let r:=iG lt (kas_count nrem p);r.2.Perm p/\1<=r.1/\r.1<=nrem/\Dp rank r.2 r.1:=by
 dsimp only;unfold kas_count;rw[lL];have ih:=zJ fM (p:=p) (nrem-1) 1 (au _) (λi j vh hj=>by have:i=j:=(by omega);subst this;exact Int.le_refl _)
 dsimp only at ih;generalize iG lt (kas_asc p (nrem-1) 1)=n at ih ⊢;obtain⟨a,b,c,d⟩:=ih;by_cases W8:n=nrem
 ·rw[if_pos (by simpa using W8)]
  exact⟨Array.Perm.refl _,a,by show n<=nrem;omega,c⟩
 ·rw[if_neg (by simpa using W8)]
  have hl:kk rank p n<kk rank p (n-1):=d.resolve_left (by omega)
  by_cases Np:n>1
  ·rw[if_pos Np];have e0:iG lt (KasT.ask (p.getD 0 0) (p.getD (n-1) 0) λc=>if c=true then .ret (n,p)else kas_descPart n nrem (kas_rev p 0 n))=iG lt (if lt (p.getD 0 0) (p.getD (n-1) 0)=true then .ret (n,p)else kas_descPart n nrem (kas_rev p 0 n)):=rfl
   rw[e0,fM];by_cases hr:rank (p.getD 0 0)<rank (p.getD (n-1) 0)
   ·rw[aR hr,if_pos rfl];exact⟨Array.Perm.refl _,a,by show n<=nrem;omega,c⟩
   ·rw[aG hr,if_neg aZ];have v3:∀k,0<=k->k<n->kk rank p k=kk rank p (n-1):=λk _ hk=>by
     have a1:=c 0 k (by omega) hk
     have a2:=c k (n-1) (by omega) (by omega)
     have a3:¬ kk rank p 0<kk rank p (n-1):=hr;omega
    have es:=ud (rank:=rank) (p:=p) (i:=0) (j:=n) (by omega) v3
    have t:=sv fM (p:=kas_rev p 0 n) (n:=n) (nrem:=nrem) (by omega) (by rw[v9];omega) (λi j vh hj=>by
     rw[es,es];by_cases ID:j<n
     ·rw[v3 i (by omega) (by omega),v3 j (by omega) ID];exact Int.le_refl _
     ·have e:j=n:=by omega
      subst e;by_cases hi:i=j
      ·subst hi;exact Int.le_refl _
      ·rw[v3 i (by omega) (by omega)];exact Int.le_of_lt hl)
    exact⟨t.1.trans (je _ _ _),t.2⟩
  ·rw[if_neg Np];have e:n=1:=by omega
   subst e;exact sv fM (by omega) hz (λi j vh hj=>by
    by_cases hi:i=j
    ·subst hi;exact Int.le_refl _
    ·have:i=0:=by omega
     have:j=1:=by omega
     subst_vars
     exact Int.le_of_lt hl)
theorem ue {p:Array Nat}{k:Nat}(hs:Dp rank p k):∀(f l r:Nat),l<=r->r<=k->r-l<=f->(∀i,i<l->kk rank p i<=kk rank p k)->(∀i,r<=i->i<k->kk rank p k<kk rank p i)->
  let m:=iG lt (kas_place p k f l r);m<=k/\(∀i,i<m->kk rank p i<=kk rank p k)/\(∀i,m<=i->i<k->kk rank p k<kk rank p i)
 |0,l,r,h1,h2,h3,RN,TQ=>by
  have e:l=r:=by omega
  subst e;exact⟨h2,RN,TQ⟩
 |f+1,l,r,h1,h2,h3,RN,TQ=>by
  dsimp only;unfold kas_place;by_cases hg:l ≥ r
  ·rw[if_pos hg];have e:l=r:=by omega
   subst e;exact⟨h2,RN,TQ⟩
  ·rw[if_neg hg];simp only[iG];rw[fM];have Bg:l<=(l+r)/2:=by omega
   have vA:(l+r)/2<r:=by omega
   generalize (l+r)/2=m at Bg vA ⊢;by_cases c:rank (p.getD k 0)<rank (p.getD m 0)
   ·rw[aR c,if_pos rfl];have ih:=ue hs f l m Bg (by omega) (by omega) RN (λi a b=>Int.lt_of_lt_of_le c (hs m i a b))
    exact ih
   ·rw[aG c,if_neg aZ];have ih:=ue hs f (m+1) r (by omega) h2 (by omega) (λi a=>Int.le_trans (hs i m (by omega) (by omega)) (by show rank _<=rank _;omega)) TQ
    exact ih
theorem yH {p:Array Nat}{src d:Nat}(hs:src<p.size) (hd:d<=src) (k:Nat):kk rank (bubble p src d) k=if k=src-d then kk rank p src else if src-d<k/\k<=src then kk rank p (k-1)else kk rank p k:=by
 have e:=getElem?_bubble hs d hd k;by_cases h1:k=src-d
 ·rw[if_pos h1]at e ⊢;exact Bf e
 ·rw[if_neg h1]at e ⊢;by_cases h2:src-d<k/\k<=src
  ·rw[if_pos h2]at e ⊢;exact Bf e
  ·rw[if_neg h2]at e ⊢;exact Bf e
theorem ES:∀(f:Nat) (p:Array Nat) (k:Nat),k+f<=p.size->Dp rank p k->let r:=iG lt (kas_bin f p k);r.Perm p/\Dp rank r (k+f)
 |0,p,k,hz,h=>⟨Array.Perm.refl _,h⟩
 |f+1,p,k,hz,h=>by
  dsimp only;unfold kas_bin;rw[lL];have pl:=ue fM h k 0 k (bL _) (au _) (by omega) (λi a=>absurd a (Nat.not_lt_zero _)) (λi a b=>by omega)
  dsimp only at pl;generalize iG lt (kas_place p k k 0 k)=l at pl ⊢;obtain⟨h1,h2,h3⟩:=pl;have ks:k<p.size:=by omega
  have inc:Dp rank (bubble p k (k-l)) (k+1):=λi j vh hj=>by
   rw[yH fM ks (by omega),yH fM ks (by omega),show k-(k-l)=l by omega]
   by_cases hi:i=l
   ·rw[if_pos hi];by_cases HJ:j=l
    ·rw[if_pos HJ];exact Int.le_refl _
    ·rw[if_neg HJ,if_pos (by omega)]
     exact Int.le_of_lt (h3 (j-1) (by omega) (by omega))
   ·rw[if_neg hi];by_cases W9:l<i/\i<=k
    ·rw[if_pos W9,if_neg (by omega),if_pos (by omega)]
     exact h (i-1) (j-1) (by omega) (by omega)
    ·rw[if_neg W9];by_cases HJ:j=l
     ·rw[if_pos HJ];exact h2 i (by omega)
     ·rw[if_neg HJ];by_cases UZ:l<j/\j<=k
      ·rw[if_pos UZ];exact h i (j-1) (by omega) (by omega)
      ·rw[if_neg UZ];exact h i j vh (by omega)
  have ih:=ES f (bubble p k (k-l)) (k+1) (by rw[bubble_size];omega) inc
  dsimp only at ih;exact⟨ih.1.trans (bubble_perm _ _ _),by rw[show k+(f+1)=k+1+f by omega];exact ih.2⟩
theorem wa (n:Nat) (h1:1<=n):let r:=iG lt (kas_sort n);r.Perm (List.toArray (List.range n))/\Dp rank r n:=by
 dsimp only;unfold kas_sort;rw[lL];have hz:(List.toArray (List.range n)).size=n:=by simp
 have c:=Gx fM (p:=List.toArray (List.range n)) h1 (by omega)
 dsimp only at c;generalize iG lt (kas_count n (List.toArray (List.range n)))=r at c ⊢;obtain⟨a,b,d,e⟩:=c;have sz:r.2.size=n:=a.size_eq.trans hz;by_cases RW:r.1<n
 ·rw[if_pos RW];have m:max r.1 1=r.1:=by omega
  rw[m];have bn:=ES fM (n-r.1) r.2 r.1 (by omega) e
  dsimp only at bn;exact⟨bn.1.trans a,by have:=bn.2;rwa [show r.1+(n-r.1)=n by omega]at this⟩
 ·rw[if_neg RW];have:r.1=n:=by omega
  exact⟨a,by show Dp rank r.2 n;rw[<-this];exact e⟩
end
end So
namespace DL
open PySem PySem.Spec PyProof.Rows L2
inductive D where
 |eU|bl (b:Bool)|int (i:Int)|str (x:Str)|tup (ds:List D)|lst (ds:List D)
mutual
inductive Is (C:Hp):V->D->Prop where
 |eU:Is C .eU .eU
 |bl (b:Bool):Is C (.bl b) (.bl b)
 |int (i:Int):Is C (.int i) (.int i)
 |str (x:Str):Is C (.str x) (.str x)
 |tup {a:cD}{xs:List V}{ds:List D}:C a=some (.tup xs)->IsL C xs ds->Is C (.ref a) (.tup ds)
 |lst {a:cD}{xs:List V}{ds:List D}:Rd C a (.lst xs)->IsL C xs ds->Is C (.ref a) (.lst ds)
inductive IsL (C:Hp):List V->List D->Prop where
 |nil:IsL C [] []
 |cons {v:V}{d:D}{vs:List V}{ds:List D}:Is C v d->IsL C vs ds->IsL C (v::vs) (d::ds)
end
theorem _root_.L2.Rd.same {C C':Hp}(e:dU C C') {a:cD}{u:HO}(h:Rd C a u):Rd C' a u:=by
 rcases h with h|⟨o,h⟩
 ·exact .inl (e _ _ h)
 ·exact .inr ⟨o,e _ _ h⟩
mutual
theorem Is.mono {C C':Hp}(e:dU C C'):∀{v:V}{d:D},Is C v d->Is C' v d
 |_,_,.eU=>.eU
 |_,_,.bl b=>.bl b
 |_,_,.int i=>.int i
 |_,_,.str x=>.str x
 |_,_,.tup h l=>.tup (e _ _ h) (IsL.mono e l)
 |_,_,.lst h l=>.lst (h.same e) (IsL.mono e l)
theorem IsL.mono {C C':Hp}(e:dU C C'):∀{vs:List V}{ds:List D},IsL C vs ds->IsL C' vs ds
 |_,_,.nil=>.nil
 |_,_,.cons h t=>.cons (Is.mono e h) (IsL.mono e t)
end
section
variable {C:Hp}
theorem IsL.length:∀{vs:List V}{ds:List D},IsL C vs ds->vs.length=ds.length
 |_,_,.nil=>rfl
 |_,_,.cons _ t=>congrArg (·+1) (IsL.length t)
theorem IsL.get:∀{vs:List V}{ds:List D}{i:Nat}{d:D},IsL C vs ds->ds[i]? =some d->∃v,vs[i]? =some v/\Is C v d
 |_,_,_,_,.nil,e=>by simp at e
 |_,_,0,_,.cons h _,e=>by simp at e;subst e;exact⟨_,rfl,h⟩
 |_,_,i+1,_,.cons _ t,e=>by
  obtain⟨v,h1,h2⟩:=IsL.get (i:=i) t (by simpa using e)
  exact⟨v,by simpa using h1,h2⟩
theorem IsL.get':∀{vs:List V}{ds:List D}{i:Nat}{v:V},IsL C vs ds->vs[i]? =some v->∃d,ds[i]? =some d/\Is C v d
 |_,_,_,_,.nil,e=>by simp at e
 |_,_,0,_,.cons h _,e=>by simp at e;subst e;exact⟨_,rfl,h⟩
 |_,_,i+1,_,.cons _ t,e=>by
  obtain⟨v,h1,h2⟩:=IsL.get' (i:=i) t (by simpa using e)
  exact⟨v,by simpa using h1,h2⟩
theorem IsL.append:∀{vs ws:List V}{ds es:List D},IsL C vs ds->IsL C ws es->IsL C (vs++ws) (ds++es)
 |_,_,_,_,.nil,s=>s
 |_,_,_,_,.cons h t,s=>.cons h (IsL.append t s)
theorem IsL.take:∀{vs:List V}{ds:List D}(n:Nat),IsL C vs ds->IsL C (vs.take n) (ds.take n)
 |_,_,0,_=>.nil
 |_,_,_+1,.nil=>.nil
 |_,_,n+1,.cons h t=>.cons h (IsL.take n t)
theorem IsL.drop:∀{vs:List V}{ds:List D}(n:Nat),IsL C vs ds->IsL C (vs.drop n) (ds.drop n)
 |_,_,0,h=>h
 |_,_,_+1,.nil=>.nil
 |_,_,n+1,.cons _ t=>IsL.drop n t
theorem IsL.eraseIdx:∀{vs:List V}{ds:List D}(n:Nat),IsL C vs ds->IsL C (vs.eraseIdx n) (ds.eraseIdx n)
 |_,_,_,.nil=>.nil
 |_,_,0,.cons _ t=>t
 |_,_,n+1,.cons h t=>.cons h (IsL.eraseIdx n t)
theorem IsL.ints (ns:cn):IsL C (ns.map V.int) (ns.map D.int):=by
 induction ns with
 |nil=>exact .nil
 |cons n r ih=>exact .cons (.int n) ih
theorem IsL.jm:∀{ns:cn}{vs:List V},IsL C vs (ns.map D.int)->vs=ns.map V.int
 |[],_,.nil=>rfl
 |n::r,_,.cons (.int _) t=>by rw[IsL.jm t];rfl
theorem IsL.Dr:∀{bs:List Bool}{vs:List V},IsL C vs (bs.map D.bl)->vs=bs.map V.bl
 |[],_,.nil=>rfl
 |n::r,_,.cons (.bl _) t=>by rw[IsL.Dr t];rfl
theorem IsL.one {v:V}{d:D}(h:Is C v d):IsL C [v] [d]:=.cons h .nil
end
structure pF (C H C' H':Hp):Prop where
 c:dU C C'
 h:dU H H'
 s:dU C' H'
 n:∀a u,C' a=some u->C a=some u\/H a=none
theorem eF {H:Hp}{p:cD}{o:HO}(h:H p=none):dU H (upd H p o):=λb u q=>by rw[cR (cV q h)];exact q
noncomputable def CJ:HO->Bool
 |.ext _=>true
 |.ins _ _ _=>true
 |.own _=>true
 |.dK _=>true
 |_=>false
class Mem where
 cell:cp
 face:cp
 ok:Hp->Hp->Prop
 has:Hp->Hp->D->Prop
 rel:Hp->Hp->Hp->Hp->Prop
 of0:∀{C H C' H':Hp},pF C H C' H'->rel C H C' H'
 trans:∀{C H C' H' C2 H2:Hp},rel C H C' H'->rel C' H' C2 H2->rel C H C2 H2
 chg:∀{C H C' H':Hp}{a:cD}{o:HO},rel C H C' H'->H a=none->rel C H C' (upd H' a o)
 give:∀{C H C' H':Hp}{a:cD}{o:HO},rel C H C' H'->C' a=none->H' a=some o->CJ o=false->rel C H (upd C' a o) H'
 TR:∀{C H C' H':Hp},rel C H C' H'->ok C H->ok C' H'
 LY:∀{C H C' H':Hp}{k:D},rel C H C' H'->ok C H->has C H k->has C' H' k
 RX:∀{C H:Hp}{a:cD}{o:HO},ok C H->(∀u,H a=some u->CJ u=false)->ok C (upd H a o)
 IF:∀{C H:Hp}{a:cD}{o:HO}{k:D},ok C H->(∀u,H a=some u->CJ u=false)->has C H k->has C (upd H a o) k
 TU:∀{C H:Hp}{a:cD}{o:HO},ok C H->C a=none->H a=some o->CJ o=false->ok (upd C a o) H
 LZ:∀{C H:Hp}{a:cD}{o:HO}{k:D},ok C H->C a=none->H a=some o->CJ o=false->has C H k->has (upd C a o) H k
@[reducible] noncomputable def Mem.keep:Mem where
 cell:=none
 face:=none
 ok:=λ_ _=>True
 has:=λ_ _ _=>False
 rel:=λ_ H _ H'=>dU H H'
 of0:=λe=>e.h
 trans:=λa b=>a.trans b
 chg:=λ{_ _ _ _ a o} r h b u q=>by rw[cR (cV q h)];exact r b u q
 give:=λr _ _ _=>r
 TR:=λ_ _=>trivial
 LY:=λ_ _ h=>h
 RX:=λ_ _=>trivial
 IF:=λ_ _ h=>h
 TU:=λ_ _ _ _=>trivial
 LZ:=λ_ _ _ _ h=>h
structure Ev [m:Mem] (C H C' H':Hp):Prop where
 c:dU C C'
 h:∀b o,H b=some o->(m.cell≠some b\/CJ o=false)->H' b=some o
 x:∀b o,H b=some o->m.cell=some b->CJ o=true->∃o',H' b=some o'/\CJ o'=true
 s:dU C' H'
 n:∀a u,C' a=some u->C a=some u\/H a=none
 r:m.rel C H C' H'
section
variable {C H C' H' C2 H2:Hp}
theorem pF.refl (s:dU C H):pF C H C H:=⟨dU.refl _,dU.refl _,s,λ_ _ e=>.inl e⟩
theorem pF.trans (a:pF C H C' H') (b:pF C' H' C2 H2):pF C H C2 H2:=
 ⟨a.c.trans b.c,a.h.trans b.h,b.s,λp u e=>(b.n p u e).elim (a.n p u) λz=>.inr (a.h.free z)⟩
theorem pF.new (s:dU C H) {p:cD}{o:HO}(h:H p=none):pF C H (upd C p o) (upd H p o):=
 ⟨eF (s.free h),eF h,λb u q=>by
  by_cases e:b=p
  ·subst e;rw[da]at q ⊢;exact q
  ·rw[cR e]at q ⊢;exact s b u q,λb u q=>by
  by_cases e:b=p
  ·subst e;exact .inr h
  ·rw[cR e]at q;exact .inl q⟩
theorem pF.hU (s:dU C H) {p:cD}{o:HO}(h:H p=none):pF C H C (upd H p o):=
 ⟨dU.refl _,eF h,s.trans (eF h),λ_ _ e=>.inl e⟩
theorem Ev.uQ (e:@Ev Mem.keep C H C' H'):pF C H C' H':=⟨@Ev.c Mem.keep _ _ _ _ e,@Ev.r Mem.keep _ _ _ _ e,@Ev.s Mem.keep _ _ _ _ e,@Ev.n Mem.keep _ _ _ _ e⟩
variable [Mem]
theorem pF.up (e:pF C H C' H'):Ev C H C' H':=⟨e.c,λb o q _=>e.h b o q,λb o q _ x=>⟨o,e.h b o q,x⟩,e.s,e.n,Mem.of0 e⟩
theorem Ev.free (e:Ev C H C' H') {a:cD}(h:H' a=none):H a=none:=by
 cases q:H a with
 |none=>rfl
 |some o=>
  cases hx:CJ o with
  |false=>rw[e.h a o q (.inr hx)]at h;cases h
  |true=>
   by_cases hc:Mem.cell=some a
   ·obtain⟨o',h1,_⟩:=e.x a o q hc hx;rw[h1]at h;cases h
   ·rw[e.h a o q (.inl hc)]at h;cases h
theorem Ev.hh (e:Ev C H C' H') {a:cD}{o:HO}(h:H a=some o) (hx:CJ o=false:=by rfl):H' a=some o:=e.h a o h (.inr hx)
theorem Ev.refl (s:dU C H):Ev C H C H:=(pF.refl s).up
theorem Ev.trans (a:Ev C H C' H') (b:Ev C' H' C2 H2):Ev C H C2 H2:=
 ⟨a.c.trans b.c,λp o q x=>b.h p o (a.h p o q x) x,λp o q c x=>let ⟨o',h1,h2⟩:=a.x p o q c x;b.x p o' h1 c h2,b.s,λp u e=>(b.n p u e).elim (a.n p u) λz=>.inr (a.free z),Mem.trans a.r b.r⟩
theorem Ev.new (s:dU C H) {p:cD}{o:HO}(h:H p=none):Ev C H (upd C p o) (upd H p o):=(pF.new s h).up
theorem Ev.hU (s:dU C H) {p:cD}{o:HO}(h:H p=none):Ev C H C (upd H p o):=(pF.hU s h).up
theorem Ev.nn (a:Ev C H C' H') {p:cD}(h:C p=none) {u:HO}(h2:H p=some u):C' p=none:=by
 cases q:C' p with
 |none=>rfl
 |some o=>rcases a.n p o q with z|z<;>simp_all
theorem Ev.ET (e:Ev C H C' H') {a:cD}(hn:H a=none) (hc:C' a=none) (o:HO):Ev C H C' (upd H' a o):=
 ⟨e.c,λb u q x=>by rw[cR (cV q hn)];exact e.h b u q x,λb u q c x=>by rw[cR (cV q hn)];exact e.x b u q c x,λb u q=>by rw[cR (cV q hc)];exact e.s b u q,e.n,Mem.chg e.r hn⟩
theorem Ev.Nq (e:Ev C H C' H') {a:cD}{o:HO}(hn:H a=none) (hc:C' a=none) (ho:H' a=some o) (hx:CJ o=false:=by rfl):Ev C H (upd C' a o) H':=
 ⟨e.c.trans (eF hc),e.h,e.x,λb u z=>by
   by_cases hb:b=a
   ·subst hb;rw[da]at z;cases z;exact ho
   ·rw[cR hb]at z;exact e.s b u z,λb u z=>by
   by_cases hb:b=a
   ·subst hb;exact .inr hn
   ·rw[cR hb]at z;exact e.n b u z,Mem.give e.r hc ho hx⟩
end
inductive Sl where
 |no|dat (d:D)|own (ds:List D)|memo (ks:List D)
noncomputable abbrev dO:=List Sl
structure Sx [m:Mem] (δ:dO) (σ:L2.St) (C H:Hp):Prop where
 sub:dU C H
 dat:∀(i:Nat) (d:D),δ[i]? =some (.dat d)->∃v,σ[i]? =some (some v)/\Is C v d
 own:∀(i:Nat) (ds:List D),δ[i]? =some (.own ds)->∃(a:cD) (xs:List V),σ[i]? =some (some (.ref a))/\C a=none/\H a=some (.lst xs)/\IsL C xs ds
 zK:∀(i j:Nat) (ds es:List D) (a:cD),δ[i]? =some (.own ds)->δ[j]? =some (.own es)->σ[i]? =some (some (.ref a))->σ[j]? =some (some (.ref a))->i=j
 len:δ.length=σ.length
 mem:∀(i:Nat) (ks:List D),δ[i]? =some (.memo ks)->∃a:cD,m.face=some a/\σ[i]? =some (some (.ref a))/\m.ok C H/\∀k∈ks,m.has C H k
section
variable [Mem] {δ:dO}{σ:L2.St}{C H C' H':Hp}
theorem Sx.ev (x:Sx δ σ C H) (e:Ev C H C' H'):Sx δ σ C' H' where
 sub:=e.s
 dat:=λi d q=>let ⟨v,h1,h2⟩:=x.dat i d q;⟨v,h1,h2.mono e.c⟩
 own:=λi ds q=>let ⟨a,xs,h1,h2,h3,h4⟩:=x.own i ds q;⟨a,xs,h1,e.nn h2 h3,e.hh h3,h4.mono e.c⟩
 zK:=x.zK
 len:=x.len
 mem:=λi ks q=>let ⟨a,h1,h2,h3,h4⟩:=x.mem i ks q;⟨a,h1,h2,Mem.TR e.r h3,λk hk=>Mem.LY e.r h3 (h4 k hk)⟩
omit [Mem] in
theorem getElem?_set_cases {α:Type}{l:List α}{i j:Nat}{a b:α}(h:(l.set i a)[j]? =some b):(j=i/\b=a)\/(j≠i/\l[j]? =some b):=by
 by_cases e:j=i
 ·subst e;by_cases hl:j<l.length
  ·rw[bc hl]at h;exact .inl ⟨rfl,(aS h).symm⟩
  ·have:(l.set j a)[j]? =none:=by simp;omega
   rw[this]at h;cases h
 ·rw[aF (Ne.symm e)]at h;exact .inr ⟨e,h⟩
omit [Mem] in
theorem Ds {α:Type}{l:List α}{i:Nat}{a b:α}(h:(l.set i a)[i]? =some b):i<l.length:=by
 by_cases hl:i<l.length
 ·exact hl
 ·have:(l.set i a)[i]? =none:=by simp;omega
  rw[this]at h;cases h
theorem Sx.uf (x:Sx δ σ C H) {i:Nat}{v:V}{d:D}(h:Is C v d):Sx (δ.set i (.dat d)) (σ.set i (some v)) C H where
 sub:=x.sub
 dat:=λk d' q=>by
  rcases getElem?_set_cases q with⟨rfl,e⟩|⟨hk,e⟩
  ·cases e;have:=Ds q;exact⟨v,by rw[bc (by rw[<-x.len];exact this)],h⟩
  ·obtain⟨v',h1,h2⟩:=x.dat k d' e;exact⟨v',by rw[aF (Ne.symm hk)];exact h1,h2⟩
 own:=λk ds q=>by
  rcases getElem?_set_cases q with⟨rfl,e⟩|⟨hk,e⟩
  ·cases e
  ·obtain⟨a,xs,h1,h2⟩:=x.own k ds e;exact⟨a,xs,by rw[aF (Ne.symm hk)];exact h1,h2⟩
 zK:=λk l ds es a q1 q2 q3 q4=>by
  rcases getElem?_set_cases q1 with⟨_,e1⟩|⟨hk,e1⟩
  ·cases e1
  rcases getElem?_set_cases q2 with⟨_,e2⟩|⟨hl,e2⟩
  ·cases e2
  rw[aF (Ne.symm hk)]at q3;rw[aF (Ne.symm hl)]at q4;exact x.zK k l ds es a e1 e2 q3 q4
 len:=by simp[x.len]
 mem:=λk ks q=>by
  rcases getElem?_set_cases q with⟨rfl,e⟩|⟨hk,e⟩
  ·cases e
  ·obtain⟨a,h1,h2,h3⟩:=x.mem k ks e;exact⟨a,h1,by rw[aF (Ne.symm hk)];exact h2,h3⟩
theorem Sx.zL (x:Sx δ σ C H) {i:Nat}{a:cD}{xs:List V}{ds:List D}(hc:C a=none) (hH:H a=some (.lst xs)) (hl:IsL C xs ds)
  (hn:∀(k:Nat) (es:List D),δ[k]? =some (.own es)->σ[k]? ≠some (some (.ref a))):Sx (δ.set i (.own ds)) (σ.set i (some (.ref a))) C H where
 sub:=x.sub
 dat:=λk d' q=>by
  rcases getElem?_set_cases q with⟨rfl,e⟩|⟨hk,e⟩
  ·cases e
  ·obtain⟨v',h1,h2⟩:=x.dat k d' e;exact⟨v',by rw[aF (Ne.symm hk)];exact h1,h2⟩
 own:=λk es q=>by
  rcases getElem?_set_cases q with⟨rfl,e⟩|⟨hk,e⟩
  ·cases e;have:=Ds q;exact⟨a,xs,by rw[bc (by rw[<-x.len];exact this)],hc,hH,hl⟩
  ·obtain⟨b,ys,h1,h2⟩:=x.own k es e;exact⟨b,ys,by rw[aF (Ne.symm hk)];exact h1,h2⟩
 zK:=λk l EU es b q1 q2 q3 q4=>by
  rcases getElem?_set_cases q1 with⟨hk,e1⟩|⟨hk,e1⟩
  ·rcases getElem?_set_cases q2 with⟨iE,e2⟩|⟨iE,e2⟩
   ·rw[hk,iE]
   ·subst hk;have e3:=getElem?_set_cases q3;rcases e3 with⟨_,e3⟩|⟨z,_⟩
    ·cases e3;rw[aF (Ne.symm iE)]at q4;exact absurd q4 (hn l es e2)
    ·exact absurd rfl z
  ·rcases getElem?_set_cases q2 with⟨iE,e2⟩|⟨iE,e2⟩
   ·subst iE;rcases getElem?_set_cases q4 with⟨_,e4⟩|⟨z,_⟩
    ·cases e4;rw[aF (Ne.symm hk)]at q3;exact absurd q3 (hn k EU e1)
    ·exact absurd rfl z
   ·rw[aF (Ne.symm hk)]at q3;rw[aF (Ne.symm iE)]at q4;exact x.zK k l EU es b e1 e2 q3 q4
 len:=by simp[x.len]
 mem:=λk ks q=>by
  rcases getElem?_set_cases q with⟨rfl,e⟩|⟨hk,e⟩
  ·cases e
  ·obtain⟨a,h1,h2,h3⟩:=x.mem k ks e;exact⟨a,h1,by rw[aF (Ne.symm hk)];exact h2,h3⟩
theorem Sx.mut (x:Sx δ σ C H) {i:Nat}{a:cD}{ys:List V}{ds es:List D}(hi:δ[i]? =some (.own ds)) (ha:σ[i]? =some (some (.ref a))) (hl:IsL C ys es):
  Sx (δ.set i (.own es)) σ C (upd H a (.lst ys))where
 sub:=λb u q=>by
  obtain⟨a',xs,h1,h2,_⟩:=x.own i ds hi;rw[ha]at h1;cases h1;have:b≠a:=λz=>by rw[z,h2]at q;cases q
  rw[cR this];exact x.sub b u q
 dat:=λk d' q=>by
  rcases getElem?_set_cases q with⟨rfl,e⟩|⟨hk,e⟩
  ·cases e
  ·exact x.dat k d' e
 own:=λk fs q=>by
  obtain⟨a',xs,h1,h2,_⟩:=x.own i ds hi;rw[ha]at h1;cases h1;rcases getElem?_set_cases q with⟨rfl,e⟩|⟨hk,e⟩
  ·cases e;exact⟨a,ys,ha,h2,da,hl⟩
  ·obtain⟨b,zs,yI,AZ,IG,L0⟩:=x.own k fs e;have:b≠a:=λz=>by subst z;exact hk (x.zK k i fs ds b e hi yI ha)
   exact⟨b,zs,yI,AZ,by rw[cR this];exact IG,L0⟩
 zK:=λk l EU HU b q1 q2 q3 q4=>by
  have IH:∀{k:Nat}{HU:List D},(δ.set i (Sl.own es))[k]? =some (.own HU)->∃fs,δ[k]? =some (.own fs):=λ{k HU} q=>by
   rcases getElem?_set_cases q with⟨rfl,e⟩|⟨hk,e⟩
   ·exact⟨ds,hi⟩
   ·exact⟨_,e⟩
  obtain⟨f1,e1⟩:=IH q1;obtain⟨f2,e2⟩:=IH q2;exact x.zK k l f1 f2 b e1 e2 q3 q4
 len:=by simp[x.len]
 mem:=λk ks q=>by
  obtain⟨a',xs,h1,h2,h3,_⟩:=x.own i ds hi;rw[ha]at h1;cases h1;have hx:∀u,H a=some u->CJ u=false:=λu q=>by rw[h3]at q;cases q;rfl
  rcases getElem?_set_cases q with⟨rfl,e⟩|⟨hk,e⟩
  ·cases e
  ·obtain⟨b,h1,h2,h3,h4⟩:=x.mem k ks e;exact⟨b,h1,h2,Mem.RX h3 hx,λk hk=>Mem.IF h3 hx (h4 k hk)⟩
theorem Sx.give (x:Sx δ σ C H) {i:Nat}{a:cD}{xs:List V}{ds:List D}(hi:δ[i]? =some (.own ds)) (ha:σ[i]? =some (some (.ref a))) (hH:H a=some (.lst xs)) (hl:IsL C xs ds):
  Sx (δ.set i (.dat (.lst ds))) σ (upd C a (.lst xs)) H:=by
 obtain⟨a',Zw,h1,h2,h3,_⟩:=x.own i ds hi;rw[ha]at h1;cases h1;have sc:dU C (upd C a (.lst xs)):=eF h2;exact {
  sub:=λb u q=>by
   by_cases e:b=a
   ·subst e;rw[da]at q;cases q;exact hH
   ·rw[cR e]at q;exact x.sub b u q
  dat:=λk d' q=>by
   rcases getElem?_set_cases q with⟨rfl,e⟩|⟨hk,e⟩
   ·cases e;exact⟨_,ha,.lst (.inl da) (hl.mono sc)⟩
   ·obtain⟨v,q1,q2⟩:=x.dat k d' e;exact⟨v,q1,q2.mono sc⟩
  own:=λk fs q=>by
   rcases getElem?_set_cases q with⟨rfl,e⟩|⟨hk,e⟩
   ·cases e
   ·obtain⟨b,zs,yI,AZ,IG,L0⟩:=x.own k fs e;have:b≠a:=λz=>by subst z;exact hk (x.zK k i fs ds b e hi yI ha)
    exact⟨b,zs,yI,by rw[cR this];exact AZ,IG,L0.mono sc⟩
  zK:=λk l EU HU b q1 q2 q3 q4=>by
   rcases getElem?_set_cases q1 with⟨_,e1⟩|⟨_,e1⟩
   ·cases e1
   rcases getElem?_set_cases q2 with⟨_,e2⟩|⟨_,e2⟩
   ·cases e2
   exact x.zK k l EU HU b e1 e2 q3 q4
  len:=by simp[x.len]
  mem:=λk ks q=>by
   rcases getElem?_set_cases q with⟨rfl,e⟩|⟨hk,e⟩
   ·cases e
   ·obtain⟨b,h1,AZ,h3,h4⟩:=x.mem k ks e;exact⟨b,h1,AZ,Mem.TU h3 h2 hH rfl,λk hk=>Mem.LZ h3 h2 hH rfl (h4 k hk)⟩}
end
variable [Mem]
def sf (C H:Hp) (v:V) (d:D):Prop:=Is C v d\/∃a xs ds,v=.ref a/\d=.lst ds/\C a=none/\H a=some (.lst xs)/\IsL C xs ds
noncomputable def tD (f:dO->Option D):TE:=λσ H Q=>∃C δ d,Sx δ σ C H/\f δ=some d/\∀v C' H',Ev C H C' H'->Is C' v d->Q v H'
noncomputable def tO (f:dO->Option D):TE:=λσ H Q=>∃C δ d,Sx δ σ C H/\f δ=some d/\∀v C' H',Ev C H C' H'->sf C' H' v d->Q v H'
noncomputable def tF (f:dO->Option (List D)):TE:=λσ H Q=>∃C δ ds,Sx δ σ C H/\f δ=some ds/\∀a xs C' H',Ev C H C' H'->H a=none->C' a=none->H' a=some (.lst xs)->IsL C' xs ds->Q (.ref a) H'
noncomputable def tQ (f:dO->Option Bool):TT:=λσ H Q=>∃C δ b,Sx δ σ C H/\f δ=some b/\∀C' H',Ev C H C' H'->Q b H'
noncomputable def TV (f:dO->Option (List D)):TA:=λσ H Q=>∃C δ ds,Sx δ σ C H/\f δ=some ds/\∀vs C' H',Ev C H C' H'->IsL C' vs ds->Q vs H'
abbrev PD (X:Cx) (e:cE) (f:dO->Option D):Prop:=PE X e (tD f)
abbrev PO (X:Cx) (e:cE) (f:dO->Option D):Prop:=PE X e (tO f)
abbrev PF (X:Cx) (e:cE) (f:dO->Option (List D)):Prop:=PE X e (tF f)
abbrev PQ (X:Cx) (e:cE) (f:dO->Option Bool):Prop:=PT X e (tQ f)
abbrev HK (X:Cx) (es:List cE) (f:dO->Option (List D)):Prop:=PA X es (TV f)
omit [Mem] in
theorem _root_.L2.PE.imp {X:Cx}{e:cE}{t t':TE}(h:PE X e t) (m:∀σ H Q,t' σ H Q->t σ H Q):PE X e t':=λpins s σ H Q I q=>h pins s σ H Q I (m σ H Q q)
omit [Mem] in
theorem _root_.L2.PT.imp {X:Cx}{e:cE}{t t':TT}(h:PT X e t) (m:∀σ H Q,t' σ H Q->t σ H Q):PT X e t':=λpins s σ H Q I q=>h pins s σ H Q I (m σ H Q q)
omit [Mem] in
theorem _root_.L2.PW.imp {X:Cx}{e:cE}{t t':TT}(h:PW X e t) (m:∀σ H Q,t' σ H Q->t σ H Q):PW X e t':=λwhole pins s σ H Q I q=>h whole pins s σ H Q I (m σ H Q q)
omit [Mem] in
theorem _root_.L2.PA.imp {X:Cx}{es:List cE}{t t':TA}(h:PA X es t) (m:∀σ H Q,t' σ H Q->t σ H Q):PA X es t':=λpos pins s σ H Q I q=>h pos pins s σ H Q I (m σ H Q q)
omit [Mem] in
theorem _root_.L2.PS.imp {X:Cx}{st:cF}{t t':TS}(h:PS X st t) (m:∀Dn σ H,t' Dn σ H->t Dn σ H):PS X st t':=λpins s σ H Dn I q=>h pins s σ H Dn I (m Dn σ H q)
omit [Mem] in
theorem _root_.L2.xK.imp {X:Cx}{st:List cF}{t t':TS}(h:xK X st t) (m:∀Dn σ H,t' Dn σ H->t Dn σ H):xK X st t':=λpins s σ H Dn I q=>h pins s σ H Dn I (m Dn σ H q)
section
variable {X:Cx}{e a b c:cE}{pos:Pos}
theorem PD.o {f:dO->Option D}(h:PD X e f):PO X e f:=h.imp λσ H Q ⟨C,δ,d,x,q,k⟩=>⟨C,δ,d,x,q,λv C' H' ev i=>k v C' H' ev (.inl i)⟩
noncomputable def dL (f:dO->Option (List D)):dO->Option D:=λδ=>(f δ).map D.lst
theorem PF.d {f:dO->Option (List D)}(h:PF X e f):PD X e (dL f):=h.imp λσ H Q ⟨C,δ,d,x,q,k⟩=>by
 unfold dL at q;cases hf:f δ with
 |none=>rw[hf]at q;cases q
 |some ds=>
  rw[hf]at q;have q':d=.lst ds:=(aS q).symm;subst q';exact⟨C,δ,ds,x,hf,λa xs C' H' ev h1 h2 h3 h4=>k (.ref a) (upd C' a (.lst xs)) H' (ev.Nq h1 h2 h3) (.lst (.inl da) (h4.mono (eF h2)))⟩
noncomputable def cQ (i:Nat):dO->Option D:=λδ=>match δ[i]? with|some (.dat d)=>some d|_=>none
noncomputable def dc (i:Nat):dO->Option D:=λδ=>match δ[i]? with|some (.dat d)=>some d|some (.own ds)=>some (.lst ds)|_=>none
noncomputable def dC (d:D):dO->Option D:=λ_=>some d
theorem Gy {i:Nat}(h:PE X e (jo i)):PD X e (cQ i):=h.imp λσ H Q ⟨C,δ,d,x,q,k⟩=>by
 unfold cQ at q;split at q
 ·rename_i d' hd;cases q;obtain⟨v,h1,h2⟩:=x.dat i _ hd;exact⟨v,h1,k v C H (.refl x.sub) h2⟩
 ·cases q
theorem Gz {i:Nat}(h:PE X e (jo i)):PO X e (dc i):=h.imp λσ H Q ⟨C,δ,d,x,q,k⟩=>by
 unfold dc at q;split at q
 ·rename_i d' hd;cases q;obtain⟨v,h1,h2⟩:=x.dat i _ hd;exact⟨v,h1,k v C H (.refl x.sub) (.inl h2)⟩
 ·rename_i ds hd;cases q;obtain⟨a,xs,h1,h2,h3,h4⟩:=x.own i _ hd;exact⟨_,h1,k _ C H (.refl x.sub) (.inr ⟨a,xs,ds,rfl,rfl,h2,h3,h4⟩)⟩
 ·cases q
theorem vB {v:V}{d:D}(h:PE X e (tC v)) (hd:∀C,Is C v d):PD X e (dC d):=h.imp λσ H Q ⟨C,δ,d',x,q,k⟩=>by
 cases q;exact k v C H (.refl x.sub) (hd C)
theorem OQ {i:Int}{j:Nat}:PD X (.Constant (.int i) j pos) (dC (.int i)):=vB CQ λ_=>.int i
theorem RY {i:Bool}{j:Nat}:PD X (.Constant (.bool i) j pos) (dC (.bl i)):=vB Q5 λ_=>.bl i
theorem OR {j:Nat}:PD X (.Constant .none j pos) (dC .eU):=vB N5 λ_=>.eU
theorem L1 {x:Str}{i:Int}{t:Tok}(hg:Gl X x) (hm:X.mg x=some (.int i t)) (hd:(x==("__debug__":Str))=false:=by decide):PD X (.Name x pos) (dC (.int i)):=vB (Ll (v:=.int i) hg hm ⟨t,rfl⟩ hd) λ_=>.int i
def Nr (r:R2) (op:D->D->Option D):Prop:=∀C H x y dx dy d Q,dU C H->sf C H x dx->sf C H y dy->op dx dy=some d->(∀v C' H',pF C H C' H'->Is C' v d->Q v H')->r x y H Q
noncomputable def di {α:Type}(op:D->D->Option α) (f g:dO->Option D):dO->Option α:=λδ=>(f δ).bind λx=>(g δ).bind λy=>op x y
theorem sf.ev {C H C' H':Hp}{v:V}{d:D}(h:sf C H v d) (e:Ev C H C' H'):sf C' H' v d:=by
 rcases h with h|⟨a,xs,ds,h1,h2,h3,h4,h5⟩
 ·exact .inl (h.mono e.c)
 ·exact .inr ⟨a,xs,ds,h1,h2,e.nn h3 h4,e.hh h4,h5.mono e.c⟩
theorem EV {r:R2}{op:D->D->Option D}{f g:dO->Option D}(hd:Nr r op):∀σ H Q,tD (di op f g) σ H Q->Rk r (tO f) (tO g) σ H Q:=λσ H Q ⟨C,δ,d,x,q,k⟩=>by
 unfold di at q;cases hf:f δ with
 |none=>rw[hf]at q;cases q
 |some dx=>
  cases hg:g δ with
  |none=>rw[hf,hg]at q;cases q
  |some dy=>
   rw[hf,hg]at q;refine⟨C,δ,dx,x,hf,λv C1 H1 e1 i1=>⟨C1,δ,dy,x.ev e1,hg,λu C2 H2 e2 i2=>hd C2 H2 v u dx dy d Q e2.s (i1.ev e2) i2 q λw C3 H3 e3 i3=>k w C3 H3 ((e1.trans e2).trans e3.up) i3⟩⟩
theorem yJ {op:Operator}{r:R2}{o:D->D->Option D}{f g:dO->Option D}(ho:ve X (binaryOp op) r) (hd:Nr r o) (ha:PO X a f) (hb:PO X b g):PD X (.BinOp a op b pos) (di o f g):=(Ni ho ha hb).imp (EV hd)
theorem RZ {r:R2}{o:D->D->Option D}{f g:dO->Option D}(ho:Iq X r) (hd:Nr r o) (ha:PO X a f) (hb:PO X b g) (hs:qo b):PD X (.Subscript a b pos) (di o f g):=(Nn ho ha hb hs).imp (EV hd)
noncomputable def oI (g:Int->Int->D):D->D->Option D
 |.int i,.int j=>some (g i j)
 |_,_=>none
noncomputable def Dt (c:Int->Int->Bool) (g:Int->Int->D):D->D->Option D
 |.int i,.int j=>if c i j=true then some (g i j)else none
 |_,_=>none
theorem sf.int {C H:Hp}{v:V}{i:Int}(h:sf C H v (.int i)):v=.int i:=by
 rcases h with h|⟨_,_,_,_,z,_⟩
 ·cases h;rfl
 ·cases z
theorem sf.is {C H:Hp}{v:V}{d:D}(h:sf C H v d) (hd:∀ds,d≠.lst ds):Is C v d:=by
 rcases h with h|⟨_,_,ds,_,z,_⟩
 ·exact h
 ·exact absurd z (hd ds)
theorem II {gV:Int->Int->V}{g:Int->Int->D}(h:∀C i j,Is C (gV i j) (g i j)):Nr (Lp gV) (oI g):=λC H x y dx dy d Q s ix iy q k=>by
 unfold oI at q;split at q
 ·rename_i i j;cases q;exact⟨i,j,ix.int,iy.int,k _ C H (.refl s) (h C i j)⟩
 ·cases q
theorem IJ {P:Int->Int->Prop}{c:Int->Int->Bool}{gV:Int->Int->V}{g:Int->Int->D}(hc:∀i j,c i j=true->P i j) (h:∀C i j,Is C (gV i j) (g i j)):Nr (rI P gV) (Dt c g):=λC H x y dx dy d Q s ix iy q k=>by
 unfold Dt at q;split at q
 ·rename_i i j;split at q
  ·rename_i QJ;cases q;exact⟨i,j,ix.int,iy.int,hc i j QJ,k _ C H (.refl s) (h C i j)⟩
  ·cases q
 ·cases q
noncomputable def jI:=oI λi j=>.int (i+j)
noncomputable def rP:=oI λi j=>.int (i-j)
noncomputable def wb (i j:Int):Bool:=(decide (-(2^64)<i)&&decide (i<2^64))||(decide (-(2^64)<j)&&decide (j<2^64))
noncomputable def pG:=Dt wb λi j=>.int (i*j)
noncomputable def IK (_ j:Int):Bool:=decide (0<j)&&decide (j<1073741824)
noncomputable def Bh:=Dt IK λi j=>.int (i/j)
noncomputable def xR (_ j:Int):Bool:=decide (0<j)
noncomputable def qP:=Dt xR λi j=>.int (i%j)
theorem OS {f g:dO->Option D}(ha:PO X a f) (hb:PO X b g):PD X (.BinOp a .Add b pos) (di jI f g):=yJ Ib (II λ_ _ _=>.int _) ha hb
theorem OT {f g:dO->Option D}(ha:PO X a f) (hb:PO X b g):PD X (.BinOp a .Sub b pos) (di rP f g):=yJ Om (II λ_ _ _=>.int _) ha hb
theorem OU {f g:dO->Option D}(ha:PO X a f) (hb:PO X b g):PD X (.BinOp a .Mult b pos) (di pG f g):=yJ Oo (IJ (λi j h=>by
 unfold wb at h;unfold Lr
 simpa using h) λ_ _ _=>.int _) ha hb
theorem OV {f g:dO->Option D}(ha:PO X a f) (hb:PO X b g):PD X (.BinOp a .FloorDiv b pos) (di Bh f g):=yJ Lu (IJ (λi j h=>by
 unfold IK at h;unfold Rm
 simpa using h) λ_ _ _=>.int _) ha hb
theorem OW {f g:dO->Option D}(ha:PO X a f) (hb:PO X b g):PD X (.BinOp a .Mod b pos) (di qP f g):=yJ Oq (IJ (λi j h=>by
 unfold xR at h
 simpa using h) λ_ _ _=>.int _) ha hb
noncomputable def OX:=oI λi j=>.bl (decide (i<=j))
noncomputable def A0:=oI λi j=>.bl (decide (j<i))
noncomputable def U0:=oI λi j=>.bl (decide (j<=i))
def vi (X:Cx) (op:CmpOp) (o:D->D->Option D):Prop:=∃r,ve X (compareOp op) r/\Nr r o
theorem R1:vi X .LtE OX:=⟨_,Ro,II λ_ _ _=>.bl _⟩
theorem IL:vi X .Gt A0:=⟨_,Rp,II λ_ _ _=>.bl _⟩
theorem U1:vi X .GtE U0:=⟨_,Rq,II λ_ _ _=>.bl _⟩
theorem OY {op:CmpOp}{o:D->D->Option D}{f g:dO->Option D}(c:vi X op o) (ha:PO X a f) (hb:PO X b g) (hm:behindInMarks op b=false:=by first|exact vV _|rfl):PD X (.Compare a [op] [b] pos) (di o f g):=by
 obtain⟨r,ho,hd⟩:=c;exact(Lv ho ha hb hm).imp (EV hd)
noncomputable def qB (f:dO->Option D):dO->Option Bool:=λδ=>match f δ with|some (.bl b)=>some b|_=>none
theorem U2 {f:dO->Option D}{δ:dO}{b:Bool}(h:qB f δ=some b):f δ=some (.bl b):=by
 unfold qB at h;split at h
 ·rename_i e;cases h;exact e
 ·cases h
theorem Nt {t:TE}{f:dO->Option D}(h:∀σ H Q,tD f σ H Q->t σ H Q):∀σ H Q,tQ (qB f) σ H Q->t σ H λx H1=>∃c,x=.bl c/\Q c H1:=λσ H Q ⟨C,δ,b,x,q,k⟩=>
 h σ H _ ⟨C,δ,.bl b,x,U2 q,λv C' H' ev i=>by cases i;exact⟨b,rfl,k C' H' ev⟩⟩
theorem OZ {f:dO->Option D}(h:PD X e f) (he:∀whole,isTrue e X.env whole=(do let v <-whole;standAt e.pos;holding [v] (truthy v)):=by intro _;rfl):PQ X e (qB f):=(N6 h he).imp (Nt λ_ _ _ h=>h)
theorem O0 {op:CmpOp}{o:D->D->Option D}{f g:dO->Option D}(c:vi X op o) (ha:PO X a f) (hb:PO X b g) (hm:behindInMarks op b=false:=by first|exact vV _|rfl):PQ X (.Compare a [op] [b] pos) (qB (di o f g)):=by
 obtain⟨r,ho,hd⟩:=c;exact(EI ho ha hb hm).imp (Nt (EV hd))
noncomputable def kQ (f g:dO->Option Bool):dO->Option Bool:=λδ=>match f δ with|some true=>g δ|some false=>some false|none=>none
noncomputable def O1 (f g:dO->Option Bool):dO->Option Bool:=λδ=>match f δ with|some true=>some true|some false=>g δ|none=>none
noncomputable def qQ (f:dO->Option Bool):dO->Option Bool:=λδ=>(f δ).map not
abbrev O2 (X:Cx) (e:cE) (f:dO->Option Bool):Prop:=PW X e (tQ f)
theorem O3 {f g:dO->Option Bool}:∀σ H Q,tQ (kQ f g) σ H Q->Q6 (tQ f) (tQ g) σ H Q:=λσ H Q ⟨C,δ,b,x,q,k⟩=>by
 unfold kQ at q;split at q
 ·rename_i hf;exact⟨C,δ,true,x,hf,λC' H' ev=>xQ ⟨C',δ,b,x.ev ev,q,λC2 H2 e2=>k C2 H2 (ev.trans e2)⟩⟩
 ·rename_i hf;cases q;exact⟨C,δ,false,x,hf,λC' H' ev=>zH (k C' H' ev)⟩
 ·cases q
theorem R3 {f g:dO->Option Bool}:∀σ H Q,tQ (O1 f g) σ H Q->WK (tQ f) (tQ g) σ H Q:=λσ H Q ⟨C,δ,b,x,q,k⟩=>by
 unfold O1 at q;split at q
 ·rename_i hf;cases q;exact⟨C,δ,true,x,hf,λC' H' ev=>xQ (k C' H' ev)⟩
 ·rename_i hf;exact⟨C,δ,false,x,hf,λC' H' ev=>zH ⟨C',δ,b,x.ev ev,q,λC2 H2 e2=>k C2 H2 (ev.trans e2)⟩⟩
 ·cases q
theorem IM {f:dO->Option Bool}(ha:PQ X a f):O2 X (.BoolOp .And [a] pos) f:=Lm ha
theorem L3 {f:dO->Option Bool}(ha:PQ X a f):O2 X (.BoolOp .Or [a] pos) f:=N7 ha
theorem L4 {rest:List cE}{f g:dO->Option Bool}(ha:PQ X a f) (hb:O2 X (.BoolOp .And (b::rest) pos) g):O2 X (.BoolOp .And (a::b::rest) pos) (kQ f g):=(N8 ha hb).imp O3
theorem O4 {rest:List cE}{f g:dO->Option Bool}(ha:PQ X a f) (hb:O2 X (.BoolOp .Or (b::rest) pos) g):O2 X (.BoolOp .Or (a::b::rest) pos) (O1 f g):=(Q7 ha hb).imp R3
theorem O5 {f:dO->Option Bool}(ha:PQ X a f):PQ X (.UnaryOp .Not a pos) (qQ f):=(N9 ha).imp λσ H Q ⟨C,δ,b,x,q,k⟩=>by
 unfold qQ at q;cases hf:f δ with
 |none=>rw[hf]at q;cases q
 |some c=>
  rw[hf]at q;cases q;exact⟨C,δ,c,x,hf,k⟩
noncomputable def GA (f g:dO->Option D):dO->Option D:=λδ=>match f δ with|some (.bl true)=>g δ|some (.bl false)=>some (.bl false)|_=>none
noncomputable def QP (f g:dO->Option D):dO->Option D:=λδ=>match f δ with|some (.bl true)=>some (.bl true)|some (.bl false)=>g δ|_=>none
theorem O6 {op:BoolOp}{f:dO->Option D}(h:PD X a f):PD X (.BoolOp op [a] pos) f:=Oa h
theorem O7 {rest:List cE}{f g:dO->Option D}(ha:PD X a f) (hb:PD X (.BoolOp .And (b::rest) pos) g):PD X (.BoolOp .And (a::b::rest) pos) (GA f g):=(Ob ha hb).imp λσ H Q ⟨C,δ,d,x,q,k⟩=>by
 unfold GA at q;split at q
 ·rename_i hf;exact⟨C,δ,_,x,hf,λv C' H' ev i=>by cases i;exact⟨true,rfl,xQ ⟨C',δ,d,x.ev ev,q,λu C2 H2 e2 i2=>k u C2 H2 (ev.trans e2) i2⟩⟩⟩
 ·rename_i hf;cases q;exact⟨C,δ,_,x,hf,λv C' H' ev i=>by cases i;exact⟨false,rfl,zH (k _ C' H' ev (.bl _))⟩⟩
 ·cases q
theorem R4 {rest:List cE}{f g:dO->Option D}(ha:PD X a f) (hb:PD X (.BoolOp .Or (b::rest) pos) g):PD X (.BoolOp .Or (a::b::rest) pos) (QP f g):=(Q9 ha hb).imp λσ H Q ⟨C,δ,d,x,q,k⟩=>by
 unfold QP at q;split at q
 ·rename_i hf;cases q;exact⟨C,δ,_,x,hf,λv C' H' ev i=>by cases i;exact⟨true,rfl,xQ (k _ C' H' ev (.bl _))⟩⟩
 ·rename_i hf;exact⟨C,δ,_,x,hf,λv C' H' ev i=>by cases i;exact⟨false,rfl,zH ⟨C',δ,d,x.ev ev,q,λu C2 H2 e2 i2=>k u C2 H2 (ev.trans e2) i2⟩⟩⟩
 ·cases q
noncomputable def R5 (c:dO->Option Bool) (f g:dO->Option D):dO->Option D:=λδ=>match c δ with|some true=>f δ|some false=>g δ|none=>none
theorem IP {q:dO->Option Bool}{f g:dO->Option D}(hc:PQ X c q) (ha:PD X a f) (hb:PD X b g):PD X (.IfExp c a b pos) (R5 q f g):=(HV hc ha hb).imp λσ H Q ⟨C,δ,d,x,h,k⟩=>by
 unfold R5 at h;split at h
 ·rename_i hf;exact⟨C,δ,true,x,hf,λC' H' ev=>xQ ⟨C',δ,d,x.ev ev,h,λu C2 H2 e2 i2=>k u C2 H2 (ev.trans e2) i2⟩⟩
 ·rename_i hf;exact⟨C,δ,false,x,hf,λC' H' ev=>zH ⟨C',δ,d,x.ev ev,h,λu C2 H2 e2 i2=>k u C2 H2 (ev.trans e2) i2⟩⟩
 ·cases h
end
noncomputable def isStar:cE->Bool
 |.Starred _ _=>true
 |_=>false
theorem eL {e:cE}{es:List cE}{env:Env}(h:isStar e=false):starEach (e::es) env=(false,eval e env)::starEach es env:=by
 cases e<;>first|(cases h;done)|(rw[starEach];intro _ _ z;cases z)
noncomputable def noStar (es:List cE):Bool:=es.all λe=> !isStar e
theorem fu {pos:Pos}{env:Env}:∀{es:List cE},noStar es=true->(backTo pos (starEach es env)).any (·.1)=false
 |[],_=>rfl
 |e::es,h=>by
  unfold noStar at h;rw[List.all_cons,Bool.and_eq_true]at h;rw[eL (by simpa using h.1)]
  unfold backTo;rw[aE,bF];have:=fu (pos:=pos) (env:=env) (es:=es) h.2;unfold backTo at this;rw[this];rfl
theorem IQ {e:cE}{env:Env}{pos:Pos}(h:isStar e=false):((backTo pos (starEach [e] env)).all (λx=> !x.1)&&(backToKw pos (keywordEach [] env)).all (λx=>x.1.isSome)
   &&decide ([e].length+([]:List Keyword).length+(if([]:List Keyword).isEmpty then 0 else 1)<30))=true:=by
 rw[eL h];rfl
section
variable {X:Cx}{e:cE}{es:List cE}{pos p:Pos}{x:Str}
noncomputable def cN:dO->Option (List D):=λ_=>some []
noncomputable def bV (f:dO->Option D) (g:dO->Option (List D)):dO->Option (List D):=λδ=>(f δ).bind λd=>(g δ).map λds=>d::ds
theorem vC:HK X [] cN:=(ua (X:=X)).imp λσ H Q ⟨C,δ,ds,x,q,k⟩=>by cases q;exact k [] C H (.refl x.sub) .nil
theorem sy {f:dO->Option D}{g:dO->Option (List D)}(ha:PD X e f) (hr:HK X es g) (hs:starEach (e::es) X.env=(false,eval e X.env)::starEach es X.env:=by exact eL rfl):HK X (e::es) (bV f g):=(qm ha hr hs).imp λσ H Q ⟨C,δ,ds,x,q,k⟩=>by
 unfold bV at q;cases hf:f δ with
 |none=>rw[hf]at q;cases q
 |some d=>
  cases hg:g δ with
  |none=>rw[hf,hg]at q;cases q
  |some r=>
   rw[hf,hg]at q;cases q;exact⟨C,δ,d,x,hf,λv C1 H1 e1 i1=>⟨C1,δ,r,x.ev e1,hg,λvs C2 H2 e2 i2=>k _ C2 H2 (e1.trans e2) (.cons (i1.mono e2.c) i2)⟩⟩
inductive xS (C H:Hp):List V->List D->Prop where
 |nil:xS C H [] []
 |cons {v:V}{d:D}{vs:List V}{ds:List D}:sf C H v d->xS C H vs ds->xS C H (v::vs) (d::ds)
noncomputable def U3 (f:dO->Option (List D)):TA:=λσ H Q=>∃C δ ds,Sx δ σ C H/\f δ=some ds/\∀vs C' H',Ev C H C' H'->xS C' H' vs ds->Q vs H'
abbrev O8 (X:Cx) (es:List cE) (f:dO->Option (List D)):Prop:=PA X es (U3 f)
theorem L5:O8 X [] cN:=(ua (X:=X)).imp λσ H Q ⟨C,δ,ds,x,q,k⟩=>by cases q;exact k [] C H (.refl x.sub) .nil
theorem IS {f:dO->Option D}{g:dO->Option (List D)}(ha:PO X e f) (hr:O8 X es g) (hs:starEach (e::es) X.env=(false,eval e X.env)::starEach es X.env:=by exact eL rfl):O8 X (e::es) (bV f g):=(qm ha hr hs).imp λσ H Q ⟨C,δ,ds,x,q,k⟩=>by
 unfold bV at q;cases hf:f δ with
 |none=>rw[hf]at q;cases q
 |some d=>
  cases hg:g δ with
  |none=>rw[hf,hg]at q;cases q
  |some r=>
   rw[hf,hg]at q;cases q;exact⟨C,δ,d,x,hf,λv C1 H1 e1 i1=>⟨C1,δ,r,x.ev e1,hg,λvs C2 H2 e2 i2=>k _ C2 H2 (e1.trans e2) (.cons (i1.ev e2) i2)⟩⟩
noncomputable def fz (f:dO->Option (List D)):dO->Option D:=λδ=>(f δ).bind λds=>if ds.length<=1000 then some (.tup ds)else none
theorem O9 {k:Nat}{f:dO->Option (List D)}(h:HK X es f):PD X (.Tuple es k pos) (fz f):=(Ot h).imp λσ H Q ⟨C,δ,d,x,q,k⟩=>by
 unfold fz at q;cases hf:f δ with
 |none=>rw[hf]at q;cases q
 |some ds=>
  rw[hf]at q;simp only[ao]at q;split at q
  ·rename_i hz;cases q;refine⟨C,δ,ds,x,hf,λvs C1 H1 e1 i1=>⟨?_,λp hp=>k _ _ _ (e1.trans (.new e1.s hp)) (.tup da (i1.mono (eF (e1.s.free hp))))⟩⟩
   rw[i1.length];exact bg (kb hz)
  ·cases q
noncomputable def GB (f:dO->Option (List D)):dO->Option (List D):=λδ=>(f δ).bind λds=>if ds.length<=1000 then some ds else none
theorem Pa {f:dO->Option (List D)}(h:HK X es f):PF X (.List es pos) (GB f):=(Ou h).imp λσ H Q ⟨C,δ,d,x,q,k⟩=>by
 unfold GB at q;cases hf:f δ with
 |none=>rw[hf]at q;cases q
 |some ds=>
  rw[hf]at q;simp only[ao]at q;split at q
  ·rename_i hz;cases q;refine⟨C,δ,_,x,hf,λvs C1 H1 e1 i1=>⟨?_,λp hp=>k p vs C1 _ (e1.trans (.hU e1.s hp)) (e1.free hp) (e1.s.free hp) da i1⟩⟩
   rw[i1.length];exact bg (kb hz)
  ·cases q
noncomputable def nC (g:List D->Option D):Sp:=λvs H Q _=>∃C ds d,dU C H/\IsL C vs ds/\g ds=some d/\∀v C' H',pF C H C' H'->Is C' v d->Q v H'
noncomputable def cO (g:List D->Option D) (f:dO->Option (List D)):dO->Option D:=λδ=>(f δ).bind g
theorem L6 {g:List D->Option D}{E:XK}{f:dO->Option (List D)}:∀σ H Q,tD (cO g f) σ H Q->Nj (nC g) [] E (TV f) σ H Q:=λσ H Q ⟨C,δ,d,x,q,k⟩=>by
 unfold cO at q;cases hf:f δ with
 |none=>rw[hf]at q;cases q
 |some ds=>
  rw[hf]at q;exact⟨C,δ,ds,x,hf,λvs C1 H1 e1 i1=>⟨C1,ds,d,e1.s,by rw[bB];exact i1,q,λv C2 H2 e2 i2=>k v C2 H2 (e1.trans e2.up) i2⟩⟩
theorem L7 {k:Nat}{f:cD}{fd:cy}{ps:List Str}{g:List D->Option D}{fa:dO->Option (List D)}(F:eA X.prog X.w X.K X.mg X.base jb k f fd ps (nC g)) (hr:gy k X.A) (hg:Gl X x) (hm:X.mg x=some (.ref f)) (hk:W.keepIn X.K (.ref f)=true) (hb:Binds X.K fd ps [])
  (ha:HK X (e::es) fa) (sk:(x==("__debug__":Str))=false:=by decide) (he:starEach (e::es) X.env=(false,eval e X.env)::starEach es X.env:=by exact eL rfl) (kO:(backTo pos (starEach es X.env)).any (·.1)=false:=by exact fu rfl):
  PD X (.Call (.Name x p) (e::es) [] pos) (cO g fa):=(LB F hr hg hm hk hb .nil EN ha sk he kO).imp L6
def CD (r:List V->Hp->VK->Prop) (g:List D->Option D):Prop:=∀C H vs ds d Q,dU C H->xS C H vs ds->g ds=some d->(∀v C' H',pF C H C' H'->Is C' v d->Q v H')->r vs H Q
def CF (r:List V->Hp->VK->Prop) (g:List D->Option (List D)):Prop:=∀C H vs ds d Q,dU C H->xS C H vs ds->g ds=some d->(∀a xs C' H',pF C H C' H'->H a=none->C' a=none->H' a=some (.lst xs)->IsL C' xs d->Q (.ref a) H')->r vs H Q
def oX (X:Cx) (f:cw) (g:List D->Option D):Prop:=∃r,i6 X f r/\CD r g
def EW (X:Cx) (f:cw) (g:List D->Option (List D)):Prop:=∃r,i6 X f r/\CF r g
noncomputable def fA (g:List D->Option (List D)) (f:dO->Option (List D)):dO->Option (List D):=λδ=>(f δ).bind g
theorem Nu {r:List V->Hp->VK->Prop}{g:List D->Option D}{f:dO->Option (List D)}(hd:CD r g):∀σ H Q,tD (cO g f) σ H Q->TB r (U3 f) σ H Q:=λσ H Q ⟨C,δ,d,x,q,k⟩=>by
 unfold cO at q;cases hf:f δ with
 |none=>rw[hf]at q;cases q
 |some ds=>
  rw[hf]at q;exact⟨C,δ,ds,x,hf,λvs C1 H1 e1 i1=>hd C1 H1 vs ds d Q e1.s i1 q λv C2 H2 e2 i2=>k v C2 H2 (e1.trans e2.up) i2⟩
theorem R6 {r:List V->Hp->VK->Prop}{g:List D->Option (List D)}{f:dO->Option (List D)}(hd:CF r g):∀σ H Q,tF (fA g f) σ H Q->TB r (U3 f) σ H Q:=λσ H Q ⟨C,δ,d,x,q,k⟩=>by
 unfold fA at q;cases hf:f δ with
 |none=>rw[hf]at q;cases q
 |some ds=>
  rw[hf]at q;exact⟨C,δ,ds,x,hf,λvs C1 H1 e1 i1=>hd C1 H1 vs ds d Q e1.s i1 q λa xs C2 H2 e2 h2=>k a xs C2 H2 (e1.trans e2.up) (e1.free h2)⟩
theorem IT {id:String}{g:List D->Option D}{f:dO->Option (List D)}(hc:oX X (.builtin id) g) (hg:Gl X x) (hm:X.mg x=none) (hv:bootBuiltins x=some (.builtin id)) (ha:O8 X (e::es) f) (hn:x≠"__name__":=by decide) (sk:(x==("__debug__":Str))=false:=by decide)
  (he:starEach (e::es) X.env=(false,eval e X.env)::starEach es X.env:=by exact eL rfl) (kO:(backTo pos (starEach es X.env)).any (·.1)=false:=by exact fu rfl):PD X (.Call (.Name x p) (e::es) [] pos) (cO g f):=by
 obtain⟨r,h1,h2⟩:=hc;exact(A8 h1 hg hm hv ha hn sk he kO).imp (Nu h2)
theorem IU {id:String}{g:List D->Option (List D)}{f:dO->Option (List D)}(hc:EW X (.builtin id) g) (hg:Gl X x) (hm:X.mg x=none) (hv:bootBuiltins x=some (.builtin id)) (ha:O8 X (e::es) f) (hn:x≠"__name__":=by decide) (sk:(x==("__debug__":Str))=false:=by decide)
  (he:starEach (e::es) X.env=(false,eval e X.env)::starEach es X.env:=by exact eL rfl) (kO:(backTo pos (starEach es X.env)).any (·.1)=false:=by exact fu rfl):PF X (.Call (.Name x p) (e::es) [] pos) (fA g f):=by
 obtain⟨r,h1,h2⟩:=hc;exact(A8 h1 hg hm hv ha hn sk he kO).imp (R6 h2)
theorem GC {T:String}{g:List D->Option D}{f:dO->Option (List D)}(hc:oX X (.type T) g) (hg:Gl X x) (hm:X.mg x=none) (hv:bootBuiltins x=some (.type T)) (ha:O8 X (e::es) f) (hn:x≠"__name__":=by decide) (sk:(x==("__debug__":Str))=false:=by decide)
  (he:starEach (e::es) X.env=(false,eval e X.env)::starEach es X.env:=by exact eL rfl) (kO:(backTo pos (starEach es X.env)).any (·.1)=false:=by exact fu rfl):PD X (.Call (.Name x p) (e::es) [] pos) (cO g f):=by
 obtain⟨r,h1,h2⟩:=hc;exact(yD h1 hg hm hv ha hn sk he kO).imp (Nu h2)
end
end DL
namespace DL
open PySem PySem.Spec PyProof.Rows L2
variable [Mem]
structure Gd (B C0 H0:Hp) (δ:dO) (σ:L2.St) (C H:Hp):Prop where
 b:dU B C
 ev:Ev C0 H0 C H
 x:Sx δ σ C H
 fr:∀(i:Nat) (ds:List D) (a:cD),δ[i]? =some (.own ds)->σ[i]? =some (some (.ref a))->H0 a=none
inductive R where
 |next (δ:dO)|ret (d:D)|brk (δ:dO)|cont (δ:dO)
noncomputable abbrev _root_.bY:=dO->Option (List D)
noncomputable abbrev _root_.bZ:=dO->Option R
noncomputable abbrev _root_.cb:=dO->Option D
noncomputable abbrev _root_.cc:=dO->Option Bool
noncomputable abbrev _root_.cf:=List D->Option D
noncomputable abbrev _root_.cu:=List D
noncomputable def Fi (B C0 H0:Hp) (Dn:Ends):R->Prop
 |.next δ=>∀σ C H,Gd B C0 H0 δ σ C H->Dn.nx σ H
 |.ret d=>∀v C H,Ev C0 H0 C H->Is C v d->Dn.rt v H
 |.brk δ=>∀σ C H,Gd B C0 H0 δ σ C H->Dn.bk σ H
 |.cont δ=>∀σ C H,Gd B C0 H0 δ σ C H->Dn.ct σ H
noncomputable def tS (B C0 H0:Hp) (f:bZ):TS:=λDn σ H=>∃C δ r,Gd B C0 H0 δ σ C H/\f δ=some r/\Fi B C0 H0 Dn r
def PB (X:Cx) (C0 H0:Hp) (st:cF) (f:bZ):Prop:=∀B,PS X st (tS B C0 H0 f)
def CK (X:Cx) (C0 H0:Hp) (st:List cF) (f:bZ):Prop:=∀B,xK X st (tS B C0 H0 f)
section
variable {B C0 H0 C H C' H':Hp}{δ:dO}{σ:L2.St}
theorem Gd.Du (g:Gd B C0 H0 δ σ C H) (e:Ev C H C' H'):Gd B C0 H0 δ σ C' H':=⟨g.b.trans e.c,g.ev.trans e,g.x.ev e,g.fr⟩
theorem Gd.uf (g:Gd B C0 H0 δ σ C H) {i:Nat}{v:V}{d:D}(h:Is C v d):Gd B C0 H0 (δ.set i (.dat d)) (σ.set i (some v)) C H:=
 ⟨g.b,g.ev,g.x.uf h,λk ds a q1 q2=>by
  rcases getElem?_set_cases q1 with⟨_,e⟩|⟨hk,e⟩
  ·cases e
  ·rw[aF (Ne.symm hk)]at q2;exact g.fr k ds a e q2⟩
theorem Gd.zL (g:Gd B C0 H0 δ σ C H) (e:Ev C H C' H') {i:Nat}{a:cD}{xs:List V}{ds:cu}(hn:H a=none) (hc:C' a=none) (hH:H' a=some (.lst xs)) (hl:IsL C' xs ds):Gd B C0 H0 (δ.set i (.own ds)) (σ.set i (some (.ref a))) C' H':=
 ⟨g.b.trans e.c,g.ev.trans e,(g.x.ev e).zL hc hH hl (λk es q z=>by
   obtain⟨b,ys,h1,h2,h3,_⟩:=g.x.own k es q;rw[z]at h1;cases h1;rw[hn]at h3;cases h3),
  λk es b q1 q2=>by
   rcases getElem?_set_cases q1 with⟨rfl,e1⟩|⟨hk,e1⟩
   ·rcases getElem?_set_cases q2 with⟨_,e2⟩|⟨z,_⟩
    ·cases e2;exact g.ev.free hn
    ·exact absurd rfl z
   ·rw[aF (Ne.symm hk)]at q2;exact g.fr k es b e1 q2⟩
theorem Gd.mut (g:Gd B C0 H0 δ σ C H) {i:Nat}{a:cD}{ys:List V}{ds es:cu}(hi:δ[i]? =some (.own ds)) (ha:σ[i]? =some (some (.ref a))) (hl:IsL C ys es):Gd B C0 H0 (δ.set i (.own es)) σ C (upd H a (.lst ys)):=by
 obtain⟨a',xs,h1,h2,h3,_⟩:=g.x.own i ds hi;rw[ha]at h1;cases h1;refine⟨g.b,g.ev.ET (g.fr i ds a hi ha) h2 _,g.x.mut hi ha hl,λk fs b q1 q2=>?_⟩
 rcases getElem?_set_cases q1 with⟨rfl,e1⟩|⟨hk,e1⟩
 ·exact g.fr k ds b hi q2
 ·exact g.fr k fs b e1 q2
noncomputable def we (i:Nat) (δ:dO):dO:=match δ[i]? with|some (.own ds)=>δ.set i (.dat (.lst ds))|_=>δ
theorem Gd.give (g:Gd B C0 H0 δ σ C H) (i:Nat):∃C',Gd B C0 H0 (we i δ) σ C' H:=by
 unfold we;split
 ·rename_i ds hi;obtain⟨a,xs,h1,h2,h3,h4⟩:=g.x.own i ds hi;refine⟨upd C a (.lst xs),g.b.trans (eF h2),g.ev.Nq (g.fr i ds a hi h1) h2 h3,g.x.give hi h1 h3 h4,λk fs b q1 q2=>?_⟩
  ·rcases getElem?_set_cases q1 with⟨_,e1⟩|⟨hk,e1⟩
   ·cases e1
   ·exact g.fr k fs b e1 q2
 ·exact⟨C,g⟩
end
section
variable {X:Cx}{C0 H0:Hp}{st:cF}{R7 rest:List cF}{e:cE}{pos:Pos}{f g:bZ}
noncomputable def jF:bZ:=λδ=>some (.next δ)
noncomputable def eB (f g:bZ):bZ:=λδ=>match f δ with|some (.next δ')=>g δ'|r=>r
theorem L8:CK X C0 H0 [] jF:=λB=>EF.imp λDn σ H ⟨C,δ,r,g,q,k⟩=>by cases q;exact k σ C H g
theorem L9 (h:PB X C0 H0 st f):CK X C0 H0 [st] f:=λB=>EG (h B)
theorem IV (h:PB X C0 H0 st f) (h2:CK X C0 H0 rest g):CK X C0 H0 (st::rest) (eB f g):=λB=>(vT (h B) (h2 B)).imp λDn σ H ⟨C,δ,r,gd,q,k⟩=>by
 unfold eB at q;split at q
 ·rename_i δ' hf;exact⟨C,δ,.next δ',gd,hf,λσ' C' H' g'=>⟨C',δ',r,g',q,k⟩⟩
 ·rename_i hn;refine⟨C,δ,r,gd,q,?_⟩;cases r with
  |next δ'=>exact absurd q (hn δ')
  |ret d=>exact k
  |brk δ'=>exact k
  |cont δ'=>exact k
noncomputable def qY (i:Nat) (f:bZ):bZ:=λδ=>f (we i δ)
theorem IW (i:Nat) (h:CK X C0 H0 R7 f):CK X C0 H0 R7 (qY i f):=λB=>(h B).imp λDn σ H ⟨C,δ,r,gd,q,k⟩=>by
 obtain⟨C',g'⟩:=gd.give i;exact⟨C',_,r,g',q,k⟩
noncomputable def eE (f:cb):bZ:=λδ=>(f δ).map .ret
theorem Pc {f:cb}(he:PD X e f):PB X C0 H0 (.Return (some e) pos) (eE f):=λB=>(Oc he).imp λDn σ H ⟨C,δ,r,gd,q,k⟩=>by
 unfold eE at q;cases hf:f δ with
 |none=>rw[hf]at q;cases q
 |some d=>
  rw[hf]at q;cases q;exact⟨C,δ,d,gd.x,hf,λv C' H' ev i=>k v C' H' (gd.ev.trans ev) i⟩
noncomputable def jf (i:Nat) (f:cb):bZ:=λδ=>(f δ).map λd=>.next (δ.set i (.dat d))
noncomputable def iq (i:Nat) (f:bY):bZ:=λδ=>(f δ).map λds=>.next (δ.set i (.own ds))
theorem Pd {B:Hp}{i:Nat}{f:cb}{t:TE}(h:∀σ H Q,tD f σ H Q->t σ H Q):∀Dn σ H,tS B C0 H0 (jf i f) Dn σ H->t σ H λv H1=>Dn.nx (σ.set i (some v)) H1:=λDn σ H ⟨C,δ,r,gd,q,k⟩=>by
 unfold jf at q;cases hf:f δ with
 |none=>rw[hf]at q;cases q
 |some d=>
  rw[hf]at q;cases q;exact h σ H _ ⟨C,δ,d,gd.x,hf,λv C' H' ev i=>k _ C' H' ((gd.Du ev).uf i)⟩
theorem Dv {B:Hp}{i:Nat}{f:bY}{t:TE}(h:∀σ H Q,tF f σ H Q->t σ H Q):∀Dn σ H,tS B C0 H0 (iq i f) Dn σ H->t σ H λv H1=>Dn.nx (σ.set i (some v)) H1:=λDn σ H ⟨C,δ,r,gd,q,k⟩=>by
 unfold iq at q;cases hf:f δ with
 |none=>rw[hf]at q;cases q
 |some ds=>
  rw[hf]at q;cases q;exact h σ H _ ⟨C,δ,ds,gd.x,hf,λa xs C' H' ev h1 h2 h3 h4=>k _ C' H' (gd.zL ev h1 h2 h3 h4)⟩
theorem Pe (i:Nat) {x:Str}{pos':Pos}{f:cb}(hN:X.N.Nodup) (he:PD X e f) (hi:X.N[i]? =some x:=by rfl) (hx:Loc X.env.scope x:=by first|exact Or.inl rfl|exact Or.inr rfl) (hs:swapsWith e (some (.Name x pos')) pos.line X.env=pure false:=by rfl) (hf:X.fn x=true\/X.env.scope.names.lookup x=some .local:=by first|exact .inl rfl|exact .inr rfl):
  PB X C0 H0 (.Assign [.Name x pos'] e pos) (jf i f):=λB=>(CS hN hi hx he hs hf).imp (Pd λ_ _ _ h=>h)
theorem Ma (i:Nat) {x:Str}{pos':Pos}{f:bY}(hN:X.N.Nodup) (he:PF X e f) (hi:X.N[i]? =some x:=by rfl) (hx:Loc X.env.scope x:=by first|exact Or.inl rfl|exact Or.inr rfl) (hs:swapsWith e (some (.Name x pos')) pos.line X.env=pure false:=by rfl) (hf:X.fn x=true\/X.env.scope.names.lookup x=some .local:=by first|exact .inl rfl|exact .inr rfl):
  PB X C0 H0 (.Assign [.Name x pos'] e pos) (iq i f):=λB=>(CS hN hi hx he hs hf).imp (Dv λ_ _ _ h=>h)
noncomputable def oY (c:cc) (f g:bZ):bZ:=λδ=>match c δ with|some true=>f δ|some false=>g δ|none=>none
theorem R8 {c:cE}{a b:List cF}{q:cc}(hc:PQ X c q) (ha:CK X C0 H0 a f) (hb:CK X C0 H0 b g):PB X C0 H0 (.If c a b pos) (oY q f g):=λB=>(Nf hc (ha B) (hb B)).imp λDn σ H ⟨C,δ,r,gd,h,k⟩=>by
 unfold oY at h;split at h
 ·rename_i hf;exact⟨C,δ,true,gd.x,hf,λC' H' ev=>xQ ⟨C',δ,r,gd.Du ev,h,k⟩⟩
 ·rename_i hf;exact⟨C,δ,false,gd.x,hf,λC' H' ev=>zH ⟨C',δ,r,gd.Du ev,h,k⟩⟩
 ·cases h
noncomputable def Bi (i:Nat) (f:cb):bZ:=λδ=>match δ[i]? with
 |some (.own ds)=>(f δ).bind λd=>if ds.length<1000000 then some (.next (δ.set i (.own (ds++[d]))))else none
 |_=>none
omit [Mem] in
theorem vD {n:Nat}(h:n<1000000):n<sizeLine:=aw h (by decide)
theorem GD {i:Nat}{o:cE}{f:cb}{apos:Pos}{t:TA}(ht:PA X [e] t) (ho:PE X o (jo i)) (he:∀σ H Q,TV (bV f cN) σ H Q->t σ H Q)
  (call:PE X (.Call (.Attribute o "append" apos) [e] [] pos) (UR X.K "list" EM (jo i) t)) {pos':Pos}(hs:swapsWith (.Call (.Attribute o "append" apos) [e] [] pos) none pos'.line X.env=pure false:=by rfl):
  PB X C0 H0 (.Expr (.Call (.Attribute o "append" apos) [e] [] pos) pos') (Bi i f):=λB=>(Ln call hs).imp λDn σ H ⟨C,δ,r,gd,q,k⟩=>by
 unfold Bi at q;split at q
 ·rename_i ds hi;cases hf:f δ with
  |none=>rw[hf]at q;cases q
  |some d=>
   rw[hf]at q;simp only[ao]at q;split at q
   ·rename_i hz;cases q;obtain⟨a,xs,h1,h2,h3,h4⟩:=gd.x.own i ds hi;refine⟨_,h1,.inl ⟨rfl,_,pf.of h3⟩,he σ H _ ⟨C,δ,[d],gd.x,by unfold bV cN;rw[hf];rfl,λvs C' H' ev i'=>?_⟩⟩
    cases i' with
    |cons i1 i2=>
     cases i2;refine⟨a,xs,_,rfl,rfl,ev.hh h3,by rw[h4.length];exact vD hz,k σ C' _ ((gd.Du ev).mut hi h1 ((h4.mono ev.c).append (.one i1)))⟩
   ·cases q
 ·cases q
end
def Wk (J:It) (ds:cu) (C:Hp):Prop:=∀i C' H',dU C C'->dU C' H'->(∀d,ds[i]? =some d->J.go i H'/\∀x H3,J.Og i H' x H3->H3=H'/\Is C' x d)/\(ds.length<=i->J.stop i H')
def Zx (J:It) (ds:cu) (C H:Hp):Prop:=∀i C' H',Ev C H C' H'->(∀d,ds[i]? =some d->J.go i H'/\∀x H3,J.Og i H' x H3->H3=H'/\Is C' x d)/\(ds.length<=i->J.stop i H')
noncomputable def tI (f:bY):TI:=λσ H R=>∃C δ ds,Sx δ σ C H/\f δ=some ds/\∀J C' H',Ev C H C' H'->Wk J ds C'->R J H'
noncomputable def Xa (f:bY):TI:=λσ H R=>∃C δ ds,Sx δ σ C H/\f δ=some ds/\∀J C' H',Ev C H C' H'->Zx J ds C' H'->R J H'
omit [Mem] in
theorem _root_.L2.PI.imp {X:Cx}{tg e:cE}{t t':TI}(h:PI X tg e t) (m:∀σ H Q,t' σ H Q->t σ H Q):PI X tg e t':=λpins s σ H Q I q=>h pins s σ H Q I (m σ H Q q)
abbrev Nv (X:Cx) (tg e:cE) (f:bY):Prop:=PI X tg e (tI f)
abbrev Pf (X:Cx) (tg e:cE) (f:bY):Prop:=PI X tg e (Xa f)
section
variable {X:Cx}{tg e:cE}
theorem Nv.weak {f:bY}(h:Nv X tg e f):Pf X tg e f:=h.imp λσ H R ⟨C,δ,ds,x,q,k⟩=>⟨C,δ,ds,x,q,λJ C' H' ev wk=>k J C' H' ev λi C2 H2 e2=>wk i C2 H2 e2.c e2.s⟩
noncomputable def iL (f:cb):bY:=λδ=>match f δ with|some (.lst ds)=>some ds|_=>none
noncomputable def iT (f:cb):bY:=λδ=>match f δ with|some (.tup ds)=>some ds|_=>none
theorem yK {K:W.Frag}{C:Hp}{a:cD}{xs:List V}{ds:cu}(h:Rd C a (.lst xs)) (hl:IsL C xs ds):Wk (Ux K a) ds C:=λi C' H' sc sh=>by
 have hq:pf K H' a xs:=.inl ((h.same sc).same sh);refine⟨λd hd=>?_,λhi=>⟨xs,hq,by rw[hl.length];exact hi⟩⟩
 obtain⟨v,hv,is⟩:=hl.get hd;exact⟨⟨xs,v,hq,hv⟩,λx H3 ⟨e1,e2⟩=>⟨e1,by
  have:=e2 xs hq;rw[hv]at this;cases this;exact is.mono sc⟩⟩
theorem IX {K:W.Frag}{C:Hp}{a:cD}{xs:List V}{ds:cu}(h:C a=some (.tup xs)) (hl:IsL C xs ds):Wk (Uy K a) ds C:=λi C' H' sc sh=>by
 have hq:jk K H' a xs:=jk.of (sh _ _ (sc _ _ h));refine⟨λd hd=>?_,λhi=>⟨xs,hq,by rw[hl.length];exact hi⟩⟩
 obtain⟨v,hv,is⟩:=hl.get hd;exact⟨⟨xs,v,hq,hv⟩,λx H3 ⟨e1,e2⟩=>⟨e1,by
  have:=e2 xs hq;rw[hv]at this;cases this;exact is.mono sc⟩⟩
theorem Bj {f:cb}(h:PD X e f):Nv X tg e (iL f):=(EH h).imp λσ H R ⟨C,δ,ds,x,q,k⟩=>by
 unfold iL at q;split at q
 ·rename_i es hf;cases q;refine⟨C,δ,_,x,hf,λv C' H' ev i=>?_⟩
  cases i with
  |lst hr hl=>exact⟨_,rfl,⟨_,.inl (hr.same ev.s)⟩,k _ C' H' ev (yK hr hl)⟩
 ·cases q
theorem EX {f:cb}(h:PD X e f):Nv X tg e (iT f):=(Oh h).imp λσ H R ⟨C,δ,ds,x,q,k⟩=>by
 unfold iT at q;split at q
 ·rename_i es hf;cases q;refine⟨C,δ,_,x,hf,λv C' H' ev i=>?_⟩
  cases i with
  |tup hr hl=>exact⟨_,rfl,⟨_,jk.of (ev.s _ _ hr)⟩,k _ C' H' ev (IX hr hl)⟩
 ·cases q
theorem Mb {f:cb}(h:PO X e f):Pf X tg e (iL f):=(EH h).imp λσ H R ⟨C,δ,ds,x,q,k⟩=>by
 unfold iL at q;split at q
 ·rename_i es hf;cases q;refine⟨C,δ,_,x,hf,λv C' H' ev i=>?_⟩
  rcases i with i|⟨a,xs,EU,rfl,e2,h2,h3,h4⟩
  ·cases i with
   |lst hr hl=>exact⟨_,rfl,⟨_,.inl (hr.same ev.s)⟩,k _ C' H' ev λi C2 H2 e2=>yK hr hl i C2 H2 e2.c e2.s⟩
  ·cases e2;refine⟨a,rfl,⟨xs,pf.of h3⟩,k _ C' H' ev λi C2 H2 e2=>?_⟩
   have hq:pf X.K H2 a xs:=pf.of (e2.hh h3);refine⟨λd hd=>?_,λhi=>⟨xs,hq,by rw[h4.length];exact hi⟩⟩
   obtain⟨v,hv,is⟩:=h4.get hd;exact⟨⟨xs,v,hq,hv⟩,λx H3 ⟨z1,z2⟩=>⟨z1,by
    have:=z2 xs hq;rw[hv]at this;cases this;exact is.mono e2.c⟩⟩
 ·cases q
noncomputable def dJ (lo:Int):Nat->cn
 |0=>[]
 |n+1=>lo::dJ (lo+1) n
omit [Mem] in
theorem oq:∀(n i:Nat) (lo:Int),(dJ lo n)[i]? =if i<n then some (lo+i)else none
 |0,i,lo=>by simp[dJ]
 |n+1,0,lo=>by simp[dJ]
 |n+1,i+1,lo=>by
  show(dJ (lo+1) n)[i]? =_;rw[oq n i (lo+1)];by_cases h:i<n
  ·rw[if_pos h,if_pos (by omega)];congr 1;omega
  ·rw[if_neg h,if_neg (by omega)]
omit [Mem] in
theorem dS:∀(n:Nat) (lo:Int),(dJ lo n).length=n
 |0,_=>rfl
 |n+1,lo=>congrArg (·+1) (dS n (lo+1))
theorem Dw {lo:Int}{n:Nat}{C:Hp}:Wk (Tz lo n) ((dJ lo n).map D.int) C:=λi C' H' sc sh=>by
 refine⟨λd hd=>?_,λhi=>?_⟩
 ·rw[av,oq]at hd;split at hd
  ·rename_i h;cases hd;exact⟨h,λx H3 ⟨e1,e2⟩=>⟨e1,by rw[e2];exact .int _⟩⟩
  ·cases hd
 ·rw[ae,dS]at hi;exact hi
noncomputable def ug (f:bY):bY:=λδ=>match f δ with|some [.int j]=>if j<1000000/\-1000000<j then some ((dJ 0 j.toNat).map D.int)else none|_=>none
theorem Dx {a:cE}{f:bY}{p pos:Pos}(hg:Gl X "range") (hm:X.mg "range"=none) (ha:HK X [a] f) (hs:starEach [a] X.env=[(false,eval a X.env)]:=by exact eL rfl):Nv X tg (.Call (.Name "range" p) [a] [] pos) (ug f):=(Gh hg hm ha hs).imp λσ H R ⟨C,δ,ds,x,q,k⟩=>by
 unfold ug at q;split at q
 ·rename_i j hf;split at q
  ·rename_i hj;cases q;refine⟨C,δ,_,x,hf,λvs C' H' ev i=>?_⟩
   cases i with
   |cons i1 i2=>
    cases i2;cases i1;exact⟨j,rfl,by omega,by omega,k _ C' H' ev Dw⟩
  ·cases q
 ·cases q
noncomputable def gr (j:Nat) (f:bZ):cu->bZ
 |[],δ=>some (.next δ)
 |d::ds,δ=>match f (δ.set j (.dat d))with
  |some (.next δ')=>gr j f ds δ'
  |some (.cont δ')=>gr j f ds δ'
  |some (.brk δ')=>some (.next δ')
  |some (.ret r)=>some (.ret r)
  |none=>none
noncomputable def lU (j:Nat) (i:bY) (f:bZ):bZ:=λδ=>(i δ).bind λds=>gr j f ds δ
theorem Pg {C0 H0:Hp}{iter:cE}{body:List cF}{i:bY}{f:bZ}{pos:Pos}{j:Nat}(hp:PassesOwn (model X.prog X.w) X.A X.env X.xe) (hc:X.calm=true) (hi:Nv X tg iter i) (hg:PG X tg (A4 j)) (hb:CK X C0 H0 body f)
  (hs:∀x,foldedSetIterable iter X.env x=pure x:=by intro _;rfl):PB X C0 H0 (.For tg iter body [] pos) (lU j i f):=λB pins s σ H Dn I h=>by
 obtain⟨C,δ,r,gd,q,k⟩:=h;unfold lU at q;cases hf:i δ with
 |none=>rw[hf]at q;cases q
 |some ds=>
  rw[hf]at q;simp only[ao]at q;have main:∀J C1 H1,Ev C H C1 H1->Wk J ds C1->∃W:Nat->Nat->L2.St->Hp->Prop,(∃m,W 0 m σ H1)/\∀i m σ H,W i m σ H->
    (J.stop i H/\Dn.nx σ H)\/(J.go i H/\∃N:L2.St->Hp->Prop,(∀σ' H',N σ' H'->∃m',m'<m/\W (i+1) m' σ' H')/\∀x H',J.Og i H x H'->A4 j x σ H' λσ2 H2=>tS C1 C0 H0 f {Dn with nx:=N,ct:=N,bk:=Dn.nx} σ2 H2):=by
   intro J C1 H1 ev wk;have bs:dU B C1:=gd.b.trans ev.c;refine⟨λn m σ H=>∃C δ,m=ds.length-n/\n<=ds.length/\Gd C1 C0 H0 δ σ C H/\gr j f (ds.drop n) δ=some r,⟨ds.length,C1,δ,by simp,bL _,⟨dU.refl _,gd.ev.trans ev,gd.x.ev ev,gd.fr⟩,by simpa using q⟩,?_⟩
   rintro n m σ2 H2 ⟨C2,δ2,rfl,hn,g2,q2⟩
   have w:=wk n C2 H2 g2.b g2.x.sub;by_cases fM:n<ds.length
   ·have hd:ds[n]? =some ds[n]:=ah fM;obtain⟨go,yl⟩:=w.1 _ hd;rw[List.drop_eq_getElem_cons fM]at q2;refine .inr ⟨go,λσ' H'=>∃C' δ',Gd C1 C0 H0 δ' σ' C' H'/\gr j f (ds.drop (n+1)) δ'=some r,λσ' H' ⟨C',δ',g',q'⟩=>⟨ds.length-(n+1),by omega,C',δ',rfl,fM,g',q'⟩,λx H3 y=>?_⟩
    obtain⟨rfl,is⟩:=yl x H3 y;have g3:=g2.uf (i:=j) is;unfold gr at q2;show tS C1 C0 H0 f {Dn with nx:=_,ct:=_,bk:=Dn.nx} (σ2.set j (some x)) _
    cases Mc:f (δ2.set j (.dat ds[n]))with
    |none=>rw[Mc]at q2;cases q2
    |some rb=>
     rw[Mc]at q2;refine⟨C2,δ2.set j (.dat ds[n]),rb,g3,Mc,?_⟩;cases rb with
     |next δ'=>exact λσ' C' H' g'=>⟨C',δ',g',q2⟩
     |cont δ'=>exact λσ' C' H' g'=>⟨C',δ',g',q2⟩
     |brk δ'=>
      cases q2;exact λσ' C' H' g'=>k σ' C' H' ⟨bs.trans g'.b,g'.ev,g'.x,g'.fr⟩
     |ret d=>
      cases q2;exact k
   ·have e:n=ds.length:=by omega
    subst e;rw[List.drop_length]at q2;unfold gr at q2;cases q2;exact .inl ⟨w.2 (au _),k σ2 C2 H2 ⟨bs.trans g2.b,g2.ev,g2.x,g2.fr⟩⟩
  refine Oi (tb:=λU4 σ' H'=>∃C1,tS C1 C0 H0 f U4 σ' H') hp hc hi hg (λpins s σ H U4 I ⟨C1,h⟩=>hb C1 pins s σ H U4 I h) hs pins s σ H Dn I ?_
  refine⟨C,δ,ds,gd.x,hf,λJ C1 H1 ev wk=>?_⟩
  obtain⟨W,w0,st⟩:=main J C1 H1 ev wk;refine⟨W,w0,λi m σ H w=>?_⟩
  rcases st i m σ H w with z|⟨go,N,hN,hy⟩
  ·exact .inl z
  ·exact .inr ⟨go,N,hN,λx H' y=>⟨C1,hy x H' y⟩⟩
noncomputable def gS (j:Nat) (t:cc) (f:cb) (δ:dO):cu->Option (cu)
 |[]=>some []
 |d::ds=>match t (δ.set j (.dat d))with
  |some true=>(f (δ.set j (.dat d))).bind λy=>(gS j t f δ ds).map λys=>y::ys
  |some false=>gS j t f δ ds
  |none=>none
noncomputable def dR (i:bY) (j:Nat) (t:cc) (f:cb):bY:=λδ=>(i δ).bind λds=>if ds.length<1000000 then gS j t f δ ds else none
noncomputable def lV:cc:=λ_=>some true
theorem Dy:∀σ H Q,tQ lV σ H Q->RQ σ H Q:=λσ H Q ⟨C,δ,b,x,q,k⟩=>by cases q;exact k C H (.refl x.sub)
theorem zM {i:bY}{j:Nat}{t:cc}{f:cb}{tt:TT}(ht:∀σ H Q,tQ t σ H Q->tt σ H Q):∀σ H Q,tF (dR i j t f) σ H Q->EO (Xa i) j tt (tD f) σ H Q:=λσ H Q ⟨C,δ,ys,x,q,k⟩=>by
 unfold dR at q;cases hf:i δ with
 |none=>rw[hf]at q;cases q
 |some ds=>
  rw[hf]at q;simp only[ao]at q;split at q
  case isFalse=>cases q
  rename_i hz;refine⟨C,δ,ds,x,hf,λJ C1 H1 ev wk A hA=>?_⟩
  refine⟨λn m acc H'=>∃C' done rest,m=ds.length-n/\n<=ds.length/\Ev C1 H1 C' H'/\C' A=none/\H' A=some (.lst acc)/\IsL C' acc done/\done.length<=n/\gS j t f δ (ds.drop n)=some rest/\ys=done++rest,
   ⟨ds.length,C1,[],ys,by simp,bL _,.hU ev.s hA,ev.s.free hA,da,.nil,au _,by simpa using q,rfl⟩,?_⟩
  rintro n m acc H2 ⟨C2,done,rest,rfl,hn,e2,a2,b2,l2,U5,q2,ey⟩
  have w:=wk n C2 H2 e2;by_cases fM:n<ds.length
  ·have hd:ds[n]? =some ds[n]:=ah fM;obtain⟨go,yl⟩:=w.1 _ hd;rw[List.drop_eq_getElem_cons fM]at q2;refine .inr ⟨go,λv H3 y=>?_⟩
   obtain⟨rfl,is⟩:=yl v H3 y;have x2:Sx δ σ C2 H3:=x.ev (ev.trans e2);have x3:=x2.uf (i:=j) is;unfold gS at q2;split at q2
   ·rename_i U6;refine ht _ _ _ ⟨C2,_,true,x3,U6,λC4 H4 e4=>xQ ?_⟩
    cases Ph:f (δ.set j (.dat ds[n]))with
    |none=>rw[Ph]at q2;cases q2
    |some y=>
     rw[Ph]at q2;simp only[ao]at q2;cases hr:gS j t f δ (ds.drop (n+1))with
     |none=>rw[hr]at q2;cases q2
     |some rs=>
      rw[hr]at q2;cases q2;refine⟨C4,_,y,x3.ev e4,Ph,λu C5 H5 e5 i5=>?_⟩
      have HL:=e4.trans e5;have TX:=HL.hh b2;have a5:=HL.nn a2 b2;refine⟨TX,?_,ds.length-(n+1),by omega,C5,done++[y],rs,rfl,fM,(e2.trans HL).ET hA a5 _,a5,da,(l2.mono HL.c).append (.one i5),?_,hr,?_⟩
      ·rw[l2.length];exact vD (by omega)
      ·rw[aQ,List.length_singleton];omega
      ·rw[ey,List.append_assoc];rfl
   ·rename_i U6;refine ht _ _ _ ⟨C2,_,false,x3,U6,λC4 H4 e4=>zH ?_⟩
    exact⟨ds.length-(n+1),by omega,C4,done,rest,rfl,fM,e2.trans e4,e4.nn a2 b2,e4.hh b2,l2.mono e4.c,by omega,q2,ey⟩
   ·cases q2
  ·have e:n=ds.length:=by omega
   subst e;rw[List.drop_length]at q2;unfold gS at q2;cases q2;rw[bB]at ey;subst ey;exact .inl ⟨w.2 (au _),k A acc C2 H2 (ev.trans e2) (ev.free hA) a2 b2 l2⟩
end
section
variable {X:Cx}{elt iter:cE}{x:Str}{px pos:Pos}{scope:Scope}{i:bY}{t:cc}{f:cb}
theorem Md (j:Nat) (hc:X.calm=true) (S:gA X scope x j) (hi:Pf X (.Name x px) iter i) (he:∀cl C s H fp,PD (dE X scope cl C s H fp) elt f)
  (hs:∀v,foldedSetIterable iter X.env v=pure v:=by intro _;rfl):PF X (.ListComp elt [⟨.Name x px,iter,[],0⟩] scope pos) (dR i j lV f):=(ER hc S hi (λ_ _ _ _ _=>v5) he hs).imp (zM Dy)
theorem GF (j:Nat) {c:cE}(hc:X.calm=true) (S:gA X scope x j) (hi:Pf X (.Name x px) iter i) (ht:∀cl C s H fp,PQ (dE X scope cl C s H fp) c t) (he:∀cl C s H fp,PD (dE X scope cl C s H fp) elt f)
  (hs:∀v,foldedSetIterable iter X.env v=pure v:=by intro _;rfl):PF X (.ListComp elt [⟨.Name x px,iter,[c],0⟩] scope pos) (dR i j t f):=(ER hc S hi (λcl C s H fp=>Bd (ht cl C s H fp)) he hs).imp (zM λ_ _ _ h=>h)
variable {C0 H0:Hp}{y:Str}{py ph:Pos}
theorem Dz (k j:Nat) (hc:X.calm=true) (S:gA X scope x j) (hi:Pf X (.Name x px) iter i) (he:∀cl C s H fp,PD (dE X scope cl C s H fp) elt f)
  (hN:X.N[k]? =some y:=by rfl) (hy:Loc X.env.scope y:=by first|exact Or.inl rfl|exact Or.inr rfl) (hf:X.fn y=true\/X.env.scope.names.lookup y=some .local:=by first|exact .inl rfl|exact .inr rfl)
  (Gv:swapsWith (.ListComp elt [⟨.Name x px,iter,[],0⟩] scope pos) (some (.Name y py)) ph.line X.env=pure true:=by rfl)
  (hs:∀v,foldedSetIterable iter X.env v=pure v:=by intro _;rfl):PB X C0 H0 (.Assign [.Name y py] (.ListComp elt [⟨.Name x px,iter,[],0⟩] scope pos) ph) (iq k (dR i j lV f)):=λB=>
 (rO hc S hi (λ_ _ _ _ _=>v5) he hN hy hf Gv hs).imp (Dv (zM Dy))
theorem zN (k j:Nat) {c:cE}(hc:X.calm=true) (S:gA X scope x j) (hi:Pf X (.Name x px) iter i) (ht:∀cl C s H fp,PQ (dE X scope cl C s H fp) c t) (he:∀cl C s H fp,PD (dE X scope cl C s H fp) elt f)
  (hN:X.N[k]? =some y:=by rfl) (hy:Loc X.env.scope y:=by first|exact Or.inl rfl|exact Or.inr rfl) (hf:X.fn y=true\/X.env.scope.names.lookup y=some .local:=by first|exact .inl rfl|exact .inr rfl)
  (Gv:swapsWith (.ListComp elt [⟨.Name x px,iter,[c],0⟩] scope pos) (some (.Name y py)) ph.line X.env=pure true:=by rfl)
  (hs:∀v,foldedSetIterable iter X.env v=pure v:=by intro _;rfl):PB X C0 H0 (.Assign [.Name y py] (.ListComp elt [⟨.Name x px,iter,[c],0⟩] scope pos) ph) (iq k (dR i j t f)):=λB=>
 (rO hc S hi (λcl C s H fp=>Bd (ht cl C s H fp)) he hN hy hf Gv hs).imp (Dv (zM λ_ _ _ h=>h))
end
end DL
namespace DL
open PySem PySem.Spec PyProof.Rows L2
noncomputable def gi (n:Nat) (np:Nat) (f:bZ) (ds:cu):Option D:=
 if ds.length=np then(match f (ds.map Sl.dat++List.replicate (n-np) Sl.no)with|some (.ret d)=>some d|some (.next _)=>some .eU|_=>none)else none
theorem Nw {P:cz}{w:cA}{K:W.Frag}{mg:cj}{base:Heap}{x qual:Str}{st:cF}{f:cD}{fd:cy}{N ps:List Str}{k:Nat}(F:lS K x qual st f fd) (S:du N ps (cK st)) {fb:bZ}
  (kP:∀(fO:cw) (A:cB) (outer:List Env) (s:cx) (H:Hp) (E:XK),gy k (A.deeper (envOfC qual (cK st) s.heap.objs.size f fO))->∀C0 H0,@CK Mem.keep (rN jb P w K mg base N qual (cK st) f fO A outer s H E).EE C0 H0 (dh st) fb):
  eA P w K mg base jb (k+1) f fd ps (nC (gi N.length ps.length fb)):=by
 letI:Mem:=Mem.keep
 refine F.ok S (λvs H Q E h=>?_) (λfO A outer s H vs Q E hr h=>?_)
 ·obtain⟨C,ds,d,_,i,q,_⟩:=h;unfold gi at q;split at q
  ·rename_i hl;rw[i.length];exact hl
  ·cases q
 ·obtain⟨C,ds,d,sub,i,q,k⟩:=h;refine⟨tS C C H fb,kP fO A outer s H E hr C H C,?_⟩;unfold gi at q;split at q
  case isFalse=>cases q
  rename_i hl;have hN:ps.length<=N.length:=by have:=S.pre;rw[<-this,bJ];omega
  have sx:Sx (ds.map Sl.dat++List.replicate (N.length-ps.length) Sl.no) (L2.start N vs) C H:=by
   have lv:=i.length;refine⟨sub,λn d e=>?_,λn es e=>?_,λn m es fs a e=>?_,?_,λn ks e=>?_⟩
   ·by_cases hn:n<ds.length
    ·rw[aJ (by simpa using hn),av]at e
     cases hd:ds[n]? with
     |none=>rw[hd]at e;cases e
     |some d'=>
      rw[hd]at e;cases e;obtain⟨v,h1,h2⟩:=i.get hd;refine⟨v,?_,h2⟩;unfold L2.start;rw[aJ (by rw[ae,lv];exact hn),av,h1];rfl
    ·rw[aP (by rw[ae];omega),bf]at e
     split at e<;>cases e
   ·by_cases hn:n<ds.length
    ·rw[aJ (by simpa using hn),av]at e
     cases hd:ds[n]? with
     |none=>rw[hd]at e;cases e
     |some d'=>rw[hd]at e;cases e
    ·rw[aP (by rw[ae];omega),bf]at e
     split at e<;>cases e
   ·by_cases hn:n<ds.length
    ·rw[aJ (by simpa using hn),av]at e
     cases hd:ds[n]? with
     |none=>rw[hd]at e;cases e
     |some d'=>rw[hd]at e;cases e
    ·rw[aP (by rw[ae];omega),bf]at e
     split at e<;>cases e
   ·unfold L2.start;simp only[aQ,ae,List.length_replicate];omega
   ·by_cases hn:n<ds.length
    ·rw[aJ (by simpa using hn),av]at e
     cases hd:ds[n]? with
     |none=>rw[hd]at e;cases e
     |some d'=>rw[hd]at e;cases e
    ·rw[aP (by rw[ae];omega),bf]at e
     split at e<;>cases e
  have gd:Gd C C H (ds.map Sl.dat++List.replicate (N.length-ps.length) Sl.no) (L2.start N vs) C H:=⟨dU.refl _,.refl sub,sx,λn es a e _=>by
   obtain⟨a',xs,h1,h2,h3,_⟩:=sx.own n es e;exfalso;by_cases hn:n<ds.length
   ·rw[aJ (by simpa using hn),av]at e
    cases hd:ds[n]? with
    |none=>rw[hd]at e;cases e
    |some d'=>rw[hd]at e;cases e
   ·rw[aP (by rw[ae];omega),bf]at e
    split at e<;>cases e⟩
  split at q
  ·rename_i d' hf;cases q;exact⟨C,_,_,gd,hf,λv C' H' ev i'=>k v C' H' ev.uQ i'⟩
  ·rename_i δ' hf;cases q;exact⟨C,_,_,gd,hf,λσ' C' H' g'=>k .eU C' H' g'.ev.uQ .eU⟩
  ·cases q
end DL
namespace DL
open PySem PySem.Spec PyProof.Rows L2
mutual
noncomputable def dP:D->D->Bool
 |.eU,.eU=>true
 |.bl a,.bl b=>a==b
 |.bl a,.int b=>(if a then 1 else 0)==b
 |.int a,.bl b=>a==(if b then 1 else 0)
 |.int a,.int b=>a==b
 |.str a,.str b=>a==b
 |.tup a,.tup b=>lh a b
 |.lst a,.lst b=>lh a b
 |_,_=>false
noncomputable def lh:cu->cu->Bool
 |[],[]=>true
 |a::as,b::bs=>dP a b&&lh as bs
 |_,_=>false
end
mutual
noncomputable def dW:D->Nat
 |.tup ds=>jg ds+1
 |.lst ds=>jg ds+1
 |_=>0
noncomputable def jg:cu->Nat
 |[]=>0
 |d::ds=>max (dW d) (jg ds)
end
theorem jJ:∀{ds:cu}{d:D},d∈ds->dW d<=jg ds
 |e::r,d,h=>by
  unfold jg;rcases List.mem_cons.mp h with h|h
  ·subst h;omega
  ·have:=jJ h;omega
mutual
theorem pH:∀d:D,dP d d=true
 |.eU=>by unfold dP;rfl
 |.bl b=>by unfold dP;simp
 |.int i=>by unfold dP;simp
 |.str x=>by unfold dP;simp
 |.tup ds=>by unfold dP;exact uh ds
 |.lst ds=>by unfold dP;exact uh ds
theorem uh:∀ds:cu,lh ds ds=true
 |[]=>by unfold lh;rfl
 |d::ds=>by unfold lh;rw[pH d,uh ds];rfl
end
theorem kR:∀(as bs:cu),lh as bs=((List.range (min as.length bs.length)).all (λj=>dP (as.getD j .eU) (bs.getD j .eU))&&as.length==bs.length)
 |[],[]=>by unfold lh;rfl
 |[],b::bs=>by unfold lh;simp
 |a::as,[]=>by unfold lh;simp
 |a::as,b::bs=>by
  unfold lh;rw[kR as bs];have e:min (a::as).length (b::bs).length=min as.length bs.length+1:=by simp only[ax];omega
  rw[e,List.range_succ_eq_map,List.all_cons,List.all_map];simp only[ax,List.getD_cons_zero,Nat.add_left_inj,Nat.add_eq,Nat.add_zero,Bool.and_assoc]
  congr 1
  have e2:(as.length+1==bs.length+1)=(as.length==bs.length):=by
   rw[Bool.eq_iff_iff];simp
  rw[e2]
  congr 1
mutual
theorem Is.inj {C:Hp}:∀{v:V}{d e:D},Is C v d->Is C v e->d=e
 |_,_,_,.eU,.eU=>rfl
 |_,_,_,.bl _,.bl _=>rfl
 |_,_,_,.int _,.int _=>rfl
 |_,_,_,.str _,.str _=>rfl
 |_,_,_,.tup h l,.tup h' l'=>by
  rw[h]at h';cases h';rw[IsL.inj l l']
 |_,_,_,.lst h l,.lst h' l'=>by
  have:∀{a:cD}{xs ys:List V},Rd C a (.lst xs)->Rd C a (.lst ys)->xs=ys:=λ{a xs ys} p q=>by
   rcases p with p|⟨o,p⟩<;>rcases q with q|⟨o',q⟩<;>(rw[p]at q;cases q)<;>rfl
  cases this h h';rw[IsL.inj l l']
 |_,_,_,.tup h l,.lst h' l'=>by
  rcases h' with q|⟨o',q⟩<;>(rw[h]at q;cases q)
 |_,_,_,.lst h l,.tup h' l'=>by
  rcases h with q|⟨o',q⟩<;>(rw[h']at q;cases q)
theorem IsL.inj {C:Hp}:∀{vs:List V}{ds es:cu},IsL C vs ds->IsL C vs es->ds=es
 |_,_,_,.nil,.nil=>rfl
 |_,_,_,.cons h t,.cons h' t'=>by rw[Is.inj h h',IsL.inj t t']
end
section
variable {X:Cx}{pins:ck}{σ:L2.St}{C H:Hp}{s:cx}
theorem IY (I:Inv X pins σ H s) (sub:dU C H):∀(n:Nat) (A:cB) (d e:D) (v w:V) (u z:cw),dW d<=n->A.units+n<cLine->Is C v d->Is C w e->RelV v u->RelV w z->SeqAt.EqAt A s u z (dP d e):=by
 intro n;induction n with
 |zero=>
  intro A d e v w u z hd hu iv iw ru rz;have ik:A.units<cLine:=by omega
  cases iv with
  |tup h l=>unfold dW at hd;omega
  |lst h l=>unfold dW at hd;omega
  |eU=>
   cases ru;cases iw with
   |tup h l=>cases rz;obtain⟨dz,_,p,_⟩:=I.tuple (jk.of (K:=X.K) (sub _ _ h));unfold dP;exact SeqAt.EqAt.none_tuple p ik
   |lst h l=>cases rz;obtain⟨dz,_,p,_⟩:=I.list (.inl (h.same sub));unfold dP;exact SeqAt.EqAt.none_list p.isList ik
   |eU=>cases rz;unfold dP;exact SeqAt.EqAt.same _
   |bl b=>cases rz;unfold dP;exact SeqAt.EqAt.none_bool b
   |int b=>obtain⟨t,rfl⟩:=rz;unfold dP;exact SeqAt.EqAt.none_int b t
   |str b=>obtain⟨t,rfl⟩:=rz;unfold dP;exact SeqAt.EqAt.none_str b t
  |bl a=>
   cases ru;cases iw with
   |tup h l=>cases rz;obtain⟨dz,_,p,_⟩:=I.tuple (jk.of (K:=X.K) (sub _ _ h));unfold dP;exact SeqAt.EqAt.bool_tuple a p ik
   |lst h l=>cases rz;obtain⟨dz,_,p,_⟩:=I.list (.inl (h.same sub));unfold dP;exact SeqAt.EqAt.bool_list a p.isList ik
   |eU=>cases rz;unfold dP;exact SeqAt.EqAt.bool_none a
   |bl b=>cases rz;unfold dP;exact SeqAt.EqAt.bool_bool a b
   |int b=>obtain⟨t,rfl⟩:=rz;unfold dP;exact SeqAt.EqAt.bool_int a b t
   |str b=>obtain⟨t,rfl⟩:=rz;unfold dP;exact SeqAt.EqAt.bool_str a b t
  |int a=>
   obtain⟨t',rfl⟩:=ru;cases iw with
   |tup h l=>cases rz;obtain⟨dz,_,p,_⟩:=I.tuple (jk.of (K:=X.K) (sub _ _ h));unfold dP;exact SeqAt.EqAt.int_tuple a t' p ik
   |lst h l=>cases rz;obtain⟨dz,_,p,_⟩:=I.list (.inl (h.same sub));unfold dP;exact SeqAt.EqAt.int_list a t' p.isList ik
   |eU=>cases rz;unfold dP;exact SeqAt.EqAt.int_none a t'
   |bl b=>cases rz;unfold dP;exact SeqAt.EqAt.int_bool a t' b
   |int b=>obtain⟨t,rfl⟩:=rz;unfold dP;exact SeqAt.EqAt.int_int a t' b t
   |str b=>obtain⟨t,rfl⟩:=rz;unfold dP;exact SeqAt.EqAt.int_str a t' b t
  |str a=>
   obtain⟨t',rfl⟩:=ru;cases iw with
   |tup h l=>cases rz;obtain⟨dz,_,p,_⟩:=I.tuple (jk.of (K:=X.K) (sub _ _ h));unfold dP;exact SeqAt.EqAt.str_tuple a t' p ik
   |lst h l=>cases rz;obtain⟨dz,_,p,_⟩:=I.list (.inl (h.same sub));unfold dP;exact SeqAt.EqAt.str_list a t' p.isList ik
   |eU=>cases rz;unfold dP;exact SeqAt.EqAt.str_none a t'
   |bl b=>cases rz;unfold dP;exact SeqAt.EqAt.str_bool a t' b
   |int b=>obtain⟨t,rfl⟩:=rz;unfold dP;exact SeqAt.EqAt.str_int a t' b t
   |str b=>obtain⟨t,rfl⟩:=rz;unfold dP;exact SeqAt.EqAt.str_str a t' b t
 |succ n ih=>
  intro A d e v w u z hd hu iv iw ru rz;have ik:A.units<cLine:=by omega
  have Pj:A.in1.units+n<cLine:=by show A.units+1+n<cLine;omega
  have items:∀{xs ys:List V}{ds es:cu}{dz fm:cv},jg ds<=n->IsL C xs ds->IsL C ys es->Vals xs dz->Vals ys fm->
    ∀j (h1:j<dz.toArray.size) (h2:j<fm.toArray.size),SeqAt.EqAt A.in1 s dz.toArray[j] fm.toArray[j] (dP (ds.getD j .eU) (es.getD j .eU)):=λ{xs ys ds es dz fm} hn l1 l2 r1 r2 j h1 h2=>by
   have yI:j<dz.length:=by simpa using h1
   have AZ:j<fm.length:=by simpa using h2
   have g1:xs[j]? =some (xs[j]'(by rw[r1.length];exact yI)):=ah _
   have g2:ys[j]? =some (ys[j]'(by rw[r2.length];exact AZ)):=ah _
   obtain⟨u1,q1,k1⟩:=r1.get g1;obtain⟨u2,q2,k2⟩:=r2.get g2;obtain⟨d1,e1,i1⟩:=l1.get' g1;obtain⟨d2,e2,i2⟩:=l2.get' g2;have w1:dz.toArray[j]=u1:=by
    rw[ah yI]at q1
    simpa using aS q1
   have w2:fm.toArray[j]=u2:=by
    rw[ah AZ]at q2
    simpa using aS q2
   rw[w1,w2,ak,ak,e1,e2];exact ih A.in1 d1 d2 _ _ u1 u2 (aB (jJ (bh e1)) hn) Pj i1 i2 k1 k2
  cases iv with
  |eU=>exact ih A .eU e .eU w u z (by unfold dW;omega) (by omega) .eU iw ru rz
  |bl b=>exact ih A (.bl b) e (.bl b) w u z (by unfold dW;omega) (by omega) (.bl b) iw ru rz
  |int b=>exact ih A (.int b) e (.int b) w u z (by unfold dW;omega) (by omega) (.int b) iw ru rz
  |str b=>exact ih A (.str b) e (.str b) w u z (by unfold dW;omega) (by omega) (.str b) iw ru rz
  |@tup a xs ds h l=>
   cases ru;obtain⟨dz,r1,p1,z1⟩:=I.tuple (jk.of (K:=X.K) (sub _ _ h));unfold dW at hd;cases iw with
   |eU=>cases rz;unfold dP;exact SeqAt.EqAt.tuple_none p1 ik
   |bl b=>cases rz;unfold dP;exact SeqAt.EqAt.tuple_bool b p1 ik
   |int b=>obtain⟨t,rfl⟩:=rz;unfold dP;exact SeqAt.EqAt.tuple_int b t p1 ik
   |str b=>obtain⟨t,rfl⟩:=rz;unfold dP;exact SeqAt.EqAt.tuple_str b t p1 ik
   |lst h2 l2=>cases rz;obtain⟨fm,_,p2,_⟩:=I.list (.inl (h2.same sub));unfold dP;exact SeqAt.EqAt.tuple_list p1 p2.isList ik
   |@tup b ys es h2 l2=>
    cases rz;by_cases EY:a=b
    ·subst EY;have e:=Is.inj (Is.tup h l) (Is.tup h2 l2);rw[<-e,pH];exact SeqAt.EqAt.same _
    ·obtain⟨fm,r2,p2,z2⟩:=I.tuple (jk.of (K:=X.K) (sub _ _ h2));have q:=SeqAt.RcAt.tuples p1 p2 ik (items (by omega) l l2 r1 r2)
     unfold dP;rw[kR];have e1:dz.toArray.size=ds.length:=by rw[aq,<-r1.length,l.length]
     have e2:fm.toArray.size=es.length:=by rw[aq,<-r2.length,l2.length]
     rw[e1,e2]at q;exact SeqAt.EqAt.of_refs EY q
  |@lst a xs ds h l=>
   cases ru;obtain⟨dz,r1,p1,z1⟩:=I.list (.inl (h.same sub));unfold dW at hd;cases iw with
   |eU=>cases rz;unfold dP;exact SeqAt.EqAt.list_none p1.isList ik
   |bl b=>cases rz;unfold dP;exact SeqAt.EqAt.list_bool b p1.isList ik
   |int b=>obtain⟨t,rfl⟩:=rz;unfold dP;exact SeqAt.EqAt.list_int b t p1.isList ik
   |str b=>obtain⟨t,rfl⟩:=rz;unfold dP;exact SeqAt.EqAt.list_str b t p1.isList ik
   |tup h2 l2=>cases rz;obtain⟨fm,_,p2,_⟩:=I.tuple (jk.of (K:=X.K) (sub _ _ h2));unfold dP;exact SeqAt.EqAt.list_tuple p1.isList p2 ik
   |@lst b ys es h2 l2=>
    cases rz;by_cases EY:a=b
    ·subst EY;have e:=Is.inj (Is.lst h l) (Is.lst h2 l2);rw[<-e,pH];exact SeqAt.EqAt.same _
    ·obtain⟨fm,r2,p2,z2⟩:=I.list (.inl (h2.same sub));have e1:dz.toArray.size=ds.length:=by rw[aq,<-r1.length,l.length]
     have e2:fm.toArray.size=es.length:=by rw[aq,<-r2.length,l2.length]
     unfold dP;rw[kR];by_cases hl:ds.length=es.length
     ·have q:=SeqAt.RcAt.lists p1.isList p2.isList (by rw[e1,e2];exact hl) ik (items (by omega) l l2 r1 r2)
      rw[e1]at q;rw[<-hl,Nat.min_self,bN,Bool.and_true];exact SeqAt.EqAt.of_refs EY q
     ·have q:=SeqAt.RcAt.lists_lengths p1.isList p2.isList (by rw[e1,e2];simpa using hl) ik
      have e3:(ds.length==es.length)=false:=by simpa using hl
      rw[e3,Bool.and_false];exact SeqAt.EqAt.of_refs EY q
theorem sA (I:Inv X pins σ H s) (sub:dU C H) {A:cB}(hu:A.in1.units+30<cLine) {xs ys:List V}{ds es:cu}{dz fm:cv}(hn:jg ds<=30) (l1:IsL C xs ds) (l2:IsL C ys es) (r1:Vals xs dz) (r2:Vals ys fm):
  ∀j (h1:j<dz.toArray.size) (h2:j<fm.toArray.size),SeqAt.EqAt A.in1 s dz.toArray[j] fm.toArray[j] (dP (ds.getD j .eU) (es.getD j .eU)):=λj h1 h2=>by
 have yI:j<dz.length:=by simpa using h1
 have AZ:j<fm.length:=by simpa using h2
 have g1:xs[j]? =some (xs[j]'(by rw[r1.length];exact yI)):=ah _
 have g2:ys[j]? =some (ys[j]'(by rw[r2.length];exact AZ)):=ah _
 obtain⟨u1,q1,k1⟩:=r1.get g1;obtain⟨u2,q2,k2⟩:=r2.get g2;obtain⟨d1,e1,i1⟩:=l1.get' g1;obtain⟨d2,e2,i2⟩:=l2.get' g2;have w1:dz.toArray[j]=u1:=by
  rw[ah yI]at q1
  simpa using aS q1
 have w2:fm.toArray[j]=u2:=by
  rw[ah AZ]at q2
  simpa using aS q2
 rw[w1,w2,ak,ak,e1,e2];exact IY I sub 30 A.in1 d1 d2 _ _ u1 u2 (aB (jJ (bh e1)) hn) hu i1 i2 k1 k2
theorem Pk (I:Inv X pins σ H s) (sub:dU C H) {A:cB}{d e:D}{v w:V}{u z:cw}(hd:dW d<=30) (hu:A.units+40<cLine) (iv:Is C v d) (iw:Is C w e) (ru:RelV v u) (rz:RelV w z):SeqAt.RcAt A s u z (dP d e):=by
 have ik:A.units<cLine:=by omega
 have Pj:A.in1.units+30<cLine:=by show A.units+1+30<cLine;omega
 cases iv with
 |eU=>
  cases ru;cases iw with
  |eU=>cases rz;unfold dP;exact SeqAt.RcAt.none_none
  |bl b=>cases rz;unfold dP;exact SeqAt.RcAt.none_bool b
  |int b=>obtain⟨t,rfl⟩:=rz;unfold dP;exact SeqAt.RcAt.none_int b t
  |str b=>obtain⟨t,rfl⟩:=rz;unfold dP;exact SeqAt.RcAt.none_str b t
  |@tup b ys es h2 l2=>cases rz;obtain⟨fm,r2,p2,z2⟩:=I.tuple (jk.of (K:=X.K) (sub _ _ h2));unfold dP;exact SeqAt.RcAt.none_tuple p2 ik
  |@lst b ys es h2 l2=>cases rz;obtain⟨fm,r2,p2,z2⟩:=I.list (.inl (h2.same sub));unfold dP;exact SeqAt.RcAt.none_list p2.isList ik
 |bl a=>
  cases ru;cases iw with
  |eU=>cases rz;unfold dP;exact SeqAt.RcAt.bool_none a
  |bl b=>cases rz;unfold dP;exact SeqAt.RcAt.bool_bool a b
  |int b=>obtain⟨t,rfl⟩:=rz;unfold dP;exact SeqAt.RcAt.bool_int a b t
  |str b=>obtain⟨t,rfl⟩:=rz;unfold dP;exact SeqAt.RcAt.bool_str a b t
  |@tup b ys es h2 l2=>cases rz;obtain⟨fm,r2,p2,z2⟩:=I.tuple (jk.of (K:=X.K) (sub _ _ h2));unfold dP;exact SeqAt.RcAt.bool_tuple a p2 ik
  |@lst b ys es h2 l2=>cases rz;obtain⟨fm,r2,p2,z2⟩:=I.list (.inl (h2.same sub));unfold dP;exact SeqAt.RcAt.bool_list a p2.isList ik
 |int a=>
  obtain⟨t',rfl⟩:=ru;cases iw with
  |eU=>cases rz;unfold dP;exact SeqAt.RcAt.int_none a t'
  |bl b=>cases rz;unfold dP;exact SeqAt.RcAt.int_bool a t' b
  |int b=>obtain⟨t,rfl⟩:=rz;unfold dP;exact SeqAt.RcAt.int_int a t' b t
  |str b=>obtain⟨t,rfl⟩:=rz;unfold dP;exact SeqAt.RcAt.int_str a t' b t
  |@tup b ys es h2 l2=>cases rz;obtain⟨fm,r2,p2,z2⟩:=I.tuple (jk.of (K:=X.K) (sub _ _ h2));unfold dP;exact SeqAt.RcAt.int_tuple a t' p2 ik
  |@lst b ys es h2 l2=>cases rz;obtain⟨fm,r2,p2,z2⟩:=I.list (.inl (h2.same sub));unfold dP;exact SeqAt.RcAt.int_list a t' p2.isList ik
 |str a=>
  obtain⟨t',rfl⟩:=ru;cases iw with
  |eU=>cases rz;unfold dP;exact SeqAt.RcAt.str_none a t'
  |bl b=>cases rz;unfold dP;exact SeqAt.RcAt.str_bool a t' b
  |int b=>obtain⟨t,rfl⟩:=rz;unfold dP;exact SeqAt.RcAt.str_int a t' b t
  |str b=>obtain⟨t,rfl⟩:=rz;unfold dP;exact SeqAt.RcAt.str_str a t' b t
  |@tup b ys es h2 l2=>cases rz;obtain⟨fm,r2,p2,z2⟩:=I.tuple (jk.of (K:=X.K) (sub _ _ h2));unfold dP;exact SeqAt.RcAt.str_tuple a t' p2 ik
  |@lst b ys es h2 l2=>cases rz;obtain⟨fm,r2,p2,z2⟩:=I.list (.inl (h2.same sub));unfold dP;exact SeqAt.RcAt.str_list a t' p2.isList ik
 |@tup a xs ds h l=>
  cases ru;obtain⟨dz,r1,p1,z1⟩:=I.tuple (jk.of (K:=X.K) (sub _ _ h));unfold dW at hd;cases iw with
  |eU=>cases rz;unfold dP;exact SeqAt.RcAt.tuple_none p1 ik
  |bl b=>cases rz;unfold dP;exact SeqAt.RcAt.tuple_bool b p1 ik
  |int b=>obtain⟨t,rfl⟩:=rz;unfold dP;exact SeqAt.RcAt.tuple_int b t p1 ik
  |str b=>obtain⟨t,rfl⟩:=rz;unfold dP;exact SeqAt.RcAt.tuple_str b t p1 ik
  |@tup b ys es h2 l2=>
   cases rz;obtain⟨fm,r2,p2,z2⟩:=I.tuple (jk.of (K:=X.K) (sub _ _ h2));have q:=SeqAt.RcAt.tuples p1 p2 ik (sA I sub Pj (by omega) l l2 r1 r2)
   unfold dP;rw[kR];have e1:dz.toArray.size=ds.length:=by rw[aq,<-r1.length,l.length]
   have e2:fm.toArray.size=es.length:=by rw[aq,<-r2.length,l2.length]
   rw[e1,e2]at q;exact q
  |@lst b ys es h2 l2=>cases rz;obtain⟨fm,r2,p2,z2⟩:=I.list (.inl (h2.same sub));unfold dP;exact SeqAt.RcAt.tuple_list p1 p2.isList ik
 |@lst a xs ds h l=>
  cases ru;obtain⟨dz,r1,p1,z1⟩:=I.list (.inl (h.same sub));unfold dW at hd;cases iw with
  |eU=>cases rz;unfold dP;exact SeqAt.RcAt.list_none p1.isList ik
  |bl b=>cases rz;unfold dP;exact SeqAt.RcAt.list_bool b p1.isList ik
  |int b=>obtain⟨t,rfl⟩:=rz;unfold dP;exact SeqAt.RcAt.list_int b t p1.isList ik
  |str b=>obtain⟨t,rfl⟩:=rz;unfold dP;exact SeqAt.RcAt.list_str b t p1.isList ik
  |@tup b ys es h2 l2=>cases rz;obtain⟨fm,r2,p2,z2⟩:=I.tuple (jk.of (K:=X.K) (sub _ _ h2));unfold dP;exact SeqAt.RcAt.list_tuple p1.isList p2 ik
  |@lst b ys es h2 l2=>
   cases rz;obtain⟨fm,r2,p2,z2⟩:=I.list (.inl (h2.same sub));have e1:dz.toArray.size=ds.length:=by rw[aq,<-r1.length,l.length]
   have e2:fm.toArray.size=es.length:=by rw[aq,<-r2.length,l2.length]
   unfold dP;rw[kR];by_cases hl:ds.length=es.length
   ·have q:=SeqAt.RcAt.lists p1.isList p2.isList (by rw[e1,e2];exact hl) ik (sA I sub Pj (by omega) l l2 r1 r2)
    rw[e1]at q;rw[<-hl,Nat.min_self,bN,Bool.and_true];exact q
   ·have q:=SeqAt.RcAt.lists_lengths p1.isList p2.isList (by rw[e1,e2];simpa using hl) ik
    have e3:(ds.length==es.length)=false:=by simpa using hl
    rw[e3,Bool.and_false];exact q
theorem Pl (I:Inv X pins σ H s) (sub:dU C H) {A:cB}{d e:D}{v w:V}{u z:cw}(hd:dW d<=30) (hu:A.units+40<cLine) (iv:Is C v d) (iw:Is C w e) (ru:RelV v u) (rz:RelV w z):SeqAt.RcNeAt A s u z (!(dP d e)):=by
 have ik:A.units<cLine:=by omega
 have Pj:A.in1.units+30<cLine:=by show A.units+1+30<cLine;omega
 cases iv with
 |eU=>
  cases ru;cases iw with
  |eU=>cases rz;unfold dP;exact SeqAt.RcNeAt.none_none
  |bl b=>cases rz;unfold dP;exact SeqAt.RcNeAt.none_bool b
  |int b=>obtain⟨t,rfl⟩:=rz;unfold dP;exact SeqAt.RcNeAt.none_int b t
  |str b=>obtain⟨t,rfl⟩:=rz;unfold dP;exact SeqAt.RcNeAt.none_str b t
  |@tup b ys es h2 l2=>cases rz;obtain⟨fm,r2,p2,z2⟩:=I.tuple (jk.of (K:=X.K) (sub _ _ h2));unfold dP;exact SeqAt.RcNeAt.none_tuple p2 ik
  |@lst b ys es h2 l2=>cases rz;obtain⟨fm,r2,p2,z2⟩:=I.list (.inl (h2.same sub));unfold dP;exact SeqAt.RcNeAt.none_list p2.isList ik
 |bl a=>
  cases ru;cases iw with
  |eU=>cases rz;unfold dP;exact SeqAt.RcNeAt.bool_none a
  |bl b=>cases rz;unfold dP;exact SeqAt.RcNeAt.bool_bool a b
  |int b=>obtain⟨t,rfl⟩:=rz;unfold dP;exact SeqAt.RcNeAt.bool_int a b t
  |str b=>obtain⟨t,rfl⟩:=rz;unfold dP;exact SeqAt.RcNeAt.bool_str a b t
  |@tup b ys es h2 l2=>cases rz;obtain⟨fm,r2,p2,z2⟩:=I.tuple (jk.of (K:=X.K) (sub _ _ h2));unfold dP;exact SeqAt.RcNeAt.bool_tuple a p2 ik
  |@lst b ys es h2 l2=>cases rz;obtain⟨fm,r2,p2,z2⟩:=I.list (.inl (h2.same sub));unfold dP;exact SeqAt.RcNeAt.bool_list a p2.isList ik
 |int a=>
  obtain⟨t',rfl⟩:=ru;cases iw with
  |eU=>cases rz;unfold dP;exact SeqAt.RcNeAt.int_none a t'
  |bl b=>cases rz;unfold dP;exact SeqAt.RcNeAt.int_bool a t' b
  |int b=>obtain⟨t,rfl⟩:=rz;unfold dP;exact SeqAt.RcNeAt.int_int a t' b t
  |str b=>obtain⟨t,rfl⟩:=rz;unfold dP;exact SeqAt.RcNeAt.int_str a t' b t
  |@tup b ys es h2 l2=>cases rz;obtain⟨fm,r2,p2,z2⟩:=I.tuple (jk.of (K:=X.K) (sub _ _ h2));unfold dP;exact SeqAt.RcNeAt.int_tuple a t' p2 ik
  |@lst b ys es h2 l2=>cases rz;obtain⟨fm,r2,p2,z2⟩:=I.list (.inl (h2.same sub));unfold dP;exact SeqAt.RcNeAt.int_list a t' p2.isList ik
 |str a=>
  obtain⟨t',rfl⟩:=ru;cases iw with
  |eU=>cases rz;unfold dP;exact SeqAt.RcNeAt.str_none a t'
  |bl b=>cases rz;unfold dP;exact SeqAt.RcNeAt.str_bool a t' b
  |int b=>obtain⟨t,rfl⟩:=rz;unfold dP;exact SeqAt.RcNeAt.str_int a t' b t
  |str b=>obtain⟨t,rfl⟩:=rz;unfold dP;exact SeqAt.RcNeAt.str_str a t' b t
  |@tup b ys es h2 l2=>cases rz;obtain⟨fm,r2,p2,z2⟩:=I.tuple (jk.of (K:=X.K) (sub _ _ h2));unfold dP;exact SeqAt.RcNeAt.str_tuple a t' p2 ik
  |@lst b ys es h2 l2=>cases rz;obtain⟨fm,r2,p2,z2⟩:=I.list (.inl (h2.same sub));unfold dP;exact SeqAt.RcNeAt.str_list a t' p2.isList ik
 |@tup a xs ds h l=>
  cases ru;obtain⟨dz,r1,p1,z1⟩:=I.tuple (jk.of (K:=X.K) (sub _ _ h));unfold dW at hd;cases iw with
  |eU=>cases rz;unfold dP;exact SeqAt.RcNeAt.tuple_none p1 ik
  |bl b=>cases rz;unfold dP;exact SeqAt.RcNeAt.tuple_bool b p1 ik
  |int b=>obtain⟨t,rfl⟩:=rz;unfold dP;exact SeqAt.RcNeAt.tuple_int b t p1 ik
  |str b=>obtain⟨t,rfl⟩:=rz;unfold dP;exact SeqAt.RcNeAt.tuple_str b t p1 ik
  |@tup b ys es h2 l2=>
   cases rz;obtain⟨fm,r2,p2,z2⟩:=I.tuple (jk.of (K:=X.K) (sub _ _ h2));have q:=SeqAt.RcNeAt.tuples p1 p2 ik (sA I sub Pj (by omega) l l2 r1 r2)
   unfold dP;rw[kR];have e1:dz.toArray.size=ds.length:=by rw[aq,<-r1.length,l.length]
   have e2:fm.toArray.size=es.length:=by rw[aq,<-r2.length,l2.length]
   rw[e1,e2]at q;exact q
  |@lst b ys es h2 l2=>cases rz;obtain⟨fm,r2,p2,z2⟩:=I.list (.inl (h2.same sub));unfold dP;exact SeqAt.RcNeAt.tuple_list p1 p2.isList ik
 |@lst a xs ds h l=>
  cases ru;obtain⟨dz,r1,p1,z1⟩:=I.list (.inl (h.same sub));unfold dW at hd;cases iw with
  |eU=>cases rz;unfold dP;exact SeqAt.RcNeAt.list_none p1.isList ik
  |bl b=>cases rz;unfold dP;exact SeqAt.RcNeAt.list_bool b p1.isList ik
  |int b=>obtain⟨t,rfl⟩:=rz;unfold dP;exact SeqAt.RcNeAt.list_int b t p1.isList ik
  |str b=>obtain⟨t,rfl⟩:=rz;unfold dP;exact SeqAt.RcNeAt.list_str b t p1.isList ik
  |@tup b ys es h2 l2=>cases rz;obtain⟨fm,r2,p2,z2⟩:=I.tuple (jk.of (K:=X.K) (sub _ _ h2));unfold dP;exact SeqAt.RcNeAt.list_tuple p1.isList p2 ik
  |@lst b ys es h2 l2=>
   cases rz;obtain⟨fm,r2,p2,z2⟩:=I.list (.inl (h2.same sub));have e1:dz.toArray.size=ds.length:=by rw[aq,<-r1.length,l.length]
   have e2:fm.toArray.size=es.length:=by rw[aq,<-r2.length,l2.length]
   unfold dP;rw[kR];by_cases hl:ds.length=es.length
   ·have q:=SeqAt.RcNeAt.lists p1.isList p2.isList (by rw[e1,e2];exact hl) ik (sA I sub Pj (by omega) l l2 r1 r2)
    rw[e1]at q;rw[<-hl,Nat.min_self,bN,Bool.and_true];exact q
   ·have q:=SeqAt.RcNeAt.lists_lengths p1.isList p2.isList (by rw[e1,e2];simpa using hl) ik
    have e3:(ds.length==es.length)=false:=by simpa using hl
    rw[e3,Bool.and_false];exact q
end
end DL
namespace DL
open PySem PySem.Spec PyProof.Rows L2
variable [Mem]
theorem sf.list {K:W.Frag}{C H:Hp}{v:V}{ds:cu}(s:dU C H) (h:sf C H v (.lst ds)):∃a xs,v=.ref a/\pf K H a xs/\IsL C xs ds:=by
 rcases h with h|⟨a,xs,es,h1,h2,h3,h4,h5⟩
 ·cases h with
  |lst h l=>exact⟨_,_,rfl,.inl (h.same s),l⟩
 ·cases h2;exact⟨a,xs,h1,pf.of h4,h5⟩
theorem sf.tup {K:W.Frag}{C H:Hp}{v:V}{ds:cu}(s:dU C H) (h:sf C H v (.tup ds)):∃a xs,v=.ref a/\jk K H a xs/\IsL C xs ds/\C a=some (.tup xs):=by
 rcases h with h|⟨a,xs,es,h1,h2,_⟩
 ·cases h with
  |tup h l=>exact⟨_,_,rfl,jk.of (s _ _ h),l,h⟩
 ·cases h2
theorem IsL.j9 {C:Hp}{xs:List V}{ds:cu}(l:IsL C xs ds) {i:Int}{d:D}(h:j9 ds i=some d):∃v,L2.j9 xs i=some v/\Is C v d:=by
 unfold L2.j9 at h ⊢;rw[l.length];cases hk:qX ds.length i with
 |none=>rw[hk]at h;cases h
 |some j=>
  rw[hk]at h;exact l.get h
noncomputable def jc:D->D->Option D
 |.lst ds,.int i=>j9 ds i
 |.tup ds,.int i=>j9 ds i
 |.str z,.int i=>if z.length<=1000000 then(j9 z.cps.toList i).map λc=>.str ⟨#[c]⟩else none
 |_,_=>none
section
variable {X:Cx}{a b c e o:cE}{pos:Pos}{f g h:cb}
theorem R9:Nr (WT X.K) jc:=λC H x y dx dy d Q s ix iy q k=>by
 unfold jc at q;split at q
 ·rename_i ds i;obtain⟨p,xs,rfl,hq,l⟩:=ix.list (K:=X.K) s;obtain⟨v,h1,h2⟩:=l.j9 q;exact .inl ⟨p,xs,i,v,rfl,iy.int,hq,h1,k v C H (.refl s) h2⟩
 ·rename_i ds i;obtain⟨p,xs,rfl,hq,l,_⟩:=ix.tup (K:=X.K) s;obtain⟨v,h1,h2⟩:=l.j9 q;exact .inr (.inl ⟨p,xs,i,v,rfl,iy.int,hq,h1,k v C H (.refl s) h2⟩)
 ·rename_i z i;split at q
  ·rename_i hz;cases hc:j9 z.cps.toList i with
   |none=>rw[hc]at q;cases q
   |some c=>
    rw[hc]at q;cases q;have:=ix.is (λ_ z=>by cases z)
    cases this;exact .inr (.inr ⟨z,i,c,rfl,iy.int,aB hz (by decide),hc,k _ C H (.refl s) (.str _)⟩)
  ·cases q
 ·cases q
theorem Pn (ha:PO X a f) (hb:PO X b g) (hs:qo b):PD X (.Subscript a b pos) (di jc f g):=RZ OH R9 ha hb hs
noncomputable def qZ (d e:D):Option D:=if dW d<=30 then some (.bl (dP d e))else none
theorem sf.both {C H:Hp}{v:V}{d:D}(h:sf C H v d):∃C',dU C C'/\(dU C H->dU C' H)/\Is C' v d:=by
 rcases h with h|⟨a,xs,ds,rfl,rfl,h3,h4,h5⟩
 ·exact⟨C,dU.refl _,id,h⟩
 ·refine⟨upd C a (.lst xs),eF h3,λs b u q=>?_,.lst (.inl da) (h5.mono (eF h3))⟩
  by_cases e:b=a
  ·subst e;rw[da]at q;cases q;exact h4
  ·rw[cR e]at q;exact s b u q
theorem sf.two {C H:Hp}{v w:V}{d e:D}(s:dU C H) (h:sf C H v d) (h':sf C H w e):∃C',dU C' H/\Is C' v d/\Is C' w e:=by
 obtain⟨C1,a1,b1,i1⟩:=h.both;have s1:=b1 s;rcases h' with h'|⟨a,xs,ds,rfl,rfl,h3,h4,h5⟩
 ·exact⟨C1,s1,i1,h'.mono a1⟩
 ·cases q:C1 a with
  |none=>
   refine⟨upd C1 a (.lst xs),λb u z=>?_,i1.mono (eF q),.lst (.inl da) ((h5.mono a1).mono (eF q))⟩
   by_cases e:b=a
   ·subst e;rw[da]at z;cases z;exact h4
   ·rw[cR e]at z;exact s1 b u z
  |some u=>
   have:=s1 a u q;rw[h4]at this;cases this;exact⟨C1,s1,i1,.lst (.inl q) (h5.mono a1)⟩
theorem ui (hu:X.A.units+64<cLine):vi X .Eq qZ:=by
 refine⟨λx y H Q=>∃C dx dy,dU C H/\Is C x dx/\Is C y dy/\dW dx<=30/\Q (.bl (dP dx dy)) H,?_,?_⟩
 ·rintro pins s σ H x y v u Q I rx ry ⟨C,dx,dy,sub,ix,iy,hd,q⟩
  have fin:EP X pins σ Q (.bool (dP dx dy)) s:=⟨.bl _,H,I,rfl,q⟩;exact Pk I sub hd (by omega) ix iy rx ry X.prog X.w _ _ fin
 ·intro C H x y dx dy d Q s ix iy q k;unfold qZ at q;split at q
  ·rename_i hd;cases q;obtain⟨C',s',i1,i2⟩:=sf.two s ix iy;exact⟨C',dx,dy,s',i1,i2,hd,k _ C H (.refl s) (.bl _)⟩
  ·cases q
noncomputable def Me (d e:D):Option D:=if dW d<=30 then some (.bl (!(dP d e)))else none
theorem Po (hu:X.A.units+64<cLine):vi X .NotEq Me:=by
 refine⟨λx y H Q=>∃C dx dy,dU C H/\Is C x dx/\Is C y dy/\dW dx<=30/\Q (.bl (!(dP dx dy))) H,?_,?_⟩
 ·rintro pins s σ H x y v u Q I rx ry ⟨C,dx,dy,sub,ix,iy,hd,q⟩
  have fin:EP X pins σ Q (.bool (!(dP dx dy))) s:=⟨.bl _,H,I,rfl,q⟩;exact Pl I sub hd (by omega) ix iy rx ry X.prog X.w _ _ fin
 ·intro C H x y dx dy d Q s ix iy q k;unfold Me at q;split at q
  ·rename_i hd;cases q;obtain⟨C',s',i1,i2⟩:=sf.two s ix iy;exact⟨C',dx,dy,s',i1,i2,hd,k _ C H (.refl s) (.bl _)⟩
  ·cases q
noncomputable def rg:D->Option (cu)
 |.lst ds=>some ds
 |.tup ds=>some ds
 |_=>none
noncomputable def memD (d:D) (ds:cu):Bool:=ds.any λe=>dP e d
noncomputable def yL (d e:D):Option D:=(rg e).bind λds=>if jg ds<=30 then some (.bl (memD d ds))else none
noncomputable def qR (d e:D):Option D:=(rg e).bind λds=>if jg ds<=30 then some (.bl (!(memD d ds)))else none
theorem sC {pins:ck}{σ:L2.St}{C H:Hp}{s:cx}(I:Inv X pins σ H s) (sub:dU C H) {A:cB}(hu:A.units+31<cLine) {d:D}{w:V}{z:cw}(iw:Is C w d) (rz:RelV w z):
  ∀{xs:List V}{ds:cu}{dz:cv},jg ds<=30->IsL C xs ds->Vals xs dz->∃e:cw->Bool,(∀y∈dz,SeqAt.EqAt A.in1 s y z (e y))/\dz.any e=memD d ds:=λ{xs ds dz} hn l r=>by
 classical
 have one:∀{v:V}{u:cw}{c:D},c∈ds->Is C v c->RelV v u->SeqAt.EqAt A.in1 s u z (dP c d):=λ{v u c} hc i ru=>
  IY I sub 30 A.in1 c d v w u z (aB (jJ hc) hn) (by show A.units+1+30<cLine;omega) i iw ru rz
 let e:cw->Bool:=λu=>if h:∃v c,c∈ds/\Is C v c/\RelV v u then dP h.choose_spec.choose d else false
 have he:∀{v u c},c∈ds->Is C v c->RelV v u->e u=dP c d:=λ{v u c} hc i ru=>by
  have hx:∃v c,c∈ds/\Is C v c/\RelV v u:=⟨v,c,hc,i,ru⟩;show(if h:∃v c,c∈ds/\Is C v c/\RelV v u then dP h.choose_spec.choose d else false)=_
  rw[dif_pos hx];obtain⟨h1,h2,h3⟩:=hx.choose_spec.choose_spec;have ev:hx.choose=v:=h3.inj ru;have ec:hx.choose_spec.choose=c:=by
   have AZ:Is C v hx.choose_spec.choose:=by rw[<-ev];exact h2
   exact AZ.inj i
  rw[ec]
 refine⟨e,λy hy=>?_,?_⟩
 ·obtain⟨j,hj,ej⟩:=List.getElem_of_mem hy;have g1:xs[j]? =some (xs[j]'(by rw[r.length];exact hj)):=ah _
  obtain⟨u1,q1,k1⟩:=r.get g1;obtain⟨c,e1,i1⟩:=l.get' g1;have hc:=bh e1;rw[ah hj]at q1;have eu:u1=y:=by rw[<-ej];exact(aS q1).symm
  subst eu;rw[he hc i1 k1];exact one hc i1 k1
 ·have aux:∀{xs:List V}{es:cu}{dz:cv},(∀c∈es,c∈ds)->IsL C xs es->Vals xs dz->dz.any e=es.any λc=>dP c d:=by
   intro xs es dz hs l;induction es generalizing xs dz with
   |nil=>cases l;intro r;cases r;rfl
   |cons c es ih=>
    intro r;cases l with
    |cons i l=>
     cases r with
     |cons rr r=>
      rw[bF,bF,he (hs c af) i rr,ih (λc hc=>hs c (ai _ hc)) l r]
  exact aux (λc hc=>hc) l r
theorem IZ (hu:X.A.units+64<cLine):vi X .In yL:=by
 refine⟨λx y H Q=>∃C dx ds,dU C H/\Is C x dx/\(Is C y (.lst ds)\/Is C y (.tup ds))/\jg ds<=30/\Q (.bl (memD dx ds)) H,?_,?_⟩
 ·rintro pins s σ H x y v u Q I rx ry ⟨C,dx,ds,sub,ix,iy,hd,q⟩
  rcases iy with iy|iy
  ·cases iy with
   |lst h l=>
    cases ry;obtain⟨dz,r,pl,hz⟩:=I.list (.inl (h.same sub));obtain⟨e,h1,h2⟩:=sC I sub (A:=X.A) (by omega) ix rx hd l r
    refine SeqAt.in_listAt e pl.isList (λw hw=>h1 w (by simpa using hw)) ⟨.bl _,H,I,rfl,?_⟩
    rw[show dz.toArray.any e=dz.any e by simp,h2]
    exact q
  ·cases iy with
   |tup h l=>
    cases ry;obtain⟨dz,r,pl,hz⟩:=I.tuple (jk.of (K:=X.K) (sub _ _ h));obtain⟨e,h1,h2⟩:=sC I sub (A:=X.A) (by omega) ix rx hd l r
    refine SeqAt.in_tupleAt e pl (λw hw=>h1 w (by simpa using hw)) ⟨.bl _,H,I,rfl,?_⟩
    rw[show dz.toArray.any e=dz.any e by simp,h2]
    exact q
 ·intro C H x y dx dy d Q s ix iy q k;unfold yL at q;cases hs:rg dy with
  |none=>rw[hs]at q;cases q
  |some ds=>
   rw[hs]at q;simp only[ao]at q;split at q
   ·rename_i hd;cases q;obtain⟨C',s',i1,i2⟩:=sf.two s ix iy;refine⟨C',dx,ds,s',i1,?_,hd,k _ C H (.refl s) (.bl _)⟩;unfold rg at hs;split at hs
    ·cases hs;exact .inl i2
    ·cases hs;exact .inr i2
    ·cases hs
   ·cases q
theorem qq (hu:X.A.units+64<cLine):vi X .NotIn qR:=by
 refine⟨λx y H Q=>∃C dx ds,dU C H/\Is C x dx/\(Is C y (.lst ds)\/Is C y (.tup ds))/\jg ds<=30/\Q (.bl (!(memD dx ds))) H,?_,?_⟩
 ·rintro pins s σ H x y v u Q I rx ry ⟨C,dx,ds,sub,ix,iy,hd,q⟩
  rcases iy with iy|iy
  ·cases iy with
   |lst h l=>
    cases ry;obtain⟨dz,r,pl,hz⟩:=I.list (.inl (h.same sub));obtain⟨e,h1,h2⟩:=sC I sub (A:=X.A) (by omega) ix rx hd l r
    refine SeqAt.notIn_listAt e pl.isList (λw hw=>h1 w (by simpa using hw)) ⟨.bl _,H,I,rfl,?_⟩
    rw[show dz.toArray.any e=dz.any e by simp,h2]
    exact q
  ·cases iy with
   |tup h l=>
    cases ry;obtain⟨dz,r,pl,hz⟩:=I.tuple (jk.of (K:=X.K) (sub _ _ h));obtain⟨e,h1,h2⟩:=sC I sub (A:=X.A) (by omega) ix rx hd l r
    refine SeqAt.notIn_tupleAt e pl (λw hw=>h1 w (by simpa using hw)) ⟨.bl _,H,I,rfl,?_⟩
    rw[show dz.toArray.any e=dz.any e by simp,h2]
    exact q
 ·intro C H x y dx dy d Q s ix iy q k;unfold qR at q;cases hs:rg dy with
  |none=>rw[hs]at q;cases q
  |some ds=>
   rw[hs]at q;simp only[ao]at q;split at q
   ·rename_i hd;cases q;obtain⟨C',s',i1,i2⟩:=sf.two s ix iy;refine⟨C',dx,ds,s',i1,?_,hd,k _ C H (.refl s) (.bl _)⟩;unfold rg at hs;split at hs
    ·cases hs;exact .inl i2
    ·cases hs;exact .inr i2
    ·cases hs
   ·cases q
noncomputable def intsOf:cu->Option (cn)
 |[]=>some []
 |.int i::r=>(intsOf r).map λns=>i::ns
 |_=>none
omit [Mem] in
theorem eX:∀{ds:cu}{ns:cn},intsOf ds=some ns->ds=ns.map D.int
 |[],_,h=>by cases h;rfl
 |.int i::r,ns,h=>by
  unfold intsOf at h;cases hr:intsOf r with
  |none=>rw[hr]at h;cases h
  |some ms=>rw[hr]at h;cases h;rw[eX hr];rfl
omit [Mem] in
theorem fP (ns:cn):intsOf (ns.map D.int)=some ns:=by
 induction ns with
 |nil=>rfl
 |cons n r ih=>show(intsOf (r.map D.int)).map _=_;rw[ih];rfl
noncomputable def Ja:D->D->Option D
 |.int i,.int j=>some (.bl (decide (i<j)))
 |.tup a,.tup b=>(intsOf a).bind λns=>(intsOf b).map λms=>.bl (HT.lexLt ns ms)
 |_,_=>none
theorem Jb (hu:X.A.units+64<cLine):vi X .Lt Ja:=by
 refine⟨_,Rn.or (OE (by omega)),?_⟩
 intro C H x y dx dy d Q s ix iy q k;unfold Ja at q;split at q
 ·rename_i i j;cases q;exact .inl ⟨i,j,ix.int,iy.int,k _ C H (.refl s) (.bl _)⟩
 ·rename_i a b;cases ha:intsOf a with
  |none=>rw[ha]at q;cases q
  |some ns=>
   cases hb:intsOf b with
   |none=>rw[ha,hb]at q;cases q
   |some ms=>
    rw[ha,hb]at q;cases q;obtain⟨p,xs,rfl,h1,l1,_⟩:=ix.tup (K:=X.K) s;obtain⟨p',ys,rfl,h2,l2,_⟩:=iy.tup (K:=X.K) s;rw[eX ha]at l1;rw[eX hb]at l2;cases l1.jm;cases l2.jm;exact .inr ⟨p,p',ns,ms,rfl,rfl,h1,h2,k _ C H (.refl s) (.bl _)⟩
 ·cases q
noncomputable def iH:cf
 |[.lst ds]=>some (.int ds.length)
 |[.tup ds]=>some (.int ds.length)
 |[.str z]=>if z.length<=1000000 then some (.int z.length)else none
 |_=>none
theorem xS.one {C H:Hp}{vs:List V}{d:D}(h:xS C H vs [d]):∃v,vs=[v]/\sf C H v d:=by
 cases h with|cons h t=>cases t;exact⟨_,rfl,h⟩
theorem xS.two {C H:Hp}{vs:List V}{d e:D}(h:xS C H vs [d,e]):∃v w,vs=[v,w]/\sf C H v d/\sf C H w e:=by
 cases h with|cons h t=>cases t with|cons h2 t=>cases t;exact⟨_,_,rfl,h,h2⟩
theorem rh:oX X (.builtin "len") iH:=by
 refine⟨_,zF.or zG,?_⟩;intro C H vs ds d Q s i q k;unfold iH at q;split at q
 ·cases q;obtain⟨v,rfl,j⟩:=i.one;obtain⟨p,xs,rfl,hq,l⟩:=j.list (K:=X.K) s;exact .inl ⟨p,xs,rfl,.inl hq,by rw[l.length];exact k _ C H (.refl s) (.int _)⟩
 ·cases q;obtain⟨v,rfl,j⟩:=i.one;obtain⟨p,xs,rfl,hq,l,_⟩:=j.tup (K:=X.K) s;exact .inl ⟨p,xs,rfl,.inr hq,by rw[l.length];exact k _ C H (.refl s) (.int _)⟩
 ·split at q
  ·rename_i hz;cases q;obtain⟨v,rfl,j⟩:=i.one;have:=j.is (λ_ z=>by cases z);cases this
   exact .inr ⟨_,rfl,aB hz (by decide),k _ C H (.refl s) (.int _)⟩
  ·cases q
 ·cases q
noncomputable def lj:cf
 |[.lst ds]=>some (.tup ds)
 |[.tup ds]=>some (.tup ds)
 |_=>none
theorem hX:oX X (.type "tuple") lj:=by
 refine⟨_,xP,?_⟩;intro C H vs ds d Q s i q k;unfold lj at q;split at q
 ·cases q;obtain⟨v,rfl,j⟩:=i.one;obtain⟨p,xs,rfl,hq,l⟩:=j.list (K:=X.K) s;exact⟨p,xs,rfl,.inl ⟨hq,λt ht=>k _ _ _ (.new s ht) (.tup da (l.mono (eF (s.free ht))))⟩⟩
 ·cases q;obtain⟨v,rfl,j⟩:=i.one;obtain⟨p,xs,rfl,hq,l,hc⟩:=j.tup (K:=X.K) s;exact⟨p,xs,rfl,.inr ⟨hq,k _ C H (.refl s) (.tup hc l)⟩⟩
 ·cases q
noncomputable def Bk:cf
 |[.int i,.int j]=>some (.int (if j<i then j else i))
 |_=>none
theorem Jc (hc:X.calm=true):oX X (.builtin "min") Bk:=by
 refine⟨_,Gj hc,?_⟩;intro C H vs ds d Q s i q k;unfold Bk at q;split at q
 ·rename_i i' j';cases q;obtain⟨v,w,rfl,i1,i2⟩:=i.two;exact⟨i',j',by rw[i1.int,i2.int],k _ C H (.refl s) (.int _)⟩
 ·cases q
end
end DL
namespace DL
open PySem PySem.Spec PyProof.Rows L2
variable [Mem]
omit [Mem] in
theorem gj:bootBuiltins "tuple"=some (.type "tuple"):=by decide +kernel
omit [Mem] in
theorem Mg:bootBuiltins "list"=some (.type "list"):=by decide +kernel
omit [Mem] in
theorem lW:bootBuiltins "len"=some (.builtin "len"):=by decide +kernel
omit [Mem] in
theorem DA:bootBuiltins "all"=some (.builtin "all"):=by decide +kernel
omit [Mem] in
theorem DB:bootBuiltins "min"=some (.builtin "min"):=by decide +kernel
omit [Mem] in
theorem Pp:bootBuiltins "max"=some (.builtin "max"):=by decide +kernel
omit [Mem] in
theorem iJ:bootBuiltins "sorted"=some (.builtin "sorted"):=by decide +kernel
section
variable {X:Cx}{a b c e o:cE}{pos p p2:Pos}{f g h:cb}
noncomputable def cutD (ds:cu) (lo hi:Option Int):cu:=(ds.drop (HT.ij ds.length 0 lo)).take (HT.ij ds.length ds.length hi-HT.ij ds.length 0 lo)
noncomputable def Pq:dO->Option (Option Int):=λ_=>some none
noncomputable def Bl (f:cb):dO->Option (Option Int):=λδ=>match f δ with|some (.int i)=>some (some i)|_=>none
noncomputable def tP (f:dO->Option (Option Int)):TO:=λσ H Q=>∃C δ o,Sx δ σ C H/\f δ=some o/\∀C' H',Ev C H C' H'->Q o H'
omit [Mem] in
theorem _root_.L2.PO.imp {X:Cx}{e:Option cE}{t t':TO}(h:L2.PO X e t) (m:∀σ H Q,t' σ H Q->t σ H Q):L2.PO X e t':=λpins s σ H Q I q=>h pins s σ H Q I (m σ H Q q)
theorem Sa:L2.PO X none (tP Pq):=LI.imp λσ H Q ⟨C,δ,o,x,q,k⟩=>by cases q;exact k C H (.refl x.sub)
theorem Pr (h:PO X e f):L2.PO X (some e) (tP (Bl f)):=(LJ h).imp λσ H Q ⟨C,δ,o,x,q,k⟩=>by
 unfold Bl at q;split at q
 ·rename_i i hf;cases q;exact⟨C,δ,_,x,hf,λv C' H' ev i'=>⟨i,i'.int,k C' H' ev⟩⟩
 ·cases q
noncomputable def Jd (f:cb) (lo hi:dO->Option (Option Int)):bY:=λδ=>match f δ with
 |some (.lst ds)=>(lo δ).bind λl=>(hi δ).map λu=>cutD ds l u
 |_=>none
theorem IsL.cut {C:Hp}{xs:List V}{ds:cu}(l:IsL C xs ds) (lo hi:Option Int):IsL C (Ba xs lo hi) (cutD ds lo hi):=by
 unfold Ba cutD;rw[l.length];exact(l.drop _).take _
theorem Pu {lo hi:Option cE}{fl fh:dO->Option (Option Int)}(he:PO X e f) (hl:L2.PO X lo (tP fl)) (hh:L2.PO X hi (tP fh)):PF X (.Subscript e (.Slice lo hi none p2) pos) (Jd f fl fh):=(A9 LO he hl hh).imp λσ H Q ⟨C,δ,ds,x,q,k⟩=>by
 unfold Jd at q;split at q
 ·rename_i es hf;cases h1:fl δ with
  |none=>rw[h1]at q;cases q
  |some l=>
   cases h2:fh δ with
   |none=>rw[h1,h2]at q;cases q
   |some u=>
    rw[h1,h2]at q;cases q;refine⟨C,δ,_,x,hf,λv C1 H1 e1 i1=>⟨C1,δ,l,x.ev e1,h1,λC2 H2 e2=>⟨C2,δ,u,x.ev (e1.trans e2),h2,λC3 H3 e3=>?_⟩⟩⟩
    obtain⟨p,xs,rfl,hq,ll⟩:=((i1.ev e2).ev e3).list (K:=X.K) e3.s;have ev:=(e1.trans e2).trans e3;exact⟨p,xs,rfl,hq,λt ht=>k t _ C3 _ (ev.trans (.hU e3.s ht)) (ev.free ht) (e3.s.free ht) da (ll.cut l u)⟩
 ·cases q
theorem Bm (hc:X.calm=true):i6 X (.builtin "all") (λxs H Q=>∃(p:cD) (bs:List Bool),xs=[.ref p]/\pf X.K H p (bs.map V.bl)/\Q (.bl (bs.all id)) H):=by
 intro pins s σ H xs us Q I r h;obtain⟨p,bs,rfl,hq,q⟩:=h;obtain⟨u,rfl,r1⟩:=vals1 r;cases r1;obtain⟨dz,rv,pl,hz⟩:=I.list hq;have fM:p<s.heap.objs.size:=by obtain⟨o,n,e,_⟩:=pl;exact az e
 have hlen:=rv.length;rw[ae]at hlen;have Sb:∀(i:Nat) (v:cw),dz.toArray[i]? =some v->v=.bool (bs.getD i false):=λi v hv=>by
  have Lx:dz[i]? =some v:=by simpa using hv
  have hi:i<dz.length:=(List.getElem?_eq_some_iff.mp Lx).1;have g1:(bs.map V.bl)[i]? =some (.bl (bs.getD i false)):=by
   rw[av,ah (by omega),ak,ah (by omega)];rfl
  obtain⟨w,h1,h2⟩:=rv.get g1;rw[Lx]at h1;cases h1;exact h2
 refine call_all_walk (wpAny_pyIter_list pl.isList ⟨s.heap.objs.size,_,_,_,_,_,λi=>bs.getD i false,rfl,Walks.list (A:=X.A.in1) (I.ok.hd hc) s.heap.objs.size p (aD fM) dz.toArray,⟨⟨_,ay _ rfl,rfl,rfl⟩,?_⟩,λi v s' Q' E' hv hQ=>?_,λh' tk kk=>?_⟩)
 ·obtain⟨o,n,e,h1,h2,h3⟩:=pl;exact⟨o,ag _ e,h1,n,h3⟩
 ·rw[Sb i v hv];exact bQ hQ
 ·have I1:L2.Inv X pins σ H {s with heap:=s.heap.push {cls:=.type "list_iterator",data:=.fields #[.ref p,.int 0 0]}}:=I.kept (t':=s.toks) λb o e=>ag _ e
  obtain⟨f0,f1,f2,f3,f4,f5⟩:=I.HY (H':=H) (au _) (I.gb.fresh (au _));have I2:=I1.turned (t':=tk) (h':=h') (it:=s.heap.objs.size) (λb o hb e=>kk b o (by simpa using hb) e) f0 f1 f3 f4 f5
  refine⟨.bl (bs.all id),H,I2,?_,q⟩;show Value.bool _=Value.bool _
  congr 1
  rw[aq,<-hlen];clear Sb hlen;rw[Bool.eq_iff_iff];simp only[List.all_eq_true,List.mem_range,id];constructor
  ·intro h b hb;obtain⟨i,hi,e⟩:=List.getElem_of_mem hb;have:=h i hi;rw[ak,ah hi]at this;rw[<-e];exact this
  ·intro h i hi;rw[ak,ah hi];exact h _ (List.getElem_mem hi)
noncomputable def nD:cu->Option (List Bool)
 |[]=>some []
 |.bl i::r=>(nD r).map λns=>i::ns
 |_=>none
omit [Mem] in
theorem wg:∀{ds:cu}{ns:List Bool},nD ds=some ns->ds=ns.map D.bl
 |[],_,h=>by cases h;rfl
 |.bl i::r,ns,h=>by
  unfold nD at h;cases hr:nD r with
  |none=>rw[hr]at h;cases h
  |some ms=>rw[hr]at h;cases h;rw[wg hr];rfl
omit [Mem] in
theorem GG (ns:List Bool):nD (ns.map D.bl)=some ns:=by
 induction ns with
 |nil=>rfl
 |cons n r ih=>show(nD (r.map D.bl)).map _=_;rw[ih];rfl
noncomputable def GH:cf
 |[.lst ds]=>(nD ds).map λbs=>.bl (bs.all id)
 |_=>none
theorem Je (hc:X.calm=true):oX X (.builtin "all") GH:=by
 refine⟨_,Bm hc,?_⟩;intro C H vs ds d Q s i q k;unfold GH at q;split at q
 ·rename_i es;cases hb:nD es with
  |none=>rw[hb]at q;cases q
  |some bs=>
   rw[hb]at q;cases q;obtain⟨v,rfl,j⟩:=i.one;obtain⟨p,xs,rfl,hq,l⟩:=j.list (K:=X.K) s;rw[wg hb]at l;cases l.Dr;exact⟨p,bs,rfl,hq,k _ C H (.refl s) (.bl _)⟩
 ·cases q
theorem GI {ta:TA}(hg:Gl X "range") (hm:X.mg "range"=none) (ha:PA X [a] ta) (hs:starEach [a] X.env=[(false,eval a X.env)]:=by exact eL rfl):
  PE X (.Call (.Name "range" p) [a] [] pos) (λσ H Q=>ta σ H λvs H1=>∃j:Int,vs=[.int j]/\∀t,H1 t=none->Q (.ref t) (upd H1 t (.Na 0 j))):=by
 intro pins s σ H Q I h;refine Call_ (oh I hg hm boot_range (PyProof.Rows.callWith_type1 (gR (ha pos pins s σ H _ I h) λus s1 ⟨vs,H1,I1,r1,q1⟩=>?_) hs rfl))
 obtain⟨j,e,q⟩:=q1;subst e;obtain⟨u,rfl,t,rfl⟩:=vals1 r1;refine call_range_1 ⟨.ref s1.heap.objs.size,_,I1.laid (o:=.Na 0 j) (λb o e=>ag _ e) (au _) ?_,rfl,q _ (I1.gb.fresh (au _))⟩
 exact⟨_,_,_,ay _ rfl⟩
theorem xT {n:Nat}:∀(dz:cv) (lo:Int),dz.length=n->(∀(j:Nat) (v:cw),dz[j]? =some v->∃t,v=Value.int (lo+(j:Int)) t)->Vals ((dJ lo n).map V.int) dz:=by
 induction n with
 |zero=>intro dz lo hl _;cases dz with|nil=>exact .nil|cons _ _=>simp at hl
 |succ n ih=>
  intro dz lo hl h;cases dz with
  |nil=>simp at hl
  |cons v r=>
   refine .cons ?_ (ih r (lo+1) (by simpa using hl) λj w hw=>?_)
   ·obtain⟨t,e⟩:=h 0 v rfl;exact⟨t,by rw[e];simp⟩
   ·obtain⟨t,e⟩:=h (j+1) w (by simpa using hw)
    exact⟨t,by rw[e];congr 1;omega⟩
theorem xU (hc:X.calm=true):i6 X (.type "list") (λxs H Q=>∃(p:cD) (hi:Int),xs=[.ref p]/\H p=some (.Na 0 hi)/\hi<1000000/\-1000000<hi/\∀l,H l=none->Q (.ref l) (upd H l (.lst ((dJ 0 hi.toNat).map V.int)))):=by
 intro pins s σ H xs us Q I r h;obtain⟨p,hi,rfl,hp,h1,h2,q⟩:=h;obtain⟨u,rfl,rx⟩:=vals1 r;cases rx;obtain⟨t,u,v,e⟩:=I.gb p _ hp;refine call_list_range (n:=hi.toNat) (I.ok.hd hc) e (small_one (by omega) (by omega) (by omega) (by omega)) ?_ (by omega) λh' tk lE c' kp e' it=>?_
 ·rw[rangeSize_one];split<;>omega
 ·refine⟨.ref s.heap.objs.size,_,I.laid (t':=tk) kp (au _) (show il X.prog X.w _ h' _ (.lst ((dJ 0 hi.toNat).map V.int))from⟨?_,lE.toList,c',?_,by simpa using e'⟩),rfl,q _ (I.gb.fresh (au _))⟩
  ·rw[ae,dS];exact bg (vD (by omega))
  ·refine xT lE.toList 0 (by simpa using it.1) λj v hv=>?_
   obtain⟨t,e⟩:=it.2 j v (by simpa using hv)
   exact⟨t,by rw[e];congr 1;omega⟩
theorem zO {f:bY}{p' pos':Pos}(hc:X.calm=true) (hg:Gl X "list") (hm:X.mg "list"=none) (U7:Gl X "range") (Jf:X.mg "range"=none) (ha:HK X [a] f) (hs:starEach [a] X.env=[(false,eval a X.env)]:=by exact eL rfl)
  (he:starEach [.Call (.Name "range" p') [a] [] pos'] X.env=(false,eval (.Call (.Name "range" p') [a] [] pos') X.env)::starEach [] X.env:=by exact eL rfl) (kO:(backTo pos (starEach [] X.env)).any (·.1)=false:=by exact fu rfl):
  PF X (.Call (.Name "list" p) [.Call (.Name "range" p') [a] [] pos'] [] pos) (ug f):=
 (yD (xU hc) hg hm Mg (qm (GI U7 Jf ha hs) ua he) (by decide) (by decide) he kO).imp λσ H Q ⟨C,δ,ds,x,q,k⟩=>by
  unfold ug at q;split at q
  ·rename_i j hf;split at q
   ·rename_i hj;cases q;refine⟨C,δ,_,x,hf,λvs C' H' ev i=>?_⟩
    cases i with
    |cons i1 i2=>
     cases i2;cases i1;refine⟨j,rfl,λt ht=>⟨t,j,rfl,da,hj.1,hj.2,λl hl=>?_⟩⟩
     have e1:=Ev.hU (o:=HO.Na 0 j) ev.s ht;exact k l _ C' _ ((ev.trans e1).trans (.hU e1.s hl)) (ev.free (e1.free hl)) (ev.s.free (e1.free hl)) da (.ints _)
   ·cases q
  ·cases q
end
end DL
namespace So
open PySem PySem.W PyProof.Rows
noncomputable def m8 {α:Type}(n:Nat) (P:α->Prop):KasT α->Prop
 |.ret a=>P a
 |.ask i j k=>i<n/\j<n/\∀b,m8 n P (k b)
theorem m8.bind {α β:Type}{n:Nat}{P:α->Prop}{R:β->Prop}{f:α->KasT β}(hf:∀a,P a->m8 n R (f a)):∀{t:KasT α},m8 n P t->m8 n R (t.bind f)
 |.ret a,h=>hf a h
 |.ask i j k,h=>⟨h.1,h.2.1,λb=>m8.bind hf (h.2.2 b)⟩
def Al (p:Array Nat) (n:Nat):Prop:=0<n/\∀x∈p,x<n
theorem Al.at {p:Array Nat}{n:Nat}(h:Al p n) (i:Nat):p.getD i 0<n:=by
 rw[aT];cases e:p[i]? with
 |none=>exact h.1
 |some x=>exact h.2 x (Array.mem_of_getElem? e)
theorem Al.perm {p q:Array Nat}{n:Nat}(h:Al p n) (e:q.Perm p):Al q n:=⟨h.1,λx hx=>h.2 x (e.mem_iff.mp hx)⟩
theorem zP {p:Array Nat}{n:Nat}(h:Al p n):∀(f m:Nat),m8 n (λ_=>True) (kas_asc p f m)
 |0,_=>trivial
 |f+1,m=>⟨h.at _,h.at _,λb=>by
  cases b with
  |true=>exact trivial
  |false=>exact zP h f (m+1)⟩
theorem sD {n:Nat}:∀(f:Nat) (p:Array Nat) (m q:Nat),Al p n->m8 n (λr=>Al r.1 n) (kas_desc f p m q)
 |0,_,_,_,h=>h
 |f+1,p,m,q,h=>⟨h.at _,h.at _,λb=>by
  cases b with
  |true=>
   show m8 n _ (if q>0 then _ else _)
   split
   ·exact sD f _ _ _ (h.perm (je _ _ _))
   ·exact sD f _ _ _ h
  |false=>exact⟨h.at _,h.at _,λb=>by
    cases b with
    |true=>exact h
    |false=>exact sD f _ _ _ h⟩⟩
theorem yM {n m k:Nat}{p:Array Nat}(h:Al p n):m8 n (λr=>Al r.2 n) (kas_tail3 m k p):=
 m8.bind (n:=n) (R:=λr:Nat×Array Nat=>Al r.2 n) (P:=λ_=>True) (f:=λm'=>KasT.ret (m',kas_rev p 0 m)) (λ_ _=>(h.perm (je _ _ _):Al (kas_rev p 0 m) n)) (zP (h.perm (je _ _ _)) _ _)
theorem sE {n m k:Nat}{p:Array Nat}(h:Al p n):m8 n (λr=>Al r.2 n) (kas_descPart m k p):=
 m8.bind (λr hr=>by
  split
  ·exact yM (hr.perm (je _ _ _))
  ·exact yM hr) (sD _ _ _ _ h)
theorem GJ {n k:Nat}{p:Array Nat}(h:Al p n):m8 n (λr=>Al r.2 n) (kas_count k p):=
 m8.bind (λm _=>by
  split
  ·exact h
  ·split
   ·exact⟨h.at _,h.at _,λb=>by
     cases b with
     |true=>exact h
     |false=>exact sE (h.perm (je _ _ _))⟩
   ·exact sE h) (zP h _ _)
theorem uj {n k:Nat}{p:Array Nat}(h:Al p n):∀(f l r:Nat),m8 n (λ_=>True) (kas_place p k f l r)
 |0,_,_=>trivial
 |f+1,l,r=>by
  unfold kas_place;split
  ·exact trivial
  ·exact⟨h.at _,h.at _,λb=>by
    cases b with
    |true=>exact uj h f _ _
    |false=>exact uj h f _ _⟩
theorem EZ {n:Nat}:∀(f:Nat) (p:Array Nat) (k:Nat),Al p n->m8 n (λr=>Al r n) (kas_bin f p k)
 |0,_,_,h=>h
 |f+1,p,k,h=>m8.bind (λl _=>EZ f _ _ (h.perm (bubble_perm _ _ _))) (uj h _ _ _)
theorem wj {n:Nat}(hn:0<n):m8 n (λr=>Al r n) (kas_sort n):=
 m8.bind (λr hr=>by
  split
  ·exact EZ _ _ _ hr
  ·exact hr) (GJ ⟨hn,λx hx=>by simpa using hx⟩)
theorem qr {α:Type}{n:Nat}{P:α->Prop}{cmp:Nat->Nat->(Bool->cx->Prop)->cx->Prop}{lt:Nat->Nat->Bool}{s:cx}(hc:∀i j (Q:Bool->cx->Prop),i<n->j<n->Q (lt i j) s->cmp i j Q s) {Q:α->cx->Prop}:
  ∀(t:KasT α),m8 n P t->Q (iG lt t) s->t.kasWp cmp Q s
 |.ret _,_,h=>h
 |.ask i j k,a,h=>hc i j _ a.1 a.2.1 (qr hc (k (lt i j)) (a.2.2 _) h)
end So
namespace HT
theorem ot:∀a:cn,lexLt a a=false
 |[]=>rfl
 |x::a=>by rw[jq,if_pos rfl];exact ot a
theorem kT:∀{a b c:cn},lexLt a b=true->lexLt b c=true->lexLt a c=true
 |[],[],_,h,_=>by cases h
 |[],_::_,[],_,h=>by cases h
 |[],_::_,_::_,_,_=>rfl
 |_::_,[],_,h,_=>by cases h
 |_::_,_::_,[],_,h=>by cases h
 |x::a,y::b,z::c,h1,h2=>by
  rw[jq]at h1 h2 ⊢;split at h1
  ·rename_i e;subst e;split at h2
   ·rename_i e2;subst e2;rw[if_pos rfl];exact kT h1 h2
   ·rename_i e2;rw[if_neg e2];exact h2
  ·rename_i e;have q1:x<y:=bK h1;split at h2
   ·rename_i e2;subst e2;rw[if_neg e];exact h1
   ·have q2:y<z:=bK h2;rw[if_neg (by omega)];exact aR (by omega)
theorem gL:∀{a b:cn},lexLt a b=false->lexLt b a=false->a=b
 |[],[],_,_=>rfl
 |[],_::_,h,_=>by cases h
 |_::_,[],_,h=>by cases h
 |x::a,y::b,h1,h2=>by
  rw[jq]at h1 h2;by_cases e:x=y
  ·subst e;rw[if_pos rfl]at h1 h2;rw[gL h1 h2]
  ·rw[if_neg e]at h1;rw[if_neg (Ne.symm e)]at h2;have q1:=of_decide_eq_false h1;have q2:=of_decide_eq_false h2;omega
end HT
namespace L2
open PySem PySem.Spec PyProof.Rows
theorem qV.has {P:cz}{w:cA}{H:Hp}{h:Heap}(x:qV P w H h) {a:cD}{o:HO}(e:H a=some o):∃ob,h.get? a=some ob:=by
 have q:=x a o e;cases o with
 |lst xs=>obtain⟨_,_,_,_,e⟩:=q;exact⟨_,e⟩
 |tup xs=>obtain⟨_,_,_,ob,e,_⟩:=q;exact⟨ob,e⟩
 |dK kvs=>obtain⟨_,_,_,_,o,_,_,e,_⟩:=q;exact⟨_,e⟩
 |dT kvs=>obtain⟨_,_,_,_,o,_,_,e,_⟩:=q;exact⟨_,e⟩
 |set S n=>obtain⟨o,_,_,_,e,_⟩:=q;exact⟨_,e⟩
 |ins C dx fs=>obtain⟨_,_,_,e,_⟩:=q;exact⟨_,e⟩
 |own y=>obtain⟨_,e⟩:=q;exact⟨_,e⟩
 |xd fs=>obtain⟨_,⟨_,_,_,e,_⟩,_⟩:=q;exact⟨_,e⟩
 |Na lo hi=>obtain⟨_,_,_,e⟩:=q;exact⟨_,e⟩
 |CH ob u=>obtain⟨e,_⟩:=q;exact⟨_,e⟩
 |CO ps=>obtain⟨_,e,_⟩:=(show yx H h a ps from q);exact⟨_,e⟩
 |met f y=>exact⟨_,(show h.get? a=some _ from q)⟩
 |ext φ=>obtain⟨_,⟨_,e⟩,_⟩:=q;exact⟨_,e⟩
theorem wm:∀vs:cv,(vs.zip vs).map (·.2)=vs
 |[]=>rfl
 |v::r=>congrArg (v:: ·) (wm r)
theorem yN {α:Type}{p q:α->Bool}:∀{l:List α},(∀x∈l,p x=true->q x=true)->(∃x∈l,q x=true/\p x=false)->l.countP p<l.countP q
 |[],_,h=>by obtain⟨x,hx,_⟩:=h;cases hx
 |y::l,hs,h=>by
  have IC:∀x∈l,p x=true->q x=true:=λx hx=>hs x (ai _ hx)
  have le:l.countP p<=l.countP q:=List.countP_mono_left IC;rw[List.countP_cons,List.countP_cons];obtain⟨x,hx,h1,h2⟩:=h;rcases List.mem_cons.mp hx with rfl|hx
  ·rw[h1,h2];simp only[if_true,aH,bD];omega
  ·have ih:=yN IC ⟨x,hx,h1,h2⟩;cases hp:p y with
   |false=>simp only[aH,bD];omega
   |true=>rw[hs y af hp];simp only[if_true];omega
noncomputable def qt (nss:cm) (a:cn):Int:=((([]:cn)::nss).countP λx=>HT.lexLt x a:Nat)
theorem lq (nss:cm) (i:Nat):nss.getD i []∈([]:cn)::nss:=by
 rw[ak];cases e:nss[i]? with
 |none=>exact af
 |some x=>exact ai _ (bh e)
theorem kc {nss:cm}{a b:cn}(ha:a∈([]:cn)::nss) (hb:b∈([]:cn)::nss):HT.lexLt a b=decide (qt nss a<qt nss b):=by
 unfold qt;cases h:HT.lexLt a b with
 |true=>
  have:=yN (l:=([]:cn)::nss) (p:=λx=>HT.lexLt x a) (q:=λx=>HT.lexLt x b) (λx _ hx=>HT.kT hx h) ⟨a,ha,h,HT.ot a⟩
  exact(aR (by omega)).symm
 |false=>
  refine(aG ?_).symm;have:(([]:cn)::nss).countP (λx=>HT.lexLt x b)<=(([]:cn)::nss).countP (λx=>HT.lexLt x a):=List.countP_mono_left λx _ hx=>by
   cases h2:HT.lexLt b a with
   |true=>exact HT.kT hx h2
   |false=>rw[HT.gL h h2];exact hx
  omega
noncomputable def zQ (K:W.Frag) (H:Hp):List V->cm->Prop:=Paired λv ns=>∃a,v=.ref a/\jk K H a (ns.map V.int)
theorem pI {prog:cz}{w:cA}{A:cB}{s:cx}{Q:Bool->cx->Prop}{bb:Bool}:∀(us zs:cv) (ns ms:cn) (i:Nat) (fin:Bool),IntsAre us ns->IntsAre zs ms->
  (bb=true\/True)->fin=(if ns.length<ms.length then true else false)->Q (HT.lexLt ns ms) s->W.KatLex prog w A bb fin Q (us.zip zs) i s
 |[],zs,ns,ms,i,fin,h1,h2,_,e,q=>by
  cases h1;show Q fin s;rw[e];cases h2 with
  |nil=>exact q
  |cons n t h=>rw[HT.pB]at q;simpa using q
 |_::_,[],ns,ms,i,fin,h1,h2,_,e,q=>by
  cases h2;cases h1 with
  |cons n t h=>
   show Q fin s;rw[e];rw[HT.pC]at q
   simpa using q
 |u::us,z::zs,ns,ms,i,fin,h1,h2,hb,e,q=>by
  cases h1 with
  |cons n t h1=>
   cases h2 with
   |cons m t' h2=>
    refine W.kat_cons (wpAny_eqBool_int ?_);rw[HT.jq]at q;by_cases U8:n=m
    ·subst U8;rw[bN];rw[if_pos rfl]at q;refine W.kat_yes (pI us zs _ _ (i+1) fin h1 h2 hb ?_ q);rw[e];simp only[ax,Nat.add_lt_add_iff_right]
    ·have ja:(n==m)=false:=by simpa using U8
     rw[ja];rw[if_neg U8]at q;refine W.kat_no ?_;cases WX:(bb&&i==0)with
     |true=>exact oneLt_int q
     |false=>exact W.kat_one _ _ (lt_int q)
theorem DC {h:Heap}{a:cD}{m m':cj}(x:h.Ns a m) (y:h.Ns a m'):m=m':=by
 obtain⟨o,es,ep,e,d,_,f⟩:=x;obtain⟨o',HU,N4,e',d',_,f'⟩:=y;rw[e]at e';cases e';rw[d]at d';injection d' with d1 _
 subst d1
 funext n
 rw[<-f,<-f']
section
variable {X:Cx}
theorem uk:i6 X (.builtin "sorted") (λxs H Q=>∃(p:cD) (ns:cn),xs=[.ref p]/\pf X.K H p (ns.map V.int)/\ns.length<64/\∀(l:cD) (ms:cn),H l=none->ms.Perm ns->ms.Pairwise (·<= ·)->Q (.ref l) (upd H l (.lst (ms.map V.int)))):=by
 intro pins s σ H xs us Q I r h;obtain⟨p,ns,rfl,hq,DD,q⟩:=h;obtain⟨u,rfl,rx⟩:=vals1 r;cases rx;obtain⟨dz,rv,pl,hz⟩:=I.list hq;have hi:IntsAre dz ns:=intsAre_of rv;have hl:=hi.length;refine sorted_ints pl.isList hi (by omega) λout AY a1 a2 a3=>?_
 obtain⟨e,he⟩:=sortedAll_at s.heap dz out;refine⟨.ref (s.heap.objs.size+1),_,I.laid (t':=s.toks) (o:=.lst (AY.map V.int)) (λb o z=>sortedAll_old z) (Nat.le_succ _) ?_,rfl,q _ AY (I.gb.fresh (Nat.le_succ _)) a2 a3⟩
 refine⟨?_,out.toList,e,qp a1,by simpa using he⟩
 have:=a2.length_eq;rw[ae];exact bg (kb (by omega))
theorem zR {prog:cz}{w:cA}{A:cB}{E:cg}{s:cx}{l:cD}{vs:cv}{Q:cg}(hl:s.heap.IsList l vs.toArray) (h2:vs.length<2)
  (h:Q (.ref (s.heap.objs.size+1)) {s with heap:=sortedAll s.heap vs vs.toArray}):wpAny (model prog w) A (call (.builtin "sorted") [.ref l]) Q E s:=by
 refine Calls.call_function_entry kind_sorted plain_sorted entry_sorted (args_sorted1 _) ?_;unfold Builtin.«sorted»;refine aa (m:=checkCount "sorted" 1 1 _) (aj (aa (collect_list hl (aa (wpAny_newList ?_ (hsz:=by rw[bu];omega))) (by rw[bu];omega))))
 have z1:((s.heap.push (seqObj "list" #[] 0)).update s.heap.objs.size (Obj.mapSeq (·++vs.toArray))).objs.size=s.heap.objs.size+1:=by rw[Heap.size_update,size_push']
 generalize hG:(s.heap.push (seqObj "list" #[] 0)).update s.heap.objs.size (Obj.mapSeq (·++vs.toArray))=G at z1
 have h':Q (.ref (s.heap.objs.size+1)) {s with heap:=sortedHeap (G.push (seqObj "list" vs.toArray 0)) (s.heap.objs.size+1) vs vs.toArray}:=by rw[<-hG];exact h
 have o1:(G.push (seqObj "list" vs.toArray 0)).get? (s.heap.objs.size+1)=some (seqObj "list" vs.toArray 0):=by rw[<-z1];exact ay _ rfl
 show wpAny _ _ (do let _ <-holding [Value.ref G.objs.size] (call (.builtin "list.sort") [Value.ref G.objs.size]);ret (Value.ref G.objs.size)) _ _ {s with heap:=G.push (seqObj "list" vs.toArray 0)}
 rw[z1];generalize hT:G.push (seqObj "list" vs.toArray 0)=T at o1 h';generalize s.heap.objs.size+1=a at o1 h';have ha:a<T.objs.size:=az o1;refine aa (bo (bM slot_list_sort ⟨_,o1,rfl⟩ entry_list_sort ?_ (args_list_sort _)));rw[list_sort_plain];refine aa (listItems_at o1 rfl (aa (listUpdate_at o1 rfl ?_ (hsz:=by rw[aq,bu];omega))))
 obtain⟨e1,uR⟩:∃e1,(T.update a (Obj.mapSeq λ_=>#[])).get? a=some (seqObj "list" #[] e1):=⟨_,get?_update_seq o1 (λ_=>#[])⟩
 refine aa (seqEpoch_at uR rfl (aa (wpAny_newTuple (aa (wpAny_newList (bo ?_))) (by show vs.length<=_;rw[bu];omega))))
 have Pw:(((T.update a (Obj.mapSeq λ_=>#[])).push (seqObj "tuple" vs.toArray 0)).push (seqObj "list" #[] 0)).get? a=some (seqObj "list" #[] e1):=by
  rw[Heap.get?_push_ne _ _ _ (by rw[size_push',Heap.size_update];exact aD (Nat.lt_succ_of_lt ha)),Heap.get?_push_ne _ _ _ (by rw[Heap.size_update];exact aD ha)]
  exact uR
 show wpAny (model prog w) _ _ _ _ {s with heap:=((T.update a (Obj.mapSeq λ_=>#[])).push (seqObj "tuple" vs.toArray 0)).push (seqObj "list" #[] 0)}
 dsimp only;have hsz:vs.toArray.size<2:=by rw[aq];exact h2
 rw[if_pos hsz,if_pos hsz];refine aa (aj ?_);rw[StateT.run_pure];refine aa (aj ?_);dsimp only;have DE:(vs.toArray.zip vs.toArray).map (·.2)=vs.toArray:=by
  apply Array.toList_inj.mp
  rw[Array.toList_map,Array.toList_zip];exact wm vs
 rw[show(arrOf (SortSt.mk' general' (vs.toArray.zip vs.toArray) #[] 7 none))=vs.toArray.zip vs.toArray from rfl]at *
 refine aa (seqEpoch_at Pw rfl (aa (listUpdate_at Pw rfl ?_ (hsz2:=by rw[DE,aq,bu];omega))))
 rw[DE];simp only[bne_self_eq_false,aH,bD];exact aj ⟨_,rfl,aj ⟨_,rfl,h'⟩⟩
theorem vj:i6 X (.builtin "sorted") (λxs H Q=>∃(p:cD) (vs:List V),xs=[.ref p]/\pf X.K H p vs/\vs.length<2/\∀l,H l=none->Q (.ref l) (upd H l (.lst vs))):=by
 intro pins s σ H xs us Q I r h;obtain⟨p,vs,rfl,hq,h2,q⟩:=h;obtain⟨u,rfl,rx⟩:=vals1 r;cases rx;obtain⟨dz,rv,pl,hz⟩:=I.list hq;have hl:=rv.length;refine zR pl.isList (by omega) ?_
 obtain⟨e,he⟩:=sortedAll_at s.heap dz dz.toArray;exact⟨.ref (s.heap.objs.size+1),_,I.laid (t':=s.toks) (o:=.lst vs) (λb o z=>sortedAll_old z) (Nat.le_succ _) ⟨hz,dz,e,rv,he⟩,rfl,q _ (I.gb.fresh (Nat.le_succ _))⟩
theorem um (hu:X.A.units+64<cLine):i6 X (.builtin "sorted") (λxs H Q=>∃(p:cD) (vs:List V) (nss:cm),xs=[.ref p]/\pf X.K H p vs/\zQ X.K H vs nss/\2<=vs.length/\vs.length<64/\(∀ns∈nss,ns≠[])/\
  ∀(l:cD) (ix:List Nat),H l=none->ix.Perm (List.range vs.length)->(ix.map λi=>nss.getD i []).Pairwise (λa b=>HT.lexLt b a=false)->Q (.ref l) (upd H l (.lst (ix.map λi=>vs.getD i .eU)))):=by
 intro pins s σ H xs us Q I r h;obtain⟨p,vs,nss,rfl,hq,ht,h2,DD,ja,q⟩:=h;obtain⟨u,rfl,rx⟩:=vals1 r;cases rx;obtain⟨dz,rv,pl,hz⟩:=I.list hq;have hlen:=rv.length;have Xb:=Paired.length ht;obtain⟨m,F⟩:=I.fr;have N:News X.base X.env.locals s.heap (jH X.base s.heap X.env.locals):=vQ;have wo:∀i,i<vs.length->∃(a:cD) (o:Obj) (ts:cv) (n:Nat),dz.getD i Value.none=.ref a/\vs.getD i .eU=.ref a/\a≠X.env.locals/\s.heap.get? a=some o/\o.cls=.type "tuple"/\o.data=.seq ts.toArray n/\IntsAre ts (nss.getD i []):=λi hi=>by
  have g1:vs[i]? =some vs[i]:=ah hi;obtain⟨w,h1,h3⟩:=rv.get g1;have g2:∀{vs:List V}{nss:cm}{i:Nat}{v:V},zQ X.K H vs nss->vs[i]? =some v->∃ns a,nss[i]? =some ns/\v=.ref a/\jk X.K H a (ns.map V.int):=by
   intro vs nss i v t e;induction t generalizing i with
   |nil=>simp at e
   |cons x t ih=>
    cases i with
    |zero=>
     simp at e;subst e;obtain⟨a,e1,e2⟩:=x;exact⟨_,a,rfl,e1,e2⟩
    |succ i=>exact ih (by simpa using e)
  obtain⟨ns,a,e1,e2,e3⟩:=g2 ht g1;rw[e2]at h3;cases h3;obtain⟨ts,r2,⟨o,ho,hc,n,hd⟩,_⟩:=I.tuple e3;refine⟨a,o,ts,n,?_,?_,?_,ho,hc,hd,?_⟩
  ·rw[ak,h1];rfl
  ·rw[ak,g1,e2];rfl
  ·intro z;obtain⟨oL,es,ep,hL,Sd,_⟩:=F.ns;rw[z,hL]at ho;cases ho;rw[Sd]at hd;cases hd
  ·rw[ak,e1];exact intsAre_of r2
 refine W.kat_sorted F N pl.isList (by omega) (by omega) λD e1 h' F' N' fM=>?_
 have Dm:s.heap.get? D=none:=by
  cases e:s.heap.get? D with
  |none=>rfl
  |some o=>
   have n1:=(N' (D,_) (.head _)).2.1;have n2:=(N' (D,_) (.head _)).2.2;exact absurd (fM (D,o) (mQ n1 n2 e)) (Nat.lt_irrefl _)
 have uS:∀{h':Heap}{o1:Obj},Fr X.base X.env.locals h' m->News X.base X.env.locals h' ((D,o1)::jH X.base s.heap X.env.locals)->∀b o,b≠X.env.locals->s.heap.get? b=some o->h'.get? b=some o:=λ{h' o1} F' N' b o hb e=>by
  cases g:X.base.get? b with
  |some u=>
   have:=I.bk b u g;rw[e]at this;cases this;exact F'.keep b _ g
  |none=>exact(N' (b,o) (.tail _ (mQ hb g e))).1
 have rj:=uS F' N';have Se:∃fs:cv,fs.length=dz.length/\W.KatTups h' dz fs/\∀v∈fs,∃i t,v=Value.int i t:=by
  have aux:∀(l:cv),(∀v∈l,∃(a:cD) (o:Obj) (ts:cv) (n:Nat) (ns:cn),v=.ref a/\h'.get? a=some o/\o.cls=.type "tuple"/\o.data=.seq ts.toArray n/\IntsAre ts ns/\ns≠[])->∃fs:cv,fs.length=l.length/\W.KatTups h' l fs/\∀v∈fs,∃i t,v=Value.int i t:=by
   intro l;induction l with
   |nil=>intro _;exact⟨[],rfl,.nil,λv hv=>nomatch hv⟩
   |cons v l ih=>
    intro h;obtain⟨fs,l1,l2,l3⟩:=ih λw hw=>h w (ai _ hw)
    obtain⟨a,o,ts,n,ns,rfl,e2,e3,e4,e5,e6⟩:=h v af;cases e5 with
    |nil=>exact absurd rfl e6
    |cons i t e5=>
     refine⟨Value.int i t::fs,by simp[l1],.cons e2 e3 e4 (by simp) l2,λw hw=>?_⟩
     rcases List.mem_cons.mp hw with rfl|hw
     ·exact⟨i,t,rfl⟩
     ·exact l3 w hw
  refine aux dz λv hv=>?_
  obtain⟨i,hi,e⟩:=List.getElem_of_mem hv;obtain⟨a,o,ts,n,b1,b2,b3,b4,b5,b6,b7⟩:=wo i (by omega)
  have ev:v=.ref a:=by
   rw[ak,ah hi]at b1;rw[<-e];exact b1
  refine⟨a,o,ts,n,_,ev,rj a o b3 b4,b5,b6,b7,ja _ ?_⟩;rw[ak,ah (by omega)]
  exact List.getElem_mem _
 obtain⟨fs,f1,f2,f3⟩:=Se;refine W.kat_kind (T:=.type "int") f2 (by omega) (λv hv=>?_) (by decide) ?_
 ·obtain⟨i,t,rfl⟩:=f3 v hv;exact λA Q E s' k q=>aj q
 rw[<-hlen];have cmp:∀i j (R:Bool->cx->Prop),i<vs.length->j<vs.length->R (HT.lexLt (nss.getD i []) (nss.getD j [])) {s with heap:=h'}->W.kas_ask X.prog X.w X.A.in1.in1 (tuples' (Value.type "int"!=Value.type "tuple")) dz i j R {s with heap:=h'}:=λi j R hi hj hR=>by
  obtain⟨a,o,ts,n,b1,b2,b3,b4,b5,b6,b7⟩:=wo i hi;obtain⟨a',o',Sf,n',c1,c2,c3,c4,c5,c6,c7⟩:=wo j hj;show wpAny _ _ (keyLt' _ (dz.getD i Value.none) (dz.getD j Value.none)) _ _ _;rw[b1,c1];refine W.kat_lt (rj a o b3 b4) b6 (rj a' o' c3 c4) c6 ?_;have s1:ts.toArray.size=(nss.getD i []).length:=by rw[aq,b7.length]
  have s2:Sf.toArray.size=(nss.getD j []).length:=by rw[aq,c7.length]
  refine pI _ _ (nss.getD i []) (nss.getD j []) 0 _ (by simpa using b7) (by simpa using c7) (.inr trivial) ?_ hR
  rw[s1,s2];by_cases h:(nss.getD i []).length<(nss.getD j []).length
  ·rw[if_pos h];exact aR h
  ·rw[if_neg h];exact aG h
 refine So.qr (n:=vs.length) cmp _ (So.wj (by omega)) ?_
 obtain⟨s1,s2⟩:=So.wa (lt:=λi j=>HT.lexLt (nss.getD i []) (nss.getD j [])) (rank:=λi=>qt nss (nss.getD i [])) (λi j=>kc (lq _ _) (lq _ _)) vs.length (by omega)
 generalize So.iG _ (W.kas_sort vs.length)=ar at s1 s2;have pm:ar.toList.Perm (List.range vs.length):=by simpa using Array.perm_iff_toList_perm.mp s1
 have sz:ar.size=vs.length:=by simpa using s1.size_eq
 have below:∀i∈ar.toList,i<vs.length:=λi hi=>by simpa using pm.mem_iff.mp hi
 refine⟨_,_,F',N',.head λp hp=>aD (fM p hp),λh2 c F2 N2=>?_⟩
 have hD:H D=none:=by
  cases e:H D with
  |none=>rfl
  |some u=>obtain⟨o,z⟩:=I.gb.has e;rw[Dm]at z;cases z
 have vl:Vals (ar.toList.map λi=>vs.getD i .eU) (ar.toList.map λi=>dz.getD i Value.none):=by
  have aux:∀(l:List Nat),(∀i∈l,i<vs.length)->Vals (l.map λi=>vs.getD i .eU) (l.map λi=>dz.getD i Value.none):=by
   intro l;induction l with
   |nil=>intro _;exact .nil
   |cons i l ih=>
    intro h;refine .cons ?_ (ih λk hk=>h k (ai _ hk))
    have hi:=h i af;show RelV (vs.getD i .eU) (dz.getD i Value.none);obtain⟨w,e1,e2⟩:=rv.get (ah hi);rw[ak,ak,e1,ah hi];exact e2
  exact aux _ below
 have jv:=uS F2 N2;have Sg:h2.get? D=some {cls:=.type "list",data:=.seq (ar.toList.map λi=>dz.getD i Value.none).toArray c}:=(N2 _ (.head _)).1
 refine⟨.ref D,upd H D (.lst (ar.toList.map λi=>vs.getD i .eU)),?_,rfl,q D ar.toList hD pm ?_⟩
 ·show Inv X pins σ _ {s with heap:=h2,gens:=s.gens,drawn:=s.drawn,toks:=s.toks}
  refine I.step (g':=s.gens) (d':=s.drawn) (t':=s.toks) (ch:=[]) (λ_ z=>nomatch z) (λb o h1 _ _ e _=>jv b o h1 e) (λb o h1 _ _ e _=>⟨o.slots,jv b o h1 e⟩) (λb o _ e hn=>?_) (λb o _ e=>?_) (λb xs e=>?_) (λb o xs e=>?_) (λb ps e=>⟨#[],?_⟩) (λm' hm=>?_) (λb u e=>?_) I.bare
  ·rw[cR (λz=>by rw[z,Dm]at e;cases e)];exact hn
  ·by_cases hb:b=X.env.locals
   ·obtain⟨o',_,_,e',_⟩:=F2.ns;exact⟨o',by rw[hb];exact e'⟩
   ·exact⟨o,jv b o hb e⟩
  ·rw[cR (cV e hD)];exact e
  ·rw[cR (cV e hD)];exact e
  ·rw[cR (cV e hD),e];simp
  ·rw[DC hm F.ns];exact F2.ns
  ·by_cases hb:b=D
   ·subst hb;rw[da]at e;cases e;exact⟨by rw[ae,aN,sz];exact bg (kb (by omega)),_,c,vl,Sg⟩
   ·rw[cR hb]at e;refine(I.gb b u e).zv (λk v hk z=>jv k v ?_ z) (λk z=>by rw[cR (cV z hD)];exact z) λk xs z=>by rw[cR (cV z hD)];exact z
    rcases hk with rfl|hk
    ·intro z;rw[z,I.free]at e;cases e
    ·intro z;rw[z,I.free]at hk;cases hk
 ·rw[List.pairwise_map,List.pairwise_iff_getElem];intro i j hi hj vh;have xV:i<ar.size:=by simpa using hi
  have E1:j<ar.size:=by simpa using hj
  have le:=s2 i j (bg vh) (by omega)
  unfold So.kk at le;rw[aT,aT,aU xV,aU E1]at le;simp only[Option.getD_some]at le;have e:=kc (nss:=nss) (a:=nss.getD (ar[j]) []) (b:=nss.getD (ar[i]) []) (lq _ _) (lq _ _);simp only[Array.getElem_toList];rw[e];exact aG (by omega)
end
end L2
namespace DL
open PySem PySem.Spec PyProof.Rows L2
variable [Mem]
noncomputable def Jg (a b:Int):Bool:=decide (a<=b)
noncomputable def sortI (ns:cn):cn:=ns.mergeSort Jg
noncomputable def Sh (a b:cn):Bool:= !(HT.lexLt b a)
noncomputable def gM (nss:cm):cm:=nss.mergeSort Sh
omit [Mem] in
theorem sortI_perm (ns:cn):(sortI ns).Perm ns:=List.mergeSort_perm _ _
omit [Mem] in
theorem lX (ns:cn):(sortI ns).Pairwise (·<= ·):=
 (List.pairwise_mergeSort (le:=Jg) (λa b c h1 h2=>by simp only[Jg,decide_eq_true_eq]at *; omega) (λa b=>by simp only[Jg,Bool.or_eq_true,decide_eq_true_eq];omega) ns).imp λ{a b} h=>by simpa [Jg]using h
omit [Mem] in
theorem fq (nss:cm):(gM nss).Perm nss:=List.mergeSort_perm _ _
omit [Mem] in
theorem sF (nss:cm):(gM nss).Pairwise (λa b=>HT.lexLt b a=false):=
 (List.pairwise_mergeSort (le:=Sh) (λa b c h1 h2=>by
  simp only[Sh,Bool.not_eq_true']at *;cases h:HT.lexLt c a with
  |false=>rfl
  |true=>
   cases hb:HT.lexLt b c with
   |true=>rw[HT.kT hb h]at h1;cases h1
   |false=>rw[HT.gL hb h2]at h1;rw[h1]at h;cases h) (λa b=>by
  simp only[Sh,Bool.or_eq_true,Bool.not_eq_true'];cases h:HT.lexLt b a with
  |false=>exact .inl rfl
  |true=>
   right;cases h2:HT.lexLt a b with
   |false=>rfl
   |true=>have:=HT.kT h h2;rw[HT.ot]at this;cases this) nss).imp λ{a b} h=>by simpa [Sh]using h
omit [Mem] in
theorem gn {α:Type}{R:α->α->Prop}(Si:∀a b,R a b->R b a->a=b):∀{l m:List α},l.Perm m->l.Pairwise R->m.Pairwise R->l=m
 |[],m,h,_,_=>by have:=h.length_eq;cases m with|nil=>rfl|cons _ _=>cases this
 |a::l,m,h,p,q=>by
  cases m with
  |nil=>exact absurd h.length_eq (by simp)
  |cons b m=>
   have EY:a=b:=by
    by_cases e:a=b
    ·exact e
    ·have h1:a∈m:=(List.mem_cons.mp (h.mem_iff.mp af)).resolve_left e;have h2:b∈l:=(List.mem_cons.mp (h.mem_iff.mpr af)).resolve_left (Ne.symm e);exact Si a b ((List.pairwise_cons.mp p).1 b h2) ((List.pairwise_cons.mp q).1 a h1)
   subst EY;rw[gn Si ((List.perm_cons a).mp h) (List.pairwise_cons.mp p).2 (List.pairwise_cons.mp q).2]
noncomputable def tupI (ns:cn):D:=.tup (ns.map D.int)
noncomputable abbrev _root_.cG (i:Int):DL.Sl:=.dat (.int i)
noncomputable abbrev _root_.cH (l:List Int):DL.Sl:=.dat (tupI l)
noncomputable def lY:cu->Option (cm)
 |[]=>some []
 |.tup ds::r=>(intsOf ds).bind λns=>(lY r).map λnss=>ns::nss
 |_=>none
omit [Mem] in
theorem uq:∀{ds:cu}{nss:cm},lY ds=some nss->ds=nss.map tupI
 |[],_,h=>by cases h;rfl
 |.tup es::r,nss,h=>by
  unfold lY at h;cases h1:intsOf es with
  |none=>rw[h1]at h;cases h
  |some ns=>
   cases h2:lY r with
   |none=>rw[h1,h2]at h;cases h
   |some ms=>rw[h1,h2]at h;cases h;rw[uq h2,eX h1];rfl
omit [Mem] in
theorem wq (nss:cm):lY (nss.map tupI)=some nss:=by
 induction nss with
 |nil=>rfl
 |cons n r ih=>show(intsOf (n.map D.int)).bind _=_;rw[fP];show(lY (r.map tupI)).map _=_;rw[ih];rfl
noncomputable def jK:cu->Option (cu)
 |[.lst ds]=>if ds.length<64 then
   (match intsOf ds with
   |some ns=>some ((sortI ns).map D.int)
   |none=>(lY ds).bind λnss=>if nss.all (λns=> !ns.isEmpty)=true then some ((gM nss).map tupI)else none)
  else none
 |_=>none
theorem IsL.E2 {K:W.Frag}{C H:Hp}(s:dU C H):∀{nss:cm}{vs:List V},IsL C vs (nss.map tupI)->zQ K H vs nss
 |[],_,.nil=>.nil
 |ns::r,_,.cons h t=>by
  cases h with
  |tup h l=>
   cases l.jm;exact .cons ⟨_,rfl,jk.of (s _ _ h)⟩ (IsL.E2 s t)
theorem IsL.places {C:Hp}{vs:List V}{ds:cu}(l:IsL C vs ds):∀(ix:List Nat),(∀i∈ix,i<ds.length)->IsL C (ix.map λi=>vs.getD i .eU) (ix.map λi=>ds.getD i .eU)
 |[],_=>.nil
 |i::ix,h=>by
  refine .cons ?_ (IsL.places l ix λk hk=>h k (ai _ hk))
  have hi:=h i af;obtain⟨v,h1,h2⟩:=l.get (ah hi);show Is C (vs.getD i .eU) (ds.getD i .eU);rw[ak,ak,h1,ah hi];exact h2
omit [Mem] in
theorem lZ {α:Type}(l:List α) (d:α):(List.range l.length).map (λi=>l.getD i d)=l:=by
 apply List.ext_getElem
 ·simp
 ·intro i h1 h2;simp[ak,ah h2]
omit [Mem] in
theorem zS {α β:Type}(f:α->β) (l:List α) (a:α) (b:β) (ix:List Nat) (h:∀i∈ix,i<l.length):(ix.map λi=>(l.map f).getD i b)=(ix.map λi=>l.getD i a).map f:=by
 rw[aV];apply bS
 intro i hi;have:=h i hi;simp[ak,av,ah this]
section
variable {X:Cx}
theorem wt (hu:X.A.units+64<cLine):EW X (.builtin "sorted") jK:=by
 refine⟨_,uk.or (vj.or (um hu)),?_⟩;intro C H vs ds d Q s i q k;unfold jK at q;split at q
 ·rename_i es;split at q
  case isFalse=>cases q
  rename_i DD;obtain⟨v,rfl,j⟩:=i.one;obtain⟨p,xs,rfl,hq,l⟩:=j.list (K:=X.K) s;split at q
  ·rename_i ns hi;cases q;rw[eX hi]at l DD;cases l.jm;refine .inl ⟨p,ns,rfl,hq,by simpa using DD,λt ms ht pm pw=>?_⟩
   have e:ms=sortI ns:=gn (λa b h1 h2=>Int.le_antisymm h1 h2) (pm.trans (sortI_perm ns).symm) pw (lX ns)
   subst e;exact k t _ C _ (.hU s ht) ht (s.free ht) da (.ints _)
  ·cases hn:lY es with
   |none=>rw[hn]at q;cases q
   |some nss=>
    rw[hn]at q;simp only[ao]at q;split at q
    ·rename_i v3;cases q;have ee:=uq hn;subst ee;have lv:=l.length;rw[ae]at lv DD;by_cases h2:xs.length<2
     ·refine .inr (.inl ⟨p,xs,rfl,hq,h2,λt ht=>?_⟩)
      have e:gM nss=nss:=by
       have:nss.length<2:=by omega
       match nss,this with
       |[],_=>exact List.Perm.eq_nil (fq [])
       |[a],_=>exact List.perm_singleton.mp (fq [a])
      rw[e]at k;exact k t xs C _ (.hU s ht) ht (s.free ht) da l
     ·refine .inr (.inr ⟨p,xs,nss,rfl,hq,l.E2 s,by omega,by omega,λns LR=>?_,λt ix ht pm pw=>?_⟩)
      ·have:=List.all_eq_true.mp v3 ns LR;intro z;subst z;simp at this
      ·have lt:∀i∈ix,i<(nss.map tupI).length:=λi hi=>by
        have:=pm.mem_iff.mp hi;rw[List.mem_range]at this;rw[ae];omega
       have lt':∀i∈ix,i<nss.length:=λi hi=>by have:=lt i hi;rwa [ae]at this
       have e:(ix.map λi=>nss.getD i [])=gM nss:=by
        refine gn (λa b h1 h2=>HT.gL h2 h1) ?_ pw (sF nss)
        have e1:(ix.map λi=>nss.getD i []).Perm ((List.range nss.length).map λi=>nss.getD i []):=List.Perm.map _ (by rw[<-lv];exact pm)
        rw[lZ]at e1;exact e1.trans (fq nss).symm
       have ll:=l.places ix lt;rw[zS tupI nss [] .eU ix lt',e]at ll;exact k t _ C _ (.hU s ht) ht (s.free ht) da ll
    ·cases q
 ·cases q
end
section
variable {X:Cx}{e:cE}{pos:Pos}{C0 H0:Hp}{f:cb}
theorem Px {i:Nat}{o:cE}{apos:Pos}(ho:PE X o (jo i)) (he:PD X e f) (oZ:starEach [e] X.env=(false,eval e X.env)::starEach [] X.env:=by exact eL rfl) (pD:attributeBase o "append" X.env (eval o X.env)=eval o X.env:=by rfl)
  (vZ:((backTo pos (starEach [e] X.env)).all (λx=> !x.1)&&(backToKw pos (keywordEach [] X.env)).all (λx=>x.1.isSome)
   &&decide ([e].length+([]:List Keyword).length+(if([]:List Keyword).isEmpty then 0 else 1)<30))=true:=by exact IQ rfl)
  (pE:(apos.endLine==pos.line)=true:=by rfl) (lR:(backTo pos (starEach [] X.env)).any (·.1)=false:=by exact fu rfl) {pos':Pos}(hs:swapsWith (.Call (.Attribute o "append" apos) [e] [] pos) none pos'.line X.env=pure false:=by rfl):
  PB X C0 H0 (.Expr (.Call (.Attribute o "append" apos) [e] [] pos) pos') (Bi i f):=
 GD (sy he vC oZ) ho (λ_ _ _ h=>h) (Ir PySem.F.plainAttrs_list PySem.F.slot_list_append PySem.F.type_list_append yF ho (sy he vC oZ) pD vZ pE oZ lR) hs
theorem Gd.hU {B C H:Hp}{δ:dO}{σ:L2.St}(g:Gd B C0 H0 δ σ C H) {a:cD}(h0:H0 a=none) (hc:C a=none) (hn:∀(k:Nat) (es:cu),δ[k]? =some (.own es)->σ[k]? ≠some (some (.ref a))) (hx:∀u,H a=some u->CJ u=false) (o:HO):Gd B C0 H0 δ σ C (upd H a o):=
 ⟨g.b,g.ev.ET h0 hc o,⟨λb u q=>by rw[cR (cV q hc)];exact g.x.sub b u q,g.x.dat,λk ds q=>by
   obtain⟨b,xs,h1,h2,h3,h4⟩:=g.x.own k ds q;exact⟨b,xs,h1,h2,by rw[cR (λz=>hn k ds q (by rw[h1,z]))];exact h3,h4⟩,g.x.zK,g.x.len,λk ks q=>by
   obtain⟨b,h1,h2,h3,h4⟩:=g.x.mem k ks q;exact⟨b,h1,h2,Mem.RX h3 hx,λk hk=>Mem.IF h3 hx (h4 k hk)⟩⟩,g.fr⟩
theorem Gd.Mh {B C H:Hp}{δ:dO}{σ:L2.St}(g:Gd B C0 H0 δ σ C H) {i:Nat}{a:cD}{xs:List V}{ds:cu}(h0:H0 a=none) (hc:C a=none) (hH:H a=some (.lst xs)) (hl:IsL C xs ds) (hn:∀(k:Nat) (es:cu),δ[k]? =some (.own es)->σ[k]? ≠some (some (.ref a))):Gd B C0 H0 (δ.set i (.own ds)) (σ.set i (some (.ref a))) C H:=
 ⟨g.b,g.ev,g.x.zL hc hH hl hn,λk es b q1 q2=>by
  rcases getElem?_set_cases q1 with⟨rfl,e1⟩|⟨hk,e1⟩
  ·rcases getElem?_set_cases q2 with⟨_,e2⟩|⟨z,_⟩
   ·cases e2;exact h0
   ·exact absurd rfl z
  ·rw[aF (Ne.symm hk)]at q2;exact g.fr k es b e1 q2⟩
noncomputable def zT (j m:Nat) (f:cb) (δ:dO):cu->cu->Option (cu×cu)
 |ls,[]=>some ([],ls)
 |ls,d::ds=>match f ((δ.set m (.own ls)).set j (.dat d))with
  |some (.int i)=>if 0<=i then(match ls[i.toNat]? with
   |some x=>(zT j m f δ (ls.eraseIdx i.toNat) ds).map λr=>(x::r.1,r.2)
   |none=>none)else none
  |_=>none
noncomputable def yO (k j m:Nat) (i:bY) (f:cb):bZ:=λδ=>match δ[m]? with
 |some (.own ls)=>if ls.length<1000000 then(i δ).bind λds=>if ds.length<1000000 then(zT j m f δ ls ds).map λr=>.next ((δ.set m (.own r.2)).set k (.own r.1))else none else none
 |_=>none
omit [Mem] in
theorem getElem?_set_own {δ:dO}{m k:Nat}{ls es:cu}(hm:∃fs,δ[m]? =some (Sl.own fs)) (h:(δ.set m (Sl.own ls))[k]? =some (.own es)):∃fs,δ[k]? =some (.own fs):=by
 rcases getElem?_set_cases h with⟨rfl,_⟩|⟨_,e⟩
 ·exact hm
 ·exact⟨_,e⟩
theorem Jh {B:Hp}{k j m:Nat}{i:bY}{tt:TT}(Sj:m≠j) (ht:∀σ H Q,tQ lV σ H Q->tt σ H Q) {K:W.Frag}:∀Dn σ H,tS B C0 H0 (yO k j m i f) Dn σ H->
  Be k (EO (tI i) j tt (UR K "list" Iu (jo m) (TV (bV f cN)))) Dn σ H:=λDn σ H ⟨C,δ,r,gd,q,kk⟩=>by
 unfold yO at q;split at q
 case h_2=>cases q
 rename_i ls hm;split at q
 case isFalse=>cases q
 rename_i Zy;cases hf:i δ with
 |none=>rw[hf]at q;cases q
 |some ds=>
  rw[hf]at q;simp only[ao]at q;split at q
  case isFalse=>cases q
  rename_i hz;cases hp:zT j m f δ ls ds with
  |none=>rw[hp]at q;cases q
  |some pr=>
   rw[hp]at q;cases q;obtain⟨ys,rem⟩:=pr;refine⟨C,δ,ds,gd.x,hf,λJ C1 H1 ev wk A hA=>?_⟩
   have g1:=gd.Du ev;have Sk:∀(k:Nat) (es:cu),δ[k]? =some (.own es)->σ[k]? ≠some (some (.ref A)):=λk es e z=>by
    obtain⟨a,xs,h1,_,h3,_⟩:=g1.x.own k es e;rw[z]at h1;cases h1;rw[hA]at h3;cases h3
   have Py:∀(ls:cu) (k:Nat) (es:cu),(δ.set m (.own ls))[k]? =some (.own es)->σ[k]? ≠some (some (.ref A)):=λls k es e=>by
    obtain⟨fs,e'⟩:=getElem?_set_own ⟨_,hm⟩ e;exact Sk k fs e'
   have U9:H0 A=none:=g1.ev.free hA;have dm:δ.set m (.own ls)=δ:=by
    apply List.ext_getElem?
    intro n;by_cases e:n=m
    ·subst e;rw[bc (List.getElem?_eq_some_iff.mp hm).1,hm]
    ·rw[aF (Ne.symm e)]
   refine⟨λn mm acc H'=>∃C' lc done rest,mm=ds.length-n/\n<=ds.length/\Gd B C0 H0 (δ.set m (.own lc)) σ C' H'/\dU C1 C'/\C' A=none/\H' A=some (.lst acc)/\IsL C' acc done/\done.length<=n/\lc.length<1000000/\zT j m f δ lc (ds.drop n)=some (rest,rem)/\ys=done++rest,
    ⟨ds.length,C1,ls,[],ys,by simp,bL _,by rw[dm];exact g1.hU U9 (ev.s.free hA) Sk (λu q=>by rw[hA]at q;cases q) _,dU.refl _,ev.s.free hA,da,.nil,au _,Zy,by simpa using hp,rfl⟩,?_⟩
   rintro n mm acc H2 ⟨C2,lc,done,rest,rfl,hn,g2,sc,a2,b2,l2,U5,Zz,q2,ey⟩
   have w:=wk n C2 H2 sc g2.x.sub;by_cases fM:n<ds.length
   ·have hd:ds[n]? =some ds[n]:=ah fM;obtain⟨go,yl⟩:=w.1 _ hd;rw[List.drop_eq_getElem_cons fM]at q2;refine .inr ⟨go,λv H3 y=>?_⟩
    obtain⟨rfl,is⟩:=yl v H3 y;have x3:=g2.x.uf (i:=j) is;unfold zT at q2;split at q2
    case h_2=>cases q2
    rename_i ii ZA;split at q2
    case isFalse=>cases q2
    rename_i ZC;split at q2
    case h_2=>cases q2
    rename_i x hx;cases hr:zT j m f δ (lc.eraseIdx ii.toNat) (ds.drop (n+1))with
    |none=>rw[hr]at q2;cases q2
    |some pr=>
     rw[hr]at q2;cases q2;have ZD:m<δ.length:=(List.getElem?_eq_some_iff.mp hm).1;have om:(δ.set m (.own lc))[m]? =some (.own lc):=bc ZD;obtain⟨a,xs,h1,h2,h3,h4⟩:=g2.x.own m lc om;refine ht _ _ _ ⟨C2,_,true,x3,rfl,λC4 H4 e4=>xQ ?_⟩
     have g4:=g2.Du e4;have IG:=e4.hh h3;refine⟨.ref a,by rw[aF (Ne.symm Sj)];exact h1,.inl ⟨rfl,_,pf.of IG⟩,C4,_,[.int ii],x3.ev e4,by unfold bV cN;rw[ZA];rfl,λvs C5 H5 e5 i5=>?_⟩
     cases i5 with
     |cons ZE ZF=>
      cases ZF;cases ZE;have HL:=e4.trans e5;have g5:=g2.Du HL;have ZG:=HL.hh h3;have l5:=h4.mono HL.c;obtain⟨vx,Xc,ZH⟩:=l5.get hx;have hlen:xs.length=lc.length:=l5.length;have ZI:ii.toNat<xs.length:=(List.getElem?_eq_some_iff.mp Xc).1;have aA:a≠A:=λz=>Py lc m lc om (by rw[h1,z])
      have TX:H5 A=some (.lst acc):=HL.hh b2;have a5:=HL.nn a2 b2;refine⟨a,xs,ii,ii.toNat,vx,rfl,rfl,ZG,by omega,by omega,seqIndex_of ZC (by omega),Xc,?_⟩
      refine⟨by rw[cR (Ne.symm aA)];exact TX,by rw[l2.length];exact vD (by omega),ds.length-(n+1),by omega,C5,lc.eraseIdx ii.toNat,done++[x],pr.1,rfl,fM,?_,sc.trans HL.c,a5,da,(l2.mono HL.c).append (.one ZH),?_,?_,hr,?_⟩
      ·have g6:=g5.mut (es:=lc.eraseIdx ii.toNat) om h1 (l5.eraseIdx ii.toNat);rw[List.set_set]at g6;exact g6.hU U9 a5 (Py _) (λu q=>by rw[cR (Ne.symm aA),TX]at q;cases q;rfl) _
      ·rw[aQ,List.length_singleton];omega
      ·exact Nat.lt_of_le_of_lt (ub _ _) Zz
      ·rw[ey,List.append_assoc];rfl
   ·have e:n=ds.length:=by omega
    subst e;rw[List.drop_length]at q2;unfold zT at q2;cases q2;rw[bB]at ey;subst ey;refine .inl ⟨w.2 (au _),kk _ C2 H2 ?_⟩;exact g2.Mh U9 a2 b2 l2 (Py _)
variable {elt o iter:cE}{x y:Str}{px py ph apos eP:Pos}{scope:Scope}{i:bY}
theorem Mi (k j m:Nat) (hc:X.calm=true) (Sj:m≠j) (S:gA X scope x j) (hi:Nv X (.Name x px) iter i) (ho:∀cl C s H fp,PE (dE X scope cl C s H fp) o (jo m)) (he:∀cl C s H fp,PD (dE X scope cl C s H fp) e f)
  (oZ:∀cl C s H fp,starEach [e] (dE X scope cl C s H fp).env=(false,eval e (dE X scope cl C s H fp).env)::starEach [] (dE X scope cl C s H fp).env:=by intros;exact eL rfl)
  (pD:∀cl C s H fp,attributeBase o "pop" (dE X scope cl C s H fp).env (eval o (dE X scope cl C s H fp).env)=eval o (dE X scope cl C s H fp).env:=by intros;rfl)
  (vZ:∀cl C s H fp,((backTo eP (starEach [e] (dE X scope cl C s H fp).env)).all (λx=> !x.1)&&(backToKw eP (keywordEach [] (dE X scope cl C s H fp).env)).all (λx=>x.1.isSome)
   &&decide ([e].length+([]:List Keyword).length+(if([]:List Keyword).isEmpty then 0 else 1)<30))=true:=by intros;exact IQ rfl)
  (pE:(apos.endLine==eP.line)=true:=by rfl) (lR:∀cl C s H fp,(backTo eP (starEach [] (dE X scope cl C s H fp).env)).any (·.1)=false:=by intros;rfl)
  (hN:X.N[k]? =some y:=by rfl) (hy:Loc X.env.scope y:=by first|exact Or.inl rfl|exact Or.inr rfl) (hf:X.fn y=true\/X.env.scope.names.lookup y=some .local:=by first|exact .inl rfl|exact .inr rfl)
  (Gv:swapsWith (.ListComp (.Call (.Attribute o "pop" apos) [e] [] eP) [⟨.Name x px,iter,[],0⟩] scope pos) (some (.Name y py)) ph.line X.env=pure true:=by rfl)
  (hs:∀v,foldedSetIterable iter X.env v=pure v:=by intro _;rfl):PB X C0 H0 (.Assign [.Name y py] (.ListComp (.Call (.Attribute o "pop" apos) [e] [] eP) [⟨.Name x px,iter,[],0⟩] scope pos) ph) (yO k j m i f):=λB=>
 (rO hc S hi (λ_ _ _ _ _=>v5) (λcl C s H fp=>Ir PySem.F.plainAttrs_list PySem.F.slot_list_pop PySem.F.type_list_pop Iv (ho cl C s H fp) (sy (he cl C s H fp) vC (oZ cl C s H fp)) (pD cl C s H fp) (vZ cl C s H fp) pE (oZ cl C s H fp) (lR cl C s H fp)) hN hy hf Gv hs).imp (Jh Sj Dy)
end
end DL
namespace DL
open PySem PySem.Spec PyProof.Rows L2
def hV (P:cz) (w:cA) (K:W.Frag) (mg:cj) (base:Heap) (k:Nat) (x:Str) (g:cf):Prop:=
 ∃f fd ps,eA P w K mg base jb k f fd ps (nC g)/\mg x=some (.ref f)/\W.keepIn K (.ref f)=true/\Binds K fd ps []
theorem hV.mono {P:cz}{w:cA}{K:W.Frag}{mg:cj}{base:Heap}{j k:Nat}{x:Str}{g:cf}(c:hV P w K mg base j x g) (h:j<=k):hV P w K mg base k x g:=
 let ⟨f,fd,ps,F,r⟩:=c;⟨f,fd,ps,F.mono h,r⟩
section
variable {X:Cx}{e:cE}{es:List cE}{p pos:Pos}{x:Str}
theorem Ji [Mem] {k:Nat}{g:cf}{fa:bY}(c:hV X.prog X.w X.K X.mg X.base k x g) (hr:gy k X.A) (hg:Gl X x) (ha:HK X (e::es) fa)
  (sk:(x==("__debug__":Str))=false:=by decide) (he:starEach (e::es) X.env=(false,eval e X.env)::starEach es X.env:=by exact eL rfl) (kO:(backTo pos (starEach es X.env)).any (·.1)=false:=by exact fu rfl):
  PD X (.Call (.Name x p) (e::es) [] pos) (cO g fa):=by
 obtain⟨f,fd,ps,F,hm,hk,hb⟩:=c;exact L7 F hr hg hm hk hb ha sk he kO
end
end DL
namespace DL
open PySem PySem.Spec PyProof.Rows L2
noncomputable def zU (K:W.Frag):Bool:=K.all λp=>match p.2.data with
 |.seq _ _=>(match p.2.cls with|.type t=>t !="list"|_=>true)
 |_=>true
theorem mem_of_lookup {K:W.Frag}{a:cD}{o:Obj}(e:K.lookup a=some o):(a,o)∈K:=by
 induction K with
 |nil=>cases e
 |cons p r ih=>
  obtain⟨b,u⟩:=p;rw[bq]at e;by_cases h:a=b
  ·subst h;simp only[bN]at e;cases e;exact af
  ·have hb:(a==b)=false:=by simpa using h
   simp only[hb]at e;exact ai _ (ih e)
theorem DF {K:W.Frag}(h:zU K=true) {a:cD}{o:Obj}{dz:Array cw}{n:Nat}(e:K.lookup a=some o) (hc:o.cls=.type "list") (hs:o.data=.seq dz n):False:=by
 have:=List.all_eq_true.mp h _ (mem_of_lookup e);simp only[hs,hc]at this;simp at this
theorem Sm {l:W.OpenLaw}{q:cz}{loose:List Str}{XP:(cj)->Heap->Prop}{YP:cA->Heap->Prop}{d:DefRec}{K:Params->W.Frag}{x:Str}{g:cf}(hn:l.most=some 63) (RL:d.params.defaults=[])
  (hY:∀(w:cA) (h:Heap),YP w h->(K w.params).In h)
  (hg:∀ns:cn,ns.length<=63->g [.lst (ns.map D.int)]=some (.bl true))
  (Iy:∀t∈va,((recsOf q).find? λe=>e.name==t.1).isSome=true)
  (F:∀(w:cA) (mg:cj) (fa:cD) (h:Heap),(K w.params).In h->h.Ns mainGlobals mg->mg d.name=some (.ref fa)->
   zU (K w.params)=true/\tabsOk (K w.params)=true/\∃fd:cy,(∀(s:cx) (u:cw),BindsTo s fd ⟨[u],[]⟩ [(x,u)])/\∀base:Heap,(K w.params).In base->base.Ns mainGlobals mg->eA l.prog w (K w.params) mg base jb 65 fa fd [x] (nC g)):
  W.WalkO q loose XP YP l.row.toRowW d [] (λf vs=>PySem.call f vs):=
 L2.LS (n:=63) (k:=65) (x:=x) (CX:=λ_=>jb) (sp:=λw vs H Q E=>zU (K w.params)=true->nC g vs H Q E) hn (by decide) RL ⟨rfl,by decide,by decide,rfl⟩ hY Iy
  (λw mg fa h k1 k2 k3=>by
   obtain⟨z,tz,fd,b,f⟩:=F w mg fa h k1 k2 k3;exact⟨tz,fd,b,λbase e1 e2=>(f base e1 e2).imp λvs H Q E h=>h z⟩)
  (λw H a ns hl hS hz=>by
   have hr:Rd H a (.lst (ns.map V.int)):=by
    rcases hS with h|⟨o,dz,n,e1,e2,_,e4,_⟩
    ·exact h
    ·exact(DF hz e1 e2 e4).elim
   exact⟨H,[.lst (ns.map D.int)],.bl true,dU.refl H,.cons (.lst hr (.ints ns)) .nil,hg ns hl,λv C' H' ev i=>by cases i;rfl⟩)
  λ_ _ _ _ _ z=>z
end DL
namespace DL
open PySem PySem.Spec PyProof.Rows L2
variable [Mem]
structure WD (X:Cx) (e:cE) (f:cb):Prop where
 go:PD X e f
structure WO (X:Cx) (e:cE) (f:cb):Prop where
 go:PO X e f
structure WF (X:Cx) (e:cE) (f:bY):Prop where
 go:PF X e f
structure WQ (X:Cx) (e:cE) (f:cc):Prop where
 go:PQ X e f
structure E3 (X:Cx) (e:cE) (f:cc):Prop where
 go:O2 X e f
structure Jj (X:Cx) (es:List cE) (f:bY):Prop where
 go:HK X es f
structure Pz (X:Cx) (es:List cE) (f:bY):Prop where
 go:O8 X es f
structure uT (X:Cx) (tg e:cE) (f:bY):Prop where
 go:Nv X tg e f
structure QQ (X:Cx) (tg e:cE) (f:bY):Prop where
 go:Pf X tg e f
structure WB (X:Cx) (C0 H0:Hp) (st:cF) (f:bZ):Prop where
 go:PB X C0 H0 st f
structure vE (X:Cx) (C0 H0:Hp) (st:List cF) (f:bZ):Prop where
 go:CK X C0 H0 st f
structure WP (X:Cx) (e:Option cE) (f:dO->Option (Option Int)):Prop where
 go:L2.PO X e (tP f)
section
variable {X:Cx}{e tg:cE}{pos:Pos}
theorem cL (i:Nat) {x:Str}(hN:X.N[i]? =some x:=by rfl) (hv:QH X.env.scope x:=by first|exact Or.inl rfl|exact Or.inr (Or.inl rfl)|exact Or.inr (Or.inr rfl)) (hd:(x==("__debug__":Str))=false:=by decide) (vd:(x==("__classdict__":Str))=false:=by decide):WO X (.Name x pos) (dc i):=⟨Gz (CP hN hv hd vd)⟩
theorem cM (i:Nat) {x:Str}(hN:X.N[i]? =some x:=by rfl) (hv:QH X.env.scope x:=by first|exact Or.inl rfl|exact Or.inr (Or.inl rfl)|exact Or.inr (Or.inr rfl)) (hd:(x==("__debug__":Str))=false:=by decide) (vd:(x==("__classdict__":Str))=false:=by decide):WD X (.Name x pos) (cQ i):=⟨Gy (CP hN hv hd vd)⟩
theorem WD.o {f:cb}(h:WD X e f):WO X e f:=⟨h.go.o⟩
theorem WF.d {f:bY}(h:WF X e f):WD X e (dL f):=⟨h.go.d⟩
theorem E3.pt {f:cc}(h:E3 X e f):WQ X e f:=⟨h.go.pt⟩
theorem uT.weak {f:bY}(h:uT X tg e f):QQ X tg e f:=⟨h.go.weak⟩
theorem Nx:WP X none Pq:=⟨Sa⟩
theorem Jk {f:cb}(h:WO X e f):WP X (some e) (Bl f):=⟨Pr h.go⟩
end
end DL
namespace DL
open PySem PySem.Spec PyProof.Rows L2
theorem eM {P:cz}{w:cA}{K:W.Frag}{mg:cj}{base:Heap}{x qual:Str}{st:cF}{f:cD}{fd:cy}{N ps:List Str}{k:Nat}(F:lS K x qual st f fd) (S:du N ps (cK st)) {fb:bZ}
  (kP:∀(m:Mem) (fO:cw) (A:cB) (outer:List Env) (s:cx) (H:Hp) (E:XK),gy k (A.deeper (envOfC qual (cK st) s.heap.objs.size f fO))->∀C0 H0,vE (rN jb P w K mg base N qual (cK st) f fO A outer s H E).EE C0 H0 (dh st) fb):
  eA P w K mg base jb (k+1) f fd ps (nC (gi N.length ps.length fb)):=Nw F S λfO A outer s H E hr C0 H0=>@vE.go Mem.keep _ _ _ _ _ (kP Mem.keep fO A outer s H E hr C0 H0)
variable [Mem]
section
variable {C:Hp}
end
section
variable {C H C' H' C2 H2:Hp}
variable [Mem]
end
section
variable [Mem] {δ:dO}{σ:L2.St}{C H C' H':Hp}
end
variable [Mem]
section
variable {X:Cx}{e a b c:cE}{pos:Pos}
theorem cT {i:Int}{j:Nat}:WD X (.Constant (.int i) j pos) (dC (.int i)):=⟨OQ⟩
theorem wu {i:Bool}{j:Nat}:WD X (.Constant (.bool i) j pos) (dC (.bl i)):=⟨RY⟩
theorem PH {j:Nat}:WD X (.Constant .none j pos) (dC .eU):=⟨OR⟩
theorem iK {x:Str}{i:Int}{t:Tok}(hg:Gl X x) (hm:X.mg x=some (.int i t)) (hd:(x==("__debug__":Str))=false:=by decide):WD X (.Name x pos) (dC (.int i)):=⟨L1 hg hm hd⟩
theorem jL {f g:cb}(ha:WO X a f) (hb:WO X b g):WD X (.BinOp a .Add b pos) (di jI f g):=⟨OS ha.go hb.go⟩
theorem wx {f g:cb}(ha:WO X a f) (hb:WO X b g):WD X (.BinOp a .Sub b pos) (di rP f g):=⟨OT ha.go hb.go⟩
theorem rQ {f g:cb}(ha:WO X a f) (hb:WO X b g):WD X (.BinOp a .Mult b pos) (di pG f g):=⟨OU ha.go hb.go⟩
theorem Jl {f g:cb}(ha:WO X a f) (hb:WO X b g):WD X (.BinOp a .FloorDiv b pos) (di Bh f g):=⟨OV ha.go hb.go⟩
theorem wy {f g:cb}(ha:WO X a f) (hb:WO X b g):WD X (.BinOp a .Mod b pos) (di qP f g):=⟨OW ha.go hb.go⟩
theorem zV {op:CmpOp}{o:D->D->Option D}{f g:cb}(c:vi X op o) (ha:WO X a f) (hb:WO X b g) (hm:behindInMarks op b=false:=by first|exact vV _|rfl):WD X (.Compare a [op] [b] pos) (di o f g):=⟨OY c ha.go hb.go hm⟩
theorem ur {f:cb}(h:WD X e f) (he:∀whole,isTrue e X.env whole=(do let v <-whole;standAt e.pos;holding [v] (truthy v)):=by intro _;rfl):WQ X e (qB f):=⟨OZ h.go he⟩
theorem ei {op:CmpOp}{o:D->D->Option D}{f g:cb}(c:vi X op o) (ha:WO X a f) (hb:WO X b g) (hm:behindInMarks op b=false:=by first|exact vV _|rfl):WQ X (.Compare a [op] [b] pos) (qB (di o f g)):=⟨O0 c ha.go hb.go hm⟩
theorem pJ {f:cc}(ha:WQ X a f):E3 X (.BoolOp .And [a] pos) f:=⟨IM ha.go⟩
theorem Mj {f:cc}(ha:WQ X a f):E3 X (.BoolOp .Or [a] pos) f:=⟨L3 ha.go⟩
theorem ou {rest:List cE}{f g:cc}(ha:WQ X a f) (hb:E3 X (.BoolOp .And (b::rest) pos) g):E3 X (.BoolOp .And (a::b::rest) pos) (kQ f g):=⟨L4 ha.go hb.go⟩
theorem PJ {rest:List cE}{f g:cc}(ha:WQ X a f) (hb:E3 X (.BoolOp .Or (b::rest) pos) g):E3 X (.BoolOp .Or (a::b::rest) pos) (O1 f g):=⟨O4 ha.go hb.go⟩
theorem rR {f:cc}(ha:WQ X a f):WQ X (.UnaryOp .Not a pos) (qQ f):=⟨O5 ha.go⟩
theorem Jm {op:BoolOp}{f:cb}(h:WD X a f):WD X (.BoolOp op [a] pos) f:=⟨O6 h.go⟩
theorem PK {rest:List cE}{f g:cb}(ha:WD X a f) (hb:WD X (.BoolOp .And (b::rest) pos) g):WD X (.BoolOp .And (a::b::rest) pos) (GA f g):=⟨O7 ha.go hb.go⟩
theorem Sn {rest:List cE}{f g:cb}(ha:WD X a f) (hb:WD X (.BoolOp .Or (b::rest) pos) g):WD X (.BoolOp .Or (a::b::rest) pos) (QP f g):=⟨R4 ha.go hb.go⟩
theorem Bn {q:cc}{f g:cb}(hc:WQ X c q) (ha:WD X a f) (hb:WD X b g):WD X (.IfExp c a b pos) (R5 q f g):=⟨IP hc.go ha.go hb.go⟩
end
section
variable {X:Cx}{e:cE}{es:List cE}{pos p:Pos}{x:Str}
theorem cP:Jj X [] cN:=⟨vC⟩
theorem cJ {f:cb}{g:bY}(ha:WD X e f) (hr:Jj X es g) (hs:starEach (e::es) X.env=(false,eval e X.env)::starEach es X.env:=by exact eL rfl):Jj X (e::es) (bV f g):=⟨sy ha.go hr.go hs⟩
theorem dA:Pz X [] cN:=⟨L5⟩
theorem df {f:cb}{g:bY}(ha:WO X e f) (hr:Pz X es g) (hs:starEach (e::es) X.env=(false,eval e X.env)::starEach es X.env:=by exact eL rfl):Pz X (e::es) (bV f g):=⟨IS ha.go hr.go hs⟩
theorem eN {k:Nat}{f:bY}(h:Jj X es f):WD X (.Tuple es k pos) (fz f):=⟨O9 h.go⟩
theorem Jn {f:bY}(h:Jj X es f):WF X (.List es pos) (GB f):=⟨Pa h.go⟩
theorem eG {id:String}{g:cf}{f:bY}(hc:oX X (.builtin id) g) (hg:Gl X x) (hm:X.mg x=none) (hv:bootBuiltins x=some (.builtin id)) (ha:Pz X (e::es) f) (hn:x≠"__name__":=by decide) (sk:(x==("__debug__":Str))=false:=by decide) (he:starEach (e::es) X.env=(false,eval e X.env)::starEach es X.env:=by exact eL rfl) (kO:(backTo pos (starEach es X.env)).any (·.1)=false:=by exact fu rfl):WD X (.Call (.Name x p) (e::es) [] pos) (cO g f):=⟨IT hc hg hm hv ha.go hn sk he kO⟩
theorem ma {id:String}{g:cu->Option (cu)}{f:bY}(hc:EW X (.builtin id) g) (hg:Gl X x) (hm:X.mg x=none) (hv:bootBuiltins x=some (.builtin id)) (ha:Pz X (e::es) f) (hn:x≠"__name__":=by decide) (sk:(x==("__debug__":Str))=false:=by decide) (he:starEach (e::es) X.env=(false,eval e X.env)::starEach es X.env:=by exact eL rfl) (kO:(backTo pos (starEach es X.env)).any (·.1)=false:=by exact fu rfl):WF X (.Call (.Name x p) (e::es) [] pos) (fA g f):=⟨IU hc hg hm hv ha.go hn sk he kO⟩
theorem eY {T:String}{g:cf}{f:bY}(hc:oX X (.type T) g) (hg:Gl X x) (hm:X.mg x=none) (hv:bootBuiltins x=some (.type T)) (ha:Pz X (e::es) f) (hn:x≠"__name__":=by decide) (sk:(x==("__debug__":Str))=false:=by decide) (he:starEach (e::es) X.env=(false,eval e X.env)::starEach es X.env:=by exact eL rfl) (kO:(backTo pos (starEach es X.env)).any (·.1)=false:=by exact fu rfl):WD X (.Call (.Name x p) (e::es) [] pos) (cO g f):=⟨GC hc hg hm hv ha.go hn sk he kO⟩
end
variable [Mem]
section
variable {B C0 H0 C H C' H':Hp}{δ:dO}{σ:L2.St}
end
section
variable {X:Cx}{C0 H0:Hp}{st:cF}{R7 rest:List cF}{e:cE}{pos:Pos}{f g:bZ}
theorem eZ:vE X C0 H0 [] jF:=⟨L8⟩
theorem cU (h:WB X C0 H0 st f):vE X C0 H0 [st] f:=⟨L9 h.go⟩
theorem cW (h:WB X C0 H0 st f) (h2:vE X C0 H0 rest g):vE X C0 H0 (st::rest) (eB f g):=⟨IV h.go h2.go⟩
theorem md (i:Nat) (h:vE X C0 H0 R7 f):vE X C0 H0 R7 (qY i f):=⟨IW i h.go⟩
theorem dB {f:cb}(he:WD X e f):WB X C0 H0 (.Return (some e) pos) (eE f):=⟨Pc he.go⟩
theorem fQ (i:Nat) {x:Str}{pos':Pos}{f:cb}(hN:X.N.Nodup) (he:WD X e f) (hi:X.N[i]? =some x:=by rfl) (hx:Loc X.env.scope x:=by first|exact Or.inl rfl|exact Or.inr rfl) (hs:swapsWith e (some (.Name x pos')) pos.line X.env=pure false:=by rfl) (hf:X.fn x=true\/X.env.scope.names.lookup x=some .local:=by first|exact .inl rfl|exact .inr rfl):WB X C0 H0 (.Assign [.Name x pos'] e pos) (jf i f):=⟨Pe i hN he.go hi hx hs hf⟩
theorem qu (i:Nat) {x:Str}{pos':Pos}{f:bY}(hN:X.N.Nodup) (he:WF X e f) (hi:X.N[i]? =some x:=by rfl) (hx:Loc X.env.scope x:=by first|exact Or.inl rfl|exact Or.inr rfl) (hs:swapsWith e (some (.Name x pos')) pos.line X.env=pure false:=by rfl) (hf:X.fn x=true\/X.env.scope.names.lookup x=some .local:=by first|exact .inl rfl|exact .inr rfl):WB X C0 H0 (.Assign [.Name x pos'] e pos) (iq i f):=⟨Ma i hN he.go hi hx hs hf⟩
theorem jw {c:cE}{a b:List cF}{q:cc}(hc:WQ X c q) (ha:vE X C0 H0 a f) (hb:vE X C0 H0 b g):WB X C0 H0 (.If c a b pos) (oY q f g):=⟨R8 hc.go ha.go hb.go⟩
end
section
variable {X:Cx}{tg e:cE}
theorem Bo {f:cb}(h:WD X e f):uT X tg e (iL f):=⟨Bj h.go⟩
theorem fB {f:cb}(h:WD X e f):uT X tg e (iT f):=⟨EX h.go⟩
theorem zW {f:cb}(h:WO X e f):QQ X tg e (iL f):=⟨Mb h.go⟩
theorem jr {a:cE}{f:bY}{p pos:Pos}(hg:Gl X "range") (hm:X.mg "range"=none) (ha:Jj X [a] f) (hs:starEach [a] X.env=[(false,eval a X.env)]:=by exact eL rfl):uT X tg (.Call (.Name "range" p) [a] [] pos) (ug f):=⟨Dx hg hm ha.go hs⟩
theorem lr {C0 H0:Hp}{iter:cE}{body:List cF}{i:bY}{f:bZ}{pos:Pos}{j:Nat}(hp:PassesOwn (model X.prog X.w) X.A X.env X.xe) (hc:X.calm=true) (hi:uT X tg iter i) (hg:PG X tg (A4 j)) (hb:vE X C0 H0 body f) (hs:∀x,foldedSetIterable iter X.env x=pure x:=by intro _;rfl):WB X C0 H0 (.For tg iter body [] pos) (lU j i f):=⟨Pg hp hc hi.go hg hb.go hs⟩
end
section
variable {X:Cx}{elt iter:cE}{x:Str}{px pos:Pos}{scope:Scope}{i:bY}{t:cc}{f:cb}
theorem ow (j:Nat) (hc:X.calm=true) (S:gA X scope x j) (hi:QQ X (.Name x px) iter i) (he:∀cl C s H fp,WD (dE X scope cl C s H fp) elt f) (hs:∀v,foldedSetIterable iter X.env v=pure v:=by intro _;rfl):WF X (.ListComp elt [⟨.Name x px,iter,[],0⟩] scope pos) (dR i j lV f):=⟨Md j hc S hi.go (λcl C s H fp=>(he cl C s H fp).go) hs⟩
theorem gB (j:Nat) {c:cE}(hc:X.calm=true) (S:gA X scope x j) (hi:QQ X (.Name x px) iter i) (ht:∀cl C s H fp,WQ (dE X scope cl C s H fp) c t) (he:∀cl C s H fp,WD (dE X scope cl C s H fp) elt f) (hs:∀v,foldedSetIterable iter X.env v=pure v:=by intro _;rfl):WF X (.ListComp elt [⟨.Name x px,iter,[c],0⟩] scope pos) (dR i j t f):=⟨GF j hc S hi.go (λcl C s H fp=>(ht cl C s H fp).go) (λcl C s H fp=>(he cl C s H fp).go) hs⟩
variable {C0 H0:Hp}{y:Str}{py ph:Pos}
theorem DG (k j:Nat) (hc:X.calm=true) (S:gA X scope x j) (hi:QQ X (.Name x px) iter i) (he:∀cl C s H fp,WD (dE X scope cl C s H fp) elt f) (hN:X.N[k]? =some y:=by rfl) (hy:Loc X.env.scope y:=by first|exact Or.inl rfl|exact Or.inr rfl) (hf:X.fn y=true\/X.env.scope.names.lookup y=some .local:=by first|exact .inl rfl|exact .inr rfl) (Gv:swapsWith (.ListComp elt [⟨.Name x px,iter,[],0⟩] scope pos) (some (.Name y py)) ph.line X.env=pure true:=by rfl) (hs:∀v,foldedSetIterable iter X.env v=pure v:=by intro _;rfl):WB X C0 H0 (.Assign [.Name y py] (.ListComp elt [⟨.Name x px,iter,[],0⟩] scope pos) ph) (iq k (dR i j lV f)):=⟨Dz k j hc S hi.go (λcl C s H fp=>(he cl C s H fp).go) hN hy hf Gv hs⟩
theorem sG (k j:Nat) {c:cE}(hc:X.calm=true) (S:gA X scope x j) (hi:QQ X (.Name x px) iter i) (ht:∀cl C s H fp,WQ (dE X scope cl C s H fp) c t) (he:∀cl C s H fp,WD (dE X scope cl C s H fp) elt f) (hN:X.N[k]? =some y:=by rfl) (hy:Loc X.env.scope y:=by first|exact Or.inl rfl|exact Or.inr rfl) (hf:X.fn y=true\/X.env.scope.names.lookup y=some .local:=by first|exact .inl rfl|exact .inr rfl) (Gv:swapsWith (.ListComp elt [⟨.Name x px,iter,[c],0⟩] scope pos) (some (.Name y py)) ph.line X.env=pure true:=by rfl) (hs:∀v,foldedSetIterable iter X.env v=pure v:=by intro _;rfl):WB X C0 H0 (.Assign [.Name y py] (.ListComp elt [⟨.Name x px,iter,[c],0⟩] scope pos) ph) (iq k (dR i j t f)):=⟨zN k j hc S hi.go (λcl C s H fp=>(ht cl C s H fp).go) (λcl C s H fp=>(he cl C s H fp).go) hN hy hf Gv hs⟩
end
section
variable {X:Cx}{pins:ck}{σ:L2.St}{C H:Hp}{s:cx}
end
variable [Mem]
section
variable {X:Cx}{a b c e o:cE}{pos:Pos}{f g h:cb}
theorem dY (ha:WO X a f) (hb:WO X b g) (hs:qo b):WD X (.Subscript a b pos) (di jc f g):=⟨Pn ha.go hb.go hs⟩
end
variable [Mem]
section
variable {X:Cx}{a b c e o:cE}{pos p p2:Pos}{f g h:cb}
theorem PL {lo hi:Option cE}{fl fh:dO->Option (Option Int)}(he:WO X e f) (hl:WP X lo fl) (hh:WP X hi fh):WF X (.Subscript e (.Slice lo hi none p2) pos) (Jd f fl fh):=⟨Pu he.go hl.go hh.go⟩
theorem zX {f:bY}{p' pos':Pos}(hc:X.calm=true) (hg:Gl X "list") (hm:X.mg "list"=none) (U7:Gl X "range") (Jf:X.mg "range"=none) (ha:Jj X [a] f) (hs:starEach [a] X.env=[(false,eval a X.env)]:=by exact eL rfl) (he:starEach [.Call (.Name "range" p') [a] [] pos'] X.env=(false,eval (.Call (.Name "range" p') [a] [] pos') X.env)::starEach [] X.env:=by exact eL rfl) (kO:(backTo pos (starEach [] X.env)).any (·.1)=false:=by exact fu rfl):WF X (.Call (.Name "list" p) [.Call (.Name "range" p') [a] [] pos'] [] pos) (ug f):=⟨zO hc hg hm U7 Jf ha.go hs he kO⟩
end
variable [Mem]
section
variable {X:Cx}
end
section
variable {X:Cx}{e:cE}{pos:Pos}{C0 H0:Hp}{f:cb}
theorem Jo {i:Nat}{o:cE}{apos:Pos}(ho:PE X o (jo i)) (he:WD X e f) (oZ:starEach [e] X.env=(false,eval e X.env)::starEach [] X.env:=by exact eL rfl) (pD:attributeBase o "append" X.env (eval o X.env)=eval o X.env:=by rfl) (vZ:((backTo pos (starEach [e] X.env)).all (λx=> !x.1)&&(backToKw pos (keywordEach [] X.env)).all (λx=>x.1.isSome)
   &&decide ([e].length+([]:List Keyword).length+(if([]:List Keyword).isEmpty then 0 else 1)<30))=true:=by exact IQ rfl) (pE:(apos.endLine==pos.line)=true:=by rfl) (lR:(backTo pos (starEach [] X.env)).any (·.1)=false:=by exact fu rfl) {pos':Pos}(hs:swapsWith (.Call (.Attribute o "append" apos) [e] [] pos) none pos'.line X.env=pure false:=by rfl):WB X C0 H0 (.Expr (.Call (.Attribute o "append" apos) [e] [] pos) pos') (Bi i f):=⟨Px ho he.go oZ pD vZ pE lR hs⟩
variable {elt o iter:cE}{x y:Str}{px py ph apos eP:Pos}{scope:Scope}{i:bY}
theorem Ml (k j m:Nat) (hc:X.calm=true) (Sj:m≠j) (S:gA X scope x j) (hi:uT X (.Name x px) iter i) (ho:∀cl C s H fp,PE (dE X scope cl C s H fp) o (jo m)) (he:∀cl C s H fp,WD (dE X scope cl C s H fp) e f) (oZ:∀cl C s H fp,starEach [e] (dE X scope cl C s H fp).env=(false,eval e (dE X scope cl C s H fp).env)::starEach [] (dE X scope cl C s H fp).env:=by intros;exact eL rfl) (pD:∀cl C s H fp,attributeBase o "pop" (dE X scope cl C s H fp).env (eval o (dE X scope cl C s H fp).env)=eval o (dE X scope cl C s H fp).env:=by intros;rfl) (vZ:∀cl C s H fp,((backTo eP (starEach [e] (dE X scope cl C s H fp).env)).all (λx=> !x.1)&&(backToKw eP (keywordEach [] (dE X scope cl C s H fp).env)).all (λx=>x.1.isSome)
   &&decide ([e].length+([]:List Keyword).length+(if([]:List Keyword).isEmpty then 0 else 1)<30))=true:=by intros;exact IQ rfl) (pE:(apos.endLine==eP.line)=true:=by rfl) (lR:∀cl C s H fp,(backTo eP (starEach [] (dE X scope cl C s H fp).env)).any (·.1)=false:=by intros;rfl) (hN:X.N[k]? =some y:=by rfl) (hy:Loc X.env.scope y:=by first|exact Or.inl rfl|exact Or.inr rfl) (hf:X.fn y=true\/X.env.scope.names.lookup y=some .local:=by first|exact .inl rfl|exact .inr rfl) (Gv:swapsWith (.ListComp (.Call (.Attribute o "pop" apos) [e] [] eP) [⟨.Name x px,iter,[],0⟩] scope pos) (some (.Name y py)) ph.line X.env=pure true:=by rfl) (hs:∀v,foldedSetIterable iter X.env v=pure v:=by intro _;rfl):WB X C0 H0 (.Assign [.Name y py] (.ListComp (.Call (.Attribute o "pop" apos) [e] [] eP) [⟨.Name x px,iter,[],0⟩] scope pos) ph) (yO k j m i f):=⟨Mi k j m hc Sj S hi.go ho (λcl C s H fp=>(he cl C s H fp).go) oZ pD vZ pE lR hN hy hf Gv hs⟩
end
section
variable {X:Cx}{e:cE}{es:List cE}{p pos:Pos}{x:Str}
theorem cZ {k:Nat}{g:cf}{fa:bY}(c:hV X.prog X.w X.K X.mg X.base k x g) (hr:gy k X.A) (hg:Gl X x) (ha:Jj X (e::es) fa) (sk:(x==("__debug__":Str))=false:=by decide) (he:starEach (e::es) X.env=(false,eval e X.env)::starEach es X.env:=by exact eL rfl) (kO:(backTo pos (starEach es X.env)).any (·.1)=false:=by exact fu rfl):WD X (.Call (.Name x p) (e::es) [] pos) (cO g fa):=⟨Ji c hr hg ha.go sk he kO⟩
end
end DL
namespace DL
open PySem PySem.Spec PyProof.Rows L2
variable [Mem]
noncomputable def zY:D->Option Bool
 |.eU=>some false
 |.bl b=>some b
 |.int i=>some (i !=0)
 |.str z=>if z.length<=1000000 then some ((z.length:Int)!=0)else none
 |.tup ds=>some (!ds.isEmpty)
 |.lst ds=>some (!ds.isEmpty)
noncomputable def qT (f:cb):cc:=λδ=>(f δ).bind zY
theorem IsL.isEmpty {C:Hp}{xs:List V}{ds:cu}(l:IsL C xs ds):xs.isEmpty=ds.isEmpty:=by cases l<;>rfl
theorem E4 {K:W.Frag}{C H:Hp}{v:V}{d:D}{b:Bool}(s:dU C H) (i:sf C H v d) (h:zY d=some b):Lw K v H b:=by
 cases d with
 |eU=>cases h;have:=i.is (λ_ z=>by cases z);cases this;rfl
 |bl c=>cases h;have:=i.is (λ_ z=>by cases z);cases this;rfl
 |int c=>cases h;have:=i.is (λ_ z=>by cases z);cases this;rfl
 |str z=>
  simp only[zY]at h;split at h
  ·rename_i hz;cases h;have:=i.is (λ_ z=>by cases z);cases this
   exact⟨aB hz (by decide),rfl⟩
  ·cases h
 |tup ds=>
  cases h;obtain⟨a,xs,rfl,hq,l,_⟩:=i.tup (K:=K) s;exact .inr (.inl ⟨xs,hq,by rw[l.isEmpty]⟩)
 |lst ds=>
  cases h;obtain⟨a,xs,rfl,hq,l⟩:=i.list (K:=K) s;exact .inl ⟨xs,hq,by rw[l.isEmpty]⟩
section
variable {X:Cx}{a b c e o:cE}{pos p p2:Pos}{f g h:cb}
theorem Jp (ha:PO X e f) (he:∀whole,isTrue e X.env whole=(do let v <-whole;standAt e.pos;holding [v] (truthy v)):=by intro _;rfl):PQ X e (qT f):=(Ie ha he).imp λσ H Q ⟨C,δ,b,x,q,k⟩=>by
 unfold qT at q;cases hf:f δ with
 |none=>rw[hf]at q;cases q
 |some d=>
  rw[hf]at q;exact⟨C,δ,d,x,hf,λv C' H' ev i=>⟨b,E4 ev.s i q,k C' H' ev⟩⟩
theorem Jq:ve X (binaryOp .Add) (λx y H Q=>∃a b ys,x=.ref a/\y=.ref b/\jk X.K H a []/\jk X.K H b ys/\Q (.ref b) H):=by
 intro pins s σ H x y v u Q I rx ry h;obtain⟨a,b,ys,rfl,rfl,ha,hb,q⟩:=h;cases rx;cases ry;obtain⟨dz,r1,p1,_⟩:=I.tuple ha;obtain⟨fm,r2,p2,_⟩:=I.tuple hb;have e0:dz=[]:=by cases r1;rfl
 obtain⟨⟨cls,dd,data,sl⟩,ho,hc,n,hd⟩:=id p1;obtain⟨⟨Oz,Ld,data2,Io⟩,vf,so,n2,hd2⟩:=id p2;simp only at hc hd so hd2;subst hc hd so hd2;exact concat_meets ⟨_,ho,rfl⟩ ⟨_,vf,rfl⟩ noFill_tuple_add seq_tuple_add PySem.F.slot_tuple_add PySem.F.entry_tuple_add (PySem.F.args_tuple_add_2 _ _)
   (tuple_addW0 a b dz.toArray fm.toArray n n2 dd Ld sl Io (by simp[e0])) ⟨ho,vf,⟨.ref b,H,I,rfl,q⟩⟩
noncomputable def jM:D->D->Option D
 |.tup a,.tup b=>if a.length+b.length<=1000000 then some (.tup (a++b))else none
 |_,_=>none
theorem Mm:Nr (λx y H Q=>(∃a b ys,x=.ref a/\y=.ref b/\jk X.K H a []/\jk X.K H b ys/\Q (.ref b) H)\/Nm X.K x y H Q) jM:=λC H x y dx dy d Q s ix iy q k=>by
 unfold jM at q;split at q
 ·rename_i ds es;split at q
  ·rename_i hz;cases q;obtain⟨a,xs,rfl,hq,l,hc⟩:=ix.tup (K:=X.K) s;obtain⟨b,ys,rfl,PM,l2,so⟩:=iy.tup (K:=X.K) s;cases ds with
   |nil=>
    cases l;exact .inl ⟨a,b,ys,rfl,rfl,hq,PM,k _ C H (.refl s) (.tup so l2)⟩
   |cons d0 ds=>
    refine .inr ⟨a,b,xs,ys,rfl,rfl,hq,PM,(λz=>by rw[z]at l;cases l),by rw[l.length,l2.length];exact aB hz (by decide),λz=>?_,λz t ht=>?_⟩
    ·subst z;cases l2;exact k _ C H (.refl s) (.tup hc (by rw[bB];exact l))
    ·exact k _ _ _ (.new s ht) (.tup da ((l.append l2).mono (eF (s.free ht))))
  ·cases q
 ·cases q
theorem Mn (ha:PO X a f) (hb:PO X b g):PD X (.BinOp a .Add b pos) (di jM f g):=yJ (Jq.or LK) Mm ha hb
theorem IsL.PN {C:Hp}{xs:List V}{ds:cu}(l:IsL C xs ds) {lo hi:Option Int}(h:HT.ij xs.length 0 lo=0/\HT.ij xs.length xs.length hi=xs.length):IsL C xs (cutD ds lo hi):=by
 unfold cutD;rw[<-l.length,h.1,h.2,List.drop_zero,Nat.sub_zero,l.length,List.take_length];exact l
end
end DL
namespace DL
open PySem PySem.Spec PyProof.Rows L2
noncomputable instance:DecidableEq D:=Classical.typeDecidableEq D
mutual
inductive KI (h:Heap):cw->D->Prop where
 |int (n:Int) (t:Tok):KI h (.int n t) (.int n)
 |tup {a:cD}{o:Obj}{items:Array cw}{n:Nat}{ds:cu}:h.get? a=some o->o.cls=.type "tuple"->o.data=.seq items n->rS h items.toList ds->KI h (.ref a) (.tup ds)
inductive rS (h:Heap):cv->cu->Prop where
 |nil:rS h [] []
 |cons {v:cw}{d:D}{vs:cv}{ds:cu}:KI h v d->rS h vs ds->rS h (v::vs) (d::ds)
end
theorem rS.length {h:Heap}:∀{vs:cv}{ds:cu},rS h vs ds->vs.length=ds.length
 |_,_,.nil=>rfl
 |_,_,.cons _ t=>congrArg (·+1) t.length
theorem rS.get {h:Heap}:∀{vs:cv}{ds:cu}{i:Nat}{v:cw},rS h vs ds->vs[i]? =some v->∃d,ds[i]? =some d/\KI h v d
 |_,_,_,_,.nil,e=>by simp at e
 |_,_,0,_,.cons h _,e=>⟨_,rfl,by simp only[aM,Option.some.injEq]at e;subst e;exact h⟩
 |_,_,i+1,_,.cons _ t,e=>by
  obtain⟨d,h1,h2⟩:=t.get (i:=i) (by simpa using e)
  exact⟨d,by simpa using h1,h2⟩
mutual
theorem KI.inj {h:Heap}:∀{v:cw}{d e:D},KI h v d->KI h v e->d=e
 |_,_,_,.int n t,.int _ _=>rfl
 |_,_,_,.tup h1 h2 h3 l,.tup yI AZ IG l'=>by
  rw[h1]at yI;cases yI;rw[h3]at IG;injection IG with e1 _;subst e1
  rw[l.inj l']
theorem rS.inj {h:Heap}:∀{vs:cv}{ds es:cu},rS h vs ds->rS h vs es->ds=es
 |_,_,_,.nil,.nil=>rfl
 |_,_,_,.cons h t,.cons h' t'=>by rw[h.inj h',t.inj t']
end
mutual
theorem KI.keeps {h h':Heap}{x:cD}{ox:Obj}{es:Array DictEntry}{ep:Nat}(ho:h.get? x=some ox) (hd:ox.data=.dict es ep) (hs:Heap.SameBut x h h'):∀{v:cw}{d:D},KI h v d->KI h' v d
 |_,_,.int n t=>.int n t
 |_,_,@KI.tup _ a o items n ds h1 h2 h3 l=>by
  have ja:a≠x:=by
   rintro rfl
   rw[ho]at h1;cases h1;rw[hd]at h3;exact nomatch h3
  exact .tup ((hs.2 a ja).trans h1) h2 h3 (rS.keeps ho hd hs l)
theorem rS.keeps {h h':Heap}{x:cD}{ox:Obj}{es:Array DictEntry}{ep:Nat}(ho:h.get? x=some ox) (hd:ox.data=.dict es ep) (hs:Heap.SameBut x h h'):∀{vs:cv}{ds:cu},rS h vs ds->rS h' vs ds
 |_,_,.nil=>.nil
 |_,_,.cons h t=>.cons (KI.keeps ho hd hs h) (rS.keeps ho hd hs t)
end
mutual
noncomputable def eI:D->Int
 |.int n=>hashInt n
 |.tup ds=>reduceHash (Builtin.Tuple.tupleHashOf (me ds))
 |_=>0
noncomputable def me:cu->cn
 |[]=>[]
 |d::ds=>eI d::me ds
end
mutual
noncomputable def wz:D->Nat
 |.tup ds=>o3 ds+1
 |_=>1
noncomputable def o3:cu->Nat
 |[]=>0
 |d::ds=>wz d+o3 ds
end
theorem oy:∀a b:cu,me (a++b)=me a++me b
 |[],b=>by simp[me]
 |x::a,b=>by simp[me,oy a b]
theorem oz:∀a b:cu,o3 (a++b)=o3 a+o3 b
 |[],b=>by simp[o3]
 |x::a,b=>by simp[o3,oz a b,Nat.add_assoc]
section
variable {prog:cz}{w:cA}{E:cg}
theorem KI.hash (n:Nat):∀(A:cB) (s:cx) (v:cw) (d:D) (Q:Int->cx->Prop),dW d<=n->A.units+n<cLine->KI s.heap v d->Q (eI d) {s with toks:=s.toks+wz d}->wpAny (model prog w) A (pyHash v) Q E s:=by
 induction n with
 |zero=>
  intro A s v d Q hn hu k h;cases k with
  |int i t=>
   unfold eI wz at h;exact wpAny_pyHash_int h
  |tup h1 h2 h3 l=>unfold dW at hn;omega
 |succ n ih=>
  intro A s v d Q hn hu k h;cases k with
  |int i t=>
   unfold eI wz at h;exact wpAny_pyHash_int h
  |@tup a o items m ds ho hc hd l=>
   have hT:s.TypeIs (.ref a) "tuple":=⟨o,ho,hc⟩;have CI:jg ds<=n:=by unfold dW at hn;omega
   unfold eI wz at h;unfold pyHash
   first|unfold pyHashByItsType|skip
   first|refine aa (wpAny_cRoomFor_or (.inr (by omega)) ?_)|skip
   refine aa (wpAny_specialOf hT F.slot_tuple_hash.lookup ?_);show wpAny _ _ (if(some (Value.builtin "tuple.__hash__")==some Value.none)=true then _ else _) Q E s
   rw[if_neg (by rw[beq_builtin_none];exact aZ)]
   refine aa (wpAny_specialOf hT F.slot_tuple_hash.lookup ?_);show wpAny _ _ (callSpecialIfBoundUnlessNone? (.ref a) "__hash__" _>>=_) Q E s;refine aa (wpAny_callSpecialIfBoundUnlessNone?_slot hT F.slot_tuple_hash (bM F.slot_tuple_hash hT F.entry_tuple_hash ?_ (F.args_tuple_hash_1 _)));show wpAny _ _ (Builtin.Tuple.tupleItemsOf (.ref a)>>=_) _ _ s;refine aa (wpAny_tupleItemsOf ho hd ?_);refine aa ?_;rw[<-Array.forIn_toList];refine wpAny_forIn_list _
    (λrest (b:Array Int) s'=>∃done left,ds=done++left/\rS s.heap rest left/\b.toList=me done/\s'={s with toks:=s.toks+o3 done})
    _ ?_ ?_ _ _ ⟨[],ds,rfl,l,by simp[me],by simp[o3]⟩
   ·rintro x rest b s' ⟨done,left,rfl,hl,hb,rfl⟩
    cases hl with
    |@cons _ k _ Sq h1 iE=>
     have hk:dW k<=n:=aB (jJ (aL _ af)) CI;refine aa (ih _ {s with toks:=s.toks+o3 done} x k _ hk ?_ h1 ?_)
     ·show A.units+1+n<cLine;omega
     ·first
       |exact aj ⟨done++[k],Sq,by simp,iE,by simp[hb,oy,me],by simp[Nat.add_assoc,oz,o3]⟩
       |exact aa (aj (aj ⟨done++[k],Sq,by simp,iE,by simp[hb,oy,me],by simp[Nat.add_assoc,oz,o3]⟩))
   ·rintro b s' ⟨done,left,rfl,hl,hb,rfl⟩
    cases hl;rw[bB]at h;show wpAny _ _ (retInt (Builtin.Tuple.tupleHashOf b.toList)) _ _ _;rw[hb];refine wpAny_ret_mkInt ?_;show wpAny _ _ (if(decide (-(2:Int)^63<=Builtin.Tuple.tupleHashOf (me done))&&decide (Builtin.Tuple.tupleHashOf (me done)<2^63))=true then _ else _) Q E _
    unfold reduceHash at h;by_cases hr:(decide (-(2:Int)^63<=Builtin.Tuple.tupleHashOf (me done))&&decide (Builtin.Tuple.tupleHashOf (me done)<2^63))=true
    ·rw[if_pos hr];rw[if_pos hr]at h;exact aj (by simpa [Nat.add_assoc]using h)
    ·rw[if_neg hr];rw[if_neg hr]at h;exact aa (wpAny_rule (aj (by simpa [Nat.add_assoc]using h)))
theorem KI.eq (n:Nat):∀(A:cB) (s:cx) (u v:cw) (d e:D),dW d<=n->A.units+n<cLine->KI s.heap u d->KI s.heap v e->SeqAt.EqAt A s u v (dP d e):=by
 induction n with
 |zero=>
  intro A s u v d e hn hu ku kv;have ik:A.units<cLine:=by omega
  cases ku with
  |int i t=>
   cases kv with
   |int j t'=>unfold dP;exact SeqAt.EqAt.int_int i t j t'
   |@tup b o2 gz n2 es vf so hd2 l2=>unfold dP;exact SeqAt.EqAt.int_tuple i t (items:=gz) ⟨o2,vf,so,n2,hd2⟩ ik
  |tup h1 h2 h3 l=>unfold dW at hn;omega
 |succ n ih=>
  intro A s u v d e hn hu ku kv;have ik:A.units<cLine:=by omega
  cases ku with
  |int i t=>
   cases kv with
   |int j t'=>unfold dP;exact SeqAt.EqAt.int_int i t j t'
   |@tup b o2 gz n2 es vf so hd2 l2=>unfold dP;exact SeqAt.EqAt.int_tuple i t (items:=gz) ⟨o2,vf,so,n2,hd2⟩ ik
  |@tup a o items m ds ho hc hd l=>
   have CI:jg ds<=n:=by unfold dW at hn;omega
   have p1:IsTup s.heap a items:=⟨o,ho,hc,m,hd⟩;cases kv with
   |int j t'=>unfold dP;exact SeqAt.EqAt.tuple_int j t' p1 ik
   |@tup b o2 gz n2 es vf so hd2 l2=>
    have p2:IsTup s.heap b gz:=⟨o2,vf,so,n2,hd2⟩;by_cases EY:a=b
    ·subst EY;have e:=KI.inj (KI.tup ho hc hd l) (KI.tup vf so hd2 l2);rw[<-e,pH];exact SeqAt.EqAt.same _
    ·have hits:∀j (h1:j<items.size) (h2:j<gz.size),SeqAt.EqAt A.in1 s items[j] gz[j] (dP (ds.getD j .eU) (es.getD j .eU)):=λj h1 h2=>by
      obtain⟨d1,e1,i1⟩:=l.get (i:=j) (v:=items[j]) (by simp[h1])
      obtain⟨d2,e2,i2⟩:=l2.get (i:=j) (v:=gz[j]) (by simp[h2])
      rw[ak,ak,e1,e2];exact ih A.in1 s _ _ d1 d2 (aB (jJ (bh e1)) CI) (by show A.units+1+n<cLine;omega) i1 i2
     have q:=SeqAt.RcAt.tuples p1 p2 ik hits;have z1:items.size=ds.length:=by rw[<-aN,l.length]
     have z2:gz.size=es.length:=by rw[<-aN,l2.length]
     unfold dP;rw[kR];rw[z1,z2]at q;exact SeqAt.EqAt.of_refs EY q
mutual
theorem KI.dP {h h':Heap}:∀{u v:cw}{d e:D},KI h u d->KI h' v e->dP d e=decide (d=e)
 |_,_,_,_,.int i t,.int j t'=>by unfold DL.dP;by_cases e:i=j<;>simp[e]
 |_,_,_,_,.int i t,.tup _ _ _ _=>by unfold DL.dP;simp
 |_,_,_,_,.tup _ _ _ _,.int j t'=>by unfold DL.dP;simp
 |_,_,_,_,.tup _ _ _ l,.tup _ _ _ l'=>by
  unfold DL.dP;rw[rS.lh l l'];simp
theorem rS.lh {h h':Heap}:∀{us vs:cv}{ds es:cu},rS h us ds->rS h' vs es->lh ds es=decide (ds=es)
 |_,_,_,_,.nil,.nil=>by unfold DL.lh;simp
 |_,_,_,_,.nil,.cons _ _=>by unfold DL.lh;simp
 |_,_,_,_,.cons _ _,.nil=>by unfold DL.lh;simp
 |_,_,_,_,.cons a b,.cons a' b'=>by
  unfold DL.lh;rw[KI.dP a a',rS.lh b b'];simp[Bool.decide_and]
end
theorem KI.quiet (n:Nat):∀(A:cB) (s:cx) (u:cw) (d:D) (Q:Bool->cx->Prop),dW d<=n->KI s.heap u d->Q true s->wpAny (model prog w) A (eqIsQuiet n u) Q E s:=by
 induction n with
 |zero=>
  intro A s u d Q hn k h;cases k with
  |int i t=>rw[eqIsQuiet_byValue _ rfl];exact aj h
  |tup h1 h2 h3 l=>unfold dW at hn;omega
 |succ n ih=>
  intro A s u d Q hn k h;cases k with
  |int i t=>rw[eqIsQuiet_byValue _ rfl];exact aj h
  |@tup a o items m ds ho hc hd l=>
   have hT:s.TypeIs (.ref a) "tuple":=⟨o,ho,hc⟩;have CI:jg ds<=n:=by unfold dW at hn;omega
   unfold eqIsQuiet;refine aa (wpAny_specialOf hT F.slot_tuple_eq.lookup ?_);show wpAny _ _ (isInstance (.ref a) (.type "tuple")>>=_) _ _ s;refine aa (wpAny_isInstance hT isSubtype_tuple_tuple ?_);simp only[bT,aH,bD];refine aa (wpAny_seqItems ho hd ?_);refine aa ?_;show wpAny _ _ (forIn items _ _) _ _ s;rw[<-Array.forIn_toList];refine wpAny_forIn_list _ (λrest r s'=>r.1=none/\s'=s/\∃es,(∀e∈es,dW e<=n)/\rS s.heap rest es) _ ?_ ?_ _ _ ⟨rfl,rfl,ds,λe he=>aB (jJ he) CI,l⟩
   ·rintro v rest r s' ⟨hr,rfl,es,he,hk⟩
    cases hk with
    |cons k1 k2=>
     refine aa (ih A s' v _ _ (he _ af) k1 ?_);simp only[bT,aH,bD];exact aj ⟨rfl,rfl,_,λe h=>he e (ai _ h),k2⟩
   ·rintro⟨r1,r2⟩ s' ⟨hr,rfl,_⟩
    simp only at hr;subst hr;exact aj h
end
noncomputable def lF (prog:cz) (w:cA):HeapKind prog w D where
 is:=λh d a=>KI h (.ref a) d/\dW d<=4
 hash:=eI
 draws:=wz
 room:=λA=>A.units+8<cLine
 inj:=λhx hy=>hx.1.inj hy.1
 keeps:=λx ho hd hs=>⟨x.1.keeps ho hd hs,x.2⟩
 pyHash:=λhu hk h=>KI.hash 4 _ _ _ _ _ hk.2 (by omega) hk.1 h
 eqBool:=λhu hx hy h=>KI.eq 4 _ _ _ _ _ _ hx.2 (by omega) hx.1 hy.1 _ _ _ _ (by rw[KI.dP hx.1 hy.1];exact h)
 quiet:=λhk h=>KI.quiet 8 _ _ _ _ _ (aB hk.2 (by decide)) hk.1 h
end DL
namespace DL
open PySem PySem.Spec PyProof.Rows L2
mutual
noncomputable def pK:D->Bool
 |.int _=>true
 |.tup ds=>nE ds
 |_=>false
noncomputable def nE:cu->Bool
 |[]=>true
 |d::ds=>pK d&&nE ds
end
section
variable {X:Cx}{pins:ck}{σ:L2.St}{C H:Hp}{s:cx}
mutual
theorem Is.ki (I:Inv X pins σ H s) (sub:dU C H):∀(d:D) {v:V}{u:cw},pK d=true->Is C v d->RelV v u->KI s.heap u d
 |.int i,_,_,_,is,ru=>by
  cases is;obtain⟨t,rfl⟩:=ru;exact .int i t
 |.tup ds,_,_,hk,is,ru=>by
  cases is with
  |tup h l=>
   cases ru;obtain⟨dz,r,⟨o,ho,hc,n,hd⟩,_⟩:=I.tuple (jk.of (K:=X.K) (sub _ _ h));unfold pK at hk;exact .tup ho hc hd (by have:=IsL.Xd I sub ds hk l r;simpa using this)
 |.eU,_,_,hk,_,_=>by unfold pK at hk;cases hk
 |.bl _,_,_,hk,_,_=>by unfold pK at hk;cases hk
 |.str _,_,_,hk,_,_=>by unfold pK at hk;cases hk
 |.lst _,_,_,hk,_,_=>by unfold pK at hk;cases hk
theorem IsL.Xd (I:Inv X pins σ H s) (sub:dU C H):∀(ds:cu) {vs:List V}{us:cv},nE ds=true->IsL C vs ds->Vals vs us->rS s.heap us ds
 |[],_,_,_,l,r=>by
  cases l;cases r;exact .nil
 |d::ds,_,_,hk,l,r=>by
  cases l with
  |cons h t=>
   cases r with
   |cons r rs=>
    unfold nE at hk;rw[Bool.and_eq_true]at hk;exact .cons (Is.ki I sub d hk.1 h r) (IsL.Xd I sub ds hk.2 t rs)
end
end
structure j8 where
 W:D->Option D
 enc:D->Nat
 N:Nat
 hN:N<=1000000
 lt:∀k d,W k=some d->enc k<N
 inj:∀k k' d d',W k=some d->W k'=some d'->enc k=enc k'->k=k'
 key:∀k d,W k=some d->pK k=true/\dW k<=4
noncomputable def mS (a:cD) (xs:List (D×cD×cw)):Heap->Prop:=λh=>∃o es ep,h.get? a=some o/\o.ExactDict/\o.data=.dict es ep/\es.toList=xs.map (λx=>(⟨eI x.1,.ref x.2.1,x.2.2⟩:DictEntry))/\(xs.map (·.1)).Nodup
structure eJ (a:cD) (M:j8) (C H:Hp) (xs:List (D×cD×cw)):Prop where
 h:H a=some (.ext (mS a xs))
 c:C a=none
 sm:(a==sysModules)=false
 nd:(xs.map (·.1)).Nodup
 ent:∀x∈xs,Is C (.ref x.2.1) x.1/\∃v d,RelV v x.2.2/\Is C v d/\M.W x.1=some d
theorem yP:∀(N:Nat) (l:List Nat),l.Nodup->(∀x∈l,x<N)->l.length<=N
 |0,l,_,h=>by
  cases l with
  |nil=>exact au _
  |cons a r=>exact absurd (h a af) (Nat.not_lt_zero _)
 |N+1,l,nd,h=>by
  have h1:=yP N (l.erase N) (nd.erase N) (λx hx=>by
   have:=(nd.mem_erase_iff.mp hx);have:=h x this.2;omega)
  have h2:l.length<=(l.erase N).length+1:=by
   rw[List.length_erase];split<;>omega
  omega
theorem eJ.len {a:cD}{M:j8}{C H:Hp}{xs:List (D×cD×cw)}(m:eJ a M C H xs):xs.length<=M.N:=by
 have h:=yP M.N (xs.map λx=>M.enc x.1) ?_ ?_
 ·simpa using h
 ·have nd:=m.nd;rw[List.Nodup,List.pairwise_map]at nd ⊢;refine List.Pairwise.imp_of_mem (λ{x y} hx hy ja he=>?_) nd
  obtain⟨_,v,d,_,_,w1⟩:=m.ent x hx;obtain⟨_,v',d',_,_,w2⟩:=m.ent y hy;exact ja (M.inj _ _ _ _ w1 w2 he)
 ·intro n hn;obtain⟨x,hx,rfl⟩:=List.mem_map.mp hn;obtain⟨_,v,d,_,_,w1⟩:=m.ent x hx;exact M.lt _ _ w1
section
variable {a:cD}{M:j8}{C H C' H':Hp}{xs:List (D×cD×cw)}
theorem eJ.Sr (m:eJ a M C H xs) (e:pF C H C' H'):eJ a M C' H' xs where
 h:=e.h _ _ m.h
 c:=by
  cases q:C' a with
  |none=>rfl
  |some u=>
   rcases e.n a u q with z|z
   ·rw[m.c]at z;cases z
   ·rw[m.h]at z;cases z
 sm:=m.sm
 nd:=m.nd
 ent:=λx hx=>let ⟨h1,v,d,h2,h3,h4⟩:=m.ent x hx;⟨h1.mono e.c,v,d,h2,h3.mono e.c,h4⟩
theorem eJ.GK (m:eJ a M C H xs) {b:cD}{o:HO}(hb:b≠a):eJ a M C (upd H b o) xs where
 h:=by rw[cR (Ne.symm hb)];exact m.h
 c:=m.c
 sm:=m.sm
 nd:=m.nd
 ent:=m.ent
theorem eJ.GL (m:eJ a M C H xs) {b:cD}{o:HO}(hb:b≠a) (hc:C b=none):eJ a M (upd C b o) H xs where
 h:=m.h
 c:=by rw[cR (Ne.symm hb)];exact m.c
 sm:=m.sm
 nd:=m.nd
 ent:=λx hx=>let ⟨h1,v,d,h2,h3,h4⟩:=m.ent x hx;⟨h1.mono (eF hc),v,d,h2,h3.mono (eF hc),h4⟩
theorem eJ.ne (m:eJ a M C H xs) {b:cD}(h:∀u,H b=some u->CJ u=false):b≠a:=λz=>by
 subst z;have:=h _ m.h;cases this
theorem eJ.QR (m:eJ a M C H xs) {b:cD}(h:H b=none):b≠a:=λz=>by
 subst z;rw[m.h]at h;cases h
end
section
variable {X:Cx}{M:j8}{a:cD}{pins:ck}{σ:L2.St}{C H:Hp}{s:cx}{xs ys:List (D×cD×cw)}
theorem eJ.dict (I:Inv X pins σ H s) (sub:dU C H) (m:eJ a M C H xs):s.heap.DictOfH (lF X.prog X.w) a xs:=by
 obtain⟨⟨o,es,ep,h1,h2,h3,h4,h5⟩,_⟩:=I.gb a _ m.h;exact⟨o,es,ep,h1,h2,h3,h4,λx hx=>by
  obtain⟨h1,v,d,_,_,w⟩:=m.ent x hx;obtain⟨k1,k2⟩:=M.key _ _ w;exact⟨Is.ki I sub _ k1 h1 rfl,k2⟩,h5⟩
theorem eJ.keys_eq (I:Inv X pins σ H s) (sub:dU C H) (m:eJ a M C H xs) (m':eJ a M C H ys):xs.map (·.1)=ys.map (·.1):=by
 obtain⟨o,es,ep,h1,h2,h3,h4,h5,h6⟩:=m.dict I sub;obtain⟨o',HU,N4,yI,AZ,IG,L0,Xe,ZJ⟩:=m'.dict I sub;rw[h1]at yI;cases yI;rw[h3]at IG;injection IG with e1 _;subst e1
 rw[h4]at L0;clear h1 h2 AZ h3 h4 h6 ZJ m m';induction xs generalizing ys with
 |nil=>cases ys with
  |nil=>rfl
  |cons _ _=>cases L0
 |cons x xs ih=>
  cases ys with
  |nil=>cases L0
  |cons y ys=>
   rw[aE,aE]at L0;injection L0 with e1 e2
   have ea:x.2.1=y.2.1:=by
    have:(entryOfKey (lF X.prog X.w) x).key=(entryOfKey (lF X.prog X.w) y).key:=congrArg DictEntry.key e1;injection this
   have k1:=(h5 x af).1;have k2:=(Xe y af).1;rw[ea]at k1;rw[aE,aE,k1.inj k2,ih (λx hx=>h5 x (ai _ hx)) (λx hx=>Xe x (ai _ hx)) e2]
theorem uu {xs:List (D×cD×cw)}{k:D}:(atKey xs k).isSome=true↔k∈xs.map (·.1):=by
 unfold atKey;rw[Option.isSome_map,List.find?_isSome];constructor
 ·rintro⟨x,hx,e⟩
  exact List.mem_map.mpr ⟨x,hx,by simpa using e⟩
 ·intro h;obtain⟨x,hx,e⟩:=List.mem_map.mp h;exact⟨x,hx,by simpa using e⟩
theorem GN {xs:List (D×cD×cw)}{k:D}{p:cD×cw}(h:atKey xs k=some p):(k,p)∈xs:=by
 unfold atKey at h;cases q:xs.find? (λx=>decide (x.1=k))with
 |none=>rw[q]at h;cases h
 |some x=>
  rw[q]at h;cases h;have h1:=List.mem_of_find?_eq_some q;have h2:=List.find?_some q;have h3:x.1=k:=by simpa using h2
  rw[<-h3];exact h1
noncomputable def PR (a:cD) (M:j8):R2:=λx y H Q=>∃C ds xs,dU C H/\Is C x (.tup ds)/\pK (.tup ds)=true/\dW (.tup ds)<=4/\y=.ref a/\eJ a M C H xs/\Q (.bl (!(atKey xs (.tup ds)).isSome)) H
theorem zZ (hu:X.A.units+64<cLine):ve X (compareOp .NotIn) (PR a M):=by
 intro pins s σ H x y v u Q I rx ry h;obtain⟨C,ds,xs,sub,is,hk,hd,rfl,m,q⟩:=h;cases is with
 |@tup p ws _ hp l=>
  cases rx;cases ry;have CZ:(lF X.prog X.w).is s.heap (.tup ds) p:=⟨Is.ki I sub _ hk (.tup hp l) rfl,hd⟩;have hm:=m.dict I sub;show wpAny _ _ (do return .bool (!(<-contains (.ref a) (.ref p)))) (EP X pins σ Q) X.xe s
  refine aa ?_;unfold contains;try with_reducible refine bo ?_
  refine aa (wpAny_specialOf hm.typeIs slot_dict_contains.lookup ?_);show wpAny _ _ (if(some (Value.builtin "dict.__contains__")==some Value.none)=true then _ else _) _ X.xe s
  rw[if_neg (by rw[beq_builtin_none];exact aZ)]
  refine aa (wpAny_callSpecialUnlessNone?_slot (name:=Str.ofString "__contains__") hm.typeIs slot_dict_contains
   (bM slot_dict_contains hm.typeIs entry_dict_contains ?_ (args_dict_contains _ _)))
  show wpAny _ _ (dictGet a (.ref p)>>=_) _ _ s;have i7:(lF X.prog X.w).room X.A.in1:=by show X.A.units+1+8<cLine;omega
  refine aa (wpAny_dictGet_heap i7 CZ hm ?_);cases hf:atKey xs (.tup ds)with
  |some p'=>
   rw[hf]at q;show wpAny _ _ (ret (.bool true)) _ _ _;exact aj ⟨_,rfl,bQ (aj ⟨.bl _,H,I.tok _,rfl,q⟩)⟩
  |none=>
   rw[hf]at q;show wpAny _ _ (Builtin.Dict.pendingKey? a (.ref p)>>=_) _ _ _;exact aa (wpAny_pendingKey_other m.sm (aj ⟨_,rfl,bQ (aj ⟨.bl _,H,I.tok _,rfl,q⟩)⟩))
noncomputable def Ss (a:cD) (M:j8):R2:=λx y H Q=>∃C ds xs,dU C H/\x=.ref a/\Is C y (.tup ds)/\pK (.tup ds)=true/\dW (.tup ds)<=4/\eJ a M C H xs/\D.tup ds∈xs.map (·.1)/\∀v d,M.W (.tup ds)=some d->Is C v d->Q v H
theorem Mo (hu:X.A.units+64<cLine):Iq X (Ss a M):=by
 intro value slice pins s σ H x y v u Q I rx ry h hs;obtain⟨C,ds,xs,sub,rfl,is,hk,hd,m,o4,q⟩:=h;cases is with
 |@tup p ws _ hp l=>
  cases rx;cases ry;have CZ:(lF X.prog X.w).is s.heap (.tup ds) p:=⟨Is.ki I sub _ hk (.tup hp l) rfl,hd⟩;have hm:=m.dict I sub;have i7:(lF X.prog X.w).room X.A.in1:=by show X.A.units+1+8<cLine;omega
  cases hf:atKey xs (.tup ds)with
  |none=>
   have:=uu.mpr o4;rw[hf]at this;cases this
  |some pv=>
   obtain⟨_,v',d,r,i,w⟩:=m.ent _ (GN hf);exact tail_any (ops:=[.ref a,.ref p]) hm.typeIs slot_dict_getitem.lookup (wpAny_getItem_heap i7 CZ hm hf ⟨v',H,I.tok _,r,q v' d w i⟩) hs
theorem wA {xs:List (D×cD×cw)}{k:D}{v:cw}:(xs.map (putAt k v)).map (·.1)=xs.map (·.1):=by
 rw[aV];apply bS
 intro x _;unfold putAt;simp only[Function.comp_apply];split<;>rfl
noncomputable def Su (a:cD) (M:j8):Lo:=λo i v H Q=>∃C ds d xs,dU C H/\o=.ref a/\Is C i (.tup ds)/\Is C v d/\M.W (.tup ds)=some d/\eJ a M C H xs/\
 ∀ys,eJ a M C (upd H a (.ext (mS a ys))) ys->(∀k,(∃zs,eJ a M C H zs/\k∈zs.map (·.1))->k∈ys.map (·.1))->D.tup ds∈ys.map (·.1)->Q (upd H a (.ext (mS a ys)))
theorem Jr (hu:X.A.units+64<cLine):Rc X (Su a M):=by
 intro pins s σ H o i v ov iv u Q I ro ri rv h;obtain⟨C,ds,d,xs,sub,rfl,is,Xf,hw,m,q⟩:=h;obtain⟨hk,hd⟩:=M.key _ _ hw;cases is with
 |@tup p ws _ hp l=>
  cases ro;cases ri;have CZ:(lF X.prog X.w).is s.heap (.tup ds) p:=⟨Is.ki I sub _ hk (.tup hp l) rfl,hd⟩;have hm:=m.dict I sub;have i7:(lF X.prog X.w).room X.A.in1:=by show X.A.units+1+8<cLine;omega
  refine wpAny_setItem_heap i7 CZ hm (λh' Jf IC=>?_) (aB m.len (aB M.hN (by decide)))
  have keys:(storedH xs (.tup ds) p u).map (·.1)=if(atKey xs (.tup ds)).isSome then xs.map (·.1)else xs.map (·.1)++[.tup ds]:=by
   unfold storedH;split
   ·exact wA
   ·simp
  have o4:D.tup ds∈(storedH xs (.tup ds) p u).map (·.1):=by
   rw[keys];split
   ·rename_i hh;exact uu.mp hh
   ·exact aL _ af
  have hold:∀k∈xs.map (·.1),k∈(storedH xs (.tup ds) p u).map (·.1):=λk h=>by
   rw[keys];split
   ·exact h
   ·exact bC _ h
  obtain⟨oo,es,ep,g1,g2,g3,g4,g5,g6⟩:=Jf;have m':eJ a M C (upd H a (.ext (mS a (storedH xs (.tup ds) p u)))) (storedH xs (.tup ds) p u):=by
   refine⟨da,m.c,m.sm,g6,λx hx=>?_⟩
   unfold storedH at hx;split at hx
   ·obtain⟨y,hy,rfl⟩:=List.mem_map.mp hx;obtain⟨h1,v',d',r,i',w⟩:=m.ent y hy;unfold putAt;split
    ·rename_i e;refine⟨h1,v,d,rv,Xf,?_⟩;show M.W y.1=some d;rw[e];exact hw
    ·exact⟨h1,v',d',r,i',w⟩
   ·rcases List.mem_append.mp hx with hx|hx
    ·exact m.ent x hx
    ·rw[bt]at hx;subst hx;exact⟨.tup hp l,v,d,rv,Xf,hw⟩
  have ok:il X.prog X.w (upd H a (.ext (mS a (storedH xs (.tup ds) p u)))) h' a (.ext (mS a (storedH xs (.tup ds) p u))):=
   ⟨⟨oo,es,ep,g1,g2,g3,g4,g6⟩,⟨oo,g1⟩,λh1 h2 ⟨o1,e1,p1,q1,q2⟩ st=>⟨o1,e1,p1,st _ q1,q2⟩⟩
  refine⟨_,I.write (e:=a) (by rw[m.h];exact trivial) (.inl rfl) (λb ob hb hq=>(IC.2 b hb).trans hq) ⟨oo,g1⟩ ok,q _ m' (λk ⟨zs,mz,hz⟩=>hold k (by rw[m.keys_eq I sub mz];exact hz)) o4⟩
end
end DL
namespace DL
open PySem PySem.Spec PyProof.Rows L2
def GO (δ' δ:dO):Prop:=δ'.length=δ.length/\∀(i:Nat) (s:Sl),δ'[i]? =some s->s=.no\/δ[i]? =some s\/∃ks Sq,s=.memo Sq/\δ[i]? =some (.memo ks)/\∀k∈Sq,k∈ks
section
variable [Mem] {δ δ':dO}{σ:L2.St}{B C0 H0 C H:Hp}
theorem GO.own (w:GO δ' δ) {i:Nat}{ds:cu}(q:δ'[i]? =some (.own ds)):δ[i]? =some (.own ds):=by
 rcases w.2 i _ q with z|z|⟨_,_,z,_⟩
 ·cases z
 ·exact z
 ·cases z
theorem Sx.weak (x:Sx δ σ C H) (w:GO δ' δ):Sx δ' σ C H where
 sub:=x.sub
 dat:=λi d q=>by
  rcases w.2 i _ q with z|z|⟨_,_,z,_⟩
  ·cases z
  ·exact x.dat i d z
  ·cases z
 own:=λi ds q=>x.own i ds (w.own q)
 zK:=λi j ds es a q1 q2 q3 q4=>x.zK i j ds es a (w.own q1) (w.own q2) q3 q4
 len:=w.1.trans x.len
 mem:=λi ks q=>by
  rcases w.2 i _ q with z|z|⟨ZK,ks2,z,z2,z3⟩
  ·cases z
  ·exact x.mem i ks z
  ·cases z;obtain⟨a,h1,h2,h3,h4⟩:=x.mem i ZK z2;exact⟨a,h1,h2,h3,λk hk=>h4 k (z3 k hk)⟩
theorem Gd.weak (g:Gd B C0 H0 δ σ C H) (w:GO δ' δ):Gd B C0 H0 δ' σ C H:=⟨g.b,g.ev,g.x.weak w,λk ds a q1 q2=>g.fr k ds a (w.own q1) q2⟩
theorem Sx.E5 (x:Sx δ σ C H) {i:Nat}{ks:cu}{k:D}(hi:δ[i]? =some (.memo ks)) (hk:Mem.has C H k):Sx (δ.set i (.memo (k::ks))) σ C H where
 sub:=x.sub
 dat:=λj d q=>by
  rcases getElem?_set_cases q with⟨rfl,e⟩|⟨hj,e⟩
  ·cases e
  ·exact x.dat j d e
 own:=λj ds q=>by
  rcases getElem?_set_cases q with⟨rfl,e⟩|⟨hj,e⟩
  ·cases e
  ·exact x.own j ds e
 zK:=λj l ds es a q1 q2 q3 q4=>by
  rcases getElem?_set_cases q1 with⟨_,e⟩|⟨_,e1⟩
  ·cases e
  rcases getElem?_set_cases q2 with⟨_,e⟩|⟨_,e2⟩
  ·cases e
  exact x.zK j l ds es a e1 e2 q3 q4
 len:=by simp[x.len]
 mem:=λj ls q=>by
  rcases getElem?_set_cases q with⟨rfl,e⟩|⟨hj,e⟩
  ·cases e;obtain⟨a,h1,h2,h3,h4⟩:=x.mem j ks hi;refine⟨a,h1,h2,h3,λc hc=>?_⟩
   rcases List.mem_cons.mp hc with rfl|hc
   ·exact hk
   ·exact h4 c hc
  ·exact x.mem j ls e
theorem Gd.E5 (g:Gd B C0 H0 δ σ C H) {i:Nat}{ks:cu}{k:D}(hi:δ[i]? =some (.memo ks)) (hk:Mem.has C H k):Gd B C0 H0 (δ.set i (.memo (k::ks))) σ C H:=
 ⟨g.b,g.ev,g.x.E5 hi hk,λj ds a q1 q2=>by
  rcases getElem?_set_cases q1 with⟨_,e⟩|⟨_,e⟩
  ·cases e
  ·exact g.fr j ds a e q2⟩
end
noncomputable def forget (fs:List Nat) (δ:dO):dO:=fs.foldl (λδ i=>δ.set i .no) δ
theorem nc:∀(fs:List Nat) (δ:dO),(forget fs δ).length=δ.length
 |[],_=>rfl
 |i::fs,δ=>by
  show(forget fs (δ.set i .no)).length=_;rw[nc fs,List.length_set]
theorem wB:∀(fs:List Nat) (δ:dO) (i:Nat) (s:Sl),(forget fs δ)[i]? =some s->s=.no\/δ[i]? =some s
 |[],_,_,_,h=>.inr h
 |j::fs,δ,i,s,h=>by
  rcases wB fs (δ.set j .no) i s h with z|z
  ·exact .inl z
  ·rcases getElem?_set_cases z with⟨_,e⟩|⟨_,e⟩
   ·exact .inl e
   ·exact .inr e
theorem Bp (fs:List Nat) (δ:dO) (i:Nat) (k:D) (ks:cu):GO ((forget fs δ).set i (.memo [k])) (δ.set i (.memo (k::ks))):=by
 refine⟨by simp[nc],λj s q=>?_⟩
 rcases getElem?_set_cases q with⟨rfl,e⟩|⟨hj,e⟩
 ·have hl:j<δ.length:=by have:=Ds q;rwa [nc]at this
  exact .inr (.inr ⟨k::ks,[k],e,by rw[bc hl],λc hc=>by rw[bt]at hc;subst hc;exact af⟩)
 ·rcases wB fs δ j s e with z|z
  ·exact .inl z
  ·exact .inr (.inl (by rw[aF (Ne.symm hj)];exact z))
open Classical in
noncomputable def sH (i:Nat) (fs:List Nat) (fk:cb) (fb:bZ):bZ:=λδ=>match δ[i]?,fk δ,fb δ with
 |some (.memo _),some (.tup ds),some (.next δ2)=>if pK (.tup ds)=true/\dW (.tup ds)<=4/\GO ((forget fs δ).set i (.memo [.tup ds])) δ2 then some (.next ((forget fs δ).set i (.memo [.tup ds])))else none
 |_,_,_=>none
noncomputable def pL (M:j8) (i:Nat) (fk:cb):cb:=λδ=>match δ[i]?,fk δ with
 |some (.memo ks),some (.tup ds)=>if pK (.tup ds)=true/\dW (.tup ds)<=4/\D.tup ds∈ks then M.W (.tup ds)else none
 |_,_=>none
noncomputable def pM (M:j8) (i:Nat) (fk fe:cb):bZ:=λδ=>match δ[i]?,fk δ,fe δ with
 |some (.memo ks),some (.tup ds),some d=>if M.W (.tup ds)=some d then some (.next (δ.set i (.memo (.tup ds::ks))))else none
 |_,_,_=>none
section
variable {X:Cx}{a:cD}{M:j8}{C0 H0:Hp}{e k o:cE}{body:List cF}{pos pos' p p2:Pos}{i:Nat}
end
end DL
namespace DL
open PySem PySem.Spec PyProof.Rows L2
section
variable {X:Cx}{e:cE}{es:List cE}{p pos:Pos}{x:Str}{a:cD}{M:j8}
end
noncomputable def startM (n np j:Nat) (ds:cu):dO:=(ds.take j).map Sl.dat++.memo []::(ds.drop j).map Sl.dat++List.replicate (n-np) Sl.no
theorem rT {n np j:Nat}{ds:cu}(hl:ds.length+1=np) (hj:j<np) (i:Nat):(startM n np j ds)[i]? =if i<j then(ds[i]?).map Sl.dat else if i=j then some (.memo [])else if i<np then(ds[i-1]?).map Sl.dat else if i<np+(n-np)then some .no else none:=by
 unfold startM;have l1:((ds.take j).map Sl.dat).length=j:=by rw[ae,bJ];omega
 have l2:((ds.drop j).map Sl.dat).length=ds.length-j:=by rw[ae,List.length_drop]
 rw[List.append_assoc];by_cases h1:i<j
 ·rw[if_pos h1,aJ (by omega),av,List.getElem?_take_of_lt h1]
 ·rw[if_neg h1,aP (by omega),l1]
  by_cases h2:i=j
  ·subst h2;rw[if_pos rfl,Nat.sub_self];rfl
  ·rw[if_neg h2,List.cons_append];obtain⟨r,hr⟩:∃r,i-j=r+1:=⟨i-j-1,by omega⟩
   rw[hr,aK];by_cases h3:i<np
   ·rw[if_pos h3,aJ (by omega),av,List.getElem?_drop]
    congr 2
    omega
   ·rw[if_neg h3,aP (by omega),bf]
    congr 1
    rw[eq_iff_iff];constructor<;>intro _<;>omega
end DL
namespace DL
open PySem PySem.Spec PyProof.Rows L2
section
variable {X:Cx}{e:cE}{es:List cE}{p pos pos':Pos}{x:Str}{a:cD}{M:j8}{C0 H0:Hp}{rest:List cF}
theorem _root_.L2.Inv.Va {pins:ck}{σ:L2.St}{H:Hp}{s:cx}(I:Inv X pins σ H s):sysModules<s.heap.objs.size:=by
 have h:mainGlobals<s.heap.objs.size:=(I.mod.glob.keeps I.bk).lt;exact bG (by decide) h
noncomputable def Sv:TE:=λ_ H Q=>∀p,H p=none->(p==sysModules)=false->Q (.ref p) (upd H p (.ext (mS p [])))
theorem Mp:PE X (.Dict [] [] pos) Sv:=λpins s σ H Q I h=>
 wpAny_Dict_empty ⟨.ref s.heap.objs.size,_,I.laid (a:=s.heap.objs.size) (o:=.ext (mS s.heap.objs.size [])) (t':=s.toks) (λ_ _ q=>ag _ q) (au _)
  ⟨⟨_,#[],0,ay _ rfl,⟨rfl,rfl,rfl⟩,rfl,rfl,List.nodup_nil⟩,⟨_,ay _ rfl⟩,λh1 h2 ⟨o1,e1,p1,q1,q2⟩ st=>⟨o1,e1,p1,st _ q1,q2⟩⟩,rfl,
  h _ (I.gb.fresh (au _)) (beq_eq_false_iff_ne.mpr (Ne.symm (aD I.Va)))⟩
theorem DH {C H:Hp}{p:cD}(hc:C p=none) (hs:(p==sysModules)=false) (hH:H p=some (.ext (mS p []))):eJ p M C H []:=⟨hH,hc,hs,List.nodup_nil,λ_ h=>by cases h⟩
noncomputable def noOwn (δ:dO):Bool:=δ.all λs=>match s with|.own _=>false|_=>true
noncomputable def pN (δ:dO):Bool:=δ.all λs=>match s with|.memo _=>false|_=>true
theorem wC {δ:dO}(h:noOwn δ=true) {i:Nat}{ds:cu}(q:δ[i]? =some (.own ds)):False:=by
 have:=List.all_eq_true.mp h _ (bh q);cases this
theorem yQ {δ:dO}(h:pN δ=true) {i:Nat}{ds:cu}(q:δ[i]? =some (.memo ds)):False:=by
 have:=List.all_eq_true.mp h _ (bh q);cases this
noncomputable def Js (i:Nat):R->Option R
 |.next δ=>if pN (δ.set i .no)=true then some (.next (δ.set i .no))else none
 |.ret d=>some (.ret d)
 |.brk δ=>if pN (δ.set i .no)=true then some (.brk (δ.set i .no))else none
 |.cont δ=>if pN (δ.set i .no)=true then some (.cont (δ.set i .no))else none
end
end DL
namespace HT
open PySem PySem.Spec PyProof.Rows
section
variable {prog:cz}{w:cA}{A:cB}{E:cg}{s:cx}
theorem qS {t sl:cD}{items:Array cw}{vl vu:cw}{lo hi:Option Int}{Q:cg}(ht:IsTup s.heap t items) (hs:s.heap.IsSliceOf sl vl vu .none) (pl:IsPart vl lo) (pu:IsPart vu hi)
  (hw:ij items.size 0 lo=0/\ij items.size items.size hi=items.size)
  (h:Q (.ref t) s):wpAny (model prog w) A (getItem (.ref t) (.ref sl)) Q E s:=by
 obtain⟨os,OB,TF,RE⟩:=id hs;have UN:s.TypeIs (.ref sl) "slice":=⟨os,OB,TF⟩;unfold getItem;try with_reducible refine bo ?_
 first|refine aa (aj ?_)|skip
 refine aa (wpAny_sequenceKey ht.typeIs (by decide) ?_)
 refine aa (wpAny_callSpecial?_slot (name:=Str.ofString "__getitem__") ht.typeIs PyProof.Rows.slot_tuple_getitem
  (bM PyProof.Rows.slot_tuple_getitem ht.typeIs entry_tuple_getitem ?_ (args_tuple_getitem _ _)))
 show wpAny _ _ (Builtin.Tuple.tupleItemsOf (.ref t)>>=_) _ _ s;refine aa (tupleItemsOf_ ht ?_);refine aa (wpAny_typeOf UN ?_);rw[if_pos (by decide)]
 refine aa (nB hs pl pu ?_);have Vb:(((ij items.size 0 lo:Nat):Int)==0&&(1:Int)==1&&(ij items.size items.size hi-ij items.size 0 lo)==items.size)=true:=by
  rw[hw.1,hw.2];simp
 show wpAny _ _ (if(((ij items.size 0 lo:Nat):Int)==0&&(1:Int)==1&&(ij items.size items.size hi-ij items.size 0 lo)==items.size)=true then _ else _) _ _ s
 rw[if_pos Vb];unfold Builtin.Tuple.tupleIsExact;refine aa (aa (wpAny_typeOf ht.typeIs (aj ?_)));rw[if_pos (by decide)]
 first
  |exact aa (wpAny_rule (aa (aj ⟨_,rfl,aj h⟩)))
  |exact aa (wpAny_rule (aj ⟨_,rfl,aj h⟩))
end
end HT
namespace DL
open PySem PySem.Spec PyProof.Rows L2
variable [Mem]
section
variable {X:Cx}{a b c e o:cE}{pos p p2:Pos}{f g h:cb}
theorem Mq:Nl X (λx lo hi H Q=>∃a xs,x=.ref a/\jk X.K H a xs/\(HT.ij xs.length 0 lo=0/\HT.ij xs.length xs.length hi=xs.length)/\Q (.ref a) H):=by
 intro pins s σ H x v vl vu lo hi sl Q I rx hs pl pu h;obtain⟨a,xs,rfl,hx,hw,q⟩:=h;cases rx;obtain⟨dz,r,ht,hz⟩:=I.tuple hx;have hlen:dz.toArray.size=xs.length:=by rw[aq];exact r.length.symm
 refine⟨"tuple",_,PyProof.Rows.slot_tuple_getitem.lookup,ht.typeIs,?_⟩;exact HT.qS ht hs pl pu (by rw[hlen];exact hw) ⟨.ref a,H,I,rfl,q⟩
noncomputable def GQ (f:cb) (lo hi:dO->Option (Option Int)):cb:=λδ=>match f δ with
 |some (.tup ds)=>(lo δ).bind λl=>(hi δ).map λu=>.tup (cutD ds l u)
 |_=>none
theorem PU {lo hi:Option cE}{fl fh:dO->Option (Option Int)}(he:PO X e f) (hl:L2.PO X lo (tP fl)) (hh:L2.PO X hi (tP fh)):PD X (.Subscript e (.Slice lo hi none p2) pos) (GQ f fl fh):=(A9 (Mq.or OD) he hl hh).imp λσ H Q ⟨C,δ,d,x,q,k⟩=>by
 unfold GQ at q;split at q
 ·rename_i es hf;cases h1:fl δ with
  |none=>rw[h1]at q;cases q
  |some l=>
   cases h2:fh δ with
   |none=>rw[h1,h2]at q;cases q
   |some u=>
    rw[h1,h2]at q;cases q;refine⟨C,δ,_,x,hf,λv C1 H1 e1 i1=>⟨C1,δ,l,x.ev e1,h1,λC2 H2 e2=>⟨C2,δ,u,x.ev (e1.trans e2),h2,λC3 H3 e3=>?_⟩⟩⟩
    obtain⟨p,xs,rfl,hq,ll,hc⟩:=((i1.ev e2).ev e3).tup (K:=X.K) e3.s;have ev:=(e1.trans e2).trans e3;by_cases hw:HT.ij xs.length 0 l=0/\HT.ij xs.length xs.length u=xs.length
    ·exact .inl ⟨p,xs,rfl,hq,hw,k _ C3 H3 ev (.tup hc (ll.PN hw))⟩
    ·exact .inr ⟨p,xs,rfl,hq,hw,λt ht=>k _ _ _ (ev.trans (.new e3.s ht)) (.tup da ((ll.cut l u).mono (eF (e3.s.free ht))))⟩
 ·cases q
end
end DL
namespace DL
open PySem PySem.Spec PyProof.Rows L2
variable [Mem]
section
variable {X:Cx}
end
section
variable {X:Cx}{a b c e o:cE}{pos p p2:Pos}{f g h:cb}{C0 H0:Hp}
noncomputable def ng (c:cc) (f:bZ):Nat->bZ
 |0,_=>none
 |n+1,δ=>match c δ with
  |some true=>(match f δ with
   |some (.next δ')=>ng c f n δ'
   |some (.cont δ')=>ng c f n δ'
   |some (.brk δ')=>some (.next δ')
   |some (.ret r)=>some (.ret r)
   |none=>none)
  |some false=>some (.next δ)
  |none=>none
noncomputable def Aa (n:Nat) (c:cc) (f:bZ):bZ:=ng c f n
theorem Jt (n:Nat) {body:List cF}{q:cc}{f:bZ}(hp:PassesOwn (model X.prog X.w) X.A X.env X.xe) (hc:PQ X c q) (hb:CK X C0 H0 body f):PB X C0 H0 (.While c body [] pos) (Aa n q f):=λB=>by
 refine(HX hp hc (hb B)).imp λDn σ H ⟨C,δ,r,gd,hq,k⟩=>?_
 refine⟨λm σ H=>∃C δ,Gd B C0 H0 δ σ C H/\ng q f m δ=some r,⟨n,C,δ,gd,hq⟩,?_⟩
 rintro m σ1 H1 ⟨C1,δ1,g1,h1⟩
 cases m with
 |zero=>cases h1
 |succ m=>
  unfold ng at h1;split at h1
  ·rename_i vd;refine⟨C1,δ1,true,g1.x,vd,λC2 H2 e2=>xQ ?_⟩
   refine⟨λσ' H'=>∃C' δ',Gd B C0 H0 δ' σ' C' H'/\ng q f m δ'=some r,λσ' H' ⟨C',δ',g',h'⟩=>⟨m,Nat.lt_succ_self m,C',δ',g',h'⟩,?_⟩
   cases Mc:f δ1 with
   |none=>rw[Mc]at h1;cases h1
   |some rb=>
    rw[Mc]at h1;refine⟨C2,δ1,rb,g1.Du e2,Mc,?_⟩;cases rb with
    |next δ'=>exact λσ' C' H' g'=>⟨C',δ',g',h1⟩
    |cont δ'=>exact λσ' C' H' g'=>⟨C',δ',g',h1⟩
    |brk δ'=>cases h1;exact k
    |ret d=>cases h1;exact k
  ·rename_i vd;cases h1;exact⟨C1,δ1,false,g1.x,vd,λC2 H2 e2=>zH (k σ1 C2 H2 (g1.Du e2))⟩
  ·cases h1
end
end DL
namespace DL
open PySem PySem.Spec PyProof.Rows L2
variable [Mem]
variable [Mem]
section
variable {X:Cx}{a b c e o:cE}{pos p p2:Pos}{f g h:cb}
theorem pO (ha:WO X e f) (he:∀whole,isTrue e X.env whole=(do let v <-whole;standAt e.pos;holding [v] (truthy v)):=by intro _;rfl):WQ X e (qT f):=⟨Jp ha.go he⟩
theorem kF (ha:WO X a f) (hb:WO X b g):WD X (.BinOp a .Add b pos) (di jM f g):=⟨Mn ha.go hb.go⟩
end
variable [Mem]
section
variable {X:Cx}{a b c e o:cE}{pos p p2:Pos}{f g h:cb}
theorem PV {lo hi:Option cE}{fl fh:dO->Option (Option Int)}(he:WO X e f) (hl:WP X lo fl) (hh:WP X hi fh):WD X (.Subscript e (.Slice lo hi none p2) pos) (GQ f fl fh):=⟨PU he.go hl.go hh.go⟩
end
variable [Mem]
section
variable {X:Cx}
end
section
variable {X:Cx}{a b c e o:cE}{pos p p2:Pos}{f g h:cb}{C0 H0:Hp}
theorem Bq (n:Nat) {body:List cF}{q:cc}{f:bZ}(hp:PassesOwn (model X.prog X.w) X.A X.env X.xe) (hc:WQ X c q) (hb:vE X C0 H0 body f):WB X C0 H0 (.While c body [] pos) (Aa n q f):=⟨Jt n hp hc.go hb.go⟩
end
end DL
namespace DL
open PySem PySem.Spec PyProof.Rows L2
section
variable [Mem] {X:Cx}{C0 H0:Hp}{st:cF}{pos:Pos}
end
theorem E6 {P:cz}{w:cA}{K:W.Frag}{mg:cj}{base:Heap}{k:Nat}{f:cD}{fd:cy}{ps:List Str}:eA P w K mg base jb k f fd ps (nC λ_=>none):=
 ⟨(λvs H Q E ⟨_,_,_,_,_,q,_⟩=>by cases q),λA outer s H args us vs Q E _ _ _ _ ⟨_,_,_,_,_,q,_⟩=>by cases q⟩
section
variable {X:Cx}{e k o:cE}{es:List cE}{body rest:List cF}{p pos pos' p2:Pos}{x:Str}{a:cD}{M:j8}{C0 H0:Hp}{i:Nat}
end
theorem PX {P:cz}{w:cA}{K:W.Frag}{mg:cj}{base:Heap}{x qual:Str}{st:cF}{f:cD}{fd:cy}{N ps:List Str}{k:Nat}(F:lS K x qual st f fd) (S:du N ps (cK st)) {fb:bZ}
  (kP:∀(fO:cw) (A:cB) (outer:List Env) (s:cx) (H:Hp) (E:XK),gy k (A.deeper (envOfC qual (cK st) s.heap.objs.size f fO))->∀C0 H0,@vE Mem.keep (rN jb P w K mg base N qual (cK st) f fO A outer s H E).EE C0 H0 (dh st) fb):
  eA P w K mg base jb (k+1) f fd ps (nC (gi N.length ps.length fb)):=Nw F S λfO A outer s H E hr C0 H0=>@vE.go Mem.keep _ _ _ _ _ (kP fO A outer s H E hr C0 H0)
end DL
namespace DL
open PySem PySem.Spec PyProof.Rows L2
theorem Ju:bootBuiltins "any"=some (.builtin "any"):=by decide +kernel
section
variable {X:Cx}
theorem Br (hc:X.calm=true):i6 X (.builtin "any") (λxs H Q=>∃(p:cD) (bs:List Bool),xs=[.ref p]/\pf X.K H p (bs.map V.bl)/\Q (.bl (bs.any id)) H):=by
 intro pins s σ H xs us Q I r h;obtain⟨p,bs,rfl,hq,q⟩:=h;obtain⟨u,rfl,r1⟩:=vals1 r;cases r1;obtain⟨dz,rv,pl,hz⟩:=I.list hq;have fM:p<s.heap.objs.size:=by obtain⟨o,n,e,_⟩:=pl;exact az e
 have hlen:=rv.length;rw[ae]at hlen;have Sb:∀(i:Nat) (v:cw),dz.toArray[i]? =some v->v=.bool (bs.getD i false):=λi v hv=>by
  have Lx:dz[i]? =some v:=by simpa using hv
  have hi:i<dz.length:=(List.getElem?_eq_some_iff.mp Lx).1;have g1:(bs.map V.bl)[i]? =some (.bl (bs.getD i false)):=by
   rw[av,ah (by omega),ak,ah (by omega)];rfl
  obtain⟨w,h1,h2⟩:=rv.get g1;rw[Lx]at h1;cases h1;exact h2
 refine call_any_walk (wpAny_pyIter_list pl.isList ⟨s.heap.objs.size,_,_,_,_,_,λi=>bs.getD i false,rfl,Walks.list (A:=X.A.in1) (I.ok.hd hc) s.heap.objs.size p (aD fM) dz.toArray,⟨⟨_,ay _ rfl,rfl,rfl⟩,?_⟩,λi v s' Q' E' hv hQ=>?_,λh' tk kk=>?_⟩)
 ·obtain⟨o,n,e,h1,h2,h3⟩:=pl;exact⟨o,ag _ e,h1,n,h3⟩
 ·rw[Sb i v hv];exact bQ hQ
 ·have I1:L2.Inv X pins σ H {s with heap:=s.heap.push {cls:=.type "list_iterator",data:=.fields #[.ref p,.int 0 0]}}:=I.kept (t':=s.toks) λb o e=>ag _ e
  obtain⟨f0,f1,f2,f3,f4,f5⟩:=I.HY (H':=H) (au _) (I.gb.fresh (au _));have I2:=I1.turned (t':=tk) (h':=h') (it:=s.heap.objs.size) (λb o hb e=>kk b o (by simpa using hb) e) f0 f1 f3 f4 f5
  refine⟨.bl (bs.any id),H,I2,?_,q⟩;show Value.bool _=Value.bool _
  congr 1
  rw[aq,<-hlen];clear Sb hlen;rw[Bool.eq_iff_iff];simp only[bO,List.mem_range,id];constructor
  ·rintro⟨i,hi,h⟩
   rw[ak,ah hi]at h;exact⟨_,List.getElem_mem hi,h⟩
  ·rintro⟨b,hb,h⟩
   obtain⟨i,hi,e⟩:=List.getElem_of_mem hb;refine⟨i,hi,?_⟩;rw[ak,ah hi];show bs[i]=true;rw[e];exact h
noncomputable def GR:cf
 |[.lst ds]=>(nD ds).map λbs=>.bl (bs.any id)
 |_=>none
theorem Ny (hc:X.calm=true):oX X (.builtin "any") GR:=by
 refine⟨_,Br hc,?_⟩;intro C H vs ds d Q s i q k;unfold GR at q;split at q
 ·rename_i es;cases hb:nD es with
  |none=>rw[hb]at q;cases q
  |some bs=>
   rw[hb]at q;cases q;letI:=Mem.keep
   obtain⟨v,rfl,j⟩:=i.one;obtain⟨p,xs,rfl,hq,l⟩:=j.list (K:=X.K) s;rw[wg hb]at l;cases l.Dr;exact⟨p,bs,rfl,hq,k _ C H (.refl s) (.bl _)⟩
 ·cases q
end
end DL
namespace L2
open PySem PySem.Spec PyProof.Rows
section
variable {prog:cz}{w:cA}{A:cB}{E:cg}{s:cx}
theorem Bs {Q:cv->cx->Prop}{t:cD}{vs:cv}(ht:IsTup s.heap t vs.toArray)
  (hQ:Q vs {s with heap:=(s.heap.push (seqObj "list" #[] 0)).update s.heap.objs.size (Obj.mapSeq (·++vs.toArray))}) (hsz:vs.length<=sizeLine):
  wpAny (model prog w) A (collect (.ref t)) Q E s:=by
 obtain⟨o,ho,hc,n,hd⟩:=id ht;unfold collect;refine aa (wpAny_runValue (codeAny_builtin F.entry_proto_collect ?_));rw[bX F.plain_proto_collect _];show wpAny _ A.in1 (newList []>>=λl=>again (.builtin "list.__iadd__" ⟨[l,.ref t],[]⟩)) _ _ s
 refine aa (bR ?_);refine aj ⟨plainId_quiet F.plain_list_iadd _,codeAny_builtin F.entry_list_iadd ?_⟩;rw[bX F.plain_list_iadd _];show wpAny _ A.in1 (Builtin.List.listExtendWith (.ref s.heap.objs.size) (.ref t) (.ref s.heap.objs.size)) _ _ _;have hS:(s.heap.push {cls:=.type "list",data:=.seq ([]:cv).toArray}).get? s.heap.objs.size=some {cls:=.type "list",data:=.seq #[] 0}:=ay _ rfl;have ZL:=Heap.get?_update_self (Obj.mapSeq (·++vs.toArray)) hS rfl
 have Sw:wpAny (model prog w) A (match Value.ref s.heap.objs.size with
   |Value.ref a=>do
    match(<-load a).data with
     |Data.seq xs _=>pure xs.toList
     |_=>unsupported "internal:collect"
   |_=>unsupported "internal:collect") Q E {s with heap:=(s.heap.push {cls:=.type "list",data:=.seq ([]:cv).toArray}).update s.heap.objs.size (Obj.mapSeq (·++vs.toArray))}:=by
  show wpAny _ A (load s.heap.objs.size>>=_) _ _ _;refine aa (wpAny_load ZL ?_);refine aj ?_;have e:((#[]:Array cw)++vs.toArray).toList=vs:=by simp
  show Q ((#[]:Array cw)++vs.toArray).toList _;rw[e];exact hQ
 refine bP (wpAny_extend_seq (hsz:=by rw[aq];exact hsz) (A:=A) (R:=λr s'=>r=.ok (.ret (.ref s.heap.objs.size))/\s'={s with heap:=(s.heap.push {cls:=.type "list",data:=.seq ([]:cv).toArray}).update s.heap.objs.size (Obj.mapSeq (·++vs.toArray))})
  (s:={s with heap:=s.heap.push {cls:=.type "list",data:=.seq ([]:cv).toArray}}) _ t _ 0 (.inr rfl) hS (ag _ ho) hc hd ⟨rfl,rfl⟩) (λfin s' h=>?_) (λe s' h=>?_)
 ·cases fin with
  |done f=>
   obtain⟨e,rfl⟩:=h;cases e;exact Sw
  |again c'=>exact⟨h.1,codeAny_mono h.2 λr HH hr=>by obtain⟨rfl,rfl⟩:=hr;exact Sw⟩
 ·exact absurd h.1 (by simp)
theorem Ab {t:cD}{vs:cv}{ns:cn}{Q:cg}(ht:IsTup s.heap t vs.toArray) (hI:IntsAre vs ns) (DD:vs.length<64)
  (h:∀(out:Array cw) (AY:cn),IntsAre out.toList AY->AY.Perm ns->AY.Pairwise (·<= ·)->Q (.ref (s.heap.objs.size+1)) {s with heap:=sortedAll s.heap vs out}):
  wpAny (model prog w) A (call (.builtin "sorted") [.ref t]) Q E s:=by
 refine Calls.call_function_entry kind_sorted plain_sorted entry_sorted (args_sorted1 _) ?_;unfold Builtin.«sorted»;refine aa (m:=checkCount "sorted" 1 1 _) (aj ?_);refine aa (Bs ht ?_ (by rw[bu];omega))
 refine aa (wpAny_newList ?_ (hsz:=by rw[bu];omega))
 have hsz:((s.heap.push (seqObj "list" #[] 0)).update s.heap.objs.size (Obj.mapSeq (·++vs.toArray))).objs.size=s.heap.objs.size+1:=by
  rw[Heap.size_update,size_push']
 have ED:(((s.heap.push (seqObj "list" #[] 0)).update s.heap.objs.size (Obj.mapSeq (·++vs.toArray))).push (seqObj "list" vs.toArray 0)).get? (s.heap.objs.size+1)=some (seqObj "list" vs.toArray 0):=by
  rw[<-hsz];exact ay _ rfl
 show wpAny _ _ _ _ _ {s with heap:=((s.heap.push (seqObj "list" #[] 0)).update s.heap.objs.size (Obj.mapSeq (·++vs.toArray))).push (seqObj "list" vs.toArray 0)}
 rw[hsz];refine aa (bo (bM slot_list_sort ⟨_,ED,rfl⟩ entry_list_sort (list_sort_tree ED hI DD λout AY a1 a2 a3=>⟨_,rfl,?_⟩) (args_list_sort _)))
 exact aj ⟨_,rfl,h out AY a1 a2 a3⟩
end
section
variable {X:Cx}
theorem sI:i6 X (.builtin "sorted") (λxs H Q=>∃(p:cD) (ns:cn),xs=[.ref p]/\jk X.K H p (ns.map V.int)/\ns.length<64/\∀(l:cD) (ms:cn),H l=none->ms.Perm ns->ms.Pairwise (·<= ·)->Q (.ref l) (upd H l (.lst (ms.map V.int)))):=by
 intro pins s σ H xs us Q I r h;obtain⟨p,ns,rfl,hq,DD,q⟩:=h;obtain⟨u,rfl,rx⟩:=vals1 r;cases rx;obtain⟨dz,rv,pl,hz⟩:=I.tuple hq;have hi:IntsAre dz ns:=intsAre_of rv;have hl:=hi.length;refine Ab pl hi (by omega) λout AY a1 a2 a3=>?_
 obtain⟨e,he⟩:=sortedAll_at s.heap dz out;refine⟨.ref (s.heap.objs.size+1),_,I.laid (t':=s.toks) (o:=.lst (AY.map V.int)) (λb o z=>sortedAll_old z) (Nat.le_succ _) ?_,rfl,q _ AY (I.gb.fresh (Nat.le_succ _)) a2 a3⟩
 refine⟨?_,out.toList,e,qp a1,by simpa using he⟩
 have:=a2.length_eq;rw[ae];exact bg (kb (by omega))
end
end L2
namespace DL
open PySem PySem.Spec PyProof.Rows L2
section
variable {X:Cx}
noncomputable def gk:cu->Option (cu)
 |[.tup ds]=>if ds.length<64 then(intsOf ds).map λns=>(sortI ns).map D.int else none
 |_=>none
theorem qv (hu:X.A.units+64<cLine):EW X (.builtin "sorted") gk:=by
 refine⟨_,sI,?_⟩;intro C H vs ds d Q s i q k;unfold gk at q;split at q
 ·rename_i es;split at q
  ·rename_i DD;cases hn:intsOf es with
   |none=>rw[hn]at q;cases q
   |some ns=>
    rw[hn]at q;cases q;letI:=Mem.keep
    obtain⟨v,rfl,j⟩:=i.one;obtain⟨p,xs,rfl,hq,l,_⟩:=j.tup (K:=X.K) s;have e:=eX hn;subst e;cases l.jm;rw[ae]at DD;refine⟨p,ns,rfl,hq,DD,λt ms ht pm pw=>?_⟩
    have e:ms=sortI ns:=gn (λa b h1 h2=>by omega) (pm.trans (sortI_perm ns).symm) pw (lX ns)
    subst e;exact k t _ C _ (.hU s ht) ht (s.free ht) da (.ints _)
  ·cases q
 ·cases q
end
end DL
namespace DL
open PySem PySem.Spec PyProof.Rows L2
structure OC where
 cl:cD
 fG:Str
 fK:Str
 Mf:D->j8
structure sJ where
 o:cD
 dx:cD
 a:cD
structure gq (Y:OC) (A:sJ) (G:D) (C H:Hp) (xs:List (D×cD×cw)):Prop where
 h:∃fs gv,H A.o=some (.ins Y.cl A.dx fs)/\fs.lookup Y.fG=some gv/\fs.lookup Y.fK=some (.ref A.a)/\(∀m,m≠Y.fG->m≠Y.fK->fs.lookup m=none)/\Is C gv G
 c:C A.o=none
 m:eJ A.a (Y.Mf G) C H xs
section
variable {Y:OC}{A:sJ}{G:D}{C H C' H':Hp}{xs:List (D×cD×cw)}
theorem gq.Sr (m:gq Y A G C H xs) (e:pF C H C' H'):gq Y A G C' H' xs where
 h:=let ⟨fs,gv,h1,h2,h3,h4,h5⟩:=m.h;⟨fs,gv,e.h _ _ h1,h2,h3,h4,h5.mono e.c⟩
 c:=by
  obtain⟨fs,gv,h1,_⟩:=m.h;cases q:C' A.o with
  |none=>rfl
  |some u=>
   rcases e.n A.o u q with z|z
   ·rw[m.c]at z;cases z
   ·rw[h1]at z;cases z
 m:=m.m.Sr e
theorem gq.GK (m:gq Y A G C H xs) {b:cD}{o:HO}(hb:b≠A.o) (PY:b≠A.a):gq Y A G C (upd H b o) xs where
 h:=let ⟨fs,gv,h1,h2⟩:=m.h;⟨fs,gv,by rw[cR (Ne.symm hb)];exact h1,h2⟩
 c:=m.c
 m:=m.m.GK PY
theorem gq.GL (m:gq Y A G C H xs) {b:cD}{o:HO}(hb:b≠A.o) (PY:b≠A.a) (hc:C b=none):gq Y A G (upd C b o) H xs where
 h:=let ⟨fs,gv,h1,h2,h3,h4,h5⟩:=m.h;⟨fs,gv,h1,h2,h3,h4,h5.mono (eF hc)⟩
 c:=by rw[cR (Ne.symm hb)];exact m.c
 m:=m.m.GL PY hc
theorem gq.ne (m:gq Y A G C H xs) {b:cD}(h:∀u,H b=some u->CJ u=false):b≠A.o/\b≠A.a:=by
 refine⟨λz=>?_,m.m.ne h⟩
 obtain⟨fs,gv,h1,_⟩:=m.h;subst z;have:=h _ h1;cases this
theorem gq.QR (m:gq Y A G C H xs) {b:cD}(h:H b=none):b≠A.o/\b≠A.a:=by
 refine⟨λz=>?_,m.m.QR h⟩
 obtain⟨fs,gv,h1,_⟩:=m.h;subst z;rw[h1]at h;cases h
theorem gq.Nz (m:gq Y A G C H xs) {b:cD}{o:HO}(ho:H b=some o) (hx:CJ o=false):b≠A.o/\b≠A.a:=m.ne λu q=>by rw[ho]at q;cases q;exact hx
theorem gq.oa (m:gq Y A G C H xs):A.o≠A.a:=λz=>by
 obtain⟨fs,gv,h1,_⟩:=m.h;have:=m.m.h;rw[<-z,h1]at this;cases this
end
@[reducible] noncomputable def dF (Y:OC) (A:sJ) (G:D):Mem where
 cell:=some A.a
 face:=some A.o
 ok:=λC H=>∃xs,gq Y A G C H xs
 has:=λC H k=>∃xs,gq Y A G C H xs/\k∈xs.map (·.1)
 rel:=λC H C' H'=>((∃xs,gq Y A G C H xs)->∃xs,gq Y A G C' H' xs)/\∀k,(∃xs,gq Y A G C H xs/\k∈xs.map (·.1))->∃xs,gq Y A G C' H' xs/\k∈xs.map (·.1)
 of0:=λe=>⟨λ⟨xs,m⟩=>⟨xs,m.Sr e⟩,λk ⟨xs,m,hk⟩=>⟨xs,m.Sr e,hk⟩⟩
 trans:=λr1 r2=>⟨λh=>r2.1 (r1.1 h),λk h=>r2.2 k (r1.2 k h)⟩
 chg:=λ{_ _ _ _ b o} r hb=>⟨λ⟨xs,m⟩=>let ⟨ys,m'⟩:=r.1 ⟨xs,m⟩;⟨ys,m'.GK (m.QR hb).1 (m.QR hb).2⟩,λk ⟨xs,m,hk⟩=>let ⟨ys,m',DI⟩:=r.2 k ⟨xs,m,hk⟩;⟨ys,m'.GK (m.QR hb).1 (m.QR hb).2,DI⟩⟩
 give:=λ{_ _ _ H' b o} r hc ho hx=>⟨λh=>let ⟨ys,m'⟩:=r.1 h;⟨ys,m'.GL (m'.Nz ho hx).1 (m'.Nz ho hx).2 hc⟩,λk h=>let ⟨ys,m',DI⟩:=r.2 k h;⟨ys,m'.GL (m'.Nz ho hx).1 (m'.Nz ho hx).2 hc,DI⟩⟩
 TR:=λr h=>r.1 h
 LY:=λr _ h=>r.2 _ h
 RX:=λ⟨xs,m⟩ h=>⟨xs,m.GK (m.ne h).1 (m.ne h).2⟩
 IF:=λ_ h ⟨xs,m,hk⟩=>⟨xs,m.GK (m.ne h).1 (m.ne h).2,hk⟩
 TU:=λ{_ _ b o} ⟨xs,m⟩ hc ho hx=>⟨xs,m.GL (m.Nz ho hx).1 (m.Nz ho hx).2 hc⟩
 LZ:=λ{_ _ b o k} _ hc ho hx ⟨xs,m,hk⟩=>⟨xs,m.GL (m.Nz ho hx).1 (m.Nz ho hx).2 hc,hk⟩
noncomputable def nF (G:D) (i:Nat):cb:=λδ=>match δ[i]? with
 |some (.memo _)=>some G
 |_=>none
structure mf (K:W.Frag) (Y:OC):Prop where
 cl:Lz K Y.cl
 nG:pA K Y.cl Y.fG
 nK:pA K Y.cl Y.fK
section
variable {X:Cx}{Y:OC}{A:sJ}{G:D}{C0 H0:Hp}{e k o:cE}{body:List cF}{pos pos' p p2 po:Pos}{i:Nat}
theorem Mr (Z:mf X.K Y) (ho:PE X o (jo i)) (hb:attributeBase o Y.fG X.env (eval o X.env)=eval o X.env):@PD (dF Y A G) X (.Attribute o Y.fG po) (nF G i):=by
 letI:=dF Y A G
 refine(zA ho hb).imp λσ H Q ⟨C,δ,d,x,q,fin⟩=>?_
 unfold nF at q;split at q
 ·rename_i ks hi;cases q;obtain⟨a',h1,h2,⟨xs,m⟩,_⟩:=x.mem i ks hi;cases h1;obtain⟨fs,gv,g1,g2,g3,g4,g5⟩:=m.h;exact⟨.ref A.o,h2,A.o,Y.cl,A.dx,fs,gv,rfl,g1,Z.cl,Z.nG,g2,fin gv C H (.refl x.sub) g5⟩
 ·cases q
theorem PZ {σ:L2.St}{C H:Hp}{δ:dO}{ks:cu}{Q:VK}(Z:mf X.K Y) (x:@Sx (dF Y A G) δ σ C H) (hi:δ[i]? =some (.memo ks)) (q:Q (.ref A.a) H):Ru X.K (jo i) Y.fK σ H Q:=by
 obtain⟨a',h1,h2,⟨xs,m⟩,_⟩:=@Sx.mem (dF Y A G) _ _ _ _ x i ks hi;cases h1;obtain⟨fs,gv,g1,g2,g3,g4,g5⟩:=m.h;exact⟨.ref A.o,h2,A.o,Y.cl,A.dx,fs,_,rfl,g1,Z.cl,Z.nK,g3,q⟩
theorem Jv (fs:List Nat) {fk:cb}{fb:bZ}(hu:X.A.units+64<cLine) (Z:mf X.K Y) (hk:@PD (dF Y A G) X k fk) (ho:PE X o (jo i)) (hb:attributeBase o Y.fK X.env (eval o X.env)=eval o X.env) (Vc:@CK (dF Y A G) X C0 H0 body fb) (hm:behindInMarks .NotIn (.Attribute o Y.fK po)=false):
  @PB (dF Y A G) X C0 H0 (.If (.Compare k [.NotIn] [.Attribute o Y.fK po] pos) body [] pos') (sH i fs fk fb):=λB=>by
 letI:=dF Y A G
 refine(Nf (EI (zZ (a:=A.a) (M:=Y.Mf G) hu) hk (zA ho hb) hm) (Vc B) EF).imp λDn σ H ⟨C,δ,r,gd,q,fin⟩=>?_
 unfold sH at q;split at q
 ·rename_i ks ds δ2 hi Sy Mc;split at q
  ·rename_i hc;obtain⟨c1,c2,c3⟩:=hc;cases q;refine⟨C,δ,.tup ds,gd.x,Sy,λv C1 H1 e1 i1=>?_⟩
   have g1:=gd.Du e1;obtain⟨a',h1,h2,⟨xs,m⟩,h4⟩:=g1.x.mem i ks hi;refine PZ Z g1.x hi ⟨C1,ds,xs,e1.s,i1,c1,c2,rfl,m.m,_,rfl,?_⟩;cases hs:(atKey xs (.tup ds)).isSome with
   |true=>exact zH (fin σ C1 H1 ((g1.E5 hi ⟨xs,m,uu.mp hs⟩).weak (Bp fs δ i _ ks)))
   |false=>exact xQ ⟨C1,δ,.next δ2,g1,Mc,λσ' C' H' g'=>fin σ' C' H' (g'.weak c3)⟩
  ·cases q
 ·cases q
theorem GS {fk:cb}(hu:X.A.units+64<cLine) (Z:mf X.K Y) (ho:PE X o (jo i)) (hb:attributeBase o Y.fK X.env (eval o X.env)=eval o X.env) (hk:@PD (dF Y A G) X k fk) (hs:qo k):@PD (dF Y A G) X (.Subscript (.Attribute o Y.fK po) k pos) (pL (Y.Mf G) i fk):=by
 letI:=dF Y A G
 refine(Nn (Mo (a:=A.a) (M:=Y.Mf G) hu) (zA ho hb) hk hs).imp λσ H Q ⟨C,δ,d,x,q,fin⟩=>?_
 unfold pL at q;split at q
 ·rename_i ks ds hi Sy;split at q
  ·rename_i hc;obtain⟨c1,c2,c3⟩:=hc;refine PZ Z x hi ⟨C,δ,.tup ds,x,Sy,λv C1 H1 e1 i1=>?_⟩
   obtain⟨a',h1,_,_,h4⟩:=(x.ev e1).mem i ks hi;obtain⟨xs,m,hx⟩:=h4 _ c3;refine⟨C1,ds,xs,e1.s,rfl,i1,c1,c2,m.m,hx,λw d' hw iw=>?_⟩
   rw[q]at hw;cases hw;exact fin w C1 H1 e1 iw
  ·cases q
 ·cases q
theorem DJ {C H:Hp}{xs ys:List (D×cD×cw)}(s:dU C H) (m:gq Y A G C H xs) (m':eJ A.a (Y.Mf G) C (upd H A.a (.ext (mS A.a ys))) ys) (hk:∀k,(∃zs,eJ A.a (Y.Mf G) C H zs/\k∈zs.map (·.1))->k∈ys.map (·.1)):
  gq Y A G C (upd H A.a (.ext (mS A.a ys))) ys/\@Ev (dF Y A G) C H C (upd H A.a (.ext (mS A.a ys))):=by
 letI:=dF Y A G
 have m2:gq Y A G C (upd H A.a (.ext (mS A.a ys))) ys:=⟨let ⟨fs,gv,h1,h2⟩:=m.h;⟨fs,gv,by rw[cR m.oa];exact h1,h2⟩,m.c,m'⟩
 refine⟨m2,dU.refl _,λb o q h=>?_,λb o q h x=>?_,λb u q=>?_,λb u q=>.inl q,⟨λ_=>⟨ys,m2⟩,λk ⟨zs,mz,hz⟩=>⟨ys,m2,hk k ⟨zs,mz.m,hz⟩⟩⟩⟩
 ·have:b≠A.a:=λz=>by
   subst z;rcases h with h|h
   ·exact h rfl
   ·rw[m.m.h]at q;cases q;cases h
  rw[cR this];exact q
 ·cases h;exact⟨_,da,rfl⟩
 ·rw[cR (cV q m.m.c)];exact s b u q
theorem GU {fk fe:cb}(hu:X.A.units+64<cLine) (Z:mf X.K Y) (he:@PD (dF Y A G) X e fe) (ho:PE X o (jo i)) (hb:attributeBase o Y.fK X.env (eval o X.env)=eval o X.env) (hk:@PD (dF Y A G) X k fk)
  (ha:∀v,assign (.Subscript (.Attribute o Y.fK po) k p) X.env v=(do
   let ov <-holding [v] (eval (.Attribute o Y.fK po) X.env)
   let iv <-holding [v,ov] (eval k X.env)
   standAt p
   holding [v,ov,iv] (setItem ov iv v)
   release [v,ov,iv] []))
  (hs:swapsWithSole [.Subscript (.Attribute o Y.fK po) k p] e pos.line X.env=pure false) (hw:swappedStores [.Subscript (.Attribute o Y.fK po) k p] e X.env=pure none) (h1:(assignEach [.Subscript (.Attribute o Y.fK po) k p] X.env).map (·.2)=[assign (.Subscript (.Attribute o Y.fK po) k p) X.env]):
  @PB (dF Y A G) X C0 H0 (.Assign [.Subscript (.Attribute o Y.fK po) k p] e pos) (pM (Y.Mf G) i fk fe):=λB=>by
 letI:=dF Y A G
 refine(Oe he (Od (zA ho hb) hk (Jr (a:=A.a) (M:=Y.Mf G) hu) ha) hs hw h1).imp λDn σ H ⟨C,δ,r,gd,q,fin⟩=>?_
 unfold pM at q;split at q
 ·rename_i ks ds d hi Sy Ph;split at q
  ·rename_i hc;cases q;refine⟨C,δ,d,gd.x,Ph,λv C1 H1 e1 i1=>?_⟩
   have g1:=gd.Du e1;refine PZ Z g1.x hi ⟨C1,δ,.tup ds,g1.x,Sy,λkv C2 H2 e2 i2=>?_⟩
   have g2:=g1.Du e2;obtain⟨a',z1,z2,⟨xs,m⟩,_⟩:=g2.x.mem i ks hi;refine⟨C2,ds,d,xs,e2.s,rfl,i2,i1.mono e2.c,hc,m.m,λys m' DI o4=>fin σ C2 _ ?_⟩
   obtain⟨m2,ev⟩:=DJ e2.s m m' DI;exact(g2.Du ev).E5 hi ⟨ys,m2,o4⟩
  ·cases q
 ·cases q
end
end DL
namespace DL
open PySem PySem.Spec PyProof.Rows L2
noncomputable def HM (Y:OC) (g:cf):Sp:=λvs H Q _=>∃C G ds d A ws,dU C H/\vs=.ref A.o::ws/\IsL C ws ds/\(∃xs,gq Y A G C H xs)/\g (G::ds)=some d/\∀v C' H',@Ev (dF Y A G) C H C' H'->Is C' v d->Q v H'
noncomputable def mh (i:Nat) (G:D) (g:cf) (f:bY):cb:=λδ=>match δ[i]? with
 |some (.memo _)=>(f δ).bind λds=>g (G::ds)
 |_=>none
noncomputable def sL (g:cf) (fg:cb) (fa:bY):cb:=λδ=>(fg δ).bind λG=>(fa δ).bind λds=>g (G::ds)
section
variable {X:Cx}{Y:OC}{A:sJ}{G:D}{C0 H0:Hp}{e o:cE}{es:List cE}{pos p po apos:Pos}{i k:Nat}{m x:Str}{f:cD}{fd:cy}{ps:List Str}{g:cf}{fa:bY}
theorem Jw {pl:Sem Bool}(Z:mf X.K Y) (ho:PE X o (jo i)) (hm:Meth X.K Y.cl m f) (h1:m≠Y.fG) (h2:m≠Y.fK) (F:eA X.prog X.w X.K X.mg X.base jb k f fd ps (HM Y g)) (hr:gy k X.A) (hb:Binds X.K fd ps []) (ha:@HK (dF Y A G) X (e::es) fa)
  (qN:starEach (e::es) X.env=(false,eval e X.env)::starEach es X.env) (kO:(backTo pos (starEach es X.env)).any (·.1)=false)
  (ht:eval (.Call (.Attribute o m apos) (e::es) [] pos) X.env=(do
   let ov <-eval o X.env
   standAt apos.atName
   let (f,first) <-holding [ov] (getMethod ov m pl)
   callWith pos f first (backTo pos (starEach (e::es) X.env)) (backToKw pos (keywordEach [] X.env)))):
  @PD (dF Y A G) X (.Call (.Attribute o m apos) (e::es) [] pos) (mh i G g fa):=by
 letI:=dF Y A G
 refine(EJ ho Z.cl hm F hr hb .nil EN ha qN kO ht).imp λσ H Q ⟨C,δ,d,x,q,fin⟩=>?_
 unfold mh at q;split at q
 ·rename_i ks hi;cases hf:fa δ with
  |none=>rw[hf]at q;cases q
  |some ds=>
   rw[hf]at q;simp only[ao]at q;obtain⟨a',z1,z2,⟨xs,mm⟩,_⟩:=x.mem i ks hi;cases z1;obtain⟨fs,gv,g1,g2,g3,g4,g5⟩:=mm.h;refine⟨.ref A.o,z2,A.o,A.dx,fs,rfl,g1,g4 m h1 h2,C,δ,ds,x,hf,λvs C1 H1 e1 i1=>?_⟩
   obtain⟨_,_,_,ok,_⟩:=(x.ev e1).mem i ks hi;show HM Y g (V.ref A.o::(vs++[])) H1 Q E0;rw[bB];exact⟨C1,G,ds,d,A,vs,e1.s,rfl,i1,ok,q,λv C2 H2 e2 i2=>fin v C2 H2 (e1.trans e2) i2⟩
 ·cases q
end
noncomputable def nH (n np:Nat) (fb:D->bZ):cf
 |G::ds=>if ds.length+1=np/\0<np then(match fb G (startM n np 0 ds)with|some (.ret d)=>some d|some (.next _)=>some .eU|_=>none)else none
 |[]=>none
theorem P0 {P:cz}{w:cA}{K:W.Frag}{mg:cj}{base:Heap}{x qual:Str}{st:cF}{f:cD}{fd:cy}{N ps:List Str}{k:Nat}(Y:OC) (F:lS K x qual st f fd) (S:du N ps (cK st)) {fb:D->bZ}
  (kP:∀(A:sJ) (G:D) (fO:cw) (Ar:cB) (outer:List Env) (s:cx) (H:Hp) (E:XK),gy k (Ar.deeper (envOfC qual (cK st) s.heap.objs.size f fO))->∀C0 H0,@CK (dF Y A G) (rN jb P w K mg base N qual (cK st) f fO Ar outer s H E).EE C0 H0 (dh st) (fb G)):
  eA P w K mg base jb (k+1) f fd ps (HM Y (nH N.length ps.length fb)):=by
 refine F.ok S (λvs H Q E h=>?_) (λfO Ar outer s H vs Q E hr h=>?_)
 ·obtain⟨C,G,ds,d,A,ws,_,rfl,i,_,q,_⟩:=h;simp only[nH]at q;split at q
  ·rename_i hl;have h1:=i.length;rw[ax];omega
  ·cases q
 ·obtain⟨C,G,ds,d,A,ws,sub,rfl,i,ok,q,fin⟩:=h;letI:=dF Y A G
  refine⟨tS C C H (fb G),kP A G fO Ar outer s H E hr C H C,?_⟩;simp only[nH]at q;split at q
  case isFalse=>cases q
  rename_i hl;obtain⟨hl,ID⟩:=hl;have hN:ps.length<=N.length:=by have:=S.pre;rw[<-this,bJ];omega
  have lv:(V.ref A.o::ws).length=ps.length:=by
   have h1:=i.length;rw[ax];omega
  have sg:∀n:Nat,n<(V.ref A.o::ws).length->(L2.start N (V.ref A.o::ws))[n]? =some (V.ref A.o::ws)[n]? :=λn hn=>by
   unfold L2.start;rw[aJ (by rw[ae];exact hn),av,ah hn];rfl
  have noOwn:∀n es,(startM N.length ps.length 0 ds)[n]? ≠some (Sl.own es):=λn es e=>by
   rw[rT hl ID]at e;split at e
   ·cases hd:ds[n]? with
    |none=>rw[hd]at e;cases e
    |some d'=>rw[hd]at e;cases e
   ·split at e
    ·cases e
    ·split at e
     ·cases hd:ds[n-1]? with
      |none=>rw[hd]at e;cases e
      |some d'=>rw[hd]at e;cases e
     ·split at e<;>cases e
  have sx:Sx (startM N.length ps.length 0 ds) (L2.start N (V.ref A.o::ws)) C H:=by
   refine⟨sub,λn d e=>?_,λn es e=>absurd e (noOwn n es),λn m es fs a e=>absurd e (noOwn n es),?_,λn ks e=>?_⟩
   ·rw[rT hl ID]at e;split at e
    ·rename_i h1;omega
    ·split at e
     ·cases e
     ·rename_i h1 h2;split at e
      ·rename_i h3;cases hd:ds[n-1]? with
       |none=>rw[hd]at e;cases e
       |some d'=>
        rw[hd]at e;cases e;obtain⟨v,g1,g2⟩:=i.get hd;refine⟨v,?_,g2⟩;rw[sg n (by omega)]
        obtain⟨n',rfl⟩:∃n',n=n'+1:=⟨n-1,by omega⟩
        rw[aK];exact congrArg some g1
      ·split at e<;>cases e
   ·unfold L2.start startM;simp only[aQ,ae,List.length_replicate,ax,bJ,List.length_drop];have h1:=i.length;omega
   ·rw[rT hl ID]at e;split at e
    ·rename_i h1;omega
    ·split at e
     ·rename_i h2;subst h2;cases e;exact⟨A.o,rfl,by rw[sg 0 (by omega)];rfl,ok,λk hk=>by cases hk⟩
     ·split at e
      ·cases hd:ds[n-1]? with
       |none=>rw[hd]at e;cases e
       |some d'=>rw[hd]at e;cases e
      ·split at e<;>cases e
  have gd:Gd C C H (startM N.length ps.length 0 ds) (L2.start N (V.ref A.o::ws)) C H:=⟨dU.refl _,.refl sub,sx,λn es a e _=>absurd e (noOwn n es)⟩
  split at q
  ·rename_i d' hf;cases q;exact⟨C,_,_,gd,hf,λv C' H' ev i'=>fin v C' H' ev i'⟩
  ·rename_i δ' hf;cases q;exact⟨C,_,_,gd,hf,λσ' C' H' g'=>fin .eU C' H' g'.ev .eU⟩
  ·cases q
noncomputable def wD (Y:OC) (H:Hp) (x dx p:cD) (gv:V):Hp:=upd (upd (upd H x (.ins Y.cl dx (oj Y.fG gv []))) p (.ext (mS p []))) x (.ins Y.cl dx (oj Y.fK (.ref p) (oj Y.fG gv [])))
noncomputable def Jx (Y:OC):TS:=λDn σ H=>∃x dx gv,σ[0]? =some (some (.ref x))/\σ[1]? =some (some gv)/\H x=some (.ins Y.cl dx [])/\∀p,p≠x->H p=none->(p==sysModules)=false->Dn.nx σ (wD Y H x dx p gv)
noncomputable def Ac (Y:OC):Sp:=λvs H Q _=>∃x dx gv,vs=[.ref x,gv]/\H x=some (.ins Y.cl dx [])/\∀p,p≠x->H p=none->(p==sysModules)=false->Q .eU (wD Y H x dx p gv)
section
variable {X:Cx}{Y:OC}{e0 e1 e2:cE}{p1 p2 p3 p4 p5:Pos}
theorem Jy (Z:mf X.K Y) (h0:PE X e0 (jo 0)) (h1:PE X e1 (jo 1)) (h2:PE X e2 (jo 0))
  (s1:swapsWith e1 (some (.Attribute e0 Y.fG p1)) p2.line X.env=pure false) (s2:swapsWith (.Dict [] [] p4) (some (.Attribute e2 Y.fK p3)) p5.line X.env=pure false):
  xK X [.Assign [.Attribute e0 Y.fG p1] e1 p2,.Assign [.Attribute e2 Y.fK p3] (.Dict [] [] p4) p5] (Jx Y):=λpins s σ H Dn I h=>by
 obtain⟨x,dx,gv,q0,q1,hx,fin⟩:=h;refine vT (Ii h0 h1 s1) (EG (Ii h2 (Mp (pos:=p4)) s2)) pins s σ H Dn I ?_;refine⟨gv,q1,.ref x,q0,x,Y.cl,dx,[],rfl,hx,Z.cl,Z.nG,by decide,?_⟩
 intro p hp hs;have ja:p≠x:=λz=>by subst z;rw[da]at hp;cases hp
 refine⟨.ref x,q0,x,Y.cl,dx,_,rfl,by rw[cR (Ne.symm ja),da],Z.cl,Z.nK,by show(1:Nat)<1000;decide,?_⟩
 exact fin p ja (by rw[cR ja]at hp;exact hp) hs
end
theorem Ms {P:cz}{w:cA}{K:W.Frag}{mg:cj}{base:Heap}{x qual:Str}{st:cF}{f:cD}{fd:cy}{N:List Str}{p1 p2:Str}{k:Nat}(Y:OC) (F:lS K x qual st f fd) (S:du N [p1,p2] (cK st)) (hN:N.length=2)
  (kP:∀(fO:cw) (Ar:cB) (outer:List Env) (s:cx) (H:Hp) (E:XK),xK (rN jb P w K mg base N qual (cK st) f fO Ar outer s H E).EE (dh st) (Jx Y)):
  eA P w K mg base jb (k+1) f fd [p1,p2] (Ac Y):=by
 refine F.ok S (λvs H Q E h=>?_) (λfO Ar outer s H vs Q E hr h=>?_)
 ·obtain⟨x,dx,gv,rfl,_⟩:=h;rfl
 ·obtain⟨x,dx,gv,rfl,hx,fin⟩:=h;refine⟨Jx Y,kP fO Ar outer s H E,x,dx,gv,?_,?_,hx,fin⟩<;>rfl
noncomputable def Jz (Y:OC) (fg:cb):TE:=λσ H Q=>∃C δ G,@Sx Mem.keep δ σ C H/\fg δ=some G/\∀A C' H',pF C H C' H'->H A.o=none->H A.a=none->gq Y A G C' H' []->Q (.ref A.o) H'
section
variable {X:Cx}{Y:OC}{A:sJ}{G:D}{C0 H0:Hp}{e o:cE}{es:List cE}{pos p po apos:Pos}{i k:Nat}{m x:Str}{f:cD}{fd:cy}{ps:List Str}{g:cf}{fa:bY}{fg:cb}{rest:List cF}
theorem Mt (Z:mf X.K Y) (Vd:Y.fK≠Y.fG) (M:Mk X.K Y.cl f) (F:eA X.prog X.w X.K X.mg X.base jb k f fd ps (Ac Y)) (hr:gy (k+1) X.A) (hg:Gl X x) (hm:X.mg x=some (.ref Y.cl)) (hb:Binds X.K fd ps [])
  (ha:@PD Mem.keep X e fg) (sk:(x==("__debug__":Str))=false:=by decide) (he:starEach [e] X.env=(false,eval e X.env)::starEach [] X.env:=by exact eL rfl) (kO:(backTo pos (starEach [] X.env)).any (·.1)=false:=by exact fu rfl):
  PE X (.Call (.Name x p) [e] [] pos) (Jz Y fg):=by
 letI:=Mem.keep
 refine(LC M F hr hg hm hb .nil EN (qm ha ua he) sk he kO).imp λσ H Q ⟨C,δ,G,sx,q,fin⟩=>?_
 refine⟨C,δ,G,sx,q,λv C1 H1 e1 i1=>?_⟩
 intro x dx hx NA ja;refine⟨x,dx,v,rfl,da,λp hp TY CL=>⟨rfl,?_⟩⟩
 have e1:=e1.uQ;have ZM:p≠dx:=λz=>by
  subst z;rw[cR hp,da]at TY;cases TY
 have Lg:H1 p=none:=by rw[cR hp,cR ZM]at TY;exact TY
 have hH:∀b,b≠x->b≠p->b≠dx->wD Y (upd (upd H1 dx (.own x)) x (.ins Y.cl dx [])) x dx p v b=H1 b:=λb n1 n2 n3=>by
  unfold wD;rw[cR n1,cR n2,cR n1,cR n1,cR n3]
 have ev:pF C1 H1 C1 (wD Y (upd (upd H1 dx (.own x)) x (.ins Y.cl dx [])) x dx p v):=by
  refine⟨dU.refl _,λb u q=>?_,λb u q=>?_,λb u q=>.inl q⟩
  ·rw[hH b (cV q hx) (cV q Lg) (cV q NA)];exact q
  ·have q':=e1.s b u q;rw[hH b (cV q' hx) (cV q' Lg) (cV q' NA)];exact q'
 refine fin ⟨x,dx,p⟩ C1 _ (e1.trans ev) (e1.h.free hx) (e1.h.free Lg) ⟨⟨_,v,da,?_,?_,λm h1 h2=>?_,i1⟩,e1.s.free hx,DH (e1.s.free Lg) CL ?_⟩
 ·rw[ip,if_neg (Ne.symm Vd),ip,if_pos rfl]
 ·rw[ip,if_pos rfl]
 ·rw[ip,if_neg h2,ip,if_neg h1];rfl
 ·show wD Y _ x dx p v p=_;unfold wD;rw[cR hp,da]
theorem Mu {C H C1 H1 C2 H2:Hp}(e1:pF C H C1 H1) (hn:H A.a=none) (e2:@Ev (dF Y A G) C1 H1 C2 H2):pF C H C2 H2:=by
 letI:=dF Y A G
 refine⟨e1.c.trans e2.c,λb o q=>?_,e2.s,λb u q=>?_⟩
 ·have hb:b≠A.a:=λz=>by subst z;rw[hn]at q;cases q
  exact e2.h b o (e1.h b o q) (.inl λz=>hb (aS z).symm)
 ·rcases e2.n b u q with z|z
  ·exact e1.n b u z
  ·exact .inr (e1.h.free z)
theorem DK {pl:Sem Bool}(Z:mf X.K Y) (ho:PE X o (Jz Y fg)) (hm:Meth X.K Y.cl m f) (h1:m≠Y.fG) (h2:m≠Y.fK) (F:eA X.prog X.w X.K X.mg X.base jb k f fd ps (HM Y g)) (hr:gy k X.A) (hb:Binds X.K fd ps []) (ha:@HK Mem.keep X (e::es) fa)
  (qN:starEach (e::es) X.env=(false,eval e X.env)::starEach es X.env) (kO:(backTo pos (starEach es X.env)).any (·.1)=false)
  (ht:eval (.Call (.Attribute o m apos) (e::es) [] pos) X.env=(do
   let ov <-eval o X.env
   standAt apos.atName
   let (f,first) <-holding [ov] (getMethod ov m pl)
   callWith pos f first (backTo pos (starEach (e::es) X.env)) (backToKw pos (keywordEach [] X.env)))):
  @PD Mem.keep X (.Call (.Attribute o m apos) (e::es) [] pos) (sL g fg fa):=by
 letI:=Mem.keep
 refine(EJ ho Z.cl hm F hr hb .nil EN ha qN kO ht).imp λσ H Q ⟨C,δ,d,x,q,fin⟩=>?_
 unfold sL at q;cases hG:fg δ with
 |none=>rw[hG]at q;cases q
 |some G=>
  cases hf:fa δ with
  |none=>rw[hG,hf]at q;cases q
  |some ds=>
   rw[hG,hf]at q;simp only[ao]at q;refine⟨C,δ,G,x,hG,λA C1 H1 e1 n1 n2 mm=>?_⟩
   obtain⟨fs,gv,g1,g2,g3,g4,g5⟩:=mm.h;refine⟨A.o,A.dx,fs,rfl,g1,g4 m h1 h2,C1,δ,ds,x.ev e1.up,hf,λvs C2 H2 e2 i2=>?_⟩
   show HM Y g (V.ref A.o::(vs++[])) H2 Q E0;rw[bB];have Ve:=e2.uQ;exact⟨C2,G,ds,d,A,vs,Ve.s,rfl,i2,⟨[],mm.Sr Ve⟩,q,λv C3 H3 e3 i3=>fin v C3 H3 (Mu (e1.trans Ve) n2 e3).up i3⟩
end
end DL
namespace DL
open PySem PySem.Spec PyProof.Rows L2
def lB (P:cz) (w:cA) (K:W.Frag) (mg:cj) (base:Heap) (k:Nat) (Y:OC) (m:Str) (g:cf):Prop:=
 ∃f fd ps,eA P w K mg base jb k f fd ps (HM Y g)/\Meth K Y.cl m f/\Binds K fd ps []/\m≠Y.fG/\m≠Y.fK
theorem lB.mono {P:cz}{w:cA}{K:W.Frag}{mg:cj}{base:Heap}{k l:Nat}{Y:OC}{m:Str}{g:cf}(c:lB P w K mg base k Y m g) (h:k<=l):lB P w K mg base l Y m g:=
 let ⟨f,fd,ps,F,r⟩:=c;⟨f,fd,ps,F.mono h,r⟩
def uv (P:cz) (w:cA) (K:W.Frag) (mg:cj) (base:Heap) (k:Nat) (Y:OC) (x:Str):Prop:=
 ∃f fd ps,eA P w K mg base jb k f fd ps (Ac Y)/\Mk K Y.cl f/\mg x=some (.ref Y.cl)/\Binds K fd ps []/\Y.fK≠Y.fG
theorem uv.mono {P:cz}{w:cA}{K:W.Frag}{mg:cj}{base:Heap}{k l:Nat}{Y:OC}{x:Str}(c:uv P w K mg base k Y x) (h:k<=l):uv P w K mg base l Y x:=
 let ⟨f,fd,ps,F,r⟩:=c;⟨f,fd,ps,F.mono h,r⟩
theorem Bu {P:cz}{w:cA}{K:W.Frag}{mg:cj}{base:Heap}{k:Nat}{f:cD}{fd:cy}{ps:List Str}{Y:OC}:eA P w K mg base jb k f fd ps (HM Y λ_=>none):=
 ⟨(λvs H Q E ⟨_,_,_,_,_,_,_,_,_,_,q,_⟩=>by cases q),λA outer s H args us vs Q E _ _ _ _ ⟨_,_,_,_,_,_,_,_,_,_,q,_⟩=>by cases q⟩
structure Sz (X:Cx) (Y:OC) (e:cE) (f:cb):Prop where
 go:PE X e (Jz Y f)
section
variable {X:Cx}{Y:OC}{A:sJ}{G:D}{C0 H0:Hp}{e k o:cE}{es:List cE}{body rest:List cF}{pos pos' p p2 po apos:Pos}{i l:Nat}{m x:Str}{g:cf}{fa:bY}{fg:cb}
theorem vF (Z:mf X.K Y) (ho:PE X o (jo i)) (hb:attributeBase o Y.fG X.env (eval o X.env)=eval o X.env:=by rfl):@WD (dF Y A G) X (.Attribute o Y.fG po) (nF G i):=by
 letI:=dF Y A G
 exact⟨Mr Z ho hb⟩
theorem JA (fs:List Nat) {fk:cb}{fb:bZ}(hu:X.A.units+64<cLine) (Z:mf X.K Y) (hk:@WD (dF Y A G) X k fk) (ho:PE X o (jo i)) (Vc:@vE (dF Y A G) X C0 H0 body fb) (hb:attributeBase o Y.fK X.env (eval o X.env)=eval o X.env:=by rfl) (hm:behindInMarks .NotIn (.Attribute o Y.fK po)=false:=by first|exact vV _|rfl):
  @WB (dF Y A G) X C0 H0 (.If (.Compare k [.NotIn] [.Attribute o Y.fK po] pos) body [] pos') (sH i fs fk fb):=by
 letI:=dF Y A G
 exact⟨Jv fs hu Z hk.go ho hb Vc.go hm⟩
theorem GV {fk:cb}(hu:X.A.units+64<cLine) (Z:mf X.K Y) (ho:PE X o (jo i)) (hk:@WD (dF Y A G) X k fk) (hs:qo k) (hb:attributeBase o Y.fK X.env (eval o X.env)=eval o X.env:=by rfl):@WD (dF Y A G) X (.Subscript (.Attribute o Y.fK po) k pos) (pL (Y.Mf G) i fk):=by
 letI:=dF Y A G
 exact⟨GS hu Z ho hb hk.go hs⟩
theorem GW {fk fe:cb}(hu:X.A.units+64<cLine) (Z:mf X.K Y) (he:@WD (dF Y A G) X e fe) (ho:PE X o (jo i)) (hk:@WD (dF Y A G) X k fk) (hb:attributeBase o Y.fK X.env (eval o X.env)=eval o X.env:=by rfl)
  (ha:∀v,assign (.Subscript (.Attribute o Y.fK po) k p) X.env v=(do
   let ov <-holding [v] (eval (.Attribute o Y.fK po) X.env)
   let iv <-holding [v,ov] (eval k X.env)
   standAt p
   holding [v,ov,iv] (setItem ov iv v)
   release [v,ov,iv] []):=by intro _;rfl)
  (hs:swapsWithSole [.Subscript (.Attribute o Y.fK po) k p] e pos.line X.env=pure false:=by rfl) (hw:swappedStores [.Subscript (.Attribute o Y.fK po) k p] e X.env=pure none:=by rfl) (h1:(assignEach [.Subscript (.Attribute o Y.fK po) k p] X.env).map (·.2)=[assign (.Subscript (.Attribute o Y.fK po) k p) X.env]:=by rfl):
  @WB (dF Y A G) X C0 H0 (.Assign [.Subscript (.Attribute o Y.fK po) k p] e pos) (pM (Y.Mf G) i fk fe):=by
 letI:=dF Y A G
 exact⟨GU hu Z he.go ho hb hk.go ha hs hw h1⟩
theorem sM {pl:Sem Bool}(Z:mf X.K Y) (c:lB X.prog X.w X.K X.mg X.base l Y m g) (hr:gy l X.A) (ho:PE X o (jo i)) (ha:@Jj (dF Y A G) X (e::es) fa)
  (qN:starEach (e::es) X.env=(false,eval e X.env)::starEach es X.env:=by exact eL rfl) (kO:(backTo pos (starEach es X.env)).any (·.1)=false:=by exact fu rfl)
  (ht:eval (.Call (.Attribute o m apos) (e::es) [] pos) X.env=(do
   let ov <-eval o X.env
   standAt apos.atName
   let (f,first) <-holding [ov] (getMethod ov m pl)
   callWith pos f first (backTo pos (starEach (e::es) X.env)) (backToKw pos (keywordEach [] X.env))):=by rfl):
  @WD (dF Y A G) X (.Call (.Attribute o m apos) (e::es) [] pos) (mh i G g fa):=by
 obtain⟨f,fd,ps,F,hm,hb,h1,h2⟩:=c;letI:=dF Y A G
 exact⟨Jw Z ho hm h1 h2 F hr hb ha.go qN kO ht⟩
theorem Vf (Z:mf X.K Y) (c:uv X.prog X.w X.K X.mg X.base l Y x) (hr:gy (l+1) X.A) (hg:Gl X x) (ha:@WD Mem.keep X e fg) (sk:(x==("__debug__":Str))=false:=by decide) (he:starEach [e] X.env=(false,eval e X.env)::starEach [] X.env:=by exact eL rfl) (kO:(backTo pos (starEach [] X.env)).any (·.1)=false:=by exact fu rfl):
  Sz X Y (.Call (.Name x p) [e] [] pos) fg:=by
 obtain⟨f,fd,ps,F,M,hm,hb,Vd⟩:=c;exact⟨Mt Z Vd M F hr hg hm hb (@WD.go Mem.keep _ _ _ ha) sk he kO⟩
theorem DM {pl:Sem Bool}(Z:mf X.K Y) (c:lB X.prog X.w X.K X.mg X.base l Y m g) (hr:gy l X.A) (ho:Sz X Y o fg) (ha:@Jj Mem.keep X (e::es) fa)
  (qN:starEach (e::es) X.env=(false,eval e X.env)::starEach es X.env:=by exact eL rfl) (kO:(backTo pos (starEach es X.env)).any (·.1)=false:=by exact fu rfl)
  (ht:eval (.Call (.Attribute o m apos) (e::es) [] pos) X.env=(do
   let ov <-eval o X.env
   standAt apos.atName
   let (f,first) <-holding [ov] (getMethod ov m pl)
   callWith pos f first (backTo pos (starEach (e::es) X.env)) (backToKw pos (keywordEach [] X.env))):=by rfl):
  @WD Mem.keep X (.Call (.Attribute o m apos) (e::es) [] pos) (sL g fg fa):=by
 obtain⟨f,fd,ps,F,hm,hb,h1,h2⟩:=c;exact @WD.mk Mem.keep _ _ _ (DK Z ho.go hm h1 h2 F hr hb (@Jj.go Mem.keep _ _ _ ha) qN kO ht)
end
theorem vG {P:cz}{w:cA}{K:W.Frag}{mg:cj}{base:Heap}{x qual:Str}{st:cF}{f:cD}{fd:cy}{N ps:List Str}{k:Nat}(Y:OC) (F:lS K x qual st f fd) (S:du N ps (cK st)) {fb:D->bZ}
  (kP:∀(A:sJ) (G:D) (fO:cw) (Ar:cB) (outer:List Env) (s:cx) (H:Hp) (E:XK),gy k (Ar.deeper (envOfC qual (cK st) s.heap.objs.size f fO))->∀C0 H0,@vE (dF Y A G) (rN jb P w K mg base N qual (cK st) f fO Ar outer s H E).EE C0 H0 (dh st) (fb G)):
  eA P w K mg base jb (k+1) f fd ps (HM Y (nH N.length ps.length fb)):=P0 Y F S λA G fO Ar outer s H E hr C0 H0=>@vE.go (dF Y A G) _ _ _ _ _ (kP A G fO Ar outer s H E hr C0 H0)
end DL
namespace DL
open PySem PySem.Spec PyProof.Rows L2
end DL
namespace DL
open PySem PySem.Spec PyProof.Rows L2
section
variable {K:W.Frag}{Ce Cf Cn ea:cD}{oe:Obj}
end
end DL
namespace DL
open PySem PySem.Spec PyProof.Rows L2
section
variable {P:cz}{w:cA}{K:W.Frag}{mg:cj}{base:Heap}{N:List Str}{qual:Str}{scope:Scope}{f:cD}{cd:cw}{A:cB}{outer:List Env}{s0:cx}{H0:Hp}{E:XK}{Ce:cD}
end
section
variable {X:Cx}{k:Nat}
end
end DL
namespace DL
open PySem PySem.Spec PyProof.Rows L2
section
variable {X:Cx}{k:Nat}
end
section
variable [Mem] {X:Cx}{E:XK}{Ce:cD}{C0 H0:Hp}{st:cF}{body rest:List cF}{c:cE}{pos:Pos}
end
end DL
namespace DL
open PySem PySem.Spec PyProof.Rows L2
section
variable [Mem] {X:Cx}{E:XK}{Ce Cf Cn:cD}{C0 H0:Hp}{k:Nat}
end
end DL
namespace DL
open PySem PySem.Spec PyProof.Rows L2
section
variable {X:Cx}{ea:cD}{oe:Obj}{pins:ck}{σ:L2.St}{H:Hp}{s:cx}
end
section
variable [Mem] {X:Cx}{ea Ce Cf Cn:cD}{oe:Obj}{n c:Str}{p p1 p2 pos:Pos}{j:Nat}{b:Bool}
end
end DL
namespace DL
open PySem PySem.Spec PyProof.Rows L2
section
variable [Mem] {X:Cx}{k:Nat}{f Ce Cf Cn:cD}{fd:cy}{ps:List Str}{g:cu->Option (Option D)}{fa:bY}{x:Str}{p pos:Pos}{e:cE}{es:List cE}
end
end DL
namespace DL
open PySem PySem.Spec PyProof.Rows L2
section
variable [Mem] {X:Cx}{C0 H0:Hp}{k:Nat}{Ce Cf Cn:cD}{g:cu->Option (Option D)}{fa:bY}{x n c y:Str}{p p2 eP ZN Mv Rv py:Pos}{e:cE}{es:List cE}{b0:cF}{Xg:List cF}{c0:D}{vc:V}
end
end DL
namespace HT
open PySem PySem.Spec PyProof.Rows
section
variable {prog:cz}{w:cA}{A:cB}{E:cg}{s:cx}
end
end HT
namespace DL
open PySem PySem.Spec PyProof.Rows L2
section
variable [Mem] {X:Cx}{e:cE}{pos p0 p1 p2:Pos}{k0:Nat}{f:cb}
end
end DL
namespace DL
open PySem PySem.Spec PyProof.Rows L2
section
variable [Mem] {X:Cx}
end
section
variable {X:Cx}
end
end DL
namespace DL
open PySem PySem.Spec PyProof.Rows L2
section
variable {X:Cx}
end
end DL
namespace DL
open PySem PySem.Spec PyProof.Rows L2
section
variable [Mem] {X:Cx}{e o:cE}{f:cb}{x:Str}{xs:List Str}{p p2 pos apos:Pos}
end
end DL
namespace DL
open PySem PySem.Spec PyProof.Rows L2
noncomputable def iS (f:cb):bY:=λδ=>match f δ with
 |some (.lst ds)=>some ds
 |some (.tup ds)=>some ds
 |_=>none
noncomputable def Mw:cf
 |[.lst ds]=>(intsOf ds).map λns=>.int ns.sum
 |_=>none
noncomputable def lG:cn->Int
 |[]=>0
 |a::r=>if r.isEmpty then a else(if a<lG r then lG r else a)
noncomputable def jG:cn->Int
 |[]=>0
 |a::r=>if r.isEmpty then a else(if jG r<a then jG r else a)
noncomputable def E7:cf
 |[.lst ds]=>(intsOf ds).bind λns=>if ns.isEmpty then none else some (.int (lG ns))
 |_=>none
noncomputable def Bv:cf
 |[.lst ds]=>(intsOf ds).bind λns=>if ns.isEmpty then none else some (.int (jG ns))
 |_=>none
noncomputable def JB (f g:cb):cb:=λδ=>match f δ,g δ with
 |some (.lst ds),some (.int z)=>(intsOf ds).bind λns=>(ns.idxOf? z).map λj=>.int (j:Nat)
 |_,_=>none
theorem P1:bootBuiltins "sum"=some (.builtin "sum"):=by decide +kernel
theorem Bw:∀(l:cn),l≠[]->lG l∈l/\∀x∈l,x<=lG l
 |[],h=>absurd rfl h
 |[a],_=>by simp[lG]
 |a::b::r,_=>by
  obtain⟨h1,h2⟩:=Bw (b::r) (by simp)
  have e:lG (a::b::r)=(if a<lG (b::r)then lG (b::r)else a):=by rw[lG];simp
  rw[e];refine⟨?_,λx hx=>?_⟩
  ·by_cases h:a<lG (b::r)
   ·rw[if_pos h];exact ai _ h1
   ·rw[if_neg h];exact af
  ·rcases List.mem_cons.mp hx with rfl|q
   ·split<;>omega
   ·have:=h2 x q;split<;>omega
theorem wF:∀(l:cn),l≠[]->jG l∈l/\∀x∈l,jG l<=x
 |[],h=>absurd rfl h
 |[a],_=>by simp[jG]
 |a::b::r,_=>by
  obtain⟨h1,h2⟩:=wF (b::r) (by simp)
  have e:jG (a::b::r)=(if jG (b::r)<a then jG (b::r)else a):=by rw[jG];simp
  rw[e];refine⟨?_,λx hx=>?_⟩
  ·by_cases h:jG (b::r)<a
   ·rw[if_pos h];exact ai _ h1
   ·rw[if_neg h];exact af
  ·rcases List.mem_cons.mp hx with rfl|q
   ·split<;>omega
   ·have:=h2 x q;split<;>omega
theorem oA:∀{ns:cn}{dz:cv},Vals (ns.map V.int) dz->∃xs:Array (Int×Tok),dz.toArray=intItems xs/\xs.toList.map (·.1)=ns
 |[],_,.nil=>⟨#[],by simp[intItems],rfl⟩
 |n::ns,_,.cons r t=>by
  obtain⟨tk,rfl⟩:=r;obtain⟨xs,e1,e2⟩:=oA t;refine⟨((n,tk)::xs.toList).toArray,?_,by simpa using e2⟩
  have:intItems xs=(xs.toList.map λp=>Value.int p.1 p.2).toArray:=by cases xs;simp[intItems]
  rw[this]at e1;have e3:=congrArg Array.toList e1;simp only[]at e3;simp[intItems,e3]
section
variable {X:Cx}
theorem xW (hc:X.calm=true):i6 X (.builtin "sum") (λxs H Q=>∃(p:cD) (ns:cn),xs=[.ref p]/\pf X.K H p (ns.map V.int)/\Q (.int ns.sum) H):=by
 intro pins s σ H xs us Q I r h;obtain⟨p,ns,rfl,hq,q⟩:=h;obtain⟨u,rfl,r1⟩:=vals1 r;cases r1;obtain⟨dz,rv,pl,hz⟩:=I.list hq;obtain⟨ys,e1,e2⟩:=oA rv;have hl:=pl.isList;rw[e1]at hl;refine sum_intListG (I.ok.hd hc) hl λh' tk t' k=>⟨_,H,I.kept k,?_,q⟩
 rw[preSum_eq,List.take_of_length_le (by simp),e2]
 exact⟨_,rfl⟩
theorem xX (hc:X.calm=true):i6 X (.builtin "max") (λxs H Q=>∃(p:cD) (ns:cn),xs=[.ref p]/\pf X.K H p (ns.map V.int)/\ns≠[]/\Q (.int (lG ns)) H):=by
 intro pins s σ H xs us Q I r h;obtain⟨p,ns,rfl,hq,ja,q⟩:=h;obtain⟨u,rfl,r1⟩:=vals1 r;cases r1;obtain⟨dz,rv,pl,hz⟩:=I.list hq;obtain⟨ys,e1,e2⟩:=oA rv;have hl:=pl.isList;rw[e1]at hl;have hsz:0<ys.size:=by
  have:(ys.toList.map (·.1)).length=ns.length:=by rw[e2]
  rw[ae,aN]at this;cases ns with
  |nil=>exact absurd rfl ja
  |cons a r=>rw[ax]at this;omega
 refine max_intList (I.ok.hd hc) hl hsz λv h' tk hv k=>⟨_,H,I.kept k,?_,q⟩
 obtain⟨t,rfl⟩:=intItems_at hv;obtain⟨h1,h2⟩:=argBest_gt (numAt ys) (ys.size-1);generalize argBest (λi j=>decide (numAt ys i>numAt ys j)) (ys.size-1)=j at *
 have hn:numAt ys j∈ns:=by
  rw[numAt_eq,e2,ak];have hj:j<ns.length:=by rw[<-e2,ae,aN];omega
  rw[ah hj];exact List.getElem_mem hj
 obtain⟨m1,m2⟩:=Bw ns ja;have ZO:=m2 _ hn;have U5:lG ns<=numAt ys j:=by
  obtain⟨i,hi,e⟩:=List.getElem_of_mem m1;have xV:i<ys.size:=by rw[<-e2,ae,aN]at hi;exact hi
  have:=h2 i (by omega)
  rw[numAt_eq,e2,ak,ah hi]at this;simp only[Option.getD_some]at this;rw[e]at this;exact this
 exact⟨t,by rw[show numAt ys j=lG ns by omega]⟩
theorem xY (hc:X.calm=true):i6 X (.builtin "min") (λxs H Q=>∃(p:cD) (ns:cn),xs=[.ref p]/\pf X.K H p (ns.map V.int)/\ns≠[]/\Q (.int (jG ns)) H):=by
 intro pins s σ H xs us Q I r h;obtain⟨p,ns,rfl,hq,ja,q⟩:=h;obtain⟨u,rfl,r1⟩:=vals1 r;cases r1;obtain⟨dz,rv,pl,hz⟩:=I.list hq;obtain⟨ys,e1,e2⟩:=oA rv;have hl:=pl.isList;rw[e1]at hl;have hsz:0<ys.size:=by
  have:(ys.toList.map (·.1)).length=ns.length:=by rw[e2]
  rw[ae,aN]at this;cases ns with
  |nil=>exact absurd rfl ja
  |cons a r=>rw[ax]at this;omega
 refine min_intList (I.ok.hd hc) hl hsz λv h' tk hv k=>⟨_,H,I.kept k,?_,q⟩
 obtain⟨t,rfl⟩:=intItems_at hv;obtain⟨h1,h2⟩:=argBest_lt (numAt ys) (ys.size-1);generalize argBest (λi j=>decide (numAt ys i<numAt ys j)) (ys.size-1)=j at *
 have hn:numAt ys j∈ns:=by
  rw[numAt_eq,e2,ak];have hj:j<ns.length:=by rw[<-e2,ae,aN];omega
  rw[ah hj];exact List.getElem_mem hj
 obtain⟨m1,m2⟩:=wF ns ja;have ZO:=m2 _ hn;have U5:numAt ys j<=jG ns:=by
  obtain⟨i,hi,e⟩:=List.getElem_of_mem m1;have xV:i<ys.size:=by rw[<-e2,ae,aN]at hi;exact hi
  have:=h2 i (by omega)
  rw[numAt_eq ys i,e2,ak,ah hi]at this;simp only[Option.getD_some]at this;rw[e]at this;exact this
 exact⟨t,by rw[show numAt ys j=jG ns by omega]⟩
noncomputable def Mx (K:W.Frag):V->List V->Hp->VK->Prop:=λx vs H Q=>∃(a:cD) (ns:cn) (z:Int) (j:Nat),x=.ref a/\vs=[.int z]/\pf K H a (ns.map V.int)/\ns.idxOf? z=some j/\Q (.int (j:Nat)) H
theorem wG {z:Int}:∀{xs:cn}{us:cv},Vals (xs.map V.int) us->∀(j:Nat) (h:j<us.length) (h':j<xs.length),QM (.int z) us[j]=(xs[j]==z)
 |[],us,r,j,h,h'=>by cases h'
 |x::xs,us,r,j,h,h'=>by
  cases r with
  |cons r1 r2=>
   obtain⟨t,rfl⟩:=r1;cases j with
   |zero=>show OI (.int x) (.int z)=_;rfl
   |succ j=>exact wG r2 j _ (by simpa using h')
theorem GX:WR X "list.index" (Mx X.K):=by
 intro pins s σ H x vs v us Q I rx rs h;obtain⟨a,xs,z,j,rfl,rfl,hq,hj,q⟩:=h;cases rx;obtain⟨u,rfl,ru⟩:=rs.one;obtain⟨dz,rv,pl,hz⟩:=I.list hq;have hlen:=rv.length;rw[ae]at hlen;have HJ:j<xs.length:=by
  rw[List.idxOf?_eq_some_iff]at hj;obtain⟨h,_⟩:=hj;exact h
 have ZP:(j:Int)<2^63-1:=by
  have h1:xs.length<=sizeLine:=by simpa using hz
  have h2:sizeLine<=1000000000:=by decide
  have h3:(2:Int)^63-1=9223372036854775807:=by decide
  rw[h3];omega
 obtain⟨⟨cls,dd,data,sl⟩,n,ho,hc,_,hd⟩:=id pl;simp only at hc hd;subst hc hd;have fs:(xs.map V.int).all yE=true:=by rw[List.all_map];exact List.all_eq_true.mpr λ_ _=>rfl
 refine call_meets PySem.F.slot_list_index ⟨_,ho,rfl⟩ PySem.F.entry_list_index (PySem.F.args_list_index_2 _ _)
  (SeqAt.list_indexAt a dz.toArray n dd sl u (QM (.int z)) j (by simpa [<-hlen]using HJ) ZP ?_ ?_) ⟨ho,λy hy=>Bb ru rfl rv fs y (by simpa using hy),?_⟩
 ·show QM (.int z) dz[j]=true;rw[wG rv j (by omega) HJ]
  rw[List.idxOf?_eq_some_iff]at hj;obtain⟨h,h1,_⟩:=hj
  simpa using h1
 ·intro m hm fM;show QM (.int z) dz[m]=false;rw[wG rv m (by simpa using hm) (by omega)]
  rw[List.idxOf?_eq_some_iff]at hj;obtain⟨h,h1,h2⟩:=hj
  have:=h2 m fM
  simpa using this
 ·exact⟨.int (j:Nat),H,I.tok _,⟨_,rfl⟩,q⟩
end
section
variable [Mem] {X:Cx}{e o tg a b:cE}{f g:cb}{pos apos:Pos}
theorem SA (hc:X.calm=true):oX X (.builtin "sum") Mw:=by
 refine⟨_,xW hc,?_⟩;intro C H vs ds d Q s i q k;unfold Mw at q;split at q
 ·rename_i es;cases hb:intsOf es with
  |none=>rw[hb]at q;cases q
  |some ns=>
   rw[hb]at q;cases q;obtain⟨v,rfl,j⟩:=i.one;obtain⟨p,xs,rfl,hq,l⟩:=j.list (K:=X.K) s;rw[eX hb]at l;cases l.jm;exact⟨p,ns,rfl,hq,k _ C H (.refl s) (.int _)⟩
 ·cases q
theorem P2 (hc:X.calm=true):oX X (.builtin "max") E7:=by
 refine⟨_,xX hc,?_⟩;intro C H vs ds d Q s i q k;unfold E7 at q;split at q
 ·rename_i es;cases hb:intsOf es with
  |none=>rw[hb]at q;cases q
  |some ns=>
   rw[hb]at q;simp only[ao]at q;split at q
   ·cases q
   ·rename_i ja;cases q;obtain⟨v,rfl,j⟩:=i.one;obtain⟨p,xs,rfl,hq,l⟩:=j.list (K:=X.K) s;rw[eX hb]at l;cases l.jm;exact⟨p,ns,rfl,hq,λz=>ja (by rw[z];rfl),k _ C H (.refl s) (.int _)⟩
 ·cases q
theorem P4 (hc:X.calm=true):oX X (.builtin "min") Bv:=by
 refine⟨_,xY hc,?_⟩;intro C H vs ds d Q s i q k;unfold Bv at q;split at q
 ·rename_i es;cases hb:intsOf es with
  |none=>rw[hb]at q;cases q
  |some ns=>
   rw[hb]at q;simp only[ao]at q;split at q
   ·cases q
   ·rename_i ja;cases q;obtain⟨v,rfl,j⟩:=i.one;obtain⟨p,xs,rfl,hq,l⟩:=j.list (K:=X.K) s;rw[eX hb]at l;cases l.jm;exact⟨p,ns,rfl,hq,λz=>ja (by rw[z];rfl),k _ C H (.refl s) (.int _)⟩
 ·cases q
theorem P5 (ho:WO X o f) (ha:Pz X [e] (bV g cN))
  (oZ:starEach [e] X.env=(false,eval e X.env)::starEach [] X.env:=by exact eL rfl) (pD:attributeBase o "index" X.env (eval o X.env)=eval o X.env:=by rfl)
  (vZ:((backTo pos (starEach [e] X.env)).all (λx=> !x.1)&&(backToKw pos (keywordEach [] X.env)).all (λx=>x.1.isSome)
   &&decide ([e].length+([]:List Keyword).length+(if([]:List Keyword).isEmpty then 0 else 1)<30))=true:=by exact IQ rfl)
  (pE:(apos.endLine==pos.line)=true:=by rfl) (lR:(backTo pos (starEach [] X.env)).any (·.1)=false:=by exact fu rfl):
  WD X (.Call (.Attribute o "index" apos) [e] [] pos) (JB f g):=by
 refine⟨(Ir PySem.F.plainAttrs_list PySem.F.slot_list_index PySem.F.type_list_index GX ho.go ha.go pD vZ pE oZ lR).imp λσ H Q ⟨C,δ,d,sx,q,k⟩=>?_⟩
 unfold JB at q;split at q
 ·rename_i ds z hf hg;cases hn:intsOf ds with
  |none=>rw[hn]at q;cases q
  |some ns=>
   rw[hn]at q;simp only[ao]at q;cases hj:ns.idxOf? z with
   |none=>rw[hj]at q;cases q
   |some j=>
    rw[hj]at q;cases q;refine⟨C,δ,_,sx,hf,λv C1 H1 e1 i1=>?_⟩
    obtain⟨p,xs,rfl,hq,l⟩:=i1.list (K:=X.K) e1.s;refine⟨.inl ⟨rfl,_,hq⟩,C1,δ,[.int z],sx.ev e1,by unfold bV cN;rw[hg];rfl,λvs C' H' ev i=>?_⟩
    obtain⟨w,rfl,i2⟩:=i.one;have:=i2.is (λ_ w=>by cases w);cases this
    obtain⟨p',Zw,ep,Ox,l'⟩:=(i1.ev ev).list (K:=X.K) ev.s;cases ep;rw[eX hn]at l';cases l'.jm;exact⟨p,ns,z,j,rfl,rfl,Ox,hj,k _ C' H' (e1.trans ev) (.int _)⟩
 ·cases q
theorem Ad (h:WD X e f):uT X tg e (iS f):=⟨λpins s σ H Q I ⟨C,δ,ds,x,q,k⟩=>by
 unfold iS at q;split at q
 ·rename_i es hf;exact Bj h.go pins s σ H Q I ⟨C,δ,ds,x,by unfold iL;rw[hf];exact q,k⟩
 ·rename_i es hf;exact EX h.go pins s σ H Q I ⟨C,δ,ds,x,by unfold iT;rw[hf];exact q,k⟩
 ·cases q⟩
end
end DL
namespace LW
open PySem DL
open L2 (j9 qX)
noncomputable def sN:bZ:=
  (eE (di qP (di qP (di pG (dc 0) (dC (.int 48271))) (dc 1)) (dc 2)))
noncomputable def pP:bZ:=
  sN
noncomputable def dk:cf:=gi 3 3 pP
noncomputable def mi:bZ:=
  (jf 4 (di jI (dc 1) (cO dk (bV (cQ 0) (bV (dC (.int 9973)) (bV (di jI (di rP (dc 2) (dc 1)) (dC (.int 1))) cN))))))
noncomputable def mj:bZ:=
  (iq 5 (GB cN))
noncomputable def ml:bZ:=
  (jf 7 (di jI (dC (.int 1)) (cO dk (bV (di jI (dc 0) (di pG (dC (.int 7)) (dc 6))) (bV (dC (.int 9949)) (bV (cO Bk (bV (dC (.int 4)) (bV (dc 4) cN))) cN))))))
noncomputable def ir:bZ:=
  (jf 7 (dC (.int 2)))
noncomputable def gC:bZ:=
  (oY (kQ (qB (di A0 (di qP (dc 0) (dC (.int 3))) (dC (.int 0)))) (kQ (qB (di qZ (dc 7) (dC (.int 1)))) (qB (di A0 (dc 4) (dC (.int 1)))))) ir jF)
noncomputable def mn:bZ:=
  (iq 8 (ug (bV (cQ 4) cN)))
noncomputable def mq:bZ:=
  (yO 9 10 8 (ug (bV (cQ 7) cN)) (cO dk (bV (di jI (di jI (dc 0) (di pG (dC (.int 11)) (dc 6))) (di pG (dC (.int 3)) (dc 10))) (bV (dC (.int 9941)) (bV (di rP (dc 4) (dc 10)) cN)))))
noncomputable def mr:bZ:=
  (Bi 5 (cO lj (bV (dL (fA jK (bV (dc 9) cN))) cN)))
noncomputable def iu:bZ:=
  (oY (qB (di qR (cO lj (bV (dL (fA jK (bV (dc 9) cN))) cN)) (dc 5))) mr jF)
noncomputable def gT:bZ:=
  (eB ml
   (eB gC
   (eB mn
   (eB mq
   (qY 9 iu)))))
noncomputable def lu:bZ:=
  (lU 6 (ug (bV (cO dk (bV (cQ 0) (bV (dC (.int 9967)) (bV (di jI (dc 3) (dC (.int 1))) cN)))) cN)) gT)
noncomputable def lx:bZ:=
  (eE (fz (bV (cQ 4) (bV (cO lj (bV (dL (fA jK (bV (dc 5) cN))) cN)) cN))))
noncomputable def kG:bZ:=
  (eB mi
  (eB mj
  (eB lu
  lx)))
noncomputable def dq:cf:=gi 11 4 kG
end LW
namespace LW
open PySem DL
open L2 (j9 qX)
noncomputable def lz (c p m:Int):Int:=c*48271%p%m
theorem sO {c p m:Int}(hm:0<m):0<=lz c p m:=Int.emod_nonneg _ (by omega)
theorem sP {c p m:Int}(hm:0<m):lz c p m<m:=Int.emod_lt_of_pos _ hm
theorem Bx {c p m:Int}(hp:0<p) (hm:0<m):dk [.int c,.int p,.int m]=some (.int (lz c p m)):=by
 simp[dk,pP,sN,gi,eE,di,dc,dC,pG,qP,Dt,wb,xR,hp,hm,lz]
theorem By {j:Nat}{f:bZ}(P:Nat->dO->Prop):∀(ds:cu) (n:Nat) (δ:dO),P n δ->
  (∀i δ d,ds[i]? =some d->P (n+i) δ->∃δ',f (δ.set j (.dat d))=some (.next δ')/\P (n+i+1) δ')->∃δ',gr j f ds δ=some (.next δ')/\P (n+ds.length) δ'
 |[],n,δ,h0,_=>⟨δ,rfl,h0⟩
 |d::ds,n,δ,h0,st=>by
  obtain⟨δ1,e1,h1⟩:=st 0 δ d rfl h0;obtain⟨δ2,e2,h2⟩:=By P ds (n+1) δ1 h1 (λi δ d hd hp=>by
   have:=st (i+1) δ d (by simpa using hd) (by rw[show n+(i+1)=n+1+i by omega];exact hp)
   rw[show n+(i+1)+1=n+1+i+1 by omega]at this
   exact this)
  refine⟨δ2,?_,by rw[show n+(d::ds).length=n+1+ds.length by simp;omega];exact h2⟩
  unfold gr;rw[e1];exact e2
theorem rU {α:Type}:∀(ls:List α) (i:Nat) (h:i<ls.length),(ls[i]::ls.eraseIdx i).Perm ls
 |a::l,0,_=>List.Perm.refl _
 |a::l,i+1,h=>by
  simp only[List.getElem_cons_succ,List.eraseIdx_cons_succ];exact(List.Perm.swap _ _ _).trans (List.Perm.cons _ (rU l i (by simpa using h)))
theorem E8 {j m:Nat}{f:cb}{δ:dO}:∀(ds ls:cu),ds.length<=ls.length->
  (∀k d lc,ds[k]? =some d->lc.length+k=ls.length->∃i:Int,f ((δ.set m (.own lc)).set j (.dat d))=some (.int i)/\0<=i/\i<lc.length)->
  ∃xs rest,zT j m f δ ls ds=some (xs,rest)/\(xs++rest).Perm ls/\xs.length=ds.length
 |[],ls,_,_=>⟨[],ls,rfl,List.Perm.refl _,rfl⟩
 |d::ds,ls,hl,h=>by
  obtain⟨i,e,h0,h1⟩:=h 0 d ls rfl rfl;have hi:i.toNat<ls.length:=by omega
  have le:(ls.eraseIdx i.toNat).length=ls.length-1:=List.length_eraseIdx_of_lt hi;obtain⟨xs,rest,e2,p,l⟩:=E8 ds (ls.eraseIdx i.toNat) (by simp at hl;omega) (λk d lc hd hk=>h (k+1) d lc (by simpa using hd) (by omega))
  refine⟨ls[i.toNat]::xs,rest,?_,?_,by simp[l]⟩
  ·unfold zT;rw[e];simp only[if_pos h0,ah hi,e2,bA]
  ·rw[List.cons_append];refine(List.Perm.cons _ p).trans ?_;exact rU _ _ hi
theorem ke:∀(n:Nat) (lo x:Int),x∈dJ lo n↔lo<=x/\x<lo+n
 |0,lo,x=>by simp only[dJ,bH,false_iff];omega
 |n+1,lo,x=>by
  simp only[dJ,List.mem_cons,ke n (lo+1) x];omega
theorem kU:∀(n:Nat) (lo:Int),(dJ lo n).Pairwise (·< ·)
 |0,_=>.nil
 |n+1,lo=>by
  simp only[dJ,List.pairwise_cons];exact⟨λx hx=>by rw[ke]at hx;omega,kU n (lo+1)⟩
end LW
namespace ST
open PySem SetTable
abbrev fC (l:List Nat):Prop:=l.Pairwise (·< ·)
theorem vH {l:List Nat}(h:fC l) {i k:Nat}(ZQ:i<k) (hk:k<l.length):l[i]'(by omega)<l[k]:=List.pairwise_iff_getElem.mp h i k (by omega) hk ZQ
theorem Ae (xs:Array Nat) (j:Nat) (hr:fC xs.toList):∀(fuel lo hi:Nat),lo<=hi->hi<=xs.size->hi-lo<=fuel->(∀k (h:k<xs.size),k<lo->xs[k]<j)->(∀k (h:k<xs.size),hi<=k->j<=xs[k])->
  let r:=below.go xs j fuel lo hi
  r<=xs.size/\(∀k (h:k<xs.size),k<r->xs[k]<j)/\(∀k (h:k<xs.size),r<=k->j<=xs[k])
 |0,lo,hi,h1,h2,h3,h4,h5=>by
  have e:lo=hi:=by omega
  subst e;exact⟨h2,h4,h5⟩
 |fuel+1,lo,hi,h1,h2,h3,h4,h5=>by
  unfold below.go;by_cases fM:lo<hi
  ·simp only[if_pos fM];have SD:(lo+hi)/2<xs.size:=by omega
   have hg:xs.getD ((lo+hi)/2) j=xs[(lo+hi)/2]:=by simp[SD]
   rw[hg];by_cases hc:xs[(lo+hi)/2]<j
   ·rw[if_pos hc];refine Ae xs j hr fuel ((lo+hi)/2+1) hi (by omega) h2 (by omega) (λk hk ZR=>?_) h5
    by_cases Vg:k=(lo+hi)/2
    ·subst Vg;exact hc
    ·have:=vH hr (i:=k) (k:=(lo+hi)/2) (by omega) (by simpa using SD)
     simp only[Array.getElem_toList]at this;omega
   ·rw[if_neg hc];refine Ae xs j hr fuel lo ((lo+hi)/2) (by omega) (by omega) (by omega) h4 (λk hk ZR=>?_)
    by_cases Vg:k=(lo+hi)/2
    ·subst Vg;omega
    ·have:=vH hr (i:=(lo+hi)/2) (k:=k) (by omega) (by simpa using hk)
     simp only[Array.getElem_toList]at this;omega
  ·simp only[if_neg fM];have e:lo=hi:=by omega
   subst e;exact⟨h2,h4,h5⟩
theorem oB (xs:Array Nat) (j:Nat) (hr:fC xs.toList):below xs j<=xs.size/\(∀k (h:k<xs.size),k<below xs j->xs[k]<j)/\(∀k (h:k<xs.size),below xs j<=k->j<=xs[k]):=
 Ae xs j hr xs.size 0 xs.size (bL _) (au _) (by omega) (λk h hk=>by omega) (λk h hk=>by omega)
theorem JC {xs:Array Nat}{j i:Nat}(hr:fC xs.toList) (h:xs[i]? =some j):below xs j=i:=by
 obtain⟨h1,h2,h3⟩:=oB xs j hr;obtain⟨hi,hv⟩:=Array.getElem?_eq_some_iff.mp h;by_cases fM:i<below xs j
 ·have:=h2 i hi fM;omega
 ·by_cases Np:below xs j<i
  ·have hb:below xs j<xs.size:=by omega
   have:=vH hr (i:=below xs j) (k:=i) Np (by simpa using hi)
   simp only[Array.getElem_toList]at this;have:=h3 (below xs j) hb (au _);omega
  ·omega
structure Tb (t:cC):Prop where
 rise:fC t.place.toList
 SE:t.dummies=#[]
theorem qw {t:cC}(h:Tb t) {j i:Nat}(hi:t.place[i]? =some j):t.slot j=.live i:=by
 unfold slot;rw[JC h.rise hi];simp[hi]
theorem wH {t:cC}(h:Tb t) {j:Nat}(hj:j∉t.place.toList):t.slot j=.empty:=by
 unfold slot;have h1:¬ (t.place[below t.place j]? ==some j)=true:=λz=>hj (by
  have z':t.place[below t.place j]? =some j:=by simpa using z
  exact Array.mem_toList_iff.mpr (Array.mem_of_getElem? z'))
 have h2:has t.dummies j=false:=by rw[h.SE];rfl
 simp only[if_neg h1,h2];rfl
theorem wI {t:cC}(h:Tb t) (j:Nat):(∃i,t.slot j=.live i/\t.place[i]? =some j)\/(t.slot j=.empty/\j∉t.place.toList):=by
 by_cases hj:j∈t.place.toList
 ·obtain⟨i,hi⟩:=bp hj;have xV:t.place[i]? =some j:=by simpa using hi
  exact .inl ⟨i,qw h xV,xV⟩
 ·exact .inr ⟨wH h hj,hj⟩
end ST
namespace ST
open PySem SetTable
noncomputable def it {α:Type}(f:α->α):Nat->α->α
 |0,a=>a
 |n+1,a=>it f n (f a)
theorem rV {α:Type}(f:α->α):∀(m n:Nat) (a:α),it f (m+n) a=it f n (it f m a)
 |0,n,a=>by rw[Nat.zero_add];rfl
 |m+1,n,a=>by rw[show m+1+n=(m+n)+1 by omega];exact rV f m n (f a)
theorem oC {α:Type}(f:α->α) (n:Nat) (a:α):it f (n+1) a=f (it f n a):=rV f n 1 a
noncomputable def lp (mask i pt:Nat):Nat:=(i*5+1+pt/32)%(mask+1)
noncomputable def fR (mask:Nat) (p:Probe):Probe:={p with j:=lp mask p.i p.perturb,more:=runEnd mask (lp mask p.i p.perturb)-lp mask p.i p.perturb,i:=lp mask p.i p.perturb,perturb:=p.perturb/32}
noncomputable def jx (mask:Nat) (p:Probe):Probe:=if p.more>0 then {p with j:=p.j+1,more:=p.more-1}else fR mask p
theorem JD (t:cC) (p:Probe):t.advance p=jx t.mask p:=by
 unfold SetTable.advance jx;split<;>rfl
theorem P6 (mask i:Nat):runEnd mask i-i<=9:=by unfold runEnd;split<;>omega
theorem wJ (mask:Nat):∀(k:Nat) (p:Probe),k<=p.more->it (jx mask) k p={p with j:=p.j+k,more:=p.more-k}
 |0,p,_=>rfl
 |k+1,p,h=>by
  show it (jx mask) k (jx mask p)=_;have e:jx mask p={p with j:=p.j+1,more:=p.more-1}:=by unfold jx;rw[if_pos (by omega)]
  rw[e,wJ mask k _ (by show k<=p.more-1;omega)]
  show({p with j:=p.j+1+k,more:=p.more-1-k}:Probe)={p with j:=p.j+(k+1),more:=p.more-(k+1)}
  rw[show p.j+1+k=p.j+(k+1) by omega,show p.more-1-k=p.more-(k+1) by omega]
theorem uU (mask:Nat) (p:Probe):it (jx mask) (p.more+1) p=fR mask p:=by
 rw[oC,wJ mask p.more p (au _)];unfold jx;rw[if_neg (by show ¬ p.more-p.more>0;omega)]
 rfl
theorem blocks (mask:Nat):∀(n:Nat) (p:Probe),p.more<=9->∃k,k<=10*n/\it (jx mask) k p=it (fR mask) n p
 |0,p,_=>⟨0,au _,rfl⟩
 |n+1,p,h=>by
  obtain⟨k,h1,h2⟩:=blocks mask n (fR mask p) (P6 mask _);refine⟨p.more+1+k,by omega,?_⟩
  rw[rV,uU];exact h2
theorem DN (mask:Nat):∀(n:Nat) (p:Probe),(it (fR mask) n p).perturb=p.perturb/32^n
 |0,p=>by show p.perturb=_;rw[Nat.pow_zero,Nat.div_one]
 |n+1,p=>by
  show(it (fR mask) n (fR mask p)).perturb=_;rw[DN mask n];show p.perturb/32/32^n=_;rw[Nat.div_div_eq_div_mul,Nat.pow_succ,Nat.mul_comm]
noncomputable def My (mask i:Nat):Nat:=(i*5+1)%(mask+1)
theorem JE (mask:Nat):∀(n:Nat) (p:Probe),p.perturb/32=0->(it (fR mask) n p).i=it (My mask) n p.i
 |0,p,_=>rfl
 |n+1,p,h=>by
  show(it (fR mask) n (fR mask p)).i=it (My mask) n (My mask p.i);rw[JE mask n _ (by show p.perturb/32/32=0;rw[h])]
  congr 1
  show lp mask p.i p.perturb=My mask p.i;unfold lp My;rw[h,Nat.add_zero]
theorem SF:∀i:Fin 8,∀e:Fin 8,∃m:Fin 8,it (My 7) m.val i.val=e.val:=by decide +kernel
theorem NB:∀i:Fin 32,∀e:Fin 32,∃m:Fin 32,it (My 31) m.val i.val=e.val:=by decide +kernel
theorem reach {mask:Nat}(hm:mask=7\/mask=31) {p:Probe}(h9:p.more<=9) (hp:p.perturb<2^64) {e:Nat}(he:e<=mask):∃k,k<10*turns mask/\(it (jx mask) k p).j=e:=by
 have key:∃m,m<=mask/\it (My mask) m (it (fR mask) 12 p).i=e:=by
  have hi:(it (fR mask) 12 p).i<=mask:=by
   rw[oC];show lp mask _ _<=mask;unfold lp;have:=Nat.mod_lt ((it (fR mask) 11 p).i*5+1+(it (fR mask) 11 p).perturb/32) (show 0<mask+1 by omega)
   omega
  rcases hm with rfl|rfl
  ·obtain⟨m,hm⟩:=SF ⟨(it (fR 7) 12 p).i,by omega⟩ ⟨e,by omega⟩
   exact⟨m.val,by omega,hm⟩
  ·obtain⟨m,hm⟩:=NB ⟨(it (fR 31) 12 p).i,by omega⟩ ⟨e,by omega⟩
   exact⟨m.val,by omega,hm⟩
 obtain⟨m,h1,h2⟩:=key;obtain⟨k,h3,h4⟩:=blocks mask (12+m) p h9;refine⟨k,by unfold turns;omega,?_⟩
 rw[h4,rV];have h0:(it (fR mask) 12 p).perturb/32=0:=by
  rw[DN,Nat.div_div_eq_div_mul];apply Nat.div_eq_of_lt
  exact aw hp (by decide)
 have hj:∀(n:Nat) (q:Probe),q.j=q.i->(it (fR mask) n q).j=(it (fR mask) n q).i:=λn=>by
  cases n with
  |zero=>exact λq h=>h
  |succ n=>intro q _;rw[oC];rfl
 rw[hj m _ (by rw[oC];rfl),JE mask m _ h0,h2]
end ST
namespace ST
open PySem SetTable
structure Pb (p:Probe):Prop where
 nine:p.more<=9
 Mz:p.perturb<2^64
 dm:p.dummy=none
theorem Pb.jx {mask:Nat}{p:Probe}(h:Pb p):Pb (jx mask p):=by
 unfold ST.jx;split
 ·exact⟨by show p.more-1<=9;have:=h.nine;omega,h.Mz,h.dm⟩
 ·exact⟨P6 mask _,Nat.lt_of_le_of_lt (Nat.div_le_self _ _) h.Mz,h.dm⟩
theorem E9 (h:Int):bits h<2^64:=by
 unfold bits;have h1:=Int.emod_lt_of_pos h (show(0:Int)<2^64 by decide)
 have h2:=Int.emod_nonneg h (show(2^64:Int)≠0 by decide)
 omega
theorem JF (t:cC) (h:Int):Pb (t.probeStart h):=⟨P6 _ _,E9 h,rfl⟩
theorem JG {t:cC}(ht:Tb t) {ha:Nat->Int}{h:Int}:∀(fuel:Nat) (p:Probe),Pb p->(∃k,k<fuel/\t.slot (it (jx t.mask) k p).j=.empty)->
  ∃k,(∀m,m<k->∃i,t.slot (it (jx t.mask) m p).j=.live i/\ha i≠h)/\
   ((t.slot (it (jx t.mask) k p).j=.empty/\probe.go t ha h fuel p=some (.empty (it (jx t.mask) k p).j none))\/
    ∃i,t.slot (it (jx t.mask) k p).j=.live i/\ha i=h/\probe.go t ha h fuel p=some (.candidate (it (jx t.mask) k p).j i (it (jx t.mask) (k+1) p)))
 |0,p,_,⟨k,hk,_⟩=>by omega
 |fuel+1,p,hp,⟨k,hk,he⟩=>by
  rcases wI ht p.j with⟨i,hs,_⟩|⟨hs,_⟩
  ·by_cases hh:ha i=h
   ·refine⟨0,λm hm=>by omega,.inr ⟨i,hs,hh,?_⟩⟩
    unfold probe.go;rw[hs];show(if(ha i==h)=true then _ else _)=_
    rw[if_pos (beq_iff_eq.mpr hh),JD];rfl
   ·have e:probe.go t ha h (fuel+1) p=probe.go t ha h fuel (jx t.mask p):=by
     conv=>lhs;unfold probe.go
     rw[hs];show(if(ha i==h)=true then _ else _)=_
     rw[if_neg (λz=>hh (beq_iff_eq.mp z)),JD]
    have TZ:k≠0:=λz=>by
     subst z;have T1:t.slot p.j=.empty:=he;rw[hs]at T1;cases T1
    obtain⟨k',rfl⟩:∃k',k=k'+1:=⟨k-1,by omega⟩
    obtain⟨k2,h1,h2⟩:=JG ht fuel (jx t.mask p) hp.jx ⟨k',by omega,he⟩
    refine⟨k2+1,λm hm=>?_,?_⟩
    ·cases m with
     |zero=>exact⟨i,hs,hh⟩
     |succ m=>exact h1 m (by omega)
    ·rw[e];exact h2
  ·refine⟨0,λm hm=>by omega,.inl ⟨hs,?_⟩⟩
   unfold probe.go;rw[hs];show some (Met.empty p.j p.dummy)=_;rw[hp.dm];rfl
structure Wt (t:cC) (hs:cn):Prop where
 tb:Tb t
 mask:t.mask=7\/t.mask=31
 len:t.place.size=hs.length
 le:∀j∈t.place.toList,j<=t.mask
 room:t.place.size<t.mask+1
 way:∀(i:Nat) (h:Int),hs[i]? =some h->∃k,t.place[i]? =some (it (jx t.mask) k (t.probeStart h)).j/\∀m,m<k->(it (jx t.mask) m (t.probeStart h)).j∈t.place.toList
theorem GY {n:Nat}:∀{l:List Nat},fC l->(∀j∈l,j<=n)->l.length<n+1->∃e,e<=n/\e∉l:=by
 intro l hr hle hlen;by_cases h:∀e,e<=n->e∈l
 ·exfalso;have:=bW (l₁:=List.range (n+1)) (l₂:=l) List.nodup_range λe he=>h e (by have:=List.mem_range.mp he;omega)
  rw[List.length_range]at this;omega
 ·simp only[Classical.not_forall]at h;obtain⟨e,he,hn⟩:=h;exact⟨e,he,hn⟩
end ST
namespace ST
open PySem SetTable
noncomputable def ins {α:Type}(l:List α) (p:Nat) (x:α):List α:=l.take p++x::l.drop p
theorem rk {α:Type}(xs:Array α) (p:Nat) (x:α):(insertAt xs p x).toList=ins xs.toList p x:=by
 unfold insertAt ins;simp[Array.toList_append,Array.toList_push,Array.toList_extract,List.extract_eq_drop_take];exact List.take_of_length_le (by simp)
theorem mR {α:Type}{l:List α}{p:Nat}{x:α}(hp:p<=l.length) (i:Nat):(ins l p x)[i]? =if i<p then l[i]? else if i=p then some x else l[i-1]? :=by
 unfold ins;have hl:(l.take p).length=p:=by rw[bJ];omega
 by_cases h:i<p
 ·rw[if_pos h,aJ (by omega),List.getElem?_take,if_pos h]
 ·rw[if_neg h,aP (by omega),hl]
  by_cases h2:i=p
  ·rw[if_pos h2,h2,Nat.sub_self];rfl
  ·rw[if_neg h2];obtain⟨d,hd⟩:∃d,i-p=d+1:=⟨i-p-1,by omega⟩
   rw[hd,aK,List.getElem?_drop]
   congr 1
   omega
theorem vI {α:Type}{l:List α}{p:Nat}{x y:α}:y∈ins l p x↔y=x\/y∈l:=by
 unfold ins;rw[List.mem_append,List.mem_cons];have:y∈l↔y∈l.take p\/y∈l.drop p:=by rw[<-List.mem_append,List.take_append_drop]
 rw[this];constructor
 ·rintro(h|h|h)
  ·exact .inr (.inl h)
  ·exact .inl h
  ·exact .inr (.inr h)
 ·rintro(h|h|h)
  ·exact .inr (.inl h)
  ·exact .inl h
  ·exact .inr (.inr h)
theorem mv {α:Type}{l:List α}{p:Nat}{x:α}(hp:p<=l.length):(ins l p x).length=l.length+1:=by
 unfold ins;simp only[aQ,bJ,ax,List.length_drop];omega
theorem ins_map {α β:Type}(f:α->β) (l:List α) (p:Nat) (x:α):(ins l p x).map f=ins (l.map f) p (f x):=by
 unfold ins;simp[List.map_take,List.map_drop]
theorem JH {xs:Array Nat}{j:Nat}(hr:fC xs.toList) (hj:j∉xs.toList):fC (ins xs.toList (below xs j) j):=by
 obtain⟨h1,h2,h3⟩:=oB xs j hr;unfold ins;refine List.pairwise_append.mpr ⟨List.Pairwise.sublist (List.take_sublist _ _) hr,List.pairwise_cons.mpr ⟨λy hy=>?_,List.Pairwise.sublist (List.drop_sublist _ _) hr⟩,λa ha b hb=>?_⟩
 ·obtain⟨i,hi⟩:=bp hy;rw[List.getElem?_drop]at hi;have fM:below xs j+i<xs.size:=by have:=(List.getElem?_eq_some_iff.mp hi).1;simpa using this
  have xG:=h3 (below xs j+i) fM (by omega)
  have e:xs[below xs j+i]=y:=by have:=(List.getElem?_eq_some_iff.mp hi).2;simpa using this
  have ja:y≠j:=λz=>hj (z▸List.mem_of_mem_drop hy)
  omega
 ·have Xh:a<j:=by
   obtain⟨i,hi⟩:=bp ha;rw[List.getElem?_take]at hi;split at hi
   ·rename_i fM;have hl:i<xs.size:=by have:=(List.getElem?_eq_some_iff.mp hi).1;simpa using this
    have e:xs[i]=a:=by have:=(List.getElem?_eq_some_iff.mp hi).2;simpa using this
    have:=h2 i hl fM;omega
   ·cases hi
  have LF:j<=b:=by
   rcases List.mem_cons.mp hb with rfl|hb
   ·exact au _
   ·obtain⟨i,hi⟩:=bp hb;rw[List.getElem?_drop]at hi;have fM:below xs j+i<xs.size:=by have:=(List.getElem?_eq_some_iff.mp hi).1;simpa using this
    have:=h3 (below xs j+i) fM (by omega)
    have e:xs[below xs j+i]=b:=by have:=(List.getElem?_eq_some_iff.mp hi).2;simpa using this
    omega
  omega
structure Pm (mask:Nat) (p:Probe):Prop where
 pb:Pb p
 le:p.j+p.more<=mask
theorem JI {mask i:Nat}(h:i<=mask):i+(runEnd mask i-i)<=mask:=by unfold runEnd;split<;>omega
theorem Pm.jx {mask:Nat}{p:Probe}(h:Pm mask p):Pm mask (jx mask p):=by
 refine⟨h.pb.jx,?_⟩;unfold ST.jx;have:=h.le;split
 ·show p.j+1+(p.more-1)<=mask;omega
 ·show lp mask p.i p.perturb+(runEnd mask (lp mask p.i p.perturb)-lp mask p.i p.perturb)<=mask;exact JI (by unfold lp;have:=Nat.mod_lt (p.i*5+1+p.perturb/32) (show 0<mask+1 by omega);omega)
theorem Pm.it {mask:Nat}:∀(k:Nat) {p:Probe},Pm mask p->Pm mask (it (ST.jx mask) k p)
 |0,_,h=>h
 |k+1,_,h=>Pm.it k h.jx
theorem sQ (t:cC) (h:Int):Pm t.mask (t.probeStart h):=
 ⟨JF t h,JI (by have:=Nat.mod_lt (bits h) (show 0<t.mask+1 by omega);show bits h%(t.mask+1)<=t.mask;omega)⟩
theorem Wt.put {t:cC}{hs:cn}(w:Wt t hs) {h:Int}{k:Nat}(he:(it (jx t.mask) k (t.probeStart h)).j∉t.place.toList) (hb:∀m,m<k->(it (jx t.mask) m (t.probeStart h)).j∈t.place.toList) (i7:t.place.size+1<t.mask+1):
  Wt (t.put (it (jx t.mask) k (t.probeStart h)).j).1 (ins hs (t.put (it (jx t.mask) k (t.probeStart h)).j).2 h)/\(t.put (it (jx t.mask) k (t.probeStart h)).j).2<=hs.length/\(t.put (it (jx t.mask) k (t.probeStart h)).j).1.mask=t.mask/\(t.put (it (jx t.mask) k (t.probeStart h)).j).1.place.size=t.place.size+1:=by
 generalize hj:(it (jx t.mask) k (t.probeStart h)).j=j at he ⊢;have Vh:j<=t.mask:=by rw[<-hj];have:=(Pm.it k (sQ t h)).le;omega
 obtain⟨b1,_,_⟩:=oB t.place j w.tb.rise;have hd:has t.dummies j=false:=by rw[w.tb.SE];rfl
 have e1:(t.put j).1.place.toList=ins t.place.toList (below t.place j) j:=rk _ _ _;have e2:(t.put j).2=below t.place j:=rfl;have e3:(t.put j).1.mask=t.mask:=rfl;have e4:∀h',(t.put j).1.probeStart h'=t.probeStart h':=λh'=>rfl
 have e5:(t.put j).1.dummies=#[]:=by show(if has t.dummies j=true then _ else t.dummies)=_;rw[hd];exact w.tb.SE
 have Xi:below t.place j<=t.place.toList.length:=by simpa using b1
 have hsz:(t.put j).1.place.size=t.place.size+1:=by
  have:=congrArg List.length e1;rw[mv Xi]at this
  simpa using this
 have Vi:below t.place j<=hs.length:=by rw[<-w.len];exact b1
 refine⟨⟨⟨by rw[e1];exact JH w.tb.rise he,e5⟩,by rw[e3];exact w.mask,?_,?_,by rw[e3,hsz];exact i7,?_⟩,by rw[e2];exact Vi,e3,hsz⟩
 ·rw[hsz,e2,mv Vi,w.len]
 ·intro y hy;rw[e1]at hy;rw[e3];rcases vI.mp hy with rfl|hy
  ·exact Vh
  ·exact w.le y hy
 ·intro i h' hi;rw[e3,e4,e1];have hp:(t.put j).1.place[i]? =(ins t.place.toList (below t.place j) j)[i]? :=by rw[<-e1];simp
  rw[hp,mR Xi];rw[e2,mR Vi]at hi;by_cases c1:i<below t.place j
  ·rw[if_pos c1]at hi ⊢;obtain⟨k',h1,h2⟩:=w.way i h' hi;exact⟨k',by simpa using h1,λm hm=>vI.mpr (.inr (h2 m hm))⟩
  ·rw[if_neg c1]at hi ⊢;by_cases c2:i=below t.place j
   ·rw[if_pos c2]at hi ⊢;cases hi;exact⟨k,by rw[hj],λm hm=>vI.mpr (.inr (hb m hm))⟩
   ·rw[if_neg c2]at hi ⊢;obtain⟨k',h1,h2⟩:=w.way (i-1) h' hi;exact⟨k',by simpa using h1,λm hm=>vI.mpr (.inr (h2 m hm))⟩
theorem JJ (led:Bool):Wt (fresh 0 0 led) []:=
 ⟨⟨List.Pairwise.nil,rfl⟩,.inl rfl,rfl,(λj hj=>by cases hj),(by show 0<8;decide),(λi h hi=>by cases hi)⟩
end ST
namespace ST
open PySem SetTable
noncomputable def fr (owner:Array (Option Nat)) (j:Nat):Bool:=(owner.getD j (some 0)).isNone
noncomputable def GZ (mask i pt:Nat):Probe:={j:=i,more:=runEnd mask i-i,i:=i,perturb:=pt,dummy:=none}
theorem G0 (mask i pt:Nat):fR mask (GZ mask i pt)=GZ mask (lp mask i pt) (pt/32):=rfl
theorem P7 (mask i:Nat):i<=runEnd mask i:=by unfold runEnd;split<;>omega
theorem yR (mask:Nat) (owner:Array (Option Nat)):∀(fuel i pt:Nat),(∃n,n<fuel/\fr owner (it (fR mask) n (GZ mask i pt)).j=true)->
  ∃k,layClean.free mask owner fuel i pt=some (it (jx mask) k (GZ mask i pt)).j/\fr owner (it (jx mask) k (GZ mask i pt)).j=true/\∀m,m<k->fr owner (it (jx mask) m (GZ mask i pt)).j=false
 |0,i,pt,⟨n,hn,_⟩=>by omega
 |fuel+1,i,pt,⟨n,hn,hf⟩=>by
  unfold layClean.free;have xG:=P7 mask i;have T2:∀k,k<=runEnd mask i-i->(it (jx mask) k (GZ mask i pt)).j=i+k:=λk hk=>by rw[wJ mask k _ hk];rfl
  cases NC:(List.range (runEnd mask i+1-i)).find? λk=>(owner.getD (i+k) (some 0)).isNone with
  |some k=>
   obtain⟨h1,h2,h3⟩:=List.find?_range_eq_some.mp NC;have hk:k<=runEnd mask i-i:=by have:=List.mem_range.mp h2;omega
   refine⟨k,by rw[T2 k hk],by rw[T2 k hk];exact h1,λm hm=>?_⟩
   rw[T2 m (by omega)]
   have:=h3 m hm;unfold fr;cases hx:(owner.getD (i+m) (some 0)).isNone with
   |false=>rfl
   |true=>rw[hx]at this;exact absurd this (by simp)
  |none=>
   have v3:∀k,k<=runEnd mask i-i->fr owner (i+k)=false:=λk hk=>by
    have:=List.find?_eq_none.mp NC k (List.mem_range.mpr (by omega))
    unfold fr;cases hx:(owner.getD (i+k) (some 0)).isNone with
    |false=>rfl
    |true=>rw[hx]at this;exact absurd rfl this
   have hn0:n≠0:=λz=>by
    subst z;have h0:fr owner i=true:=hf;rw[show i=i+0 from rfl,v3 0 (bL _)]at h0
    cases h0
   obtain⟨n',rfl⟩:∃n',n=n'+1:=⟨n-1,by omega⟩
   obtain⟨k,e1,e2,e3⟩:=yR mask owner fuel (lp mask i pt) (pt/32) ⟨n',by omega,hf⟩
   have qN:∀m,it (jx mask) (runEnd mask i-i+1+m) (GZ mask i pt)=it (jx mask) m (GZ mask (lp mask i pt) (pt/32)):=λm=>by
    rw[rV];have:=uU mask (GZ mask i pt);rw[show(GZ mask i pt).more=runEnd mask i-i from rfl]at this
    rw[this,G0]
   refine⟨runEnd mask i-i+1+k,?_,by rw[qN];exact e2,λm hm=>?_⟩
   ·rw[qN];exact e1
   ·by_cases vA:m<=runEnd mask i-i
    ·rw[T2 m vA];exact v3 m vA
    ·obtain⟨m',rfl⟩:∃m',m=runEnd mask i-i+1+m':=⟨m-(runEnd mask i-i+1),by omega⟩
     rw[qN];exact e3 m' (by omega)
theorem P8 {mask:Nat}(hm:mask=7\/mask=31) {p:Probe}(hp:p.perturb<2^64) {e:Nat}(he:e<=mask):∃n,n<turns mask/\(it (fR mask) n p).j=e:=by
 have key:∃m,m<=mask/\it (My mask) m (it (fR mask) 12 p).i=e:=by
  have hi:(it (fR mask) 12 p).i<=mask:=by
   rw[oC];show lp mask _ _<=mask;unfold lp;have:=Nat.mod_lt ((it (fR mask) 11 p).i*5+1+(it (fR mask) 11 p).perturb/32) (show 0<mask+1 by omega)
   omega
  rcases hm with rfl|rfl
  ·obtain⟨m,hm⟩:=SF ⟨(it (fR 7) 12 p).i,by omega⟩ ⟨e,by omega⟩
   exact⟨m.val,by omega,hm⟩
  ·obtain⟨m,hm⟩:=NB ⟨(it (fR 31) 12 p).i,by omega⟩ ⟨e,by omega⟩
   exact⟨m.val,by omega,hm⟩
 obtain⟨m,h1,h2⟩:=key;refine⟨12+m,by unfold turns;omega,?_⟩
 rw[rV];have h0:(it (fR mask) 12 p).perturb/32=0:=by
  rw[DN,Nat.div_div_eq_div_mul];apply Nat.div_eq_of_lt
  exact aw hp (by decide)
 have hj:∀(n:Nat) (q:Probe),q.j=q.i->(it (fR mask) n q).j=(it (fR mask) n q).i:=λn=>by
  cases n with
  |zero=>exact λq h=>h
  |succ n=>intro q _;rw[oC];rfl
 rw[hj m _ (by rw[oC];rfl),JE mask m _ h0,h2]
noncomputable def way (mask:Nat) (h:Int) (k:Nat):Nat:=(it (jx mask) k (GZ mask (bits h%(mask+1)) (bits h))).j
structure Ow (mask:Nat) (owner:Array (Option Nat)) (hs:cn):Prop where
 size:owner.size=mask+1
 of:∀(j k:Nat),owner[j]? =some (some k)->∃h q,hs[k]? =some h/\j=way mask h q/\∀m,m<q->fr owner (way mask h m)=false
 has:∀k:Nat,k<hs.length->∃j:Nat,owner[j]? =some (some k)
 one:∀(j j' k:Nat),owner[j]? =some (some k)->owner[j']? =some (some k)->j=j'
theorem JK (mask:Nat) (h:Int) (k:Nat):way mask h k<=mask:=by
 have:=(Pm.it k (sQ {fresh 0 0 true with mask:=mask} h)).le
 exact aB (Nat.le_add_right _ _) this
theorem JL {owner:Array (Option Nat)}{j:Nat}(h:j<owner.size):fr owner j=true↔owner[j]? =some none:=by
 unfold fr;rw[aU h,show owner.getD j (some 0)=owner[j] by simp[h]]
 cases owner[j]<;>simp
theorem Ow.room {mask:Nat}{owner:Array (Option Nat)}{hs:cn}(o:Ow mask owner hs) (hl:hs.length<mask+1):∃e,e<=mask/\fr owner e=true:=by
 by_cases h:∀e,e<=mask->fr owner e=false
 ·exfalso;have own:∀e,e<=mask->∃k,owner[e]? =some (some k):=λe he=>by
   have fM:e<owner.size:=by rw[o.size];omega
   cases hx:owner[e]with
   |none=>
    have:=(JL fM).mpr (by rw[aU fM,hx])
    rw[h e he]at this;cases this
   |some k=>exact⟨k,by rw[aU fM,hx]⟩
  let f:Nat->Nat:=λe=>match owner[e]? with|some (some k)=>k|_=>0
  have hf:∀e,e<=mask->owner[e]? =some (some (f e)):=λe he=>by
   obtain⟨k,hk⟩:=own e he;show owner[e]? =some (some (match owner[e]? with|some (some k)=>k|_=>0))
   rw[hk]
  have nd:((List.range (mask+1)).map f).Nodup:=by
   refine List.pairwise_map.mpr (List.Pairwise.imp_of_mem (λ{a b} ha hb EY z=>?_) List.pairwise_lt_range)
   have Xh:=hf a (by have:=List.mem_range.mp ha;omega)
   have LF:=hf b (by have:=List.mem_range.mp hb;omega)
   rw[<-z]at LF;exact absurd (o.one a b _ Xh LF) (by omega)
  have:=bW (l₂:=List.range hs.length) nd λk hk=>by
   obtain⟨e,he,rfl⟩:=List.mem_map.mp hk;obtain⟨h',q,h1,_⟩:=o.of e _ (hf e (by have:=List.mem_range.mp he;omega))
   exact List.mem_range.mpr (List.getElem?_eq_some_iff.mp h1).1
  rw[ae,List.length_range,List.length_range]at this;omega
 ·simp only[Classical.not_forall]at h;obtain⟨e,he,hn⟩:=h;exact⟨e,he,by cases hx:fr owner e with|true=>rfl|false=>exact absurd hx hn⟩
theorem Ow.step {mask:Nat}{owner:Array (Option Nat)}{hs:cn}(hm:mask=7\/mask=31) (o:Ow mask owner hs) (hl:hs.length<mask+1) (h:Int):
  ∃j,layClean.free mask owner (turns mask) (bits h%(mask+1)) (bits h)=some j/\Ow mask (owner.setIfInBounds j (some hs.length)) (hs++[h]):=by
 obtain⟨e,he,Ph⟩:=o.room hl;obtain⟨n,hn,ja⟩:=P8 hm (p:=GZ mask (bits h%(mask+1)) (bits h)) (E9 h) he;obtain⟨q,e1,e2,e3⟩:=yR mask owner (turns mask) (bits h%(mask+1)) (bits h) ⟨n,hn,by rw[ja];exact Ph⟩
 have P9:way mask h q<owner.size:=by rw[o.size];have:=JK mask h q;omega
 have ID:owner[way mask h q]? =some none:=(JL P9).mp e2;have get:∀j':Nat,(owner.setIfInBounds (way mask h q) (some hs.length))[j']? =if way mask h q=j' then some (some hs.length)else owner[j']? :=λj'=>by
  rw[Array.getElem?_setIfInBounds];by_cases hx:way mask h q=j'
  ·rw[if_pos hx,if_pos hx,if_pos (by first|exact P9|(rw[<-hx];exact P9))]
  ·rw[if_neg hx,if_neg hx]
 have Xj:∀j':Nat,fr owner j'=false->fr (owner.setIfInBounds (way mask h q) (some hs.length)) j'=false:=λj' hx=>by
  unfold fr at hx ⊢;rw[aT]at hx ⊢;rw[get j'];by_cases hy:way mask h q=j'
  ·rw[if_pos hy];rfl
  ·rw[if_neg hy];exact hx
 refine⟨way mask h q,e1,⟨by rw[Array.size_setIfInBounds];exact o.size,λj' k hk=>?_,λk hk=>?_,λj1 j2 k h1 h2=>?_⟩⟩
 ·rw[get j']at hk;by_cases hx:way mask h q=j'
  ·rw[if_pos hx]at hk;cases hk;exact⟨h,q,by simp,hx.symm,λm QS=>Xj _ (e3 m QS)⟩
  ·rw[if_neg hx]at hk;obtain⟨h',q',a1,a2,a3⟩:=o.of j' k hk;exact⟨h',q',by rw[aJ (List.getElem?_eq_some_iff.mp a1).1];exact a1,a2,λm QS=>Xj _ (a3 m QS)⟩
 ·rw[aQ,List.length_singleton]at hk;by_cases hx:k=hs.length
  ·exact⟨way mask h q,by rw[get,if_pos rfl,hx]⟩
  ·obtain⟨j',E1⟩:=o.has k (by omega)
   refine⟨j',?_⟩;rw[get,if_neg (λz=>by rw[<-z,ID]at E1;cases E1)]
   exact E1
 ·rw[get]at h1 h2;have old:∀j':Nat,owner[j']? =some (some hs.length)->False:=λj' E1=>by
   obtain⟨h',q',a1,_⟩:=o.of j' _ E1;exact absurd (List.getElem?_eq_some_iff.mp a1).1 (by omega)
  by_cases x1:way mask h q=j1
  ·by_cases x2:way mask h q=j2
   ·rw[<-x1,<-x2]
   ·rw[if_pos x1]at h1;rw[if_neg x2]at h2;cases h1;exact(old j2 h2).elim
  ·by_cases x2:way mask h q=j2
   ·rw[if_neg x1]at h1;rw[if_pos x2]at h2;cases h2;exact(old j1 h1).elim
   ·rw[if_neg x1]at h1;rw[if_neg x2]at h2;exact o.one j1 j2 k h1 h2
theorem Qa (mask:Nat):Ow mask (Array.replicate (mask+1) none) []:=by
 have no:∀(j k:Nat),(Array.replicate (mask+1) (none:Option Nat))[j]? =some (some k)->False:=λj k h=>by
  rw[Array.getElem?_replicate]at h;split at h<;>cases h
 exact⟨by simp,λj k h=>(no j k h).elim,(λk h=>by cases h),λj j' k h _=>(no j k h).elim⟩
noncomputable def JM (mask:Nat) (acc:Option (Array (Option Nat)×Nat)) (h:Int):Option (Array (Option Nat)×Nat):=acc.bind λx=>(layClean.free mask x.1 (turns mask) (bits h%(mask+1)) (bits h)).bind λj=>some (x.1.setIfInBounds j (some x.2),x.2+1)
theorem Bz {mask:Nat}(hm:mask=7\/mask=31):∀(rest dn:cn) (owner:Array (Option Nat)),Ow mask owner dn->(dn++rest).length<mask+2->∃Af,rest.foldl (JM mask) (some (owner,dn.length))=some (Af,(dn++rest).length)/\Ow mask Af (dn++rest)
 |[],dn,owner,o,_=>⟨owner,by rw[bB];rfl,by rw[bB];exact o⟩
 |h::rest,dn,owner,o,hl=>by
  rw[aQ,ax]at hl;obtain⟨j,e1,o1⟩:=o.step hm (by omega) h
  obtain⟨Af,e2,o2⟩:=Bz hm rest (dn++[h]) _ o1 (by simp;omega)
  refine⟨Af,?_,by rw[show dn++h::rest=dn++[h]++rest by simp];exact o2⟩
  rw[show dn++h::rest=dn++[h]++rest by simp,<-e2]
  show rest.foldl (JM mask) (JM mask (some (owner,dn.length)) h)=_
  congr 1
  show(layClean.free mask owner (turns mask) (bits h%(mask+1)) (bits h)).bind _=_;rw[e1];simp
theorem BA {mask:Nat}(hm:mask=7\/mask=31) (hashes:Array Int) (hl:hashes.size<mask+2):∃owner,layClean mask hashes=some owner/\Ow mask owner hashes.toList:=by
 obtain⟨owner,e,o⟩:=Bz hm hashes.toList [] _ (Qa mask) (by simpa using hl)
 refine⟨owner,?_,o⟩;have:layClean mask hashes=(hashes.toList.foldl (JM mask) (some (Array.replicate (mask+1) none,0))).map (·.1):=by
  unfold layClean;rw[<-Array.foldl_toList];rfl
 rw[this];have e':hashes.toList.foldl (JM mask) (some (Array.replicate (mask+1) none,0))=some (owner,([]++hashes.toList).length):=e;rw[e'];rfl
end ST
namespace ST
open PySem SetTable
noncomputable def live (mask:Nat) (owner:Array (Option Nat)):List (Nat×Nat):=(List.range (mask+1)).filterMap λj=>(owner.getD j none).map (j, ·)
theorem mw {mask:Nat}{owner:Array (Option Nat)}{hs:cn}(o:Ow mask owner hs) {j k:Nat}:(j,k)∈live mask owner↔owner[j]? =some (some k):=by
 unfold live;rw[List.mem_filterMap];constructor
 ·rintro⟨j',E1,e⟩
  cases hg:owner.getD j' none with
  |none=>rw[hg]at e;cases e
  |some k'=>
   rw[hg]at e;have e':(j',k')=(j,k):=aS e;cases e';rw[aT]at hg;cases hx:owner[j]? with
   |none=>rw[hx]at hg;cases hg
   |some y=>rw[hx]at hg;rw[show y=some k from hg]
 ·intro h;have fM:j<owner.size:=(Array.getElem?_eq_some_iff.mp h).1;rw[o.size]at fM;refine⟨j,List.mem_range.mpr fM,?_⟩;rw[aT,h];rfl
theorem DO (f:Nat->Option Nat):∀l:List Nat,(l.filterMap λj=>(f j).map (j, ·)).map (·.1)=l.filter λj=>(f j).isSome
 |[]=>rfl
 |a::l=>by
  rw[List.filterMap_cons,br];cases h:f a with
  |none=>simpa [h]using DO f l
  |some k=>simpa [h]using DO f l
theorem yS (mask:Nat) (owner:Array (Option Nat)):fC ((live mask owner).map (·.1)):=by
 unfold live;rw[DO (λj=>owner.getD j none)]
 exact List.Pairwise.filter _ List.pairwise_lt_range
theorem wK {mask:Nat}{owner:Array (Option Nat)}{hs:cn}(o:Ow mask owner hs):((live mask owner).map (·.2)).Perm (List.range hs.length):=by
 have nd:((live mask owner).map (·.2)).Nodup:=by
  refine List.pairwise_map.mpr (List.Pairwise.imp_of_mem (λ{a b} ha hb EY z=>?_) (List.pairwise_map.mp (yS mask owner)))
  obtain⟨a1,a2⟩:=a;obtain⟨b1,b2⟩:=b;have h1:=(mw o).mp ha;have h2:=(mw o).mp hb;have z':a2=b2:=z;rw[z']at h1;have e:=o.one a1 b1 b2 h1 h2;have ZS:a1<b1:=EY;omega
 refine(List.perm_ext_iff_of_nodup nd List.nodup_range).mpr λk=>?_
 rw[List.mem_map,List.mem_range];constructor
 ·rintro⟨⟨j,k'⟩,hm,rfl⟩
  obtain⟨h,q,h1,_⟩:=o.of j k' ((mw o).mp hm);exact(List.getElem?_eq_some_iff.mp h1).1
 ·intro hk;obtain⟨j,hj⟩:=o.has k hk;exact⟨(j,k),(mw o).mpr hj,rfl⟩
theorem MA {mask:Nat}(hm:mask=7\/mask=31) (finger moves:Nat) (led plain:Bool) (hashes:Array Int) (hl:hashes.size<mask+1):
  ∃(t:cC) (order:List Nat),laid mask finger moves led plain hashes=some (t,order.toArray)/\order.Perm (List.range hashes.size)/\Wt t (order.map λk=>hashes.getD k 0)/\t.mask=mask/\t.led=led/\t.plain=plain/\t.moves=moves/\t.finger=finger:=by
 obtain⟨owner,e,o⟩:=BA hm hashes (by omega)
 refine⟨_,(live mask owner).map (·.2),by unfold laid;rw[e];rfl,by simpa using wK o,⟨⟨yS mask owner,rfl⟩,hm,?_,λj hj=>?_,?_,λi h hi=>?_⟩,rfl,rfl,rfl,rfl,rfl⟩
 ·show((live mask owner).map (·.1)).toArray.size=_
  rw[aq,ae,ae,ae]
 ·obtain⟨⟨j',k⟩,Jf,rfl⟩:=List.mem_map.mp (show j∈(live mask owner).map (·.1)from hj)
  have:=(Array.getElem?_eq_some_iff.mp ((mw o).mp Jf)).1;rw[o.size]at this;show j'<=mask;omega
 ·have:=(wK o).length_eq;show((live mask owner).map (·.1)).toArray.size<mask+1
  rw[ae,List.length_range]at this;rw[aq,ae,this]
  simpa using hl
 ·rw[av,av]at hi;cases hx:(live mask owner)[i]? with
  |none=>rw[hx]at hi;cases hi
  |some y=>
   obtain⟨j,k⟩:=y;rw[hx]at hi;have hy:hashes.getD k 0=h:=aS hi;have JN:=(mw o).mp (bh hx);obtain⟨h',q,a1,a2,a3⟩:=o.of j k JN;have hh:h'=h:=by
    rw[<-hy,aT];have ZT:hashes[k]? =some h':=by simpa using a1
    rw[ZT];rfl
   subst hh;refine⟨q,?_,λm QS=>?_⟩
   ·show((live mask owner).map (·.1)).toArray[i]? =some (way mask h' q)
    rw[List.getElem?_toArray,av,hx,<-a2];rfl
   ·show way mask h' m∈(live mask owner).map (·.1)
    have fM:way mask h' m<owner.size:=by rw[o.size];have:=JK mask h' m;omega
    have:=a3 m QS;cases hz:owner[way mask h' m]with
    |none=>
     have:=(JL fM).mpr (by rw[aU fM,hz])
     rw[a3 m QS]at this;cases this
    |some k'=>
     exact List.mem_map.mpr ⟨(way mask h' m,k'),(mw o).mpr (by rw[aU fM,hz]),rfl⟩
theorem range_all {α:Type}:∀l:List α,(List.range l.length).filterMap (l[·]?)=l
 |[]=>rfl
 |a::l=>by
  rw[ax,List.range_succ_eq_map,List.filterMap_cons];show a::((List.range l.length).map Nat.succ).filterMap ((a::l)[·]?)=_
  rw[List.filterMap_map]
  congr 1
  exact range_all l
theorem reorder {α:Type}{es:Array α}{order:List Nat}(hp:order.Perm (List.range es.size)):(order.toArray.filterMap (es[·]?)).toList.Perm es.toList/\∀(f:α->Int),(order.toArray.filterMap (es[·]?)).toList.map f=order.map λk=>(es.map f).getD k 0:=by
 have e1:(order.toArray.filterMap (es[·]?)).toList=order.filterMap (es[·]?):=by simp
 have e2:(List.range es.size).filterMap (es[·]?)=es.toList:=by
  have:=range_all es.toList
  simpa using this
 refine⟨by rw[e1,<-e2];exact hp.filterMap _,λf=>?_⟩
 rw[e1,List.map_filterMap];have o4:∀k∈order,k<es.size:=λk hk=>List.mem_range.mp (hp.mem_iff.mp hk)
 clear hp e1 e2;induction order with
 |nil=>rfl
 |cons a r ih=>
  have ha:=o4 a af;rw[List.filterMap_cons,aE,<-ih λk hk=>o4 k (ai _ hk)]
  simp[ha]
end ST
namespace ST
open PySem PySem.Spec PyProof.Rows DL SetTable
structure El (P:cw->Prop) (h:Heap) (e:Int×cw) (d:D):Prop where
 ki:KI h e.2 d
 hash:e.1=eI d
 dep:dW d<=4
 ref:∃b,e.2=.ref b
 src:P e.2
def DP (P:cw->Prop) (h:Heap) (es:List (Int×cw)) (ds:cu):Prop:=es.length=ds.length/\∀(i:Nat) (e:Int×cw),es[i]? =some e->∃d,ds[i]? =some d/\El P h e d
section
variable {prog:cz}{w:cA}{A:cB}{E:cg}{s:cx}
theorem Fb (n:Nat):∀(A:cB) (s:cx) (v:cw) (d:D) (Q:Bool->cx->Prop),dW d<=n->KI s.heap v d->Q false s->wpAny (model prog w) A (ofAClassStatement n v) Q E s:=by
 induction n with
 |zero=>
  intro A s v d Q hn k h;cases k with
  |int i t=>unfold ofAClassStatement;exact aj h
  |tup h1 h2 h3 l=>unfold dW at hn;omega
 |succ n ih=>
  intro A s v d Q hn k h;cases k with
  |int i t=>unfold ofAClassStatement;exact aj h
  |@tup a o items m ds ho hc hd l=>
   have hT:s.TypeIs (.ref a) "tuple":=⟨o,ho,hc⟩;have CI:jg ds<=n:=by unfold dW at hn;omega
   unfold ofAClassStatement;refine aa (wpAny_typeOf hT ?_);show wpAny _ _ (pure true>>=_) _ _ s;refine aa (aj ?_);simp only[bT,aH,bD];refine aa (wpAny_seqItems ho hd ?_);refine aa ?_;show wpAny _ _ (forIn items _ _) _ _ s;rw[<-Array.forIn_toList];refine wpAny_forIn_list _ (λrest r s'=>r.1=none/\s'=s/\∃es,(∀e∈es,dW e<=n)/\rS s.heap rest es) _ ?_ ?_ _ _ ⟨rfl,rfl,ds,λe he=>aB (jJ he) CI,l⟩
   ·rintro v rest r s' ⟨hr,rfl,es,he,hk⟩
    cases hk with
    |cons k1 k2=>
     refine aa (ih A s' v _ _ (he _ af) k1 ?_);simp only[aH,bD];exact aj ⟨rfl,rfl,_,λe h=>he e (ai _ h),k2⟩
   ·rintro⟨r1,r2⟩ s' ⟨hr,rfl,_⟩
    simp only at hr;subst hr;exact aj h
theorem MB {x:cw}{dx:D}(hx:KI s.heap x dx) (NA:dW dx<=4) (stored:cv) (qN:∀y∈stored,∃d,KI s.heap y d/\dW d<=4) {Q:Bool->cx->Prop}(h:Q false s):wpAny (model prog w) A (searchCouldBeSeen x stored) Q E s:=by
 unfold searchCouldBeSeen;refine aa ?_;refine wpAny_forIn_list _ (λrest r s'=>r.1=none/\s'=s/\∀y∈rest,∃d,KI s.heap y d/\dW d<=4) _ ?_ ?_ _ _ ⟨rfl,rfl,qN⟩
 ·rintro y rest r s' ⟨hr,rfl,hk⟩
  obtain⟨d,kd,hd⟩:=hk y af;have ND:∀z∈rest,∃d,KI s'.heap z d/\dW d<=4:=λz hz=>hk z (ai _ hz)
  have key:∀(b:Bool) (R:ForInStep (Option Bool×Unit)->cx->Prop),R (.yield (none,())) s'->wpAny (model prog w) A (if(b||carriedByValue x&&carriedByValue y)=true then pure (ForInStep.yield (none,()))else do
    let q <-eqIsQuiet 8 x
    if(!q)=true then pure (ForInStep.done (some true,()))else do
     let q <-eqIsQuiet 8 y
     if(!q)=true then pure (ForInStep.done (some true,()))else do
      let q <-ofAClassStatement 8 x
      if q=true then pure (ForInStep.done (some true,()))else do
       let q <-ofAClassStatement 8 y
       if q=true then pure (ForInStep.done (some true,()))else pure (ForInStep.yield (none,()))) R E s':=λb R hR=>by
   split
   ·exact aj hR
   ·refine aa (KI.quiet 8 A s' x dx _ (by omega) hx ?_)
    simp only[bT,aH,bD];refine aa (KI.quiet 8 A s' y d _ (by omega) kd ?_)
    simp only[bT,aH,bD];refine aa (Fb 8 A s' x dx _ (by omega) hx ?_)
    simp only[aH,bD];refine aa (Fb 8 A s' y d _ (by omega) kd ?_)
    simp only[aH,bD];exact aj hR
  split
  ·exact key _ _ ⟨rfl,rfl,ND⟩
  ·exact key _ _ ⟨rfl,rfl,ND⟩
 ·rintro⟨r1,r2⟩ s' ⟨hr,rfl,_⟩
  simp only at hr;subst hr;exact aj h
end
end ST
namespace ST
open PySem PySem.Spec PyProof.Rows DL SetTable
section
variable {prog:cz}{w:cA}{A:cB}{E:cg}{s:cx}
theorem Wt.Vj {t:cC}{hs:cn}(W:Wt t hs):t.gaveWay=false:=by
 unfold gaveWay;rcases W.mask with h|h<;>rw[h]<;>rfl
theorem Wt.emp {t:cC}{hs:cn}(W:Wt t hs):∃e,e<=t.mask/\t.slot e=.empty:=by
 obtain⟨e,h1,h2⟩:=GY (n:=t.mask) W.tb.rise W.le (by have:=W.room;simpa using this)
 exact⟨e,h1,wH W.tb h2⟩
theorem G1 {P:cw->Prop}{a xa:cD}{o:Obj}{es:Array (Int×cw)}{ep:Nat}{t:cC}{ds:cu}{dx:D}{Q:SetFound->cx->Prop}(ho:s.heap.get? a=some o) (hd:o.data=.set es ep t) (hf:t.fits es.size=true) (W:Wt t (es.toList.map (·.1)))
  (hE:DP P s.heap es.toList ds) (hx:KI s.heap (.ref xa) dx) (NA:dW dx<=4) (hu:A.units+8<cLine)
  (Xk:dx∈ds->Q (.there none) s) (PM:dx∉ds->∀k,(it (jx t.mask) k (t.probeStart (eI dx))).j∉t.place.toList->(∀m,m<k->(it (jx t.mask) m (t.probeStart (eI dx))).j∈t.place.toList)->Q (.free (it (jx t.mask) k (t.probeStart (eI dx))).j false) s):
  ∀(r fuel k0 K:Nat) (JO:Option Probe),JO.getD (t.probeStart (eI dx))=it (jx t.mask) k0 (t.probeStart (eI dx))->t.slot (it (jx t.mask) K (t.probeStart (eI dx))).j=.empty->k0<=K->K-k0<=r->r<fuel->
   (∀m,m<k0->∃i d,t.slot (it (jx t.mask) m (t.probeStart (eI dx))).j=.live i/\ds[i]? =some d/\d≠dx)->
   wpAny (model prog w) A (setSearchFrom a (.ref xa) (eI dx) true fuel JO) Q E s:=by
 intro r;induction r using Nat.strongRecOn with
 |_ r ih=>
  intro fuel k0 K JO qN hK hk hr SG SH;obtain⟨fuel,rfl⟩:∃f,fuel=f+1:=⟨fuel-1,by omega⟩
  unfold setSearchFrom;refine aa (wpAny_setState_of ho hd hf ?_);dsimp only;rw[W.Vj];simp only[aH,bD];rw[qN];obtain⟨e0,Vk,Qb⟩:=W.emp;have Fc:=Pm.it k0 (sQ t (eI dx));obtain⟨q,hq,ZU⟩:=reach W.mask Fc.pb.nine Fc.pb.Mz Vk;obtain⟨k,SI,SJ⟩:=JG W.tb (ha:=λi=>(es[i]?.map (·.1)).getD 0) (h:=eI dx) (10*turns t.mask) _ Fc.pb ⟨q,hq,by rw[ZU];exact Qb⟩
  have ZV:∀m,it (jx t.mask) m (it (jx t.mask) k0 (t.probeStart (eI dx)))=it (jx t.mask) (k0+m) (t.probeStart (eI dx)):=λm=>(rV _ _ _ _).symm
  simp only[ZV]at SI SJ;have entry:∀i j,t.slot j=.live i->∃e d,es[i]? =some e/\ds[i]? =some d/\El P s.heap e d/\t.place[i]? =some j:=λi j hj=>by
   rcases wI W.tb j with⟨i',h1,h2⟩|⟨h1,_⟩
   ·rw[hj]at h1;cases h1;have fM:i<es.size:=by
     have:=(Array.getElem?_eq_some_iff.mp h2).1;have hl:=W.len;simp at hl;omega
    obtain⟨d,h3,h4⟩:=hE.2 i es[i] (by simp[fM])
    exact⟨es[i],d,by simp[fM],h3,h4,h2⟩
   ·rw[hj]at h1;cases h1
  have other:∀m,m<k->∃i d,t.slot (it (jx t.mask) (k0+m) (t.probeStart (eI dx))).j=.live i/\ds[i]? =some d/\d≠dx:=λm hm=>by
   obtain⟨i,h1,h2⟩:=SI m hm;obtain⟨e,d,h3,h4,h5,_⟩:=entry i _ h1;refine⟨i,d,h1,h4,λz=>h2 ?_⟩
   rw[h3];show e.1=_;rw[h5.hash,z]
  have JP:∀m,m<k0+k->∃i d,t.slot (it (jx t.mask) m (t.probeStart (eI dx))).j=.live i/\ds[i]? =some d/\d≠dx:=λm hm=>by
   by_cases SK:m<k0
   ·exact SH m SK
   ·obtain⟨m',rfl⟩:∃m',m=k0+m':=⟨m-k0,by omega⟩
    exact other m' (by omega)
  rcases SJ with⟨MC,e⟩|⟨i,JQ,hha,e⟩
  ·
   have DQ:dx∉ds:=λo4=>by
    obtain⟨i,hi⟩:=bp o4;have fM:i<es.toList.length:=by rw[hE.1];exact(List.getElem?_eq_some_iff.mp hi).1
    obtain⟨d,h1,h2⟩:=hE.2 i _ (ah fM);rw[hi]at h1;cases h1;obtain⟨ki,p1,p2⟩:=W.way i (eI dx) (by rw[av,ah fM];exact congrArg some h2.hash)
    have NF:(it (jx t.mask) (k0+k) (t.probeStart (eI dx))).j∉t.place.toList:=λz=>by
     obtain⟨i',xV⟩:=bp z;rw[qw W.tb (i:=i') (by simpa using xV)]at MC;cases MC
    rcases Nat.lt_trichotomy ki (k0+k)with MD|heq|Np
    ·obtain⟨i',d',q1,q2,q3⟩:=JP ki MD;rw[qw W.tb p1]at q1;cases q1;rw[hi]at q2;exact q3 (aS q2).symm
    ·subst heq;exact NF (Array.mem_toList_iff.mpr (Array.mem_of_getElem? p1))
    ·exact NF (p2 _ Np)
   have fin:=PM DQ (k0+k) (λz=>by
     obtain⟨i',xV⟩:=bp z;rw[qw W.tb (i:=i') (by simpa using xV)]at MC;cases MC) (λm hm=>by
     obtain⟨i,d,q1,_⟩:=JP m hm;obtain⟨_,_,_,_,_,q5⟩:=entry i _ q1;exact Array.mem_toList_iff.mpr (Array.mem_of_getElem? q5))
   split
   ·rename_i met hm;have z:=hm.symm.trans e;cases z;exact aj fin
   ·rename_i hm;exact(hm _ e).elim
  ·obtain⟨⟨hv,y⟩,d,h3,h4,h5,h6⟩:=entry i _ JQ;obtain⟨b,ZW⟩:=h5.ref;have SM:y=.ref b:=ZW;have ZX:k0+k<K:=by
    rcases Nat.lt_trichotomy K (k0+k)with fM|heq|Np
    ·obtain⟨i',d',q1,_⟩:=JP K fM;rw[hK]at q1;cases q1
    ·subst heq;rw[hK]at JQ;cases JQ
    ·exact Np
   have NG:t.sameMemory t.moves t.mask=some true:=by unfold sameMemory;rw[if_pos (bN _)]
   have SN:dP d dx=decide (d=dx):=KI.dP h5.ki hx;split
   ·rename_i met hm;have z:=hm.symm.trans e;cases z;dsimp only;split
    ·refine aa (MB hx NA _ (λv hv=>?_) ?_)
     ·obtain⟨en,ZY,rfl⟩:=List.mem_map.mp hv;have Vl:en∈es.toList:=by
       have:=Array.mem_toList_iff.mp ZY;exact Array.mem_toList_iff.mpr (Array.mem_filter.mp this).1
      obtain⟨i',xV⟩:=bp Vl;obtain⟨d',_,h8⟩:=hE.2 i' en xV;exact⟨d',h8.ki,h8.dep⟩
     simp only[aH,bD];rw[h3];dsimp only;refine aa (bo ((KI.eq 4 A s y (.ref xa) d dx h5.dep (by omega) h5.ki hx) prog w _ _ ?_))
     refine aa (wpAny_setState_of ho hd hf ?_);dsimp only;rw[SN];by_cases ME:d=dx
     ·rw[aR ME];exact aj (Xk (ME▸bh h4))
     ·rw[aG ME,NG];simp only[Bool.and_false,aH,bD,if_true];rw[JQ];dsimp only;rw[h3];dsimp only;rw[SM];refine aa (wpAny_isSame_ref_self ?_);refine aa (aj ?_);simp only[if_true];exact ih (K-(k0+k+1)) (by omega) fuel (k0+k+1) K _ rfl hK (by omega) (au _) (by omega) λm vA=>by
       by_cases SK:m<k0+k
       ·exact JP m SK
       ·have:m=k0+k:=by omega
        subst this;exact⟨i,d,JQ,h4,ME⟩
    ·rw[h3];dsimp only;refine aa (bo ((KI.eq 4 A s y (.ref xa) d dx h5.dep (by omega) h5.ki hx) prog w _ _ ?_))
     refine aa (wpAny_setState_of ho hd hf ?_);dsimp only;rw[SN];by_cases ME:d=dx
     ·rw[aR ME];exact aj (Xk (ME▸bh h4))
     ·rw[aG ME,NG];simp only[Bool.and_false,aH,bD,if_true];rw[JQ];dsimp only;rw[h3];dsimp only;rw[SM];refine aa (wpAny_isSame_ref_self ?_);refine aa (aj ?_);simp only[if_true];exact ih (K-(k0+k+1)) (by omega) fuel (k0+k+1) K _ rfl hK (by omega) (au _) (by omega) λm vA=>by
       by_cases SK:m<k0+k
       ·exact JP m SK
       ·have:m=k0+k:=by omega
        subst this;exact⟨i,d,JQ,h4,ME⟩
   ·rename_i hm;exact(hm _ e).elim
end
end ST
namespace ST
open PySem PySem.Spec PyProof.Rows DL SetTable
mutual
theorem ki_set {h h':Heap}{x:cD}{ox:Obj}{es:Array (Int×cw)}{ep:Nat}{t:cC}(ho:h.get? x=some ox) (hd:ox.data=.set es ep t) (hs:Heap.SameBut x h h'):∀{v:cw}{d:D},KI h v d->KI h' v d
 |_,_,.int n t=>.int n t
 |_,_,@KI.tup _ a o items n ds h1 h2 h3 l=>by
  have ja:a≠x:=by
   rintro rfl
   rw[ho]at h1;cases h1;rw[hd]at h3;exact nomatch h3
  exact .tup ((hs.2 a ja).trans h1) h2 h3 (Fd ho hd hs l)
theorem Fd {h h':Heap}{x:cD}{ox:Obj}{es:Array (Int×cw)}{ep:Nat}{t:cC}(ho:h.get? x=some ox) (hd:ox.data=.set es ep t) (hs:Heap.SameBut x h h'):∀{vs:cv}{ds:cu},rS h vs ds->rS h' vs ds
 |_,_,.nil=>.nil
 |_,_,.cons h t=>.cons (ki_set ho hd hs h) (Fd ho hd hs t)
end
theorem DP.imp {P:cw->Prop}{h h':Heap}{es:List (Int×cw)}{ds:cu}(e:DP P h es ds) (m:∀v d,KI h v d->KI h' v d):DP P h' es ds:=
 ⟨e.1,λi x hx=>let ⟨d,h1,h2⟩:=e.2 i x hx;⟨d,h1,⟨m _ _ h2.ki,h2.hash,h2.dep,h2.ref,h2.src⟩⟩⟩
theorem DP.ins {P:cw->Prop}{h:Heap}{es:List (Int×cw)}{ds:cu}(e:DP P h es ds) {p:Nat}(hp:p<=es.length) {x:Int×cw}{d:D}(hx:El P h x d):DP P h (ST.ins es p x) (ST.ins ds p d):=by
 have DR:p<=ds.length:=by rw[<-e.1];exact hp
 refine⟨by rw[mv hp,mv DR,e.1],λi y hy=>?_⟩
 rw[mR hp]at hy;rw[mR DR];by_cases c1:i<p
 ·rw[if_pos c1]at hy ⊢;exact e.2 i y hy
 ·rw[if_neg c1]at hy ⊢;by_cases c2:i=p
  ·rw[if_pos c2]at hy ⊢;cases hy;exact⟨d,rfl,hx⟩
  ·rw[if_neg c2]at hy ⊢;exact e.2 (i-1) y hy
theorem DS {α:Type}(l:List α):∀(order:List Nat),(∀k∈order,k<l.length)->∀i:Nat,(order.filterMap λk:Nat=>l[k]?)[i]? =(order[i]?).bind λk:Nat=>l[k]?
 |[],_,i=>by simp
 |a::r,h,i=>by
  have ha:=h a af;have e:l[a]? =some l[a]:=ah ha;rw[List.filterMap_cons,e];cases i with
  |zero=>simp[e]
  |succ i=>simpa using DS l r (λk hk=>h k (ai _ hk)) i
theorem DP.reorder {P:cw->Prop}{h:Heap}{es:List (Int×cw)}{ds:cu}(e:DP P h es ds) {order:List Nat}(hp:order.Perm (List.range es.length)):DP P h (order.filterMap λk:Nat=>es[k]?) (order.filterMap λk:Nat=>ds[k]?)/\(order.filterMap λk:Nat=>ds[k]?).Perm ds:=by
 have o4:∀k∈order,k<es.length:=λk hk=>List.mem_range.mp (hp.mem_iff.mp hk)
 have SO:∀k∈order,k<ds.length:=λk hk=>by rw[<-e.1];exact o4 k hk
 have SQ:∀{α:Type}(l:List α) (o:List Nat),(∀k∈o,k<l.length)->(o.filterMap λk:Nat=>l[k]?).length=o.length:=λl o=>by
  induction o with
  |nil=>intro _;rfl
  |cons a r ih=>
   intro hh;rw[List.filterMap_cons,ah (hh a af)];show(r.filterMap λk:Nat=>l[k]?).length+1=_
   rw[ih λk hk=>hh k (ai _ hk)];rfl
 refine⟨⟨by rw[SQ es order o4,SQ ds order SO],λi x hx=>?_⟩,?_⟩
 ·rw[DS es order o4]at hx;rw[DS ds order SO];cases hk:order[i]? with
  |none=>rw[hk]at hx;cases hx
  |some k=>rw[hk]at hx;exact e.2 k x hx
 ·have h1:=hp.filterMap (λk:Nat=>ds[k]?)
  rw[e.1,range_all]at h1;exact h1
section
variable {prog:cz}{w:cA}{A:cB}{E:cg}{s:cx}
theorem SR (n:Nat):∀(A:cB) (s:cx) (v:cw) (d:D) (Q:Bool->cx->Prop),dW d<=n->KI s.heap v d->Q true s->wpAny (model prog w) A (hashByValue n v) Q E s:=by
 induction n with
 |zero=>
  intro A s v d Q hn k h;cases k with
  |int i t=>unfold hashByValue;exact aj h
  |tup h1 h2 h3 l=>unfold dW at hn;omega
 |succ n ih=>
  intro A s v d Q hn k h;cases k with
  |int i t=>unfold hashByValue;exact aj h
  |@tup a o items m ds ho hc hd l=>
   have hT:s.TypeIs (.ref a) "tuple":=⟨o,ho,hc⟩;have CI:jg ds<=n:=by unfold dW at hn;omega
   unfold hashByValue;refine aa (wpAny_specialOf hT F.slot_tuple_hash.lookup ?_);dsimp only;refine aa (wpAny_seqItems ho hd ?_);refine aa ?_;show wpAny _ _ (forIn items _ _) _ _ s;rw[<-Array.forIn_toList];refine wpAny_forIn_list _ (λrest r s'=>r.1=none/\s'=s/\∃es,(∀e∈es,dW e<=n)/\rS s.heap rest es) _ ?_ ?_ _ _ ⟨rfl,rfl,ds,λe he=>aB (jJ he) CI,l⟩
   ·rintro v rest r s' ⟨hr,rfl,es,he,hk⟩
    cases hk with
    |cons k1 k2=>
     refine aa (ih A s' v _ _ (he _ af) k1 ?_);simp only[bT,aH,bD];exact aj ⟨rfl,rfl,_,λe h=>he e (ai _ h),k2⟩
   ·rintro⟨r1,r2⟩ s' ⟨hr,rfl,_⟩
    simp only at hr;subst hr;exact aj h
structure vk (P:cw->Prop) (ld:Bool) (h:Heap) (a:cD) (ds:cu):Prop where
 ex:∃(o:Obj) (es:Array (Int×cw)) (ep:Nat) (t:cC),h.get? a=some o/\o.ExactSet/\o.data=.set es ep t/\Wt t (es.toList.map (·.1))/\DP P h es.toList ds/\t.place.size*5<t.mask*3/\t.plain=true/\t.led=ld
 nd:ds.Nodup
theorem Wt.fits {t:cC}{es:Array (Int×cw)}(W:Wt t (es.toList.map (·.1))):t.fits es.size=true:=by
 have h1:=W.len;have h2:=W.room;simp at h1;unfold SetTable.fits SetTable.fill;rw[W.tb.SE];simp only[Bool.and_eq_true,beq_iff_eq,decide_eq_true_eq,aq,List.length_nil];omega
theorem JR {α:Type}(l:List α) (p:Nat) (x:α):(ins l p x).Perm (x::l):=by
 unfold ins;refine List.perm_middle.trans (List.Perm.cons x ?_);rw[List.take_append_drop]
theorem Qc {P:cw->Prop}{ld:Bool}{a xa:cD}{ds:cu}{dx:D}{Q:Bool->cx->Prop}(S:vk P ld s.heap a ds) (hx:KI s.heap (.ref xa) dx) (NA:dW dx<=4) (hP:P (.ref xa)) (hu:A.units+8<cLine) (hn:ds.length<18)
  (h:∀h' EU,Heap.SameBut a s.heap h'->vk P ld h' a EU->EU.Perm (if dx∈ds then ds else dx::ds)->Q (!decide (dx∈ds)) {s with heap:=h'}):
  wpAny (model prog w) A (setAddHashed a (.ref xa) (eI dx)) Q E s:=by
 obtain⟨o,es,ep,t,ho,hex,hd,W,hE,i7,kO,SS⟩:=S.ex;have hf:=W.fits;have hlen:t.place.size=es.size:=by have:=W.len;simpa using this
 unfold setAddHashed setAddHashedIn;refine bo (aa (wpAny_setState_of ho hd hf ?_));dsimp only;have SU:byScan (.ref xa) es=false:=rfl;rw[SU];simp only[aH,bD];obtain⟨e0,Vk,Qb⟩:=W.emp;have Fc:=sQ t (eI dx);obtain⟨K,TH,UX⟩:=reach W.mask Fc.pb.nine Fc.pb.Mz Vk;have ZZ:K<100000:=by
  rcases W.mask with hm|hm<;>(rw[hm]at TH;unfold turns at TH;omega)
 unfold setSearch;refine aa (G1 ho hd hf W hE hx NA hu (λo4=>?_) (λDQ k Qd NH=>?_) K 100000 0 K none rfl (by rw[UX];exact Qb) (bL _) (by omega) ZZ (λm hm=>by omega))
 ·have:=h s.heap ds (Heap.SameBut.refl a s.heap) S (by rw[if_pos o4])
  rw[aR o4]at this;exact aj this
 ·dsimp only;refine aa (wpAny_setState_of ho hd hf ?_);dsimp only;have Z0:t.place.size+1<t.mask+1:=by omega
  obtain⟨W1,Lg,Bg,Fe⟩:=W.put Qd NH Z0;have JS:(t.put (it (jx t.mask) k (t.probeStart (eI dx))).j).1.plain=true:=kO;have MF:(t.put (it (jx t.mask) k (t.probeStart (eI dx))).j).1.led=ld:=SS;generalize t.put (it (jx t.mask) k (t.probeStart (eI dx))).j=tp at W1 Lg Bg Fe JS MF;obtain⟨t1,p⟩:=tp;dsimp only at W1 Lg Bg Fe JS MF;rw[if_pos JS];refine aa (SR 8 A s (.ref xa) dx _ (by omega) hx ?_)
  simp only[if_true];have T3:p<=es.toList.length:=by simpa using Lg
  have Vm:(insertAt es p (eI dx,Value.ref xa)).toList=ins es.toList p (eI dx,Value.ref xa):=rk _ _ _;have Xl:Wt t1 ((insertAt es p (eI dx,Value.ref xa)).toList.map (·.1)):=by rw[Vm,ins_map];exact W1
  have SV:(insertAt es p (eI dx,Value.ref xa)).size=es.size+1:=by
   rw[<-aN,Vm,mv T3,aN]
  have Z1:ds.length=es.size:=by rw[<-hE.1,aN]
  refine aa (wpAny_storeSet_of ho hd ?_ (by rw[SV];exact aB (by omega:es.size+1<=100) (by decide)))
  have Vn:Heap.SameBut a s.heap (s.heap.update a (Obj.putSet (insertAt es p (eI dx,Value.ref xa)) t1)):=Heap.SameBut.update ..;have uR:(s.heap.update a (Obj.putSet (insertAt es p (eI dx,Value.ref xa)) t1)).get? a=some {o with data:=.set (insertAt es p (eI dx,Value.ref xa)) (ep+1) t1}:=by
   have:=Heap.get?_update_self (Obj.putSet (insertAt es p (eI dx,Value.ref xa)) t1) ho (by rw[putSet_of _ t1 hd];rfl)
   rw[putSet_of _ t1 hd]at this;exact this
  have Xm:∀v d,KI s.heap v d->KI (s.heap.update a (Obj.putSet (insertAt es p (eI dx,Value.ref xa)) t1)) v d:=λv d=>ki_set ho hd Vn
  have Xn:DP P (s.heap.update a (Obj.putSet (insertAt es p (eI dx,Value.ref xa)) t1)) (insertAt es p (eI dx,Value.ref xa)).toList (ins ds p dx):=by
   rw[Vm];exact(hE.imp Xm).ins T3 ⟨Xm _ _ hx,rfl,NA,⟨xa,rfl⟩,hP⟩
  have wL:(ins ds p dx).Perm (dx::ds):=JR ds p dx;have Le:(ins ds p dx).Nodup:=wL.nodup_iff.mpr (List.nodup_cons.mpr ⟨DQ,S.nd⟩);have NI:t1.fill=t1.place.size:=by unfold SetTable.fill;rw[W1.tb.SE];rfl
  have SW:(!decide (dx∈ds))=true:=by rw[aG DQ];rfl
  by_cases Ff:t1.tooFull=true
  ·
   have SG:t1.mask*3<=t1.place.size*5:=by
    have:decide (t1.fill*5 ≥ t1.mask*3)=true:=Ff;rw[NI]at this;have:=bK this;omega
   have Xo:t.mask=7:=by
    rcases W.mask with hm|hm
    ·exact hm
    ·rw[Bg,hm,Fe]at SG;omega
   have h4:es.size=4:=by rw[Bg,Xo,Fe]at SG;rw[Xo]at i7;omega
   generalize Z2:insertAt es p (eI dx,Value.ref xa)=xZ at *;have Qe:xZ.size=5:=by rw[SV,h4]
   obtain⟨t2,order,SX,Vo,W2,vA,SY,Vp,_⟩:=MA (mask:=31) (.inr rfl) t1.finger (t1.movedTo 31) t1.led t1.plain (xZ.map (·.1)) (by simp[Qe])
   have NJ:order.Perm (List.range xZ.size):=by simpa using Vo
   obtain⟨rp,Vq⟩:=reorder (es:=xZ) NJ;have hsz2:(order.toArray.filterMap (xZ[·]?)).size=xZ.size:=by
    have:=rp.length_eq
    simpa using this
   have Xp:Wt t2 ((order.toArray.filterMap (xZ[·]?)).toList.map (·.1)):=by rw[Vq (·.1)];exact W2
   simp only[Bool.not_false,Bool.true_and,if_pos Ff];refine aa ?_;unfold setRelay;refine aa (wpAny_setState_of uR rfl Xl.fits ?_);dsimp only;have hw:sizeAbove (grown (es.size+1))=32:=by rw[h4];rfl
   have Z3:t1.relaid (xZ.map (·.1)) (grown (es.size+1))=some (t2,order.toArray):=by unfold relaid;rw[hw];exact SX
   rw[hw,if_neg (by decide),Z3]
   refine aa ?_;show wpAny _ _ (if((order.toArray.filterMap (xZ[·]?)).size !=xZ.size)=true then(unsupported "internal:set-table-lost-an-element">>=λ_=>pure (order.toArray.filterMap (xZ[·]?),t2))else pure (order.toArray.filterMap (xZ[·]?),t2)) _ _ _
   rw[if_neg (by rw[hsz2];simp)]
   refine aj ?_;dsimp only;refine wpAny_storeSet_of uR rfl ?_ (by rw[hsz2,Qe];decide)
   have Xq:Heap.SameBut a (s.heap.update a (Obj.putSet xZ t1)) ((s.heap.update a (Obj.putSet xZ t1)).update a (Obj.putSet (order.toArray.filterMap (xZ[·]?)) t2)):=Heap.SameBut.update ..
   have vf:((s.heap.update a (Obj.putSet xZ t1)).update a (Obj.putSet (order.toArray.filterMap (xZ[·]?)) t2)).get? a=some {o with data:=.set (order.toArray.filterMap (xZ[·]?)) (ep+1+1) t2}:=by
    have:=Heap.get?_update_self (Obj.putSet (order.toArray.filterMap (xZ[·]?)) t2) uR (by rw[putSet_of _ t2 rfl];rfl)
    rw[putSet_of _ t2 rfl]at this;exact this
   have eq2:(order.toArray.filterMap (xZ[·]?)).toList=order.filterMap λk:Nat=>xZ.toList[k]? :=by simp
   obtain⟨Xr,S0⟩:=(Xn.imp (λv d=>ki_set uR rfl Xq)).reorder (order:=order) (by simpa using NJ)
   rw[<-eq2]at Xr;have:=h _ _ (Vn.trans Xq) ⟨⟨_,_,_,t2,vf,hex,rfl,Xp,Xr,by have h1:=Xp.len;rw[ae,aN,hsz2,Qe]at h1;rw[vA,h1];decide,by rw[Vp];exact JS,by rw[SY];exact MF⟩,(S0.trans wL).nodup_iff.mpr (List.nodup_cons.mpr ⟨DQ,S.nd⟩)⟩ (by rw[if_neg DQ];exact S0.trans wL)
   rw[SW]at this;exact aj this
  ·have SG:t1.place.size*5<t1.mask*3:=by
    have h0:¬ (decide (t1.fill*5 ≥ t1.mask*3)=true):=Ff;rw[NI]at h0
    simpa using h0
   simp only[Bool.not_false,Bool.true_and,if_neg Ff];have:=h _ (ins ds p dx) Vn ⟨⟨_,_,_,t1,uR,hex,rfl,Xl,Xn,SG,JS,MF⟩,Le⟩ (by rw[if_neg DQ];exact wL)
   rw[SW]at this;exact aj this
end
end ST
namespace ST
open PySem PySem.Spec PyProof.Rows DL SetTable
def Tk (h h':Heap):Prop:=∀b o,h.get? b=some o->o.cls=.type "tuple"->h'.get? b=some o
theorem Tk.trans {h h1 h2:Heap}(a:Tk h h1) (b:Tk h1 h2):Tk h h2:=λx o e c=>b x o (a x o e c) c
mutual
theorem JT {h h':Heap}(t:Tk h h'):∀{v:cw}{d:D},KI h v d->KI h' v d
 |_,_,.int n t=>.int n t
 |_,_,.tup h1 h2 h3 l=>.tup (t _ _ h1 h2) h2 h3 (JU t l)
theorem JU {h h':Heap}(t:Tk h h'):∀{vs:cv}{ds:cu},rS h vs ds->rS h' vs ds
 |_,_,.nil=>.nil
 |_,_,.cons h r=>.cons (JT t h) (JU t r)
end
theorem vk.mono {P:cw->Prop}{ld:Bool}{h h':Heap}{a:cD}{ds:cu}(S:vk P ld h a ds) (hS:∀o,h.get? a=some o->h'.get? a=some o) (t:Tk h h'):vk P ld h' a ds:=by
 obtain⟨o,es,ep,tb,h1,h2,h3,h4,h5,h6,h7⟩:=S.ex;exact⟨⟨o,es,ep,tb,hS o h1,h2,h3,h4,h5.imp λv d=>JT t,h6,h7⟩,S.nd⟩
theorem vk.tk {P:cw->Prop}{ld:Bool}{h h':Heap}{a:cD}{ds:cu}(S:vk P ld h a ds) (hs:Heap.SameBut a h h'):Tk h h':=λb o e c=>by
 obtain⟨o',es,ep,tb,h1,h2,_⟩:=S.ex;have ja:b≠a:=λz=>by
  subst z;rw[h1]at e;cases e;rw[h2.1]at c;exact absurd c (by decide)
 exact(hs.2 b ja).trans e
theorem DT {P:cw->Prop}{h:Heap}{a:cD}(led:Bool) (ho:h.get? a=some {cls:=.type "set",dict:=none,data:=.set #[] 0 (.fresh 0 0 led)}):vk P led h a []:=
 ⟨⟨_,#[],0,_,ho,⟨rfl,rfl,rfl⟩,rfl,JJ led,⟨rfl,λi e he=>by simp at he⟩,by show 0*5<7*3;decide,rfl,rfl⟩,List.nodup_nil⟩
section
variable {prog:cz}{w:cA}{A:cB}{R:Result->cx->Prop}{I:cD}{fp wr:List cD}{G:Array GenState->Array GenState->Prop}{n:Nat}{P:Nat->cw->Prop}{St:Nat->cx->Prop}
theorem S1 {Pv:cw->Prop}{ld:Bool}(W:WalksS prog w A.in1 I fp wr G n P St) (S:cD) (QT:S∉fp) (val:Nat->D) (h0:Heap)
  (DU:∀i v,P i v->(∃xa,v=.ref xa)/\dW (val i)<=4/\KI h0 v (val i)/\Pv v) (hb:n<=18) (hu:A.units+9<cLine)
  (Z4:∀i (s:cx) b o,St i s->b∈wr->s.heap.get? b=some o->o.cls≠.type "tuple"):
  ∀(k i:Nat) (s:cx),n-i=k->i<=n->St i s->Tk h0 s.heap->
   (∃ds,vk Pv ld s.heap S ds/\ds.length<=i/\∀d,d∈ds↔∃m,m<i/\val m=d)->
   (∀s',Moved (S::wr) G s s'->Tk h0 s'.heap->(∃ds,vk Pv ld s'.heap S ds/\ds.length<=n/\∀d,d∈ds↔∃m,m<n/\val m=d)->R (.ok (.ret .none)) s')->
   codeAny (model prog w) A (.builtin "set.update.loop" ⟨[.ref S,.ref I],[]⟩) R s:=by
 have Xs:S∉wr:=λh=>QT (W.sub _ h)
 have JV:∀b∈wr,b∈S::wr:=λb hb=>ai _ hb
 have T4:∀{i:Nat}{s s':cx},St i s->Moved wr G s s'->Tk s.heap s'.heap:=λqN hm b o e c=>hm.heap b o (λhb=>Z4 _ _ b o qN hb e c) e
 intro k;induction k with
 |zero=>
  intro i s hk hi qN hT ⟨ds,hS,hl,BB⟩ hR;have o4:i=n:=by omega
  subst o4;refine codeAny_builtin PyProof.Rows.F.entry_set_update_loop ?_;rw[bX PyProof.Rows.F.plain_set_update_loop _];show wpAny _ A.in1 (pyNext (.ref I)>>=_) _ _ s;refine aa (W.done s _ _ qN λs' hm=>?_)
  show wpAny _ A.in1 (ret Value.none) _ _ s';exact aj (hR s' ⟨λb o hb e=>hm.heap b o (λz=>hb (JV b z)) e,hm.gens,hm.drawn,hm.os,hm.toks⟩ (hT.trans (T4 qN hm)) ⟨ds,hS.mono (λo e=>hm.heap S o Xs e) (T4 qN hm),hl,BB⟩)
 |succ k ih=>
  intro i s hk hi qN hT ⟨ds,hS,hl,BB⟩ hR;have fM:i<n:=by omega
  refine codeAny_builtin PyProof.Rows.F.entry_set_update_loop ?_;rw[bX PyProof.Rows.F.plain_set_update_loop _];show wpAny _ A.in1 (pyNext (.ref I)>>=_) _ _ s;refine aa (W.item i s _ _ fM qN λv s' hP Vr hm=>?_)
  obtain⟨⟨xa,rfl⟩,JW,Z5,Z6⟩:=DU i v hP;have Xu:=hT.trans (T4 qN hm);have MG:=hS.mono (λo e=>hm.heap S o Xs e) (T4 qN hm)
  show wpAny _ A.in1 (holding [Value.ref xa] (setAdd S (.ref xa))>>=_) _ _ s';refine aa (bo ?_);unfold setAdd;refine bo ?_;have S2:=JT Xu Z5;refine aa (KI.hash 4 A.in1 s' (.ref xa) (val i) _ JW (by show A.units+1+4<cLine;omega) S2 ?_)
  refine Qc (s:={s' with toks:=s'.toks+wz (val i)}) MG S2 JW Z6 (by show A.units+1+8<cLine;omega) (by omega) λh' EU Lf T5 Fc=>?_
  have Vs:Tk s'.heap h':=MG.tk Lf;refine aj ⟨plainId_quiet PyProof.Rows.F.plain_set_update_loop _,ih (i+1) _ (by omega) fM (W.frame _ s' _ _ Vr (Nat.le_add_right _ _) λb hb o e=>?_) (Xu.trans Vs) ⟨EU,T5,?_,λd=>?_⟩ λHH Vt Z7 Vu=>?_⟩
  ·rw[Lf.2 b (λh:b=S=>QT (by rw[<-h];exact hb))];exact e
  ·have:=Fc.length_eq;by_cases o4:val i∈ds
   ·rw[if_pos o4]at this;omega
   ·rw[if_neg o4,ax]at this;omega
  ·rw[Fc.mem_iff];have base:=BB d;constructor
   ·intro hd;split at hd
    ·obtain⟨m,h1,h2⟩:=base.mp hd;exact⟨m,by omega,h2⟩
    ·rcases List.mem_cons.mp hd with rfl|hd
     ·exact⟨i,by omega,rfl⟩
     ·obtain⟨m,h1,h2⟩:=base.mp hd;exact⟨m,by omega,h2⟩
   ·rintro⟨m,h1,h2⟩
    by_cases Z8:m=i
    ·subst Z8;subst h2;split
     ·rename_i o4;exact o4
     ·exact af
    ·have:=base.mpr ⟨m,by omega,h2⟩
     split
     ·exact this
     ·exact ai _ this
  ·refine hR HH (Moved.trans W.gtrans ?_ Vt) Z7 Vu;refine⟨λb o hb e=>?_,hm.gens,hm.drawn,hm.os,?_⟩
   ·rw[Lf.2 b (λh:b=S=>hb (by rw[h];exact af))]
    exact hm.heap b o (λz=>hb (JV b z)) e
   ·exact aB hm.toks (Nat.le_add_right _ _)
end
end ST
namespace ST
open PySem PySem.Spec PyProof.Rows DL SetTable
noncomputable abbrev dH (led:Bool):Obj:={cls:=.type "set",dict:=none,data:=.set #[] 0 (.fresh 0 0 led)}
section
variable {prog:cz}{w:cA}{A:cB}{E:cg}{s:cx}
def Made (P:cw->Prop) (ld:Bool) (s:cx) (val:cu) (h':Heap):Prop:=(∃ds,vk P ld h' s.heap.objs.size ds/\∀d,d∈ds↔d∈val)/\∀b o,b<s.heap.objs.size->s.heap.get? b=some o->h'.get? b=some o
theorem G2 {l:cD}{items:Array cw}{val:cu}{led:Bool}(hh:A.handled=none) (hu:A.units+20<cLine) (hl:s.heap.IsList l items) (hn:items.size=val.length)
  (hit:∀(i:Nat) (v:cw),items[i]? =some v->(∃xa,v=.ref xa)/\dW (val.getD i .eU)<=4/\KI s.heap v (val.getD i .eU)) (hb:items.size<=18) {Q:PySem.Fin->cx->Prop}
  (h:∀h' tk,Made (·∈items.toList) led s val h'->Q (.done (.ret .none)) {s with heap:=h',toks:=tk}):
  wpAny (model prog w) A (Builtin.«set.__init__» ⟨[.ref s.heap.objs.size,.ref l],[]⟩) Q E {s with heap:=s.heap.push (dH led)}:=by
 obtain⟨⟨Vv,JX,S3,DV⟩,S4,t7,nl,S5⟩:=hl;simp only at t7 S5;subst t7 S5;have hS:(s.heap.push (dH led)).get? s.heap.objs.size=some (dH led):=ay _ rfl;have hT:Shared.TypeIs {s with heap:=s.heap.push (dH led)} (.ref s.heap.objs.size) "set":=⟨_,hS,rfl⟩
 have Qf:(s.heap.push (dH led)).get? l=some {cls:=.type "list",dict:=JX,data:=.seq items nl,slots:=DV}:=ag _ S4;have Vw:=PySem.F.sub_list_set;have Vx:=PySem.F.sub_list_frozenset;have ja:(Value.type "list"==Value.type "dict")=false:=by decide
 have Qg:(s.heap.push (dH led)).IsList l items:=⟨_,Qf,rfl,nl,rfl⟩;unfold Builtin.«set.__init__» noKeywords Builtin.Frozenset.updateFrom;generalize Vy:pyIter=PI
 wp_walk
 subst Vy;refine wpAny_pyIter_list Qg ?_;refine aa (wpAny_runValue ?_);have S6:l<s.heap.objs.size:=az S4;have Qh:(s.heap.push (dH led)).objs.size=s.heap.objs.size+1:=Heap.size_push ..;have JY:l≠(s.heap.push (dH led)).objs.size:=by rw[Qh];exact aD (Nat.lt_succ_of_lt S6)
 have QT:s.heap.objs.size∉[(s.heap.push (dH led)).objs.size,l]:=by
  rw[Qh];simp only[List.mem_cons,bH,or_false,not_or];exact⟨aD (Nat.lt_succ_self _),bw S6⟩
 have Vz:((s.heap.push (dH led)).push {cls:=.type "list_iterator",data:=.fields #[.ref l,.int 0 0]}).get? s.heap.objs.size=some (dH led):=ag _ hS;have W:=(Walks.list (prog:=prog) (w:=w) (A:=A.in1) hh (s.heap.push (dH led)).objs.size l JY items).toS;refine S1 (Pv:=(·∈items.toList)) W s.heap.objs.size QT (λi=>val.getD i .eU) s.heap (λi v hv=>⟨(hit i v hv).1,(hit i v hv).2.1,(hit i v hv).2.2,Array.mem_toList_iff.mpr (Array.mem_of_getElem? hv)⟩) hb (by omega) (λi s' b o st Z9 e c=>?_) (items.size-0) 0 _ (by omega) (bL _) ⟨⟨_,ay _ rfl,rfl,rfl⟩,Qg.push _⟩ (λb o e _=>ag _ (ag _ e)) ⟨[],DT led Vz,au _,λd=>⟨(λz=>by cases z),λ⟨m,hm,_⟩=>by omega⟩⟩ (λs' hm Xv ⟨ds,hSt,_,BB⟩=>?_)
 ·have LF:b=(s.heap.push (dH led)).objs.size:=by simpa using Z9
  obtain⟨o',e',c',_⟩:=st.1;subst LF;rw[e]at e';cases e';rw[c]at c';exact absurd c' (by decide)
 ·obtain⟨h',g',d',CM,Ov⟩:=s';have eg:g'=s.gens:=hm.gens;have ed:d'=s.drawn:=hm.drawn;have eo:Ov=s.os:=hm.os;subst eg ed eo;show wpAny _ _ _ _ _ _;refine aj ?_;show wpAny _ _ (ret Value.none) _ _ _;refine aj (h h' CM ⟨⟨ds,hSt,λd=>(BB d).trans ⟨λ⟨m,Bg,vA⟩=>?_,λhd=>?_⟩⟩,λb o hb e=>?_⟩)
  ·have:m<val.length:=by rw[<-hn];exact Bg
   rw[<-vA];show val.getD m .eU∈val;rw[ak,ah this];exact List.getElem_mem this
  ·obtain⟨m,vA⟩:=bp hd;refine⟨m,by rw[hn];exact(List.getElem?_eq_some_iff.mp vA).1,?_⟩
   show val.getD m .eU=d;rw[ak,vA];rfl
  ·have VA:b≠s.heap.objs.size:=aD hb;have PY:b≠(s.heap.push (dH led)).objs.size:=by rw[Qh];exact aD (Nat.lt_succ_of_lt hb)
   exact hm.heap b o (by simp only[List.mem_cons,bH,or_false,not_or];exact⟨VA,PY⟩) (ag _ (ag _ e))
end
end ST
namespace ST
open PySem PySem.Spec PyProof.Rows DL SetTable
section
variable {prog:cz}{w:cA}{A:cB}{E:cg}{s:cx}
theorem MH (a:cw) {Q₁:cg}
  (h:Q₁ (.ref s.heap.objs.size) {s with heap:=s.heap.push (dH (!w.params.followText "set-order"))}):
  codeAny (model prog w) A (.call (.builtin "set.__new__") ⟨[.type "set",a],[]⟩) (wants Q₁ E) s:=by
 refine codeAny_of_tree ?_;show wpAny _ A.in1 (checkBuiltinCall "set.__new__" ⟨[.type "set",a],[]⟩>>=λ_=>again (.builtin "set.__new__" ⟨[.type "set",a],[]⟩)) _ _ s
 refine aa (wpAny_of_eq (PySem.F.newCall_set_1 a) (aj ⟨plainId_quiet PySem.F.plain_set_new _,codeAny_builtin PySem.F.entry_set_new ?_⟩));rw[bX PySem.F.plain_set_new _];unfold Builtin.«set.__new__» Builtin.Frozenset.newClass;have JV:=sub_set_self;obtain⟨hp,g,d,tk,os⟩:=s;dsimp only
 wp_walk
 refine wpAny_askSetting (aj ?_);dsimp only;simp only[newObj];refine aa (wpAny_alloc (aj ?_));exact aj h
set_option maxHeartbeats 8000000 in
theorem rq {x:cw}{Mk:Heap->Prop}{Q:cg}
  (S7:∀{Q:PySem.Fin->cx->Prop},(∀h' tk,Mk h'->Q (.done (.ret .none)) {s with heap:=h',toks:=tk})->wpAny (model prog w) A.in1.in1 (Builtin.«set.__init__» ⟨[.ref s.heap.objs.size,x],[]⟩) Q E {s with heap:=s.heap.push (dH (!w.params.followText "set-order"))})
  (h:∀h' tk,Mk h'->Q (.ref s.heap.objs.size) {s with heap:=h',toks:=tk}):
  wpAny (model prog w) A (call (.type "set") [x]) Q E s:=by
 obtain⟨c,tl,aab⟩:=PySem.F.called_set.mro;have NK:=PySem.F.called_set.made;have JV:=PySem.F.called_set.sub;have h1:=PySem.F.called_set.notType;have h2:=PySem.F.called_set.canCreate;have Xw:=PySem.F.typeCall_set_1 x;refine wpAny_call (codeAny_of_tree ?_);show wpAny _ _ (callAny (.type "set") _) _ _ _;refine aj ⟨Code.quiet_builtin _ (by decide +kernel),codeAny_builtin PySem.F.entry_type_call ?_⟩
 rw[Around.under_plain (weight_type_call_type "set" [x] []) rfl]
 repeat (any_goals (first|assumption|wp_step))
 refine codeAny_mono (MH x (E:=E) (Q₁:=λobj s₁=>obj=.ref s.heap.objs.size/\s₁={s with heap:=s.heap.push (dH (!w.params.followText "set-order"))}) ⟨rfl,rfl⟩) λr s₁ hr=>?_
 cases r with
 |error e=>exact hr
 |ok fl=>
  cases fl with
  |ret obj=>
   obtain⟨rfl,rfl⟩:=hr;have hT:Shared.TypeIs {s with heap:=s.heap.push (dH (!w.params.followText "set-order"))} (.ref s.heap.objs.size) "set":=⟨_,ay _ rfl,rfl⟩
   have JQ:=PySem.F.called_set.init.lookup;have hbi:=PySem.F.called_set.init.bind (.ref s.heap.objs.size)
   repeat (any_goals (first|assumption|wp_step))
   refine codeAny_mono (codeAny_call_builtin (R:=wants (λr s₂=>r=.none/\∃h' tk,s₂={s with heap:=h',toks:=tk}/\Mk h') E) PySem.F.called_set.init.plain PySem.F.entry_set_init (check_set_init_1 hT ?_)) λr₂ s₂ VB=>?_
   ·exact S7 λh' tk hm=>⟨rfl,h',tk,rfl,hm⟩
   ·cases r₂ with
    |error e=>exact VB
    |ok fl₂=>
     cases fl₂ with
     |ret r=>
      obtain⟨rfl,h',tk,rfl,hm⟩:=VB
      repeat (any_goals (first|assumption|wp_step))
      exact h _ _ hm
     |_=>exact VB.elim
  |_=>exact hr.elim
theorem ya {l:cD}{items:Array cw}{val:cu}{Q:cg}(hh:A.handled=none) (hu:A.units+40<cLine) (hl:s.heap.IsList l items) (hn:items.size=val.length)
  (hit:∀(i:Nat) (v:cw),items[i]? =some v->(∃xa,v=.ref xa)/\dW (val.getD i .eU)<=4/\KI s.heap v (val.getD i .eU)) (hb:items.size<=18)
  (h:∀h' tk,Made (·∈items.toList) (!w.params.followText "set-order") s val h'->Q (.ref s.heap.objs.size) {s with heap:=h',toks:=tk}):
  wpAny (model prog w) A (call (.type "set") [.ref l]) Q E s:=
 rq (λhQ=>G2 (s:=s) (A:=A.in1.in1) hh (by show A.units+1+1+20<cLine;omega) hl hn hit hb hQ) h
end
end ST
namespace ST
open PySem PySem.Spec PyProof.Rows DL SetTable
theorem iM:Slot "set_iterator" "__next__" "set_iterator.__next__":=
 .of (owner:="set_iterator") (n:="__next__") (by rw[typeLookup_type,builtinLookup_eq_fast];kernel_rfl) (by decide +kernel) (by decide +kernel) (by decide +kernel)
  (by first|exact .inl (by decide +kernel)|exact .inr (by decide +kernel)) (by rw[isSubtype_type];kernel_rfl)
theorem rA:entryFor table "set_iterator.__next__"=some Builtin.«set_iterator.__next__»:=entryFor_of_tree (by kernel_rfl)
theorem sR (a:cw):argsOk "set_iterator.__next__" ⟨[a],[]⟩:=by
 unfold argsOk;kernel_rfl
theorem Fg {α:Type}(next:Nat->Nat):∀(fuel k:Nat) (left:List α) (out:Array α),left.length<=fuel->(pickOrder.go next fuel k left out).toList.Perm (out.toList++left)
 |0,k,left,out,h=>by
  have:left=[]:=List.length_eq_zero_iff.mp (by omega)
  subst this;unfold pickOrder.go;rw[bB]
 |fuel+1,k,left,out,h=>by
  unfold pickOrder.go;by_cases hl:left=[]
  ·subst hl;simp
  ·have Mv:0<left.length:=List.length_pos_iff.mpr hl;have fM:next k%left.length<left.length:=Nat.mod_lt _ Mv;rw[ah fM];dsimp only;refine(Fg next fuel (k+1) _ _ (by rw[List.length_eraseIdx];split<;>omega)).trans ?_
   rw[Array.toList_push,List.append_assoc];refine List.Perm.append_left _ ?_;exact(LW.rU left _ fM)
theorem yT {α:Type}(next:Nat->Nat) (xs:Array α):(pickOrder next xs).toList.Perm xs.toList:=by
 have:=Fg next xs.size 0 xs.toList #[] (by simp)
 show(pickOrder.go next xs.size 0 xs.toList #[]).toList.Perm xs.toList
 simpa using this
noncomputable abbrev wM (first:Int) (i:Nat) (S:cD) (n ep:Nat):Obj:={cls:=.type "set_iterator",data:=.fields #[rawInt first,rawInt i,.ref S,rawInt n,rawInt ep]}
noncomputable def fY (w:cA) (a:cD) (ep:Nat) (es:Array (Int×cw)):Array (Int×cw):=if w.params.followText "set-order" then pickOrder (w.params.setOrder a ep) es else es
noncomputable def DW (t:cC):Nat->Nat
 |0=>0
 |i+1=>t.place.getD i 0+1
noncomputable def lC (w:cA) (t:cC) (i:Nat):Nat:=if w.params.followText "set-order" then 0 else DW t i
theorem DX {t:cC}(hr:fC t.place.toList) (i:Nat) (hi:i<=t.place.size):below t.place (DW t i)=i:=by
 obtain⟨h1,h2,h3⟩:=oB t.place (DW t i) hr;cases i with
 |zero=>
  show below t.place 0=0;by_cases hz:below t.place 0=0
  ·exact hz
  ·have Mv:0<below t.place 0:=by omega
   have fM:0<t.place.size:=by have yI:below t.place 0<=t.place.size:=h1;omega
   have:=h2 0 fM Mv;have Xx:t.place[0]<0:=this;omega
 |succ i=>
  have fM:i<t.place.size:=by omega
  have hg:t.place.getD i 0=t.place[i]:=by simp[fM]
  have VC:DW t (i+1)=t.place[i]+1:=by show t.place.getD i 0+1=_;rw[hg]
  rw[VC]at h1 h2 h3 ⊢;have lo:i<below t.place (t.place[i]+1):=by
   by_cases hc:below t.place (t.place[i]+1)<=i
   ·have:=h3 i fM hc;omega
   ·omega
  by_cases hc:below t.place (t.place[i]+1)=i+1
  ·exact hc
  ·have MD:i+1<t.place.size:=by omega
   have a1:=h2 (i+1) MD (by omega)
   have a2:=vH hr (i:=i) (k:=i+1) (by omega) (by simpa using MD)
   simp only[Array.getElem_toList]at a2;omega
section
variable {prog:cz}{w:cA}{A:cB}{E:cg}{s:cx}
theorem DY {a:cD}{o:Obj}{es:Array (Int×cw)}{ep:Nat}{t:cC}(ho:s.heap.get? a=some o) (hd:o.data=.set es ep t) (hf:t.fits es.size=true) (hr:fC t.place.toList) (kO:t.plain=true) (SS:t.led= !w.params.followText "set-order")
  (i:Nat) (hi:i<=es.size) {Q:Option (cw×Nat)->cx->Prop}(h:Q ((fY w a ep es)[i]?.map λe=>(e.2,lC w t (i+1))) s):wpAny (model prog w) A (setNext a (lC w t i) i ep) Q E s:=by
 have hsz:t.place.size=es.size:=by
  simp only[SetTable.fits,Bool.and_eq_true,beq_iff_eq,decide_eq_true_eq]at hf;exact hf.1
 unfold setNext;refine aa (wpAny_setState_of ho hd hf ?_);dsimp only;unfold setsByText;refine aa (aa (wpAny_askSetting (aj ?_)));show wpAny _ _ (if w.params.followText "set-order"=true then _ else _) _ _ _
 cases hb:w.params.followText "set-order" with
 |true=>
  rw[if_pos rfl,if_neg (by simp)]
  unfold setWalk;refine aa (aa (wpAny_setState_of ho hd hf ?_));dsimp only;unfold setsByText;refine aa (aa (wpAny_askSetting (aj ?_)));show wpAny _ _ (if w.params.followText "set-order"=true then _ else _) _ _ _
  rw[hb,if_pos rfl];refine aa (wpAny_askSetting (aj ?_));refine aj ?_;have e1:lC w t i=lC w t (i+1):=by unfold lC;rw[hb];rfl
  unfold fY at h;rw[hb,if_pos rfl]at h;rw[e1];exact h
 |false=>
  rw[if_neg aZ,if_neg (λhc=>by
   have h2:(!t.plain&&decide (es.size>1))=true:=hc;rw[kO]at h2;cases h2)]
  refine aa ?_;show wpAny _ _ (if(!t.led&& !es.isEmpty)=true then unsupported "set:maker-not-led" else pure ()) _ _ _
  rw[if_neg (by rw[SS,hb];simp)]
  refine aj ?_;refine aj ?_;have e1:lC w t i=DW t i:=by unfold lC;rw[hb];rfl
  rw[e1,DX hr i (by omega)]
  unfold fY at h;rw[hb,if_neg aZ]at h;by_cases fM:i<es.size
  ·have g1:es[i]? =some es[i]:=by simp[fM]
   have g2:t.place[i]? =some t.place[i]:=by simp[hsz,fM]
   rw[g1]at h ⊢;rw[g2];have e2:lC w t (i+1)=t.place[i]+1:=by unfold lC DW;rw[hb];simp[hsz,fM]
   rw[e2]at h;exact h
  ·have g1:es[i]? =none:=by simp;omega
   rw[g1]at h ⊢;exact h
end
end ST
namespace ST
open PySem PySem.Spec PyProof.Rows DL SetTable
theorem sS:Slot "set_iterator" "__iter__" "set_iterator.__iter__":=
 .of (owner:="set_iterator") (n:="__iter__") (by rw[typeLookup_type,builtinLookup_eq_fast];kernel_rfl) (by decide +kernel) (by decide +kernel) (by decide +kernel)
  (by first|exact .inl (by decide +kernel)|exact .inr (by decide +kernel)) (by rw[isSubtype_type];kernel_rfl)
theorem Ag (a:cw):argsOk "set_iterator.__iter__" ⟨[a],[]⟩:=by unfold argsOk;kernel_rfl
theorem yb:entryFor table "set_iterator.__iter__"=some Builtin.«dict_keyiterator.__iter__»:=
 entryFor_alias (id':="dict_keyiterator.__iter__") (by kernel_rfl) (by first|rfl|decide +kernel) (by decide +kernel) (by kernel_rfl)
theorem wO:entryFor table "set.__iter__"=some Builtin.«frozenset.__iter__»:=
 entryFor_alias (id':="frozenset.__iter__") (by kernel_rfl) rfl (by decide +kernel) (by kernel_rfl)
structure nI (w:cA) (h:Heap) (S:cD) (es:Array (Int×cw)) (ep:Nat) (t:cC):Prop where
 at_:∃o,h.get? S=some o/\o.ExactSet/\o.data=.set es ep t
 fits:t.fits es.size=true
 rise:fC t.place.toList
 plain:t.plain=true
 led:t.led= !w.params.followText "set-order"
section
variable {prog:cz}{w:cA}{A:cB}{E:cg}{s:cx}
theorem Fh {I S:cD}{es:Array (Int×cw)}{ep:Nat}{t:cC}{i:Nat}(hI:s.heap.get? I=some (wM (lC w t i:Nat) i S es.size ep)) (hS:nI w s.heap S es ep t) (hi:i<=es.size)
  {Q:PySem.Fin->cx->Prop}(h1:∀e h',(fY w S ep es)[i]? =some e->h'.get? I=some (wM (lC w t (i+1):Nat) (i+1) S es.size ep)->Heap.SameBut I s.heap h'->Q (.done (.ret e.2)) {s with heap:=h'})
  (h2:(fY w S ep es)[i]? =none->wpAny (model prog w) A (setField (.ref I) 2 .none>>=λ_=>newExc (.type "StopIteration") []>>=λe=>raiseNew e) Q E s):
  wpAny (model prog w) A (Builtin.«set_iterator.__next__» ⟨[.ref I],[]⟩) Q E s:=by
 obtain⟨o,ho,hex,hd⟩:=hS.at_;unfold Builtin.«set_iterator.__next__» slotArgs;simp only[List.isEmpty_nil,bT,aH,↓reduceIte,bind_assoc,List.length_nil,bne_self_eq_false];refine aa (aj ?_);refine aa (wpAny_fieldsOf hI rfl ?_);show wpAny (model prog w) A (setEntries S>>=_) Q E s;refine aa (wpAny_setEntries_of ho hd hS.fits ?_);have hsz:(((es.size:Nat):Int)!=((es.size:Nat):Int))=false:=by simp
 show wpAny _ _ (if(((es.size:Nat):Int)!=((es.size:Nat):Int))=true then _ else _) _ _ _
 rw[if_neg (by rw[hsz];exact aZ)]
 show wpAny _ _ (setNext S (((lC w t i:Nat):Int).toNat) (((i:Nat):Int).toNat) (((ep:Nat):Int).toNat)>>=_) _ _ _;rw[Int.toNat_natCast,Int.toNat_natCast,Int.toNat_natCast];refine aa (DY ho hd hS.fits hS.rise hS.plain hS.led i hi ?_);cases hx:(fY w S ep es)[i]? with
 |none=>exact h2 hx
 |some e=>
  dsimp only[bA];refine aa (wpAny_setField_rec hI (by simp) λha Xy VD=>?_)
  refine aa (wpAny_setField_rec Xy (by simp) λhb hbI Lf=>?_)
  exact aj (h1 e hb hx hbI (VD.trans Lf))
theorem nJ (w:cA) (S:cD) (ep:Nat) (es:Array (Int×cw)):(fY w S ep es).size=es.size:=by
 unfold fY;split
 ·have:=(yT (w.params.setOrder S ep) es).length_eq
  simpa using this
 ·rfl
theorem nI.mono {h h':Heap}{S:cD}{es:Array (Int×cw)}{ep:Nat}{t:cC}(a:nI w h S es ep t) (k:∀o,h.get? S=some o->h'.get? S=some o):nI w h' S es ep t:=
 ⟨let ⟨o,h1,h2⟩:=a.at_;⟨o,k o h1,h2⟩,a.fits,a.rise,a.plain,a.led⟩
theorem G3 (hh:A.handled=none) (I S:cD) (ja:S≠I) (es:Array (Int×cw)) (ep:Nat) (t:cC):
  Walks prog w A I [I,S] [I] es.size (λi v=>∃e,(fY w S ep es)[i]? =some e/\v=e.2) (λi h=>h.get? I=some (wM (lC w t i:Nat) i S es.size ep)/\nI w h S es ep t)where
 sub:=λb hb=>by simp at hb;simp[hb]
 frame:=λi h h' st hk=>⟨hk I (by simp) _ st.1,st.2.mono λo e=>hk S (by simp) o e⟩
 item:=λi s Q E hi st hQ=>by
  have hT:s.TypeIs (.ref I) "set_iterator":=⟨_,st.1,rfl⟩;unfold pyNext;refine aa (wpAny_attempt (wpAny_callSpecial?_slot (name:=Str.ofString "__next__") hT iM (bM iM hT rA ?_ (sR _))));refine Fh st.1 st.2 (bg hi) (λe h' hx Xz hs=>?_) λhn=>?_
  ·exact⟨_,rfl,aj (hQ e.2 h' s.toks ⟨e,hx,rfl⟩ ⟨Xz,st.2.mono λo e=>(hs.2 S ja).trans e⟩ λb o hb e=>(hs.2 b (by simpa using hb)).trans e)⟩
  ·have:i<(fY w S ep es).size:=by rw[nJ];exact hi
   rw[aU this]at hn;cases hn
 done:=λs Q E st hQ=>by
  have hT:s.TypeIs (.ref I) "set_iterator":=⟨_,st.1,rfl⟩;unfold pyNext;refine aa (wpAny_attempt (wpAny_callSpecial?_slot (name:=Str.ofString "__next__") hT iM (bM iM hT rA ?_ (sR _))));refine Fh st.1 st.2 (au _) (λe h' hx Xz hs=>?_) λhn=>?_
  ·have:¬ es.size<(fY w S ep es).size:=by rw[nJ];omega
   rw[Array.getElem?_eq_none (by omega)]at hx;cases hx
  ·refine aa (wpAny_setField_rec st.1 (by simp) λha Xy VD=>?_)
   refine aa ?_;simp only[newExc,newTuple];refine aa (bR ?_ (by size_fits))
   refine aa (m:=firstArgMember _ _) (wpAny_of_eq (a:=Value.none) (by first|rfl|(simp only[firstArgMember];rfl)) ?_)
   refine bR ?_ (by size_fits)
   simp only[raiseNew];refine aa (wpAny_handled ?_)
   first|rw[show A.in1.handled=none from hh]|rw[hh]
   refine aa (aj (wpAny_throw ?_));refine aa (wpAny_isInstance (T:="StopIteration") (b:=true) ⟨_,ay _ rfl,rfl⟩ isSubtype_stop ?_);exact aj (hQ _ s.toks λb o hb e=>ag _ (ag _ ((VD.2 b (by simpa using hb)).trans e)))
 self:=λi s Q E st hQ=>by
  have hT:s.TypeIs (.ref I) "set_iterator":=⟨_,st.1,rfl⟩;refine wpAny_pyIter_slot hT sS (bM sS hT yb ?_ (Ag _));show wpAny _ _ (ret (.ref I)) _ _ s;exact aj ⟨_,rfl,"set_iterator",_,hT,iM.lookup,hQ⟩
theorem JZ {S:cD}{es:Array (Int×cw)}{ep:Nat}{t:cC}(hS:nI w s.heap S es ep t) {Q:cg}
  (h:Q (.ref s.heap.objs.size) {s with heap:=s.heap.push (wM 0 0 S es.size ep)}):wpAny (model prog w) A (pyIter (.ref S)) Q E s:=by
 obtain⟨o,ho,hex,hd⟩:=hS.at_;have hT:s.TypeIs (.ref S) "set":=⟨o,ho,hex.1⟩;refine wpAny_pyIter_slot hT PySem.F.slot_set_iter (bM PySem.F.slot_set_iter hT wO ?_ (PySem.F.args_set_iter_1 _));unfold Builtin.«frozenset.__iter__» Builtin.Frozenset.slot0 slotArgs;simp only[List.isEmpty_nil,bT,aH,↓reduceIte,bind_assoc,List.length_nil,bne_self_eq_false];unfold Builtin.Frozenset.addrOf Builtin.Frozenset.sizeOf;refine aa (aj ?_);try dsimp only
 refine aa (aj ?_);refine aa (aa (wpAny_setEntries_of ho hd hS.fits (aj ?_)));unfold setDrawn;refine aa (aa (wpAny_setState_of ho hd hS.fits ?_));dsimp only;unfold setsByText;refine aa (aa (wpAny_askSetting (aj ?_)));refine aj ?_;rw[if_neg (λhc=>by
  have h2:(!w.params.followText "set-order"&&(!t.plain&&decide (es.size>1)))=true:=hc;rw[hS.plain,bT,Bool.false_and,Bool.and_false]at h2;cases h2)]
 refine aa (aj ?_);refine aa (wpAny_setEpoch_of ho hd hS.fits ?_);exact aa (bR (aj ⟨_,rfl,"set_iterator",_,⟨_,ay _ rfl,rfl⟩,iM.lookup,h⟩))
end
end ST
namespace ST
open PySem PySem.Spec PyProof.Rows DL SetTable
section
variable {prog:cz}{w:cA}{A:cB}{E:cg}{s:cx}
theorem Qi {α:Type}{M:Model}{c:Prop} [Decidable c] {x y:Sem α}{Q:α->cx->Prop}(hc:c) (h:wpAny M A x Q E s):wpAny M A (if c then x else y) Q E s:=by rw[if_pos hc];exact h
theorem J0 {S:cD}{es:Array (Int×cw)}{ep:Nat}{t:cC}(hS:nI w s.heap S es ep t) {Q:Bool->cx->Prop}(h:Q false s):wpAny (model prog w) A (Builtin.List.listLengthHint (.ref S)) Q E s:=by
 obtain⟨o,ho,hex,hd⟩:=hS.at_;have hT:s.TypeIs (.ref S) "set":=⟨o,ho,hex.1⟩;unfold Builtin.List.listLengthHint;refine aa (wpAny_specialOf hT PySem.F.slot_set_len.lookup ?_);dsimp only;have Lc:splitId "set.__len__"=some ("set","__len__"):=by decide +kernel
 rw[Lc];dsimp only;refine aa (wpAny_isInstance hT sub_set_self ?_);simp only[bT,aH,bD];refine Qi (by decide +kernel) ?_
 refine aa (wpAny_typeOf hT ?_);exact aj h
theorem uV {S:cD}{es:Array (Int×cw)}{ep:Nat}{t:cC}{Q:cv->cx->Prop}(hh:A.handled=none) (hS:nI w s.heap S es ep t) (hn:es.size<=1000)
  (hQ:∀h' tk acc,(∀b o,s.heap.get? b=some o->h'.get? b=some o)->acc=(fY w S ep es).toList.map (·.2)->s.heap.objs.size<h'.objs.size->Q acc {s with heap:=h',toks:=tk}):wpAny (model prog w) A (collect (.ref S)) Q E s:=by
 obtain⟨o,ho,hex,hd⟩:=hS.at_;have MI:S<s.heap.objs.size:=az ho;unfold collect;refine aa (wpAny_runValue (codeAny_builtin PySem.F.entry_proto_collect ?_));rw[bX PySem.F.plain_proto_collect _];show wpAny _ A.in1 (newList []>>=λl=>again (.builtin "list.__iadd__" ⟨[l,.ref S],[]⟩)) _ _ s
 refine aa (bR ?_);refine aj ⟨plainId_quiet PySem.F.plain_list_iadd _,codeAny_builtin PySem.F.entry_list_iadd ?_⟩;rw[bX PySem.F.plain_list_iadd _];generalize VE:s.heap.push {cls:=.type "list",data:=.seq ([]:cv).toArray}=g1;have T6:g1.objs.size=s.heap.objs.size+1:=by rw[<-VE];exact Heap.size_push ..
 have k1:∀b o,s.heap.get? b=some o->g1.get? b=some o:=λb o e=>by rw[<-VE];exact ag _ e
 have hL1:g1.get? s.heap.objs.size=some {cls:=.type "list",data:=.seq ([]:cv).toArray}:=by rw[<-VE];exact ay _ rfl
 have XA:nI w g1 S es ep t:=hS.mono λo e=>k1 _ _ e
 have hT1:Shared.TypeIs {s with heap:=g1} (.ref S) "set":=⟨o,k1 _ _ ho,hex.1⟩
 show wpAny _ A.in1 (Builtin.List.listExtendWith (.ref s.heap.objs.size) (.ref S) (.ref s.heap.objs.size)) _ _ {s with heap:=g1}
 unfold Builtin.List.listExtendWith;refine aa (wpAny_typeOf hT1 ?_);have h1:Builtin.List.listSameRef (.ref s.heap.objs.size) (.ref S)=false:=by simp[Builtin.List.listSameRef];exact bw MI
 have h2:(Value.type "set"==Value.type "list")=false:=by decide
 have h3:(Value.type "set"==Value.type "tuple")=false:=by decide
 simp only[h1,h2,h3,Bool.or_false,aH,bD];refine aa (JZ (s:={s with heap:=g1}) XA ?_)
 generalize XB:g1.push (wM 0 0 S es.size ep)=g2;have k2:∀b o,g1.get? b=some o->g2.get? b=some o:=λb o e=>by rw[<-XB];exact ag _ e
 have hI2:g2.get? g1.objs.size=some (wM 0 0 S es.size ep):=by rw[<-XB];exact ay _ rfl
 have T5:nI w g2 S es ep t:=XA.mono λo e=>k2 _ _ e
 refine aa (bo (J0 (s:={s with heap:=g2}) T5 ?_))
 show wpAny _ A.in1 (rule "list.extend.makes-room">>=λ_=>Builtin.List.listTouch (.ref s.heap.objs.size)>>=λ_=>
  again (.builtin "list.extend.loop" ⟨[.ref s.heap.objs.size,.ref g1.objs.size,.ref s.heap.objs.size],[]⟩)) _ _ {s with heap:=g2}
 refine aa (wpAny_rule ?_);refine aa ?_;show wpAny _ A.in1 (updateSeq s.heap.objs.size (·.push .none)>>=λ_=>updateSeq s.heap.objs.size (·.pop)) _ _ {s with heap:=g2}
 have XC:=k2 _ _ hL1;refine aa (wpAny_updateSeq XC rfl ?_);have XD:=Heap.get?_update_self (Obj.mapSeq (·.push Value.none)) XC rfl
 refine wpAny_updateSeq XD rfl ?_;have XE:=Heap.get?_update_self (Obj.mapSeq (·.pop)) XD rfl
 generalize hh3:(g2.update s.heap.objs.size (Obj.mapSeq (·.push Value.none))).update s.heap.objs.size (Obj.mapSeq (·.pop))=g3 at XE
 have VF:∀b o,b≠s.heap.objs.size->g2.get? b=some o->g3.get? b=some o:=λb o hb e=>by
  rw[<-hh3];exact(bx _ _ (Ne.symm hb)).trans ((bx _ _ (Ne.symm hb)).trans e)
 have JY:S≠g1.objs.size:=by rw[T6];exact aD (Nat.lt_succ_of_lt MI)
 have W:=(G3 (prog:=prog) (w:=w) (A:=A.in1) hh g1.objs.size S JY es ep t).toS;have hLf:s.heap.objs.size∉[g1.objs.size,S]:=by
  rw[T6];simp only[List.mem_cons,bH,or_false,not_or];exact⟨aD (Nat.lt_succ_self _),bw MI⟩
 have VC:((lC w t 0:Nat):Int)=0:=by unfold lC DW;split<;>rfl
 refine aj ⟨plainId_quiet PySem.F.plain_extend_loop _,codeAny_extend_loopS W (aB hn (by decide)) _ hLf _ es.size 0 _ _ _ rfl (bL _) ⟨?_,?_⟩ XE (ItemsOf.nil _) λs' lE c' hm T7 qO=>?_⟩
 ·show g3.get? g1.objs.size=some (wM (lC w t 0:Nat) 0 S es.size ep);rw[VC];exact VF _ _ (by rw[T6];exact bw (Nat.lt_succ_self _)) hI2
 ·exact T5.mono λo e=>VF _ _ (aD MI) e
 ·obtain⟨h',g',d',CM,Ov⟩:=s';have eg:g'=s.gens:=hm.gens;have ed:d'=s.drawn:=hm.drawn;have eo:Ov=s.os:=hm.os;subst eg ed eo;show wpAny _ A (load s.heap.objs.size>>=_) _ _ _;refine aa (wpAny_load T7 ?_);refine aj (hQ h' CM lE.toList (λb o e=>?_) ?_ (az T7))
  ·have hb:b<s.heap.objs.size:=az e;refine hm.heap b o ?_ (VF b o (aD hb) (k2 b o (k1 b o e)));simp only[List.mem_cons,bH,or_false,not_or];exact⟨aD hb,by rw[T6];exact aD (Nat.lt_succ_of_lt hb)⟩
  ·refine List.ext_getElem? λj=>?_
   rw[av];have hsz:=qO.1;have hwz:=nJ w S ep es;by_cases hj:j<es.size
   ·have XF:j<lE.size:=by omega
    have UZ:j<(fY w S ep es).size:=by omega
    obtain⟨e,he,hv⟩:=qO.2 j lE[j] (aU XF);have T1:(fY w S ep es).toList[j]? =some e:=by simpa using he
    rw[T1];show lE.toList[j]? =some e.2;rw[<-hv];simp[XF]
   ·have e1:lE.toList[j]? =none:=List.getElem?_eq_none (by rw[aN];omega)
    have e2:(fY w S ep es).toList[j]? =none:=List.getElem?_eq_none (by rw[aN];omega)
    rw[e1,e2];rfl
end
end ST
namespace ST
open PySem PySem.Spec PySem.W PyProof.Rows DL SetTable
section
variable {prog:cz}{w:cA}{A:cB}{E:cg}{s:cx}{h₀:Heap}{L:cD}{m:cj}{news:ck}{vs:cv}
theorem sortedS {S:cD}{es:Array (Int×cw)}{ep:Nat}{t:cC}{Q:cg}(F:Fr h₀ L s.heap m) (N:News h₀ L s.heap news) (hh:A.handled=none) (hS:nI w s.heap S es ep t) (S8:vs=(fY w S ep es).toList.map (·.2)) (h2:2<=vs.length) (DD:vs.length<64)
  (h:∀D e1 h' tk,Fr h₀ L h' m->News h₀ L h' ((D,seqObj "list" #[] e1)::news)->(∀q∈news,q.1<D)->s.heap.objs.size<=D->
   wpAny (model prog w) A.in1.in1 (keyKind' vs.toArray) (λκ s'=>(kas_sort vs.length).kasWp (kas_ask prog w A.in1.in1 κ vs) (λp HH=>KasFin h₀ L m D e1 (p.toList.map λi=>vs.getD i Value.none) (λs3=>Q (.ref D) s3) HH) s') (λ_ _=>False) {s with heap:=h',toks:=tk}):
  wpAny (model prog w) A (call (.builtin "sorted") [.ref S]) Q E s:=by
 have hlen:es.size=vs.length:=by rw[S8,ae,aN,nJ]
 refine Calls.call_function_entry kind_sorted plain_sorted entry_sorted (args_sorted1 _) ?_;unfold Builtin.«sorted»;refine aa (m:=checkCount "sorted" 1 1 _) (aj ?_);refine aa (uV hh hS (by omega) λg tk acc keep qO hg=>?_)
 rw[<-S8]at qO;subst qO;refine aa (wpAny_newList ?_ (by rw[bu];omega))
 have ED:(g.push (seqObj "list" acc.toArray 0)).get? g.objs.size=some (seqObj "list" acc.toArray 0):=ay _ rfl;have jv:∀b o,s.heap.get? b=some o->(g.push (seqObj "list" acc.toArray 0)).get? b=some o:=λb o q=>ag _ (keep b o q)
 have hL:L<s.heap.objs.size:=F.ns.lt;refine aa (bo (bM slot_list_sort ⟨_,ED,rfl⟩ entry_list_sort ?body (args_list_sort _)))
 case body=>
  refine kat_list_sort (s:={s with heap:=g.push (seqObj "list" acc.toArray 0),toks:=tk}) (F.kept jv) (N.grown jv) ED (bw (bG hL hg)) (Heap.get?_none_of_le (aB F.above (bg (bG hL hg))))
   (λp hp=>aD (bG (az (N p hp).1) hg)) h2 DD λe1 h' F' N'=>?_
  refine bP (h _ e1 h' tk F' N' (λq hq=>bG (az (N q hq).1) hg) (bg hg)) (λκ s' hk=>?_) λ_ _ x=>x
  rw[kat_ask_eq rfl]at hk ⊢;exact kas_wp_mono hk λp HH DI=>DI.mono λs3 hq=>⟨_,rfl,aj ⟨_,rfl,hq⟩⟩
end
end ST
namespace ST
open PySem PySem.Spec PySem.W PyProof.Rows DL SetTable
def TI (h:Heap) (v:cw) (ns:cn):Prop:=∃(a:cD) (o:Obj) (ts:cv) (n:Nat),v=.ref a/\h.get? a=some o/\o.cls=.type "tuple"/\o.data=.seq ts.toArray n/\IntsAre ts ns
section
variable {prog:cz}{w:cA}{A:cB}{E:cg}{s:cx}
theorem Fj:∀(vs:cv) {Q:List (Option cw)->cx->Prop},(∀v∈vs,∃ns,TI s.heap v ns)->(∀fs:List (Option cw),fs.length=vs.length->(∀f∈fs,∀v,f=some v->∃i t,v=Value.int i t)->Q fs s)->wpAny (model prog w) A (vs.mapM firstOfTuple') Q E s
 |[],_,_,h=>by rw[List.mapM_nil];exact aj (h [] rfl λf hf=>by cases hf)
 |v::vs,Q,t,h=>by
  obtain⟨ns,a,o,ts,n,rfl,ho,hc,hd,hi⟩:=t v af;rw[List.mapM_cons];refine aa ?_;rw[kas_first_eq];refine aa (Looks.here (show Looks (model prog w) s.heap (typeOf (.ref a)) o.cls from(Looks.ld ho).andThen .now) ?_)
  rw[hc,if_neg (by first|decide|simp)]
  refine aa (listItems_at ho hd (aj ?_));refine aa (Fj vs (Q:=λbs s'=>wpAny (model prog w) A (pure (ts.toArray[0]? ::bs)) Q E s') (λv hv=>t v (ai _ hv)) λfs hl hf=>aj (h _ (by simp[hl]) λf hm v hv=>?_))
  rcases List.mem_cons.mp hm with rfl|hm
  ·cases hi with
   |nil=>simp at hv
   |cons i t r=>
    simp at hv;exact⟨i,t,hv.symm⟩
  ·exact hf f hm v hv
theorem NL {vs:cv}{Q:SortKind->cx->Prop}(t:∀v∈vs,∃ns,TI s.heap v ns) (h:∀κ,(κ=tuples' true\/κ=tuples' false)\/κ=general'\/κ=oneType'->Q κ s):wpAny (model prog w) A (keyKind' vs.toArray) Q E s:=by
 rw[kat_kind_eq,List.mapM_toArray,map_eq_pure_bind];refine aa (aa (Fj vs t λfs hl hf=>aj ?_))
 split
 ·refine aa (wpAny_rule ?_);have hfm:∃l:cv,(fs.toArray.filterMap id)=l.toArray/\∀v∈l,∃i t,v=Value.int i t:=by
   refine⟨fs.filterMap id,by simp,λv hv=>?_⟩
   obtain⟨f,hm,he⟩:=List.mem_filterMap.mp hv;exact hf f hm v he
  obtain⟨l,e1,e2⟩:=hfm;rw[e1,oneTypeOnly'_eq,List.mapM_toArray,map_eq_pure_bind];refine aa (aa (aa (kas_mapM (r:=Value.type "int") _ (λv hv Q' hq=>?_) (aj ?_))))
  ·obtain⟨i,t',rfl⟩:=e2 v hv;exact aj hq
  ·have fin:∀b,Q (tuples' b) s:=λb=>by cases b<;>exact h _ (.inl (by first|exact .inl rfl|exact .inr rfl))
   split
   ·exact aj (aj (fin _))
   ·exact aj (aj (fin _))
 ·split
  ·exact aj (h _ (.inr (.inl rfl)))
  ·rw[oneTypeOnly'_eq,List.mapM_toArray,map_eq_pure_bind];refine aa (aa (aa (kas_mapM (r:=Value.type "tuple") _ (λv hv Q' hq=>?_) (aj ?_))))
   ·obtain⟨ns,a,o,ts,n,rfl,ho,hc,hd,hi⟩:=t v hv;have:=Looks.here (M:=model prog w) (A:=A) (E:=E) (show Looks (model prog w) s.heap (typeOf (.ref a)) o.cls from(Looks.ld ho).andThen .now) (Q:=Q')
    rw[hc]at this;exact this hq
   ·split
    ·refine aj (aj ?_);split
     ·exact h _ (.inr (.inr rfl))
     ·exact h _ (.inr (.inl rfl))
    ·exact aj (aj (h _ (.inr (.inl rfl))))
theorem S9 {x y:cw}{ns ms:cn}{κ:SortKind}{Q:Bool->cx->Prop}(hx:TI s.heap x ns) (hy:TI s.heap y ms) (hu:A.units+8<cLine) (hκ:(κ=tuples' true\/κ=tuples' false)\/κ=general'\/κ=oneType') (h:Q (HT.lexLt ns ms) s):
  wpAny (model prog w) A (keyLt' κ x y) Q E s:=by
 obtain⟨a,o,ts,n,rfl,ho,hc,hd,hi⟩:=hx;obtain⟨a',o',Sf,n',rfl,rM,se,Nb,xV⟩:=hy;have t1:IsTup s.heap a ts.toArray:=⟨o,ho,hc,n,hd⟩;have t2:IsTup s.heap a' Sf.toArray:=⟨o',rM,se,n',Nb⟩;rcases hκ with hκ|rfl|rfl
 ·have key:∀b,wpAny (model prog w) A (keyLt' (tuples' b) (.ref a) (.ref a')) Q (λ_ _=>False) s:=λb=>by
   refine W.kat_lt ho hd rM Nb ?_;have s1:ts.toArray.size=ns.length:=by rw[aq,hi.length]
   have s2:Sf.toArray.size=ms.length:=by rw[aq,xV.length]
   refine L2.pI _ _ ns ms 0 _ (by simpa using hi) (by simpa using xV) (.inr trivial) ?_ h
   rw[s1,s2];by_cases h:ns.length<ms.length
   ·rw[if_pos h];exact aR h
   ·rw[if_neg h];exact aG h
  rcases hκ with rfl|rfl
  ·exact bP (key true) (λ_ _ x=>x) λ_ _ x=>x.elim
  ·exact bP (key false) (λ_ _ x=>x) λ_ _ x=>x.elim
 ·show wpAny (model prog w) A (oneLt' false (.ref a) (.ref a')) Q E s;refine kat_one _ _ (HT.vX t1 t2 (by simpa using hi) (by simpa using xV) (by omega) ?_)
  exact h
 ·rw[keyLt'_oneType,oneLt'_eq];simp only[if_true];refine aa (wpAny_cRoomFor (by omega) ?_)
  obtain⟨⟨cls,dd,data,sl⟩,uR,QU,n1,XG⟩:=t1;obtain⟨⟨Oz,Ld,data2,Io⟩,vf,so,n2,hd2⟩:=t2;simp only at QU XG so hd2;subst QU XG so hd2;refine aa (wpAny_callSpecialIfBound?_slot ⟨_,uR,rfl⟩ PySem.F.slot_tuple_lt ?_);refine call_meets PySem.F.slot_tuple_lt ⟨_,uR,rfl⟩ PySem.F.entry_tuple_lt (PySem.F.args_tuple_lt_2 _ _) (HT.qW a a' ts.toArray Sf.toArray n1 n2 dd Ld sl Io ns ms (by simpa using hi) (by simpa using xV)) ⟨uR,vf,?_⟩
  exact bQ h
end
end ST
namespace ST
open PySem PySem.Spec PySem.W PyProof.Rows DL SetTable L2
section
variable {prog:cz}{w:cA}{A:cB}{E:cg}{s:cx}
theorem DZ {T:Heap}{a:cD}{vs:cv}{tk:Nat}{Q:cg}(o1:T.get? a=some (seqObj "list" vs.toArray 0)) (h2:vs.length<2)
  (h:∀h' c,h'.get? a=some (seqObj "list" vs.toArray c)->(∀b o,b≠a->T.get? b=some o->h'.get? b=some o)->Q .none {s with heap:=h',toks:=tk}):
  wpAny (model prog w) A (call (.builtin "list.sort") [.ref a]) Q E {s with heap:=T,toks:=tk}:=by
 have ha:a<T.objs.size:=az o1;refine bM slot_list_sort ⟨_,o1,rfl⟩ entry_list_sort ?_ (args_list_sort _);rw[list_sort_plain];refine aa (listItems_at o1 rfl (aa (listUpdate_at o1 rfl ?_ (hsz:=by rw[aq,bu];omega))))
 obtain⟨e1,uR⟩:∃e1,(T.update a (Obj.mapSeq λ_=>#[])).get? a=some (seqObj "list" #[] e1):=⟨_,get?_update_seq o1 (λ_=>#[])⟩
 refine aa (seqEpoch_at uR rfl (aa (wpAny_newTuple (aa (wpAny_newList (bo ?_))) (by show vs.length<=_;rw[bu];omega))))
 have Pw:(((T.update a (Obj.mapSeq λ_=>#[])).push (seqObj "tuple" vs.toArray 0)).push (seqObj "list" #[] 0)).get? a=some (seqObj "list" #[] e1):=ag _ (ag _ uR)
 have XH:∀b o,b≠a->T.get? b=some o->(((T.update a (Obj.mapSeq λ_=>#[])).push (seqObj "tuple" vs.toArray 0)).push (seqObj "list" #[] 0)).get? b=some o:=λb o hb e=>ag _ (ag _ ((bx _ _ (Ne.symm hb)).trans e))
 show wpAny (model prog w) _ _ _ _ {s with heap:=((T.update a (Obj.mapSeq λ_=>#[])).push (seqObj "tuple" vs.toArray 0)).push (seqObj "list" #[] 0),toks:=tk}
 generalize ((T.update a (Obj.mapSeq λ_=>#[])).push (seqObj "tuple" vs.toArray 0)).push (seqObj "list" #[] 0)=U at Pw XH
 dsimp only;have hsz:vs.toArray.size<2:=by rw[aq];exact h2
 rw[if_pos hsz,if_pos hsz];refine aa (aj ?_);rw[StateT.run_pure];refine aa (aj ?_);dsimp only;have DE:(vs.toArray.zip vs.toArray).map (·.2)=vs.toArray:=by
  apply Array.toList_inj.mp
  rw[Array.toList_map,Array.toList_zip];exact wm vs
 rw[show(arrOf (SortSt.mk' general' (vs.toArray.zip vs.toArray) #[] 7 none))=vs.toArray.zip vs.toArray from rfl]at *
 refine aa (seqEpoch_at Pw rfl (aa (listUpdate_at Pw rfl ?_ (hsz2:=by rw[DE,aq,bu];omega))))
 rw[DE];simp only[bne_self_eq_false,aH,bD];obtain⟨c,hc⟩:∃c,(U.update a (Obj.mapSeq λ_=>vs.toArray)).get? a=some (seqObj "list" vs.toArray c):=⟨_,get?_update_seq Pw (λ_=>vs.toArray)⟩
 exact aj ⟨_,rfl,h _ c hc λb o hb e=>(bx _ _ (Ne.symm hb)).trans (XH b o hb e)⟩
theorem yc {S:cD}{es:Array (Int×cw)}{ep:Nat}{t:cC}{vs:cv}{Q:cg}(hh:A.handled=none) (hS:nI w s.heap S es ep t) (S8:vs=(fY w S ep es).toList.map (·.2)) (h2:vs.length<2)
  (h:∀D h' c tk,h'.get? D=some (seqObj "list" vs.toArray c)->s.heap.objs.size<=D->(∀b o,s.heap.get? b=some o->h'.get? b=some o)->Q (.ref D) {s with heap:=h',toks:=tk}):
  wpAny (model prog w) A (call (.builtin "sorted") [.ref S]) Q E s:=by
 have hlen:es.size=vs.length:=by rw[S8,ae,aN,nJ]
 refine Calls.call_function_entry kind_sorted plain_sorted entry_sorted (args_sorted1 _) ?_;unfold Builtin.«sorted»;refine aa (m:=checkCount "sorted" 1 1 _) (aj ?_);refine aa (uV hh hS (by omega) λg tk acc keep qO hg=>?_)
 rw[<-S8]at qO;subst qO;refine aa (wpAny_newList ?_ (by rw[bu];omega))
 have ED:(g.push (seqObj "list" acc.toArray 0)).get? g.objs.size=some (seqObj "list" acc.toArray 0):=ay _ rfl;refine aa (bo (DZ (s:=s) (T:=g.push (seqObj "list" acc.toArray 0)) (tk:=tk) ED h2 λh' c hD kp=>?_))
 refine aj ⟨_,rfl,h _ h' c tk hD (bg hg) λb o e=>kp b o ?_ (ag _ (keep b o e))⟩
 exact aD (bG (az e) hg)
end
end ST
namespace ST
open PySem PySem.Spec PySem.W PyProof.Rows DL SetTable L2
theorem BC {α β:Type}{R:α->cw->β->Prop}:∀(vs:cv),(∀v∈vs,∃a b,R a v b)->∃l:List (α×cw×β),vs=l.map (·.2.1)/\∀p∈l,R p.1 p.2.1 p.2.2
 |[],_=>⟨[],rfl,λp hp=>by cases hp⟩
 |v::vs,h=>by
  obtain⟨a,b,r⟩:=h v af;obtain⟨l,e,hl⟩:=BC vs λx hx=>h x (ai _ hx)
  refine⟨(a,v,b)::l,by rw[e];rfl,λp hp=>?_⟩
  rcases List.mem_cons.mp hp with rfl|hp
  ·exact r
  ·exact hl p hp
theorem BD {h:Heap}:∀{ts:cv}{ns:cn},IntsAre ts ns->rS h ts (ns.map D.int)
 |_,_,.nil=>.nil
 |_,_,.cons n t r=>.cons (.int n t) (BD r)
theorem TI.ki {h:Heap}{v:cw}{ns:cn}(t:TI h v ns):KI h v (.tup (ns.map D.int)):=by
 obtain⟨a,o,ts,n,rfl,ho,hc,hd,hi⟩:=t;exact .tup ho hc hd (by simpa using BD hi)
noncomputable instance:Nonempty D:=⟨.eU⟩
noncomputable def keyOf (h:Heap) (v:cw):D:=Classical.epsilon (KI h v)
theorem BE {h:Heap}{v:cw}{d:D}(k:KI h v d):keyOf h v=d:=(Classical.epsilon_spec (p:=KI h v) ⟨d,k⟩).inj k
theorem DP.keys {P:cw->Prop}{h:Heap}{es:List (Int×cw)}{ds:cu}(e:DP P h es ds):ds=es.map λx=>keyOf h x.2:=by
 refine List.ext_getElem? λi=>?_
 rw[av];cases hx:es[i]? with
 |none=>
  have:es.length<=i:=List.getElem?_eq_none_iff.mp hx;rw[List.getElem?_eq_none (by rw[<-e.1];exact this)];rfl
 |some x=>
  obtain⟨d,h1,h2⟩:=e.2 i x hx;rw[h1];exact congrArg some (BE h2.ki).symm
section
variable {X:Cx}
theorem G4 {P:cw->Prop}{R0:cD->cn->Prop}{pins:ck}{σ:L2.St}{H:Hp}{s:cx}(I:Inv X pins σ H s) {S:cD}{ds:cu}{es:Array (Int×cw)}{ep:Nat}(hE:DP P s.heap es.toList ds)
  (VG:∀v,P v->∃(b:cD) (ns:cn),v=.ref b/\jk X.K H b (ns.map V.int)/\R0 b ns):
  ∃l:List (cD×cn),(fY X.w S ep es).toList.map (·.2)=l.map (λp=>Value.ref p.1)/\(∀p∈l,(jk X.K H p.1 (p.2.map V.int)/\R0 p.1 p.2)/\TI s.heap (.ref p.1) p.2)/\(l.map λp=>D.tup (p.2.map D.int)).Perm ds:=by
 have wL:(fY X.w S ep es).toList.Perm es.toList:=by
  unfold fY;split
  ·exact yT _ es
  ·exact List.Perm.refl _
 obtain⟨l,e1,e2⟩:=BC (R:=λ(b:cD) v (ns:cn)=>v=.ref b/\(jk X.K H b (ns.map V.int)/\R0 b ns)/\TI s.heap v ns) ((fY X.w S ep es).toList.map (·.2)) λv hv=>by
  obtain⟨e,he,rfl⟩:=List.mem_map.mp hv;obtain⟨i,hi⟩:=bp (wL.mem_iff.mp he);obtain⟨d,_,h2⟩:=hE.2 i e hi;obtain⟨b,ns,h3,h4,h40⟩:=VG _ h2.src;obtain⟨ts,r2,⟨o,ho,hc,n,hd⟩,_⟩:=I.tuple h4;exact⟨b,ns,h3,⟨h4,h40⟩,b,o,ts,n,h3,ho,hc,hd,intsAre_of r2⟩
 refine⟨l.map λp=>(p.1,p.2.2),?_,λp hp=>?_,?_⟩
 ·rw[e1,aV];exact bS λp hp=>(e2 p hp).1
 ·obtain⟨q,hq,rfl⟩:=List.mem_map.mp hp;obtain⟨a1,a2,a3⟩:=e2 q hq;exact⟨a2,by rw[<-a1];exact a3⟩
 ·have h5:(((fY X.w S ep es).toList.map (·.2)).map (keyOf s.heap)).Perm ds:=by
   rw[aV,hE.keys];exact wL.map _
  rw[e1,aV]at h5;rw[aV];have h6:(l.map ((keyOf s.heap)∘λp=>p.2.1))=l.map ((λp:cD×cn=>D.tup (p.2.map D.int))∘λp=>(p.1,p.2.2)):=bS λp hp=>BE (e2 p hp).2.2.ki
  rw[<-h6];exact h5
theorem D1 {P:cw->Prop}{R0:cD->cn->Prop}{pins:ck}{σ:L2.St}{H:Hp}{s:cx}(hc:X.calm=true) (hu:X.A.units+64<cLine) (I:Inv X pins σ H s) {S:cD}{ds:cu}(qN:vk P (!X.w.params.followText "set-order") s.heap S ds) (hn:ds.length<64)
  (VG:∀v,P v->∃(b:cD) (ns:cn),v=.ref b/\jk X.K H b (ns.map V.int)/\R0 b ns) {Q:VK}
  (q:∀(D0:cD) (l:List (cD×cn)),H D0=none->(∀p∈l,R0 p.1 p.2)->(l.map (·.2)).Pairwise (λa b=>HT.lexLt b a=false)->(l.map λp=>D.tup (p.2.map D.int)).Perm ds->Q (.ref D0) (upd H D0 (.lst (l.map λp=>V.ref p.1)))):
  wpAny (model X.prog X.w) X.A (call (.builtin "sorted") [.ref S]) (EP X pins σ Q) X.xe s:=by
 obtain⟨o,es,ep,t,ho,hex,hd,W,hE,_,kO,SS⟩:=qN.ex;have XI:nI X.w s.heap S es ep t:=⟨⟨o,ho,hex,hd⟩,W.fits,W.tb.rise,kO,SS⟩;obtain⟨l,e1,e2,e3⟩:=G4 (S:=S) (ep:=ep) I hE VG;have hlen:l.length=ds.length:=by have:=e3.length_eq;rwa [ae]at this
 have hh:X.A.handled=none:=I.ok.hd hc;by_cases h2:2<=l.length
 ·obtain⟨m,F⟩:=I.fr;have N:News X.base X.env.locals s.heap (jH X.base s.heap X.env.locals):=vQ;have VH:(l.map λp=>Value.ref p.1).length=l.length:=by rw[ae]
  refine sortedS (vs:=l.map λp=>Value.ref p.1) F N hh XI e1.symm (by omega) (by omega) λD0 e0 h' tk F' N' fM xG=>?_
  have Dm:s.heap.get? D0=none:=Heap.get?_none_of_le xG;have uS:∀{h':Heap}{o1:Obj},Fr X.base X.env.locals h' m->News X.base X.env.locals h' ((D0,o1)::jH X.base s.heap X.env.locals)->∀b o,b≠X.env.locals->s.heap.get? b=some o->h'.get? b=some o:=λ{h' o1} F' N' b o hb e=>by
   cases g:X.base.get? b with
   |some u=>
    have:=I.bk b u g;rw[e]at this;cases this;exact F'.keep b _ g
   |none=>exact(N' (b,o) (.tail _ (mQ hb g e))).1
  have rj:=uS F' N';have Qj:∀p∈l,TI h' (.ref p.1) p.2:=λp hp=>by
   obtain⟨a,o,ts,n,ea,ho,hc,hd,hi⟩:=(e2 p hp).2;cases ea;refine⟨_,o,ts,n,rfl,rj _ o (λz=>?_) ho,hc,hd,hi⟩
   obtain⟨oL,es,ep,hL,Sd,_⟩:=F.ns;rw[z,hL]at ho;cases ho;rw[Sd]at hd;cases hd
  refine NL (s:={s with heap:=h',toks:=tk}) (λv hv=>?_) λκ hκ=>?_
  ·obtain⟨p,hp,rfl⟩:=List.mem_map.mp hv;exact⟨p.2,Qj p hp⟩
  rw[VH];have j9:∀i,i<l.length->(l.map λp=>Value.ref p.1).getD i Value.none=.ref (l.getD i (0,[])).1/\l.getD i (0,[])∈l:=λi hi=>by
   rw[ak,av,ak,ah hi];exact⟨rfl,List.getElem_mem hi⟩
  have cmp:∀i j (R:Bool->cx->Prop),i<l.length->j<l.length->R (HT.lexLt ((l.map (·.2)).getD i []) ((l.map (·.2)).getD j [])) {s with heap:=h',toks:=tk}->kas_ask X.prog X.w X.A.in1.in1 κ (l.map λp=>Value.ref p.1) i j R {s with heap:=h',toks:=tk}:=λi j R hi hj hR=>by
   show wpAny _ _ (keyLt' _ ((l.map λp=>Value.ref p.1).getD i Value.none) ((l.map λp=>Value.ref p.1).getD j Value.none)) _ _ _
   rw[(j9 i hi).1,(j9 j hj).1];have g:∀k,k<l.length->(l.map (·.2)).getD k []=(l.getD k (0,[])).2:=λk hk=>by
    rw[ak,av,ak,ah hk];rfl
   rw[g i hi,g j hj]at hR;exact S9 (Qj _ (j9 i hi).2) (Qj _ (j9 j hj).2) (by show X.A.units+1+1+8<cLine;omega) hκ hR
  refine So.qr (n:=l.length) cmp _ (So.wj (by omega)) ?_
  obtain⟨s1,s2⟩:=So.wa (lt:=λi j=>HT.lexLt ((l.map (·.2)).getD i []) ((l.map (·.2)).getD j [])) (rank:=λi=>qt (l.map (·.2)) ((l.map (·.2)).getD i [])) (λi j=>kc (lq _ _) (lq _ _)) l.length (by omega)
  generalize So.iG _ (kas_sort l.length)=ar at s1 s2;have pm:ar.toList.Perm (List.range l.length):=by simpa using Array.perm_iff_toList_perm.mp s1
  have sz:ar.size=l.length:=by simpa using s1.size_eq
  have below:∀i∈ar.toList,i<l.length:=λi hi=>by simpa using pm.mem_iff.mp hi
  generalize iE:(ar.toList.map λi=>l.getD i (0,[]))=l'
  have lp:l'.Perm l:=by
   rw[<-iE];have:=pm.map λi=>l.getD i (0,[])
   have e:(List.range l.length).map (λi=>l.getD i (0,[]))=l:=lZ l (0,[])
   rw[e]at this;exact this
  have outs:(ar.toList.map λi=>(l.map λp=>Value.ref p.1).getD i Value.none)=l'.map λp=>Value.ref p.1:=by
   rw[<-iE,aV];exact bS λi hi=>(j9 i (below i hi)).1
  rw[outs];refine⟨_,_,F',N',.head λp hp=>aD (fM p hp),λh2 c F2 N2=>?_⟩
  have hD:H D0=none:=I.gb.fresh xG;have jv:=uS F2 N2;have Sg:h2.get? D0=some {cls:=.type "list",data:=.seq (l'.map λp=>Value.ref p.1).toArray c}:=(N2 _ (.head _)).1
  refine⟨.ref D0,upd H D0 (.lst (l'.map λp=>V.ref p.1)),?_,rfl,q D0 l' hD (λp hp=>(e2 p (lp.mem_iff.mp hp)).1.2) ?_ ((lp.map _).trans e3)⟩
  ·show Inv X pins σ _ {s with heap:=h2,gens:=s.gens,drawn:=s.drawn,toks:=tk}
   refine I.step (g':=s.gens) (d':=s.drawn) (t':=tk) (ch:=[]) (λ_ z=>nomatch z) (λb o h1 _ _ e _=>jv b o h1 e) (λb o h1 _ _ e _=>⟨o.slots,jv b o h1 e⟩) (λb o _ e hn=>?_) (λb o _ e=>?_) (λb xs e=>?_) (λb o xs e=>?_) (λb ps e=>⟨#[],?_⟩) (λm' hm=>?_) (λb u e=>?_) I.bare
   ·rw[cR (λz=>by rw[z,Dm]at e;cases e)];exact hn
   ·by_cases hb:b=X.env.locals
    ·obtain⟨o',_,_,e',_⟩:=F2.ns;exact⟨o',by rw[hb];exact e'⟩
    ·exact⟨o,jv b o hb e⟩
   ·rw[cR (cV e hD)];exact e
   ·rw[cR (cV e hD)];exact e
   ·rw[cR (cV e hD),e];simp
   ·rw[DC hm F.ns];exact F2.ns
   ·by_cases hb:b=D0
    ·subst hb;rw[da]at e;cases e;refine⟨by rw[ae,lp.length_eq];exact bg (kb (by omega)),_,c,?_,Sg⟩
     have aux:∀k:List (cD×cn),Vals (k.map λp=>V.ref p.1) (k.map λp=>Value.ref p.1):=λk=>by
      induction k with
      |nil=>exact .nil
      |cons p k ih=>exact .cons rfl ih
     exact aux l'
    ·rw[cR hb]at e;refine(I.gb b u e).zv (λk v hk z=>jv k v ?_ z) (λk z=>by rw[cR (cV z hD)];exact z) λk xs z=>by rw[cR (cV z hD)];exact z
     rcases hk with rfl|hk
     ·intro z;rw[z,I.free]at e;cases e
     ·intro z;rw[z,I.free]at hk;cases hk
  ·rw[<-iE,aV,List.pairwise_map,List.pairwise_iff_getElem];intro i j hi hj vh;have xV:i<ar.size:=by simpa using hi
   have E1:j<ar.size:=by simpa using hj
   have le:=s2 i j (bg vh) (by omega)
   unfold So.kk at le;rw[aT,aT,aU xV,aU E1]at le;simp only[Option.getD_some]at le;have g:∀k,k<l.length->(l.map (·.2)).getD k []=(l.getD k (0,[])).2:=λk hk=>by
    rw[ak,av,ak,ah hk];rfl
   have bi:ar[i]<l.length:=below _ (by simp)
   have bj:ar[j]<l.length:=below _ (by simp)
   have e:=kc (nss:=l.map (·.2)) (a:=(l.map (·.2)).getD (ar[j]) []) (b:=(l.map (·.2)).getD (ar[i]) []) (lq _ _) (lq _ _)
   simp only[Array.getElem_toList,Function.comp_apply];rw[<-g _ bi,<-g _ bj,e];exact aG (by omega)
 ·refine yc (vs:=l.map λp=>Value.ref p.1) hh XI e1.symm (by rw[ae];omega) λD0 h' c tk hD xG keep=>?_
  have LX:H D0=none:=I.gb.fresh xG;refine⟨.ref D0,_,I.laid (t':=tk) (o:=.lst (l.map λp=>V.ref p.1)) keep xG ⟨by rw[ae];exact aB (by omega:l.length<=100) (by decide),_,c,?_,hD⟩,rfl,q D0 l LX (λp hp=>(e2 p hp).1.2) ?_ e3⟩
  ·clear e1 e2 e3 hlen h2 hD;induction l with
   |nil=>exact .nil
   |cons p l ih=>exact .cons rfl ih
  ·match l,h2 with
   |[],_=>exact List.Pairwise.nil
   |[p],_=>simp
   |_::_::_,h2=>exact absurd (by simp) h2
end
end ST
namespace L2
open PySem PySem.Spec PyProof.Rows
section
variable {κ:Type} [DecidableEq κ]
noncomputable def qU (kvs:List (κ×V)) (k:κ):Option V:=(kvs.find? λkv=>decide (kv.1=k)).map (·.2)
noncomputable def putK (kvs:List (κ×V)) (k:κ) (v:V):List (κ×V):=
 if(kvs.any λkv=>decide (kv.1=k))=true then kvs.map (λkv=>if kv.1=k then(kv.1,v)else kv)else kvs++[(k,v)]
theorem pQ {p:κ×V}{r:List (κ×V)}{k:κ}(e:p.1=k):qU (p::r) k=some p.2:=by simp[qU,List.find?_cons,e]
theorem pR {p:κ×V}{r:List (κ×V)}{k:κ}(e:¬ p.1=k):qU (p::r) k=qU r k:=by simp[qU,List.find?_cons,e]
theorem BF (k:κ):∀kvs:List (κ×V),(kvs.any λkv=>decide (kv.1=k))=(qU kvs k).isSome
 |[]=>rfl
 |p::r=>by
  rw[bF];by_cases e:p.1=k
  ·simp only[pQ e,aR e,Bool.true_or,Option.isSome_some]
  ·rw[pR e,aG e,Bool.false_or];exact BF k r
theorem uW (kvs:List (κ×V)) (k:κ) (v:V):(putK kvs k v).length<=kvs.length+1:=by
 unfold putK;split
 ·rw[ae];omega
 ·rw[aQ,ax,List.length_nil];omega
theorem pj.G5 {o:Option V}{u:Option cw}(r:pj o u):o.isSome=u.isSome:=by
 cases o with
 |none=>cases u with
  |none=>rfl
  |some _=>exact(show False from r).elim
 |some _=>cases u with
  |none=>exact(show False from r).elim
  |some _=>rfl
theorem pj.getD {o:Option V}{u:Option cw}{d:V}{d':cw}(r:pj o u) (rd:RelV d d'):RelV (o.getD d) (u.getD d'):=by
 cases o with
 |none=>cases u with
  |none=>exact rd
  |some _=>exact(show False from r).elim
 |some _=>cases u with
  |none=>exact(show False from r).elim
  |some _=>exact r
theorem KV.val {kvs:List (κ×V)}{vs:List (κ×cw)}(r:KV kvs vs) (k:κ):pj (qU kvs k) (valueAt vs k):=by
 unfold KV at r;induction r with
 |nil=>exact True.intro
 |@cons p q ps qs h t ih=>
  obtain⟨h1,h2⟩:=h;by_cases e:p.1=k
  ·have e':q.1=k:=h1.symm.trans e;have b:valueAt (q::qs) k=some q.2:=by simp[valueAt,List.find?_cons,e']
   rw[pQ e,b];exact h2
  ·have e':¬ q.1=k:=λz=>e (h1.trans z)
   have b:valueAt (q::qs) k=valueAt qs k:=by simp[valueAt,List.find?_cons,e']
   rw[pR e,b];exact ih
theorem KV.any {kvs:List (κ×V)}{vs:List (κ×cw)}(r:KV kvs vs) (k:κ):(kvs.any λkv=>decide (kv.1=k))=vs.any λkv=>decide (kv.1=k):=by
 unfold KV at r;induction r with
 |nil=>rfl
 |cons h t ih=>rw[bF,bF,ih,h.1]
theorem KV.Qk {kvs:List (κ×V)}{vs:List (κ×cw)}(r:KV kvs vs) (k:κ) {y:V}{u:cw}(ry:RelV y u):
  KV (kvs.map λkv=>if kv.1=k then(kv.1,y)else kv) (vs.map λkv=>if kv.1=k then(kv.1,u)else kv):=by
 unfold KV at r ⊢;induction r with
 |nil=>exact .nil
 |@cons p q ps qs h t ih=>
  rw[aE,aE];refine .cons ?_ ih;obtain⟨h1,h2⟩:=h;by_cases e:p.1=k
  ·rw[if_pos e,if_pos (h1.symm.trans e)];exact⟨h1,ry⟩
  ·rw[if_neg e,if_neg (λz=>e (h1.trans z))];exact⟨h1,h2⟩
theorem KV.put {kvs:List (κ×V)}{vs:List (κ×cw)}(r:KV kvs vs) (k:κ) {y:V}{u:cw}(ry:RelV y u):KV (putK kvs k y) (stored vs k u):=by
 unfold putK stored;rw[r.any k];by_cases e:(vs.any λkv=>decide (kv.1=k))=true
 ·rw[if_pos e,if_pos e];exact r.Qk k ry
 ·rw[if_neg e,if_neg e];exact Paired.snoc r ⟨rfl,ry⟩
theorem KV.keys {kvs:List (κ×V)}{vs:List (κ×cw)}(r:KV kvs vs):kvs.map (·.1)=vs.map (·.1):=by
 unfold KV at r;induction r with
 |nil=>rfl
 |cons h t ih=>rw[aE,aE,ih,h.1]
theorem KV.length {kvs:List (κ×V)}{vs:List (κ×cw)}(r:KV kvs vs):kvs.length=vs.length:=Paired.length r
end
theorem Fl {P:cz}{w:cA}{k:Key}{u:cw}(r:RelV (kV k) u):(eT P w).is k u=true:=by
 cases k with
 |inl i=>obtain⟨t,e⟩:=(show ∃t,u=Value.int i t from r);subst e;exact A2 P w i t
 |inr x=>obtain⟨t,e⟩:=(show ∃t,u=Value.str x t from r);subst e;exact A3 P w x t
theorem yU {P:cz}{w:cA}:∀{ks:List Key}{us:cv},Vals (ks.map kV) us->ItemsAre (eT P w) ks us
 |[],_,r=>by rw[List.map_nil]at r;cases r;exact .nil
 |k::ks,_,r=>by
  rw[aE]at r;cases r with
  |cons h t=>exact .cons (Fl h) (yU t)
noncomputable abbrev KT (H:Hp):List (List Key×V)->List (List Key×cD×cw)->Prop:=Paired λp q=>p.1=q.1/\H q.2.1=some (.tup (p.1.map kV))/\RelV p.2 q.2.2
theorem KT.val {H:Hp}{kvs:List (List Key×V)}{xs:List (List Key×cD×cw)}(r:KT H kvs xs) (k:List Key):pj (qU kvs k) ((atKey xs k).map (·.2)):=by
 induction r with
 |nil=>exact True.intro
 |@cons p q ps qs h t ih=>
  obtain⟨h1,_,h2⟩:=h;by_cases e:p.1=k
  ·have e':q.1=k:=h1.symm.trans e;have b:atKey (q::qs) k=some q.2:=by simp[atKey,List.find?_cons,e']
   rw[pQ e,b];exact h2
  ·have e':¬ q.1=k:=λz=>e (h1.trans z)
   have b:atKey (q::qs) k=atKey qs k:=by simp[atKey,List.find?_cons,e']
   rw[pR e,b];exact ih
theorem KT.Qk {H:Hp}{kvs:List (List Key×V)}{xs:List (List Key×cD×cw)}(r:KT H kvs xs) (k:List Key) {y:V}{u:cw}(ry:RelV y u):
  KT H (kvs.map λkv=>if kv.1=k then(kv.1,y)else kv) (xs.map (putAt k u)):=by
 induction r with
 |nil=>exact .nil
 |@cons p q ps qs h t ih=>
  rw[aE,aE];refine .cons ?_ ih;obtain⟨h1,h2,h3⟩:=h;unfold putAt;by_cases e:p.1=k
  ·rw[if_pos e,if_pos (h1.symm.trans e)];exact⟨h1,h2,ry⟩
  ·rw[if_neg e,if_neg (λz=>e (h1.trans z))];exact⟨h1,h2,h3⟩
theorem KT.put {H:Hp}{kvs:List (List Key×V)}{xs:List (List Key×cD×cw)}(r:KT H kvs xs) (k:List Key) {b:cD}{y:V}{u:cw}(hb:H b=some (.tup (k.map kV))) (ry:RelV y u):
  KT H (putK kvs k y) (storedH xs k b u):=by
 have e:(kvs.any λkv=>decide (kv.1=k))=(atKey xs k).isSome:=by
  rw[BF,(r.val k).G5,Option.isSome_map]
 unfold putK storedH;rw[e];by_cases q:(atKey xs k).isSome=true
 ·rw[if_pos q,if_pos q];exact r.Qk k ry
 ·rw[if_neg q,if_neg q];exact Paired.snoc r ⟨rfl,hb,ry⟩
theorem KT.keeps {H H':Hp}{kvs:List (List Key×V)}{xs:List (List Key×cD×cw)}(r:KT H kvs xs) (ht:∀b ys,H b=some (.tup ys)->H' b=some (.tup ys)):KT H' kvs xs:=
 Paired.NY r λ_ _ z=>⟨z.1,ht _ _ z.2.1,z.2.2⟩
section
variable {P:cz}{w:cA}{H:Hp}{h:Heap}{a:cD}
theorem NM {u:HO}(ok:qV P w H h) (e:Rd H a u):il P w H h a u:=e.ok ok
theorem J1 {kvs:List (Key×V)}(ok:qV P w H h) (e:Rd H a (.dK kvs)):kvs.length<=sizeLine/\(a==sysModules)=false/\∃vs,KV kvs vs/\h.DictOf (eT P w) a vs:=
 show il P w H h a (.dK kvs)from NM ok e
theorem NN {kvs:List (Key×V)}(ok:qV P w H h) (e:H a=some (.dK kvs)):kvs.length<=sizeLine/\(a==sysModules)=false/\∃vs,KV kvs vs/\h.DictOf (eT P w) a vs:=J1 ok (.inl e)
theorem D2 {ks:List Key}(ok:qV P w H h) (e:H a=some (.tup (ks.map kV))):(tupleKind (eT P w)).is h ks a:=by
 obtain⟨_,dz,r,o,h1,h2,n,h3⟩:=(show il P w H h a (.tup (ks.map kV))from ok a _ e)
 exact⟨o,dz.toArray,n,h1,h2,h3,by simpa using yU r⟩
theorem J2 {kvs:List (List Key×V)}(ok:qV P w H h) (e:Rd H a (.dT kvs)):kvs.length<=sizeLine/\(a==sysModules)=false/\
  ∃xs,KT H kvs xs/\h.DictOfH (tupleKind (eT P w)) a xs:=by
 obtain⟨z,y,xs,r,o,es,ep,h1,h2,h3,h4,h5⟩:=(show il P w H h a (.dT kvs)from NM ok e)
 refine⟨z,y,xs,r,o,es,ep,h1,h2,h3,h4,λx hx=>?_,h5⟩
 have all:∀{l:List (List Key×V)}{m:List (List Key×cD×cw)},KT H l m->∀x∈m,(tupleKind (eT P w)).is h x.1 x.2.1:=by
  intro l m q;induction q with
  |nil=>intro x hx;exact nomatch hx
  |@cons p q ps qs hq t ih=>
   intro x hx;rcases List.mem_cons.mp hx with e|hx
   ·subst e;exact D2 ok (by rw[<-hq.1];exact hq.2.1)
   ·exact ih x hx
 exact all r x hx
theorem Ta {kvs:List (List Key×V)}(ok:qV P w H h) (e:H a=some (.dT kvs)):kvs.length<=sizeLine/\(a==sysModules)=false/\
  ∃xs,KT H kvs xs/\h.DictOfH (tupleKind (eT P w)) a xs:=J2 ok (.inl e)
end
def J3 (H:Hp) (a:cD) (y:V) (r:Option V):Prop:=
 (∃kvs k,Rd H a (.dK kvs)/\y=kV k/\r=qU kvs k)\/∃kvs k b,Rd H a (.dT kvs)/\y=.ref b/\H b=some (.tup (k.map kV))/\r=qU kvs k
def J4 (H:Hp) (a:cD) (y v:V) (H':Hp):Prop:=
 (∃kvs k,H a=some (.dK kvs)/\y=kV k/\kvs.length<sizeLine/\H'=upd H a (.dK (putK kvs k v)))\/
 ∃kvs k b,H a=some (.dT kvs)/\y=.ref b/\H b=some (.tup (k.map kV))/\kvs.length<sizeLine/\H'=upd H a (.dT (putK kvs k v))
theorem J3.k {H:Hp}{a:cD}{kvs:List (Key×V)}{k:Key}(e:H a=some (.dK kvs)):J3 H a (kV k) (qU kvs k):=.inl ⟨kvs,k,.inl e,rfl,rfl⟩
theorem J4.k {H:Hp}{a:cD}{kvs:List (Key×V)}{k:Key}{v:V}(e:H a=some (.dK kvs)) (hl:kvs.length<sizeLine):J4 H a (kV k) v (upd H a (.dK (putK kvs k v))):=.inl ⟨kvs,k,e,rfl,hl,rfl⟩
section
variable {X:Cx}{pins:ck}{σ:St}{H:Hp}{s:cx}{a:cD}{y v:V}{u r:cw}{o:Option V}{A:cB}{E:cg}
theorem Inv.big (I:Inv X pins σ H s):sysModules<s.heap.objs.size:=by
 have h:mainGlobals<s.heap.objs.size:=(I.mod.glob.keeps I.bk).lt;exact bG (by decide) h
theorem Fm {h':Heap}{t':Nat}{ob:HO}(I:Inv X pins σ H s) (mu:QZ (H a)) (hs:Heap.SameBut a s.heap h') (he:∃q,h'.get? a=some q) (new:il X.prog X.w (upd H a ob) h' a ob):
  Inv X pins σ (upd H a ob) {s with heap:=h',toks:=t'}:=
 I.write (x:=a) (e:=a) mu (.inl rfl) (λb q hb z=>(hs.2 b hb).trans z) he new
theorem Ql {P:cz}{w:cA}{H':Hp}{h':Heap}{kvs:List (Key×V)}{vs:List (Key×cw)}(z:kvs.length<=sizeLine) (hd:(a==sysModules)=false) (rel:KV kvs vs) (dd:h'.DictOf (eT P w) a vs):
  il P w H' h' a (.dK kvs):=⟨z,hd,vs,rel,dd⟩
theorem G6 {H':Hp}{Q:Unit->cx->Prop}(hu:A.units+1<cLine) (I:Inv X pins σ H s) (g:J4 H a y v H') (ry:RelV y u) (rv:RelV v r) (h:∀s',Inv X pins σ H' s'->Q () s'):
  wpAny (model X.prog X.w) A (setItem (.ref a) u r) Q E s:=by
 rcases g with⟨kvs,k,e,ey,l,eH⟩|⟨kvs,k,b,e,ey,eb,l,eH⟩
 ·subst ey eH;obtain⟨z,hd,vs,rel,dd⟩:=NN I.gb e;have hz:vs.length<=sizeLine:=by rw[<-rel.length];exact z
  have hl:(putK kvs k v).length<=sizeLine:=by have:=uW kvs k v;omega
  refine wpAny_setItem_pairs (hsz:=hz) (Fl ry) dd λh' T8 hs=>h _ ?_
  have he:∃q,h'.get? a=some q:=let ⟨q,_,_,hq,_⟩:=T8;⟨q,hq⟩;exact Fm I (by rw[e];exact True.intro) hs he (Ql hl hd (rel.put k rv) T8)
 ·subst ey eH;cases (show u=Value.ref b from ry)
  obtain⟨z,hd,xs,rel,dd⟩:=Ta I.gb e;have hz:xs.length<=sizeLine:=by rw[<-Paired.length rel];exact z
  have hl:(putK kvs k v).length<=sizeLine:=by have:=uW kvs k v;omega
  refine wpAny_setItem_heap (hsz:=hz) (tupleKind_room_in1 hu) (D2 I.gb eb) dd λh' T8 hs=>h _ ?_
  obtain⟨q,es,ep,hq,h2,h3,h4,_,h5⟩:=T8;refine Fm I (by rw[e];exact True.intro) hs ⟨q,hq⟩ ⟨hl,hd,_,(rel.put k eb rv).keeps λc ys ec=>?_,q,es,ep,hq,h2,h3,h4,h5⟩
  rw[cR (QY ec e (λz=>nomatch z))]
  exact ec
end
section
variable {X:Cx}{pins:ck}{σ:St}{H:Hp}{s:cx}{a:cD}{kvs:List (Key×V)}{k:Key}{u:cw}{A:cB}{E:cg}
end
def VI (i:cE):Prop:=∀ov iv,subscripted i false ov iv=operate [ov,iv] (getItem ov iv)
theorem MJ {prog:cz}{w:cA}{A:cB}{E:cg}{s:cx}{env:Env}{value slice:cE}{pos:Pos}{T id:String}{Q:cg}
  (hl:typeLookup (.type T) "__getitem__"=pure (some (.builtin id))) (hs:VI slice)
  (h:wpAny (model prog w) A (eval value env) (λo s₁=>wpAny (model prog w) A (eval slice env) (λi s₂=>s₂.TypeIs o T/\wpAny (model prog w) A (getItem o i) Q E s₂) E s₁) E s):
  wpAny (model prog w) A (eval (.Subscript value slice pos) env) Q E s:=by
 refine Subscript_ (bP h (λo s₁ h₁=>bP h₁ (λi s₂ h₂=>?_) λ_ _ x=>x) λ_ _ x=>x)
 obtain⟨hT,h₂⟩:=h₂;unfold subscriptTail;refine aa ?_;rw[getitemInPython_of_ne hT.not_modules];refine aa (wpAny_specialOf hT hl ?_);have fin:wpAny (model prog w) A (subscripted slice false o i) (λr s₃=>wpAny (model prog w) A (letTemporaryGo value o r>>=λ_=>pure r) Q E s₃) E s₂:=by
  rw[hs o i];exact wpAny_operating (bP h₂ (λr s₃ h₃=>aa (wpAny_letTemporaryGo (aj h₃))) λ_ _ x=>x)
 first
  |exact aj (aa fin)
  |exact aa (aj (aa fin))
  |exact aa fin
noncomputable def Tc (td ty tv:TE):TS:=λD σ H=>tv σ H λv H1=>td σ H1 λx H2=>ty σ H2 λy H3=>∃a H4,x=.ref a/\J4 H3 a y v H4/\D.nx σ H4
section
variable {X:Cx}{o i e value:cE}{pos pos' Rv:Pos}{td ty tv:TE}
theorem MK (hu:X.A.units+1<cLine) (ho:PE X o td) (hi:PE X i ty) (hv:PE X value tv) (hs:swapsWith value (some (.Subscript o i pos')) pos.line X.env=pure false):
  PS X (.Assign [.Subscript o i pos'] value pos) (Tc td ty tv):=by
 intro pins s σ H D I h;refine wpAny_Assign_Subscript (gR (hv pins s σ H _ I h) λr s1 ⟨v,H1,I1,rv,q1⟩=>gR (ho pins s1 σ H1 _ I1 q1) λu s2 ⟨x,H2,I2,rx,q2⟩=>gR (hi pins s2 σ H2 _ I2 q2) λiv s3 ⟨y,H3,I3,ry,a,H4,ex,g,q3⟩=>?_) hs
 subst ex;obtain rfl:u=Value.ref a:=rx;exact G6 hu I3 g ry rv λs4 I4=>⟨σ,H4,I4,q3⟩
end
theorem J5 {P:cz}{w:cA}{H:Hp}(h:Heap) (hb:sysModules<h.objs.size):il P w H (h.push {cls:=.type "dict",data:=.dict #[]}) h.objs.size (.dK []):=
 ⟨bL _,beq_eq_false_iff_ne.mpr (Ne.symm (aD hb)),[],.nil,Heap.DictOf.new h⟩
noncomputable def Qm:TE:=λ_ H Q=>∀p,H p=none->Q (.ref p) (upd H p (.dK []))
section
variable {X:Cx}{pos:Pos}
theorem J6:PE X (.Dict [] [] pos) Qm:=λpins s σ H Q I h=>
 wpAny_Dict_empty ⟨.ref s.heap.objs.size,_,I.laid (a:=s.heap.objs.size) (o:=.dK []) (t':=s.toks) (λ_ _ q=>ag _ q) (au _) (J5 s.heap I.big),rfl,h _ (I.gb.fresh (au _))⟩
end
structure M2 (X:Cx) (o:cE) (m:Str) (apos:Pos) (e f:cE) (eP:Pos):Prop where
 base:attributeBase o m X.env (eval o X.env)=eval o X.env
 few:((backTo eP (starEach [e,f] X.env)).all (λx=> !x.1)&&(backToKw eP (keywordEach [] X.env)).all (λx=>x.1.isSome)
  &&decide (([e,f]:List cE).length+([]:List Keyword).length+(if([]:List Keyword).isEmpty then 0 else 1)<30))=true
 line:(apos.endLine==eP.line)=true
 trees:backTo eP (starEach [e,f] X.env)=[(false,eval e X.env),(false,eval f X.env)]
def XJ (H:Hp) (a:cD):Prop:=(∃kvs,Rd H a (.dK kvs))\/∃kvs,Rd H a (.dT kvs)
theorem Qn {X:Cx}{pins:ck}{σ:St}{H:Hp}{s:cx}{a:cD}(I:Inv X pins σ H s) (d:XJ H a):
  s.TypeIs (.ref a) "dict"/\(∀b,Value.ref a=.ref b->∃ob,s.heap.get? b=some ob/\ob.dict=none)/\(a==sysModules)=false:=by
 rcases d with⟨kvs,e⟩|⟨kvs,e⟩
 ·obtain⟨_,hd,vs,_,dd⟩:=J1 I.gb e;refine⟨dd.typeIs,λb q=>?_,hd⟩
  cases q;obtain⟨ob,_,_,h1,h2,_⟩:=dd;exact⟨ob,h1,h2.2.1⟩
 ·obtain⟨_,hd,xs,_,dd⟩:=J2 I.gb e;refine⟨dd.typeIs,λb q=>?_,hd⟩
  cases q;obtain⟨ob,_,_,h1,h2,_⟩:=dd;exact⟨ob,h1,h2.2.1⟩
section
variable {X:Cx}{pins:ck}{σ:St}{H:Hp}{s:cx}{a:cD}{y d:V}{u r:cw}{o:Option V}{A:cB}{E:cg}
theorem Qo {Q:cg}(hu:A.units+1<cLine) (I:Inv X pins σ H s) (g:J3 H a y o) (ry:RelV y u) (rd:RelV d r) (h:∀w' s',Inv X pins σ H s'->RelV (o.getD d) w'->Q w' s'):
  wpAny (model X.prog X.w) A (call (.builtin "dict.get") [.ref a,u,r]) Q E s:=by
 rcases g with⟨kvs,k,e,ey,l⟩|⟨kvs,k,b,e,ey,eb,l⟩
 ·subst ey;obtain⟨z,hd,vs,rel,dd⟩:=J1 I.gb e;refine call_meetsIn PySem.F.slot_dict_get dd.typeIs PySem.F.entry_dict_get (PySem.F.args_dict_get_3 _ _ _) (meets_dict_get_default (eT X.prog X.w) a (Fl ry) hd r) ⟨_,dd.mapOf,h _ _ (I.tok _) ?_⟩;rw[l];exact(rel.val k).getD rd
 ·subst ey;cases (show u=Value.ref b from ry)
  obtain⟨z,hd,xs,rel,dd⟩:=J2 I.gb e;refine call_meetsIn PySem.F.slot_dict_get dd.typeIs PySem.F.entry_dict_get (PySem.F.args_dict_get_3 _ _ _) (meetsH_dict_get_default (tupleKind (eT X.prog X.w)) a b hd r) ⟨tupleKind_room_in1 hu,k,xs,D2 I.gb eb,dd,h _ _ (I.tok _) ?_⟩;rw[l];exact(rel.val k).getD rd
end
noncomputable def Qp (td ty tx:TE):TE:=λσ H Q=>td σ H λx H1=>∃a,x=.ref a/\XJ H1 a/\ty σ H1 λy H2=>tx σ H2 λz H3=>∃o,J3 H3 a y o/\Q (o.getD z) H3
section
variable {X:Cx}{o e f:cE}{apos eP:Pos}{td ty tx:TE}
theorem J7 (hu:X.A.units+1<cLine) (ho:PE X o td) (he:PE X e ty) (hf:PE X f tx) (m:M2 X o "get" apos e f eP):PE X (.Call (.Attribute o "get" apos) [e,f] [] eP) (Qp td ty tx):=by
 intro pins s σ H Q I h;refine wpAny_Call_method m.base m.few m.line PySem.F.plainAttrs_dict PySem.F.slot_dict_get PySem.F.type_dict_get (gR (ho pins s σ H _ I h) λu s1 ⟨x,H1,I1,rx,a,ex,d,q1⟩=>?_)
 subst ex;obtain rfl:u=Value.ref a:=rx;obtain⟨t1,t2,_⟩:=Qn I1 d;refine⟨t1,t2,?_⟩;rw[m.trees];refine Calls.callWith_builtin rfl (Calls.evalArgs_plain (Calls.spliced_cons (gR (he pins s1 σ H1 _ I1 q1) λiv s2 ⟨y,H2,I2,ry,q2⟩=>
  Calls.spliced_cons (gR (hf pins s2 σ H2 _ I2 q2) λfv s3 ⟨z,H3,I3,rz,ov,g,q3⟩=>Calls.spliced_nil ?_))))
 exact Qo hu I3 g ry rz λw' s4 I4 LN=>⟨_,H3,I4,LN,q3⟩
end
section
variable {X:Cx}{pins:ck}{σ:St}{H:Hp}{s:cx}{a:cD}{kvs:List (Key×V)}{A:cB}{E:cg}
end
section
variable {X:Cx}{pins:ck}{σ:St}{H:Hp}{s:cx}{a:cD}{y:V}{u:cw}{A:cB}{E:cg}
end
end L2
namespace L2
open PySem PySem.Spec PyProof.Rows
noncomputable abbrev my:Scope:={kind:=.function,names:=[(Str.ofString "point",.local),(Str.ofString "uses",.free)],isGenerator:=false,isCoroutine:=false,more:=[]}
noncomputable abbrev lH (p:Pos):Arguments:={posonlyargs:=[],args:=[{arg:="point",annotation:=none,pos:=p}],vararg:=none,kwonlyargs:=[],kw_defaults:=[],kwarg:=none,defaults:=[]}
noncomputable abbrev jn (pu pp pS pU Ah pT:Pos):cE:=.Tuple [.UnaryOp .USub (.Subscript (.Name "uses" pu) (.Name "point" pp) pS) pU,.Name "point" Ah] 0 pT
section
variable {prog:cz}{w:cA}{A:cB}{E:cg}{s:cx}{f c' a cell:cD}{qual:Str}{pm yd:cw}{pa pu pp pS pU Ah pT:Pos}{vs:List (Key×cw)}{p n:Int}{t tn:Tok}
theorem BG {Q:cg}(i7:A.depth<recursionLimit)
  (hf:s.heap.get? f=some (W.kla_obj "<lambda>" qual (lH pa) (jn pu pp pS pU Ah pT) my [(Str.ofString "uses",cell)] pm c' yd))
  (vd:s.heap.CodeRec (.ref c') qual) (ON:s.heap.NoLimit) (si:s.heap.IsCell cell (some (.ref a))) (dd:s.heap.DictOf (eT prog w) a vs) (hv:valueAt vs (.inl p)=some (.int n tn))
  (h:∀T h' tk QV,h'.get? T=some {cls:=.type "tuple",data:=.seq #[.int (-n) QV,.int p t]}->(∀b o,s.heap.get? b=some o->h'.get? b=some o)->s.heap.objs.size<=T->Q (.ref T) {s with heap:=h',toks:=tk}):
  wpAny (model prog w) A (call (.ref f) [.int p t]) Q E s:=by
 refine wpAny_call (W.kla_callFunE i7 hf rfl rfl rfl rfl vd ?_);have hb:bindArgs (W.kla_fn "<lambda>" qual (lH pa) (jn pu pp pS pU Ah pT) my [(Str.ofString "uses",cell)] pm (.ref c') yd) ⟨[.int p t],[]⟩=pure [(Str.ofString "point",.int p t)]:=rfl;rw[hb];refine aj (wpAny_newFunctionEnv (show ∀x∈my.names,x.2≠.cell by decide) (by intro x hx;simp at hx;subst hx;rfl) (λh₁ LR Lf=>⟨ON.fresh _ Lf,?_⟩) rfl)
 have VJ:∀b o,s.heap.get? b=some o->h₁.get? b=some o:=λb o e=>Lf.extBut b o (aD (az e)) (ag _ e)
 have hsz:s.heap.objs.size<=h₁.objs.size:=bg LR.lt;refine W.kla_codeExpr ?_;generalize hL:s.heap.objs.size=L at *;show wpAny (model prog w) (A.deeper (W.envX qual my L f (.ref c') [(Str.ofString "uses",cell)])) (eval (jn pu pp pS pU Ah pT) (W.envX qual my L f (.ref c') [(Str.ofString "uses",cell)])) _ _ {s with heap:=h₁,toks:=s.toks+1}
 generalize hA:A.deeper (W.envX qual my L f (.ref c') [(Str.ofString "uses",cell)])=A';generalize s.toks+1=tk₁;refine wpAny_Tuple_spliced ?_;refine Calls.spliced_cons (UnaryOp_ (MJ PySem.F.slot_dict_getitem.lookup (λ_ _=>rfl) ?_))
 have XM:h₁.DictOf (eT prog w) a vs:=by obtain⟨o,es,ep,e,r⟩:=dd;exact⟨o,es,ep,VJ _ _ e,r⟩
 refine wpAny_Name (wpAny_loadName_free rfl rfl rfl (si.keeps VJ) ?_) (by decide)
 refine wpAny_Name (wpAny_loadName_local rfl rfl LR rfl ?_) (by decide)
 refine⟨XM.mapOf.typeIs,wpAny_getItem_of (k:=Sum.inl p) (Fl (k:=Sum.inl p) (u:=.int p t) ⟨t,rfl⟩) XM.mapOf hv ?_⟩;refine neg_int ?_;refine Calls.spliced_cons (wpAny_Name (wpAny_loadName_local rfl rfl LR rfl ?_) (by decide))
 refine Calls.spliced_nil ⟨by show(2:Nat)<=_;decide,?_⟩
 refine h _ _ _ _ (ay _ rfl) (λb o e=>ag _ (VJ b o e)) ?_
 exact hsz
end
end L2
namespace L2
open PySem PySem.Spec PySem.W PySem.Calls PyProof.Rows
section
variable {prog:cz}{w:cA}{A:cB}{E:cg}{s:cx}{K:Type} [DecidableEq K] {knd:KeyKind prog w K}{d:cD}{kvs:List (K×cw)}{ep:Nat}
theorem sT {Q:cv->cx->Prop}(hh:A.handled=none) (lo:(d==sysModules)=false) (hm:s.heap.DictAt knd d kvs ep) (hn:kvs.length<=sizeLine)
  (hQ:∀h' tk (acc:cv),(∀b o,s.heap.get? b=some o->h'.get? b=some o)->acc.length=kvs.length->(∀(j:Nat) v,acc[j]? =some v->∃k x,kvs[j]? =some (k,x)/\knd.is k v=true)->s.heap.objs.size<h'.objs.size->Q acc {s with heap:=h',toks:=tk}):wpAny (model prog w) A (collect (.ref d)) Q E s:=by
 unfold collect;refine aa (wpAny_runValue (codeAny_builtin PySem.F.entry_proto_collect ?_));rw[bX PySem.F.plain_proto_collect _];show wpAny _ A.in1 (newList []>>=λl=>again (.builtin "list.__iadd__" ⟨[l,.ref d],[]⟩)) _ _ s
 refine aa (bR ?_);refine aj ⟨plainId_quiet PySem.F.plain_list_iadd _,codeAny_builtin PySem.F.entry_list_iadd ?_⟩;rw[bX PySem.F.plain_list_iadd _];have hS:(s.heap.push {cls:=.type "list",data:=.seq ([]:cv).toArray}).get? s.heap.objs.size=some {cls:=.type "list",data:=.seq #[]}:=ay _ rfl;have fM:=hm.lt_size;show wpAny _ A.in1 (Builtin.List.listExtendWith (.ref s.heap.objs.size) (.ref d) (.ref s.heap.objs.size)) _ _ _;have key:=kdl_extend (A:=A) (s:={s with heap:=s.heap.push {cls:=.type "list",data:=.seq ([]:cv).toArray}}) (R:=λr s'=>∃h' tk lE c',r=.ok (.ret (.ref s.heap.objs.size))/\s'={s with heap:=h',toks:=tk}/\(∀b o,b≠s.heap.objs.size->(s.heap.push {cls:=.type "list",data:=.seq ([]:cv).toArray}).get? b=some o->h'.get? b=some o)/\h'.get? s.heap.objs.size=some {cls:=.type "list",dict:=none,data:=.seq lE c',slots:=#[]}/\ItemsOf (λi v=>∃k x,kvs[i]? =some (k,x)/\knd.is k v=true) lE kvs.length)
  (kdl_dict (knd:=knd) (kvs:=kvs) (ep:=ep) lo) hh (hm.push _) s.heap.objs.size (bw fM) (bw fM) (.ref s.heap.objs.size) 0 hS (λh' tk lE c' hk MG qO=>⟨h',tk,lE,c',rfl,rfl,hk,MG,qO⟩) hn
 have fin:∀(h':Heap) tk lE c',(∀b o,b≠s.heap.objs.size->(s.heap.push {cls:=.type "list",data:=.seq ([]:cv).toArray}).get? b=some o->h'.get? b=some o)->h'.get? s.heap.objs.size=some {cls:=.type "list",dict:=none,data:=.seq lE c',slots:=#[]}->ItemsOf (λi v=>∃k x,kvs[i]? =some (k,x)/\knd.is k v=true) lE kvs.length->Q lE.toList {s with heap:=h',toks:=tk}:=λh' tk lE c' hk MG qO=>
  hQ h' tk lE.toList (λb o e=>hk b o (aD (az e)) (ag _ e)) (by rw[aN];exact qO.1) (λj v e=>qO.2 j v (by rw[<-Array.getElem?_toList];exact e)) (az MG)
 refine bP key (λr s' hr=>?_) λe s' hr=>?_
 ·cases r with
  |done f=>
   obtain⟨h',tk,lE,c',e1,e2,e3,e4,e5⟩:=hr;cases e1;subst e2;exact aa (wpAny_load e4 (aj (fin h' tk lE c' e3 e4 e5)))
  |again c=>
   refine⟨hr.1,codeAny_mono hr.2 λr s' hr=>?_⟩
   obtain⟨h',tk,lE,c',e1,e2,e3,e4,e5⟩:=hr;cases e1;subst e2;exact aa (wpAny_load e4 (aj (fin h' tk lE c' e3 e4 e5)))
 ·obtain⟨h',tk,lE,c',e1,_⟩:=hr;cases e1
end
end L2
namespace L2
open PySem PySem.Spec PySem.W PySem.Calls PyProof.Rows
section
variable {prog:cz}{w:cA}{A:cB}{E:cg}{s:cx}{K:Type} [DecidableEq K] {knd:KeyKind prog w K}{d:cD}{kvs:List (K×cw)}{ep:Nat}
 {h₀:Heap}{L:cD}{m:cj}{news:ck}{f:cD}
theorem ML {Q:cg}(F:Fr h₀ L s.heap m) (N:News h₀ L s.heap news) (hh:A.handled=none) (lo:(d==sysModules)=false) (hm:s.heap.DictAt knd d kvs ep) (h2:2<=kvs.length) (DD:kvs.length<64)
  (h:∀(vs:cv) D kS e1 h' tk,vs.length=kvs.length->(∀(j:Nat) v,vs[j]? =some v->∃k x,kvs[j]? =some (k,x)/\knd.is k v=true)->Fr h₀ L h' m->News h₀ L h' ((kS,seqObj "list" #[] 0)::(D,seqObj "list" #[] e1)::news)->D<kS->(∀q∈news,q.1<D)->s.heap.objs.size<=D->
   KatKeys prog w A.in1.in1 h₀ L m kS (.ref f) (λks e s'=>wpAny (model prog w) A.in1.in1 (keyKind' (List.toArray ks)) (λκ HH=>(kas_sort vs.length).kasWp (kas_ask prog w A.in1.in1 κ ks) (λp s3=>KatFin h₀ L m kS D ks e e1 (p.toList.map λi=>vs.getD i Value.none) (λs4=>Q (.ref D) s4) s3) HH) (λ_ _=>False) s') vs [] 0 {s with heap:=h',toks:=tk}):
  wpAny (model prog w) A (call (.builtin "sorted") [.ref d] [(Str.ofString "key",.ref f)]) Q E s:=by
 refine call_function_entry_kw kind_sorted plain_sorted entry_sorted (ksk_s1 _ _) ?_;unfold Builtin.«sorted»;refine aa (m:=checkCount "sorted" 1 1 _) (aj ?_);refine aa (sT hh lo hm (by rw[bu];omega) λg tk vs keep hl hv hg=>?_)
 refine aa (wpAny_newList ?_ (by rw[bu];omega))
 have ED:(g.push (seqObj "list" vs.toArray 0)).get? g.objs.size=some (seqObj "list" vs.toArray 0):=ay _ rfl;have jv:∀b o,s.heap.get? b=some o->(g.push (seqObj "list" vs.toArray 0)).get? b=some o:=λb o q=>ag _ (keep b o q)
 have hL:L<s.heap.objs.size:=F.ns.lt;refine aa (bo (wpAny_call_entry_kw slot_list_sort ⟨_,ED,rfl⟩ entry_list_sort ?body (ksk_l1 _ _)))
 case body=>
  show wpAny (model prog w) A.in1.in1 (Builtin.«list.sort» ⟨[.ref g.objs.size],[(Str.ofString "key",.ref f)]⟩) _ _ _;rw[ksk_t1];refine kat_keyed (b:=false) (s:={s with heap:=g.push (seqObj "list" vs.toArray 0),toks:=tk}) (F.kept jv) (N.grown jv) ED (bw (bG hL hg)) (Heap.get?_none_of_le (aB F.above (bg (bG hL hg))))
   (λp hp=>aD (bG (az (N p hp).1) hg)) (by omega) (by omega) λkS e1 h' F' N' l0 l1=>?_
  refine kat_keys_mono (h vs g.objs.size kS e1 h' tk hl hv F' N' l0 (λq hq=>bG (az (N q hq).1) hg) (bg hg)) λks e s' iE hd=>?_
  have CN:ks.length=vs.length:=by simpa using iE
  refine bP hd (λκ HH hk=>?_) λ_ _ x=>x
  have er:∀{α:Type}(l:List α),katRev false l=l:=λ_=>rfl
  rw[er,er,kat_ask_eq CN];rw[kat_ask_eq CN]at hk;refine kas_wp_mono hk λp s3 DI=>?_
  rw[er];exact DI.mono λs4 hq=>⟨_,rfl,aj ⟨_,rfl,hq⟩⟩
end
end L2
namespace L2
open PySem PySem.Spec PySem.W PySem.Calls PyProof.Rows
section
variable {prog:cz}{w:cA}{A:cB}{E:cg}{s:cx}{f:cD}
theorem G7 {T:Heap}{a:cD}{v:cw}{tk:Nat}{Q:cg}(o1:T.get? a=some (seqObj "list" #[v] 0))
  (J8:∀g:Heap,(∀b o,b≠a->T.get? b=some o->g.get? b=some o)->wpAny (model prog w) A.in1 (call (.ref f) [v]) (λ_ s'=>∃h' CM,s'={s with heap:=h',toks:=CM}/\∀b o,g.get? b=some o->h'.get? b=some o) (λ_ _=>False) {s with heap:=g,toks:=tk})
  (h:∀h' c CM,h'.get? a=some (seqObj "list" #[v] c)->(∀b o,b≠a->T.get? b=some o->h'.get? b=some o)->Q .none {s with heap:=h',toks:=CM}):
  wpAny (model prog w) A (call (.builtin "list.sort") [.ref a] [(Str.ofString "key",.ref f)]) Q E {s with heap:=T,toks:=tk}:=by
 have ha:a<T.objs.size:=az o1;refine wpAny_call_entry_kw slot_list_sort ⟨_,o1,rfl⟩ entry_list_sort ?_ (ksk_l1 _ _);show wpAny (model prog w) A.in1 (Builtin.«list.sort» ⟨[.ref a],[(Str.ofString "key",.ref f)]⟩) _ _ _;rw[ksk_t1];unfold ksk_tree;refine aa (listItems_at o1 rfl (aa (listUpdate_at o1 rfl ?_ (hsz:=by show(1:Nat)<=_;rw[bu];decide) (hsz2:=bL _))))
 obtain⟨e1,uR⟩:∃e1,(T.update a (Obj.mapSeq λ_=>#[])).get? a=some (seqObj "list" #[] e1):=⟨_,get?_update_seq o1 (λ_=>#[])⟩
 refine aa (seqEpoch_at uR rfl (aa (wpAny_newTuple (aa (wpAny_newList (bo ?_))) (by show(1:Nat)<=_;rw[bu];decide))))
 have XN:∀b o,b≠a->T.get? b=some o->(((T.update a (Obj.mapSeq λ_=>#[])).push (seqObj "tuple" #[v] 0)).push (seqObj "list" #[] 0)).get? b=some o:=λb o hb e=>ag _ (ag _ ((bx _ _ (Ne.symm hb)).trans e))
 have oa:(((T.update a (Obj.mapSeq λ_=>#[])).push (seqObj "tuple" #[v] 0)).push (seqObj "list" #[] 0)).get? a=some (seqObj "list" #[] e1):=ag _ (ag _ uR)
 have ok:(((T.update a (Obj.mapSeq λ_=>#[])).push (seqObj "tuple" #[v] 0)).push (seqObj "list" #[] 0)).get? ((T.update a (Obj.mapSeq λ_=>#[])).push (seqObj "tuple" #[v] 0)).objs.size=some (seqObj "list" #[] 0):=ay _ rfl
 have XO:a≠((T.update a (Obj.mapSeq λ_=>#[])).push (seqObj "tuple" #[v] 0)).objs.size:=by rw[size_push',Heap.size_update];exact aD (Nat.lt_succ_of_lt ha)
 have XQ:T.objs.size<=((T.update a (Obj.mapSeq λ_=>#[])).push (seqObj "tuple" #[v] 0)).objs.size:=by rw[size_push',Heap.size_update];exact Nat.le_succ _
 show wpAny (model prog w) A.in1 (ksk_rest a (.ref f) false #[v] e1 (.ref ((T.update a (Obj.mapSeq λ_=>#[])).push (seqObj "tuple" #[v] 0)).objs.size)) _ _ {s with heap:=((T.update a (Obj.mapSeq λ_=>#[])).push (seqObj "tuple" #[v] 0)).push (seqObj "list" #[] 0),toks:=tk}
 generalize ((T.update a (Obj.mapSeq λ_=>#[])).push (seqObj "tuple" #[v] 0)).objs.size=kS at *
 generalize (((T.update a (Obj.mapSeq λ_=>#[])).push (seqObj "tuple" #[v] 0)).push (seqObj "list" #[] 0))=U at *
 unfold ksk_rest;refine aa (wpAny_rule ?_);rw[show(#[v]:Array cw)=[v].toArray from rfl,List.forIn_toArray,List.forIn_cons]
 refine aa (aa (aa (wpAny_attempt (bP (J8 U XN) (λk s' hk=>?_) λ_ _ x=>x.elim))))
 obtain⟨g,CM,rfl,kg⟩:=hk;dsimp only;have T9:=kg _ _ ok;refine aa (listUpdate_at T9 rfl (aj ?_) (hsz:=bL _) (hsz2:=by show(1:Nat)<=_;rw[bu];decide))
 dsimp only;rw[List.forIn_nil];refine aj ?_;obtain⟨c1,VL⟩:∃c,(g.update kS (Obj.mapSeq (·.push k))).get? kS=some (seqObj "list" #[k] c):=⟨_,get?_update_seq T9 (·.push k)⟩
 have XR:(g.update kS (Obj.mapSeq (·.push k))).get? a=some (seqObj "list" #[] e1):=(bx _ _ (Ne.symm XO)).trans (kg _ _ oa)
 have XS:∀b o,b≠a->T.get? b=some o->(g.update kS (Obj.mapSeq (·.push k))).get? b=some o:=λb o hb e=>(bx _ _ (bw (aw (az e) XQ))).trans (kg _ _ (XN b o hb e))
 show wpAny (model prog w) A.in1 (Builtin.List.listItems (.ref kS)>>=λkeys=>ksk_end a false #[v] e1 (.ref kS) keys) _ _ {s with heap:=g.update kS (Obj.mapSeq (·.push k)),toks:=CM}
 generalize g.update kS (Obj.mapSeq (·.push k))=G at VL XR XS
 refine aa (listItems_at VL rfl ?_);unfold ksk_end;dsimp only;have hsz:(#[v]:Array cw).size<2:=by show(1:Nat)<2;decide
 rw[if_pos hsz,if_pos hsz];simp only[aH,bD];refine aa (aj ?_);rw[StateT.run_pure];refine aa (aj ?_);unfold ksk_tail;dsimp only;have DE:((#[k]:Array cw).zip #[v]).map (·.2)=#[v]:=by apply Array.toList_inj.mp;simp
 rw[show(arrOf (SortSt.mk' general' ((#[k]:Array cw).zip #[v]) #[] 7 none))=(#[k]:Array cw).zip #[v]from rfl,DE]
 refine aa (listUpdate_at VL rfl ?_ (hsz:=by show(1:Nat)<=_;rw[bu];decide) (hsz2:=bL _))
 refine aa (wpAny_letGo ?_);have VM:(G.update kS (Obj.mapSeq λ_=>(#[]:Array cw))).get? a=some (seqObj "list" #[] e1):=(bx _ _ (Ne.symm XO)).trans XR
 have kp4:∀b o,b≠a->T.get? b=some o->(G.update kS (Obj.mapSeq λ_=>(#[]:Array cw))).get? b=some o:=λb o hb e=>(bx _ _ (bw (aw (az e) XQ))).trans (XS b o hb e)
 refine aa (seqEpoch_at VM rfl (aa (listUpdate_at VM rfl ?_ (hsz:=bL _) (hsz2:=by show(1:Nat)<=_;rw[bu];decide))))
 simp only[bne_self_eq_false,aH,bD];obtain⟨c,hc⟩:∃c,((G.update kS (Obj.mapSeq λ_=>(#[]:Array cw))).update a (Obj.mapSeq λ_=>#[v])).get? a=some (seqObj "list" #[v] c):=⟨_,get?_update_seq VM (λ_=>#[v])⟩
 exact aj ⟨_,rfl,h _ c CM hc λb o hb e=>(bx _ _ (Ne.symm hb)).trans (kp4 b o hb e)⟩
variable {K:Type} [DecidableEq K] {knd:KeyKind prog w K}{d:cD}{kvs:List (K×cw)}{ep:Nat}
theorem J9 {Q:cg}(hh:A.handled=none) (lo:(d==sysModules)=false) (hm:s.heap.DictAt knd d kvs ep) (h1:kvs.length=1)
  (J8:∀(g:Heap) tk v,(∃k x,kvs[0]? =some (k,x)/\knd.is k v=true)->(∀b o,s.heap.get? b=some o->g.get? b=some o)->wpAny (model prog w) A.in1.in1 (call (.ref f) [v]) (λ_ s'=>∃h' CM,s'={s with heap:=h',toks:=CM}/\∀b o,g.get? b=some o->h'.get? b=some o) (λ_ _=>False) {s with heap:=g,toks:=tk})
  (h:∀D v h' c tk,(∃k x,kvs[0]? =some (k,x)/\knd.is k v=true)->h'.get? D=some (seqObj "list" #[v] c)->s.heap.objs.size<=D->(∀b o,s.heap.get? b=some o->h'.get? b=some o)->Q (.ref D) {s with heap:=h',toks:=tk}):
  wpAny (model prog w) A (call (.builtin "sorted") [.ref d] [(Str.ofString "key",.ref f)]) Q E s:=by
 refine call_function_entry_kw kind_sorted plain_sorted entry_sorted (ksk_s1 _ _) ?_;unfold Builtin.«sorted»;refine aa (m:=checkCount "sorted" 1 1 _) (aj ?_);refine aa (sT hh lo hm (by rw[h1,bu];decide) λg tk vs keep hl hv hg=>?_)
 rw[h1]at hl;obtain⟨v,rfl⟩:∃v,vs=[v]:=by
  match vs,hl with
  |[v],_=>exact⟨v,rfl⟩
 have kv:=hv 0 v rfl;refine aa (wpAny_newList ?_ (by show(1:Nat)<=_;rw[bu];decide))
 have ED:(g.push (seqObj "list" #[v] 0)).get? g.objs.size=some (seqObj "list" #[v] 0):=ay _ rfl;refine aa (bo (G7 (A:=A.in1) (s:=s) (T:=g.push (seqObj "list" #[v] 0)) (tk:=tk) ED (λg' kp=>J8 g' tk v kv λb o e=>kp b o (aD (bG (az e) hg)) (ag _ (keep b o e))) λh' c CM hD kp=>?_))
 refine aj ⟨_,rfl,h _ v h' c CM kv hD (bg hg) λb o e=>kp b o ?_ (ag _ (keep b o e))⟩
 exact aD (bG (az e) hg)
end
end L2
namespace L2
open PySem PySem.Spec PySem.W PySem.Calls PyProof.Rows
theorem sU {i j:Int}{t u:Tok}{c:cw}:∀(l:cv),TriplesOk l->TriplesOk (l++[.int i t,.int j u,c])
 |[],_=>trivial
 |.int _ _::.int _ _::_::rest,h=>sU rest h
theorem uw {p q:Pos}(h1:p.line=q.line) (h2:p.col=q.col):∀l:cv,codeAmong p l=codeAmong q l:=λl=>by
 have key:∀(n:Nat) (l:cv),l.length<=n->codeAmong p l=codeAmong q l:=λn=>by
  induction n with
  |zero=>intro l hl;cases l with|nil=>rfl|cons _ _=>simp at hl
  |succ n ih=>
   intro l hl;unfold codeAmong;split
   ·rename_i line _ col _ c rest;rw[h1,h2,ih rest (by simp only[ax]at hl;omega)]
   ·rfl
 exact key l.length l (au _)
theorem Ka {p q:Pos}{x y:Str}{m n:Array cw}(h:xH p x++m=xH q y++n):p.line=q.line/\p.col=q.col/\x=y:=by
 have h0:=congrArg (λa:Array cw=>a.toList) h
 simp only[xH,Array.toList_append,List.cons_append,List.nil_append]at h0;injection h0 with a1 h1
 injection h1 with a2 h2
 injection h2 with a3 _
 injection a1 with b1 _
 injection a2 with b2 _
 injection a3 with b3 _
 exact⟨Int.ofNat.inj b1,Int.ofNat.inj b2,b3⟩
theorem sV {env:Env}{cell:cD}(h:env.cells.lookup (Str.ofString "uses")=some cell):closureFor my env=pure [(Str.ofString "uses",cell)]:=by
 unfold closureFor;simp only[my,List.forIn_cons,List.forIn_nil];have ec:cellOf env (Str.ofString "uses")=pure cell:=by unfold cellOf;rw[h]
 rw[ec];rfl
section
variable {X:Cx}{pins:ck}{σ:St}{H:Hp}{s:cx}{x:Str}{vm:Pos}{qual:Str}{c Pt cell:cD}{pa pu pp pS pU Ah pT:Pos}
structure Lam (X:Cx) (pins:ck) (σ:St) (H H2:Hp) (s2:cx) (f c' cell:cD) (qual:Str) (pa:Pos) (body:cE):Prop where
 inv:Inv X pins σ H2 s2
 new:H2=H\/∃u,H c'=none/\H2=upd H c' u
 fn:∃pm yd,s2.heap.get? f=some (kla_obj "<lambda>" qual (lH pa) body my [(Str.ofString "uses",cell)] pm c' yd)
 cd:s2.heap.CodeRec (.ref c') qual
 fl:f≠X.env.locals
theorem Kb {Q:cg}{E:cg}(I:Inv X pins σ H s) (hT:(x,vm,qual)∈va) (ht:tabIn X.K x=some (c,Pt)) (hq:X.env.qual++Str.ofString "<lambda>"=qual) (yV:X.env.code=.ref c) (t7:X.env.cells.lookup (Str.ofString "uses")=some cell)
  (h:∀H2 s2 f c',Lam X pins σ H H2 s2 f c' cell qual pa (jn pu pp pS pU Ah pT)->Q (.ref f) s2):
  wpAny (model X.prog X.w) X.A (eval (.Lambda (lH pa) (jn pu pp pS pU Ah pT) my vm) X.env) Q E s:=by
 obtain⟨⟨more,hP⟩,hC,hB⟩:=(I.ok.tb.un I.base) x c Pt vm qual hT ht;obtain⟨qs,e,tr,pos,XT,Td,eq,r⟩:=(show yx H s.heap Pt (xH vm qual++more)from I.gb Pt _ hP)
 obtain⟨z1,z2,z3⟩:=Ka eq;subst z3;have XU:CodeHd s.heap c Pt:=hC.keeps I.bk;have XW:s.heap.BuiltinsAt X.mg Pt:=let ⟨bm,ob,b1,b2,b3,b4,b5,b6⟩:=hB;⟨bm,ob,b1,b2,b3,b4,I.bk _ _ b5,b6⟩;have hG:s.heap.Ns mainGlobals X.mg:=I.mod.glob.keeps I.bk;have hgP:mainGlobals≠Pt:=λz=>by
  obtain⟨og,es,ep,eg,hd,_⟩:=hG;rw[z,e]at eg;cases eg;cases hd
 refine kla_eval rfl ?_;rw[hq];have XX:X.env.locals<s.heap.objs.size:=I.lt;rcases r with hn|⟨c',oc,vs,t,hf,q2,q3,q4⟩
 ·have XY:codeAmong vm qs.toList=none:=by rw[uw z1 z2];exact hn
  refine kla_makeFunction (sV t7) I.ok.glob hG yV XU e tr XY hgP XW λc' yd h' tk hx xG fM Iy TK=>?_
  obtain⟨c2,oc,vs,t,ec,QI,hd,hv⟩:=id Iy;cases ec;have hH:H c'=none:=I.gb.fresh xG;generalize XZ:kla_obj "<lambda>" qual (lH pa) (jn pu pp pS pU Ah pT) my [(Str.ofString "uses",cell)] ((X.mg "__name__").getD .none) c' yd=fo;have keep:∀b o,b≠Pt->s.heap.get? b=some o->(h'.push fo).get? b=some o:=λb o hb q=>ag _ (hx b o hb q)
  have nP:∀{b:cD},H b=none->b≠Pt:=λ{b} q z=>by rw[z,hP]at q;cases q
  refine h (upd H c' (.CH oc (.own 0))) _ _ c' ⟨?_,.inr ⟨_,hH,rfl⟩,⟨_,yd,by rw[XZ];exact ay _ (by rw[<-XZ];rfl)⟩,⟨c',oc,vs,t,rfl,ag _ QI,hd,hv⟩,bw (bG (aw XX xG) fM)⟩
  refine I.un (h':=h'.push fo) (t':=tk) ⟨λb o q n _ _=>keep b o (nP n) q,λb o q n _ _=>⟨o.slots,keep b o (nP n) q⟩,λb o q n _=>?_,λb o q _=>?_,λb xs q=>(cR (cV q hH)).trans q,λb o u q=>(cR (cV q hH)).trans q,λb ps q=>⟨#[],by rw[cR (cV q hH),q];simp⟩⟩ ?_
  ·rw[cR (aD (aw (az q) xG))];exact n
  ·by_cases hb:b=Pt
   ·subst hb;exact⟨_,ag _ TK⟩
   ·exact⟨o,keep b o hb q⟩
  ·intro b u q;by_cases hb:b=c'
   ·subst hb;rw[da]at q;cases q;exact⟨ag _ QI,oc,ag _ QI⟩
   ·rw[cR hb]at q;by_cases X0:b=Pt
    ·subst X0;rw[hP]at q;cases q;refine⟨_,ag _ TK,?_,pos,qual,Td,eq,.inr ⟨c',oc,vs,t,?_,da,hd,hv⟩⟩
     ·rw[Array.toList_append];exact sU _ tr
     ·rw[Array.toList_append,<-uw z1 z2];exact codeAmong_snoc _ tr XY
    ·refine(I.gb b u q).zv (λk v hk z=>keep k v ?_ z) (λk z=>(cR (cV z hH)).trans z) (λk xs z=>(cR (cV z hH)).trans z) λk ob u' z=>(cR (cV z hH)).trans z
     rcases hk with rfl|hk
     ·exact X0
     ·intro z;rw[z,hP]at hk;cases hk
 ·have hf':codeAmong vm qs.toList=some (.ref c'):=by rw[uw z1 z2];exact hf
  refine kla_makeFunctionHit (sV t7) I.ok.glob hG yV XU e tr hf' XW λyd h' tk hk hsz=>?_
  obtain⟨e1,_⟩:=I.gb c' _ q2;refine h H _ _ c' ⟨I.kept (t':=tk) λb o q=>ag _ (hk b o q),.inl rfl,⟨_,yd,ay _ rfl⟩,⟨c',oc,vs,t,rfl,ag _ (hk _ _ e1),q3,q4⟩,bw (aw XX hsz)⟩
end
end L2
namespace ST
open PySem PySem.Spec PySem.W PyProof.Rows DL L2
noncomputable def vJ (kvs:List (Int×Int)):List (Key×V):=kvs.map λkv=>(.inl kv.1,.int kv.2)
noncomputable def gU (kvs:List (Int×Int)):cm:=kvs.map λkv=>[-kv.2,kv.1]
structure yW (P:cz) (w:cA) (h:Heap) (f cell a:cD) (qual:Str) (pa:Pos) (body:cE) (D3:List (Key×cw)):Prop where
 fn:∃pm c' yd,h.get? f=some (kla_obj "<lambda>" qual (lH pa) body my [(Str.ofString "uses",cell)] pm c' yd)/\h.CodeRec (.ref c') qual
 lim:h.NoLimit
 cell:h.IsCell cell (some (.ref a))
 dict:h.DictOf (eT P w) a D3
theorem yW.keeps {P:cz}{w:cA}{h h':Heap}{f cell a:cD}{qual:Str}{pa:Pos}{body:cE}{D3:List (Key×cw)}(l:yW P w h f cell a qual pa body D3) (k:∀b o,h.get? b=some o->h'.get? b=some o):yW P w h' f cell a qual pa body D3 where
 fn:=let ⟨pm,c',yd,e,c2,oc,vs,t,z,e2,r⟩:=l.fn;⟨pm,c',yd,k _ _ e,c2,oc,vs,t,z,k _ _ e2,r⟩
 lim:=l.lim.keeps k
 cell:=l.cell.keeps k
 dict:=let ⟨o,es,ep,e,r⟩:=l.dict;⟨o,es,ep,k _ _ e,r⟩
noncomputable def ux:ck->cm->Prop:=Paired λp ns=>∃x y t u,p.2={cls:=.type "tuple",data:=.seq #[.int x t,.int y u]}/\ns=[x,y]
theorem ux.snoc:∀{l:ck}{nss:cm}{p:cD×Obj}{ns:cn},ux l nss->(∃x y t u,p.2={cls:=.type "tuple",data:=.seq #[.int x t,.int y u]}/\ns=[x,y])->ux (l++[p]) (nss++[ns])
 |_,_,_,_,.nil,h=>.cons h .nil
 |_,_,_,_,.cons r t,h=>.cons r (ux.snoc t h)
theorem ux.get:∀{l:ck}{nss:cm},ux l nss->∀(i:Nat) (ns:cn),nss[i]? =some ns->∃p,l[i]? =some p/\∃x y t u,p.2={cls:=.type "tuple",data:=.seq #[.int x t,.int y u]}/\ns=[x,y]
 |_,_,.nil,i,ns,h=>by simp at h
 |p::l,n::nss,.cons r t,0,ns,h=>by simp at h;subst h;exact⟨p,rfl,r⟩
 |p::l,n::nss,.cons r t,i+1,ns,h=>ux.get t i ns (by simpa using h)
theorem ux.length {l:ck}{nss:cm}(t:ux l nss):l.length=nss.length:=Paired.length t
section
variable {P:cz}{w:cA}{A:cB}{s:cx}{f cell a kS D:cD}{qual:Str}{pa pu pp pS pU Ah pT:Pos}{D3:List (Key×cw)}{h₀:Heap}{L:cD}{m:cj}{news:ck}{e1:Nat}{kvs:List (Int×Int)}
theorem BH {Fin:cv->Nat->cx->Prop}(i7:A.depth<recursionLimit) (VN:D<kS) (X1:∀q∈news,q.1<D)
  (stays:∀h' o1 o2 fN,Fr h₀ L h' m->News h₀ L h' ((kS,o1)::(D,o2)::(fN++news))->yW P w h' f cell a qual pa (jn pu pp pS pU Ah pT) D3)
  (DU:∀kv∈kvs,∃tn,valueAt D3 (.inl kv.1)=some (.int kv.2 tn))
  (fin:∀fN e h' tk,ux fN (gU kvs)->Fr h₀ L h' m->News h₀ L h' ((kS,seqObj "list" (List.toArray (fN.map λp=>Value.ref p.1)) e)::(D,seqObj "list" #[] e1)::(fN++news))->(∀p∈fN,kS<p.1)->Fin (fN.map λp=>Value.ref p.1) e {s with heap:=h',toks:=tk}):
  ∀(r done:List (Int×Int)) (vs:cv) (fN:ck) (e:Nat) (h':Heap) (tk:Nat),done++r=kvs->IntsAre vs (r.map (·.1))->ux fN (gU done)->Fr h₀ L h' m->
   News h₀ L h' ((kS,seqObj "list" (List.toArray (fN.map λp=>Value.ref p.1)) e)::(D,seqObj "list" #[] e1)::(fN++news))->(∀p∈fN,kS<p.1)->
   KatKeys P w A h₀ L m kS (.ref f) Fin vs (fN.map λp=>Value.ref p.1) e {s with heap:=h',toks:=tk}
 |[],done,vs,fN,e,h',tk,hd,hv,ht,F,N,hk=>by
  cases hv;rw[bB]at hd;subst hd;exact fin fN e h' tk ht F N hk
 |kv::r,done,vs,fN,e,h',tk,hd,hv,ht,F,N,hk=>by
  cases hv with
  |cons n t hv=>
   have la:=stays h' _ _ fN F N;obtain⟨pm,c',yd,hf,hc⟩:=la.fn;obtain⟨tn,Kc⟩:=DU kv (by rw[<-hd];simp)
   refine KatKeys.cons (BG (s:={s with heap:=h',toks:=tk}) i7 hf hc la.lim la.cell la.dict Kc λT h2 Ua QV hT ext xG=>?_)
   have hkS:kS<h'.objs.size:=az (N _ (.head _)).1;have hL:L<h'.objs.size:=F.ns.lt;have Xv:kS<T:=aw hkS xG;have N2:News h₀ L h2 ((kS,seqObj "list" (List.toArray (fN.map λp=>Value.ref p.1)) e)::(D,seqObj "list" #[] e1)::((fN++[(T,{cls:=.type "tuple",data:=.seq #[.int (-kv.2) QV,.int kv.1 t]})])++news)):=λp hp=>by
    have old:∀q∈((kS,seqObj "list" (List.toArray (fN.map λp=>Value.ref p.1)) e)::(D,seqObj "list" #[] e1)::(fN++news)),h2.get? q.1=some q.2/\q.1≠L/\h₀.get? q.1=none:=λq hq=>⟨ext _ _ (N q hq).1,(N q hq).2⟩
    rcases List.mem_cons.mp hp with rfl|hp
    ·exact old _ (.head _)
    rcases List.mem_cons.mp hp with rfl|hp
    ·exact old _ (.tail _ (.head _))
    rcases List.mem_append.mp hp with hp|hp
    ·rcases List.mem_append.mp hp with hp|hp
     ·exact old _ (.tail _ (.tail _ (bC _ hp)))
     ·rw[bt]at hp;subst hp;exact⟨hT,bw (aw hL xG),Heap.get?_none_of_le (aB F.above (bg (aw hL xG)))⟩
    ·exact old _ (.tail _ (.tail _ (aL _ hp)))
   have NH:∀p∈fN++[((T,{cls:=.type "tuple",data:=.seq #[.int (-kv.2) QV,.int kv.1 t]}):cD×Obj)],kS<p.1:=λp hp=>by
    rcases List.mem_append.mp hp with hp|hp
    ·exact hk p hp
    ·rw[bt]at hp;subst hp;exact Xv
   refine⟨_,_,F.keeps ext,N2,.head λp hp=>?_,λh3 c3 F3 N3=>?_⟩
   ·rcases List.mem_cons.mp hp with rfl|hp
    ·exact aD VN
    ·rcases List.mem_append.mp hp with hp|hp
     ·exact bw (NH p hp)
     ·exact aD (bG (X1 p hp) VN)
   ·have em:(fN.map λp=>Value.ref p.1)++[Value.ref T]=(fN++[((T,{cls:=.type "tuple",data:=.seq #[.int (-kv.2) QV,.int kv.1 t]}):cD×Obj)]).map λp=>Value.ref p.1:=by simp
    rw[em]at N3;show KatKeys P w A h₀ L m kS (.ref f) Fin _ ((fN.map λp=>Value.ref p.1)++[Value.ref T]) c3 {s with heap:=h3,toks:=Ua}
    rw[em];refine BH i7 VN X1 stays DU fin r (done++[kv]) _ _ c3 h3 Ua (by rw[<-hd];simp) hv ?_ F3 N3 NH
    show ux _ (gU (done++[kv]));unfold gU;rw[List.map_append];exact ux.snoc ht ⟨_,_,_,_,rfl,rfl⟩
end
end ST
namespace ST
open PySem PySem.Spec PySem.W PyProof.Rows DL L2
theorem wQ {κ:Type} [DecidableEq κ]:∀{kvs:List (κ×V)}{k:κ}{v:V},(kvs.map (·.1)).Nodup->(k,v)∈kvs->qU kvs k=some v
 |[],_,_,_,h=>by cases h
 |p::r,k,v,nd,h=>by
  rw[aE,List.nodup_cons]at nd;rcases List.mem_cons.mp h with rfl|h
  ·exact pQ rfl
  ·rw[pR λz=>nd.1 (by rw[z];exact List.mem_map_of_mem (f:=(·.1)) h)]
   exact wQ nd.2 h
theorem wR {α β:Type}{R:α->β->Prop}:∀{l:List α}{m:List β},Paired R l m->∀(i:Nat) (b:β),m[i]? =some b->∃a,l[i]? =some a/\R a b
 |_,_,.nil,i,b,h=>by simp at h
 |a::l,c::m,.cons r t,0,b,h=>by simp at h;subst h;exact⟨a,rfl,r⟩
 |a::l,c::m,.cons r t,i+1,b,h=>wR t i b (by simpa using h)
theorem uX:∀{vs:cv}{ns:cn},vs.length=ns.length->(∀(j:Nat) v,vs[j]? =some v->∃t,v=.int (ns.getD j 0) t)->IntsAre vs ns
 |[],[],_,_=>.nil
 |v::vs,n::ns,hl,h=>by
  obtain⟨t,e⟩:=h 0 v rfl;have e':v=.int n t:=by simpa using e
  subst e';exact .cons n t (uX (by simpa using hl) λj u hu=>by simpa using h (j+1) u (by simpa using hu))
 |[],_::_,hl,_=>by simp at hl
 |_::_,[],hl,_=>by simp at hl
theorem wU:∀{vs:cv}{ns:cn},IntsAre vs ns->∀i,i<ns.length->∃t,vs.getD i Value.none=.int (ns.getD i 0) t
 |_,_,.nil,i,h=>by simp at h
 |_,_,.cons n t r,0,h=>⟨t,rfl⟩
 |_,_,.cons n t r,i+1,h=>wU r i (by simpa using h)
section
variable {X:Cx}{pins:ck}{σ:L2.St}{H:Hp}{s:cx}{f cell a:cD}{qual:Str}{pa pu pp pS pU Ah pT:Pos}{kvs:List (Int×Int)}
theorem BI (hc:X.calm=true) (hu:X.A.units+64<cLine) (i7:X.A.in1.in1.depth<recursionLimit) (I:Inv X pins σ H s) (hH:H a=some (.dK (vJ kvs)))
  (Nd:∃pm c' yd,s.heap.get? f=some (kla_obj "<lambda>" qual (lH pa) (jn pu pp pS pU Ah pT) my [(Str.ofString "uses",cell)] pm c' yd)/\s.heap.CodeRec (.ref c') qual) (si:s.heap.IsCell cell (some (.ref a)))
  (h1:1<=kvs.length) (DD:kvs.length<64) {Q:VK}
  (q:∀(D0:cD) (l:cm),H D0=none->l.Perm (gU kvs)->l.Pairwise (λa b=>HT.lexLt b a=false)->Q (.ref D0) (upd H D0 (.lst (l.map λns=>V.int (ns.getD 1 0))))):
  wpAny (model X.prog X.w) X.A (call (.builtin "sorted") [.ref a] [(Str.ofString "key",.ref f)]) (EP X pins σ Q) X.xe s:=by
 obtain⟨z,lo,D3,rel,dd⟩:=NN I.gb hH;obtain⟨o,es,ep,ho,hex,hd,NO,Kd,Le⟩:=id dd;have X2:s.heap.DictAt (eT X.prog X.w) a D3 ep:=⟨o,es,ho,hex,hd,NO,Kd,Le⟩;have hlen:D3.length=kvs.length:=by rw[<-rel.length];unfold vJ;rw[ae]
 have hh:X.A.handled=none:=I.ok.hd hc;have la:yW X.prog X.w s.heap f cell a qual pa (jn pu pp pS pU Ah pT) D3:=⟨Nd,I.nolimit,si,dd⟩;have DU:∀kv∈kvs,∃tn,valueAt D3 (.inl kv.1)=some (.int kv.2 tn):=λkv Te=>by
  have e:qU (vJ kvs) (.inl kv.1)=some (.int kv.2):=wQ (by rw[rel.keys];exact Le) (List.mem_map.mpr ⟨kv,Te,rfl⟩)
  obtain⟨u,hw,tn,eu⟩:=pj.some_of (v:=.int kv.2) (o:=valueAt D3 (.inl kv.1)) (by rw[<-e];exact rel.val _)
  exact⟨tn,by rw[hw,eu]⟩
 have isInt:∀(j:Nat) v k x,D3[j]? =some (k,x)->(eT X.prog X.w).is k v=true->∃t,v=.int ((kvs.map (·.1)).getD j 0) t:=λj v k x hk hv=>by
  obtain⟨p,hp,e1,_⟩:=wR rel j (k,x) hk;unfold vJ at hp;rw[av]at hp;cases VO:kvs[j]? with
  |none=>rw[VO]at hp;cases hp
  |some kv=>
   rw[VO]at hp;cases hp;have e1':(Sum.inl kv.1:Key)=k:=e1;subst e1';obtain⟨t,e⟩:=Value.isInt_shape (k:=kv.1) (v:=v) hv;exact⟨t,by rw[e,ak,av,VO];rfl⟩
 have Qq:(gU kvs).length=kvs.length:=by unfold gU;rw[ae]
 have NP:∀i,i<kvs.length->∃kv,kvs[i]? =some kv/\(gU kvs)[i]? =some [-kv.2,kv.1]/\(gU kvs).getD i []=[-kv.2,kv.1]/\(kvs.map (·.1)).getD i 0=kv.1:=λi hi=>by
  refine⟨kvs[i],ah hi,?_,?_,?_⟩
  ·unfold gU;rw[av,ah hi];rfl
  ·unfold gU;rw[ak,av,ah hi];rfl
  ·rw[ak,av,ah hi];rfl
 by_cases h2:2<=kvs.length
 ·obtain⟨m,F⟩:=I.fr;have N:News X.base X.env.locals s.heap (jH X.base s.heap X.env.locals):=vQ;refine ML F N hh lo X2 (by omega) (by omega) λvs D0 kS e1 h' tk hl hv F' N' l0 l1 xG=>?_
  have Dm:s.heap.get? D0=none:=Heap.get?_none_of_le xG;have uS:∀{h':Heap}{o1 o2:Obj}{fN:ck},Fr X.base X.env.locals h' m->News X.base X.env.locals h' ((kS,o1)::(D0,o2)::(fN++jH X.base s.heap X.env.locals))->∀b o,b≠X.env.locals->s.heap.get? b=some o->h'.get? b=some o:=λ{h' o1 o2 fN} F' N' b o hb e=>by
   cases g:X.base.get? b with
   |some u=>
    have:=I.bk b u g;rw[e]at this;cases this;exact F'.keep b _ g
   |none=>exact(N' (b,o) (.tail _ (.tail _ (aL _ (mQ hb g e))))).1
  have VP:∀{b:cD}{o:Obj},s.heap.get? b=some o->(∀es ep,o.data≠.dict es ep)->b≠X.env.locals:=λ{b o} e nd zb=>by
   obtain⟨oL,es,ep,hL,Sd,_⟩:=F.ns;rw[zb,hL]at e;cases e;exact nd _ _ Sd
  have stays:∀h' o1 o2 fN,Fr X.base X.env.locals h' m->News X.base X.env.locals h' ((kS,o1)::(D0,o2)::(fN++jH X.base s.heap X.env.locals))->yW X.prog X.w h' f cell a qual pa (jn pu pp pS pU Ah pT) D3:=λh' o1 o2 fN F' N'=>by
   have rj:=uS F' N';obtain⟨pm,c',yd,e,c2,oc,vs2,t,zc,e2,r1,r2⟩:=Nd;refine⟨⟨pm,c',yd,rj _ _ (VP e λ_ _ z=>by cases z) e,c2,oc,vs2,t,zc,rj _ _ (VP e2 λ_ _ z=>by rw[r1]at z;cases z) e2,r1,r2⟩,I.ok.mod.nolimit.keeps F'.keep,?_,⟨o,es,ep,rj _ _ (λzz=>by rw[zz,I.free]at hH;cases hH) ho,hex,hd,NO,Kd,Le⟩⟩
   obtain⟨X3,e3,e4⟩:=si;exact⟨X3,rj _ _ (VP e3 λ_ _ z=>by rw[e4]at z;cases z) e3,e4⟩
  have hints:IntsAre vs (kvs.map (·.1)):=uX (by rw[ae];omega) λj v hj=>by
   obtain⟨k,x,hk,Lx⟩:=hv j v hj;exact isInt j v k x hk Lx
  refine BH (s:=s) (kvs:=kvs) (news:=jH X.base s.heap X.env.locals) (e1:=e1) i7 l0 l1 stays DU (λfN e h' tk ht F' N' hk=>?_) kvs [] vs [] 0 h' tk rfl hints .nil F' N' (λp hp=>by cases hp)
  have tl:fN.length=kvs.length:=by rw[ht.length,Qq]
  have wo:∀i,i<kvs.length->∃p,fN[i]? =some p/\(fN.map λp=>Value.ref p.1).getD i Value.none=.ref p.1/\TI h' (.ref p.1) ((gU kvs).getD i []):=λi hi=>by
   obtain⟨kv,_,ek,VQ,_⟩:=NP i hi;obtain⟨p,hp,x,y,t,u,ep,ens⟩:=ht.get i _ ek;refine⟨p,hp,by rw[ak,av,hp];rfl,p.1,p.2,[.int x t,.int y u],0,rfl,(N' p (.tail _ (.tail _ (bC _ (bh hp))))).1,by rw[ep],by rw[ep],?_⟩
   rw[VQ,ens];exact .cons x t (.cons y u .nil)
  refine NL (s:={s with heap:=h',toks:=tk}) (λv hv=>?_) λκ hκ=>?_
  ·obtain⟨p,hp,rfl⟩:=List.mem_map.mp hv;obtain⟨i,hi⟩:=bp hp;have hil:i<kvs.length:=by rw[<-tl];exact(List.getElem?_eq_some_iff.mp hi).1
   obtain⟨p',DR,_,ti⟩:=wo i hil;rw[hi]at DR;cases DR;exact⟨_,ti⟩
  rw[show vs.length=kvs.length by omega]
  have cmp:∀i j (R:Bool->cx->Prop),i<kvs.length->j<kvs.length->R (HT.lexLt ((gU kvs).getD i []) ((gU kvs).getD j [])) {s with heap:=h',toks:=tk}->kas_ask X.prog X.w X.A.in1.in1 κ (fN.map λp=>Value.ref p.1) i j R {s with heap:=h',toks:=tk}:=λi j R hi hj hR=>by
   obtain⟨p,_,ep,tp⟩:=wo i hi;obtain⟨p',_,N4,tp'⟩:=wo j hj;show wpAny _ _ (keyLt' _ ((fN.map λp=>Value.ref p.1).getD i Value.none) ((fN.map λp=>Value.ref p.1).getD j Value.none)) _ _ _
   rw[ep,N4];exact S9 tp tp' (by show X.A.units+1+1+8<cLine;omega) hκ hR
  refine So.qr (n:=kvs.length) cmp _ (So.wj (by omega)) ?_
  obtain⟨s1,s2⟩:=So.wa (lt:=λi j=>HT.lexLt ((gU kvs).getD i []) ((gU kvs).getD j [])) (rank:=λi=>qt (gU kvs) ((gU kvs).getD i [])) (λi j=>kc (lq _ _) (lq _ _)) kvs.length (by omega)
  generalize So.iG _ (kas_sort kvs.length)=ar at s1 s2;have pm:ar.toList.Perm (List.range kvs.length):=by simpa using Array.perm_iff_toList_perm.mp s1
  have below:∀i∈ar.toList,i<kvs.length:=λi hi=>by simpa using pm.mem_iff.mp hi
  generalize iE:(ar.toList.map λi=>(gU kvs).getD i [])=l'
  have lp:l'.Perm (gU kvs):=by
   rw[<-iE];have:=pm.map λi=>(gU kvs).getD i []
   have e:(List.range kvs.length).map (λi=>(gU kvs).getD i [])=gU kvs:=by rw[<-Qq];exact lZ (gU kvs) []
   rw[e]at this;exact this
  refine⟨_,_,F',N',.head λp hp=>?_,λh2 c F2 N2=>⟨_,_,F2,N2,.tail (bw l0) (.head λp hp=>?_),λh3 c3 F3 N3=>?_⟩⟩
  ·rcases List.mem_cons.mp hp with rfl|hp
   ·exact aD l0
   ·rcases List.mem_append.mp hp with hp|hp
    ·exact bw (hk p hp)
    ·exact aD (bG (l1 p hp) l0)
  ·rcases List.mem_append.mp hp with hp|hp
   ·exact bw (bG l0 (hk p hp))
   ·exact aD (l1 p hp)
  have hD:H D0=none:=I.gb.fresh xG;have jv:=uS F3 N3;have Sg:h3.get? D0=some {cls:=.type "list",data:=.seq (List.toArray (ar.toList.map λi=>vs.getD i Value.none)) c3}:=(N3 _ (.tail _ (.head _))).1
  refine⟨.ref D0,upd H D0 (.lst (l'.map λns=>V.int (ns.getD 1 0))),?_,rfl,q D0 l' hD lp ?_⟩
  ·show Inv X pins σ _ {s with heap:=h3,gens:=s.gens,drawn:=s.drawn,toks:=tk}
   refine I.step (g':=s.gens) (d':=s.drawn) (t':=tk) (ch:=[]) (λ_ z=>nomatch z) (λb o h1 _ _ e _=>jv b o h1 e) (λb o h1 _ _ e _=>⟨o.slots,jv b o h1 e⟩) (λb o _ e hn=>?_) (λb o _ e=>?_) (λb xs e=>?_) (λb o xs e=>?_) (λb ps e=>⟨#[],?_⟩) (λm' hm=>?_) (λb u e=>?_) I.bare
   ·rw[cR (λz=>by rw[z,Dm]at e;cases e)];exact hn
   ·by_cases hb:b=X.env.locals
    ·obtain⟨o',_,_,e',_⟩:=F3.ns;exact⟨o',by rw[hb];exact e'⟩
    ·exact⟨o,jv b o hb e⟩
   ·rw[cR (cV e hD)];exact e
   ·rw[cR (cV e hD)];exact e
   ·rw[cR (cV e hD),e];simp
   ·rw[DC hm F.ns];exact F3.ns
   ·by_cases hb:b=D0
    ·subst hb;rw[da]at e;cases e;refine⟨by rw[ae,lp.length_eq,Qq];exact bg (kb (by omega)),_,c3,?_,Sg⟩
     rw[<-iE,aV];have aux:∀k:List Nat,(∀i∈k,i<kvs.length)->Vals (k.map ((λns:cn=>V.int (ns.getD 1 0))∘λi=>(gU kvs).getD i [])) (k.map λi=>vs.getD i Value.none):=λk=>by
      induction k with
      |nil=>intro _;exact .nil
      |cons i k ih=>
       intro hb;obtain⟨kv,_,_,VQ,ek3⟩:=NP i (hb i af);obtain⟨t,et⟩:=wU hints i (by rw[ae];exact hb i af)
       refine .cons ?_ (ih λj hj=>hb j (ai _ hj))
       have ev:((λns:cn=>V.int (ns.getD 1 0))∘λi=>(gU kvs).getD i []) i=V.int kv.1:=by
        show V.int (((gU kvs).getD i []).getD 1 0)=_;rw[VQ];rfl
       have rv:RelV (V.int kv.1) (vs.getD i Value.none):=by rw[et,ek3];exact⟨t,rfl⟩
       rw[<-ev]at rv;exact rv
     exact aux ar.toList below
    ·rw[cR hb]at e;refine(I.gb b u e).zv (λk v hk z=>jv k v ?_ z) (λk z=>by rw[cR (cV z hD)];exact z) λk xs z=>by rw[cR (cV z hD)];exact z
     rcases hk with rfl|hk
     ·intro z;rw[z,I.free]at e;cases e
     ·intro z;rw[z,I.free]at hk;cases hk
  ·rw[<-iE,List.pairwise_map,List.pairwise_iff_getElem];intro i j hi hj vh;have sz:ar.size=kvs.length:=by simpa using s1.size_eq
   have xV:i<ar.size:=by simpa using hi
   have E1:j<ar.size:=by simpa using hj
   have le:=s2 i j (bg vh) (by omega)
   unfold So.kk at le;rw[aT,aT,aU xV,aU E1]at le;simp only[Option.getD_some]at le;have e:=kc (nss:=gU kvs) (a:=(gU kvs).getD (ar[j]) []) (b:=(gU kvs).getD (ar[i]) []) (lq _ _) (lq _ _);simp only[Array.getElem_toList];rw[e];exact aG (by omega)
 ·have Qd:kvs.length=1:=by omega
  obtain⟨kv,rfl⟩:∃kv,kvs=[kv]:=by
   match kvs,Qd with
   |[kv],_=>exact⟨kv,rfl⟩
  refine J9 hh lo X2 (by omega) (λg tk v hk ext=>?_) λD0 v h' c tk hk hD xG keep=>?_
  ·obtain⟨k,x,TZ,hv⟩:=hk;obtain⟨t,rfl⟩:=isInt 0 v k x TZ hv;have lg:=la.keeps ext;obtain⟨pm,c',yd,hf,se⟩:=lg.fn;obtain⟨tn,Kc⟩:=DU kv (by simp)
   exact BG (s:={s with heap:=g,toks:=tk}) (p:=kv.1) i7 hf se lg.lim lg.cell lg.dict Kc λT h2 Ua QV hT e2 xG=>⟨h2,Ua,rfl,e2⟩
  ·obtain⟨k,x,TZ,hv⟩:=hk;obtain⟨t,rfl⟩:=isInt 0 v k x TZ hv;have LX:H D0=none:=I.gb.fresh xG;exact⟨.ref D0,_,I.laid (t':=tk) (o:=.lst ([[-kv.2,kv.1]].map λns=>V.int (ns.getD 1 0))) keep xG ⟨by show(1:Nat)<=_;decide,[.int kv.1 t],c,.cons ⟨t,rfl⟩ .nil,hD⟩,rfl,q D0 [[-kv.2,kv.1]] LX (List.Perm.refl _) (by simp)⟩
end
end ST
namespace DL
open PySem PySem.Spec PyProof.Rows L2
open ST (vJ gU)
noncomputable def lA (kvs:List (Int×Int)):D:=.lst (kvs.map λkv=>.tup [.int kv.1,.int kv.2])
noncomputable def pairD:D->Option (Int×Int)
 |.tup [.int a,.int b]=>some (a,b)
 |_=>none
noncomputable def tabs:cu->Option (List (Int×Int))
 |[]=>some []
 |d::r=>(pairD d).bind λp=>(tabs r).map λl=>p::l
noncomputable def Ai:D->Option (List (Int×Int))
 |.lst ds=>tabs ds
 |_=>none
theorem BJ:∀kvs:List (Int×Int),tabs (kvs.map λkv=>D.tup [.int kv.1,.int kv.2])=some kvs
 |[]=>rfl
 |kv::r=>by
  show(pairD (.tup [.int kv.1,.int kv.2])).bind _=_;rw[show pairD (.tup [.int kv.1,.int kv.2])=some kv from rfl]
  simp only[ao];rw[BJ r];rfl
theorem Aj (kvs:List (Int×Int)):Ai (lA kvs)=some kvs:=BJ kvs
theorem BK {a b:List (Int×Int)}(h:lA a=lA b):a=b:=by
 have:=congrArg Ai h;rw[Aj,Aj]at this;exact aS this
theorem Ke {d:D}{p:Int×Int}(h:pairD d=some p):d=.tup [.int p.1,.int p.2]:=by
 unfold pairD at h;split at h
 ·cases h;rfl
 ·cases h
theorem Fn:∀{ds:cu}{kvs:List (Int×Int)},tabs ds=some kvs->ds=kvs.map λkv=>D.tup [.int kv.1,.int kv.2]
 |[],_,h=>by cases h;rfl
 |d::r,kvs,h=>by
  unfold tabs at h;cases h1:pairD d with
  |none=>rw[h1]at h;cases h
  |some p=>
   rw[h1]at h;simp only[ao]at h;cases h2:tabs r with
   |none=>rw[h2]at h;cases h
   |some l=>rw[h2]at h;cases h;rw[Fn h2,Ke h1];rfl
theorem Fo {k:D}{kvs:List (Int×Int)}(h:Ai k=some kvs):k=lA kvs:=by
 cases k with
 |lst ds=>exact congrArg D.lst (Fn h)
 |_=>cases h
@[reducible] noncomputable def eK (a:cD):Mem where
 cell:=some a
 face:=some a
 ok:=λC H=>C a=none/\∃kvs,H a=some (.dK kvs)
 has:=λ_ H k=>∀kvs,k=lA kvs->H a=some (.dK (vJ kvs))
 rel:=λC H C' H'=>(C a=none/\∃kvs,H a=some (.dK kvs))->C' a=none/\∀u,H a=some u->H' a=some u
 of0:=λ{C H C' H'} e ⟨hc,kvs,hk⟩=>⟨by
  cases q:C' a with
  |none=>rfl
  |some u=>rcases e.n a u q with z|z<;>simp_all,λu q=>e.h a u q⟩
 trans:=λ{C H C' H' C2 H2} r1 r2 ⟨hc,kvs,hk⟩=>by
  obtain⟨a1,a2⟩:=r1 ⟨hc,kvs,hk⟩;obtain⟨b1,b2⟩:=r2 ⟨a1,kvs,a2 _ hk⟩;exact⟨b1,λu q=>b2 u (a2 u q)⟩
 chg:=λ{C H C' H' b o} r hn ⟨hc,kvs,hk⟩=>by
  obtain⟨a1,a2⟩:=r ⟨hc,kvs,hk⟩;exact⟨a1,λu q=>by rw[cR (cV q hn)];exact a2 u q⟩
 give:=λ{C H C' H' b o} r hcb hb hx ⟨hc,kvs,hk⟩=>by
  obtain⟨a1,a2⟩:=r ⟨hc,kvs,hk⟩;have ja:a≠b:=λz=>by
   have:=a2 _ hk;rw[z,hb]at this;cases this;cases hx
  exact⟨by rw[cR ja];exact a1,a2⟩
 TR:=λr ⟨hc,kvs,hk⟩=>⟨(r ⟨hc,kvs,hk⟩).1,kvs,(r ⟨hc,kvs,hk⟩).2 _ hk⟩
 LY:=λr h hh kvs e=>(r h).2 _ (hh kvs e)
 RX:=λ{C H b o} ⟨hc,kvs,hk⟩ hb=>⟨hc,kvs,by rw[cR (λz=>by subst z;have:=hb _ hk;cases this)];exact hk⟩
 IF:=λ{C H b o k} ⟨hc,VR,hk⟩ hb hh kvs e=>by rw[cR (λz=>by subst z;have:=hb _ hk;cases this)];exact hh kvs e
 TU:=λ{C H b o} ⟨hc,kvs,hk⟩ hcb hb hx=>⟨by rw[cR (λz=>by subst z;rw[hk]at hb;cases hb;cases hx)];exact hc,kvs,hk⟩
 LZ:=λ_ _ _ _ hh=>hh
noncomputable def vK (i:Nat) (fr:bZ):bZ:=λδ=>if noOwn δ=true/\i<δ.length then(fr (δ.set i (.memo [lA []]))).bind (Js i)else none
section
variable {X:Cx}{e:cE}{es:List cE}{p pos pos':Pos}{x:Str}{a:cD}{C0 H0:Hp}{rest:List cF}
theorem Fp {C H C1 H1 C2 H2:Hp}(e1:pF C H C1 H1) (hn:H a=none) (e2:@Ev (eK a) C1 H1 C2 H2):pF C H C2 H2:=by
 letI:=eK a
 refine⟨e1.c.trans e2.c,λb o q=>?_,e2.s,λb u q=>?_⟩
 ·have hb:b≠a:=λz=>by subst z;rw[hn]at q;cases q
  exact e2.h b o (e1.h b o q) (.inl λz=>hb (aS z).symm)
 ·rcases e2.n b u q with z|z
  ·exact e1.n b u z
  ·exact .inr (e1.h.free z)
theorem Ak {B C0 H0 C H C2 H2:Hp}{δ δ':dO}{σ σ':L2.St}{i:Nat}(g:@Gd Mem.keep B C0 H0 δ σ C H) (hn:H a=none) (g2:@Gd (eK a) B C H δ' σ' C2 H2) (hm:pN (δ'.set i .no)=true):
  @Gd Mem.keep B C0 H0 (δ'.set i .no) σ' C2 H2:=by
 have e1:pF C0 H0 C H:=(@Gd.ev Mem.keep _ _ _ _ _ _ _ g).uQ;have e2:pF C0 H0 C2 H2:=Fp e1 (e1.h.free hn) (@Gd.ev (eK a) _ _ _ _ _ _ _ g2);have x2:=@Gd.x (eK a) _ _ _ _ _ _ _ g2;have own:∀{k:Nat}{ds:cu},(δ'.set i Sl.no)[k]? =some (.own ds)->δ'[k]? =some (.own ds):=λ{k ds} q=>by
  rcases getElem?_set_cases q with⟨_,z⟩|⟨_,z⟩
  ·cases z
  ·exact z
 letI:=Mem.keep
 refine⟨@Gd.b (eK a) _ _ _ _ _ _ _ g2,e2.up,⟨e2.s,λk d q=>?_,λk ds q=>@Sx.own (eK a) _ _ _ _ x2 k ds (own q),λk l ds es b q1 q2=>@Sx.zK (eK a) _ _ _ _ x2 k l ds es b (own q1) (own q2),by rw[List.length_set];exact @Sx.len (eK a) _ _ _ _ x2,λk ks q=>(yQ hm q).elim⟩,λk ds b q1 q2=>?_⟩
 ·rcases getElem?_set_cases q with⟨_,z⟩|⟨_,z⟩
  ·cases z
  ·exact @Sx.dat (eK a) _ _ _ _ x2 k d z
 ·exact e1.h.free (@Gd.fr (eK a) _ _ _ _ _ _ _ g2 k ds b (own q1) q2)
theorem D4 (i:Nat) {y:Str}{py pd:Pos}{fr:bZ}(hN:X.N.Nodup)
  (hr:∀(a:cD) (C1 H1:Hp),H1 a=none->@CK (eK a) X C1 H1 rest fr) (hi:X.N[i]? =some y:=by rfl) (hx:Loc X.env.scope y:=by first|exact Or.inl rfl|exact Or.inr rfl) (hs:swapsWith (.Dict [] [] pd) (some (.Name y py)) pos.line X.env=pure false:=by rfl) (hf:X.fn y=true\/X.env.scope.names.lookup y=some .local:=by first|exact .inl rfl|exact .inr rfl):
  @CK Mem.keep X C0 H0 (.Assign [.Name y py] (.Dict [] [] pd) pos::rest) (vK i fr):=λB=>by
 have ex:xK X rest (λDn σ H=>∃(a:cD) (C1 H1:Hp),H1 a=none/\@tS (eK a) B C1 H1 fr Dn σ H):=λpins s σ H Dn I ⟨a,C1,H1,hn,q⟩=>hr a C1 H1 hn B pins s σ H Dn I q
 refine(vT (CS hN hi hx (J6 (pos:=pd)) hs hf) ex).imp λDn σ H ⟨C,δ,r,gd,q,fin⟩=>?_
 unfold vK at q;split at q
 case isFalse=>cases q
 rename_i hc;obtain⟨JN,hlen⟩:=hc;cases LX:fr (δ.set i (.memo [lA []]))with
 |none=>rw[LX]at q;cases q
 |some r'=>
  rw[LX]at q;simp only[ao]at q;intro t ht;have x0:=@Gd.x Mem.keep _ _ _ _ _ _ _ gd;have sub:=@Sx.sub Mem.keep _ _ _ _ x0;have Xw:C t=none:=sub.free ht;have VS:dU C (upd H t (.dK [])):=sub.trans (eF ht);have e1:pF C0 H0 C H:=(@Gd.ev Mem.keep _ _ _ _ _ _ _ gd).uQ;have e0:pF C H C (upd H t (.dK [])):=.hU sub ht;have g1:@Gd (eK t) B C H (δ.set i (.memo [lA []])) (σ.set i (some (.ref t))) C (upd H t (.dK [])):=by
   letI:=eK t
   have hl:=@Sx.len Mem.keep _ _ _ _ x0;refine⟨@Gd.b Mem.keep _ _ _ _ _ _ _ gd,e0.up,⟨VS,λk d z=>?_,λk ds z=>?_,λk l ds es b z=>?_,by simp[hl],λk ks z=>?_⟩,λk ds b z=>?_⟩
   ·rcases getElem?_set_cases z with⟨_,z⟩|⟨hk,z⟩
    ·cases z
    ·obtain⟨v,h1,h2⟩:=@Sx.dat Mem.keep _ _ _ _ x0 k d z;exact⟨v,by rw[aF (Ne.symm hk)];exact h1,h2⟩
   ·rcases getElem?_set_cases z with⟨_,z⟩|⟨hk,z⟩
    ·cases z
    ·exact(wC JN z).elim
   ·rcases getElem?_set_cases z with⟨_,z⟩|⟨hk,z⟩
    ·cases z
    ·exact(wC JN z).elim
   ·rcases getElem?_set_cases z with⟨rfl,z'⟩|⟨hk,z⟩
    ·cases z';refine⟨t,rfl,by rw[bc (by rw[<-hl];exact hlen)],⟨Xw,[],da⟩,λk hk kvs e=>?_⟩
     rw[bt]at hk;subst hk;have:=BK e;subst this;exact da
    ·obtain⟨b,h1,_⟩:=@Sx.mem Mem.keep _ _ _ _ x0 k ks z;cases h1
   ·rcases getElem?_set_cases z with⟨_,z⟩|⟨hk,z⟩
    ·cases z
    ·exact(wC JN z).elim
  refine⟨t,C,H,ht,C,_,r',g1,LX,?_⟩;cases r' with
  |next δ'=>
   simp only[Js]at q;split at q
   ·rename_i hm;cases q;exact λσ' C2 H2 g2=>fin σ' C2 H2 (Ak gd ht g2 hm)
   ·cases q
  |ret d=>
   cases q;exact λv C2 H2 ev iv=>fin v C2 H2 (@pF.up _ _ _ _ Mem.keep (Fp e1 (e1.h.free ht) ev)) iv
  |brk δ'=>
   simp only[Js]at q;split at q
   ·rename_i hm;cases q;exact λσ' C2 H2 g2=>fin σ' C2 H2 (Ak gd ht g2 hm)
   ·cases q
  |cont δ'=>
   simp only[Js]at q;split at q
   ·rename_i hm;cases q;exact λσ' C2 H2 g2=>fin σ' C2 H2 (Ak gd ht g2 hm)
   ·cases q
theorem D5 (i:Nat) {y:Str}{py pd:Pos}{fr:bZ}(hN:X.N.Nodup)
  (hr:∀(a:cD) (C1 H1:Hp),H1 a=none->@vE (eK a) X C1 H1 rest fr) (hi:X.N[i]? =some y:=by rfl) (hx:Loc X.env.scope y:=by first|exact Or.inl rfl|exact Or.inr rfl) (hs:swapsWith (.Dict [] [] pd) (some (.Name y py)) pos.line X.env=pure false:=by rfl) (hf:X.fn y=true\/X.env.scope.names.lookup y=some .local:=by first|exact .inl rfl|exact .inr rfl):
  @vE Mem.keep X C0 H0 (.Assign [.Name y py] (.Dict [] [] pd) pos::rest) (vK i fr):=
 @vE.mk Mem.keep _ _ _ _ _ (D4 i hN (λa C1 H1 hn=>@vE.go (eK a) _ _ _ _ _ (hr a C1 H1 hn)) hi hx hs hf)
end
end DL
namespace DL
open PySem PySem.Spec PyProof.Rows L2
open ST (vJ gU)
noncomputable def D6 (kvs:List (Int×Int)) (p:Int):Int:=((kvs.find? λkv=>decide (kv.1=p)).map (·.2)).getD 0
noncomputable def nL (kvs:List (Int×Int)) (p:Int):List (Int×Int):=
 if(kvs.any λkv=>decide (kv.1=p))=true then kvs.map (λkv=>if kv.1=p then(kv.1,D6 kvs p+1)else kv)else kvs++[(p,D6 kvs p+1)]
theorem Qr (a b:Int):decide ((Sum.inl a:Key)=Sum.inl b)=decide (a=b):=by
 by_cases h:a=b
 ·subst h;simp
 ·rw[aG h,aG (λz=>h (Sum.inl.inj z))]
theorem Fq (p:Int):∀kvs:List (Int×Int),qU (vJ kvs) (.inl p)=((kvs.find? λkv=>decide (kv.1=p)).map (·.2)).map V.int
 |[]=>rfl
 |kv::r=>by
  have ih:=Fq p r;unfold vJ at ih ⊢;rw[aE,List.find?_cons];by_cases h:kv.1=p
  ·rw[pQ (by show(Sum.inl kv.1:Key)=_;rw[h]),aR h];rfl
  ·rw[pR (λz=>h (Sum.inl.inj z)),aG h,ih]
theorem MM (kvs:List (Int×Int)) (p:Int):(qU (vJ kvs) (.inl p)).getD (.int 0)=.int (D6 kvs p):=by
 rw[Fq];unfold D6;cases (kvs.find? λkv=>decide (kv.1=p))<;>rfl
theorem MN (kvs:List (Int×Int)) (p:Int):putK (vJ kvs) (.inl p) (.int (D6 kvs p+1))=vJ (nL kvs p):=by
 have ha:((vJ kvs).any λkv=>decide (kv.1=(Sum.inl p:Key)))=kvs.any λkv=>decide (kv.1=p):=by
  unfold vJ;rw[List.any_map]
  congr 1
  funext kv
  exact Qr kv.1 p
 unfold putK nL;rw[ha];split
 ·unfold vJ;rw[aV,aV];refine bS λkv _=>?_
  simp only[Function.comp_apply];by_cases h:kv.1=p
  ·rw[if_pos (by rw[h]),if_pos h]
  ·rw[if_neg (λz=>h (Sum.inl.inj z)),if_neg h]
 ·unfold vJ;rw[List.map_append];rfl
noncomputable def vL (i:Nat) (f:cb):bZ:=λδ=>match δ[i]?,f δ with
 |some (.memo [k]),some (.int p)=>(Ai k).bind λkvs=>if kvs.length<1000/\pN (δ.set i .no)=true then some (.next (δ.set i (.memo [lA (nL kvs p)])))else none
 |_,_=>none
section
variable {X:Cx}{o1 o2 k1 k2 e:cE}{p pos pos' apos eP pb pz Ub kp:Pos}{a:cD}{C0 H0:Hp}{i j j2:Nat}{f:cb}
theorem G8 (hn:H0 a=none) (hu:X.A.units+64<cLine) (uR:PE X o1 (jo i)) (Qd:@PD (eK a) X k1 f) (m:M2 X o1 "get" apos k1 (.Constant (.int 0) j pz) eP) (vf:PE X o2 (jo i)) (NH:@PD (eK a) X k2 f)
  (hs:swapsWith (.BinOp (.Call (.Attribute o1 "get" apos) [k1,.Constant (.int 0) j pz] [] eP) .Add (.Constant (.int 1) j2 Ub) pb) (some (.Subscript o2 k2 pos')) pos.line X.env=pure false:=by rfl):
  @PB (eK a) X C0 H0 (.Assign [.Subscript o2 k2 pos'] (.BinOp (.Call (.Attribute o1 "get" apos) [k1,.Constant (.int 0) j pz] [] eP) .Add (.Constant (.int 1) j2 Ub) pb) pos) (vL i f):=λB=>by
 letI:=eK a
 refine(MK (by omega) vf NH (Ni Ib (J7 (by omega) uR Qd CQ m) CQ) hs).imp λDn σ H ⟨C,δ,r,gd,q,fin⟩=>?_
 unfold vL at q;split at q
 case h_2=>cases q
 rename_i k p' hi hf;cases hk:Ai k with
 |none=>rw[hk]at q;cases q
 |some kvs=>
  rw[hk]at q;simp only[ao]at q;split at q
  case isFalse=>cases q
  rename_i hc;cases q;have ek:=Fo hk;have at_:∀{C' H':Hp},Gd B C0 H0 δ σ C' H'->σ[i]? =some (some (.ref a))/\C' a=none/\H' a=some (.dK (vJ kvs)):=λ{C' H'} g=>by
   obtain⟨a',z1,z2,z3,z4⟩:=g.x.mem i [k] hi;cases z1;exact⟨z2,z3.1,z4 k (by simp) kvs ek⟩
  have lt:kvs.length<sizeLine:=aw hc.1 (by decide)
  have lt':(vJ kvs).length<sizeLine:=by unfold vJ;rw[ae];exact lt
  refine⟨.ref a,(at_ gd).1,a,rfl,.inl ⟨_,.inl (at_ gd).2.2⟩,C,δ,.int p',gd.x,hf,λv1 C1 H1 e1 i1=>?_⟩
  have g1:=gd.Du e1;have v1e:v1=.int p':=by cases i1;rfl
  subst v1e;refine⟨qU (vJ kvs) (.inl p'),J3.k (k:=.inl p') (at_ g1).2.2,?_⟩;refine⟨D6 kvs p',1,MM kvs p',rfl,?_⟩;refine⟨.ref a,(at_ g1).1,C1,δ,.int p',g1.x,hf,λv2 C2 H2 e2 i2=>?_⟩
  have g2:=g1.Du e2;have v2e:v2=.int p':=by cases i2;rfl
  subst v2e;refine⟨a,upd H2 a (.dK (putK (vJ kvs) (.inl p') (.int (D6 kvs p'+1)))),rfl,J4.k (k:=.inl p') (at_ g2).2.2 lt',?_⟩;rw[MN];have hC:=(at_ g2).2.1;have hH:=(at_ g2).2.2;have xs:=g2.x;refine fin σ C2 _ ⟨g2.b,g2.ev.ET hn hC _,⟨λb u z=>?_,λn d z=>?_,λn ds z=>?_,λn l ds es b z1 z2=>?_,by rw[List.length_set];exact xs.len,λn ks z=>?_⟩,λn ds b z1 z2=>?_⟩
  ·rw[cR (λzz=>by rw[zz,hC]at z;cases z)];exact xs.sub b u z
  ·rcases getElem?_set_cases z with⟨_,z⟩|⟨_,z⟩
   ·cases z
   ·exact xs.dat n d z
  ·rcases getElem?_set_cases z with⟨_,z⟩|⟨_,z⟩
   ·cases z
   ·obtain⟨b,ys,y1,y2,y3,y4⟩:=xs.own n ds z;exact⟨b,ys,y1,y2,by rw[cR (λzz=>by rw[zz,hH]at y3;cases y3)];exact y3,y4⟩
  ·rcases getElem?_set_cases z1 with⟨_,z1⟩|⟨_,z1⟩
   ·cases z1
   rcases getElem?_set_cases z2 with⟨_,z2⟩|⟨_,z2⟩
   ·cases z2
   exact xs.zK n l ds es b z1 z2
  ·rcases getElem?_set_cases z with⟨rfl,z'⟩|⟨ja,z'⟩
   ·cases z';refine⟨a,rfl,(at_ g2).1,⟨hC,_,da⟩,λk' DI VR e'=>?_⟩
    rw[bt]at DI;subst DI;have:=BK e';subst this;exact da
   ·exact(yQ hc.2 (i:=n) (ds:=ks) (by rw[aF (Ne.symm ja)];exact z')).elim
  ·rcases getElem?_set_cases z1 with⟨_,z1⟩|⟨_,z1⟩
   ·cases z1
   ·exact g2.fr n ds b z1 z2
theorem G9 (hn:H0 a=none) (hu:X.A.units+64<cLine) (uR:PE X o1 (jo i)) (Qd:@WD (eK a) X k1 f) (vf:PE X o2 (jo i)) (NH:@WD (eK a) X k2 f) (m:M2 X o1 "get" apos k1 (.Constant (.int 0) j pz) eP:=by exact⟨rfl,rfl,rfl,rfl⟩)
  (hs:swapsWith (.BinOp (.Call (.Attribute o1 "get" apos) [k1,.Constant (.int 0) j pz] [] eP) .Add (.Constant (.int 1) j2 Ub) pb) (some (.Subscript o2 k2 pos')) pos.line X.env=pure false:=by rfl):
  @WB (eK a) X C0 H0 (.Assign [.Subscript o2 k2 pos'] (.BinOp (.Call (.Attribute o1 "get" apos) [k1,.Constant (.int 0) j pz] [] eP) .Add (.Constant (.int 1) j2 Ub) pb) pos) (vL i f):=by
 letI:=eK a
 exact⟨G8 hn hu uR Qd.go m vf NH.go hs⟩
noncomputable def qx (i:Nat):bY:=λδ=>match δ[i]? with
 |some (.memo [k])=>(Ai k).bind λkvs=>if 1<=kvs.length/\kvs.length<64 then some ((gM (gU kvs)).map λns=>.int (ns.getD 1 0))else none
 |_=>none
theorem BL {x qual:Str}{c Pt:cD}{vm pa pu pp pS pU Ah pT:Pos}(hc:X.calm=true) (hu:X.A.units+64<cLine) (i7:X.A.depth+5<recursionLimit) (hg:Gl X "sorted") (hm:X.mg "sorted"=none) (hN:X.N[i]? =some (Str.ofString "uses")) (hk:X.env.kindOf (Str.ofString "uses")=some .cell)
  (hT:(x,vm,qual)∈va) (ht:W.tabIn X.K x=some (c,Pt)) (hq:X.env.qual++Str.ofString "<lambda>"=qual) (yV:X.env.code=.ref c) (uR:PE X o1 (jo i))
  (he:backTo pos (starEach [o1] X.env)=(false,eval o1 X.env)::backTo pos (starEach [] X.env)):
  @PF (eK a) X (.Call (.Name "sorted" p) [o1] [⟨some "key",.Lambda (lH pa) (jn pu pp pS pU Ah pT) my vm,kp⟩] pos) (qx i):=by
 letI:=eK a
 intro pins s σ H Q I ⟨C,δ,ds,sx,q,k⟩;unfold qx at q;split at q
 case h_2=>cases q
 rename_i k' hi;cases Te:Ai k' with
 |none=>rw[Te]at q;cases q
 |some kvs=>
  rw[Te]at q;simp only[ao]at q;split at q
  case isFalse=>cases q
  rename_i hlen;cases q;obtain⟨a',z1,z2,z3,z4⟩:=sx.mem i [k'] hi;cases z1;have hH:H a=some (.dK (vJ kvs)):=z4 k' (by simp) kvs (Fo Te)
  obtain⟨cell,t7⟩:=I.ok.has (Str.ofString "uses") (.inl hk);refine wpAny_Call_Name_kw (oh I hg hm iJ ?_);refine callWith_kw ?_ he (by rw[he];rfl) rfl rfl
  rw[he];refine Calls.spliced_cons (gR (uR pins s σ H (λy H'=>y=.ref a/\H'=H) I ⟨.ref a,z2,rfl,rfl⟩) λu s1 ⟨y,H1,I1,r1,e1,e2⟩=>?_)
  subst e1 e2;obtain rfl:u=Value.ref a:=r1;refine Calls.spliced_nil ?_;refine kws_cons (Kb I1 hT ht hq yV t7 λH2 s2 f c' L=>kws_nil ?_)
  have RT:H2 a=some (.dK (vJ kvs)):=by
   rcases L.new with e|⟨u,hn,e⟩
   ·rw[e];exact hH
   ·rw[e,cR (cV hH hn)];exact hH
  have si:s2.heap.IsCell cell (some (.ref a)):=by
   obtain⟨m,hn,hl⟩:=L.inv.loc;obtain⟨u,r,lk⟩:=hl i (Str.ofString "uses") (.ref a) hN z2 (.inr (.inl hk));obtain rfl:u=Value.ref a:=r;rcases lk with⟨DI,_⟩|⟨_,c2,so,QJ⟩
   ·rw[hk]at DI;cases DI
   ·rw[t7]at so;cases so;exact QJ
  obtain⟨pm,yd,Nd⟩:=L.fn;refine ST.BI hc hu (by show X.A.depth<_;omega) L.inv RT ⟨pm,c',yd,Nd,L.cd⟩ si hlen.1 hlen.2 λD0 l hD lp pw=>?_
  have el:l=gM (gU kvs):=gn (λa b h1 h2=>HT.gL h2 h1) (lp.trans (fq _).symm) pw (sF _)
  have Uc:pF C H1 C H2:=by
   rcases L.new with e|⟨u,hn,e⟩
   ·rw[e];exact .refl sx.sub
   ·rw[e];exact .hU sx.sub hn
  have hD1:H1 D0=none:=Uc.h.free hD;have hv:l.map (λns=>V.int (ns.getD 1 0))=(l.map λns=>ns.getD 1 0).map V.int:=by rw[aV];rfl
  have hd:(gM (gU kvs)).map (λns=>D.int (ns.getD 1 0))=(l.map λns=>ns.getD 1 0).map D.int:=by rw[<-el,aV];rfl
  rw[hv];rw[hd]at k;exact k D0 _ C _ (Uc.trans (.hU Uc.s hD)).up hD1 (Uc.s.free hD) da (.ints _)
theorem BM {x qual:Str}{c Pt:cD}{vm pa pu pp pS pU Ah pT:Pos}(hc:X.calm=true) (hu:X.A.units+64<cLine) (i7:X.A.depth+5<recursionLimit) (hg:Gl X "sorted") (hm:X.mg "sorted"=none) (hN:X.N[i]? =some (Str.ofString "uses")) (hk:X.env.kindOf (Str.ofString "uses")=some .cell)
  (hT:(x,vm,qual)∈va) (ht:W.tabIn X.K x=some (c,Pt)) (hq:X.env.qual++Str.ofString "<lambda>"=qual) (yV:X.env.code=.ref c) (uR:PE X o1 (jo i))
  (he:backTo pos (starEach [o1] X.env)=(false,eval o1 X.env)::backTo pos (starEach [] X.env):=by rfl):
  @WF (eK a) X (.Call (.Name "sorted" p) [o1] [⟨some "key",.Lambda (lH pa) (jn pu pp pS pU Ah pT) my vm,kp⟩] pos) (qx i):=by
 letI:=eK a
 exact⟨BL hc hu i7 hg hm hN hk hT ht hq yV uR he⟩
end
end DL
namespace DL
open PySem PySem.Spec PyProof.Rows L2
theorem _root_.L2.gy.ten {k:Nat}{A:cB}(r:gy k A):A.depth+5<recursionLimit:=by have:=r.dp;omega
theorem Kf {K:W.Frag}{x:Str}{f c P:cD}{fd:cy}{oc:cw}{od:cp}{sl:cq}(a:W.nsIn K mainGlobals x=some (some (.ref f))) (l:K.lookup f=some ⟨oc,od,.func fd,sl⟩) (h:W.tabIn K x=some (c,P)):fd.code=.ref c:=by
 unfold W.tabIn at h;rw[a]at h;simp only[l]at h;split at h
 ·rename_i c' hc;split at h
  ·split at h
   ·cases h;exact hc
   ·cases h
  ·cases h
 ·cases h
theorem MO {P:cz}{w:cA}{K:W.Frag}{mg:cj}{base:Heap}{x qual:Str}{st:cF}{f:cD}{fd:cy}{N ps:List Str}{k:Nat}(F:lS K x qual st f fd) (S:du N ps (cK st)) {fb:bZ}
  (kP:∀(A:cB) (outer:List Env) (s:cx) (H:Hp) (E:XK),gy k (A.deeper (envOfC qual (cK st) s.heap.objs.size f fd.code))->∀C0 H0,@vE Mem.keep (rN jb P w K mg base N qual (cK st) f fd.code A outer s H E).EE C0 H0 (dh st) fb):
  eA P w K mg base jb (k+1) f fd ps (nC (gi N.length ps.length fb)):=by
 have key:∀fO,fd.code=fO->∀(A:cB) (outer:List Env) (s:cx) (H:Hp) (E:XK),gy k (A.deeper (envOfC qual (cK st) s.heap.objs.size f fO))->∀C0 H0,@vE Mem.keep (rN jb P w K mg base N qual (cK st) f fO A outer s H E).EE C0 H0 (dh st) fb:=λfO e=>by
  subst e;exact kP
 obtain⟨oc,od,kV,doc,pm,an,fO,ct,LD,rfl,lk,vd⟩:=id F.ex;have key:=key fO rfl;letI:Mem:=Mem.keep
 refine Nk lk vd S (λvs H Q E h=>?_) λA outer s H vs Q E hr h=>?_
 ·obtain⟨C,ds,d,_,i,q,_⟩:=h;unfold gi at q;split at q
  ·rename_i hl;rw[i.length];exact hl
  ·cases q
 ·have F':∃t,xK (rN jb P w K mg base N qual (cK st) f fO A outer s H E).EE (dh st) t/\t {nx:=λ_ H'=>Q .eU H',rt:=Q} (start N vs) H:=by
   obtain⟨C,ds,d,sub,i,q,k⟩:=h;refine⟨tS C C H fb,@vE.go Mem.keep _ _ _ _ _ (key A outer s H E hr C H) C,?_⟩;unfold gi at q;split at q
   case isFalse=>cases q
   rename_i hl;have hN:ps.length<=N.length:=by have:=S.pre;rw[<-this,bJ];omega
   have sx:Sx (ds.map Sl.dat++List.replicate (N.length-ps.length) Sl.no) (L2.start N vs) C H:=by
    have lv:=i.length;refine⟨sub,λn d e=>?_,λn es e=>?_,λn m es fs a e=>?_,?_,λn ks e=>?_⟩
    ·by_cases hn:n<ds.length
     ·rw[aJ (by simpa using hn),av]at e
      cases hd:ds[n]? with
      |none=>rw[hd]at e;cases e
      |some d'=>
       rw[hd]at e;cases e;obtain⟨v,h1,h2⟩:=i.get hd;refine⟨v,?_,h2⟩;unfold L2.start;rw[aJ (by rw[ae,lv];exact hn),av,h1];rfl
     ·rw[aP (by rw[ae];omega),bf]at e
      split at e<;>cases e
    ·by_cases hn:n<ds.length
     ·rw[aJ (by simpa using hn),av]at e
      cases hd:ds[n]? with
      |none=>rw[hd]at e;cases e
      |some d'=>rw[hd]at e;cases e
     ·rw[aP (by rw[ae];omega),bf]at e
      split at e<;>cases e
    ·by_cases hn:n<ds.length
     ·rw[aJ (by simpa using hn),av]at e
      cases hd:ds[n]? with
      |none=>rw[hd]at e;cases e
      |some d'=>rw[hd]at e;cases e
     ·rw[aP (by rw[ae];omega),bf]at e
      split at e<;>cases e
    ·unfold L2.start;simp only[aQ,ae,List.length_replicate];omega
    ·by_cases hn:n<ds.length
     ·rw[aJ (by simpa using hn),av]at e
      cases hd:ds[n]? with
      |none=>rw[hd]at e;cases e
      |some d'=>rw[hd]at e;cases e
     ·rw[aP (by rw[ae];omega),bf]at e
      split at e<;>cases e
   have gd:Gd C C H (ds.map Sl.dat++List.replicate (N.length-ps.length) Sl.no) (L2.start N vs) C H:=⟨dU.refl _,.refl sub,sx,λn es a e _=>by
    obtain⟨a',xs,h1,h2,h3,_⟩:=sx.own n es e;exfalso;by_cases hn:n<ds.length
    ·rw[aJ (by simpa using hn),av]at e
     cases hd:ds[n]? with
     |none=>rw[hd]at e;cases e
     |some d'=>rw[hd]at e;cases e
    ·rw[aP (by rw[ae];omega),bf]at e
     split at e<;>cases e⟩
   split at q
   ·rename_i d' hf;cases q;exact⟨C,_,_,gd,hf,λv C' H' ev i'=>k v C' H' ev.uQ i'⟩
   ·rename_i δ' hf;cases q;exact⟨C,_,_,gd,hf,λσ' C' H' g'=>k .eU C' H' g'.ev.uQ .eU⟩
   ·cases q
  obtain⟨t,ht,q⟩:=F';exact⟨t,ht.EE,q⟩
end DL
namespace DL
open PySem PySem.Spec PyProof.Rows L2
noncomputable def pV (f:cb):bY:=λδ=>match f δ with
 |some (.lst ds)=>if ds.length<=18 then(lY ds).map λnss=>(gM nss.eraseDups).map tupI else none
 |_=>none
theorem BN {a b:cn}(h:tupI a=tupI b):a=b:=by
 have h':a.map D.int=b.map D.int:=by injection h
 have:=congrArg (List.map λd=>match d with|D.int i=>i|_=>0) h'
 simpa [aV,Function.comp_def]using this
theorem mB:∀(n:Nat) (l:cm),l.length<=n->l.eraseDups.Nodup
 |0,l,h=>by
  have:l=[]:=List.length_eq_zero_iff.mp (by omega)
  subst this;exact List.nodup_nil
 |n+1,[],_=>List.nodup_nil
 |n+1,a::l,h=>by
  rw[List.eraseDups_cons];have hl:=aW (λb=> !b==a) l
  refine List.nodup_cons.mpr ⟨λhm=>?_,mB n _ (by simp at h;omega)⟩
  have:=List.mem_filter.mp (List.mem_eraseDups.mp hm);simp at this
section
variable [Mem] {X:Cx}{e:cE}{f:cb}{p p2 pos eP:Pos}
theorem D7 (hc:X.calm=true) (hu:X.A.units+64<cLine) (Qs:Gl X "sorted") (Bg:X.mg "sorted"=none) (Qt:Gl X "set") (vA:X.mg "set"=none) (ha:PO X e f)
  (Fe:starEach [.Call (.Name "set" p2) [e] [] eP] X.env=(false,eval (.Call (.Name "set" p2) [e] [] eP) X.env)::starEach [] X.env:=by exact eL rfl) (HG:starEach [e] X.env=(false,eval e X.env)::starEach [] X.env:=by exact eL rfl):
  PF X (.Call (.Name "sorted" p) [.Call (.Name "set" p2) [e] [] eP] [] pos) (pV f):=by
 intro pins s σ H Q I ⟨C,δ,ds,x,q,k⟩;unfold pV at q;split at q
 case h_2=>cases q
 rename_i VT hf;split at q
 case isFalse=>cases q
 rename_i VU;cases hn:lY VT with
 |none=>rw[hn]at q;cases q
 |some nss=>
  rw[hn]at q;cases q;have ee:=uq hn;subst ee;refine wpAny_Call_Name_kw (oh I Qs Bg iJ ?_);refine PyProof.Rows.callWith_builtin1 ?_ Fe rfl;rw[Fe];show wpAny _ _ (spliced ((false,eval (.Call (.Name "set" p2) [e] [] eP) X.env)::backTo pos (starEach [] X.env))) _ _ s;refine Calls.spliced_cons ?_;refine wpAny_Call_Name_kw (oh I Qt vA PyProof.Rows.boot_set ?_);refine PyProof.Rows.callWith_type1 (gR ((qm ha ua HG) eP pins s σ H (λvs H1=>∃v C1,vs=[v]/\Ev C H C1 H1/\sf C1 H1 v (.lst (nss.map tupI))) I ⟨C,δ,_,x,hf,λv C1 H1 ev iv=>⟨v,C1,rfl,ev,iv⟩⟩) λus s1 ⟨vs,H1,I1,r1,v,C1,e1,ev,iv⟩=>?_) HG rfl
  subst e1;obtain⟨u,rfl,ru⟩:=r1.one;obtain⟨a,xs,rfl,hq,hl⟩:=iv.list (K:=X.K) ev.s;cases ru;obtain⟨dz,rv,pl,hz⟩:=I1.list hq;have hlx:xs.length=nss.length:=by rw[hl.length,ae]
  have JQ:dz.length=nss.length:=by rw[<-rv.length,hlx]
  rw[ae]at VU;have itemAt:∀(i:Nat) (w:cw),dz[i]? =some w->∃(b:cD) (ns:cn),nss[i]? =some ns/\w=.ref b/\jk X.K H1 b (ns.map V.int)/\Is C1 (.ref b) (tupI ns)/\ST.TI s1.heap w ns:=λi w hw=>by
   have hi:i<nss.length:=by rw[<-JQ];exact(List.getElem?_eq_some_iff.mp hw).1
   have CI:nss[i]? =some nss[i]:=ah hi;obtain⟨v,hv,isv⟩:=hl.get (i:=i) (d:=tupI nss[i]) (by rw[av,CI];rfl)
   obtain⟨w',QW,LN⟩:=rv.get hv;rw[hw]at QW;cases QW;cases isv with
   |@tup b ys _ hb l=>
    have ey:=l.jm;subst ey;cases LN;have X4:jk X.K H1 b (nss[i].map V.int):=jk.of (ev.s _ _ hb);obtain⟨ts,r2,⟨o,ho,se,n,hd⟩,_⟩:=I1.tuple X4;exact⟨b,nss[i],CI,rfl,X4,.tup hb l,b,o,ts,n,rfl,ho,se,hd,intsAre_of r2⟩
  have hh:X.A.handled=none:=I1.ok.hd hc;refine ST.ya (val:=nss.map tupI) hh (by omega) pl.isList (by rw[aq,ae];exact JQ) (λi w hw=>?_) (by rw[aq];omega) λh' tk NK=>?_
  ·obtain⟨b,ns,h1,h2,h3,h4,h5⟩:=itemAt i w (by simpa using hw)
   have eg:(nss.map tupI).getD i .eU=tupI ns:=by rw[ak,av,h1];rfl
   rw[eg];refine⟨⟨b,h2⟩,?_,h5.ki⟩;unfold tupI dW;have:∀l:cn,jg (l.map D.int)=0:=λl=>by
    induction l with
    |nil=>unfold jg;rfl
    |cons a l ih=>rw[aE];unfold jg dW;rw[ih];rfl
   rw[this];decide
  ·obtain⟨⟨EU,qN,BB⟩,keep⟩:=NK;have I2:Inv X pins σ H1 {s1 with heap:=h',toks:=tk}:=I1.kept (t':=tk) λb o eo=>keep b o (az eo) eo
   have JV:EU.length<=nss.length:=by
    have:=bW (l₂:=nss.map tupI) qN.nd λd hd=>(BB d).mp hd
    rwa [ae]at this
   refine Calls.spliced_nil ?_;refine ST.D1 (s:={s1 with heap:=h',toks:=tk}) (R0:=λb ns=>Is C1 (.ref b) (tupI ns)) hc hu I2 qN (by omega) (λw hw=>?_) λD0 l hD hR hpw Fc=>?_
   ·obtain⟨i,hi⟩:=bp (show w∈dz by simpa using hw)
    obtain⟨b,ns,_,h2,h3,h4,_⟩:=itemAt i w hi;exact⟨b,ns,h2,h3,h4⟩
   ·have nd2:(l.map (·.2)).Nodup:=by
     have h1:((l.map (·.2)).map tupI).Nodup:=by rw[aV];exact Fc.nodup_iff.mpr qN.nd
     exact(List.pairwise_map.mp h1).imp λja z=>ja (by rw[z])
    have X5:(l.map (·.2)).Perm nss.eraseDups:=by
     refine(List.perm_ext_iff_of_nodup nd2 (mB _ nss (au _))).mpr λns=>?_
     rw[List.mem_eraseDups];have h1:tupI ns∈EU↔ns∈l.map (·.2):=by
      rw[<-Fc.mem_iff,List.mem_map,List.mem_map];constructor
      ·rintro⟨p',DR,e'⟩;exact⟨p',DR,BN e'⟩
      ·rintro⟨p',DR,rfl⟩;exact⟨p',DR,rfl⟩
     rw[<-h1,BB,List.mem_map];constructor
     ·rintro⟨m',Jf,e'⟩;rw[<-BN e'];exact Jf
     ·intro Jf;exact⟨ns,Jf,rfl⟩
    have es:l.map (·.2)=gM nss.eraseDups:=gn (λa b h1 h2=>HT.gL h2 h1) (X5.trans (fq _).symm) hpw (sF _)
    refine k D0 _ C1 _ (ev.trans (.hU ev.s hD)) (ev.free hD) (ev.s.free hD) da ?_;show IsL C1 _ ((gM nss.eraseDups).map tupI);rw[<-es,aV];have aux:∀l:List (cD×cn),(∀p∈l,Is C1 (.ref p.1) (tupI p.2))->IsL C1 (l.map λp=>V.ref p.1) (l.map (tupI∘λp=>p.2)):=λl=>by
     induction l with
     |nil=>intro _;exact .nil
     |cons p l ih=>intro h;exact .cons (h p af) (ih λq hq=>h q (ai _ hq))
    exact aux l hR
theorem D8 (hc:X.calm=true) (hu:X.A.units+64<cLine) (Qs:Gl X "sorted") (Bg:X.mg "sorted"=none) (Qt:Gl X "set") (vA:X.mg "set"=none) (ha:WO X e f)
  (Fe:starEach [.Call (.Name "set" p2) [e] [] eP] X.env=(false,eval (.Call (.Name "set" p2) [e] [] eP) X.env)::starEach [] X.env:=by exact eL rfl) (HG:starEach [e] X.env=(false,eval e X.env)::starEach [] X.env:=by exact eL rfl):
  WF X (.Call (.Name "sorted" p) [.Call (.Name "set" p2) [e] [] eP] [] pos) (pV f):=⟨D7 hc hu Qs Bg Qt vA ha.go Fe HG⟩
end
end DL
namespace LW
open PySem DL
open L2 (j9 qX)
theorem Am {xs rest:cu}{ns:cn}(p:(xs++rest).Perm (ns.map D.int)):∃ms rs:cn,xs=ms.map D.int/\rest=rs.map D.int/\(ms++rs).Perm ns:=by
 have all:∀x∈xs++rest,∃i,x=D.int i:=λx hx=>by
  have:=p.mem_iff.mp hx;obtain⟨i,_,e⟩:=List.mem_map.mp this;exact⟨i,e.symm⟩
 have ex:∀l:cu,(∀x∈l,∃i,x=D.int i)->∃ms:cn,l=ms.map D.int:=by
  intro l;induction l with
  |nil=>intro _;exact⟨[],rfl⟩
  |cons a l ih=>
   intro h;obtain⟨i,rfl⟩:=h a af;obtain⟨ms,rfl⟩:=ih λx hx=>h x (ai _ hx)
   exact⟨i::ms,rfl⟩
 obtain⟨ms,e1⟩:=ex xs λx hx=>all x (bC _ hx)
 obtain⟨rs,e2⟩:=ex rest λx hx=>all x (aL _ hx)
 refine⟨ms,rs,e1,e2,?_⟩;subst e1 e2
 let g:D->Int:=λd=>match d with|.int i=>i|_=>0
 have hg:∀l:cn,(l.map D.int).map g=l:=λl=>by rw[aV];exact List.map_id _
 have q:=p.map g;rw[hg,List.map_append,hg,hg]at q;exact q
structure uy (many:Int) (l:cn):Prop where
 ne:l≠[]
 four:l.length<=4
 rise:l.Pairwise (·< ·)
 VV:∀p∈l,0<=p/\p<many
theorem kf {ns:cn}(h:ns.Nodup):(sortI ns).Pairwise (·< ·):=by
 have h1:=lX ns;have h2:(sortI ns).Nodup:=(sortI_perm ns).nodup_iff.mpr h;have:=List.Pairwise.and h1 h2;exact this.imp λ{a b} ⟨x,y⟩=>by omega
theorem An {ns:cn}(h:ns.length<64):jK [.lst (ns.map D.int)]=some ((sortI ns).map D.int):=by
 simp only[jK,ae,if_pos h,fP]
theorem yX:∀(a b:cn),lh (a.map D.int) (b.map D.int)=decide (a=b)
 |[],[]=>by unfold lh;simp
 |[],_::_=>by unfold lh;simp
 |_::_,[]=>by unfold lh;simp
 |x::a,y::b=>by
  show lh (.int x::a.map D.int) (.int y::b.map D.int)=_;unfold lh dP;rw[yX a b];by_cases h1:x=y<;>by_cases h2:a=b<;>simp[h1,h2]
theorem BO (a b:cn):dP (tupI a) (tupI b)=decide (a=b):=by
 unfold tupI;unfold dP;exact yX a b
theorem uz (a:cn) (nss:cm):memD (tupI a) (nss.map tupI)=decide (a∈nss):=by
 unfold memD;rw[List.any_map];induction nss with
 |nil=>simp
 |cons b r ih=>
  rw[bF,ih];simp only[Function.comp_apply,BO];by_cases h1:b=a
  ·simp[h1]
  ·have:¬ a=b:=λz=>h1 z.symm
   simp[h1,this]
theorem qy:∀ns:cn,jg (ns.map D.int)=0
 |[]=>by unfold jg;rfl
 |n::r=>by
  show jg (.int n::r.map D.int)=0;unfold jg dW;rw[qy r];rfl
theorem BP (ns:cn):dW (tupI ns)=1:=by
 unfold tupI dW;rw[qy]
theorem qz:∀nss:cm,jg (nss.map tupI)<=1
 |[]=>by show jg []<=1;unfold jg;omega
 |n::r=>by
  show jg (tupI n::r.map tupI)<=1;unfold jg;rw[BP];have:=qz r;omega
structure Fs (least most mx many:Int) (ls:cm):Prop where
 lo:least<=many
 hi:many<=most
 num:(ls.length:Int)<=mx
 rise:ls.Pairwise (λa b=>HT.lexLt a b=true)
 line:∀l∈ls,uy many l
noncomputable def Kg (ls:cm):D:=.tup (ls.map tupI)
noncomputable def eW (many:Int) (ls:cm):D:=.tup [.int many,Kg ls]
theorem wV {nss:cm}(h:nss≠[]):intsOf (nss.map tupI)=none:=by
 cases nss with
 |nil=>exact absurd rfl h
 |cons a r=>rfl
theorem Ao {nss:cm}(h:nss.length<64) (ja:∀l∈nss,l≠[]):jK [.lst (nss.map tupI)]=some ((gM nss).map tupI):=by
 cases nss with
 |nil=>
  simp[jK,intsOf,sortI,gM]
 |cons a r=>
  simp only[jK,ae,if_pos h,wV (List.cons_ne_nil a r),wq,ao];rw[if_pos];rw[List.all_eq_true];intro x hx;have:=ja x hx;cases x with
  |nil=>exact absurd rfl this
  |cons _ _=>rfl
theorem wW {nss:cm}(h:nss.Nodup):(gM nss).Pairwise (λa b=>HT.lexLt a b=true):=by
 have h1:=sF nss;have h2:(gM nss).Nodup:=(fq nss).nodup_iff.mpr h;have:=List.Pairwise.and h1 h2;refine this.imp λ{a b} ⟨x,y⟩=>?_
 cases e:HT.lexLt a b with
 |true=>rfl
 |false=>exact absurd (HT.gL e x) y
theorem dM {n np:Nat}{f:bZ}{ds:cu}{d:D}(hl:ds.length=np) (h:f (ds.map Sl.dat++List.replicate (n-np) Sl.no)=some (.ret d)):gi n np f ds=some d:=by
 unfold gi;rw[if_pos hl,h]
theorem cS {f g:bZ}{δ δ':dO}(h:f δ=some (.next δ')):eB f g δ=g δ':=by unfold eB;rw[h]
theorem fs3 {c least most lines many k:Int}{fd:cu}{x7 x8 x9:Sl}(hm:1<=many):∃z:Int,1<=z/\z<=4/\z<=many/\ml [cG c,cG least,cG most,cG lines,cG many,.own fd,cG k,x7,x8,x9,.no]=
   some (.next [cG c,cG least,cG most,cG lines,cG many,.own fd,cG k,cG z,x8,x9,.no]):=by
 have h4:0<(if many<4 then many else 4):=by split<;>omega
 have a1:=sO (c:=c+7*k) (p:=9949) h4;have a2:=sP (c:=c+7*k) (p:=9949) h4;refine⟨1+lz (c+7*k) 9949 (if many<4 then many else 4),by omega,?_,?_,?_⟩
 ·have:(if many<4 then many else 4)<=4:=by split<;>omega
  omega
 ·have:(if many<4 then many else 4)<=many:=by split<;>omega
  omega
 ·simp[ml,jf,di,cO,bV,cN,dC,dc,jI,pG,oI,Dt,wb,Bk,Bx (p:=9949) (by omega) h4]
theorem fs5 {c least most lines many k z:Int}{fd:cu}{x8 x9:Sl}(h1:1<=z) (h4:z<=4) (hm:z<=many):∃y:Int,1<=y/\y<=4/\y<=many/\gC [cG c,cG least,cG most,cG lines,cG many,.own fd,cG k,cG z,x8,x9,.no]=
   some (.next [cG c,cG least,cG most,cG lines,cG many,.own fd,cG k,cG y,x8,x9,.no]):=by
 by_cases h:0<c%3/\z=1/\1<many
 ·refine⟨2,by omega,by omega,by omega,?_⟩
  obtain⟨a,rfl,b⟩:=h;simp[gC,ir,oY,jf,kQ,qB,di,dC,dc,A0,qP,oI,Dt,xR,qZ,dW,dP,a,b]
 ·refine⟨z,h1,h4,hm,?_⟩;by_cases a:0<c%3
  ·by_cases b:z=1
   ·have d:¬ 1<many:=λd=>h ⟨a,b,d⟩
    simp[gC,ir,oY,jF,kQ,qB,di,dC,dc,A0,qP,oI,Dt,xR,qZ,dW,dP,a,b,d]
   ·have b':(z==1)=false:=by simpa using b
    simp[gC,ir,oY,jF,kQ,qB,di,dC,dc,A0,qP,oI,Dt,xR,qZ,dW,dP,a,b']
  ·simp[gC,ir,oY,jF,kQ,qB,di,dC,dc,A0,qP,oI,Dt,xR,qZ,dW,dP,a]
theorem fs6 {c least most lines many k z:Int}{fd:cu}{x8 x9:Sl}(h1:1<=many) (hm:many<=60):mn [cG c,cG least,cG most,cG lines,cG many,.own fd,cG k,cG z,x8,x9,.no]=
   some (.next [cG c,cG least,cG most,cG lines,cG many,.own fd,cG k,cG z,.own ((dJ 0 many.toNat).map D.int),x9,.no]):=by
 have a:many<1000000:=by omega
 have b: -1000000<many:=by omega
 simp[mn,iq,ug,bV,cN,cQ,a,b]
theorem fs7 {c least most lines many k z:Int}{fd:cu}{x9:Sl}(h1:1<=many) (hm:many<=60) (z1:1<=z) (z2:z<=many):∃ms rs:cn,(ms++rs).Perm (dJ 0 many.toNat)/\(ms.length:Int)=z/\
  mq [cG c,cG least,cG most,cG lines,cG many,.own fd,cG k,cG z,.own ((dJ 0 many.toNat).map D.int),x9,.no]=
   some (.next [cG c,cG least,cG most,cG lines,cG many,.own fd,cG k,cG z,.own (rs.map D.int),.own (ms.map D.int),.no]):=by
 have hl:((dJ 0 many.toNat).map D.int).length=many.toNat:=by rw[ae,dS]
 have CN:((dJ 0 z.toNat).map D.int).length=z.toNat:=by rw[ae,dS]
 obtain⟨xs,rest,e,p,l⟩:=E8 (j:=10) (m:=8) (f:=cO dk (bV (di jI (di jI (dc 0) (di pG (dC (.int 11)) (dc 6))) (di pG (dC (.int 3)) (dc 10))) (bV (dC (.int 9941)) (bV (di rP (dc 4) (dc 10)) cN))))
  (δ:=[cG c,cG least,cG most,cG lines,cG many,.own fd,cG k,cG z,.own ((dJ 0 many.toNat).map D.int),x9,.no])
  ((dJ 0 z.toNat).map D.int) ((dJ 0 many.toNat).map D.int) (by omega) (λi d lc hd hk=>by
   rw[av,oq]at hd;split at hd
   ·rename_i hi;cases hd;have hp:0<many-(0+(i:Int)):=by omega
    refine⟨lz (c+11*k+3*(0+(i:Int))) 9941 (many-(0+(i:Int))),?_,sO hp,?_⟩
    ·have DR:0<many-(i:Int):=by omega
     simp[cO,bV,cN,di,dc,dC,jI,rP,pG,oI,Dt,wb,Bx (p:=9941) (by omega) DR]
    ·have:=sP (c:=c+11*k+3*(0+(i:Int))) (p:=9941) hp;omega
   ·cases hd)
 obtain⟨ms,rs,rfl,rfl,q⟩:=Am p;refine⟨ms,rs,q,?_,?_⟩
 ·rw[ae]at l;omega
 ·have a:many.toNat<1000000:=by omega
  have b:z<1000000:=by omega
  have b': -1000000<z:=by omega
  have b2:z.toNat<1000000:=by omega
  simp only[mq,yO,aK,aM,hl,if_pos a,ug,bV,cN,cQ,ao,bA,if_pos (And.intro b b'),CN,if_pos b2,e];rfl
theorem fs9 {c least most lines many k z:Int}{found:cm}{x8:Sl}{ms:cn}(hz:ms.length<64) (hd:found.length<1000000):iu [cG c,cG least,cG most,cG lines,cG many,.own (found.map tupI),cG k,cG z,x8,.dat (.lst (ms.map D.int)),.no]=
   some (.next [cG c,cG least,cG most,cG lines,cG many,.own ((if sortI ms∈found then found else found++[sortI ms]).map tupI),cG k,cG z,x8,.dat (.lst (ms.map D.int)),.no]):=by
 have JW:jg (found.map tupI)<=30:=aB (qz _) (by decide)
 have e1:∀x5,(cO lj (bV (dL (fA jK (bV (dc 9) cN))) cN)) [cG c,cG least,cG most,cG lines,cG many,x5,cG k,cG z,x8,.dat (.lst (ms.map D.int)),.no]=some (tupI (sortI ms)):=λx5=>by
  simp[cO,fA,bV,cN,dc,dL,An hz,lj,tupI]
 by_cases h:sortI ms∈found
 ·simp only[iu,mr,oY,qB,di,e1,dc,aK,aM,ao,qR,rg,if_pos JW,uz,if_pos h,aR h,bT,jF]
 ·simp only[iu,mr,oY,qB,di,e1,dc,aK,aM,ao,qR,rg,if_pos JW,uz,if_neg h,aG h,Bool.not_false,Bi,ae,if_pos hd,List.map_append,aE,List.map_nil];rfl
theorem D9 {c least most lines many k:Int}{found:cm}{x7 x8 x9:Sl}(hm:1<=many) (vA:many<=60) (Le:found.Nodup) (hl:∀l∈found,uy many l) (hlen:found.length<60):
  ∃(Ap:cm) (y7 y8 y9:Sl),gT [cG c,cG least,cG most,cG lines,cG many,.own (found.map tupI),cG k,x7,x8,x9,.no]=
   some (.next [cG c,cG least,cG most,cG lines,cG many,.own (Ap.map tupI),cG k,y7,y8,y9,.no])/\Ap.Nodup/\(∀l∈Ap,uy many l)/\Ap.length<=found.length+1:=by
 obtain⟨z,z1,z2,z3,e3⟩:=fs3 (c:=c) (least:=least) (most:=most) (lines:=lines) (k:=k) (fd:=found.map tupI) (x7:=x7) (x8:=x8) (x9:=x9) hm;obtain⟨y,y1,y2,y3,e5⟩:=fs5 (c:=c) (least:=least) (most:=most) (lines:=lines) (k:=k) (fd:=found.map tupI) (x8:=x8) (x9:=x9) z1 z2 z3;obtain⟨ms,rs,p,l,e7⟩:=fs7 (c:=c) (least:=least) (most:=most) (lines:=lines) (k:=k) (fd:=found.map tupI) (x9:=x9) hm vA y1 y3;have nd:(ms++rs).Nodup:=p.nodup_iff.mpr ((kU _ _).imp λ{a b} h=>by omega)
 have nd1:ms.Nodup:=(List.nodup_append.mp nd).1;have sp:=sortI_perm ms;have ok:uy many (sortI ms):=by
  refine⟨λz=>?_,?_,kf nd1,λx hx=>?_⟩
  ·have:=sp.length_eq;rw[z]at this;simp only[List.length_nil]at this;omega
  ·have:=sp.length_eq;omega
  ·have h1:x∈ms++rs:=bC _ (sp.mem_iff.mp hx);have h2:=(ke _ _ _).mp (p.mem_iff.mp h1);omega
 refine⟨if sortI ms∈found then found else found++[sortI ms],cG y,.own (rs.map D.int),.dat (.lst (ms.map D.int)),?_,?_,?_,?_⟩
 ·unfold gT;rw[cS e3,cS e5,cS (fs6 hm vA),cS e7];show iu (we 9 _)=_;have eg:we 9 [cG c,cG least,cG most,cG lines,cG many,.own (found.map tupI),cG k,cG y,.own (rs.map D.int),.own (ms.map D.int),.no]=[cG c,cG least,cG most,cG lines,cG many,.own (found.map tupI),cG k,cG y,.own (rs.map D.int),.dat (.lst (ms.map D.int)),.no]:=rfl;rw[eg];exact fs9 (by omega) (by omega)
 ·split
  ·exact Le
  ·rename_i h;rw[List.nodup_append];exact⟨Le,(by simp),λa ha b hb=>by rw[bt]at hb;subst hb;intro z;subst z;exact h ha⟩
 ·split
  ·exact hl
  ·intro l iE;rcases List.mem_append.mp iE with h|h
   ·exact hl l h
   ·rw[bt]at h;subst h;exact ok
 ·split
  ·omega
  ·simp
theorem Ft {c least most lines:Int}(h1:1<=least) (h2:least<=most) (h3:most<=60) (h4:0<=lines) (h5:lines<=50):
  ∃many ls,dq [.int c,.int least,.int most,.int lines]=some (eW many ls)/\Fs least most lines many ls:=by
 have hp:0<most-least+1:=by omega
 have hq:0<lines+1:=by omega
 have a1:=sO (c:=c) (p:=9973) hp;have a2:=sP (c:=c) (p:=9973) hp;have b1:=sO (c:=c) (p:=9967) hq;have b2:=sP (c:=c) (p:=9967) hq;obtain⟨δ',e,found,y6,y7,y8,y9,hδ,nd,hl,hn⟩:=By (j:=6) (f:=gT) (λn δ=>∃(found:cm) (y6 y7 y8 y9:Sl),δ=[cG c,cG least,cG most,cG lines,cG (least+lz c 9973 (most-least+1)),.own (found.map tupI),y6,y7,y8,y9,.no]/\found.Nodup/\(∀l∈found,uy (least+lz c 9973 (most-least+1)) l)/\found.length<=n)
  ((dJ 0 (lz c 9967 (lines+1)).toNat).map D.int) 0 [cG c,cG least,cG most,cG lines,cG (least+lz c 9973 (most-least+1)),.own [],.no,.no,.no,.no,.no] ⟨[],.no,.no,.no,.no,rfl,List.nodup_nil,(λ_ h=>nomatch h),au _⟩
  (λi δ d hd ⟨found,y6,y7,y8,y9,hδ,nd,hl,hn⟩=>by
   have hi:=(List.getElem?_eq_some_iff.mp hd).1;rw[ae,dS]at hi;rw[av,oq,if_pos hi]at hd;cases hd;subst hδ;obtain⟨f',z7,z8,z9,e,q1,q2,q3⟩:=D9 (c:=c) (least:=least) (most:=most) (lines:=lines) (k:=0+(i:Int)) (x7:=y7) (x8:=y8) (x9:=y9) (many:=least+lz c 9973 (most-least+1)) (by omega) (by omega) nd hl (by omega)
   exact⟨_,e,f',_,z7,z8,z9,rfl,q1,q2,by omega⟩)
 subst hδ;rw[ae,dS]at hn;refine⟨least+lz c 9973 (most-least+1),gM found,?_,⟨by omega,by omega,?_,wW nd,λl h=>hl l ((fq found).mem_iff.mp h)⟩⟩
 ·have e1:mi [cG c,cG least,cG most,cG lines,.no,.no,.no,.no,.no,.no,.no]=some (.next [cG c,cG least,cG most,cG lines,cG (least+lz c 9973 (most-least+1)),.no,.no,.no,.no,.no,.no]):=by
   simp[mi,jf,di,cO,bV,cN,dC,dc,cQ,jI,rP,oI,Bx (p:=9973) (by omega) hp]
  have e2:mj [cG c,cG least,cG most,cG lines,cG (least+lz c 9973 (most-least+1)),.no,.no,.no,.no,.no,.no]=some (.next [cG c,cG least,cG most,cG lines,cG (least+lz c 9973 (most-least+1)),.own [],.no,.no,.no,.no,.no]):=by
   simp[mj,iq,GB,cN]
  have c1:lz c 9967 (lines+1)<1000000:=by omega
  have c2: -1000000<lz c 9967 (lines+1):=by omega
  have VW:lu [cG c,cG least,cG most,cG lines,cG (least+lz c 9973 (most-least+1)),.own [],.no,.no,.no,.no,.no]=some (.next [cG c,cG least,cG most,cG lines,cG (least+lz c 9973 (most-least+1)),.own (found.map tupI),y6,y7,y8,y9,.no]):=by
   rw[<-e];simp[lu,lU,ug,di,cO,bV,cN,dC,dc,cQ,jI,oI,Bx (p:=9967) (by omega) hq,c1,c2]
  refine dM rfl ?_;show kG [cG c,cG least,cG most,cG lines,.no,.no,.no,.no,.no,.no,.no]=_;unfold kG;rw[cS e1,cS e2,cS VW];have hs:=Ao (nss:=found) (by omega) (λl h=>(hl l h).ne)
  have z:(lx [cG c,cG least,cG most,cG lines,cG (least+lz c 9973 (most-least+1)),.own (found.map tupI),y6,y7,y8,y9,.no])=some (.ret (eW (least+lz c 9973 (most-least+1)) (gM found))):=by
   simp[lx,eE,fz,cO,fA,bV,cN,cQ,dc,dL,hs,lj,eW,Kg]
  exact z
 ·have:=(fq found).length_eq;omega
end LW
namespace LW
open PySem DL
open L2 (j9 qX)
theorem jN {j:Nat}{t:cc}{f:cb}{δ:dO}{p:D->Bool}{g:D->D}:∀(ds:cu),(∀d∈ds,t (δ.set j (.dat d))=some (p d))->(∀d∈ds,p d=true->f (δ.set j (.dat d))=some (g d))->gS j t f δ ds=some ((ds.filter p).map g)
 |[],_,_=>rfl
 |d::ds,h,h2=>by
  unfold gS;have ih:=jN (p:=p) (g:=g) ds (λx hx=>h x (ai _ hx)) λx hx=>h2 x (ai _ hx)
  rw[h d af];cases e:p d with
  |true=>simp only[h2 d af e,ao,ih,bA,List.filter_cons_of_pos e,aE]
  |false=>simp only[ih,br,e,aH,bD]
theorem wX {α:Type}(l:List α) (q:α->Bool):GH [.lst (l.map λx=>D.bl (q x))]=some (.bl (l.all q)):=by
 have:(l.map λx=>D.bl (q x))=(l.map q).map D.bl:=by rw[aV];rfl
 rw[this];show(nD ((l.map q).map D.bl)).map _=_;rw[GG];simp[List.all_map]
theorem Fu {α:Type}(l:List α) (i:Nat) (h:i<l.length):j9 l (i:Int)=l[i]? :=by
 unfold j9 qX;rw[if_pos (by omega),if_pos (by omega)]
 simp
end LW
namespace GP
open PySem DL
open L2 (j9 qX)
noncomputable def lD (many:Int) (ls:cm) (f b g:Int):D:=.tup [.tup [.int many,.tup (ls.map tupI)],.int f,.int b,.int g]
noncomputable def jh (m l:cn):Bool:=l.all λp=>decide (p∈m)
noncomputable def dI (y l:cn):Bool:=l.any λp=>decide (p∈y)
noncomputable def rB (ls:cm) (m y:cn):Option Int:=
 if ls.any (jh m)then some 0 else if ls.all (dI y)then some 1 else none
noncomputable def VX:Option Int->D
 |some i=>.int i
 |none=>.eU
theorem BQ (p:Int) (m:cn):memD (.int p) (m.map D.int)=decide (p∈m):=by
 unfold memD;rw[List.any_map];induction m with
 |nil=>simp
 |cons b r ih=>
  rw[bF,ih];have:(Function.comp (λe=>dP e (D.int p)) D.int) b=decide (p=b):=by
   show dP (.int b) (.int p)=_;unfold dP;by_cases h:b=p
   ·simp[h]
   ·have h2:¬ p=b:=λz=>h z.symm
    simp[h,h2]
  rw[this];by_cases h1:p=b<;>simp[h1]
theorem Aq (p:Int) (m:cn):yL (.int p) (tupI m)=some (.bl (decide (p∈m))):=by
 unfold yL tupI rg;simp only[ao,LW.qy,BQ];rfl
theorem nM (p:Int) (m:cn):qR (.int p) (tupI m)=some (.bl (!decide (p∈m))):=by
 unfold qR tupI rg;simp only[ao,LW.qy,BQ];rfl
noncomputable def intOf:D->Int
 |.int i=>i
 |_=>0
theorem mT (p:Int->Bool) (l:cn):(l.map D.int).filter (λd=>p (intOf d))=(l.filter p).map D.int:=by
 rw[List.filter_map];rfl
theorem Fv (m:cn):∀l:cn,jh m l=(l.filter λi=> !decide (i∈m)).isEmpty
 |[]=>rfl
 |a::l=>by
  have ih:=Fv m l;unfold jh at ih ⊢;by_cases h:a∈m
  ·simp only[List.all_cons,br,h,decide_true,Bool.true_and,bT,ih];rfl
  ·simp[List.all_cons,br,h]
theorem BR (y:cn):∀l:cn,dI y l= !(l.filter λi=>decide (i∈y)).isEmpty
 |[]=>rfl
 |a::l=>by
  have ih:=BR y l;unfold dI at ih ⊢;by_cases h:a∈y
  ·simp[bF,br,h]
  ·simp only[bF,br,h,decide_false,Bool.false_or,ih];rfl
noncomputable def fD (m y:cn) (w:Int) (c:cn):cn×cn:=if w=0 then(sortI (m++c),y)else(m,sortI (y++c))
theorem lJ {ns:cn}(h:ns.length<64):gk [tupI ns]=some ((sortI ns).map D.int):=by
 simp only[gk,tupI,ae,if_pos h,fP,bA]
theorem iN {a b:cn}(h:a.length+b.length<64):jM (tupI a) (tupI b)=some (tupI (a++b)):=by
 have:a.length+b.length<=1000000:=by omega
 simp[jM,tupI,this]
noncomputable def behind (c:cn) (p:Int):Bool:=match c.getLast? with|none=>true|some q=>decide (q<p)
noncomputable def Qu (some:cn) (c:cn):cm:=(some.filter (behind c)).map λp=>c++[p]
noncomputable def NQ (some:cn) (cs:cm):cm:=cs.flatMap (Qu some)
noncomputable def BS (some:cn):Nat->cm
 |0=>[[]]
 |k+1=>NQ some (BS some k)
noncomputable def dg (many:Int) (m y:cn):cn:=(dJ 0 many.toNat).filter λp=> !decide (p∈m++y)
noncomputable def uY (b g w:Int) (free:cn):Nat:=(if(free.length:Int)<(if w=0 then b else g)then(free.length:Int)else(if w=0 then b else g)).toNat
noncomputable def As (many b g:Int) (m y:cn) (w:Int):cm:=BS (dg many m y) (uY b g w (dg many m y))
theorem nN (many:Int) (m y:cn):(dg many m y).length<=many.toNat:=by
 unfold dg;have:=aW (λp=> !decide (p∈m++y)) (dJ 0 many.toNat)
 rwa [dS]at this
abbrev fC (l:cn):Prop:=l.Pairwise (·< ·)
theorem nO:∀{a b:cn},fC a->fC b->(∀p,p∈a↔p∈b)->a=b
 |[],[],_,_,_=>rfl
 |[],y::b,_,_,h=>absurd ((h y).mpr af) (by simp)
 |x::a,[],_,_,h=>absurd ((h x).mp af) (by simp)
 |x::a,y::b,ha,hb,h=>by
  obtain⟨a1,a2⟩:=List.pairwise_cons.mp ha;obtain⟨b1,b2⟩:=List.pairwise_cons.mp hb;have e:x=y:=by
   have h1:=(h x).mp af;have h2:=(h y).mpr af;rcases List.mem_cons.mp h1 with z|z
   ·exact z
   ·rcases List.mem_cons.mp h2 with u|u
    ·exact u.symm
    ·have:=b1 x z;have:=a1 y u;omega
  subst e;rw[nO a2 b2 λp=>?_]
  constructor
  ·intro hp;have:=a1 p hp;rcases List.mem_cons.mp ((h p).mp (ai _ hp))with z|z
   ·omega
   ·exact z
  ·intro hp;have:=b1 p hp;rcases List.mem_cons.mp ((h p).mpr (ai _ hp))with z|z
   ·omega
   ·exact z
noncomputable def code (l:cn):Nat->Nat
 |0=>0
 |k+1=>2*code l k+(if(k:Int)∈l then 1 else 0)
theorem sW (l:cn):∀k,code l k<2^k
 |0=>by simp[code]
 |k+1=>by
  have:=sW l k;unfold code;rw[Nat.pow_succ];split<;>omega
theorem code_inj {a b:cn}:∀k,code a k=code b k->∀i:Nat,i<k->((i:Int)∈a↔(i:Int)∈b)
 |0,_,i,h=>absurd h (by omega)
 |k+1,e,i,h=>by
  unfold code at e;have e1:code a k=code b k:=by split at e<;>split at e<;>omega
  by_cases hi:i=k
  ·subst hi;by_cases h1:(i:Int)∈a<;>by_cases h2:(i:Int)∈b<;>simp[h1,h2]at e ⊢<;>omega
  ·exact code_inj k e1 i (by omega)
structure eS (many:Int) (m y:cn):Prop where
 rm:fC m
 ry:fC y
 im:∀p∈m,0<=p/\p<many
 iy:∀p∈y,0<=p/\p<many
 dj:∀p∈m,p∉y
theorem BU {many:Int}(hm:many<=9) {a b:cn}(ra:fC a) (rb:fC b) (ia:∀p∈a,0<=p/\p<many) (ib:∀p∈b,0<=p/\p<many) (e:code a 9=code b 9):a=b:=by
 refine nO ra rb λp=>?_
 by_cases h:0<=p/\p<9
 ·obtain⟨n,rfl⟩:∃n:Nat,p=(n:Int):=⟨p.toNat,by omega⟩
  exact code_inj 9 e n (by omega)
 ·constructor
  ·intro hp;have:=ia p hp;omega
  ·intro hp;have:=ib p hp;omega
theorem gp {l:cn}(h:fC l):l.Nodup:=h.imp λ{a b} h=>by omega
theorem kU (n:Nat) (lo:Int):fC (dJ lo n):=LW.kU n lo
theorem nQ {many:Int}{l:cn}(r:fC l) (i:∀p∈l,0<=p/\p<many):l.length<=many.toNat:=by
 have:l.length<=(dJ 0 many.toNat).length:=(gp r).length_le_of_subset λp hp=>(LW.ke _ _ _).mpr (by have:=i p hp;omega)
 rwa [dS]at this
theorem dv {many:Int}{m y:cn}{p:Int}:p∈dg many m y↔(0<=p/\p<many)/\p∉m/\p∉y:=by
 unfold dg;rw[List.mem_filter,LW.ke];simp only[List.mem_append,not_or,Bool.not_eq_true',decide_eq_false_iff_not];constructor
 ·rintro⟨h1,h2⟩;exact⟨by omega,h2⟩
 ·rintro⟨h1,h2⟩;exact⟨by omega,h2⟩
theorem kj (many:Int) (m y:cn):fC (dg many m y):=List.Pairwise.filter _ (kU _ _)
theorem uA {s:cn}(hs:fC s):∀(k:Nat) (c:cn),c∈BS s k↔c.length=k/\fC c/\∀p∈c,p∈s
 |0,c=>by
  simp only[BS,bt];constructor
  ·rintro rfl;exact⟨rfl,List.Pairwise.nil,by simp⟩
  ·rintro⟨h,_⟩;exact List.length_eq_zero_iff.mp h
 |k+1,c=>by
  unfold BS NQ;rw[List.mem_flatMap];constructor
  ·rintro⟨b,hb,hc⟩
   obtain⟨l,r,i⟩:=(uA hs k b).mp hb;unfold Qu at hc;obtain⟨p,hp,rfl⟩:=List.mem_map.mp hc;obtain⟨Lg,T3⟩:=List.mem_filter.mp hp;refine⟨by simp[l],?_,?_⟩
   ·refine List.pairwise_append.mpr ⟨r,List.pairwise_singleton _ _,λa ha q hq=>?_⟩
    rw[bt]at hq;subst hq;rcases List.eq_nil_or_concat b with rfl|⟨l',z,rfl⟩
    ·simp at ha
    ·have hz:z<q:=by simpa [behind]using T3
     rw[List.concat_eq_append]at ha r;rcases List.mem_append.mp ha with u|u
     ·have:=(List.pairwise_append.mp r).2.2 a u z (by simp);omega
     ·rw[bt]at u;omega
   ·intro q hq;rcases List.mem_append.mp hq with u|u
    ·exact i q u
    ·rw[bt]at u;subst u;exact Lg
  ·rintro⟨l,r,i⟩
   rcases List.eq_nil_or_concat c with rfl|⟨b,z,rfl⟩
   ·simp at l
   ·rw[List.concat_eq_append]at l r i ⊢;obtain⟨r1,_,r3⟩:=List.pairwise_append.mp r;refine⟨b,(uA hs k b).mpr ⟨by simpa using l,r1,λp hp=>i p (bC _ hp)⟩,?_⟩
    unfold Qu;refine List.mem_map.mpr ⟨z,List.mem_filter.mpr ⟨i z (by simp),?_⟩,rfl⟩
    unfold behind;cases hq:b.getLast? with
    |none=>rfl
    |some q=>
     have:q∈b:=List.mem_of_getLast? hq
     simpa using r3 q this z (by simp)
theorem iz {many b g:Int}{m y:cn}{w:Int}{c:cn}:c∈As many b g m y w↔c.length=uY b g w (dg many m y)/\fC c/\∀p∈c,p∈dg many m y:=uA (kj many m y) _ c
theorem cY {l:cn}{p:Int}:p∈sortI l↔p∈l:=(sortI_perm l).mem_iff
theorem qA {a c:cn}(ra:fC a) (rc:fC c) (d:∀p∈c,p∉a):fC (sortI (a++c)):=by
 refine LW.kf ?_;refine List.nodup_append.mpr ⟨gp ra,gp rc,λp hp q hq e=>?_⟩
 subst e;exact d p hq hp
theorem js {many b g:Int}{m y:cn}{w:Int}{c:cn}(h:eS many m y) (hc:c∈As many b g m y w):eS many (fD m y w c).1 (fD m y w c).2:=by
 obtain⟨_,rc,ic⟩:=iz.mp hc;unfold fD;split
 ·refine⟨qA h.rm rc λp hp=>(dv.mp (ic p hp)).2.1,h.ry,λp hp=>?_,h.iy,λp hp=>?_⟩
  ·rcases List.mem_append.mp (cY.mp hp)with u|u
   ·exact h.im p u
   ·exact(dv.mp (ic p u)).1
  ·rcases List.mem_append.mp (cY.mp hp)with u|u
   ·exact h.dj p u
   ·exact(dv.mp (ic p u)).2.2
 ·refine⟨h.rm,qA h.ry rc λp hp=>(dv.mp (ic p hp)).2.2,h.im,λp hp=>?_,λp hp hq=>?_⟩
  ·rcases List.mem_append.mp (cY.mp hp)with u|u
   ·exact h.iy p u
   ·exact(dv.mp (ic p u)).1
  ·rcases List.mem_append.mp (cY.mp hq)with u|u
   ·exact h.dj p hp u
   ·exact(dv.mp (ic p u)).2.1 hp
end GP
namespace GP
open PySem DL
open L2 (j9 qX)
theorem any_congr {α:Type}{f g:α->Bool}:∀{l:List α},(∀a∈l,f a=g a)->l.any f=l.any g
 |[],_=>rfl
 |a::l,h=>by rw[bF,bF,h a af,any_congr λb hb=>h b (ai _ hb)]
structure Gm where
 many:Int
 ls:cm
 b:Int
 g:Int
structure Gm.Ok (G:Gm):Prop where
 m0:0<=G.many
 m9:G.many<=9
 li:∀l∈G.ls,∀p∈l,0<=p/\p<G.many
 ll:∀l∈G.ls,l.length<1000000
 b1:1<=G.b
 b3:G.b<=4
 g1:1<=G.g
 g3:G.g<=4
noncomputable def Gm.hW (G:Gm) (m y:cn) (w:Int):cm:=As G.many G.b G.g m y w
noncomputable def Gm.free (G:Gm) (m y:cn):cn:=dg G.many m y
noncomputable def Gm.over (G:Gm) (m y:cn):Option Int:=rB G.ls m y
noncomputable def Gm.vn (G:Gm):Nat->cn->cn->Int->Int
 |0,m,y,w=>match G.over m y with|some i=>i|none=>1-w
 |n+1,m,y,w=>match G.over m y with
  |some i=>i
  |none=>if(G.hW m y w).any (λc=>G.vn n (fD m y w c).1 (fD m y w c).2 (1-w)==w)then w else 1-w
theorem pW {G:Gm}{m y c:cn}{w:Int}(h:eS G.many m y) (hc:c∈G.hW m y w):(G.free (fD m y w c).1 (fD m y w c).2).length+c.length<=(G.free m y).length:=by
 obtain⟨_,rc,ic⟩:=iz.mp hc;rw[<-aQ];have mp:∀p,(p∈(fD m y w c).1\/p∈(fD m y w c).2)↔(p∈m\/p∈y\/p∈c):=by
  intro p;unfold fD;split<;>simp only[cY,List.mem_append]
  ·constructor
   ·rintro((a|a)|a)<;>simp[a]
   ·rintro(a|a|a)<;>simp[a]
 refine bW ?_ λp hp=>?_
 ·refine List.nodup_append.mpr ⟨gp (kj _ _ _),gp rc,λp hp q hq e=>?_⟩
  subst e;have:=dv.mp hp;rcases(mp p).mpr (.inr (.inr hq))with u|u
  ·exact this.2.1 u
  ·exact this.2.2 u
 ·rcases List.mem_append.mp hp with u|u
  ·have:=dv.mp u;refine dv.mpr ⟨this.1,λz=>?_,λz=>?_⟩
   ·rcases(mp p).mpr (.inl z)with u|u
    ·exact this.2.1 u
    ·exact this.2.2 u
   ·rcases(mp p).mpr (.inr (.inl z))with u|u
    ·exact this.2.1 u
    ·exact this.2.2 u
  ·exact ic p u
theorem qC {G:Gm}(hG:G.Ok) {m y:cn}(h:G.free m y=[]):G.over m y≠none:=by
 unfold Gm.over rB;split
 ·simp
 ·rename_i h1;rw[if_pos ?_]; · simp
  rw[List.all_eq_true];intro l hl;unfold dI;rw[bO];have h2:¬ jh m l=true:=λz=>h1 (bO.mpr ⟨l,hl,z⟩)
  unfold jh at h2;rw[List.all_eq_true]at h2;have:∃p∈l,p∉m:=by
   apply bU
   intro hn;apply h2
   intro p hp;simp only[decide_eq_true_eq];apply bU
   intro z;exact hn ⟨p,hp,z⟩
  obtain⟨p,hp,Fc⟩:=this;refine⟨p,hp,?_⟩;simp only[decide_eq_true_eq];apply bU
  intro z;have:p∈G.free m y:=dv.mpr ⟨hG.li l hl p hp,Fc,z⟩;rw[h]at this;simp at this
theorem Fw {G:Gm}{m y:cn}{i:Int}(h:G.over m y=some i):i=0\/i=1:=by
 unfold Gm.over rB at h;split at h
 ·cases h;exact .inl rfl
 ·split at h
  ·cases h;exact .inr rfl
  ·cases h
theorem nR {G:Gm}(hG:G.Ok) {m y c:cn}{w:Int}(ho:G.over m y=none) (hc:c∈G.hW m y w):1<=c.length:=by
 obtain⟨l,_,_⟩:=iz.mp hc;have hf:G.free m y≠[]:=λz=>qC hG z ho
 have h1:1<=(dg G.many m y).length:=by
  cases h:dg G.many m y with
  |nil=>exact absurd h hf
  |cons a r=>simp
 rw[l];unfold uY;have:=hG.b1;have:=hG.g1;split<;>split<;>omega
theorem yY {G:Gm}(hG:G.Ok):∀(n:Nat) (m y:cn) (w:Int),eS G.many m y->(G.free m y).length<=n->G.vn n m y w=G.vn (n+1) m y w
 |0,m,y,w,h,hn=>by
  have h0:G.free m y=[]:=List.length_eq_zero_iff.mp (by omega)
  unfold Gm.vn;cases ho:G.over m y with
  |some i=>rfl
  |none=>exact absurd ho (qC hG h0)
 |n+1,m,y,w,h,hn=>by
  rw[Gm.vn,Gm.vn];cases ho:G.over m y with
  |some i=>rfl
  |none=>
   have:(G.hW m y w).any (λc=>G.vn n (fD m y w c).1 (fD m y w c).2 (1-w)==w)=(G.hW m y w).any (λc=>G.vn (n+1) (fD m y w c).1 (fD m y w c).2 (1-w)==w):=
    any_congr λc hc=>by
     have:=pW h hc;have:=nR hG ho hc;rw[yY hG n _ _ (1-w) (js h hc) (by omega)]
   simp only[this]
noncomputable def Gm.jd (G:Gm) (m y:cn) (w:Int):Int:=G.vn 9 m y w
theorem MP {G:Gm}(hG:G.Ok) (m y:cn):(G.free m y).length<=9:=by
 have:=nN G.many m y;have:=hG.m9;unfold Gm.free;omega
theorem Au {G:Gm}(hG:G.Ok) {m y:cn}{w:Int}(h:eS G.many m y):G.jd m y w=(match G.over m y with
  |some i=>i
  |none=>if(G.hW m y w).any (λc=>G.jd (fD m y w c).1 (fD m y w c).2 (1-w)==w)then w else 1-w):=by
 unfold Gm.jd;rw[yY hG 9 m y w h (MP hG m y),Gm.vn]
theorem nh {G:Gm}(hG:G.Ok) {m y:cn}{w:Int}(h:eS G.many m y) (hw:w=0\/w=1):G.jd m y w=0\/G.jd m y w=1:=by
 rw[Au hG h];cases ho:G.over m y with
 |some i=>exact Fw ho
 |none=>simp only;split<;>omega
noncomputable def Ea (m y:cn) (w:Int):D:=.tup [tupI m,tupI y,.int w]
noncomputable def yZ:D->Option (cn×cn×Int)
 |.tup [.tup a,.tup b,.int w]=>match intsOf a,intsOf b with|some m,some y=>some (m,y,w)|_,_=>none
 |_=>none
theorem qD (m y:cn) (w:Int):yZ (Ea m y w)=some (m,y,w):=by
 show(match intsOf (m.map D.int),intsOf (y.map D.int)with|some m,some y=>some (m,y,w)|_,_=>none)=_
 rw[fP,fP]
theorem Kh {k:D}{m y:cn}{w:Int}(h:yZ k=some (m,y,w)):k=Ea m y w:=by
 unfold yZ at h;split at h
 ·rename_i a b w';split at h
  ·rename_i m' y' e1 e2;cases h;rw[eX e1,eX e2];rfl
  ·cases h
 ·cases h
noncomputable def Eb (k:D):Nat:=match yZ k with|some (m,y,w)=>code m 9*1024+code y 9*2+w.toNat|none=>0
open Classical in
noncomputable def Gm.W (G:Gm) (k:D):Option D:=match yZ k with
 |some (m,y,w)=>if eS G.many m y/\(w=0\/w=1)then some (.int (G.jd m y w))else none
 |none=>none
theorem Ec {G:Gm}{k d:D}(h:G.W k=some d):∃m y w,k=Ea m y w/\eS G.many m y/\(w=0\/w=1)/\d=.int (G.jd m y w):=by
 unfold Gm.W at h;split at h
 ·rename_i m y w e;split at h
  ·rename_i hh;cases h;exact⟨m,y,w,Kh e,hh.1,hh.2,rfl⟩
  ·cases h
 ·cases h
theorem Ki {G:Gm}{m y:cn}{w:Int}(h:eS G.many m y) (hw:w=0\/w=1):G.W (Ea m y w)=some (.int (G.jd m y w)):=by
 unfold Gm.W;rw[qD];simp only;rw[if_pos ⟨h,hw⟩]
theorem wY (m y:cn) (w:Int):Eb (Ea m y w)=code m 9*1024+code y 9*2+w.toNat:=by unfold Eb;rw[qD]
theorem Tf {G:Gm}(hG:G.Ok) (k k' d d':D) (h:G.W k=some d) (h':G.W k'=some d') (e:Eb k=Eb k'):k=k':=by
 obtain⟨m,y,w,rfl,p,hw,rfl⟩:=Ec h;obtain⟨m',y',w',rfl,p',QW,rfl⟩:=Ec h';rw[wY,wY]at e;have a1:=sW y 9;have a2:=sW y' 9;have e1:w=w':=by rcases hw with rfl|rfl<;>rcases QW with rfl|rfl<;>simp at e ⊢<;>omega
 subst e1;have e2:code y 9=code y' 9:=by rcases hw with rfl|rfl<;>simp at e<;>omega
 have e3:code m 9=code m' 9:=by omega
 rw[BU hG.m9 p.rm p'.rm p.im p'.im e3,BU hG.m9 p.ry p'.ry p.iy p'.iy e2]
theorem wZ:∀l:cn,nE (l.map D.int)=true
 |[]=>by unfold nE;rfl
 |a::l=>by
  show nE (.int a::l.map D.int)=true;unfold nE pK;rw[wZ l];rfl
theorem VY {G:Gm}(k d:D) (h:G.W k=some d):Eb k<524288:=by
 obtain⟨m,y,w,rfl,p,hw,rfl⟩:=Ec h;rw[wY];have a1:=sW y 9;have a2:=sW m 9;rcases hw with rfl|rfl<;>simp<;>omega
noncomputable def BV:j8:=⟨λ_=>none,λ_=>0,0,by decide,(λ_ _ h=>by cases h),(λ_ _ _ _ h=>by cases h),(λ_ _ h=>by cases h)⟩
noncomputable def linesOf:cu->Option (cm)
 |[]=>some []
 |.tup ds::r=>match intsOf ds,linesOf r with|some l,some ls=>some (l::ls)|_,_=>none
 |_=>none
theorem pX:∀ls:cm,linesOf (ls.map tupI)=some ls
 |[]=>rfl
 |l::ls=>by
  show(match intsOf (l.map D.int),linesOf (ls.map tupI)with|some l,some ls=>some (l::ls)|_,_=>none)=_
  rw[fP,pX ls]
noncomputable def Kj:D->Option Gm
 |.tup [.tup [.int many,.tup ls],.int _,.int b,.int g]=>(linesOf ls).map λls=>⟨many,ls,b,g⟩
 |_=>none
theorem Av (many:Int) (ls:cm) (f b g:Int):Kj (lD many ls f b g)=some ⟨many,ls,b,g⟩:=by
 show(linesOf (ls.map tupI)).map _=_;rw[pX];rfl
end GP
namespace GP
open PySem DL
theorem fill:∀(F:cn) (P:Int->Bool) (k:Nat),F.countP P<=k->k<=F.length->∃c:cn,c.Sublist F/\c.length=k/\∀x∈F,P x=true->x∈c
 |[],P,k,_,h2=>⟨[],List.Sublist.refl _,by simp at h2;simp[h2],by simp⟩
 |x::F,P,k,h1,h2=>by
  rw[List.countP_cons]at h1;rw[ax]at h2;by_cases hx:P x=true
  ·rw[if_pos hx]at h1;obtain⟨c,s,l,i⟩:=fill F P (k-1) (by omega) (by omega)
   refine⟨x::c,s.cons_cons x,by rw[ax];omega,λz hz pz=>?_⟩
   rcases List.mem_cons.mp hz with rfl|u
   ·exact af
   ·exact ai _ (i z u pz)
  ·rw[if_neg hx]at h1;by_cases hk:k<=F.length
   ·obtain⟨c,s,l,i⟩:=fill F P k (by omega) hk
    refine⟨c,s.cons x,l,λz hz pz=>?_⟩
    rcases List.mem_cons.mp hz with rfl|u
    ·exact absurd pz hx
    ·exact i z u pz
   ·exact⟨x::F,List.Sublist.refl _,by rw[ax];omega,λz hz _=>hz⟩
theorem mC {G:Gm}{m y A:cn}{w:Int}(ha:A.length<=(if w=0 then G.b else G.g).toNat):∃c∈G.hW m y w,∀p∈G.free m y,p∈A->p∈c:=by
 have hc:(G.free m y).countP (λp=>decide (p∈A))<=A.length:=by
  rw[List.countP_eq_length_filter];exact bW ((gp (kj _ _ _)).sublist List.filter_sublist) λp hp=>by
   have:=(List.mem_filter.mp hp).2
   simpa using this
 have so:(G.free m y).countP (λp=>decide (p∈A))<=(G.free m y).length:=List.countP_le_length
 obtain⟨c,s,l,i⟩:=fill (G.free m y) (λp=>decide (p∈A)) (uY G.b G.g w (G.free m y)) (by unfold uY;split<;>omega) (by unfold uY;split<;>omega)
 exact⟨c,iz.mpr ⟨l,(kj _ _ _).sublist s,λp hp=>s.subset hp⟩,λp hp hA=>i p hp (by simpa using hA)⟩
theorem nS {G:Gm}(hG:G.Ok) {m y c:cn}{w:Int}(hc:c∈G.hW m y w):c.length<=(if w=0 then G.b else G.g).toNat:=by
 obtain⟨l,_,_⟩:=iz.mp hc;rw[l];unfold uY;have:=hG.b1;have:=hG.g1;split<;>split<;>omega
theorem nT {G:Gm}{m y:cn}:G.over m y=some 0↔∃l∈G.ls,∀p∈l,p∈m:=by
 unfold Gm.over rB;have e:G.ls.any (jh m)=true↔∃l∈G.ls,∀p∈l,p∈m:=by
  rw[bO];simp only[jh,List.all_eq_true,decide_eq_true_eq]
 constructor
 ·intro h;split at h
  ·rename_i h1;exact e.mp h1
  ·split at h<;>simp at h
 ·intro h;rw[if_pos (e.mpr h)]
theorem rC {G:Gm}{m y:cn}(h0:¬ ∃l∈G.ls,∀p∈l,p∈m):G.over m y=some 1↔∀l∈G.ls,∃p∈l,p∈y:=by
 have h1:¬ G.ls.any (jh m)=true:=by
  intro h;rw[bO]at h;simp only[jh,List.all_eq_true,decide_eq_true_eq]at h;exact h0 h
 unfold Gm.over rB;rw[if_neg h1];have e:G.ls.all (dI y)=true↔∀l∈G.ls,∃p∈l,p∈y:=by
  rw[List.all_eq_true];simp only[dI,bO,decide_eq_true_eq]
 constructor
 ·intro h;split at h
  ·rename_i h2;exact e.mp h2
  ·simp at h
 ·intro h;rw[if_pos (e.mpr h)]
theorem iA (G:Gm) (m y:cn):G.over m y=some 0\/G.over m y=some 1\/G.over m y=none:=by
 cases h:G.over m y with
 |none=>exact .inr (.inr rfl)
 |some i=>rcases Fw h with rfl|rfl<;>simp
theorem BW {G:Gm}(hG:G.Ok) {m y:cn}(h:eS G.many m y) (ho:G.over m y=none):G.jd m y 0=0↔∃c∈G.hW m y 0,G.jd (fD m y 0 c).1 (fD m y 0 c).2 1=0:=by
 rw[Au hG h,ho];simp only;have e:(G.hW m y 0).any (λc=>G.jd (fD m y 0 c).1 (fD m y 0 c).2 (1-0)==0)=true↔∃c∈G.hW m y 0,G.jd (fD m y 0 c).1 (fD m y 0 c).2 1=0:=by
  rw[bO];simp only[beq_iff_eq];rfl
 constructor
 ·intro h1;split at h1
  ·rename_i h2;exact e.mp h2
  ·omega
 ·intro h1;rw[if_pos (e.mpr h1)]
theorem Fx {G:Gm}(hG:G.Ok) {m y:cn}(h:eS G.many m y) (ho:G.over m y=none):G.jd m y 1=0↔∀c∈G.hW m y 1,G.jd (fD m y 1 c).1 (fD m y 1 c).2 0=0:=by
 rw[Au hG h,ho];simp only;have e:(G.hW m y 1).any (λc=>G.jd (fD m y 1 c).1 (fD m y 1 c).2 (1-1)==1)=true↔∃c∈G.hW m y 1,G.jd (fD m y 1 c).1 (fD m y 1 c).2 0=1:=by
  rw[bO];simp only[beq_iff_eq];rfl
 constructor
 ·intro h1 c hc;rcases nh (w:=0) hG (js h hc) (.inl rfl)with z|z
  ·exact z
  ·rw[if_pos (e.mpr ⟨c,hc,z⟩)]at h1;omega
 ·intro h1;rw[if_neg]
  ·rfl
  ·intro z;obtain⟨c,hc,u⟩:=e.mp z;have:=h1 c hc;omega
theorem jO {G:Gm}(hG:G.Ok) {m y:cn}{w i:Int}(h:eS G.many m y) (ho:G.over m y=some i):G.jd m y w=i:=by
 rw[Au hG h,ho]
theorem Ha (m y c:cn):fD m y 0 c=(sortI (m++c),y):=rfl
theorem Hb (m y c:cn):fD m y 1 c=(m,sortI (y++c)):=rfl
end GP
namespace GP
open PySem DL
open L2 (j9 qX)
noncomputable def comb:Nat->cn->cm
 |0,_=>[[]]
 |_+1,[]=>[]
 |k+1,p::r=>(comb k r).map (p:: ·)++comb (k+1) r
theorem sX:∀(k:Nat) (s c:cn),c∈comb k s->c.length=k/\∀p∈c,p∈s
 |0,s,c,h=>by simp[comb]at h;subst h;simp
 |k+1,[],c,h=>by simp[comb]at h
 |k+1,q::r,c,h=>by
  simp only[comb,List.mem_append,List.mem_map]at h;rcases h with⟨d,hd,rfl⟩|h
  ·obtain⟨h1,h2⟩:=sX k r d hd;refine⟨by simp[h1],λp hp=>?_⟩
   rcases List.mem_cons.mp hp with rfl|hp
   ·exact af
   ·exact ai _ (h2 p hp)
  ·obtain⟨h1,h2⟩:=sX (k+1) r c h;exact⟨h1,λp hp=>ai _ (h2 p hp)⟩
theorem mD:∀(k:Nat) (s:cn),s.length<k->comb k s=[]
 |0,s,h=>by omega
 |k+1,[],_=>rfl
 |k+1,p::r,h=>by
  simp only[ax]at h;simp[comb,mD k r (by omega),mD (k+1) r (by omega)]
theorem w4:∀(s:cn),comb s.length s=[s]
 |[]=>rfl
 |p::r=>by simp[comb,w4 r,mD (r.length+1) r (by omega)]
theorem pY {α β:Type}{f g:α->List β}:∀{l:List α},(∀a∈l,f a=g a)->l.flatMap f=l.flatMap g
 |[],_=>rfl
 |a::l,h=>by rw[List.flatMap_cons,List.flatMap_cons,h a af,pY λb hb=>h b (ai _ hb)]
noncomputable def rW (c:Nat) (ps:cn):cm:=if ps.length<=c then[ps]else comb c ps
theorem BX {c:Nat}{ps:cn}(h:c<=ps.length):rW c ps=comb c ps:=by
 unfold rW;split
 ·have:c=ps.length:=by omega
  rw[this,w4]
 ·rfl
noncomputable def w5 (c:Nat) (ps:cn) (k:Nat):cm:=match ps[k]? with
 |some p=>(comb c (ps.drop (k+1))).map (p:: ·)
 |none=>[]
theorem za:∀(c:Nat) (ps:cn),(List.range (ps.length-c)).flatMap (w5 c ps)=comb (c+1) ps
 |c,[]=>by simp[comb]
 |c,p::r=>by
  by_cases h:c<=r.length
  ·have e:(p::r).length-c=(r.length-c)+1:=by simp;omega
   rw[e,List.range_succ_eq_map,List.flatMap_cons,List.flatMap_map];show w5 c (p::r) 0++_=(comb c r).map (p:: ·)++comb (c+1) r
   congr 1
   rw[<-za c r];exact pY λk _=>rfl
  ·have e:(p::r).length-c=0:=by simp;omega
   rw[e,mD (c+1) (p::r) (by simp;omega)]
   rfl
theorem qE:∀(c:Nat) (ps:cn),(comb c ps).length<=2^ps.length
 |0,ps=>by simp[comb];exact Nat.one_le_two_pow
 |c+1,[]=>by simp[comb]
 |c+1,p::r=>by
  have h1:=qE c r;have h2:=qE (c+1) r;simp only[comb,aQ,ae,ax,Nat.pow_succ];omega
theorem Kk {c:Nat}{ps:cn}:(rW c ps).length<=2^ps.length:=by
 unfold rW;split
 ·simp;exact Nat.one_le_two_pow
 ·exact qE c ps
end GP
namespace GP
open PySem DL
def Qv (G:Gm) (m y:cn) (G':Gm) (m' y':cn):Prop:=
 ∀l∈G.ls,(∀p∈l,p∉y)->∃l'∈G'.ls,(∀p∈l',p∉y')/\∀p∈l',p∉m'->p∈l/\p∉m
theorem Qv.nT {G G':Gm}{m y m' y':cn}(h:eS G.many m y) (d:Qv G m y G' m' y') (z:∃l∈G.ls,∀p∈l,p∈m):∃l∈G'.ls,∀p∈l,p∈m':=by
 obtain⟨l,hl,hp⟩:=z;obtain⟨l',iE,_,s⟩:=d l hl λp q=>h.dj p (hp p q)
 refine⟨l',iE,λp q=>?_⟩
 by_cases hm:p∈m'
 ·exact hm
 ·exact absurd (hp p (s p q hm).1) (s p q hm).2
theorem Qv.rC {G G':Gm}{m y m' y':cn}(h:eS G.many m y) (d:Qv G m y G' m' y') (rM:G'.over m' y'=some 1):G.over m y=some 1:=by
 have Ud:¬ ∃l∈G'.ls,∀p∈l,p∈m':=λz=>by rw[GP.nT.mpr z]at rM;simp at rM
 have a:=(GP.rC Ud).mp rM;refine(GP.rC λz=>Ud (d.nT h z)).mpr λl hl=>?_
 by_cases hy:∃p∈l,p∈y
 ·exact hy
 ·obtain⟨l',iE,o,_⟩:=d l hl λp q u=>hy ⟨p,q,u⟩
  obtain⟨p,q,u⟩:=a l' iE;exact absurd u (o p q)
theorem qF {G G':Gm}(hG:G.Ok) (HN:G'.Ok) (em:G.many=G'.many) (eb:G.b=G'.b) (eg:G.g=G'.g):∀(n:Nat) (m y m' y':cn) (w:Int),eS G.many m y->eS G'.many m' y'->Qv G m y G' m' y'->(w=0\/w=1)->(G'.free m' y').length<=n->
  G.jd m y w=0->G'.jd m' y' w=0:=by
 intro n;induction n with
 |zero=>
  intro m y m' y' w h h' d hw hn Hc;have h0:G'.free m' y'=[]:=List.length_eq_zero_iff.mp (by omega)
  rcases iA G' m' y' with rM|rM|rM
  ·exact jO HN h' rM
  ·rw[jO hG h (d.rC h rM)]at Hc;omega
  ·exact absurd rM (qC HN h0)
 |succ n ih=>
  intro m y m' y' w h h' d hw hn Hc;rcases iA G' m' y' with rM|rM|rM
  ·exact jO HN h' rM
  ·rw[jO hG h (d.rC h rM)]at Hc;omega
  ·have Ud:¬ ∃l∈G'.ls,∀p∈l,p∈m':=λz=>by rw[GP.nT.mpr z]at rM;simp at rM
   rcases iA G m y with ho|ho|ho
   ·exact absurd (d.nT h (GP.nT.mp ho)) Ud
   ·rw[jO hG h ho]at Hc;omega
   ·rcases hw with rfl|rfl
    ·obtain⟨c,hc,wc⟩:=(BW hG h ho).mp Hc;have hl:=nS hG hc;rw[if_pos rfl]at hl;obtain⟨c',se,o4⟩:=mC (G:=G') (m:=m') (y:=y') (A:=c) (w:=0) (by rw[if_pos rfl];omega)
     refine(BW HN h' rM).mpr ⟨c',se,?_⟩;have f1:=pW h' se;have f2:=nR HN rM se;refine ih _ _ _ _ 1 (js h hc) (js h' se) ?_ (.inr rfl) (by omega) wc
     intro l iE HP;rw[Ha]at HP ⊢;rw[Ha];obtain⟨l',CN,o,s⟩:=d l iE HP;refine⟨l',CN,o,λp hp hm=>?_⟩
     have nm:p∉m':=λz=>hm (cY.mpr (bC _ z))
     obtain⟨s1,s2⟩:=s p hp nm;refine⟨s1,λz=>?_⟩
     rcases List.mem_append.mp (cY.mp z)with u|u
     ·exact s2 u
     ·exact hm (cY.mpr (aL _ (o4 p (dv.mpr ⟨em▸hG.li l iE p s1,nm,o p hp⟩) u)))
    ·refine(Fx HN h' rM).mpr λc' se=>?_
     have hl:=nS HN se;rw[if_neg (by omega)]at hl
     obtain⟨c,hc,o4⟩:=mC (G:=G) (m:=m) (y:=y) (A:=c') (w:=1) (by rw[if_neg (by omega)];omega)
     have wc:=(Fx hG h ho).mp Hc c hc;have f1:=pW h' se;have f2:=nR HN rM se;refine ih _ _ _ _ 0 (js h hc) (js h' se) ?_ (.inl rfl) (by omega) wc
     intro l iE HP;rw[Hb]at HP ⊢;rw[Hb];have hy:∀p∈l,p∉y:=λp q z=>HP p q (cY.mpr (bC _ z))
     obtain⟨l',CN,o,s⟩:=d l iE hy;refine⟨l',CN,λp hp z=>?_,s⟩
     rcases List.mem_append.mp (cY.mp z)with u|u
     ·exact o p hp u
     ·have fr:=dv.mp ((iz.mp se).2.2 p u);obtain⟨s1,s2⟩:=s p hp fr.2.1;exact HP p s1 (cY.mpr (aL _ (o4 p (dv.mpr ⟨hG.li l iE p s1,s2,hy p s1⟩) u)))
theorem Qw {G G':Gm}(hG:G.Ok) (HN:G'.Ok) (em:G.many=G'.many) (eb:G.b=G'.b) (eg:G.g=G'.g) {m y m' y':cn}{w:Int}(h:eS G.many m y) (h':eS G'.many m' y') (hw:w=0\/w=1) (d:Qv G m y G' m' y') (d':Qv G' m' y' G m y):G.jd m y w=G'.jd m' y' w:=by
 have a:=qF hG HN em eb eg _ m y m' y' w h h' d hw (au _);have b:=qF HN hG em.symm eb.symm eg.symm _ m' y' m y w h' h d' hw (au _);rcases nh hG h hw with z|z
 ·rw[z,a z]
 ·rcases nh HN h' hw with u|u
  ·rw[b u]at z;omega
  ·rw[z,u]
theorem uB:∀(k:Nat) (ps c:cn),c.Sublist ps->c.length=k->c∈comb k ps
 |0,ps,c,_,h=>by
  have:c=[]:=List.length_eq_zero_iff.mp h;subst this;cases ps<;>simp[comb]
 |k+1,[],c,s,h=>by
  have:=s.length_le;simp at this;subst this;simp at h
 |k+1,p::r,c,s,h=>by
  simp only[comb,List.mem_append,List.mem_map];cases s with
  |cons _ s=>exact .inr (uB (k+1) r c s h)
  |cons_cons _ s=>
   rename_i c';exact .inl ⟨c',uB k r c' s (by simpa using h),rfl⟩
theorem BY {k:Nat}{ps A:cn}(hA:ps.countP (λp=>decide (p∈A))<=k):∃c∈rW k ps,∀p∈ps,p∈A->p∈c:=by
 unfold rW;by_cases h:ps.length<=k
 ·rw[if_pos h];exact⟨ps,by simp,λp hp _=>hp⟩
 ·rw[if_neg h];obtain⟨c,s,l,i⟩:=fill ps (λp=>decide (p∈A)) k hA (by omega)
  exact⟨c,uB k ps c s l,λp hp ha=>i p hp (by simpa using ha)⟩
theorem oE {k:Nat}{ps c:cn}(h:c∈rW k ps):(∀p∈c,p∈ps)/\c.length<=k/\(c.length=k\/∀p∈ps,p∈c):=by
 unfold rW at h;split at h
 ·simp at h;subst h;exact⟨λp hp=>hp,by omega,.inr λp hp=>hp⟩
 ·obtain⟨h1,h2⟩:=sX k ps c h;exact⟨h2,by omega,.inl h1⟩
noncomputable def Gm.at (G:Gm) (L:cm):Gm:={G with ls:=L}
structure MQ (G:Gm) (L:cm):Prop where
 li:∀l∈L,∀p∈l,0<=p/\p<G.many
 ll:∀l∈L,l.length<1000000
theorem Gm.Ok.at {G:Gm}(hG:G.Ok) {L:cm}(h:MQ G L):(G.at L).Ok:=⟨hG.m0,hG.m9,h.li,h.ll,hG.b1,hG.b3,hG.g1,hG.g3⟩
theorem mU (many:Int):eS many [] []:=⟨List.Pairwise.nil,List.Pairwise.nil,(λp h=>by cases h),(λp h=>by cases h),λp h=>by cases h⟩
theorem quick {G:Gm}(hG:G.Ok) {m y l:cn}(h:eS G.many m y) (hl:l∈G.ls) (hy:∀p∈l,p∉y) (hb:l.length<=G.b.toNat):G.jd m y 0=0:=by
 rcases iA G m y with ho|ho|ho
 ·exact jO hG h ho
 ·exfalso;have n0:¬ ∃l∈G.ls,∀p∈l,p∈m:=λz=>by rw[nT.mpr z]at ho;simp at ho
  obtain⟨p,hp,u⟩:=(rC n0).mp ho l hl;exact hy p hp u
 ·obtain⟨c,hc,o4⟩:=mC (G:=G) (m:=m) (y:=y) (A:=l) (w:=0) (by rw[if_pos rfl];exact hb)
  refine(BW hG h ho).mpr ⟨c,hc,jO hG (js h hc) (nT.mpr ⟨l,hl,λp hp=>?_⟩)⟩
  rw[Ha];by_cases hm:p∈m
  ·exact cY.mpr (bC _ hm)
  ·exact cY.mpr (aL _ (o4 p (dv.mpr ⟨hG.li l hl p hp,hm,hy p hp⟩) hp))
theorem zd {G:Gm}{L:cm}(h1:L≠[]) (h2:[]∉L):(G.at L).over [] []=none:=by
 have n0:¬ ∃l∈(G.at L).ls,∀p∈l,p∈([]:cn):=λ⟨l,hl,hp⟩=>by
  cases l with
  |nil=>exact h2 hl
  |cons a r=>exact absurd (hp a af) (by simp)
 rcases iA (G.at L) [] []with ho|ho|ho
 ·exact absurd (nT.mp ho) n0
 ·cases L with
  |nil=>exact absurd rfl h1
  |cons a r=>
   obtain⟨p,_,u⟩:=(rC n0).mp ho a af;cases u
 ·exact ho
section
variable {G:Gm}(hG:G.Ok) {L:cm}(hL:MQ G L) (h1:L≠[]) (h2:[]∉L) {ps:cn}(nd:ps.Nodup) (CL:∀p,p∈ps↔∃l∈L,p∈l)
include hG hL CL
theorem pZ {c:cn}(hc:∀p∈c,p∈ps) (hn:c.Nodup):eS G.many (sortI c) []/\eS G.many [] (sortI c):=by
 have r:fC (sortI c):=LW.kf hn;have i:∀p∈sortI c,0<=p/\p<G.many:=λp hp=>by
  obtain⟨l,hl,DR⟩:=(CL p).mp (hc p (cY.mp hp));exact hL.li l hl p DR
 exact⟨⟨r,List.Pairwise.nil,i,(λp h=>by cases h),λp _ h=>by cases h⟩,⟨List.Pairwise.nil,r,(λp h=>by cases h),i,λp h=>by cases h⟩⟩
include nd in
theorem count_le {c:cn}:ps.countP (λp=>decide (p∈c))<=c.length:=by
 rw[List.countP_eq_length_filter];exact bW (nd.sublist List.filter_sublist) λp hp=>by
  have:=(List.mem_filter.mp hp).2
  simpa using this
theorem nU {k:Nat}{c:cn}(nd:ps.Nodup) (h:c∈rW k ps):c.Nodup:=by
 unfold rW at h;split at h
 ·simp at h;subst h;exact nd
 ·have:∀(k:Nat) (ps c:cn),c∈comb k ps->c.Sublist ps:=by
   intro k ps;induction ps generalizing k with
   |nil=>intro c h;cases k<;>simp[comb]at h;subst h;exact List.Sublist.refl _
   |cons p r ih=>
    intro c h;cases k with
    |zero=>simp[comb]at h;subst h;exact List.nil_sublist _
    |succ k=>
     simp only[comb,List.mem_append,List.mem_map]at h;rcases h with⟨d,hd,rfl⟩|h
     ·exact(ih k d hd).cons_cons p
     ·exact(ih (k+1) c h).cons p
  exact nd.sublist (this k ps c h)
include h1 h2 nd in
theorem Kl:(G.at L).jd [] [] 0=0↔∃c∈rW G.b.toNat ps,(G.at L).jd (sortI c) [] 1=0:=by
 have hA:=hG.at hL;have p0:eS (G.at L).many [] []:=mU _;rw[BW hA p0 (zd h1 h2)];constructor
 ·rintro⟨c,hc,wc⟩
  have hl:=nS hA hc;rw[if_pos rfl]at hl;have cnt:=count_le hG hL nd CL (c:=c);obtain⟨d,hd,o4⟩:=BY (k:=G.b.toNat) (ps:=ps) (A:=c) (aB cnt hl);have pd:=(pZ hG hL CL (oE hd).1 (nU hG hL CL nd hd)).1;refine⟨d,hd,qF hA hA rfl rfl rfl _ _ _ _ _ 1 (js p0 hc) pd ?_ (.inr rfl) (au _) wc⟩;intro l iE HP;refine⟨l,iE,(λp hp z=>by cases z),λp hp hm=>⟨hp,λz=>?_⟩⟩
  rw[Ha]at z;rcases List.mem_append.mp (cY.mp z)with u|u
  ·cases u
  ·exact hm (cY.mpr (o4 p ((CL p).mpr ⟨l,iE,hp⟩) u))
 ·rintro⟨d,hd,wd⟩
  have pd:=(pZ hG hL CL (oE hd).1 (nU hG hL CL nd hd)).1;obtain⟨c,hc,o4⟩:=mC (G:=G.at L) (m:=[]) (y:=[]) (A:=d) (w:=0) (by rw[if_pos rfl];exact(oE hd).2.1)
  refine⟨c,hc,qF hA hA rfl rfl rfl _ _ _ _ _ 1 pd (js p0 hc) ?_ (.inr rfl) (au _) wd⟩;intro l iE HP;refine⟨l,iE,(λp hp z=>by cases z),λp hp hm=>⟨hp,λz=>?_⟩⟩
  refine hm ?_;rw[Ha];exact cY.mpr (aL _ (o4 p (dv.mpr ⟨hL.li l iE p hp,by simp,by simp⟩) (cY.mp z)))
include h1 h2 nd in
theorem Km:(G.at L).jd [] [] 1=1↔∃c∈rW G.g.toNat ps,(∀l∈L,l.length<=G.b.toNat->∃p∈l,p∈c)/\(G.at L).jd [] (sortI c) 0=1:=by
 have hA:=hG.at hL;have p0:eS (G.at L).many [] []:=mU _;have w1:(G.at L).jd [] [] 1=1↔∃c∈(G.at L).hW [] [] 1,(G.at L).jd (fD [] [] 1 c).1 (fD [] [] 1 c).2 0=1:=by
  have e:=Fx hA p0 (zd h1 h2);constructor
  ·intro z;apply bU
   intro n;have:(G.at L).jd [] [] 1=0:=e.mpr λc hc=>by
    rcases nh (w:=0) hA (js p0 hc) (.inl rfl)with u|u
    ·exact u
    ·exact absurd ⟨c,hc,u⟩ n
   omega
  ·rintro⟨c,hc,u⟩
   rcases nh (w:=1) hA p0 (.inr rfl)with z|z
   ·have:=e.mp z c hc;omega
   ·exact z
 rw[w1];constructor
 ·rintro⟨c,hc,wc⟩
  have hl:=nS hA hc;rw[if_neg (by omega)]at hl
  have cnt:=count_le hG hL nd CL (c:=c);obtain⟨d,hd,o4⟩:=BY (k:=G.g.toNat) (ps:=ps) (A:=c) (aB cnt hl);have pd:=(pZ hG hL CL (oE hd).1 (nU hG hL CL nd hd)).2;have wd:(G.at L).jd [] (sortI d) 0=1:=by
   rcases nh (w:=0) hA pd (.inl rfl)with u|u
   ·exfalso;have:=qF hA hA rfl rfl rfl _ _ _ _ _ 0 pd (js p0 hc) (λl iE HP=>⟨l,iE,λp hp z=>by
     rw[Hb]at z;rcases List.mem_append.mp (cY.mp z)with v|v
     ·cases v
     ·exact HP p hp (cY.mpr (o4 p ((CL p).mpr ⟨l,iE,hp⟩) v)),λp hp _=>⟨hp,by simp⟩⟩) (.inl rfl) (au _) u
    omega
   ·exact u
  refine⟨d,hd,λl iE hb=>?_,wd⟩
  apply bU
  intro n;have:=quick hA pd iE (λp hp z=>n ⟨p,hp,cY.mp z⟩) hb
  omega
 ·rintro⟨d,hd,_,wd⟩
  have pd:=(pZ hG hL CL (oE hd).1 (nU hG hL CL nd hd)).2;obtain⟨c,hc,o4⟩:=mC (G:=G.at L) (m:=[]) (y:=[]) (A:=d) (w:=1) (by rw[if_neg (by omega)];exact(oE hd).2.1)
  refine⟨c,hc,?_⟩;rcases nh (w:=0) hA (js p0 hc) (.inl rfl)with u|u
  ·exfalso;have:=qF hA hA rfl rfl rfl _ _ _ _ _ 0 (js p0 hc) pd (λl iE HP=>⟨l,iE,λp hp z=>by
    refine HP p hp ?_;rw[Hb];exact cY.mpr (aL _ (o4 p (dv.mpr ⟨hL.li l iE p hp,bH,bH⟩) (cY.mp z))),λp hp _=>⟨hp,by rw[Hb];exact bH⟩⟩) (.inl rfl) (au _) u
   omega
  ·exact u
end
theorem Hd {G:Gm}(hG:G.Ok) {L L':cm}(hL:MQ G L) (T7:MQ G L') {m y:cn}{w:Int}(h:eS G.many m y) (hw:w=0\/w=1)
  (d:∀l∈L,(∀p∈l,p∉y)->∃l'∈L',∀p∈l',p∈l/\p∉m) (d':∀l'∈L',∃l∈L,(∀p∈l,p∉y)/\∀p∈l,p∉m->p∈l'):
  (G.at L).jd m y w=(G.at L').jd [] [] w:=
 Qw (hG.at hL) (hG.at T7) rfl rfl rfl h (mU _) hw
  (λl hl ho=>(d l hl ho).imp λl' q=>⟨q.1,(λp _ z=>by cases z),λp hp _=>q.2 p hp⟩)
  (λl' iE _=>(d' l' iE).imp λl q=>⟨q.1,q.2.1,λp hp hm=>⟨q.2.2 p hp hm,by simp⟩⟩)
end GP
namespace GP
open PySem DL
noncomputable def uZ (m l:cn):cn:=l.filter λp=> !decide (p∈m)
noncomputable def ft (L:cm) (m y:cn):cm:=(L.filter λl=> !dI y l).map (uZ m)
noncomputable def Kn (l:cn) (ls:cm):Bool:=ls.any λo=>(!decide (o=l))&&jh l o
noncomputable def MR (ls:cm):cm:=ls.filter λl=> !Kn l ls
noncomputable def gN (L:cm) (m y:cn):cm:=MR (gM (ft L m y).eraseDups)
theorem e9 {m l:cn}{p:Int}:p∈uZ m l↔p∈l/\p∉m:=by
 unfold uZ;rw[List.mem_filter];simp
theorem oF {m l:cn}(h:fC l):fC (uZ m l):=List.Pairwise.filter _ h
theorem BZ {y l:cn}:dI y l=false↔∀p∈l,p∉y:=by
 unfold dI;rw[List.any_eq_false];simp
theorem Fy {m l:cn}:jh m l=true↔∀p∈l,p∈m:=by
 unfold jh;rw[List.all_eq_true];simp
theorem fS {L:cm}{m y f:cn}:f∈ft L m y↔∃l∈L,(∀p∈l,p∉y)/\f=uZ m l:=by
 unfold ft;rw[List.mem_map];constructor
 ·rintro⟨l,hl,rfl⟩
  obtain⟨h1,h2⟩:=List.mem_filter.mp hl;exact⟨l,h1,BZ.mp (by simpa using h2),rfl⟩
 ·rintro⟨l,hl,hy,rfl⟩
  exact⟨l,List.mem_filter.mpr ⟨hl,by rw[BZ.mpr hy];rfl⟩,rfl⟩
theorem Ko {l:cn}{ls:cm}:Kn l ls=false↔∀o∈ls,(∀p∈o,p∈l)->o=l:=by
 unfold Kn;rw[List.any_eq_false];constructor
 ·intro h o ho hs;have:=h o ho;rw[Fy.mpr hs]at this
  simpa using this
 ·intro h o ho;by_cases hs:∀p∈o,p∈l
  ·simp[h o ho hs]
  ·have:jh l o=false:=by
    cases q:jh l o with
    |false=>rfl
    |true=>exact absurd (Fy.mp q) hs
   simp[this]
theorem Fz {ls:cm}{f:cn}:f∈gM ls.eraseDups↔f∈ls:=(fq _).mem_iff.trans List.mem_eraseDups
theorem iB {L:cm}{m y f:cn}:f∈gN L m y↔f∈ft L m y/\∀o∈ft L m y,(∀p∈o,p∈f)->o=f:=by
 unfold gN MR;rw[List.mem_filter,Fz];constructor
 ·rintro⟨h1,h2⟩
  exact⟨h1,λo ho=>Ko.mp (by simpa using h2) o (Fz.mpr ho)⟩
 ·rintro⟨h1,h2⟩
  exact⟨h1,by rw[Ko.mpr λo ho=>h2 o (Fz.mp ho)];rfl⟩
theorem mB {α:Type} [BEq α] [LawfulBEq α]:∀(n:Nat) (l:List α),l.length<=n->l.eraseDups.Nodup
 |_,[],_=>by simp
 |0,_::_,h=>by simp at h
 |n+1,a::l,h=>by
  rw[List.eraseDups_cons,List.nodup_cons];refine⟨λz=>?_,mB n _ (aB (aW _ _) (by simpa using h))⟩
  have:=(List.mem_filter.mp (List.mem_eraseDups.mp z)).2;simp at this
theorem B0 (L:cm) (m y:cn):(gN L m y).Pairwise (λa b=>HT.lexLt a b=true):=List.Pairwise.filter _ (LW.wW (mB _ _ (au _)))
theorem MS (a:cn):HT.lexLt a a=false:=by
 induction a with
 |nil=>rfl
 |cons x r ih=>rw[HT.jq];simp[ih]
theorem ze {l:cm}(h:l.Pairwise λa b=>HT.lexLt a b=true):l.Nodup:=h.imp λ{a b} h z=>by subst z;rw[MS]at h;cases h
theorem lex_asymm:∀{a b:cn},HT.lexLt a b=true->HT.lexLt b a=false
 |[],[],h=>by cases h
 |[],_::_,_=>rfl
 |_::_,[],h=>by cases h
 |x::a,y::b,h=>by
  rw[HT.jq]at h ⊢;by_cases e:x=y
  ·rw[if_pos e]at h;rw[if_pos e.symm];exact lex_asymm h
  ·rw[if_neg e]at h;rw[if_neg (Ne.symm e)];have:=bK h;exact aG (by omega)
theorem MT {l k:cm}(h1:l.Pairwise λa b=>HT.lexLt a b=true) (h2:k.Pairwise λa b=>HT.lexLt a b=true) (h:∀a,a∈l↔a∈k):l=k:=
 gn (R:=λa b=>HT.lexLt b a=false) (λa b x y=>HT.gL y x) ((List.perm_ext_iff_of_nodup (ze h1) (ze h2)).mpr h) (h1.imp λh=>lex_asymm h) (h2.imp λh=>lex_asymm h)
theorem B1 {a b:cn}(ra:fC a) (rb:fC b) (s:∀p∈a,p∈b) (ne:a≠b):a.length<b.length:=by
 have e:a=b.filter λp=>decide (p∈a):=nO ra (List.Pairwise.filter _ rb) λp=>by
  rw[List.mem_filter];exact⟨λh=>⟨s p h,aR h⟩,λh=>bK h.2⟩
 have le:(b.filter λp=>decide (p∈a)).length<=b.length:=aW _ _
 rcases Nat.lt_or_ge a.length b.length with h|h
 ·exact h
 ·have h2:(b.filter λp=>decide (p∈a)).length=b.length:=by rw[<-e]at le ⊢;omega
  have h3:=List.length_filter_eq_length_iff.mp h2;exact absurd (nO ra rb λp=>⟨s p,λhp=>bK (h3 p hp)⟩) ne
theorem nV {L:cm}{m y f:cn}(hL:∀l∈L,fC l) (h:f∈ft L m y):fC f:=by
 obtain⟨l,hl,_,rfl⟩:=fS.mp h;exact oF (hL l hl)
theorem rX {L:cm}{m y:cn}(hL:∀l∈L,fC l):∀(n:Nat) (f:cn),f.length<=n->f∈ft L m y->∃k∈gN L m y,∀p∈k,p∈f
 |n,f,hn,hf=>by
  by_cases h:∀o∈ft L m y,(∀p∈o,p∈f)->o=f
  ·exact⟨f,iB.mpr ⟨hf,h⟩,λp hp=>hp⟩
  ·have:∃o∈ft L m y,(∀p∈o,p∈f)/\o≠f:=by
    refine bU λz=>h λo ho hs=>?_
    exact bU λz2=>z ⟨o,ho,hs,z2⟩
   obtain⟨o,ho,hs,ne⟩:=this;have lt:=B1 (nV hL ho) (nV hL hf) hs ne;cases n with
   |zero=>omega
   |succ n=>
    obtain⟨k,hk,hks⟩:=rX hL n o (by omega) ho
    exact⟨k,hk,λp hp=>hs p (hks p hp)⟩
theorem He {L:cm}{m y:cn}(hL:∀l∈L,fC l):∀l∈gN L m y,fC l:=λl hl=>nV hL (iB.mp hl).1
theorem B2 {G:Gm}{L:cm}{m y:cn}(hL:MQ G L):MQ G (gN L m y):=by
 constructor
 ·intro l hl p hp;obtain⟨k,hk,_,rfl⟩:=fS.mp (iB.mp hl).1;exact hL.li k hk p (e9.mp hp).1
 ·intro l hl;obtain⟨k,hk,_,rfl⟩:=fS.mp (iB.mp hl).1;exact Nat.lt_of_le_of_lt (aW _ _) (hL.ll k hk)
theorem w6 {G:Gm}(hG:G.Ok) {L:cm}(hL:MQ G L) (hr:∀l∈L,fC l) {m y:cn}{w:Int}(h:eS G.many m y) (hw:w=0\/w=1):(G.at L).jd m y w=(G.at (gN L m y)).jd [] [] w:=by
 refine Hd hG hL (B2 hL) h hw (λl hl hy=>?_) λl' iE=>?_
 ·obtain⟨k,hk,hs⟩:=rX (m:=m) (y:=y) hr _ _ (au _) (fS.mpr ⟨l,hl,hy,rfl⟩);exact⟨k,hk,λp hp=>e9.mp (hs p hp)⟩
 ·obtain⟨l,hl,hy,rfl⟩:=fS.mp (iB.mp iE).1;exact⟨l,hl,hy,λp hp hm=>e9.mpr ⟨hp,hm⟩⟩
theorem zf {L:cm}(hr:∀l∈L,fC l) {m y m' y' M Y:cn}(hM:∀p,p∈M↔p∈m\/p∈m') (hY:∀p,p∈Y↔p∈y\/p∈y') (hd:∀p∈y',p∉m):gN (gN L m y) m' y'=gN L M Y:=by
 have ba:∀b∈ft (gN L m y) m' y',b∈ft L M Y:=λb hb=>by
  obtain⟨k,hk,Tg,rfl⟩:=fS.mp hb;obtain⟨l,hl,Ue,rfl⟩:=fS.mp (iB.mp hk).1;refine fS.mpr ⟨l,hl,λp hp z=>?_,?_⟩
  ·rcases(hY p).mp z with z|z
   ·exact Ue p hp z
   ·exact Tg p (e9.mpr ⟨hp,hd p z⟩) z
  ·refine nO (oF (oF (hr l hl))) (oF (hr l hl)) λp=>?_
   rw[e9,e9,e9,hM];constructor
   ·rintro⟨⟨h1,h2⟩,h3⟩;exact⟨h1,λz=>z.elim h2 h3⟩
   ·rintro⟨h1,h2⟩;exact⟨⟨h1,λz=>h2 (.inl z)⟩,λz=>h2 (.inr z)⟩
 have ab:∀a∈ft L M Y,∃b∈ft (gN L m y) m' y',∀p∈b,p∈a:=λa ha=>by
  obtain⟨l,hl,Ue,rfl⟩:=fS.mp ha;obtain⟨k,hk,hs⟩:=rX (m:=m) (y:=y) hr _ _ (au _) (fS.mpr ⟨l,hl,λp hp z=>Ue p hp ((hY p).mpr (.inl z)),rfl⟩)
  refine⟨uZ m' k,fS.mpr ⟨k,hk,λp hp z=>Ue p (e9.mp (hs p hp)).1 ((hY p).mpr (.inr z)),rfl⟩,λp hp=>?_⟩
  obtain⟨h1,h2⟩:=e9.mp hp;obtain⟨h3,h4⟩:=e9.mp (hs p h1);exact e9.mpr ⟨h3,λz=>((hM p).mp z).elim h4 h2⟩
 refine MT (B0 _ _ _) (B0 _ _ _) λf=>?_
 rw[iB,iB];constructor
 ·rintro⟨h1,h2⟩
  refine⟨ba f h1,λo ho hs=>?_⟩
  obtain⟨b,hb,X6⟩:=ab o ho;have e:=h2 b hb λp hp=>hs p (X6 p hp)
  subst e;exact nO (nV hr ho) (nV hr (ba b h1)) λp=>⟨hs p,X6 p⟩
 ·rintro⟨h1,h2⟩
  obtain⟨b,hb,hbf⟩:=ab f h1;have e:=h2 b (ba b hb) hbf;subst e;exact⟨hb,λo ho hs=>h2 o (ba o ho) hs⟩
def Kp (G:Gm) (L:cm):Prop:=∃m y,eS G.many m y/\L=gN G.ls m y
noncomputable def vo (L:cm) (w:Int):D:=.tup [.tup (L.map tupI),.int w]
noncomputable def w9:D->Option (cm×Int)
 |.tup [.tup a,.int w]=>(linesOf a).map λL=>(L,w)
 |_=>none
theorem xb (L:cm) (w:Int):w9 (vo L w)=some (L,w):=by
 show(linesOf (L.map tupI)).map _=_;rw[pX];rfl
theorem xc:∀{ds:cu}{ls:cm},linesOf ds=some ls->ds=ls.map tupI
 |[],_,h=>by cases h;rfl
 |.tup a::r,ls,h=>by
  unfold linesOf at h;cases h1:intsOf a with
  |none=>rw[h1]at h;cases h
  |some l=>
   cases h2:linesOf r with
   |none=>rw[h1,h2]at h;cases h
   |some ls'=>rw[h1,h2]at h;cases h;rw[xc h2,eX h1];rfl
theorem Hf {k:D}{L:cm}{w:Int}(h:w9 k=some (L,w)):k=vo L w:=by
 unfold w9 at h;split at h
 ·rename_i a w';cases h1:linesOf a with
  |none=>rw[h1]at h;cases h
  |some ls=>rw[h1]at h;cases h;rw[xc h1];rfl
 ·cases h
open Classical in
noncomputable def Gm.WS (G:Gm) (k:D):Option D:=match w9 k with
 |some (L,w)=>if Kp G L/\(w=0\/w=1)then some (.int ((G.at L).jd [] [] w))else none
 |none=>none
theorem vM {G:Gm}{k d:D}(h:G.WS k=some d):∃L w,k=vo L w/\Kp G L/\(w=0\/w=1)/\d=.int ((G.at L).jd [] [] w):=by
 unfold Gm.WS at h;split at h
 ·rename_i L w e;split at h
  ·rename_i hh;cases h;exact⟨L,w,Hf e,hh.1,hh.2,rfl⟩
  ·cases h
 ·cases h
theorem Kq {G:Gm}{L:cm}{w:Int}(h:Kp G L) (hw:w=0\/w=1):G.WS (vo L w)=some (.int ((G.at L).jd [] [] w)):=by
 unfold Gm.WS;rw[xb];simp only;rw[if_pos ⟨h,hw⟩]
open Classical in
noncomputable def posOf (G:Gm) (L:cm):cn×cn:=if h:Kp G L then(h.choose,h.choose_spec.choose)else([],[])
theorem p6 {G:Gm}{L:cm}(h:Kp G L):eS G.many (posOf G L).1 (posOf G L).2/\L=gN G.ls (posOf G L).1 (posOf G L).2:=by
 unfold posOf;rw[dif_pos h];exact h.choose_spec.choose_spec
noncomputable def Qx (G:Gm) (k:D):Nat:=match w9 k with|some (L,w)=>Eb (Ea (posOf G L).1 (posOf G L).2 w)|none=>0
theorem xf (G:Gm) (L:cm) (w:Int):Qx G (vo L w)=Eb (Ea (posOf G L).1 (posOf G L).2 w):=by unfold Qx;rw[xb]
theorem FA (L:cm) (w:Int):pK (vo L w)=true/\dW (vo L w)<=4:=by
 have kl:∀L:cm,nE (L.map tupI)=true:=λL=>by
  induction L with
  |nil=>unfold nE;rfl
  |cons l r ih=>
   show nE (tupI l::r.map tupI)=true;unfold nE;rw[ih];have:pK (tupI l)=true:=by unfold tupI pK;exact wZ l
   rw[this];rfl
 constructor
 ·unfold vo;simp[pK,nE,kl]
 ·have:=LW.qz L;unfold vo;simp only[dW,jg];omega
noncomputable def Kr (G:Gm) (hG:G.Ok):j8:=⟨G.WS,Qx G,524288,by decide,λk d h=>by
  obtain⟨L,w,rfl,hs,hw,_⟩:=vM h;rw[xf];exact VY _ _ (Ki (p6 hs).1 hw),λk k' d d' h h' e=>by
  obtain⟨L,w,rfl,hs,hw,_⟩:=vM h;obtain⟨L',w',rfl,IC,QW,_⟩:=vM h';rw[xf,xf]at e;have:=Tf hG _ _ _ _ (Ki (p6 hs).1 hw) (Ki (p6 IC).1 QW) e;have e2:=congrArg yZ this;rw[qD,qD]at e2;injection e2 with e3
  injection e3 with e4 e5
  injection e5 with e6 e7
  rw[(p6 hs).2,(p6 IC).2,e4,e6,e7],λk d h=>by
  obtain⟨L,w,rfl,_⟩:=vM h;exact FA L w⟩
open Classical in
noncomputable def Ks (d:D):j8:=match Kj d with
 |some G=>if h:G.Ok then Kr G h else BV
 |none=>BV
theorem Ed {G:Gm}(hG:G.Ok) (f:Int):Ks (lD G.many G.ls f G.b G.g)=Kr G hG:=by
 unfold Ks;rw[Av];simp only;rw[dif_pos hG]
end GP
namespace PC
open PySem DL LW
noncomputable def p7:bZ:=
  (eE (cO GH (bV (dL (dR (iT (cQ 1)) 2 lV (di yL (dc 2) (dc 0)))) cN)))
noncomputable def xg:bZ:=
  p7
noncomputable def nW:cf:=gi 3 2 xg
noncomputable def oG:bZ:=
  (eE (cO GR (bV (dL (dR (iT (cQ 1)) 2 lV (di yL (dc 2) (dc 0)))) cN)))
noncomputable def u0:bZ:=
  oG
noncomputable def fT:cf:=gi 3 2 u0
noncomputable def ye:bZ:=
  (eE (R5 (qB (di qZ (dc 1) (dC (.int 0)))) (di jc (dc 0) (dC (.int 2))) (di jc (dc 0) (dC (.int 3)))))
noncomputable def sY:bZ:=
  ye
noncomputable def dZ:cf:=gi 2 2 sY
noncomputable def B3 (dt:cf):bZ:=
  (eE (fz (bV (cQ 0) cN)))
noncomputable def kW (dt:cf):bZ:=
  (oY (qB (di U0 (dc 1) (cO iH (bV (dc 0) cN)))) (B3 dt) jF)
noncomputable def B4 (dt:cf):bZ:=
  (eE (fz (bV (fz cN) cN)))
noncomputable def p8 (dt:cf):bZ:=
  (oY (qB (di qZ (dc 1) (dC (.int 0)))) (B4 dt) jF)
noncomputable def u3 (dt:cf):bZ:=
  (iq 2 (GB cN))
noncomputable def p9 (dt:cf):bZ:=
  (Bi 2 (di jM (fz (bV (di jc (dc 0) (dc 3)) cN)) (dc 4)))
noncomputable def jP (dt:cf):bZ:=
  (p9 dt)
noncomputable def qa (dt:cf):bZ:=
  (lU 4 (iT (cO dt (bV (GQ (dc 0) (Bl (di jI (dc 3) (dC (.int 1)))) Pq) (bV (di rP (dc 1) (dC (.int 1))) cN)))) (jP dt))
noncomputable def jQ (dt:cf):bZ:=
  (qa dt)
noncomputable def qb (dt:cf):bZ:=
  (lU 3 (ug (bV (di jI (di rP (cO iH (bV (dc 0) cN)) (dc 1)) (dC (.int 1))) cN)) (jQ dt))
noncomputable def B5 (dt:cf):bZ:=
  (eE (cO lj (bV (dc 2) cN)))
noncomputable def mE (dt:cf):bZ:=
  (eB (kW dt)
  (eB (p8 dt)
  (eB (u3 dt)
  (eB (qb dt)
  (B5 dt)))))
noncomputable def fc:Nat->cf
 |0=>λ_=>none
 |n+1=>gi 5 2 (mE (fc n))
noncomputable def o5:bZ:=
  (jf 3 (di jM (dc 1) (dc 2)))
noncomputable def vp:bZ:=
  (eE (cO lj (bV (dL (dR (ug (bV (di jc (dc 0) (dC (.int 0))) cN)) 4 (qB (di qR (dc 4) (dc 3))) (cQ 4))) cN)))
noncomputable def jR:bZ:=
  (eB o5
  vp)
noncomputable def gZ:cf:=gi 5 3 jR
noncomputable def Ee:bZ:=
  (eE (fz (bV (cO lj (bV (dL (fA gk (bV (di jM (dc 0) (dc 3)) cN))) cN)) (bV (cQ 1) cN))))
noncomputable def Ef:bZ:=
  (oY (qB (di qZ (dc 2) (dC (.int 0)))) Ee jF)
noncomputable def Eg:bZ:=
  (eE (fz (bV (cQ 0) (bV (cO lj (bV (dL (fA gk (bV (di jM (dc 1) (dc 3)) cN))) cN)) cN))))
noncomputable def zg:bZ:=
  (eB Ef
  Eg)
noncomputable def qc:cf:=gi 4 4 zg
noncomputable def rD:bZ:=
  (eE (dC (.int 0)))
noncomputable def ni:bZ:=
  (oY (qQ (qT (dL (dR (iT (cQ 3)) 4 (qB (di qR (dc 4) (dc 1))) (cQ 4))))) rD jF)
noncomputable def fU:bZ:=
  ni
noncomputable def nj:bZ:=
  (lU 3 (iT (di jc (di jc (dc 0) (dC (.int 0))) (dC (.int 1)))) fU)
noncomputable def rE:bZ:=
  (eE (dC .eU))
noncomputable def nk:bZ:=
  (oY (qQ (qT (dL (dR (iT (cQ 3)) 4 (qB (di yL (dc 4) (dc 2))) (cQ 4))))) rE jF)
noncomputable def fV:bZ:=
  nk
noncomputable def nq:bZ:=
  (lU 3 (iT (di jc (di jc (dc 0) (dC (.int 0))) (dC (.int 1)))) fV)
noncomputable def yf:bZ:=
  (eE (dC (.int 1)))
noncomputable def jS:bZ:=
  (eB nj
  (eB nq
  yf))
noncomputable def kX:cf:=gi 5 3 jS
noncomputable def oH:bZ:=
  (eE (fz (bV (cO lj (bV (dL (fA gk (bV (di jM (dc 0) (dc 3)) cN))) cN)) (bV (cQ 1) cN))))
noncomputable def oJ:bZ:=
  (oY (qB (di qZ (dc 2) (dC (.int 0)))) oH jF)
noncomputable def sZ:bZ:=
  (eE (fz (bV (cQ 0) (bV (cO lj (bV (dL (fA gk (bV (di jM (dc 1) (dc 3)) cN))) cN)) cN))))
noncomputable def mV:bZ:=
  (eB oJ
  sZ)
noncomputable def Eh:cf:=gi 4 4 mV
end PC
namespace PC
open PySem DL GP
open LW (dk dq)
open L2 (j9 qX)
theorem outs {m l:cn}{G Y:D}{c:Sl}(hl:l.length<1000000):
  ni [.dat G,.dat (tupI m),.dat Y,.dat (tupI l),c]=if jh m l then some (.ret (.int 0))else some (.next [.dat G,.dat (tupI m),.dat Y,.dat (tupI l),c]):=by
 have key:gS 4 (qB (di qR (dc 4) (dc 1))) (cQ 4) [.dat G,.dat (tupI m),.dat Y,.dat (tupI l),c] (l.map D.int)=some (((l.map D.int).filter λd=> !decide (intOf d∈m)).map id):=by
  refine LW.jN _ ?_ ?_
  ·intro d hd;obtain⟨i,_,rfl⟩:=List.mem_map.mp hd;simp only[qB,di,dc,aY,aX,aK,aM,ao,nM];rfl
  ·intro d hd _;simp[cQ]
 rw[mT (λi=> !decide (i∈m))]at key
 have e:=Fv m l;have iE:(l.map D.int).length<1000000:=by simpa using hl
 unfold ni oY qQ qT dL dR iT;simp only[cQ,aK,aM,tupI,ao];simp only[tupI]at key;rw[if_pos iE,key];rw[e];cases hf:(l.filter λi=> !decide (i∈m))with
 |nil=>simp[zY,rD,eE,dC]
 |cons a r=>simp[zY,jF]
theorem ins {y l:cn}{G M:D}{c:Sl}(hl:l.length<1000000):
  nk [.dat G,.dat M,.dat (tupI y),.dat (tupI l),c]=if dI y l then some (.next [.dat G,.dat M,.dat (tupI y),.dat (tupI l),c])else some (.ret .eU):=by
 have key:gS 4 (qB (di yL (dc 4) (dc 2))) (cQ 4) [.dat G,.dat M,.dat (tupI y),.dat (tupI l),c] (l.map D.int)=some (((l.map D.int).filter λd=>decide (intOf d∈y)).map id):=by
  refine LW.jN _ ?_ ?_
  ·intro d hd;obtain⟨i,_,rfl⟩:=List.mem_map.mp hd;simp only[qB,di,dc,aY,aX,aK,aM,ao,Aq];rfl
  ·intro d hd _;simp[cQ]
 rw[mT (λi=>decide (i∈y))]at key
 have e:=BR y l;have iE:(l.map D.int).length<1000000:=by simpa using hl
 unfold nk oY qQ qT dL dR iT;simp only[cQ,aK,aM,tupI,ao];simp only[tupI]at key;rw[if_pos iE,key];rw[e];cases hf:(l.filter λi=>decide (i∈y))with
 |nil=>simp[zY,rE,eE,dC]
 |cons a r=>simp[zY,jF]
theorem rC {m:cn}{G Y:D}{c:Sl}:∀(ls:cm) (x:Sl),(∀l∈ls,l.length<1000000)->
  (ls.any (jh m)=true->gr 3 fU (ls.map tupI) [.dat G,cH m,.dat Y,x,c]=some (.ret (.int 0)))/\
  (ls.any (jh m)=false->∃x',gr 3 fU (ls.map tupI) [.dat G,cH m,.dat Y,x,c]=some (.next [.dat G,cH m,.dat Y,x',c]))
 |[],x,_=>⟨λh=>by simp at h,λ_=>⟨x,rfl⟩⟩
 |l::ls,x,hl=>by
  have e:=outs (m:=m) (l:=l) (G:=G) (Y:=Y) (c:=c) (hl l af);have ih:=rC (m:=m) (G:=G) (Y:=Y) (c:=c) ls (cH l) λl h=>hl l (ai _ h)
  simp only[aE,gr,fU,aY,aX,e,bF];cases h:jh m l with
  |true=>simp
  |false=>simpa [fU]using ih
theorem NR {y:cn}{G M:D}{c:Sl}:∀(ls:cm) (x:Sl),(∀l∈ls,l.length<1000000)->
  (ls.all (dI y)=false->gr 3 fV (ls.map tupI) [.dat G,.dat M,cH y,x,c]=some (.ret .eU))/\
  (ls.all (dI y)=true->∃x',gr 3 fV (ls.map tupI) [.dat G,.dat M,cH y,x,c]=some (.next [.dat G,.dat M,cH y,x',c]))
 |[],x,_=>⟨λh=>by simp at h,λ_=>⟨x,rfl⟩⟩
 |l::ls,x,hl=>by
  have e:=ins (y:=y) (l:=l) (G:=G) (M:=M) (c:=c) (hl l af);have ih:=NR (y:=y) (G:=G) (M:=M) (c:=c) ls (cH l) λl h=>hl l (ai _ h)
  simp only[aE,gr,fV,aY,aX,e,List.all_cons];cases h:dI y l with
  |false=>simp
  |true=>simpa [fV]using ih
theorem Qy {many:Int}{ls:cm}{f b g:Int}{m y:cn}(hl:∀l∈ls,l.length<1000000):
  kX [lD many ls f b g,tupI m,tupI y]=some (VX (rB ls m y)):=by
 refine LW.dM rfl ?_;show jS [.dat (lD many ls f b g),cH m,cH y,.no,.no]=_;have it:∀x:Sl,iT (di jc (di jc (dc 0) (dC (.int 0))) (dC (.int 1))) [.dat (lD many ls f b g),cH m,cH y,x,.no]=some (ls.map tupI):=λx=>rfl
 obtain⟨a1,a2⟩:=rC (m:=m) (G:=lD many ls f b g) (Y:=tupI y) (c:=.no) ls .no hl;have s3:nj [.dat (lD many ls f b g),cH m,cH y,.no,.no]=gr 3 fU (ls.map tupI) [.dat (lD many ls f b g),cH m,cH y,.no,.no]:=by
  unfold nj lU;rw[it];rfl
 unfold rB;cases h:ls.any (jh m)with
 |true=>
  unfold jS eB;rw[s3,a1 h];rfl
 |false=>
  obtain⟨x,e⟩:=a2 h;unfold jS;rw[LW.cS (s3.trans e)];obtain⟨b1,b2⟩:=NR (y:=y) (G:=lD many ls f b g) (M:=tupI m) (c:=.no) ls x hl;have s6:nq [.dat (lD many ls f b g),cH m,cH y,x,.no]=gr 3 fV (ls.map tupI) [.dat (lD many ls f b g),cH m,cH y,x,.no]:=by
   unfold nq lU;rw[it];rfl
  cases h2:ls.all (dI y)with
  |true=>
   obtain⟨x',e2⟩:=b2 h2;rw[LW.cS (s6.trans e2)];rfl
  |false=>
   unfold eB;rw[s6,b1 h2];rfl
theorem Th {m y c:cn}{w:Int}(h1:m.length+c.length<64) (h2:y.length+c.length<64):
  Eh [tupI m,tupI y,.int w,tupI c]=some (.tup [tupI (fD m y w c).1,tupI (fD m y w c).2]):=by
 refine LW.dM rfl ?_;show mV [cH m,cH y,cG w,cH c]=_;have k1:=lJ (ns:=m++c) (by simpa using h1)
 have k2:=lJ (ns:=y++c) (by simpa using h2)
 unfold fD;have j1:=iN h1;have j2:=iN h2;by_cases h:w=0
 ·subst h;simp[mV,oH,oJ,eB,oY,eE,qB,di,dc,dC,qZ,dW,dP,fz,bV,cN,cQ,cO,dL,fA,j1,k1,lj];rfl
 ·have hw:(w==0)=false:=by simpa using h
  simp[mV,oH,oJ,sZ,eB,oY,jF,hw,eE,qB,di,dc,dC,qZ,dW,dP,fz,bV,cN,cQ,cO,dL,fA,j2,k2,lj,h];rfl
end PC
namespace PC
open PySem DL GP
open LW (dk dq)
open L2 (j9 qX)
end PC
namespace PC
open PySem DL GP
open LW (dk dq)
open L2 (j9 qX)
end PC
namespace PC
open PySem DL GP
open LW (dk dq)
open L2 (j9 qX)
theorem jT {α:Type}{j:Nat}{f:cb}{δ:dO}{φ ψ:α->D}:∀(l:List α),(∀a∈l,f (δ.set j (.dat (φ a)))=some (ψ a))->gS j lV f δ (l.map φ)=some (l.map ψ)
 |[],_=>rfl
 |a::l,h=>by
  rw[aE];unfold gS;have e:lV (δ.set j (.dat (φ a)))=some true:=rfl;simp only[e,h a af,ao,jT l λx hx=>h x (ai _ hx),bA,aE]
theorem jU {F:cf}{f:bY}{δ:dO}{ds:cu}(h:f δ=some ds):cO F (bV (dL f) cN) δ=F [.lst ds]:=by
 simp only[cO,bV,dL,cN,h,bA,ao]
theorem fE {o:D->D->Option D}{f g:cb}{δ:dO}{x y:D}(hf:f δ=some x) (hg:g δ=some y):di o f g δ=o x y:=by
 unfold di;rw[hf,hg];rfl
theorem i8 {f:cb}{δ:dO}{x:D}(hf:f δ=some x):bV f cN δ=some [x]:=by
 unfold bV cN;rw[hf];rfl
theorem ff {f:cb}{g:bY}{δ:dO}{x:D}{r:cu}(hf:f δ=some x) (hg:g δ=some r):bV f g δ=some (x::r):=by
 unfold bV;rw[hf,hg];rfl
theorem de {F:cf}{f:bY}{δ:dO}{ds:cu}(hf:f δ=some ds):cO F f δ=F ds:=by
 unfold cO;rw[hf];rfl
theorem eO {f:cb}{δ:dO}{d:D}(hf:f δ=some d):eE f δ=some (.ret d):=by
 unfold eE;rw[hf];rfl
theorem gu {i:Nat}{f:cb}{δ:dO}{d:D}(hf:f δ=some d):jf i f δ=some (.next (δ.set i (.dat d))):=by
 unfold jf;rw[hf];rfl
theorem xh {q:cc}{f g:bZ}{δ:dO}(h:q δ=some true):oY q f g δ=f δ:=by unfold oY;rw[h]
theorem o6 {q:cc}{f g:bZ}{δ:dO}(h:q δ=some false):oY q f g δ=g δ:=by unfold oY;rw[h]
theorem tj {q:cc}{δ:dO}{b:Bool}(h:q δ=some b):qQ q δ=some (!b):=by unfold qQ;rw[h];rfl
theorem kY {f g:bZ}{δ:dO}{d:D}(h:f δ=some (.ret d)):eB f g δ=some (.ret d):=by unfold eB;rw[h]
theorem gW {f:cb}{δ:dO}{b:Bool}(h:f δ=some (.bl b)):qB f δ=some b:=by
 unfold qB;rw[h]
theorem B6 {α:Type}(l:List α) (q:α->Bool):GR [.lst (l.map λx=>D.bl (q x))]=some (.bl (l.any q)):=by
 have:nD (l.map λx=>D.bl (q x))=some (l.map q):=by
  induction l with
  |nil=>rfl
  |cons a l ih=>simp[nD,ih]
 simp[GR,this,List.any_map]
theorem FC (i:Int) (m:cn):yL (.int i) (tupI m)=some (.bl (decide (i∈m))):=Aq i m
theorem Hg {m l:cn}(hl:l.length<1000000):nW [tupI m,tupI l]=some (.bl (jh m l)):=by
 refine LW.dM rfl ?_;show p7 [cH m,cH l,.no]=_;have key:gS 2 lV (di yL (dc 2) (dc 0)) [cH m,cH l,.no] (l.map D.int)=some (l.map λi=>D.bl (decide (i∈m))):=jT l λi _=>FC i m
 have iE:(l.map D.int).length<1000000:=by simpa using hl
 have e:dR (iT (cQ 1)) 2 lV (di yL (dc 2) (dc 0)) [cH m,cH l,.no]=some (l.map λi=>D.bl (decide (i∈m))):=by
  show(if(l.map D.int).length<1000000 then _ else _)=_
  rw[if_pos iE,key]
 unfold p7 eE cO bV dL;rw[e];simp only[bA,ao,cN];rw[LW.wX l (λi=>decide (i∈m))]
 rfl
theorem rY {m l:cn}(hl:l.length<1000000):fT [tupI m,tupI l]=some (.bl (dI m l)):=by
 refine LW.dM rfl ?_;show oG [cH m,cH l,.no]=_;have key:gS 2 lV (di yL (dc 2) (dc 0)) [cH m,cH l,.no] (l.map D.int)=some (l.map λi=>D.bl (decide (i∈m))):=jT l λi _=>FC i m
 have iE:(l.map D.int).length<1000000:=by simpa using hl
 have e:dR (iT (cQ 1)) 2 lV (di yL (dc 2) (dc 0)) [cH m,cH l,.no]=some (l.map λi=>D.bl (decide (i∈m))):=by
  show(if(l.map D.int).length<1000000 then _ else _)=_
  rw[if_pos iE,key]
 unfold oG eE cO bV dL;rw[e];simp only[bA,ao,cN];rw[B6 l (λi=>decide (i∈m))]
 rfl
theorem Ti {many:Int}{ls:cm}{f b g w:Int}(hw:w=0\/w=1):dZ [lD many ls f b g,.int w]=some (.int (if w=0 then b else g)):=by
 rcases hw with rfl|rfl<;>rfl
theorem Kt {m y c:cn}{w:Int}(h1:m.length+c.length<64) (h2:y.length+c.length<64):
  qc [tupI m,tupI y,.int w,tupI c]=some (.tup [tupI (fD m y w c).1,tupI (fD m y w c).2]):=Th h1 h2
theorem FD {rc:cf}{ps:cn}{C:Sl}{k:Int}{p:Int}(hp:j9 ps k=some p):∀(cs acc:cm) (x:Sl),(∀c∈cs,c.length<1000)->acc.length+cs.length<1000000->
  ∃x',gr 4 (jP rc) (cs.map tupI) [cH ps,C,.own (acc.map tupI),cG k,x]=some (.next [cH ps,C,.own ((acc++cs.map (p:: ·)).map tupI),cG k,x'])
 |[],acc,x,_,_=>⟨x,by simp[gr]⟩
 |c::cs,acc,x,hc,ha=>by
  simp only[ax]at ha;have hx:jc (tupI ps) (.int k)=some (.int p):=by
   show j9 (ps.map D.int) k=_;have:j9 (ps.map D.int) k=(j9 ps k).map D.int:=by
    unfold j9 qX;simp only[ae];split
    ·split
     ·simp
     ·rfl
    ·split
     ·simp
     ·rfl
   rw[this,hp];rfl
  have e1:di jM (fz (bV (di jc (dc 0) (dc 3)) cN)) (dc 4) [cH ps,C,.own (acc.map tupI),cG k,cH c]=some (tupI (p::c)):=by
   have e0:fz (bV (di jc (dc 0) (dc 3)) cN) [cH ps,C,.own (acc.map tupI),cG k,cH c]=some (tupI [p]):=by
    have:di jc (dc 0) (dc 3) [cH ps,C,.own (acc.map tupI),cG k,cH c]=some (.int p):=hx;unfold fz bV;rw[this];rfl
   have:jM (tupI [p]) (tupI c)=some (tupI ([p]++c)):=by
    have h1:=hc c af;have:1+c.length<=1000000:=by omega
    simp[jM,tupI,this]
   exact(fE e0 rfl).trans this
  have e2:p9 rc [cH ps,C,.own (acc.map tupI),cG k,cH c]=some (.next [cH ps,C,.own ((acc++[p::c]).map tupI),cG k,cH c]):=by
   unfold p9 Bi;have hl:(acc.map tupI).length<1000000:=by rw[ae];omega
   simp only[aK,aM];rw[e1];simp only[ao,if_pos hl,aY,aX,List.map_append,aE,List.map_nil]
  obtain⟨x',ih⟩:=FD (rc:=rc) (C:=C) hp cs (acc++[p::c]) (cH c) (λd hd=>hc d (ai _ hd)) (by rw[aQ];simp;omega)
  refine⟨x',?_⟩;simp only[aE,gr,aY,aX];unfold jP at ih ⊢;rw[e2];simp only;rw[ih];simp
theorem Ku (ps:cn) (k:Nat) (h:k<ps.length):cutD (ps.map D.int) (some ((k:Int)+1)) none=(ps.drop (k+1)).map D.int:=by
 unfold cutD;have e1:HT.ij (ps.map D.int).length 0 (some ((k:Int)+1))=k+1:=by
  unfold HT.ij;simp only[ae];split<;>omega
 have e2:HT.ij (ps.map D.int).length (ps.map D.int).length none=ps.length:=by simp[HT.ij]
 rw[e1,e2,List.take_of_length_le (by simp),List.map_drop]
end PC
namespace PC
open PySem DL GP
open LW (dk dq)
open L2 (j9 qX)
theorem tm:∀(n:Nat) (lo:Int),dJ lo n=(List.range n).map λ(k:Nat)=>lo+(k:Int)
 |0,_=>rfl
 |n+1,lo=>by
  rw[List.range_succ_eq_map,aE,aV];show lo::dJ (lo+1) n=_;rw[tm n (lo+1)];simp only[Int.ofNat_zero,Int.add_zero,List.cons.injEq];refine⟨by simp,bS λk _=>?_⟩
  simp only[Function.comp];omega
theorem B7 {rc:cf}{ps:cn}{c:Nat}(hz:ps.length<=12):∀(ks:List Nat) (acc:cm) (x3 x4:Sl),
  (∀k∈ks,k<ps.length/\rc [tupI (ps.drop (k+1)),.int (c:Int)]=some (.tup ((comb c (ps.drop (k+1))).map tupI)))->acc.length+ks.length*4096<1000000->
  ∃x3' x4',gr 3 (jQ rc) (ks.map λ(k:Nat)=>D.int (k:Int)) [cH ps,cG ((c:Int)+1),.own (acc.map tupI),x3,x4]=
   some (.next [cH ps,cG ((c:Int)+1),.own ((acc++ks.flatMap (w5 c ps)).map tupI),x3',x4'])
 |[],acc,x3,x4,_,_=>⟨x3,x4,by simp[gr]⟩
 |k::ks,acc,x3,x4,h,ha=>by
  obtain⟨hk,hr⟩:=h k af;simp only[ax]at ha;have hp:ps[k]? =some ps[k]:=ah hk;have hat:j9 ps (k:Int)=some ps[k]:=by rw[LW.Fu ps k hk,hp]
  have hm:(comb c (ps.drop (k+1))).length<=4096:=by
   refine aB (qE c _) ?_;have:(ps.drop (k+1)).length<=12:=by rw[List.length_drop];omega
   exact aB (Nat.pow_le_pow_right (by omega) this) (by decide)
  have et:w5 c ps k=(comb c (ps.drop (k+1))).map (ps[k]:: ·):=by unfold w5;rw[hp]
  obtain⟨x',e⟩:=FD (rc:=rc) (C:=cG ((c:Int)+1)) hat (comb c (ps.drop (k+1))) acc x4 (λd hd=>by
   have h1:=(sX c _ d hd).1;have h2:c<=(ps.drop (k+1)).length:=by
    rcases Nat.lt_or_ge (ps.drop (k+1)).length c with z|z
    ·rw[mD c _ z]at hd;cases hd
    ·exact z
   rw[List.length_drop]at h2;omega) (by omega)
  have e7:qa rc [cH ps,cG ((c:Int)+1),.own (acc.map tupI),cG (k:Int),x4]=some (.next [cH ps,cG ((c:Int)+1),.own ((acc++w5 c ps k).map tupI),cG (k:Int),x']):=by
   have i1:GQ (dc 0) (Bl (di jI (dc 3) (dC (.int 1)))) Pq [cH ps,cG ((c:Int)+1),.own (acc.map tupI),cG (k:Int),x4]=some (tupI (ps.drop (k+1))):=by
    show some (D.tup (cutD (ps.map D.int) (some ((k:Int)+1)) none))=_;rw[Ku ps k hk];rfl
   have i2:di rP (dc 1) (dC (.int 1)) [cH ps,cG ((c:Int)+1),.own (acc.map tupI),cG (k:Int),x4]=some (.int (c:Int)):=by
    show some (D.int ((c:Int)+1-1))=_
    congr 2;omega
   have i3:iT (cO rc (bV (GQ (dc 0) (Bl (di jI (dc 3) (dC (.int 1)))) Pq) (bV (di rP (dc 1) (dC (.int 1))) cN))) [cH ps,cG ((c:Int)+1),.own (acc.map tupI),cG (k:Int),x4]=some ((comb c (ps.drop (k+1))).map tupI):=by
    unfold iT;rw[de (ff i1 (i8 i2)),hr]
   unfold qa lU;rw[i3];show gr 4 (jP rc) _ _=_;rw[e,et]
  obtain⟨y3,y4,ih⟩:=B7 (rc:=rc) hz ks (acc++w5 c ps k) (cG (k:Int)) x' (λj hj=>h j (ai _ hj)) (by rw[aQ,et,ae];omega)
  refine⟨y3,y4,?_⟩;simp only[aE,gr,aY,aX];unfold jQ at ih ⊢;rw[e7];simp only;rw[ih];simp[List.append_assoc]
theorem zh:∀(n c:Nat) (ps:cn),c<n->ps.length<=12->fc n [tupI ps,.int (c:Int)]=some (.tup ((rW c ps).map tupI))
 |0,c,ps,h,_=>by omega
 |n+1,c,ps,h,hz=>by
  unfold fc;refine LW.dM rfl ?_;show mE (fc n) [cH ps,cG (c:Int),.no,.no,.no]=_;have q2:qB (di U0 (dc 1) (cO iH (bV (dc 0) cN))) [cH ps,cG (c:Int),.no,.no,.no]=some (decide (ps.length<=c)):=by
   have:cO iH (bV (dc 0) cN) [cH ps,cG (c:Int),.no,.no,.no]=some (.int (ps.length:Int)):=by
    show some (D.int ((ps.map D.int).length:Int))=_;rw[ae]
   refine gW ((fE rfl this).trans ?_);show some (D.bl (decide ((ps.length:Int)<=(c:Int))))=_
   congr 2
   exact decide_eq_decide.mpr (by omega)
  unfold mE;by_cases h1:ps.length<=c
  ·have e2:kW (fc n) [cH ps,cG (c:Int),.no,.no,.no]=some (.ret (.tup [tupI ps])):=by
    unfold kW;rw[xh (by rw[q2,aR h1])]
    rfl
   rw[kY e2];unfold rW;rw[if_pos h1];rfl
  ·have e2:kW (fc n) [cH ps,cG (c:Int),.no,.no,.no]=some (.next [cH ps,cG (c:Int),.no,.no,.no]):=by
    unfold kW;rw[o6 (by rw[q2,aG h1])]
    rfl
   rw[LW.cS e2,BX (by omega)]
   cases c with
   |zero=>cases ps<;>rfl
   |succ c=>
    have e4:p8 (fc n) [cH ps,cG ((c+1:Nat):Int),.no,.no,.no]=some (.next [cH ps,cG ((c:Int)+1),.no,.no,.no]):=by
     unfold p8;have:qB (di qZ (dc 1) (dC (.int 0))) [cH ps,cG ((c+1:Nat):Int),.no,.no,.no]=some false:=by
      refine gW ((fE rfl rfl).trans ?_);show qZ (.int ((c+1:Nat):Int)) (.int 0)=_;have:dP (.int ((c+1:Nat):Int)) (.int 0)=false:=by
       simp[dP];omega
      unfold qZ;rw[this];rfl
     rw[o6 this];rfl
    have e5:u3 (fc n) [cH ps,cG ((c:Int)+1),.no,.no,.no]=some (.next [cH ps,cG ((c:Int)+1),.own (([]:cm).map tupI),.no,.no]):=rfl;rw[LW.cS e4,LW.cS e5];obtain⟨x3,x4,e⟩:=B7 (rc:=fc n) (ps:=ps) (c:=c) hz (List.range (ps.length-c)) [] .no .no (λk hk=>by
     have:=List.mem_range.mp hk;refine⟨by omega,?_⟩
     rw[zh n c (ps.drop (k+1)) (by omega) (by rw[List.length_drop];omega),BX (by rw[List.length_drop];omega)]) (by simp;omega)
    have it:ug (bV (di jI (di rP (cO iH (bV (dc 0) cN)) (dc 1)) (dC (.int 1))) cN) [cH ps,cG ((c:Int)+1),.own (([]:cm).map tupI),.no,.no]=some ((List.range (ps.length-c)).map λ(k:Nat)=>D.int (k:Int)):=by
     have:bV (di jI (di rP (cO iH (bV (dc 0) cN)) (dc 1)) (dC (.int 1))) cN [cH ps,cG ((c:Int)+1),.own (([]:cm).map tupI),.no,.no]=some [.int ((ps.length:Int)-((c:Int)+1)+1)]:=by
      show some [D.int (((ps.map D.int).length:Int)-((c:Int)+1)+1)]=_;rw[ae]
     unfold ug;rw[this];show(if _ then some ((dJ 0 ((ps.length:Int)-((c:Int)+1)+1).toNat).map D.int)else none)=_
     rw[if_pos ⟨by omega,by omega⟩,show((ps.length:Int)-((c:Int)+1)+1).toNat=ps.length-c by omega,tm,aV]
     congr 1
     refine bS λk _=>?_
     simp
    have e8:qb (fc n) [cH ps,cG ((c:Int)+1),.own (([]:cm).map tupI),.no,.no]=some (.next [cH ps,cG ((c:Int)+1),.own ((comb (c+1) ps).map tupI),x3,x4]):=by
     unfold qb lU;rw[it];show gr 3 (jQ (fc n)) _ _=_;rw[e,List.nil_append,za]
    rw[LW.cS e8];rfl
theorem FE {many:Int}{L:D}{m y:cn}(hm0:0<=many) (hm:many<=12) (hl:m.length+y.length<64):
  gZ [.tup [.int many,L],tupI m,tupI y]=some (tupI (dg many m y)):=by
 refine LW.dM rfl ?_;show jR [.dat (.tup [.int many,L]),cH m,cH y,.no,.no]=_;have hf:=nN many m y;have e1:o5 [.dat (.tup [.int many,L]),cH m,cH y,.no,.no]=some (.next [.dat (.tup [.int many,L]),cH m,cH y,cH (m++y),.no]):=gu ((fE rfl rfl).trans (iN hl));have key:gS 4 (qB (di qR (dc 4) (dc 3))) (cQ 4) [.dat (.tup [.int many,L]),cH m,cH y,cH (m++y),.no] ((dJ 0 many.toNat).map D.int)=some ((((dJ 0 many.toNat).map D.int).filter λd=> !decide (intOf d∈m++y)).map id):=by
  refine LW.jN _ ?_ ?_
  ·intro d hd;obtain⟨i,_,rfl⟩:=List.mem_map.mp hd;exact gW ((fE rfl rfl).trans (nM i (m++y)))
  ·intro d hd _;simp[cQ]
 rw[mT (λi=> !decide (i∈m++y)),List.map_id]at key
 have it:ug (bV (di jc (dc 0) (dC (.int 0))) cN) [.dat (.tup [.int many,L]),cH m,cH y,cH (m++y),.no]=some ((dJ 0 many.toNat).map D.int):=by
  have:bV (di jc (dc 0) (dC (.int 0))) cN [.dat (.tup [.int many,L]),cH m,cH y,cH (m++y),.no]=some [.int many]:=rfl;unfold ug;rw[this];exact if_pos ⟨by omega,by omega⟩
 unfold jR;rw[LW.cS e1];refine eO ((jU (ds:=(dg many m y).map D.int) ?_).trans rfl);have hlen:((dJ 0 many.toNat).map D.int).length<1000000:=by rw[ae,dS];omega
 unfold dR;rw[it];simp only[ao,if_pos hlen];exact key
end PC
namespace PW
open PySem DL
noncomputable def Ug:D->j8:=λd=>GP.Ks d
end PW
namespace PW
open PySem DL GP PC
open LW (dk dq)
open L2 (j9 qX)
noncomputable def xi:bZ:=
  (eE (R5 (qB (di qZ (dc 0) (dC (.int 0)))) (dC (.int 1)) (dC (.int 0))))
noncomputable def rF:bZ:=
  xi
noncomputable def gm:cf:=gi 1 1 rF
noncomputable def rG:bZ:=
  (eE (cO lj (bV (dL (dR (iT (cQ 0)) 2 (qB (di qR (dc 2) (dc 1))) (cQ 2))) cN)))
noncomputable def iO:bZ:=
  rG
noncomputable def fF:cf:=gi 3 2 iO
noncomputable def o7:bZ:=
  (eE (cO GR (bV (dL (dR (iS (cQ 1)) 2 lV (GA (di Me (dc 2) (dc 0)) (cO nW (bV (cQ 0) (bV (cQ 2) cN)))))) cN)))
noncomputable def jV:bZ:=
  o7
noncomputable def ji:cf:=gi 3 2 jV
noncomputable def xj:bZ:=
  (eE (cO GH (bV (dL (dR (iL (dc 1)) 2 lV (cO fT (bV (cQ 0) (bV (cQ 2) cN))))) cN)))
noncomputable def qG:bZ:=
  xj
noncomputable def qd:cf:=gi 3 2 qG
noncomputable def tu:bZ:=
  (vL 1 (cQ 3))
noncomputable def fW:bZ:=
  tu
noncomputable def mW:bZ:=
  (lU 3 (iT (cQ 2)) fW)
noncomputable def eQ:bZ:=
  mW
noncomputable def jW:bZ:=
  (lU 2 (iT (cQ 0)) eQ)
noncomputable def mX:bZ:=
  (eE (cO lj (bV (dL (qx 1)) cN)))
noncomputable def fX:bZ:=
  (eB jW
  mX)
noncomputable def kn:bZ:=
  (vK 1 fX)
noncomputable def gc:cf:=gi 4 1 kn
noncomputable def qe:bZ:=
  (iq 3 (dR (iS (cQ 0)) 5 (qQ (qB (cO fT (bV (cQ 2) (bV (cQ 5) cN))))) (cO fF (bV (cQ 5) (bV (cQ 1) cN)))))
noncomputable def mF:bZ:=
  (iq 4 (pV (dc 3)))
noncomputable def jX:bZ:=
  (eE (cO lj (bV (dL (dR (iL (dc 4)) 5 (qQ (qB (cO ji (bV (cQ 5) (bV (cQ 4) cN))))) (cQ 5))) cN)))
noncomputable def kH:bZ:=
  (eB qe
  (qY 3 (eB mF
  (qY 4 jX))))
noncomputable def eV:cf:=gi 6 3 kH
noncomputable def kr (G:D):bZ:=
  (jf 3 (cO (fc 5) (bV (cO gc (bV (cQ 1) cN)) (bV (cO dZ (bV (nF G 0) (bV (cQ 2) cN))) cN))))
noncomputable def uC (G:D):bZ:=
  (eE (cQ 3))
noncomputable def kx (G:D):bZ:=
  (oY (qB (di qZ (dc 2) (dC (.int 0)))) (uC G) jF)
noncomputable def nX (G:D):bZ:=
  (iq 4 (dR (iT (cQ 1)) 5 (qB (di OX (cO iH (bV (dc 5) cN)) (cO dZ (bV (nF G 0) (bV (dC (.int 0)) cN))))) (cQ 5)))
noncomputable def ky (G:D):bZ:=
  (eE (cO lj (bV (dL (dR (iT (cQ 3)) 6 (qB (cO qd (bV (cQ 6) (bV (cQ 4) cN)))) (cQ 6))) cN)))
noncomputable def gX (G:D):bZ:=
  (eB (kr G)
  (eB (kx G)
  (eB (nX G)
  (qY 4 (ky G)))))
noncomputable def gE:cf:=nH 7 3 gX
noncomputable def oK (G:D) (dr:cf):bZ:=
  (jf 3 (cO Bv (bV (dL (dR (iT (cQ 1)) 6 lV (cO iH (bV (dc 6) cN)))) cN)))
noncomputable def Aw (G:D) (dr:cf):bZ:=
  (eE (dC (.int 0)))
noncomputable def jY (G:D) (dr:cf):bZ:=
  (oY (kQ (qB (di qZ (dc 2) (dC (.int 0)))) (qB (di OX (dc 3) (cO dZ (bV (nF G 0) (bV (dC (.int 0)) cN)))))) (Aw G dr) jF)
noncomputable def oM (G:D) (dr:cf):bZ:=
  (jf 5 (cO qc (bV (fz cN) (bV (fz cN) (bV (cQ 2) (bV (cQ 4) cN))))))
noncomputable def Ax (G:D) (dr:cf):bZ:=
  (eE (cQ 2))
noncomputable def tw (G:D) (dr:cf):bZ:=
  (oY (qB (di qZ (mh 0 G dr (bV (cO eV (bV (cQ 1) (bV (di jc (dc 5) (dC (.int 0))) (bV (di jc (dc 5) (dC (.int 1))) cN)))) (bV (cO gm (bV (cQ 2) cN)) cN))) (dc 2))) (Ax G dr) jF)
noncomputable def fH (G:D) (dr:cf):bZ:=
  (eB (oM G dr)
  (tw G dr))
noncomputable def oN (G:D) (dr:cf):bZ:=
  (lU 4 (iT (mh 0 G gE (bV (cQ 1) (bV (cQ 2) cN)))) (fH G dr))
noncomputable def tE (G:D) (dr:cf):bZ:=
  (eE (cO gm (bV (cQ 2) cN)))
noncomputable def jy (G:D) (dr:cf):bZ:=
  (eB (oK G dr)
  (eB (jY G dr)
  (eB (oN G dr)
  (tE G dr))))
noncomputable def yg (G:D) (dN:cf):bZ:=
  (eE (dC (.int 1)))
noncomputable def kJ (G:D) (dN:cf):bZ:=
  (oY (qB (di qZ (cO iH (bV (dc 1) cN)) (dC (.int 0)))) (yg G dN) jF)
noncomputable def yh (G:D) (dN:cf):bZ:=
  (eE (dC (.int 0)))
noncomputable def jj (G:D) (dN:cf):bZ:=
  (oY (qB (di yL (fz cN) (dc 1))) (yh G dN) jF)
noncomputable def nr (G:D) (dN:cf):bZ:=
  (pM (Ug G) 0 (fz (bV (cQ 1) (bV (cQ 2) cN))) (mh 0 G dN (bV (cQ 1) (bV (cQ 2) cN))))
noncomputable def nt (G:D) (dN:cf):bZ:=
  (sH 0 [] (fz (bV (cQ 1) (bV (cQ 2) cN))) (nr G dN))
noncomputable def rH (G:D) (dN:cf):bZ:=
  (eE (pL (Ug G) 0 (fz (bV (cQ 1) (bV (cQ 2) cN)))))
noncomputable def iP (G:D) (dN:cf):bZ:=
  (eB (kJ G dN)
  (eB (jj G dN)
  (eB (nt G dN)
  (rH G dN))))
mutual
noncomputable def mG:Nat->cf
 |0=>λ_=>none
 |n+1=>nH 7 3 (λG=>jy G (gO n))
noncomputable def gO:Nat->cf
 |0=>λ_=>none
 |n+1=>nH 3 3 (λG=>iP G (mG n))
end
noncomputable def rJ (G:D):bZ:=
  (eE (mh 0 G (gO 24) (bV (cO eV (bV (di jc (di jc (nF G 0) (dC (.int 0))) (dC (.int 1))) (bV (cQ 1) (bV (cQ 2) cN)))) (bV (cQ 3) cN))))
noncomputable def jZ (G:D):bZ:=
  (rJ G)
noncomputable def mY:cf:=nH 4 4 jZ
noncomputable def o8:bZ:=
  (eE (sL mY (cQ 0) (bV (cQ 1) (bV (cQ 2) (bV (cQ 3) cN)))))
noncomputable def j0:bZ:=
  o8
noncomputable def g7:cf:=gi 4 4 j0
noncomputable def xk:bZ:=
  (eE (cO g7 (bV (cQ 0) (bV (fz cN) (bV (fz cN) (bV (di jc (dc 0) (dC (.int 1))) cN))))))
noncomputable def qH:bZ:=
  xk
noncomputable def nY:cf:=gi 1 1 qH
end PW
namespace PC
open PySem DL GP
open L2 (j9 qX)
theorem iQ {j:Nat}{f:bZ}{d:D}{ds:cu}{δ δ':dO}(h:f (δ.set j (.dat d))=some (.next δ')):gr j f (d::ds) δ=gr j f ds δ':=by simp only[gr,h]
theorem Kv {j:Nat}{f:bZ}{d r:D}{ds:cu}{δ:dO}(h:f (δ.set j (.dat d))=some (.ret r)):gr j f (d::ds) δ=some (.ret r):=by simp only[gr,h]
theorem qI {j:Nat}{i:bY}{f:bZ}{δ:dO}{ds:cu}{r:Option R}(h:i δ=some ds) (h2:gr j f ds δ=r):lU j i f δ=r:=by
 unfold lU;rw[h];exact h2
theorem gF {α:Type}{j:Nat}{t:cc}{f:cb}{δ:dO}{φ ψ:α->D}{p:α->Bool}:∀(l:List α),(∀a∈l,t (δ.set j (.dat (φ a)))=some (p a))->(∀a∈l,p a=true->f (δ.set j (.dat (φ a)))=some (ψ a))->gS j t f δ (l.map φ)=some ((l.filter p).map ψ)
 |[],_,_=>rfl
 |a::r,h1,h2=>by
  have ih:=gF r (λb hb=>h1 b (ai _ hb)) λb hb=>h2 b (ai _ hb)
  show gS j t f δ (φ a::r.map φ)=_;unfold gS;rw[h1 a af,br];cases hp:p a with
  |true=>
   simp only[if_true];rw[h2 a af hp,ih];rfl
  |false=>simpa using ih
theorem j3 {j:Nat}{i:bY}{t:cc}{f:cb}{δ:dO}{ds:cu}{r:Option (cu)}(h:i δ=some ds) (hl:ds.length<1000000) (h2:gS j t f δ ds=r):dR i j t f δ=r:=by
 unfold dR;rw[h];simp only[ao,if_pos hl];exact h2
theorem tG {i:Nat}{f:bY}{δ:dO}{ds:cu}(h:f δ=some ds):iq i f δ=some (.next (δ.set i (.own ds))):=by
 unfold iq;rw[h];rfl
theorem B8 {x:D}(h:dW x<=30):Me x x=some (.bl false):=by
 unfold Me;rw[if_pos h,pH];rfl
theorem Tj {f g:cc}{δ:dO}{r:Option Bool}(h1:f δ=some false) (h2:g δ=r):O1 f g δ=r:=by
 unfold O1;rw[h1];exact h2
theorem xl {f g:cc}{δ:dO}{r:Option Bool}(h1:f δ=some true) (h2:g δ=r):kQ f g δ=r:=by
 unfold kQ;rw[h1];exact h2
theorem Ay {f g:cc}{δ:dO}(h1:f δ=some false):kQ f g δ=some false:=by
 unfold kQ;rw[h1]
theorem Kw (a b:cn):Me (tupI a) (tupI b)=some (.bl (!decide (a=b))):=by
 unfold Me;rw[if_pos (by rw[LW.BP];omega),LW.BO]
theorem tH (a b:Int):qZ (.int a) (.int b)=some (.bl (decide (a=b))):=by
 have:qZ (.int a) (.int b)=some (.bl (a==b)):=rfl;rw[this]
 congr 2
theorem Kx (a:cn) (L:cm):yL (tupI a) (.tup (L.map tupI))=some (.bl (decide (a∈L))):=by
 show(if jg (L.map tupI)<=30 then some (D.bl (memD (tupI a) (L.map tupI)))else none)=_
 have:=LW.qz L;rw[if_pos (by omega),LW.uz]
end PC
namespace PW
open PySem DL GP PC
open LW (dk dq)
open L2 (j9 qX)
open ST (gU vJ)
theorem FF {w:Int}(hw:w=0\/w=1):gm [.int w]=some (.int (1-w)):=by
 refine LW.dM rfl ?_;rcases hw with rfl|rfl<;>rfl
theorem qf {l m:cn}(hl:l.length<1000000):fF [tupI l,tupI m]=some (tupI (uZ m l)):=by
 refine LW.dM rfl ?_;show iO [cH l,cH m,.no]=_;unfold iO rG;refine eO ((jU (ds:=(uZ m l).map D.int) ?_).trans rfl);exact j3 (ds:=l.map D.int) rfl (by simpa using hl) (gF l (λi _=>gW ((fE rfl rfl).trans (nM i m))) λi _ _=>rfl)
theorem MU {f g:cb}{δ:dO}{a b:Bool}(hf:f δ=some (.bl a)) (hg:g δ=some (.bl b)):GA f g δ=some (.bl (a&&b)):=by
 unfold GA;rw[hf];cases a
 ·rfl
 ·simpa using hg
theorem yi {l:cn}{L:cm}{S:D}(hS:S=.tup (L.map tupI)\/S=.lst (L.map tupI)) (hn:L.length<1000000) (hl:∀o∈L,o.length<1000000):ji [tupI l,S]=some (.bl (Kn l L)):=by
 refine LW.dM rfl ?_;show jV [cH l,.dat S,.no]=_;unfold jV o7 Kn;have it:iS (cQ 1) [cH l,.dat S,.no]=some (L.map tupI):=by rcases hS with rfl|rfl<;>rfl
 refine eO ((jU (ds:=L.map λo=>D.bl ((!decide (o=l))&&jh l o)) ?_).trans (B6 L _))
 exact j3 it (by simpa using hn) (jT L λo ho=>MU ((fE rfl rfl).trans (Kw o l)) ((de rfl).trans (Hg (hl o ho))))
theorem Ky {c:cn}{L:cm}(hn:L.length<1000000) (hl:∀o∈L,o.length<1000000):qd [tupI c,.lst (L.map tupI)]=some (.bl (L.all λl=>dI c l)):=by
 refine LW.dM rfl ?_;show qG [cH c,.dat (.lst (L.map tupI)),.no]=_;unfold qG xj;refine eO ((jU (ds:=L.map λo=>D.bl (dI c o)) ?_).trans (LW.wX L _))
 exact j3 (ds:=L.map tupI) rfl (by simpa using hn) (jT L λo ho=>(de rfl).trans (rY (hl o ho)))
theorem xm {α:Type} [BEq α] [LawfulBEq α]:∀(n:Nat) (l:List α),l.length<=n->l.eraseDups.length<=l.length
 |_,[],_=>by simp
 |0,_::_,h=>by simp at h
 |n+1,a::l,h=>by
  rw[List.eraseDups_cons,ax,ax];have h1:=aW (λb=> !b==a) l
  have h2:=xm n (l.filter λb=> !b==a) (aB h1 (by simpa using h))
  omega
theorem Kz {L:cm}{S:D}{m y:cn}(hS:S=.tup (L.map tupI)\/S=.lst (L.map tupI)) (hn:L.length<=18) (hl:∀o∈L,o.length<1000000):eV [S,tupI m,tupI y]=some (.tup ((gN L m y).map tupI)):=by
 refine LW.dM rfl ?_;show kH [.dat S,cH m,cH y,.no,.no,.no]=_;have it:iS (cQ 0) [.dat S,cH m,cH y,.no,.no,.no]=some (L.map tupI):=by rcases hS with rfl|rfl<;>rfl
 have k1:dR (iS (cQ 0)) 5 (qQ (qB (cO fT (bV (cQ 2) (bV (cQ 5) cN))))) (cO fF (bV (cQ 5) (bV (cQ 1) cN))) [.dat S,cH m,cH y,.no,.no,.no]=some ((ft L m y).map tupI):=by
  unfold ft;rw[aV];exact j3 it (by rw[ae];omega) (gF L (λl iE=>tj (gW ((de rfl).trans (rY (hl l iE))))) λl iE _=>(de rfl).trans (qf (hl l iE)))
 have e1:qe [.dat S,cH m,cH y,.no,.no,.no]=some (.next [.dat S,cH m,cH y,.own ((ft L m y).map tupI),.no,.no]):=tG k1;have QK:(ft L m y).length<=18:=by unfold ft;rw[ae];exact aB (aW _ _) hn
 have hnl:∀o∈ft L m y,o.length<1000000:=λo ho=>by
  obtain⟨l,iE,_,rfl⟩:=fS.mp ho;exact Nat.lt_of_le_of_lt (aW _ _) (hl l iE)
 have hul:∀o∈gM (ft L m y).eraseDups,o.length<1000000:=λo ho=>hnl o (Fz.mp ho)
 have X7:(gM (ft L m y).eraseDups).length<1000000:=by
  rw[(fq _).length_eq];exact Nat.lt_of_le_of_lt (xm _ _ (au _)) (by omega)
 have k2:pV (dc 3) [.dat S,cH m,cH y,.dat (.lst ((ft L m y).map tupI)),.no,.no]=some ((gM (ft L m y).eraseDups).map tupI):=by
  show(if((ft L m y).map tupI).length<=18 then(lY ((ft L m y).map tupI)).map _ else none)=_
  rw[if_pos (by rw[ae];exact QK),wq];rfl
 have e2:mF [.dat S,cH m,cH y,.dat (.lst ((ft L m y).map tupI)),.no,.no]=some (.next [.dat S,cH m,cH y,.dat (.lst ((ft L m y).map tupI)),.own ((gM (ft L m y).eraseDups).map tupI),.no]):=tG k2;unfold kH;rw[LW.cS e1];show(eB mF (qY 4 jX)) [.dat S,cH m,cH y,.dat (.lst ((ft L m y).map tupI)),.no,.no]=_;rw[LW.cS e2];show jX [.dat S,cH m,cH y,.dat (.lst ((ft L m y).map tupI)),.dat (.lst ((gM (ft L m y).eraseDups).map tupI)),.no]=_;unfold jX;refine eO ((jU (ds:=(gN L m y).map tupI) ?_).trans rfl);unfold gN MR;exact j3 (ds:=(gM (ft L m y).eraseDups).map tupI) rfl (by rw[ae];exact X7) (gF _ (λl iE=>tj (gW ((de rfl).trans (yi (.inr rfl) X7 hul)))) λl _ _=>rfl)
noncomputable def vq (kvs:List (Int×Int)) (L:cm):List (Int×Int):=L.foldl (λk l=>l.foldl nL k) kvs
noncomputable def eC (L:cm):cn:=(gM (gU (vq [] L))).map λns=>ns.getD 1 0
theorem KA (kvs:List (Int×Int)) (p:Int):(nL kvs p).map (·.1)=if p∈kvs.map (·.1)then kvs.map (·.1)else kvs.map (·.1)++[p]:=by
 have ha:(kvs.any λkv=>decide (kv.1=p))=decide (p∈kvs.map (·.1)):=by
  rw[Bool.eq_iff_iff];simp[bO]
 unfold nL;rw[ha];by_cases h:p∈kvs.map (·.1)
 ·rw[if_pos (aR h),if_pos h,aV];refine bS λkv _=>?_
  simp only[Function.comp_apply];split<;>rfl
 ·rw[if_neg (by rw[aG h];simp),if_neg h,List.map_append];rfl
theorem FG (kvs:List (Int×Int)) (p:Int):(nL kvs p).length<=kvs.length+1:=by
 unfold nL;split
 ·rw[ae];omega
 ·simp
theorem zi:∀(l:cn) (kvs:List (Int×Int)),(kvs.map (·.1)).Nodup->((l.foldl nL kvs).map (·.1)).Nodup/\∀p,p∈(l.foldl nL kvs).map (·.1)↔p∈kvs.map (·.1)\/p∈l
 |[],kvs,h=>⟨h,λp=>by simp⟩
 |q::l,kvs,h=>by
  have e:=KA kvs q;have hn:((nL kvs q).map (·.1)).Nodup:=by
   rw[e];split
   ·exact h
   ·rename_i hq;rw[List.nodup_append];exact⟨h,by simp,λa ha b hb=>by simp at hb;subst hb;intro z;subst z;exact hq ha⟩
  obtain⟨h1,h2⟩:=zi l (nL kvs q) hn;refine⟨h1,λp=>(h2 p).trans ?_⟩
  rw[e];by_cases hq:q∈kvs.map (·.1)
  ·rw[if_pos hq,List.mem_cons];constructor
   ·rintro(z|z)
    ·exact .inl z
    ·exact .inr (.inr z)
   ·rintro(z|rfl|z)
    ·exact .inl z
    ·exact .inl hq
    ·exact .inr z
  ·rw[if_neg hq];simp only[List.mem_append,List.mem_cons,bH,or_false];constructor
   ·rintro((z|z)|z)
    ·exact .inl z
    ·exact .inr (.inl z)
    ·exact .inr (.inr z)
   ·rintro(z|z|z)
    ·exact .inl (.inl z)
    ·exact .inl (.inr z)
    ·exact .inr z
theorem xn:∀(L:cm) (kvs:List (Int×Int)),(kvs.map (·.1)).Nodup->((vq kvs L).map (·.1)).Nodup/\∀p,p∈(vq kvs L).map (·.1)↔p∈kvs.map (·.1)\/∃l∈L,p∈l
 |[],kvs,h=>⟨h,λp=>by simp[vq]⟩
 |l::L,kvs,h=>by
  obtain⟨h1,h2⟩:=zi l kvs h;obtain⟨h3,h4⟩:=xn L (l.foldl nL kvs) h1;refine⟨h3,λp=>(h4 p).trans ?_⟩
  rw[h2];constructor
  ·rintro((z|z)|⟨k,hk,z⟩)
   ·exact .inl z
   ·exact .inr ⟨l,af,z⟩
   ·exact .inr ⟨k,ai _ hk,z⟩
  ·rintro(z|⟨k,hk,z⟩)
   ·exact .inl (.inl z)
   ·rcases List.mem_cons.mp hk with rfl|hk
    ·exact .inl (.inr z)
    ·exact .inr ⟨k,hk,z⟩
theorem uD (L:cm):(eC L).Perm ((vq [] L).map (·.1)):=by
 unfold eC;refine((fq _).map _).trans ?_;unfold gU;rw[aV];exact List.Perm.refl _
theorem kz (L:cm):(eC L).Nodup:=(uD L).nodup_iff.mpr (xn L [] (by simp)).1
theorem iC (L:cm) (p:Int):p∈eC L↔∃l∈L,p∈l:=by
 rw[(uD L).mem_iff,(xn L [] (by simp)).2]
 simp
theorem xo {L:cm}{many:Int}(h9:many<=9) (h:∀l∈L,∀p∈l,0<=p/\p<many):(eC L).length<=9:=by
 have r:fC (sortI (eC L)):=LW.kf (kz L);have:=nQ (many:=many) r λp hp=>by
  obtain⟨l,hl,DR⟩:=(iC L p).mp (cY.mp hp);exact h l hl p DR
 rw[(sortI_perm _).length_eq]at this;omega
theorem B9 {Ls:D}{x2:Sl}:∀(l:cn) (kvs:List (Int×Int)) (x3:Sl),kvs.length+l.length<=1000->(∀ks,x2≠.memo ks)->(∀ks,x3≠.memo ks)->∃y3,(∀ks,y3≠.memo ks)/\
  gr 3 fW (l.map D.int) [.dat Ls,.memo [lA kvs],x2,x3]=some (.next [.dat Ls,.memo [lA (l.foldl nL kvs)],x2,y3])
 |[],kvs,x3,_,_,h3=>⟨x3,h3,rfl⟩
 |p::l,kvs,x3,hk,h2,h3=>by
  simp only[ax]at hk;have nm:pN [.dat Ls,.no,x2,cG p]=true:=by
   cases x2 with
   |memo ks=>exact absurd rfl (h2 ks)
   |_=>rfl
  have e:fW [.dat Ls,.memo [lA kvs],x2,cG p]=some (.next [.dat Ls,.memo [lA (nL kvs p)],x2,cG p]):=by
   show(Ai (lA kvs)).bind _=_;rw[Aj];show(if kvs.length<1000/\pN [.dat Ls,.no,x2,cG p]=true then _ else _)=_
   rw[if_pos ⟨by omega,nm⟩]
   rfl
  have:=FG kvs p;obtain⟨y3,hy,ih⟩:=B9 (Ls:=Ls) (x2:=x2) l (nL kvs p) (cG p) (by omega) h2 (λks z=>by cases z)
  refine⟨y3,hy,?_⟩;rw[aE,iQ (j:=3) (f:=fW) (d:=.int p) (δ:=[.dat Ls,.memo [lA kvs],x2,x3]) e,ih];rfl
theorem zj:∀(l:cn) (kvs:List (Int×Int)),(l.foldl nL kvs).length<=kvs.length+l.length
 |[],_=>by simp
 |p::l,kvs=>by
  have:=FG kvs p;have:=zj l (nL kvs p);simp only[List.foldl_cons,ax];omega
theorem Ca {Ls:D}:∀(L:cm) (kvs:List (Int×Int)) (x2 x3:Sl),kvs.length+(L.map (·.length)).sum<=1000->(∀ks,x3≠.memo ks)->∃y2 y3,
  gr 2 eQ (L.map tupI) [.dat Ls,.memo [lA kvs],x2,x3]=some (.next [.dat Ls,.memo [lA (vq kvs L)],y2,y3])
 |[],kvs,x2,x3,_,_=>⟨x2,x3,rfl⟩
 |l::L,kvs,x2,x3,hk,h3=>by
  simp only[aE,List.sum_cons]at hk;obtain⟨y3,hy,e⟩:=B9 (Ls:=Ls) (x2:=cH l) l kvs x3 (by omega) (λks z=>by cases z) h3
  have e2:eQ [.dat Ls,.memo [lA kvs],cH l,x3]=some (.next [.dat Ls,.memo [lA (l.foldl nL kvs)],cH l,y3]):=by
   unfold eQ mW;exact qI (ds:=l.map D.int) rfl e
  have:=zj l kvs;obtain⟨z2,z3,ih⟩:=Ca (Ls:=Ls) L (l.foldl nL kvs) (cH l) y3 (by omega) hy
  refine⟨z2,z3,?_⟩;rw[aE,iQ (j:=2) (f:=eQ) (d:=tupI l) (δ:=[.dat Ls,.memo [lA kvs],x2,x3]) e2,ih];rfl
theorem KC {L:cm}{many:Int}(h9:many<=9) (h:∀l∈L,∀p∈l,0<=p/\p<many) (hs:(L.map (·.length)).sum<=1000) (ja:∃l∈L,l≠[]):gc [.tup (L.map tupI)]=some (tupI (eC L)):=by
 refine LW.dM rfl ?_;show kn [.dat (.tup (L.map tupI)),.no,.no,.no]=_;obtain⟨y2,y3,e⟩:=Ca (Ls:=.tup (L.map tupI)) L [] .no .no (by simpa using hs) (λks z=>by cases z)
 have e3:jW [.dat (.tup (L.map tupI)),.memo [lA []],.no,.no]=some (.next [.dat (.tup (L.map tupI)),.memo [lA (vq [] L)],y2,y3]):=by
  unfold jW;exact qI (ds:=L.map tupI) rfl e
 have hl9:=xo h9 h;have fM:(vq [] L).length=(eC L).length:=by rw[(uD L).length_eq,ae]
 have h1:1<=(vq [] L).length:=by
  rw[fM];obtain⟨l,hl,CN⟩:=ja;cases l with
  |nil=>exact absurd rfl CN
  |cons p r=>
   have:=(iC L p).mpr ⟨_,hl,af⟩;exact List.length_pos_of_mem this
 have e4:fX [.dat (.tup (L.map tupI)),.memo [lA []],.no,.no]=some (.ret (tupI (eC L))):=by
  unfold fX;rw[LW.cS e3];unfold mX;refine eO ((jU (ds:=(eC L).map D.int) ?_).trans rfl);show(Ai (lA (vq [] L))).bind _=_;rw[Aj];show(if 1<=(vq [] L).length/\(vq [] L).length<64 then _ else _)=_
  rw[if_pos ⟨h1,by omega⟩]
  unfold eC;rw[aV];rfl
 show(if noOwn [.dat (.tup (L.map tupI)),.no,.no,.no]=true/\1<4 then(fX [.dat (.tup (L.map tupI)),.memo [lA []],.no,.no]).bind (Js 1)else none)=_
 rw[if_pos ⟨rfl,by decide⟩,e4]
 rfl
end PW
namespace PW
open PySem DL GP PC
open LW (dk dq)
open L2 (j9 qX)
noncomputable def dG (G:Gm) (f:Int):D:=lD G.many G.ls f G.b G.g
section
variable {G:Gm}{f w:Int}{m y:cn}{rc:cf}{ks:cu}
end
end PW
namespace PW
open PySem DL GP PC
open LW (dk dq)
open L2 (j9 qX)
theorem qJ {n np:Nat}{fb:D->bZ}{G:D}{ds:cu}{d:D}(hl:ds.length+1=np) (h:fb G (startM n np 0 ds)=some (.ret d)):nH n np fb (G::ds)=some d:=by
 show(if ds.length+1=np/\0<np then _ else _)=_
 rw[if_pos ⟨hl,by omega⟩,h]
structure tJ (G:Gm):Prop where
 ok:G.Ok
 Lh:G.ls.length<=18
 rise:∀l∈G.ls,fC l
structure SL (G:Gm) (L:cm):Prop where
 s:Kp G L
 lo:MQ G L
 rise:∀l∈L,fC l
 Lh:L.length<=18
 nine:∀l∈L,l.length<=9
 sum:(L.map (·.length)).sum<=1000
theorem KD {k:Nat}:∀(L:cm),(∀l∈L,l.length<=k)->(L.map (·.length)).sum<=L.length*k
 |[],_=>by simp
 |l::L,h=>by
  have:=KD L λx hx=>h x (ai _ hx)
  have:=h l af;simp only[aE,List.sum_cons,ax,Nat.add_mul,Nat.one_mul];omega
theorem tJ.lo {G:Gm}(h:tJ G):MQ G G.ls:=⟨h.ok.li,h.ok.ll⟩
theorem tJ.sl {G:Gm}(h:tJ G) {L:cm}(s:Kp G L):SL G L:=by
 obtain⟨m,y,p,rfl⟩:=s;have r:=He (m:=m) (y:=y) h.rise;have lo:=B2 (m:=m) (y:=y) h.lo;have n:(gN G.ls m y).length<=18:=by
  unfold gN MR;refine aB (aW _ _) ?_;rw[(fq _).length_eq];refine aB (xm _ _ (au _)) ?_;unfold ft;rw[ae];exact aB (aW _ _) h.Lh
 have nine:∀l∈gN G.ls m y,l.length<=9:=λl hl=>by
  have:=nQ (r l hl) (lo.li l hl);have:=h.ok.m9;omega
 have:=KD _ nine;exact⟨⟨m,y,p,rfl⟩,lo,r,n,nine,by omega⟩
noncomputable def fZ (G:Gm) (L:cm) (w:Int):cm:=
 if w=0 then rW G.b.toNat (eC L)else(rW G.g.toNat (eC L)).filter λc=>(L.filter λl=>decide ((l.length:Int)<=G.b)).all λl=>dI c l
section
variable {G:Gm}{L:cm}{f w:Int}
theorem MV (hG:G.Ok) (sl:SL G L) (ja:∃l∈L,l≠[]) (hw:w=0\/w=1):gE [dG G f,.tup (L.map tupI),.int w]=some (.tup ((fZ G L w).map tupI)):=by
 have b1:=hG.b1;have b3:=hG.b3;have g1:=hG.g1;have g3:=hG.g3;have Lh:=sl.Lh;refine qJ rfl ?_;show gX (dG G f) [.memo [],.dat (.tup (L.map tupI)),cG w,.no,.no,.no,.no]=_;have hu:=xo hG.m9 sl.lo.li;have ea:∀v:Int,(v=0\/v=1)->dZ [dG G f,.int v]=some (.int (((if v=0 then G.b else G.g).toNat:Nat):Int)):=λv hv=>by
  rw[show dG G f=lD G.many G.ls f G.b G.g from rfl,Ti hv]
  congr 2
  rcases hv with rfl|rfl<;>simp<;>omega
 have e1:kr (dG G f) [.memo [],.dat (.tup (L.map tupI)),cG w,.no,.no,.no,.no]=some (.next [.memo [],.dat (.tup (L.map tupI)),cG w,.dat (.tup ((rW (if w=0 then G.b else G.g).toNat (eC L)).map tupI)),.no,.no,.no]):=by
  have k1:cO gc (bV (cQ 1) cN) [.memo [],.dat (.tup (L.map tupI)),cG w,.no,.no,.no,.no]=some (tupI (eC L)):=(de rfl).trans (KC hG.m9 sl.lo.li sl.sum ja);have k2:cO dZ (bV (nF (dG G f) 0) (bV (cQ 2) cN)) [.memo [],.dat (.tup (L.map tupI)),cG w,.no,.no,.no,.no]=some (.int (((if w=0 then G.b else G.g).toNat:Nat):Int)):=(de rfl).trans (ea w hw)
  unfold kr;rw[gu ((de (ff k1 (i8 k2))).trans (zh 5 _ _ (by split<;>omega) (by omega)))]
  rfl
 unfold gX;rw[LW.cS e1];have VZ:∀k:Nat,(rW k (eC L)).length<1000000:=λk=>by
  have h1:=Kk (c:=k) (ps:=eC L);have h2:2^(eC L).length<=2^9:=Nat.pow_le_pow_right (by decide) hu
  have:(2:Nat)^9=512:=by decide
  omega
 rcases hw with rfl|rfl
 ·have e3:kx (dG G f) [.memo [],.dat (.tup (L.map tupI)),cG 0,.dat (.tup ((rW (if(0:Int)=0 then G.b else G.g).toNat (eC L)).map tupI)),.no,.no,.no]=some (.ret (.tup ((fZ G L 0).map tupI))):=rfl
  rw[kY e3]
 ·have e3:kx (dG G f) [.memo [],.dat (.tup (L.map tupI)),cG 1,.dat (.tup ((rW (if(1:Int)=0 then G.b else G.g).toNat (eC L)).map tupI)),.no,.no,.no]=some (.next [.memo [],.dat (.tup (L.map tupI)),cG 1,.dat (.tup ((rW (if(1:Int)=0 then G.b else G.g).toNat (eC L)).map tupI)),.no,.no,.no]):=rfl
  rw[LW.cS e3];have k4:dR (iT (cQ 1)) 5 (qB (di OX (cO iH (bV (dc 5) cN)) (cO dZ (bV (nF (dG G f) 0) (bV (dC (.int 0)) cN))))) (cQ 5) [.memo [],.dat (.tup (L.map tupI)),cG 1,.dat (.tup ((rW (if(1:Int)=0 then G.b else G.g).toNat (eC L)).map tupI)),.no,.no,.no]=some ((L.filter λl=>decide ((l.length:Int)<=G.b)).map tupI):=by
   refine j3 (ds:=L.map tupI) rfl (by rw[ae];omega) (gF L (λl _=>?_) λl _ _=>rfl)
   have kl:cO iH (bV (dc 5) cN) [.memo [],.dat (.tup (L.map tupI)),cG 1,.dat (.tup ((rW (if(1:Int)=0 then G.b else G.g).toNat (eC L)).map tupI)),.no,cH l,.no]=some (.int (l.length:Int)):=by
    show some (D.int ((l.map D.int).length:Int))=_;rw[ae]
   have ka:cO dZ (bV (nF (dG G f) 0) (bV (dC (.int 0)) cN)) [.memo [],.dat (.tup (L.map tupI)),cG 1,.dat (.tup ((rW (if(1:Int)=0 then G.b else G.g).toNat (eC L)).map tupI)),.no,cH l,.no]=some (.int G.b):=by
    refine(de rfl).trans ((ea 0 (.inl rfl)).trans ?_)
    congr 2
    simp;omega
   exact gW ((fE (o:=OX) kl ka).trans rfl)
  have e4:nX (dG G f) [.memo [],.dat (.tup (L.map tupI)),cG 1,.dat (.tup ((rW (if(1:Int)=0 then G.b else G.g).toNat (eC L)).map tupI)),.no,.no,.no]=some (.next [.memo [],.dat (.tup (L.map tupI)),cG 1,.dat (.tup ((rW (if(1:Int)=0 then G.b else G.g).toNat (eC L)).map tupI)),.own ((L.filter λl=>decide ((l.length:Int)<=G.b)).map tupI),.no,.no]):=tG k4
  rw[LW.cS e4];show ky (dG G f) [.memo [],.dat (.tup (L.map tupI)),cG 1,.dat (.tup ((rW (if(1:Int)=0 then G.b else G.g).toNat (eC L)).map tupI)),.dat (.lst ((L.filter λl=>decide ((l.length:Int)<=G.b)).map tupI)),.no,.no]=_
  unfold ky;refine eO ((jU (ds:=(fZ G L 1).map tupI) ?_).trans rfl);have hf:(L.filter λl=>decide ((l.length:Int)<=G.b)).length<1000000:=Nat.lt_of_le_of_lt (aW _ _) (by omega)
  refine j3 (ds:=(rW (if(1:Int)=0 then G.b else G.g).toNat (eC L)).map tupI) rfl (by rw[ae];exact VZ _) ?_
  exact gF _ (λc _=>gW ((de rfl).trans (Ky hf λo ho=>by have:=sl.nine o (List.mem_filter.mp ho).1;omega))) λc _ _=>rfl
noncomputable def i9 (L:cm) (w:Int) (c:cn):cm:=if w=0 then gN L (sortI c) []else gN L [] (sortI c)
theorem Hh {c:cn}(h:c∈fZ G L w):∃k,(k=G.b.toNat\/k=G.g.toNat)/\c∈rW k (eC L):=by
 unfold fZ at h;split at h
 ·exact⟨_,.inl rfl,h⟩
 ·exact⟨_,.inr rfl,(List.mem_filter.mp h).1⟩
theorem mH (hG:G.Ok) (sl:SL G L) (ja:∃l∈L,l≠[]) {c:cn}(h:c∈fZ G L w):c.Nodup/\(∀p∈c,p∈eC L)/\c.length<=4/\c≠[]:=by
 have b1:=hG.b1;have b3:=hG.b3;have g1:=hG.g1;have g3:=hG.g3;obtain⟨k,hk,hc⟩:=Hh h;obtain⟨h1,h2,h3⟩:=oE hc;refine⟨nU hG sl.lo (iC L) (kz L) hc,h1,by omega,λz=>?_⟩
 subst z;rcases h3 with z|z
 ·simp at z;omega
 ·obtain⟨l,hl,CN⟩:=ja;cases l with
  |nil=>exact CN rfl
  |cons p r=>
   have:=z p ((iC L p).mpr ⟨_,hl,af⟩);cases this
theorem Cb (hF:tJ G) (sl:SL G L) {c:cn}(hc:∀p∈c,p∈eC L) (hn:c.Nodup):Kp G (i9 L w c):=by
 obtain⟨m,y,p,e⟩:=sl.s;have t7:∀q∈c,(0<=q/\q<G.many)/\q∉m/\q∉y:=λq hq=>by
  obtain⟨l,hl,X8⟩:=(iC L q).mp (hc q hq);refine⟨sl.lo.li l hl q X8,?_⟩;rw[e]at hl;obtain⟨k,hk,Tg,rfl⟩:=fS.mp (iB.mp hl).1;obtain⟨h1,h2⟩:=e9.mp X8;exact⟨h2,Tg q h1⟩
 have rs:fC (sortI c):=LW.kf hn;unfold i9;split
 ·refine⟨sortI (m++sortI c),y,⟨qA p.rm rs λq hq=>(t7 q (cY.mp hq)).2.1,p.ry,λq hq=>?_,p.iy,λq hq=>?_⟩,?_⟩
  ·rcases List.mem_append.mp (cY.mp hq)with z|z
   ·exact p.im q z
   ·exact(t7 q (cY.mp z)).1
  ·rcases List.mem_append.mp (cY.mp hq)with z|z
   ·exact p.dj q z
   ·exact(t7 q (cY.mp z)).2.2
  ·rw[e];exact zf hF.rise (λq=>by rw[cY,List.mem_append]) (λq=>by simp) (λq hq=>by cases hq)
 ·refine⟨m,sortI (y++sortI c),⟨p.rm,qA p.ry rs λq hq=>(t7 q (cY.mp hq)).2.2,p.im,λq hq=>?_,λq hq z=>?_⟩,?_⟩
  ·rcases List.mem_append.mp (cY.mp hq)with z|z
   ·exact p.iy q z
   ·exact(t7 q (cY.mp z)).1
  ·rcases List.mem_append.mp (cY.mp z)with z|z
   ·exact p.dj q hq z
   ·exact(t7 q (cY.mp z)).2.1 hq
  ·rw[e];exact zf hF.rise (λq=>by simp) (λq=>by rw[cY,List.mem_append]) (λq hq=>(t7 q (cY.mp hq)).2.1)
theorem Ei (sl:SL G L) {c:cn}(hc:∀p∈c,p∈eC L) (ja:c≠[]):(eC (i9 L w c)).length<(eC L).length:=by
 have sub:∀p∈eC (i9 L w c),p∈eC L/\p∉c:=λp hp=>by
  obtain⟨l,hl,kO⟩:=(iC _ p).mp hp;unfold i9 at hl;split at hl
  ·obtain⟨k,hk,_,rfl⟩:=fS.mp (iB.mp hl).1;obtain⟨h1,h2⟩:=e9.mp kO;exact⟨(iC _ p).mpr ⟨k,hk,h1⟩,λz=>h2 (cY.mpr z)⟩
  ·obtain⟨k,hk,Tg,rfl⟩:=fS.mp (iB.mp hl).1;obtain⟨h1,h2⟩:=e9.mp kO;exact⟨(iC _ p).mpr ⟨k,hk,h1⟩,λz=>Tg p h1 (cY.mpr z)⟩
 obtain⟨q,r,rfl⟩:∃q r,c=q::r:=by
  cases c with
  |nil=>exact absurd rfl ja
  |cons q r=>exact⟨q,r,rfl⟩
 have ra:fC (sortI (eC (i9 L w (q::r)))):=LW.kf (kz _);have rb:fC (sortI (eC L)):=LW.kf (kz _);have:=B1 ra rb (λp hp=>cY.mpr (sub p (cY.mp hp)).1) λz=>by
  have h1:q∈sortI (eC (i9 L w (q::r))):=by rw[z];exact cY.mpr (hc q af)
  exact(sub q (cY.mp h1)).2 af
 rwa [(sortI_perm _).length_eq,(sortI_perm _).length_eq]at this
theorem tK (hF:tJ G) (sl:SL G L) {c:cn}(hc:∀p∈c,p∈eC L) (hn:c.Nodup) {v:Int}(hv:v=0\/v=1):
  (G.at (i9 L w c)).jd [] [] v=if w=0 then(G.at L).jd (sortI c) [] v else(G.at L).jd [] (sortI c) v:=by
 obtain⟨p1,p2⟩:=pZ hF.ok sl.lo (iC L) hc hn;unfold i9;split
 ·exact(w6 hF.ok sl.lo sl.rise p1 hv).symm
 ·exact(w6 hF.ok sl.lo sl.rise p2 hv).symm
end
end PW
namespace PW
open PySem DL GP PC
open LW (dk dq)
open L2 (j9 qX)
theorem Ej {ns:cn}(h:ns≠[]):Bv [.lst (ns.map D.int)]=some (.int (jG ns)):=by
 show(intsOf (ns.map D.int)).bind _=_;rw[fP];cases ns with
 |nil=>exact absurd rfl h
 |cons a r=>rfl
section
variable {G:Gm}{L:cm}{f w:Int}
theorem held_eq (c:cn) (hw:w=0\/w=1):gN L (fD [] [] w c).1 (fD [] [] w c).2=i9 L w c:=by
 rcases hw with rfl|rfl<;>rfl
theorem Qz (sl:SL G L) (hw:w=0\/w=1) {c:cn}(hc:c.length<=4) {rc:cf}{x3 x5 x6:Sl}{v:Int}(hv:v=0\/v=1)
  (hr:rc [dG G f,.tup ((i9 L w c).map tupI),.int (1-w)]=some (.int v)):∃y5,
  fH (dG G f) rc [.memo [],.dat (.tup (L.map tupI)),cG w,x3,cH c,x5,x6]=(if v=w then some (.ret (.int w))else some (.next [.memo [],.dat (.tup (L.map tupI)),cG w,x3,cH c,y5,x6])):=by
 have Lh:=sl.Lh;have e4:oM (dG G f) rc [.memo [],.dat (.tup (L.map tupI)),cG w,x3,cH c,x5,x6]=some (.next [.memo [],.dat (.tup (L.map tupI)),cG w,x3,cH c,.dat (.tup [tupI (fD [] [] w c).1,tupI (fD [] [] w c).2]),x6]):=by
  unfold oM;rw[gu ((de rfl).trans (Kt (m:=[]) (y:=[]) (c:=c) (w:=w) (by simp;omega) (by simp;omega)))]
  rfl
 refine⟨.dat (.tup [tupI (fD [] [] w c).1,tupI (fD [] [] w c).2]),?_⟩;unfold fH;rw[LW.cS e4];have ko:cO eV (bV (cQ 1) (bV (di jc (dc 5) (dC (.int 0))) (bV (di jc (dc 5) (dC (.int 1))) cN))) [.memo [],.dat (.tup (L.map tupI)),cG w,x3,cH c,.dat (.tup [tupI (fD [] [] w c).1,tupI (fD [] [] w c).2]),x6]=some (.tup ((i9 L w c).map tupI)):=by
  rw[<-held_eq c hw];exact(de rfl).trans (Kz (.inl rfl) Lh sl.lo.ll)
 have kh:cO gm (bV (cQ 2) cN) [.memo [],.dat (.tup (L.map tupI)),cG w,x3,cH c,.dat (.tup [tupI (fD [] [] w c).1,tupI (fD [] [] w c).2]),x6]=some (.int (1-w)):=(de rfl).trans (FF hw);have km:mh 0 (dG G f) rc (bV (cO eV (bV (cQ 1) (bV (di jc (dc 5) (dC (.int 0))) (bV (di jc (dc 5) (dC (.int 1))) cN)))) (bV (cO gm (bV (cQ 2) cN)) cN)) [.memo [],.dat (.tup (L.map tupI)),cG w,x3,cH c,.dat (.tup [tupI (fD [] [] w c).1,tupI (fD [] [] w c).2]),x6]=some (.int v):=by
  show(bV _ _ _).bind _=_;rw[ff ko (i8 kh)];exact hr
 have kq:=gW ((fE (o:=qZ) (g:=dc 2) (y:=.int w) km rfl).trans (tH v w));unfold tw;by_cases e:v=w
 ·rw[xh (by rw[kq,aR e]),if_pos e]
  rfl
 ·rw[o6 (by rw[kq,aG e]),if_neg e]
  rfl
theorem KG (sl:SL G L) (hw:w=0\/w=1) {rc:cf}{x3 x6:Sl}(val:cn->Int):∀(cs:cm) (x4 x5:Sl),(∀c∈cs,c.length<=4)->(∀c∈cs,val c=0\/val c=1)->(∀c∈cs,rc [dG G f,.tup ((i9 L w c).map tupI),.int (1-w)]=some (.int (val c)))->∃y4 y5,
  gr 4 (fH (dG G f) rc) (cs.map tupI) [.memo [],.dat (.tup (L.map tupI)),cG w,x3,x4,x5,x6]=(if(cs.any λc=>val c==w)=true then some (.ret (.int w))else some (.next [.memo [],.dat (.tup (L.map tupI)),cG w,x3,y4,y5,x6]))
 |[],x4,x5,_,_,_=>⟨x4,x5,rfl⟩
 |c::cs,x4,x5,h4,Tn,hr=>by
  obtain⟨z5,e⟩:=Qz (f:=f) sl hw (h4 c af) (rc:=rc) (x3:=x3) (x5:=x5) (x6:=x6) (Tn c af) (hr c af);obtain⟨y4,y5,ih⟩:=KG sl hw (rc:=rc) (x3:=x3) (x6:=x6) val cs (cH c) z5 (λa h=>h4 a (ai _ h)) (λa h=>Tn a (ai _ h)) (λa h=>hr a (ai _ h))
  refine⟨y4,y5,?_⟩;rw[aE,bF];by_cases hv:val c=w
  ·rw[if_pos hv]at e;rw[Kv (j:=4) (f:=fH (dG G f) rc) (d:=tupI c) (δ:=[.memo [],.dat (.tup (L.map tupI)),cG w,x3,x4,x5,x6]) e,if_pos (by simp[hv])]
  ·rw[if_neg hv]at e;rw[iQ (j:=4) (f:=fH (dG G f) rc) (d:=tupI c) (δ:=[.memo [],.dat (.tup (L.map tupI)),cG w,x3,x4,x5,x6]) e,ih];have:(val c==w)=false:=by simpa using hv
   rw[this,Bool.false_or]
theorem MW (hF:tJ G) (sl:SL G L) (h1:L≠[]) (h2:[]∉L) (hw:w=0\/w=1):(G.at L).jd [] [] w=if((fZ G L w).any λc=>(G.at (i9 L w c)).jd [] [] (1-w)==w)=true then w else 1-w:=by
 have hG:=hF.ok;have ja:∃l∈L,l≠[]:=by
  cases L with
  |nil=>exact absurd rfl h1
  |cons l r=>exact⟨l,af,λz=>h2 (by rw[<-z];exact af)⟩
 have Tn:=nh (w:=w) (hG.at sl.lo) (mU (G.at L).many) hw;have key:(((fZ G L w).any λc=>(G.at (i9 L w c)).jd [] [] (1-w)==w)=true)↔(G.at L).jd [] [] w=w:=by
  rw[bO];rcases hw with rfl|rfl
  ·rw[Kl hG sl.lo h1 h2 (kz L) (iC L)];constructor
   ·rintro⟨c,hc,e⟩
    have co:=mH hG sl ja hc;refine⟨c,by simpa [fZ]using hc,?_⟩
    have:=tK (w:=0) hF sl co.2.1 co.1 (v:=1) (.inr rfl);rw[if_pos rfl]at this;rw[<-this]
    simpa using e
   ·rintro⟨c,hc,e⟩
    have se:c∈fZ G L 0:=by simpa [fZ]using hc
    have co:=mH hG sl ja se;refine⟨c,se,?_⟩;have:=tK (w:=0) hF sl co.2.1 co.1 (v:=1) (.inr rfl);rw[if_pos rfl,e]at this
    simpa using this
  ·rw[Km hG sl.lo h1 h2 (kz L) (iC L)];have sp:∀c,((L.filter λl=>decide ((l.length:Int)<=G.b)).all λl=>dI c l)=true↔∀l∈L,l.length<=G.b.toNat->∃p∈l,p∈c:=λc=>by
    have b1:=hG.b1;rw[List.all_eq_true];constructor
    ·intro h l hl hb;have:=h l (List.mem_filter.mpr ⟨hl,aR (by omega)⟩)
     unfold dI at this;rw[bO]at this;obtain⟨p,hp,hq⟩:=this;exact⟨p,hp,bK hq⟩
    ·intro h l hl;obtain⟨Qg,CN⟩:=List.mem_filter.mp hl;have hl3:=bK CN;obtain⟨p,hp,hq⟩:=h l Qg (by omega)
     unfold dI;rw[bO];exact⟨p,hp,aR hq⟩
   constructor
   ·rintro⟨c,hc,e⟩
    have co:=mH hG sl ja hc;have so:c∈(rW G.g.toNat (eC L)).filter λc=>(L.filter λl=>decide ((l.length:Int)<=G.b)).all λl=>dI c l:=by simpa [fZ]using hc
    obtain⟨c1,c2⟩:=List.mem_filter.mp so;refine⟨c,c1,(sp c).mp c2,?_⟩;have:=tK (w:=1) hF sl co.2.1 co.1 (v:=0) (.inl rfl);rw[if_neg (by decide)]at this
    rw[<-this]
    simpa using e
   ·rintro⟨c,c1,c2,e⟩
    have se:c∈fZ G L 1:=by
     have:c∈(rW G.g.toNat (eC L)).filter λc=>(L.filter λl=>decide ((l.length:Int)<=G.b)).all λl=>dI c l:=List.mem_filter.mpr ⟨c1,(sp c).mpr c2⟩
     simpa [fZ]using this
    have co:=mH hG sl ja se;refine⟨c,se,?_⟩;have:=tK (w:=1) hF sl co.2.1 co.1 (v:=0) (.inl rfl);rw[if_neg (by decide),e]at this
    simpa using this
 by_cases hk:((fZ G L w).any λc=>(G.at (i9 L w c)).jd [] [] (1-w)==w)=true
 ·rw[if_pos hk];exact key.mp hk
 ·rw[if_neg hk];have X9:(G.at L).jd [] [] w≠w:=λz=>hk (key.mpr z)
  rcases hw with rfl|rfl
  ·rcases Tn with h|h
   ·exact absurd h X9
   ·rw[h];rfl
  ·rcases Tn with h|h
   ·rw[h];rfl
   ·exact absurd h X9
theorem Ek (hF:tJ G) (sl:SL G L) (h1:L≠[]) (h2:[]∉L) (hw:w=0\/w=1) {rc:cf}
  (hr:∀c∈fZ G L w,rc [dG G f,.tup ((i9 L w c).map tupI),.int (1-w)]=some (.int ((G.at (i9 L w c)).jd [] [] (1-w)))):
  jy (dG G f) rc [.memo [],.dat (.tup (L.map tupI)),cG w,.no,.no,.no,.no]=some (.ret (.int ((G.at L).jd [] [] w))):=by
 have hG:=hF.ok;have b1:=hG.b1;have Lh:=sl.Lh;have ja:∃l∈L,l≠[]:=by
  cases L with
  |nil=>exact absurd rfl h1
  |cons l r=>exact⟨l,af,λz=>h2 (by rw[<-z];exact af)⟩
 have e1:oK (dG G f) rc [.memo [],.dat (.tup (L.map tupI)),cG w,.no,.no,.no,.no]=some (.next [.memo [],.dat (.tup (L.map tupI)),cG w,cG (jG (L.map λl=>(l.length:Int))),.no,.no,.no]):=by
  have k:dR (iT (cQ 1)) 6 lV (cO iH (bV (dc 6) cN)) [.memo [],.dat (.tup (L.map tupI)),cG w,.no,.no,.no,.no]=some ((L.map λl=>(l.length:Int)).map D.int):=by
   rw[aV];refine j3 (ds:=L.map tupI) rfl (by rw[ae];omega) (jT L λl _=>?_)
   show some (D.int ((l.map D.int).length:Int))=_;rw[ae];rfl
  have kl:cO Bv (bV (dL (dR (iT (cQ 1)) 6 lV (cO iH (bV (dc 6) cN)))) cN) [.memo [],.dat (.tup (L.map tupI)),cG w,.no,.no,.no,.no]=some (.int (jG (L.map λl=>(l.length:Int)))):=(jU k).trans (Ej (by simpa using h1))
  unfold oK;rw[gu kl];rfl
 unfold jy;rw[LW.cS e1];have ka:cO dZ (bV (nF (dG G f) 0) (bV (dC (.int 0)) cN)) [.memo [],.dat (.tup (L.map tupI)),cG w,cG (jG (L.map λl=>(l.length:Int))),.no,.no,.no]=some (.int G.b):=
  (de rfl).trans ((show dZ [lD G.many G.ls f G.b G.g,.int 0]=_ from Ti (.inl rfl)).trans rfl)
 have q1:qB (di qZ (dc 2) (dC (.int 0))) [.memo [],.dat (.tup (L.map tupI)),cG w,cG (jG (L.map λl=>(l.length:Int))),.no,.no,.no]=some (decide (w=0)):=gW ((fE rfl rfl).trans (tH w 0))
 have q2:qB (di OX (dc 3) (cO dZ (bV (nF (dG G f) 0) (bV (dC (.int 0)) cN)))) [.memo [],.dat (.tup (L.map tupI)),cG w,cG (jG (L.map λl=>(l.length:Int))),.no,.no,.no]=some (decide (jG (L.map λl=>(l.length:Int))<=G.b)):=gW ((fE (o:=OX) rfl ka).trans rfl)
 obtain⟨m1,m2⟩:=wF (L.map λl=>(l.length:Int)) (by simpa using h1)
 by_cases hq:w=0/\jG (L.map λl=>(l.length:Int))<=G.b
 ·obtain⟨rfl,hb⟩:=hq;have e3:jY (dG G f) rc [.memo [],.dat (.tup (L.map tupI)),cG 0,cG (jG (L.map λl=>(l.length:Int))),.no,.no,.no]=some (.ret (.int 0)):=by
   unfold jY;rw[xh (xl (q1.trans (by simp)) (q2.trans (by rw[aR hb])))]
   rfl
  rw[kY e3];obtain⟨l,hl,e⟩:=List.mem_map.mp m1;have:(G.at L).jd [] [] 0=0:=quick (hG.at sl.lo) (mU _) (l:=l) hl (λp _ z=>by cases z) (by show l.length<=G.b.toNat;omega)
  rw[this]
 ·have e3:jY (dG G f) rc [.memo [],.dat (.tup (L.map tupI)),cG w,cG (jG (L.map λl=>(l.length:Int))),.no,.no,.no]=some (.next [.memo [],.dat (.tup (L.map tupI)),cG w,cG (jG (L.map λl=>(l.length:Int))),.no,.no,.no]):=by
   unfold jY;rw[o6 (by
    by_cases h0:w=0
    ·exact xl (q1.trans (by rw[aR h0])) (q2.trans (by rw[aG λz=>hq ⟨h0,z⟩]))
    ·exact Ay (q1.trans (by rw[aG h0])))]
   rfl
  rw[LW.cS e3];have kt:iT (mh 0 (dG G f) gE (bV (cQ 1) (bV (cQ 2) cN))) [.memo [],.dat (.tup (L.map tupI)),cG w,cG (jG (L.map λl=>(l.length:Int))),.no,.no,.no]=some ((fZ G L w).map tupI):=by
   have:mh 0 (dG G f) gE (bV (cQ 1) (bV (cQ 2) cN)) [.memo [],.dat (.tup (L.map tupI)),cG w,cG (jG (L.map λl=>(l.length:Int))),.no,.no,.no]=some (.tup ((fZ G L w).map tupI)):=MV (f:=f) hG sl ja hw
   unfold iT;rw[this]
  have wok:∀c∈fZ G L w,(G.at (i9 L w c)).jd [] [] (1-w)=0\/(G.at (i9 L w c)).jd [] [] (1-w)=1:=λc hc=>by
   have co:=mH hG sl ja hc;have sn:=hF.sl (Cb (w:=w) hF sl co.2.1 co.1);exact nh (hG.at sn.lo) (mU _) (by omega)
  obtain⟨y4,y5,e⟩:=KG (f:=f) sl hw (rc:=rc) (x3:=cG (jG (L.map λl=>(l.length:Int)))) (x6:=.no) (λc=>(G.at (i9 L w c)).jd [] [] (1-w)) (fZ G L w) .no .no (λc hc=>(mH hG sl ja hc).2.2.1) wok hr
  have e7:=(show oN (dG G f) rc [.memo [],.dat (.tup (L.map tupI)),cG w,cG (jG (L.map λl=>(l.length:Int))),.no,.no,.no]=gr 4 (fH (dG G f) rc) ((fZ G L w).map tupI) [.memo [],.dat (.tup (L.map tupI)),cG w,cG (jG (L.map λl=>(l.length:Int))),.no,.no,.no] by
   unfold oN;exact qI kt rfl).trans e
  rw[MW hF sl h1 h2 hw];by_cases ha:((fZ G L w).any λc=>(G.at (i9 L w c)).jd [] [] (1-w)==w)=true
  ·rw[if_pos ha]at e7 ⊢;rw[kY e7]
  ·rw[if_neg ha]at e7 ⊢;rw[LW.cS e7];unfold tE;exact eO ((de rfl).trans (FF hw))
end
end PW
namespace PW
open PySem DL GP PC
open LW (dk dq)
open L2 (j9 qX)
section
variable {G:Gm}{L:cm}{f w:Int}
theorem KH:(G.at []).jd [] [] w=1:=by
 have ho:(G.at []).over [] []=some 1:=rfl;unfold Gm.jd Gm.vn;rw[ho]
theorem Hi (h:[]∈L):(G.at L).jd [] [] w=0:=by
 have ho:(G.at L).over [] []=some 0:=nT.mpr ⟨[],h,λp hp=>by cases hp⟩
 unfold Gm.jd Gm.vn;rw[ho]
theorem Cc (hF:tJ G) (sl:SL G L) (hw:w=0\/w=1) {rc:cf}
  (hr:L≠[]->[]∉L->rc [dG G f,.tup (L.map tupI),.int w]=some (.int ((G.at L).jd [] [] w))):
  iP (dG G f) rc [.memo [],.dat (.tup (L.map tupI)),cG w]=some (.ret (.int ((G.at L).jd [] [] w))):=by
 have hG:=hF.ok;unfold iP;have q2:qB (di qZ (cO iH (bV (dc 1) cN)) (dC (.int 0))) [.memo [],.dat (.tup (L.map tupI)),cG w]=some (decide (((L.length:Nat):Int)=0)):=by
  have k:cO iH (bV (dc 1) cN) [.memo [],.dat (.tup (L.map tupI)),cG w]=some (.int ((L.length:Nat):Int)):=by
   show some (D.int ((L.map tupI).length:Int))=_;rw[ae]
  exact gW ((fE (o:=qZ) (g:=dC (.int 0)) (y:=.int 0) k rfl).trans (tH _ 0))
 by_cases h1:L=[]
 ·subst h1;have e2:kJ (dG G f) rc [.memo [],.dat (.tup (([]:cm).map tupI)),cG w]=some (.ret (.int 1)):=rfl;rw[kY e2,KH]
 ·have e2:kJ (dG G f) rc [.memo [],.dat (.tup (L.map tupI)),cG w]=some (.next [.memo [],.dat (.tup (L.map tupI)),cG w]):=by
   unfold kJ;rw[o6 (q2.trans (by
    rw[aG];intro z;apply h1
    exact List.eq_nil_of_length_eq_zero (by omega)))]
   rfl
  rw[LW.cS e2];have q4:qB (di yL (fz cN) (dc 1)) [.memo [],.dat (.tup (L.map tupI)),cG w]=some (decide ([]∈L)):=gW ((fE (o:=yL) (x:=tupI []) (y:=.tup (L.map tupI)) rfl rfl).trans (Kx [] L));by_cases h2:[]∈L
  ·have e4:jj (dG G f) rc [.memo [],.dat (.tup (L.map tupI)),cG w]=some (.ret (.int 0)):=by
    unfold jj;rw[xh (q4.trans (by rw[aR h2]))]
    rfl
   rw[kY e4,Hi h2]
  ·have e4:jj (dG G f) rc [.memo [],.dat (.tup (L.map tupI)),cG w]=some (.next [.memo [],.dat (.tup (L.map tupI)),cG w]):=by
    unfold jj;rw[o6 (q4.trans (by rw[aG h2]))]
    rfl
   rw[LW.cS e4];have hM:Ug (dG G f)=Kr G hG:=Ed hG f;have k:∀ks,fz (bV (cQ 1) (bV (cQ 2) cN)) [.memo ks,.dat (.tup (L.map tupI)),cG w]=some (vo L w):=λks=>rfl
   have hr':=hr h1 h2;have km:mh 0 (dG G f) rc (bV (cQ 1) (bV (cQ 2) cN)) [.memo [],.dat (.tup (L.map tupI)),cG w]=some (.int ((G.at L).jd [] [] w)):=hr';have e5:nr (dG G f) rc [.memo [],.dat (.tup (L.map tupI)),cG w]=some (.next [.memo [vo L w],.dat (.tup (L.map tupI)),cG w]):=by
    unfold nr pM;rw[k,km,hM];exact if_pos (Kq sl.s hw)
   have ko:=FA L w;have e6:nt (dG G f) rc [.memo [],.dat (.tup (L.map tupI)),cG w]=some (.next [.memo [vo L w],.dat (.tup (L.map tupI)),cG w]):=by
    unfold nt sH;rw[k,e5];refine if_pos ⟨ko.1,ko.2,rfl,λi s hs=>?_⟩
    match i,hs with
    |0,hs=>exact .inr (.inl hs)
    |1,hs=>exact .inr (.inl hs)
    |2,hs=>exact .inr (.inl hs)
    |(i+3),hs=>cases hs
   rw[LW.cS e6];unfold rH;refine eO ?_;unfold pL;rw[k,hM];exact(if_pos ⟨ko.1,ko.2,bt.mpr rfl⟩).trans (Kq sl.s hw)
theorem u4 (hF:tJ G):∀(n:Nat),(∀L w,Kp G L->(w=0\/w=1)->L≠[]->[]∉L->2*(eC L).length+2<=n->mG n [dG G f,.tup (L.map tupI),.int w]=some (.int ((G.at L).jd [] [] w)))/\
  (∀L w,Kp G L->(w=0\/w=1)->2*(eC L).length+3<=n->gO n [dG G f,.tup (L.map tupI),.int w]=some (.int ((G.at L).jd [] [] w)))
 |0=>⟨λ_ _ _ _ _ _ h=>by omega,λ_ _ _ _ h=>by omega⟩
 |n+1=>by
  obtain⟨ih1,ih2⟩:=u4 hF n;refine⟨λL w s hw h1 h2 hn=>?_,λL w s hw hn=>?_⟩
  ·have sl:=hF.sl s;have ja:∃l∈L,l≠[]:=by
    cases L with
    |nil=>exact absurd rfl h1
    |cons l r=>exact⟨l,af,λz=>h2 (by rw[<-z];exact af)⟩
   unfold mG;refine qJ rfl ?_;show jy (dG G f) (gO n) [.memo [],.dat (.tup (L.map tupI)),cG w,.no,.no,.no,.no]=_;refine Ek hF sl h1 h2 hw λc hc=>?_
   have co:=mH hF.ok sl ja hc;have fw:=Ei (w:=w) sl co.2.1 co.2.2.2;exact ih2 _ _ (Cb hF sl co.2.1 co.1) (by omega) (by omega)
  ·have sl:=hF.sl s;unfold gO;refine qJ rfl ?_;show iP (dG G f) (mG n) [.memo [],.dat (.tup (L.map tupI)),cG w]=_;exact Cc hF sl hw λh1 h2=>ih1 L w s hw h1 h2 (by omega)
theorem Cd (hF:tJ G) {m y:cn}(p:eS G.many m y) (hw:w=0\/w=1):mY [dG G f,tupI m,tupI y,.int w]=some (.int (G.jd m y w)):=by
 have hG:=hF.ok;have s:Kp G (gN G.ls m y):=⟨m,y,p,rfl⟩;have sl:=hF.sl s;have hu:=xo hG.m9 sl.lo.li;refine qJ rfl ?_;show jZ (dG G f) [.memo [],cH m,cH y,cG w]=_;have ko:cO eV (bV (di jc (di jc (nF (dG G f) 0) (dC (.int 0))) (dC (.int 1))) (bV (cQ 1) (bV (cQ 2) cN))) [.memo [],cH m,cH y,cG w]=some (.tup ((gN G.ls m y).map tupI)):=(de rfl).trans (Kz (.inl rfl) hF.Lh hG.ll);unfold jZ rJ;refine eO ?_;show(bV _ _ _).bind _=_;rw[ff ko rfl];show gO 24 [dG G f,.tup ((gN G.ls m y).map tupI),.int w]=_;rw[(u4 (f:=f) hF 24).2 _ w s hw (by omega),<-w6 hG hF.lo hF.rise p hw]
 rfl
theorem yj (hF:tJ G) {m y:cn}(p:eS G.many m y) (hw:w=0\/w=1):g7 [dG G f,tupI m,tupI y,.int w]=some (.int (G.jd m y w)):=by
 refine LW.dM rfl ?_;show j0 [.dat (dG G f),cH m,cH y,cG w]=_;unfold j0 o8;exact eO (Cd hF p hw)
theorem Hj (hF:tJ G) (hf:f=0\/f=1):nY [dG G f]=some (.int (G.jd [] [] f)):=by
 refine LW.dM rfl ?_;show qH [.dat (dG G f)]=_;unfold qH xk;exact eO ((de (F:=g7) (ds:=[dG G f,tupI [],tupI [],.int f]) rfl).trans (yj hF (mU _) hf))
end
end PW
namespace ST
open PySem PySem.Spec PyProof.Rows
theorem Cg:isSubtype (.type "tuple") (.type "set")=pure false:=by rw[isSubtype_type];kernel_rfl
theorem Ci:isSubtype (.type "tuple") (.type "frozenset")=pure false:=by rw[isSubtype_type];kernel_rfl
section
variable {prog:cz}{w:cA}{A:cB}{E:cg}{s:cx}
def To (prog:cz) (w:cA) (s:cx) (ns:cn) (h':Heap):Prop:=(∃o es ep t,h'.get? s.heap.objs.size=some o/\o.ExactSet/\o.data=.set es ep t/\t.fits es.size=true/\es.size=(firstMet (λi=>ns.getD i 0) ns.length).length)/\∀b o,b<s.heap.objs.size->s.heap.get? b=some o->h'.get? b=some o
theorem Hk {l:cD}{items:Array cw}{ns:cn}{led:Bool}(hh:A.handled=none) (hl:s.heap.IsTuple l items) (hi:IntsAre items.toList ns) (hb:items.size+1<scanBound) {Q:PySem.Fin->cx->Prop}
  (h:∀h' tk,To prog w s ns h'->Q (.done (.ret .none)) {s with heap:=h',toks:=tk}):
  wpAny (model prog w) A (Builtin.«set.__init__» ⟨[.ref s.heap.objs.size,.ref l],[]⟩) Q E {s with heap:=s.heap.push (dH led)}:=by
 have hn:items.size=ns.length:=by have:=hi.length;simpa using this
 obtain⟨⟨Vv,JX,S3,DV⟩,S4,t7,nl,S5⟩:=hl;simp only at t7 S5;subst t7 S5;have hS:(s.heap.push (dH led)).get? s.heap.objs.size=some (dH led):=ay _ rfl;have hT:Shared.TypeIs {s with heap:=s.heap.push (dH led)} (.ref s.heap.objs.size) "set":=⟨_,hS,rfl⟩
 have Qf:(s.heap.push (dH led)).get? l=some {cls:=.type "tuple",dict:=JX,data:=.seq items nl,slots:=DV}:=ag _ S4;have Vw:=Cg;have Vx:=Ci;have ja:(Value.type "tuple"==Value.type "dict")=false:=by decide
 have Qg:(s.heap.push (dH led)).IsTuple l items:=⟨_,Qf,rfl,nl,rfl⟩;unfold Builtin.«set.__init__» noKeywords Builtin.Frozenset.updateFrom;generalize Vy:pyIter=PI
 wp_walk
 subst Vy;refine wpAny_pyIter_tuple Qg ?_;refine aa (wpAny_runValue ?_);have S6:l<s.heap.objs.size:=az S4;have Qh:(s.heap.push (dH led)).objs.size=s.heap.objs.size+1:=Heap.size_push ..;have JY:l≠(s.heap.push (dH led)).objs.size:=by rw[Qh];exact aD (Nat.lt_succ_of_lt S6)
 have QT:s.heap.objs.size∉[(s.heap.push (dH led)).objs.size,l]:=by
  rw[Qh];simp only[List.mem_cons,bH,or_false,not_or];exact⟨aD (Nat.lt_succ_self _),bw S6⟩
 have Vz:((s.heap.push (dH led)).push {cls:=.type "tuple_iterator",data:=.fields #[.ref l,.int 0 0]}).get? s.heap.objs.size=some (dH led):=ag _ hS;have W:=(Walks.tuple (prog:=prog) (w:=w) (A:=A.in1) hh (s.heap.push (dH led)).objs.size l JY items).toS;refine codeAny_set_update_loopS W s.heap.objs.size QT (λi=>ns.getD i 0) (λi v hv=>hi.int_at i v (by rw[Array.getElem?_toList];exact hv)) hb (items.size-0) 0 _ (by omega) (bL _) ⟨⟨_,ay _ rfl,rfl,rfl⟩,Qg.push _⟩ (SetOf_congr ((setObjOf_fresh (knd:=intKind prog w) led).setOf Vz (by unfold scanBound;omega)) (λ_=>rfl) rfl) (λs' hm MG=>?_)
 obtain⟨h',g',d',CM,Ov⟩:=s';have eg:g'=s.gens:=hm.gens;have ed:d'=s.drawn:=hm.drawn;have eo:Ov=s.os:=hm.os;subst eg ed eo;show wpAny _ _ _ _ _ _;refine aj ?_;show wpAny _ _ (ret Value.none) _ _ _;refine aj (h h' CM ⟨?_,λb o hb e=>?_⟩)
 ·rw[hn]at MG;obtain⟨o,es,ep,t,ho,hex,hd,_,_,_,hf,en⟩:=MG;exact⟨o,es,ep,t,ho,hex,hd,hf,en⟩
 ·have VA:b≠s.heap.objs.size:=aD hb;have PY:b≠(s.heap.push (dH led)).objs.size:=by rw[Qh];exact aD (Nat.lt_succ_of_lt hb)
  exact hm.heap b o (by simp only[List.mem_cons,bH,or_false,not_or];exact⟨VA,PY⟩) (ag _ (ag _ e))
end
end ST
namespace DL
open PySem PySem.Spec PyProof.Rows L2
theorem zk {ns:cn}(nd:ns.Nodup):∀i,i<=ns.length->(firstMet (λi=>ns.getD i 0) i).length=i
 |0,_=>rfl
 |i+1,h=>by
  rw[firstMet_succ,step_length,firstMet_any,zk nd i (by omega),if_neg]
  intro z;rw[bO]at z;obtain⟨x,h1,h2⟩:=z;obtain⟨j,h3,rfl⟩:=List.mem_map.mp h1;have hj:=List.mem_range.mp h3;have e:ns.getD j 0=ns.getD i 0:=by simpa using h2
  have e1:ns.getD j 0=ns[j]'(by omega):=by rw[ak,ah (by omega)];rfl
  have e2:ns.getD i 0=ns[i]'(by omega):=by rw[ak,ah (by omega)];rfl
  rw[e1,e2]at e;exact absurd e (List.pairwise_iff_getElem.mp nd j i (by omega) (by omega) hj)
noncomputable def zl (f:cb):cb:=λδ=>((f δ).bind zY).map λb=>.bl (!b)
noncomputable def tL (f:cb):cb:=λδ=>match f δ with
 |some (.tup ds)=>(intsOf ds).bind λns=>if ns.Nodup/\ns.length<=18 then some (.int ns.length)else none
 |_=>none
section
variable [Mem] {X:Cx}{a e:cE}{f:cb}{p p2 pos eP:Pos}
theorem MX (ha:PO X a f):PD X (.UnaryOp .Not a pos) (zl f):=by
 intro pins s σ H Q I ⟨C,δ,d,x,q,k⟩;unfold zl at q;cases hf:f δ with
 |none=>rw[hf]at q;cases q
 |some d0=>
  rw[hf]at q;cases ht:zY d0 with
  |none=>simp[ht]at q
  |some b=>
   simp[ht]at q;subst q;refine UnaryOp_ (gR (ha pins s σ H (λv H1=>∃C1,Ev C H C1 H1/\Lw X.K v H1 b) I ⟨C,δ,d0,x,hf,λv C1 H1 ev i=>⟨C1,ev,E4 ev.s i ht⟩⟩) λv s1 ⟨y,H1,I1,r1,C1,ev,tv⟩=>?_)
   refine not_of (gR (Ic pins s1 σ H1 y v (λc H2=>c=b/\∃C2,Ev C H C2 H2) I1 r1 ⟨b,tv,rfl,C1,ev⟩) λc s2 ⟨H2,I2,e2,C2,ev2⟩=>?_)
   subst e2;exact⟨.bl (!c),H2,I2,rfl,k _ C2 H2 ev2 (.bl _)⟩
theorem MY (ha:WO X a f):WD X (.UnaryOp .Not a pos) (zl f):=⟨MX ha.go⟩
theorem Hl (hc:X.calm=true) (hu:X.A.units+64<cLine) (Qs:Gl X "len") (Bg:X.mg "len"=none) (Qt:Gl X "set") (vA:X.mg "set"=none) (ha:PO X e f)
  (Fe:starEach [.Call (.Name "set" p2) [e] [] eP] X.env=(false,eval (.Call (.Name "set" p2) [e] [] eP) X.env)::starEach [] X.env:=by exact eL rfl) (HG:starEach [e] X.env=(false,eval e X.env)::starEach [] X.env:=by exact eL rfl):
  PD X (.Call (.Name "len" p) [.Call (.Name "set" p2) [e] [] eP] [] pos) (tL f):=by
 intro pins s σ H Q I ⟨C,δ,d,x,q,k⟩;unfold tL at q;split at q
 case h_2=>cases q
 rename_i VT hf;cases hn:intsOf VT with
 |none=>rw[hn]at q;cases q
 |some ns=>
  rw[hn]at q;simp only[ao]at q;split at q
  case isFalse=>cases q
  rename_i VU;cases q;have ee:=eX hn;subst ee;refine wpAny_Call_Name_kw (oh I Qs Bg lW ?_);refine PyProof.Rows.callWith_builtin1 ?_ Fe rfl;rw[Fe];show wpAny _ _ (spliced ((false,eval (.Call (.Name "set" p2) [e] [] eP) X.env)::backTo pos (starEach [] X.env))) _ _ s;refine Calls.spliced_cons ?_;refine wpAny_Call_Name_kw (oh I Qt vA PyProof.Rows.boot_set ?_);refine PyProof.Rows.callWith_type1 (gR ((qm ha ua HG) eP pins s σ H (λvs H1=>∃v C1,vs=[v]/\Ev C H C1 H1/\sf C1 H1 v (tupI ns)) I ⟨C,δ,_,x,hf,λv C1 H1 ev iv=>⟨v,C1,rfl,ev,iv⟩⟩) λus s1 ⟨vs,H1,I1,r1,v,C1,e1,ev,iv⟩=>?_) HG rfl
  subst e1;obtain⟨u,rfl,ru⟩:=r1.one;obtain⟨a,xs,rfl,hq,l,_⟩:=iv.tup (K:=X.K) ev.s;cases ru;obtain⟨dz,rv,pl,hz⟩:=I1.tuple hq;have ex:=l.jm;subst ex;have hi:IntsAre dz ns:=intsAre_of rv;have hl:dz.length=ns.length:=hi.length;have hb:dz.toArray.size+1<scanBound:=by rw[aq,hl];unfold scanBound;omega
  refine ST.rq (Mk:=ST.To X.prog X.w s1 ns) (λhQ=>ST.Hk (A:=X.A.in1.in1) (show X.A.in1.in1.handled=none from I1.ok.hd hc) pl (by simpa using hi) hb hQ) λh' tk ⟨⟨o,es,ep,t,ho,hex,hd,hf2,en⟩,keep⟩=>?_
  have I2:Inv X pins σ H1 {s1 with heap:=h',toks:=tk}:=I1.kept (t':=tk) λb o eo=>keep b o (az eo) eo
  refine Calls.spliced_nil ?_;rw[zk VU.1 _ (au _)]at en;refine call_len_set ho hex hd hf2 (by rw[en];omega) ?_
  rw[en];exact⟨.int (ns.length:Nat),H1,I2.tok _,⟨_,rfl⟩,k _ C1 H1 ev (.int _)⟩
theorem Hm (hc:X.calm=true) (hu:X.A.units+64<cLine) (Qs:Gl X "len") (Bg:X.mg "len"=none) (Qt:Gl X "set") (vA:X.mg "set"=none) (ha:WO X e f)
  (Fe:starEach [.Call (.Name "set" p2) [e] [] eP] X.env=(false,eval (.Call (.Name "set" p2) [e] [] eP) X.env)::starEach [] X.env:=by exact eL rfl) (HG:starEach [e] X.env=(false,eval e X.env)::starEach [] X.env:=by exact eL rfl):
  WD X (.Call (.Name "len" p) [.Call (.Name "set" p2) [e] [] eP] [] pos) (tL f):=⟨Hl hc hu Qs Bg Qt vA ha.go Fe HG⟩
end
end DL
namespace GP
open PySem DL
noncomputable def KJ (a b:Nat):D:=.tup [.int ((a/a.gcd b:Nat):Int),.int ((b/a.gcd b:Nat):Int)]
noncomputable def eu:Nat->Nat->Nat->Option Nat
 |0,_,_=>none
 |n+1,a,b=>if b=0 then some a else eu n b (a%b)
theorem NS:∀(n k a b:Nat),b<2^n->2*n+1<=k->eu k a b=some (a.gcd b)
 |n,0,a,b,_,hk=>by omega
 |n,1,a,b,hb,hk=>by
  have:n=0:=by omega
  subst this;have:b=0:=by simpa using hb
  subst this;simp[eu]
 |0,k+2,a,b,hb,hk=>by
  have:b=0:=by simpa using hb
  subst this;simp[eu]
 |n+1,k+2,a,b,hb,hk=>by
  unfold eu;by_cases h0:b=0
  ·rw[if_pos h0,h0,Nat.gcd_zero_right]
  ·rw[if_neg h0];unfold eu;have e1:a.gcd b=b.gcd (a%b):=by rw[Nat.gcd_comm a b,Nat.gcd_rec b a,Nat.gcd_comm]
   by_cases h1:a%b=0
   ·rw[if_pos h1,e1,h1,Nat.gcd_zero_right]
   ·rw[if_neg h1];have e2:b.gcd (a%b)=(a%b).gcd (b%(a%b)):=by rw[Nat.gcd_comm b,Nat.gcd_rec (a%b) b,Nat.gcd_comm]
    rw[e1,e2];refine NS n k _ _ ?_ (by omega)
    have l1:a%b<b:=Nat.mod_lt _ (by omega)
    have l2:b%(a%b)<a%b:=Nat.mod_lt _ (by omega)
    have l3:a%b+b%(a%b)<=b:=by
     have q:=Nat.div_add_mod b (a%b);have:1<=b/(a%b):=Nat.div_pos (by omega) (by omega)
     have:a%b*1<=a%b*(b/(a%b)):=Nat.mul_le_mul_left _ this;omega
    rw[Nat.pow_succ]at hb;omega
noncomputable def mI (m l:cn):Nat:=(l.filter λp=> !decide (p∈m)).length
noncomputable def wN (q N:Nat) (m y:cn) (ls:cm):Nat:=((ls.filter λl=> !dI y l).map λl=>q^(N-mI m l)).sum
theorem j4 (q N:Nat) (m y:cn) (l:cn) (ls:cm):wN q N m y (l::ls)=(if dI y l=true then 0 else q^(N-mI m l))+wN q N m y ls:=by
 unfold wN;rw[br];by_cases h:dI y l=true
 ·simp[h]
 ·simp[h]
theorem KL (m l:cn):mI m l<=l.length:=aW _ _
noncomputable def zm (f:Int->Nat):cn->Option Int->Option Int
 |[],b=>b
 |p::r,none=>zm f r (some p)
 |p::r,some b=>zm f r (if f b<f p then some p else some b)
def Top (f:Int->Nat) (l:cn) (p:Int):Prop:=∃a r,l=a++p::r/\(∀x∈a,f x<f p)/\∀x∈r,f x<=f p
theorem Em {f:Int->Nat}{l:cn}{p p':Int}(h:Top f l p) (h':Top f l p'):p=p':=by
 obtain⟨a,r,e,h1,h2⟩:=h;obtain⟨a',r',e',yI,AZ⟩:=h';rw[e]at e';rcases List.append_eq_append_iff.mp e' with⟨c,e1,e2⟩|⟨c,e1,e2⟩
 ·cases c with
  |nil=>simp at e2;exact e2.1
  |cons x c=>
   simp at e2;obtain⟨rfl,rfl⟩:=e2;have:=yI p (by rw[e1];simp)
   have:=h2 p' (by simp)
   omega
 ·cases c with
  |nil=>simp at e2;exact e2.1.symm
  |cons x c=>
   simp at e2;obtain⟨rfl,rfl⟩:=e2;have:=h1 p' (by rw[e1];simp)
   have:=AZ p (by simp)
   omega
theorem uE {f:Int->Nat}:∀(l a s:cn) (b:Int),Top f a b->∃p,zm f l (some b)=some p/\Top f (a++l) p
 |[],a,s,b,h=>⟨b,rfl,by simpa using h⟩
 |p::r,a,s,b,h=>by
  unfold zm;have e:a++p::r=(a++[p])++r:=by simp
  rw[e];by_cases hb:f b<f p
  ·rw[if_pos hb];refine uE r (a++[p]) s p ⟨a,[],rfl,λx hx=>?_,λx hx=>by cases hx⟩
   obtain⟨a1,r1,rfl,h1,h2⟩:=h;rcases List.mem_append.mp hx with q|q
   ·exact bG (h1 x q) hb
   ·rcases List.mem_cons.mp q with rfl|q
    ·exact hb
    ·exact Nat.lt_of_le_of_lt (h2 x q) hb
  ·rw[if_neg hb];obtain⟨a1,r1,rfl,h1,h2⟩:=h;refine uE r (a1++b::r1++[p]) s b ⟨a1,r1++[p],by simp,h1,λx hx=>?_⟩
   rcases List.mem_append.mp hx with q|q
   ·exact h2 x q
   ·simp at q;subst q;omega
theorem zo {f:Int->Nat}{l:cn}(h:l≠[]):∃p,zm f l none=some p/\Top f l p:=by
 cases l with
 |nil=>exact absurd rfl h
 |cons p r=>exact uE r [p] [] p ⟨[],[],rfl,λx hx=>(by cases hx),λx hx=>(by cases hx)⟩
theorem FH:∀(l:cn),l≠[]->lG l∈l/\∀x∈l,x<=lG l
 |[],h=>absurd rfl h
 |[a],_=>by simp[lG]
 |a::b::r,_=>by
  obtain⟨h1,h2⟩:=FH (b::r) (by simp)
  have e:lG (a::b::r)=(if a<lG (b::r)then lG (b::r)else a):=by rw[lG];simp
  rw[e];refine⟨?_,λx hx=>?_⟩
  ·by_cases h:a<lG (b::r)
   ·rw[if_pos h];exact ai _ h1
   ·rw[if_neg h];exact af
  ·rcases List.mem_cons.mp hx with rfl|q
   ·split<;>omega
   ·have:=h2 x q;split<;>omega
theorem KN {l:cn}{x:Int}(h:x∈l):∃j,l.idxOf? x=some j:=by
 cases e:l.idxOf? x with
 |some j=>exact⟨j,rfl⟩
 |none=>exact absurd h (by rw[List.idxOf?_eq_none_iff]at e;exact e)
theorem MZ {f:Int->Nat}{l:cn}(h:l≠[]):∃j p,(l.map λx=>(f x:Int)).idxOf? (lG (l.map λx=>(f x:Int)))=some j/\l[j]? =some p/\Top f l p:=by
 have hm:(l.map λx=>(f x:Int))≠[]:=by simpa using h
 obtain⟨h1,h2⟩:=FH _ hm;obtain⟨j,hj⟩:=KN h1;have E1:=hj;rw[List.idxOf?_eq_some_iff]at hj;obtain⟨hl,e,hb⟩:=hj;have iE:j<l.length:=by simpa using hl
 refine⟨j,l[j],E1,ah iE,l.take j,l.drop (j+1),?_,λx hx=>?_,λx hx=>?_⟩
 ·rw[<-List.drop_eq_getElem_cons iE,List.take_append_drop]
 ·rw[List.getElem_map]at e;obtain⟨i,hi,rfl⟩:=List.getElem_of_mem hx;rw[bJ]at hi;have vh:i<j:=by omega
  have:=hb i vh;rw[List.getElem_map,<-e]at this;have le:=h2 _ (List.mem_map.mpr ⟨l[i],List.getElem_mem _,rfl⟩);rw[<-e]at le;rw[List.getElem_take];omega
 ·rw[List.getElem_map]at e;have le:=h2 _ (List.mem_map.mpr ⟨x,List.mem_of_mem_drop hx,rfl⟩);rw[<-e]at le;omega
noncomputable def Uh (q N:Nat) (many:Int) (m y:cn) (ls:cm) (t:cn) (p:Int):Nat:=wN q N m (y++t) (ls.filter λl=>decide (p∈l))
noncomputable def gP (q N:Nat) (many:Int) (m y:cn) (ls:cm):Nat->cn->cn
 |0,t=>t
 |n+1,t=>match zm (Uh q N many m y ls t) (dg many m (y++t)) none with
  |none=>t
  |some p=>gP q N many m y ls n (t++[p])
end GP
namespace GP
open PySem DL
section
variable {q N:Nat}
theorem Az {y y' l:cn}(h:∀p,p∈y↔p∈y'):dI y l=dI y' l:=by
 unfold dI
 congr 1
 funext p
 exact decide_eq_decide.mpr (h p)
theorem Hn {m m' l:cn}(h:∀p,p∈m↔p∈m'):mI m l=mI m' l:=by
 unfold mI
 congr 2
 funext p
 rw[decide_eq_decide.mpr (h p)]
theorem Cj {m m' y y':cn}(hm:∀p,p∈m↔p∈m') (hy:∀p,p∈y↔p∈y') (ls:cm):wN q N m y ls=wN q N m' y' ls:=by
 induction ls with
 |nil=>rfl
 |cons l ls ih=>rw[j4,j4,ih,Az hy,Hn hm]
theorem Ho (y l:cn) (p:Int):dI (y++[p]) l=(dI y l||decide (p∈l)):=by
 rw[Bool.eq_iff_iff];unfold dI;simp only[bO,decide_eq_true_eq,List.mem_append,bt,Bool.or_eq_true];constructor
 ·rintro⟨x,h1,h2|rfl⟩
  ·exact .inl ⟨x,h1,h2⟩
  ·exact .inr h1
 ·rintro(⟨x,h1,h2⟩|h)
  ·exact⟨x,h1,.inl h2⟩
  ·exact⟨p,h,.inr rfl⟩
theorem KO (m y:cn) (p:Int) (ls:cm):wN q N m (y++[p]) ls+wN q N m y (ls.filter λl=>decide (p∈l))=wN q N m y ls:=by
 induction ls with
 |nil=>rfl
 |cons l ls ih=>
  rw[j4,j4,br,Ho];by_cases h:p∈l
  ·simp only[h,decide_true,Bool.or_true,if_true];rw[j4];omega
  ·simp only[h,decide_false,Bool.or_false,aH,bD];omega
theorem FJ {m y y':cn}(h:∀p∈y,p∈y') (ls:cm):wN q N m y' ls<=wN q N m y ls:=by
 induction ls with
 |nil=>exact au _
 |cons l ls ih=>
  rw[j4,j4];by_cases h1:dI y' l=true
  ·rw[if_pos h1];omega
  ·have h2:¬ dI y l=true:=λz=>h1 (by
    unfold dI at z ⊢;simp only[bO,decide_eq_true_eq]at z ⊢;exact z.imp λp hp=>⟨hp.1,h p hp.2⟩)
   rw[if_neg h1,if_neg h2];omega
theorem KP {m l:cn}{z:Int}(hz:z∉m) (nd:l.Nodup):mI m l=mI (m++[z]) l+(if z∈l then 1 else 0):=by
 induction l with
 |nil=>simp[mI]
 |cons a l ih=>
  have QX:=List.nodup_cons.mp nd;have ih:=ih QX.2;unfold mI at ih ⊢;rw[br,br];by_cases ha:a=z
  ·subst ha;have e1:(!decide (a∈m))=true:=by simp[hz]
   have e2:(!decide (a∈m++[a]))=false:=by simp
   rw[e1,e2];rw[if_neg QX.1]at ih;simp
   simpa using ih
  ·have e:decide (a∈m++[z])=decide (a∈m):=by simp[ha]
   rw[e];have ez:(z∈a::l)=(z∈l):=by simp[Ne.symm ha]
   simp only[ez];by_cases hm:a∈m
   ·simp only[hm,decide_true,bT,aH,bD];exact ih
   ·simp only[hm,decide_false,Bool.not_false,if_true,ax];omega
theorem Ck {m y:cn}{z:Int}(hz:z∉m) (ls:cm) (hn:∀l∈ls,l.Nodup/\l.length<=N) (hq:0<q):wN q N (m++[z]) y ls=wN q N m y ls+(q-1)*wN q N m y (ls.filter λl=>decide (z∈l)):=by
 induction ls with
 |nil=>rfl
 |cons l ls ih=>
  have h1:=hn l af;have ih:=ih λk hk=>hn k (ai _ hk)
  have hc:=KP hz h1.1;have hl:mI m l<=N:=aB (KL m l) h1.2;rw[j4,j4,br,ih];by_cases h:z∈l
  ·rw[if_pos h]at hc;simp only[h,decide_true,if_true];rw[j4];by_cases hs:dI y l=true
   ·simp only[hs,if_true,Nat.zero_add]
   ·simp only[hs,bD];have e:N-mI (m++[z]) l=(N-mI m l)+1:=by omega
    rw[e,Nat.pow_succ,Nat.mul_add];obtain⟨k,rfl⟩:∃k,q=k+1:=⟨q-1,by omega⟩
    simp only[Nat.add_sub_cancel];generalize (k+1)^(N-mI m l)=A;generalize k*wN (k+1) N m y (ls.filter λl=>decide (z∈l))=B
    have e2:A*(k+1)=A+k*A:=by rw[Nat.mul_add,Nat.mul_one,Nat.mul_comm A k];omega
    simp only[aH,bD];rw[e2];omega
  ·rw[if_neg h]at hc;simp only[h,decide_false,aH,bD];have e:mI (m++[z]) l=mI m l:=by omega
   rw[e];omega
theorem M1 {m y:cn}{z:Int}(hz:z∉m) (ls:cm) (hn:∀l∈ls,l.Nodup/\l.length<=N) (hq:0<q):wN q N m y ls<=wN q N (m++[z]) y ls:=by
 rw[Ck hz ls hn hq];omega
theorem QA {f:Int->Nat}{l:cn}{p:Int}(h:Top f l p):p∈l/\∀z∈l,f z<=f p:=by
 obtain⟨a,r,rfl,h1,h2⟩:=h;refine⟨by simp,λz hz=>?_⟩
 rcases List.mem_append.mp hz with hz|hz
 ·exact bg (h1 z hz)
 ·rcases List.mem_cons.mp hz with rfl|hz
  ·exact au _
  ·exact h2 z hz
theorem AA {many:Int}{m y:cn}{ls:cm}:∀(n:Nat) (t:cn),t.Nodup->(∀p∈t,p∈dg many m y)->
  (gP q N many m y ls n t).Nodup/\(∀p∈gP q N many m y ls n t,p∈dg many m y)/\(∀p∈t,p∈gP q N many m y ls n t)/\
  ((gP q N many m y ls n t).length=t.length+n\/(gP q N many m y ls n t).length<=t.length+n/\∀p∈dg many m y,p∈gP q N many m y ls n t)/\
  ∀z∈dg many m (y++gP q N many m y ls n t),n*wN q N m (y++gP q N many m y ls n t) (ls.filter λl=>decide (z∈l))+wN q N m (y++gP q N many m y ls n t) ls<=wN q N m (y++t) ls
 |0,t,nd,hf=>⟨nd,hf,λp hp=>hp,.inl rfl,λz hz=>by unfold gP;omega⟩
 |n+1,t,nd,hf=>by
  by_cases he:dg many m (y++t)=[]
  ·have e:gP q N many m y ls (n+1) t=t:=by unfold gP;rw[he];rfl
   rw[e];refine⟨nd,hf,λp hp=>hp,.inr ⟨by omega,λp hp=>?_⟩,λz hz=>by rw[he]at hz;cases hz⟩
   have:=dv.mp hp;by_cases ht:p∈t
   ·exact ht
   ·have:p∈dg many m (y++t):=dv.mpr ⟨this.1,this.2.1,λz=>(List.mem_append.mp z).elim this.2.2 ht⟩
    rw[he]at this;cases this
  ·obtain⟨p,hb,top⟩:=zo (f:=Uh q N many m y ls t) he;have e:gP q N many m y ls (n+1) t=gP q N many m y ls n (t++[p]):=by
    rw[gP,hb]
   have hp:=QA top;have M3:=dv.mp hp.1;have hpt:p∉t:=λz=>M3.2.2 (List.mem_append.mpr (.inr z))
   have QX:(t++[p]).Nodup:=by
    refine List.nodup_append.mpr ⟨nd,by simp,λa ha b hb=>?_⟩
    rw[bt.mp hb]
    rintro rfl
    exact hpt ha
   obtain⟨i1,i2,i3,i4,i5⟩:=AA (many:=many) (m:=m) (y:=y) (ls:=ls) n (t++[p]) QX λx hx=>by
    rcases List.mem_append.mp hx with hx|hx
    ·exact hf x hx
    ·rw[bt.mp hx];exact dv.mpr ⟨M3.1,M3.2.1,λz=>M3.2.2 (List.mem_append.mpr (.inl z))⟩
   rw[e];refine⟨i1,i2,λx hx=>i3 x (List.mem_append.mpr (.inl hx)),?_,λz hz=>?_⟩
   ·rw[aQ,List.length_singleton]at i4;rcases i4 with h|h
    ·exact .inl (by omega)
    ·exact .inr ⟨by omega,h.2⟩
   ·have h1:=i5 z hz;have NT:=dv.mp hz;have zin:z∈dg many m (y++t):=dv.mpr ⟨NT.1,NT.2.1,λk=>NT.2.2 (by
     rcases List.mem_append.mp k with k|k
     ·exact List.mem_append.mpr (.inl k)
     ·exact List.mem_append.mpr (.inr (i3 z (List.mem_append.mpr (.inl k)))))⟩
    have h2:=hp.2 z zin;have h3:=KO (q:=q) (N:=N) m (y++t) p ls;have h4:wN q N m (y++gP q N many m y ls n (t++[p])) (ls.filter λl=>decide (z∈l))<=wN q N m (y++t) (ls.filter λl=>decide (z∈l)):=FJ (λx hx=>by
     rcases List.mem_append.mp hx with k|k
     ·exact List.mem_append.mpr (.inl k)
     ·exact List.mem_append.mpr (.inr (i3 x (List.mem_append.mpr (.inl k))))) _
    have e2:y++t++[p]=y++(t++[p]):=List.append_assoc ..;rw[e2]at h3;unfold Uh at h2;rw[Nat.add_mul,Nat.one_mul];omega
theorem En {m y:cn}{ls:cm}(dj:∀p∈m,p∉y) (h:∃l∈ls,∀p∈l,p∈m):q^N<=wN q N m y ls:=by
 obtain⟨l,hl,hm⟩:=h;induction ls with
 |nil=>cases hl
 |cons k ls ih=>
  rw[j4];rcases List.mem_cons.mp hl with rfl|hl
  ·have e1:¬ dI y l=true:=λz=>by
    unfold dI at z;simp only[bO,decide_eq_true_eq]at z;obtain⟨p,h1,h2⟩:=z;exact dj p (hm p h1) h2
   have e2:mI m l=0:=by
    unfold mI;rw[List.length_eq_zero_iff,List.filter_eq_nil_iff];intro p hp;simp[hm p hp]
   rw[if_neg e1,e2,Nat.sub_zero];omega
  ·have:=ih hl;omega
structure o9 (q N:Nat) (ls:cm) (m y:cn) (w:Int):Prop where
 lt:wN q N m y ls<q^N
 z:w=0->∀z∈dg N m y,wN q N (m++[z]) y ls<q^N
theorem o9.over {ls:cm}{m y:cn}{w:Int}(h:o9 q N ls m y w) (dj:∀p∈m,p∉y):¬ ∃l∈ls,∀p∈l,p∈m:=λz=>by
 have:=En (q:=q) (N:=N) dj z;have:=h.lt;omega
theorem o9.build {ls:cm}{m y:cn}(h:o9 q N ls m y 0) {z:Int}(hz:z∈dg N m y):o9 q N ls (sortI (m++[z])) y 1:=by
 refine⟨?_,λc=>absurd c (by decide)⟩
 rw[Cj (m':=m++[z]) (y':=y) (λp=>cY) (λp=>Iff.rfl)]
 exact h.z rfl z hz
theorem o9.guard {ls:cm}{m y:cn}(hn:∀l∈ls,l.Nodup/\l.length<=N) (hq:0<q) (h:o9 q N ls m y 1):o9 q N ls m (sortI (y++gP q N N m y ls (q-1) [])) 0:=by
 have e:∀m',wN q N m' (sortI (y++gP q N N m y ls (q-1) [])) ls=wN q N m' (y++gP q N N m y ls (q-1) []) ls:=λm'=>Cj (λp=>Iff.rfl) (λp=>cY) ls
 have hl:=h.lt;refine⟨?_,λ_ z hz=>?_⟩
 ·rw[e];exact Nat.lt_of_le_of_lt (FJ (λp hp=>List.mem_append.mpr (.inl hp)) ls) hl
 ·rw[e];have NT:=dv.mp hz;have hz2:z∈dg N m (y++gP q N N m y ls (q-1) []):=dv.mpr ⟨NT.1,NT.2.1,λk=>NT.2.2 (cY.mpr k)⟩
  have r:=(AA (q:=q) (N:=N) (many:=N) (m:=m) (y:=y) (ls:=ls) (q-1) [] List.nodup_nil (λp hp=>by cases hp)).2.2.2.2 z hz2
  rw[Ck NT.2.1 ls hn hq];rw[bB]at r;omega
theorem zp {m y:cn}{ls:cm}{G:Gm}(hm:G.many=(N:Int)) (hg:G.g=(q:Int)-1) (hq:0<q):sortI (gP q N N m y ls (q-1) [])∈G.hW m y 1/\(gP q N N m y ls (q-1) []).length=min (q-1) (dg N m y).length:=by
 obtain⟨h1,h2,_,h4,_⟩:=AA (q:=q) (N:=N) (many:=N) (m:=m) (y:=y) (ls:=ls) (q-1) [] List.nodup_nil (λp hp=>by cases hp)
 have hle:=h1.length_le_of_subset h2;have hlen:(gP q N N m y ls (q-1) []).length=min (q-1) (dg N m y).length:=by
  rcases h4 with h|⟨h,ha⟩
  ·simp at h;omega
  ·have:=(gp (kj N m y)).length_le_of_subset ha;simp at h;omega
 refine⟨?_,hlen⟩;unfold Gm.hW;rw[iz,hm,hg];refine⟨?_,?_,λp hp=>h2 p (cY.mp hp)⟩
 ·rw[(sortI_perm _).length_eq,hlen];unfold uY;simp only[show ¬ (1:Int)=0 by decide,bD]
  split<;>omega
 ·have:=lX (gP q N N m y ls (q-1) []);have nd:(sortI (gP q N N m y ls (q-1) [])).Nodup:=(sortI_perm _).nodup_iff.mpr h1;refine(this.and nd).imp λ{a b} h=>?_
  have:=h.1;have:=h.2;omega
theorem Hq (a c:cn):sortI (a++sortI c)=sortI (a++c):=by
 have p:(sortI (a++sortI c)).Perm (sortI (a++c)):=(sortI_perm _).trans (((sortI_perm c).append_left a).trans (sortI_perm _).symm);exact p.eq_of_pairwise (λx y _ _ h1 h2=>Int.le_antisymm h1 h2) (lX _) (lX _)
end
theorem KQ {q N:Nat}{G:Gm}(hG:G.Ok) (hm:G.many=(N:Int)) (hg:G.g=(q:Int)-1) (hb:G.b=1) (hq:0<q) (hn:∀l∈G.ls,l.Nodup/\l.length<=N):∀(k:Nat) (m y:cn) (w:Int),(G.free m y).length<=k->eS G.many m y->(w=0\/w=1)->o9 q N G.ls m y w->G.jd m y w=1:=by
 intro k;induction k with
 |zero=>
  intro m y w hk h hw hs;have h0:G.free m y=[]:=List.length_eq_zero_iff.mp (by omega)
  have hf:=qC hG h0;have no:=hs.over h.dj;rcases iA G m y with ho|ho|ho
  ·exact absurd (nT.mp ho) no
  ·exact jO hG h ho
  ·exact absurd ho hf
 |succ k ih=>
  intro m y w hk h hw hs;have no:=hs.over h.dj;rcases iA G m y with ho|ho|ho
  ·exact absurd (nT.mp ho) no
  ·exact jO hG h ho
  rcases nh hG h hw with Yb|hw1
  ·exfalso;rcases hw with rfl|rfl
   ·obtain⟨c,hc,Tp⟩:=(BW hG h ho).mp Yb;have l1:=nR hG ho hc;have l2:=nS hG hc;have l3:=pW h hc;rw[if_pos rfl,hb]at l2;have l2':c.length<=1:=l2;obtain⟨z,rfl⟩:∃z,c=[z]:=by
     cases c with
     |nil=>simp at l1
     |cons z r=>cases r with
      |nil=>exact⟨z,rfl⟩
      |cons _ _=>simp at l2'
    have hz:z∈dg N m y:=by
     unfold Gm.hW at hc;rw[iz]at hc;rw[<-hm];exact hc.2.2 z af
    have:=ih _ _ 1 (by simp at l3;omega) (js h hc) (.inr rfl) (by rw[Ha];exact hs.build hz)
    rw[this]at Tp;cases Tp
   ·obtain⟨hc,hl⟩:=zp (ls:=G.ls) (m:=m) (y:=y) hm hg hq;have Tp:=(Fx hG h ho).mp Yb _ hc;have l1:=nR hG ho hc;have l3:=pW h hc;have:=ih _ _ 0 (by omega) (js h hc) (.inl rfl) (by rw[Hb];show o9 q N G.ls m (sortI (y++sortI (gP q N N m y G.ls (q-1) []))) 0;rw[Hq];exact hs.guard hn hq)
    rw[this]at Tp;cases Tp
  ·exact hw1
end GP
namespace K8
open PySem DL GP PC PW
open LW (dk dq)
open L2 (j9 qX)
noncomputable def qg:bZ:=
  (eE (dL (dR (iT (di jc (dc 0) (dC (.int 1)))) 2 (qB (di yL (dc 1) (dc 2))) (cQ 2))))
noncomputable def kK:bZ:=
  qg
noncomputable def gQ:cf:=gi 3 2 kK
noncomputable def zq:bZ:=
  (jf 2 (dC (.int 1)))
noncomputable def zr:bZ:=
  (jf 2 (di pG (dc 2) (dc 0)))
noncomputable def kA:bZ:=
  zr
noncomputable def uF:bZ:=
  (lU 3 (ug (bV (cQ 1) cN)) kA)
noncomputable def Hr:bZ:=
  (eE (cQ 2))
noncomputable def tM:bZ:=
  (eB zq
  (eB uF
  Hr))
noncomputable def oO:cf:=gi 4 2 tM
noncomputable def KR:bZ:=
  (eE (cO oO (bV (di jI (dc 1) (dC (.int 1))) (bV (di jc (dc 0) (dC (.int 0))) cN))))
noncomputable def vN:bZ:=
  KR
noncomputable def xp:cf:=gi 2 2 vN
noncomputable def rZ:bZ:=
  (iq 5 (dR (iS (cQ 4)) 6 (qQ (qB (cO fT (bV (cQ 3) (bV (cQ 6) cN))))) (cO fF (bV (cQ 6) (bV (cQ 2) cN)))))
noncomputable def r0:bZ:=
  (eE (cO Mw (bV (dL (dR (iL (dc 5)) 7 lV (cO oO (bV (di jI (dc 1) (dC (.int 1))) (bV (di rP (di jc (dc 0) (dC (.int 0))) (cO iH (bV (dc 7) cN))) cN))))) cN)))
noncomputable def qK:bZ:=
  (eB rZ
  (qY 5 r0))
noncomputable def j5:cf:=gi 8 5 qK
noncomputable def mJ:bZ:=
  (jf 2 (di qP (dc 0) (dc 1)))
noncomputable def r6:bZ:=
  (jf 0 (cQ 1))
noncomputable def r9:bZ:=
  (jf 1 (cQ 2))
noncomputable def gw:bZ:=
  (eB mJ
  (eB r6
  r9))
noncomputable def mK:bZ:=
  (Aa 400 (qB (di A0 (dc 1) (dC (.int 0)))) gw)
noncomputable def sd:bZ:=
  (eE (cQ 0))
noncomputable def hZ:bZ:=
  (eB mK
  sd)
noncomputable def gG:cf:=gi 3 2 hZ
noncomputable def tN:bZ:=
  (jf 2 (cO gG (bV (cQ 0) (bV (cQ 1) cN))))
noncomputable def tR:bZ:=
  (eE (fz (bV (di Bh (dc 0) (dc 2)) (bV (di Bh (dc 1) (dc 2)) cN))))
noncomputable def mZ:bZ:=
  (eB tN
  tR)
noncomputable def mL:cf:=gi 3 2 mZ
noncomputable def xq:bZ:=
  (eE (cO mL (bV (cO j5 (bV (cQ 0) (bV (cQ 1) (bV (cQ 2) (bV (cQ 3) (bV (di jc (dc 0) (dC (.int 1))) cN)))))) (bV (cO xp (bV (cQ 0) (bV (cQ 1) cN))) cN))))
noncomputable def qL:bZ:=
  xq
noncomputable def nZ:cf:=gi 4 4 qL
noncomputable def jt:bZ:=
  (iq 5 (dR (iT (cQ 4)) 6 lV (cO j5 (bV (cQ 0) (bV (cQ 1) (bV (cQ 2) (bV (cQ 3) (bV (cO gQ (bV (cQ 0) (bV (cQ 6) cN))) cN))))))))
noncomputable def ju:bZ:=
  (eE (di jc (dc 4) (JB (dc 5) (cO E7 (bV (dc 5) cN)))))
noncomputable def ie:bZ:=
  (eB jt
  (qY 5 ju))
noncomputable def eR:cf:=gi 7 5 ie
noncomputable def tT:bZ:=
  (jf 4 (fz cN))
noncomputable def oP:bZ:=
  (jf 5 (cO gZ (bV (cQ 0) (bV (cQ 2) (bV (cQ 3) cN)))))
noncomputable def oQ:bZ:=
  (jf 4 (di jM (dc 4) (fz (bV (cO eR (bV (cQ 0) (bV (cQ 1) (bV (cQ 2) (bV (di jM (dc 3) (dc 4)) (bV (cQ 5) cN)))))) cN))))
noncomputable def oR:bZ:=
  (jf 5 (cO gZ (bV (cQ 0) (bV (cQ 2) (bV (di jM (dc 3) (dc 4)) cN)))))
noncomputable def kL:bZ:=
  (eB oQ
  oR)
noncomputable def tU:bZ:=
  (Aa 5 (kQ (qB (di Ja (cO iH (bV (dc 4) cN)) (dc 1))) (qB (di A0 (cO iH (bV (dc 5) cN)) (dC (.int 0))))) kL)
noncomputable def AB:bZ:=
  (eE (cQ 4))
noncomputable def m3:bZ:=
  (eB tT
  (eB oP
  (eB tU
  AB)))
noncomputable def mM:cf:=gi 6 4 m3
noncomputable def uG:bZ:=
  (eE (di Ja (di jc (dc 0) (dC (.int 0))) (di jc (dc 0) (dC (.int 1)))))
noncomputable def pe:bZ:=
  uG
noncomputable def gH:cf:=gi 1 1 pe
noncomputable def u5:bZ:=
  (eE (cO gH (bV (cO nZ (bV (di jc (dc 0) (dC (.int 0))) (bV (di jc (dc 0) (dC (.int 3))) (bV (fz cN) (bV (fz cN) cN))))) cN)))
noncomputable def m4:bZ:=
  (oY (qB (di qZ (di jc (dc 0) (dC (.int 1))) (dC (.int 1)))) u5 jF)
noncomputable def u6:bZ:=
  (eE (cO GH (bV (dL (dR (ug (bV (di jc (di jc (dc 0) (dC (.int 0))) (dC (.int 0))) cN)) 1 lV (cO gH (bV (cO nZ (bV (di jc (dc 0) (dC (.int 0))) (bV (di jc (dc 0) (dC (.int 3))) (bV (fz (bV (cQ 1) cN)) (bV (fz cN) cN))))) cN)))) cN)))
noncomputable def oS:bZ:=
  (eB m4
  u6)
noncomputable def n4:cf:=gi 2 1 oS
noncomputable def yk (cX:cf):bZ:=
  (eE (dC (.bl false)))
noncomputable def nu (cX:cf):bZ:=
  (oY (qB (di qZ (cO kX (bV (cQ 0) (bV (cQ 1) (bV (cQ 2) cN)))) (dC (.int 0)))) (yk cX) jF)
noncomputable def nv (cX:cf):bZ:=
  (iq 4 (dR (ug (bV (di jc (di jc (dc 0) (dC (.int 0))) (dC (.int 0))) cN)) 6 (qB (di qR (dc 6) (di jM (dc 1) (dc 2)))) (cQ 6)))
noncomputable def ny (cX:cf):bZ:=
  (jf 5 (cO mM (bV (di jc (dc 0) (dC (.int 0))) (bV (di jc (dc 0) (dC (.int 3))) (bV (cQ 1) (bV (cQ 2) cN))))))
noncomputable def ym (cX:cf):bZ:=
  (eE (dC (.bl false)))
noncomputable def nz (cX:cf):bZ:=
  (oY (O1 (qB (di Me (tL (dc 5)) (cO Bk (bV (di jc (dc 0) (dC (.int 3))) (bV (cO iH (bV (dc 4) cN)) cN))))) (qT (dL (dR (iT (cQ 5)) 6 (qB (di qR (dc 6) (dc 4))) (cQ 6))))) (ym cX) jF)
noncomputable def nA (cX:cf):bZ:=
  (eE (QP (zl (dc 4)) (cO cX (bV (cQ 0) (bV (cQ 1) (bV (cO lj (bV (dL (fA gk (bV (di jM (dc 2) (dc 5)) cN))) cN)) (bV (dC (.int 0)) cN)))))))
noncomputable def kM (cX:cf):bZ:=
  (oY (qB (di qZ (dc 3) (dC (.int 1)))) (eB (ny cX)
  (eB (nz cX)
  (nA cX))) jF)
noncomputable def yn (cX:cf):bZ:=
  (eE (dC (.bl false)))
noncomputable def qh (cX:cf):bZ:=
  (oY (qQ (qB (cO cX (bV (cQ 0) (bV (cO lj (bV (dL (fA gk (bV (di jM (dc 1) (fz (bV (cQ 6) cN))) cN))) cN)) (bV (cQ 2) (bV (dC (.int 1)) cN))))))) (yn cX) jF)
noncomputable def iD (cX:cf):bZ:=
  (qh cX)
noncomputable def mN (cX:cf):bZ:=
  (lU 6 (iL (cQ 4)) (iD cX))
noncomputable def xr (cX:cf):bZ:=
  (eE (dC (.bl true)))
noncomputable def j6 (cX:cf):bZ:=
  (eB (nu cX)
  (eB (nv cX)
  (qY 4 (eB (kM cX)
  (eB (mN cX)
  (xr cX))))))
noncomputable def eD:Nat->cf
 |0=>λ_=>none
 |n+1=>gi 7 4 (j6 (eD n))
noncomputable def AD:bZ:=
  (jf 2 (cO dq (bV (di jI (di pG (dC (.int 3)) (dc 1)) (dC (.int 1))) (bV (dC (.int 1)) (bV (dC (.int 6)) (bV (dC (.int 8)) cN))))))
noncomputable def FK:bZ:=
  (jf 2 (cO dq (bV (di jI (di pG (dC (.int 3)) (dc 1)) (dC (.int 2))) (bV (dC (.int 7)) (bV (dC (.int 7)) (bV (dC (.int 4)) cN))))))
noncomputable def vO:bZ:=
  (oY (qB (di qZ (di qP (dc 1) (dC (.int 5))) (dC (.int 0)))) FK jF)
noncomputable def AE:bZ:=
  (jf 3 (cO lj (bV (dL (dR (iT (di jc (dc 2) (dC (.int 1)))) 7 (qB (di A0 (cO iH (bV (dc 7) cN)) (dC (.int 1)))) (cQ 7))) cN)))
noncomputable def AF:bZ:=
  (jf 5 (fz (bV (fz (bV (di jc (dc 2) (dC (.int 0))) (bV (cQ 3) cN))) (bV (cQ 4) (bV (dC (.int 1)) (bV (di jI (dC (.int 1)) (cO dk (bV (cQ 1) (bV (dC (.int 9887)) (bV (dC (.int 3)) cN))))) cN))))))
noncomputable def AG:bZ:=
  (jf 6 (cO n4 (bV (cQ 5) cN)))
noncomputable def M4:bZ:=
  (eE (dC (.bl false)))
noncomputable def AH:bZ:=
  (oY (kQ (qT (dc 6)) (qQ (qB (cO (eD 9) (bV (cQ 5) (bV (fz cN) (bV (fz cN) (bV (cQ 4) cN)))))))) M4 jF)
noncomputable def M5:bZ:=
  (eE (dC (.bl false)))
noncomputable def xt:bZ:=
  (oY (kQ (qB (di Ja (di jc (dc 2) (dC (.int 0))) (dC (.int 7)))) (kQ (qT (dc 6)) (qB (di Me (cO nY (bV (cQ 5) cN)) (dC (.int 1)))))) M5 jF)
noncomputable def tV:bZ:=
  (eB AF
  (eB AG
  (eB AH
  xt)))
noncomputable def xu:bZ:=
  (lU 4 (iT (fz (bV (dC (.int 0)) (bV (dC (.int 1)) cN)))) tV)
noncomputable def n5:bZ:=
  (eB AD
  (eB vO
  (eB AE
  xu)))
noncomputable def xv:bZ:=
  (lU 1 (iL (dL (Jd (dc 0) Pq (Bl (dC (.int 2)))))) n5)
noncomputable def KS:bZ:=
  (eE (dC (.bl true)))
noncomputable def AI:bZ:=
  (eB xv
  KS)
noncomputable def FL:cf:=gi 8 1 AI
end K8
namespace K8
open PySem DL GP PC PW
open LW (dk dq)
open L2 (j9 qX)
theorem qf {l m:cn}(hl:l.length<1000000):fF [tupI l,tupI m]=some (tupI (l.filter λp=> !decide (p∈m))):=by
 refine LW.dM rfl ?_;show iO [cH l,cH m,.no]=_;have key:gS 2 (qB (di qR (dc 2) (dc 1))) (cQ 2) [cH l,cH m,.no] (l.map D.int)=some (((l.map D.int).filter λd=> !decide (intOf d∈m)).map id):=by
  refine LW.jN _ ?_ ?_
  ·intro d hd;obtain⟨i,_,rfl⟩:=List.mem_map.mp hd;exact gW ((fE rfl rfl).trans (nM i m))
  ·intro d hd _;simp[cQ]
 rw[mT (λi=> !decide (i∈m)),List.map_id]at key
 unfold iO;refine eO ((jU (ds:=(l.filter λp=> !decide (p∈m)).map D.int) ?_).trans rfl)
 have hlen:(l.map D.int).length<1000000:=by simpa using hl
 have it:iT (cQ 0) [cH l,cH m,.no]=some (l.map D.int):=rfl;unfold dR;rw[it];simp only[ao,if_pos hlen];exact key
theorem gF {α:Type}{j:Nat}{t:cc}{f:cb}{δ:dO}{φ ψ:α->D}{p:α->Bool}:∀(l:List α),(∀a∈l,t (δ.set j (.dat (φ a)))=some (p a))->(∀a∈l,p a=true->f (δ.set j (.dat (φ a)))=some (ψ a))->gS j t f δ (l.map φ)=some ((l.filter p).map ψ)
 |[],_,_=>rfl
 |a::r,h1,h2=>by
  have ih:=gF r (λb hb=>h1 b (ai _ hb)) λb hb=>h2 b (ai _ hb)
  show gS j t f δ (φ a::r.map φ)=_;unfold gS;rw[h1 a af,br];cases hp:p a with
  |true=>
   simp only[if_true];rw[h2 a af hp,ih];rfl
  |false=>simpa using ih
theorem AJ {many:D}{ls:cm}{p:Int}(hn:ls.length<1000000):gQ [.tup [many,.tup (ls.map tupI)],.int p]=some (.lst ((ls.filter λl=>decide (p∈l)).map tupI)):=by
 refine LW.dM rfl ?_;show kK [.dat (.tup [many,.tup (ls.map tupI)]),cG p,.no]=_;have key:gS 2 (qB (di yL (dc 1) (dc 2))) (cQ 2) [.dat (.tup [many,.tup (ls.map tupI)]),cG p,.no] (ls.map tupI)=some ((ls.filter λl=>decide (p∈l)).map tupI):=
  gF ls (λa _=>gW ((fE rfl rfl).trans (Aq p a))) λa _ _=>rfl
 have it:iT (di jc (dc 0) (dC (.int 1))) [.dat (.tup [many,.tup (ls.map tupI)]),cG p,.no]=some (ls.map tupI):=rfl;have hlen:(ls.map tupI).length<1000000:=by simpa using hn
 have e:dR (iT (di jc (dc 0) (dC (.int 1)))) 2 (qB (di yL (dc 1) (dc 2))) (cQ 2) [.dat (.tup [many,.tup (ls.map tupI)]),cG p,.no]=some ((ls.filter λl=>decide (p∈l)).map tupI):=by
  unfold dR;rw[it];simp only[ao,if_pos hlen];exact key
 unfold kK qg;refine eO ?_;show(dR _ _ _ _ _).map D.lst=_;rw[e];rfl
theorem AK {a b:Int}(h:wb a b=true):pG (.int a) (.int b)=some (.int (a*b)):=by simp only[pG,Dt,h,if_true]
theorem FN {a b:Int}(h:xR a b=true):qP (.int a) (.int b)=some (.int (a%b)):=by simp only[qP,Dt,h,if_true]
theorem FO {a b:Int}(h:IK a b=true):Bh (.int a) (.int b)=some (.int (a/b)):=by simp only[Bh,Dt,h,if_true]
theorem KU {a b:Nat}(h:b<18446744073709551616):wb (a:Int) (b:Int)=true:=by
 have e:(2:Int)^64=18446744073709551616:=by decide +kernel
 unfold wb;rw[e];simp only[Bool.or_eq_true,Bool.and_eq_true,decide_eq_true_eq];omega
theorem iQ {j:Nat}{f:bZ}{d:D}{ds:cu}{δ δ':dO}(h:f (δ.set j (.dat d))=some (.next δ')):gr j f (d::ds) δ=gr j f ds δ':=by simp only[gr,h]
theorem Cm {q:Nat}{T:D}(hq:∀a:Nat,wb (a:Int) (q:Int)=true):∀(ds:cn) (a:Nat) (x:Sl),∃x',gr 3 kA (ds.map D.int) [cG q,.dat T,cG a,x]=some (.next [cG q,.dat T,cG ((a*q^ds.length:Nat):Int),x'])
 |[],a,x=>⟨x,by simp[gr]⟩
 |d::ds,a,x=>by
  obtain⟨x',ih⟩:=Cm (T:=T) hq ds (a*q) (cG d);refine⟨x',?_⟩;have e:kA [cG q,.dat T,cG a,cG d]=some (.next [cG q,.dat T,cG ((a*q:Nat):Int),cG d]):=by
   have h:di pG (dc 2) (dc 0) [cG q,.dat T,cG a,cG d]=some (.int ((a*q:Nat):Int)):=by
    rw[fE (x:=.int a) (y:=.int q) rfl rfl,AK (hq a),Int.natCast_mul]
   unfold kA zr;rw[gu h];rfl
  rw[aE,iQ (j:=3) (f:=kA) (d:=.int d) (δ:=[cG q,.dat T,cG a,x]) e,ih,ax,Nat.pow_succ,Nat.mul_comm (q^ds.length) q,Nat.mul_assoc]
theorem FP {q n:Nat}(hq:q<18446744073709551616) (hn:n<1000000):oO [.int q,.int (n:Nat)]=some (.int ((q^n:Nat):Int)):=by
 refine LW.dM rfl ?_;show tM [cG q,cG n,.no,.no]=_;have e1:zq [cG q,cG n,.no,.no]=some (.next [cG q,cG n,cG ((1:Nat):Int),.no]):=rfl;obtain⟨x',e⟩:=Cm (T:=.int n) (λa=>KU hq) (dJ 0 n) 1 .no
 rw[dS,Nat.one_mul]at e;have it:ug (bV (cQ 1) cN) [cG q,cG n,cG ((1:Nat):Int),.no]=some ((dJ 0 n).map D.int):=by
  have:bV (cQ 1) cN [cG q,cG n,cG ((1:Nat):Int),.no]=some [.int n]:=rfl;unfold ug;rw[this];exact if_pos ⟨by omega,by omega⟩
 have e3:uF [cG q,cG n,cG ((1:Nat):Int),.no]=some (.next [cG q,cG n,cG ((q^n:Nat):Int),x']):=by
  unfold uF lU;rw[it];exact e
 unfold tM;rw[LW.cS e1,LW.cS e3];rfl
theorem QB {q N:Nat}{L:D}(hq:q<18446744073709551616) (hn:N<1000000):xp [.tup [.int (N:Nat),L],.int ((q:Int)-1)]=some (.int ((q^N:Nat):Int)):=by
 refine LW.dM rfl ?_;show vN [.dat (.tup [.int (N:Nat),L]),cG ((q:Int)-1)]=_;unfold vN;have ea:di jI (dc 1) (dC (.int 1)) [.dat (.tup [.int (N:Nat),L]),cG ((q:Int)-1)]=some (.int q):=by
  show some (D.int ((q:Int)-1+1))=_
  congr 2;omega
 exact eO ((de (ff ea (i8 rfl))).trans (FP hq hn))
theorem KW (ns:List Nat):(ns.map λ(n:Nat)=>(n:Int)).sum=((ns.sum:Nat):Int):=by
 induction ns with
 |nil=>rfl
 |cons a r ih=>simp[ih]
theorem Hs (ns:cn):Mw [.lst (ns.map D.int)]=some (.int ns.sum):=by
 show(intsOf (ns.map D.int)).map _=_;rw[fP];rfl
theorem KY {q N:Nat}{L S:D}{m y:cn}{ls:cm}(hS:S=.tup (ls.map tupI)\/S=.lst (ls.map tupI)) (hq:q<18446744073709551616) (hN:N<1000000) (hn:ls.length<1000000) (hl:∀l∈ls,l.length<1000000) (hc:∀l∈ls,mI m l<=N):
  j5 [.tup [.int (N:Nat),L],.int ((q:Int)-1),tupI m,tupI y,S]=some (.int ((wN q N m y ls:Nat):Int)):=by
 refine LW.dM rfl ?_;show qK [.dat (.tup [.int (N:Nat),L]),cG ((q:Int)-1),cH m,cH y,.dat S,.no,.no,.no]=_;have hlen:(ls.map tupI).length<1000000:=by simpa using hn
 have e1:rZ [.dat (.tup [.int (N:Nat),L]),cG ((q:Int)-1),cH m,cH y,.dat S,.no,.no,.no]=some (.next [.dat (.tup [.int (N:Nat),L]),cG ((q:Int)-1),cH m,cH y,.dat S,.own ((ls.filter λl=> !dI y l).map λl=>tupI (l.filter λp=> !decide (p∈m))),.no,.no]):=by
  have it:iS (cQ 4) [.dat (.tup [.int (N:Nat),L]),cG ((q:Int)-1),cH m,cH y,.dat S,.no,.no,.no]=some (ls.map tupI):=by
   rcases hS with rfl|rfl<;>rfl
  have key:dR (iS (cQ 4)) 6 (qQ (qB (cO fT (bV (cQ 3) (bV (cQ 6) cN))))) (cO fF (bV (cQ 6) (bV (cQ 2) cN))) [.dat (.tup [.int (N:Nat),L]),cG ((q:Int)-1),cH m,cH y,.dat S,.no,.no,.no]=some ((ls.filter λl=> !dI y l).map λl=>tupI (l.filter λp=> !decide (p∈m))):=by
   unfold dR;rw[it];simp only[ao,if_pos hlen];refine gF ls (λa ha=>tj (gW ((de rfl).trans (rY (hl a ha))))) λa ha _=>(de rfl).trans (qf (hl a ha))
  unfold rZ iq;rw[key];rfl
 unfold qK;rw[LW.cS e1];show r0 [.dat (.tup [.int (N:Nat),L]),cG ((q:Int)-1),cH m,cH y,.dat S,.dat (.lst ((ls.filter λl=> !dI y l).map λl=>tupI (l.filter λp=> !decide (p∈m)))),.no,.no]=_
 unfold r0;refine eO ((jU (ds:=(((ls.filter λl=> !dI y l).map λl=>q^(N-mI m l)).map λ(n:Nat)=>(n:Int)).map D.int) ?_).trans ?_)
 ·have it:iL (dc 5) [.dat (.tup [.int (N:Nat),L]),cG ((q:Int)-1),cH m,cH y,.dat S,.dat (.lst ((ls.filter λl=> !dI y l).map λl=>tupI (l.filter λp=> !decide (p∈m)))),.no,.no]=some ((ls.filter λl=> !dI y l).map λl=>tupI (l.filter λp=> !decide (p∈m))):=rfl
  have h2:((ls.filter λl=> !dI y l).map λl=>tupI (l.filter λp=> !decide (p∈m))).length<1000000:=by
   rw[ae];exact Nat.lt_of_le_of_lt (aW _ _) hn
  unfold dR;rw[it];simp only[ao,if_pos h2];rw[aV,aV];refine jT _ λl CN=>?_
  have t7:=hc l (List.mem_filter.mp CN).1;have ea:di jI (dc 1) (dC (.int 1)) [.dat (.tup [.int (N:Nat),L]),cG ((q:Int)-1),cH m,cH y,.dat S,.dat (.lst ((ls.filter λl=> !dI y l).map λl=>tupI (l.filter λp=> !decide (p∈m)))),.no,cH (l.filter λp=> !decide (p∈m))]=some (.int q):=by
   show some (D.int ((q:Int)-1+1))=_
   congr 2;omega
  have eb:di rP (di jc (dc 0) (dC (.int 0))) (cO iH (bV (dc 7) cN)) [.dat (.tup [.int (N:Nat),L]),cG ((q:Int)-1),cH m,cH y,.dat S,.dat (.lst ((ls.filter λl=> !dI y l).map λl=>tupI (l.filter λp=> !decide (p∈m)))),.no,cH (l.filter λp=> !decide (p∈m))]=some (.int ((N-mI m l:Nat):Int)):=by
   show some (D.int ((N:Int)-(((l.filter λp=> !decide (p∈m)).map D.int).length:Int)))=_
   rw[ae];unfold mI at t7 ⊢
   congr 2;omega
  exact(de (ff ea (i8 eb))).trans (FP hq (by omega))
 ·rw[Hs,KW];rfl
theorem FQ:∀(k a b g:Nat) (x:Sl),eu k a b=some g->∃x',ng (qB (di A0 (dc 1) (dC (.int 0)))) gw k [cG a,cG b,x]=some (.next [cG g,cG (0:Nat),x'])
 |0,a,b,g,x,h=>by cases h
 |k+1,a,b,g,x,h=>by
  unfold eu at h;unfold ng;have hc:qB (di A0 (dc 1) (dC (.int 0))) [cG a,cG b,x]=some (decide ((0:Int)<b)):=rfl;by_cases h0:b=0
  ·rw[if_pos h0]at h;cases h;subst h0;exact⟨x,rfl⟩
  ·rw[if_neg h0]at h;obtain⟨x',ih⟩:=FQ k b (a%b) g (cG ((a%b:Nat):Int)) h;refine⟨x',?_⟩;rw[hc,aR (by omega)]
   have hm:xR a b=true:=by unfold xR;simp;omega
   have e1:mJ [cG a,cG b,x]=some (.next [cG a,cG b,cG ((a%b:Nat):Int)]):=by
    have:di qP (dc 0) (dc 1) [cG a,cG b,x]=some (.int ((a%b:Nat):Int)):=by
     exact((fE rfl rfl).trans (FN hm)).trans (by simp)
    exact gu this
   have e2:gw [cG a,cG b,x]=some (.next [cG b,cG ((a%b:Nat):Int),cG ((a%b:Nat):Int)]):=by
    unfold gw;rw[LW.cS e1];rfl
   simp only;rw[e2];exact ih
theorem V0 {a b:Nat}(hb:b<2^199):gG [.int a,.int b]=some (.int ((a.gcd b:Nat):Int)):=by
 refine LW.dM rfl ?_;show hZ [cG a,cG b,.no]=_;obtain⟨x',e⟩:=FQ 400 a b _ .no (NS 199 400 a b hb (by omega))
 have e4:mK [cG a,cG b,.no]=some (.next [cG ((a.gcd b:Nat):Int),cG (0:Nat),x']):=e;unfold hZ;rw[LW.cS e4];rfl
theorem Eo {a b:Nat}(h0:0<b) (hb:b<1073741824):mL [.int a,.int b]=some (KJ a b):=by
 refine LW.dM rfl ?_;show mZ [cG a,cG b,.no]=_;have g0:0<a.gcd b:=Nat.gcd_pos_of_pos_right _ h0;have g1:a.gcd b<=b:=Nat.le_of_dvd h0 (Nat.gcd_dvd_right a b);have e1:tN [cG a,cG b,.no]=some (.next [cG a,cG b,cG ((a.gcd b:Nat):Int)]):=
  gu ((de rfl).trans (V0 (aw hb (aB (show 1073741824<=2^30 by decide) (Nat.pow_le_pow_right (by decide) (by decide))))))
 unfold mZ;rw[LW.cS e1];have hd:∀x:Int,IK x ((a.gcd b:Nat):Int)=true:=λx=>by unfold IK;simp;omega
 have ea:di Bh (dc 0) (dc 2) [cG a,cG b,cG ((a.gcd b:Nat):Int)]=some (.int ((a/a.gcd b:Nat):Int)):=by
  exact((fE rfl rfl).trans (FO (hd _))).trans (by simp)
 have eb:di Bh (dc 1) (dc 2) [cG a,cG b,cG ((a.gcd b:Nat):Int)]=some (.int ((b/a.gcd b:Nat):Int)):=by
  exact((fE rfl rfl).trans (FO (hd _))).trans (by simp)
 unfold tR;refine eO ?_;unfold fz;rw[ff ea (i8 eb)];rfl
end K8
namespace K8
open PySem DL GP PC PW
open LW (dk dq)
open L2 (j9 qX)
structure Fk (q N:Nat) (ls:cm):Prop where
 q0:0<q
 q4:q<=4
 n9:N<=9
 n0:0<N
 num:ls.length<=10
 four:∀l∈ls,l.length<=4
 le:∀l∈ls,l.length<=N
theorem Fk.sub {q N:Nat}{ls:cm}(h:Fk q N ls) (f:cn->Bool):Fk q N (ls.filter f):=
 ⟨h.q0,h.q4,h.n9,h.n0,aB (aW _ _) h.num,λl hl=>h.four l (List.mem_filter.mp hl).1,λl hl=>h.le l (List.mem_filter.mp hl).1⟩
theorem Fk.c {q N:Nat}{ls:cm}(h:Fk q N ls) (m:cn):∀l∈ls,mI m l<=N:=λl hl=>aB (KL m l) (h.le l hl)
theorem Fk.w {q N:Nat}{ls:cm}{L S:D}{m y:cn}(h:Fk q N ls) (hS:S=.tup (ls.map tupI)\/S=.lst (ls.map tupI)):j5 [.tup [.int (N:Nat),L],.int ((q:Int)-1),tupI m,tupI y,S]=some (.int ((wN q N m y ls:Nat):Int)):=by
 have:=h.q4;have:=h.n9;have:=h.num;exact KY hS (by omega) (by omega) (by omega) (λl hl=>by have:=h.four l hl;omega) (h.c m)
theorem Fk.Q {q N:Nat}{ls:cm}(h:Fk q N ls):0<q^N/\q^N<=262144:=
 ⟨Nat.pow_pos h.q0,aB (Nat.pow_le_pow_left h.q4 N) (aB (Nat.pow_le_pow_right (by decide) h.n9) (by decide))⟩
theorem Co {q N:Nat}{ls:cm}{m y:cn}(h:Fk q N ls):nZ [.tup [.int (N:Nat),.tup (ls.map tupI)],.int ((q:Int)-1),tupI m,tupI y]=some (KJ (wN q N m y ls) (q^N)):=by
 have:=h.q4;have:=h.n9;have hQ:=h.Q;refine LW.dM rfl ?_;show qL [.dat (.tup [.int (N:Nat),.tup (ls.map tupI)]),cG ((q:Int)-1),cH m,cH y]=_;unfold qL xq;refine eO ((de (ff ((de rfl).trans (h.w (.inl rfl))) (i8 ((de rfl).trans (QB (by omega) (by omega)))))).trans (Eo hQ.1 (by omega)))
end K8
namespace K8
open PySem DL GP PC PW
open LW (dk dq)
open L2 (j9 qX)
theorem Ep {ns:cn}(h:ns≠[]):E7 [.lst (ns.map D.int)]=some (.int (lG ns)):=by
 show(intsOf (ns.map D.int)).bind _=_;rw[fP];cases ns with
 |nil=>exact absurd rfl h
 |cons a r=>rfl
theorem M6 {f g:cb}{δ:dO}{ns:cn}{z:Int}{j:Nat}(hf:f δ=some (.lst (ns.map D.int))) (hg:g δ=some (.int z)) (hj:ns.idxOf? z=some j):JB f g δ=some (.int (j:Nat)):=by
 unfold JB;rw[hf,hg];simp only[fP,ao,hj,bA]
theorem V1 {q N:Nat}{ls:cm}{m y free:cn}{p:Int}(h:Fk q N ls) (ja:free≠[]) (hf:free.length<=9) (hp:Top (λp=>wN q N m y (ls.filter λl=>decide (p∈l))) free p):
  eR [.tup [.int (N:Nat),.tup (ls.map tupI)],.int ((q:Int)-1),tupI m,tupI y,tupI free]=some (.int p):=by
 have:=h.num;refine LW.dM rfl ?_;show ie [.dat (.tup [.int (N:Nat),.tup (ls.map tupI)]),cG ((q:Int)-1),cH m,cH y,cH free,.no,.no]=_;have e1:jt [.dat (.tup [.int (N:Nat),.tup (ls.map tupI)]),cG ((q:Int)-1),cH m,cH y,cH free,.no,.no]=some (.next [.dat (.tup [.int (N:Nat),.tup (ls.map tupI)]),cG ((q:Int)-1),cH m,cH y,cH free,.own ((free.map λp=>((wN q N m y (ls.filter λl=>decide (p∈l)):Nat):Int)).map D.int),.no]):=by
  have it:iT (cQ 4) [.dat (.tup [.int (N:Nat),.tup (ls.map tupI)]),cG ((q:Int)-1),cH m,cH y,cH free,.no,.no]=some (free.map D.int):=rfl;have hlen:(free.map D.int).length<1000000:=by rw[ae];omega
  have key:dR (iT (cQ 4)) 6 lV (cO j5 (bV (cQ 0) (bV (cQ 1) (bV (cQ 2) (bV (cQ 3) (bV (cO gQ (bV (cQ 0) (bV (cQ 6) cN))) cN)))))) [.dat (.tup [.int (N:Nat),.tup (ls.map tupI)]),cG ((q:Int)-1),cH m,cH y,cH free,.no,.no]=some ((free.map λp=>((wN q N m y (ls.filter λl=>decide (p∈l)):Nat):Int)).map D.int):=by
   unfold dR;rw[it];simp only[ao,if_pos hlen];rw[aV];refine jT _ λx _=>?_
   have el:cO gQ (bV (cQ 0) (bV (cQ 6) cN)) [.dat (.tup [.int (N:Nat),.tup (ls.map tupI)]),cG ((q:Int)-1),cH m,cH y,cH free,.no,cG x]=some (.lst ((ls.filter λl=>decide (x∈l)).map tupI)):=(de rfl).trans (AJ (by omega))
   exact(de (ff rfl (ff rfl (ff rfl (ff rfl (i8 el)))))).trans ((h.sub _).w (.inr rfl))
  unfold jt iq;rw[key];rfl
 unfold ie;rw[LW.cS e1];show ju [.dat (.tup [.int (N:Nat),.tup (ls.map tupI)]),cG ((q:Int)-1),cH m,cH y,cH free,.dat (.lst ((free.map λp=>((wN q N m y (ls.filter λl=>decide (p∈l)):Nat):Int)).map D.int)),.no]=_
 obtain⟨j,p',hj,Yc,top⟩:=MZ (f:=λp=>wN q N m y (ls.filter λl=>decide (p∈l))) ja
 have:=Em top hp;subst this;have hm:(free.map λp=>((wN q N m y (ls.filter λl=>decide (p∈l)):Nat):Int))≠[]:=by simpa using ja
 unfold ju;refine eO ((fE rfl (M6 rfl ((de rfl).trans (Ep hm)) hj)).trans ?_);show j9 (free.map D.int) (j:Int)=_;have HJ:j<free.length:=(List.getElem?_eq_some_iff.mp Yc).1;rw[LW.Fu _ _ (by simpa using HJ),av,Yc]
 rfl
theorem FR {q N:Nat}{ls:cm}{m y:cn}(h:Fk q N ls) (hm:m.length<=9) (hy:y.length<=9):∀(n k:Nat) (t:cn),t.length+n=q-1->n<k->
  ng (kQ (qB (di Ja (cO iH (bV (dc 4) cN)) (dc 1))) (qB (di A0 (cO iH (bV (dc 5) cN)) (dC (.int 0))))) kL k
   [.dat (.tup [.int (N:Nat),.tup (ls.map tupI)]),cG ((q:Int)-1),cH m,cH y,cH t,cH (dg N m (y++t))]=
  some (.next [.dat (.tup [.int (N:Nat),.tup (ls.map tupI)]),cG ((q:Int)-1),cH m,cH y,cH (gP q N N m y ls n t),cH (dg N m (y++gP q N N m y ls n t))])
 |n,0,t,_,hk=>by omega
 |n,k+1,t,ht,hk=>by
  have q0:=h.q0;have q4:=h.q4;have n9:=h.n9;have QU:qB (di Ja (cO iH (bV (dc 4) cN)) (dc 1)) [.dat (.tup [.int (N:Nat),.tup (ls.map tupI)]),cG ((q:Int)-1),cH m,cH y,cH t,cH (dg N m (y++t))]=some (decide ((t.length:Int)<(q:Int)-1)):=by
   show some (decide (((t.map D.int).length:Int)<(q:Int)-1))=_;rw[ae]
  have so:qB (di A0 (cO iH (bV (dc 5) cN)) (dC (.int 0))) [.dat (.tup [.int (N:Nat),.tup (ls.map tupI)]),cG ((q:Int)-1),cH m,cH y,cH t,cH (dg N m (y++t))]=some (decide ((0:Int)<((dg N m (y++t)).length:Int))):=by
   show some (decide ((0:Int)<(((dg N m (y++t)).map D.int).length:Int)))=_;rw[ae]
  unfold ng;cases n with
  |zero=>
   have:kQ (qB (di Ja (cO iH (bV (dc 4) cN)) (dc 1))) (qB (di A0 (cO iH (bV (dc 5) cN)) (dC (.int 0)))) [.dat (.tup [.int (N:Nat),.tup (ls.map tupI)]),cG ((q:Int)-1),cH m,cH y,cH t,cH (dg N m (y++t))]=some false:=by
    unfold kQ;rw[QU,aG (by omega)]
   rw[this];rfl
  |succ n=>
   by_cases uM:dg N m (y++t)=[]
   ·have:kQ (qB (di Ja (cO iH (bV (dc 4) cN)) (dc 1))) (qB (di A0 (cO iH (bV (dc 5) cN)) (dC (.int 0)))) [.dat (.tup [.int (N:Nat),.tup (ls.map tupI)]),cG ((q:Int)-1),cH m,cH y,cH t,cH (dg N m (y++t))]=some false:=by
     unfold kQ;rw[QU,aR (by omega),so,aG (by rw[uM];decide)]
    rw[this];have e:gP q N N m y ls (n+1) t=t:=by unfold gP;rw[uM];rfl
    rw[e]
   ·have:kQ (qB (di Ja (cO iH (bV (dc 4) cN)) (dc 1))) (qB (di A0 (cO iH (bV (dc 5) cN)) (dC (.int 0)))) [.dat (.tup [.int (N:Nat),.tup (ls.map tupI)]),cG ((q:Int)-1),cH m,cH y,cH t,cH (dg N m (y++t))]=some true:=by
     have:0<(dg N m (y++t)).length:=by
      cases e:dg N m (y++t)with
      |nil=>exact absurd e uM
      |cons a r=>simp
     unfold kQ;rw[QU,aR (by omega),so,aR (by omega)]
    rw[this];obtain⟨p,hb,top⟩:=zo (f:=Uh q N N m y ls t) uM;have er:gP q N N m y ls (n+1) t=gP q N N m y ls n (t++[p]):=by rw[gP,hb]
    have hfl:(dg N m (y++t)).length<=9:=by have:=nN N m (y++t);omega
    have ey:di jM (dc 3) (dc 4) [.dat (.tup [.int (N:Nat),.tup (ls.map tupI)]),cG ((q:Int)-1),cH m,cH y,cH t,cH (dg N m (y++t))]=some (tupI (y++t)):=(fE rfl rfl).trans (iN (by omega))
    have e3:oQ [.dat (.tup [.int (N:Nat),.tup (ls.map tupI)]),cG ((q:Int)-1),cH m,cH y,cH t,cH (dg N m (y++t))]=some (.next [.dat (.tup [.int (N:Nat),.tup (ls.map tupI)]),cG ((q:Int)-1),cH m,cH y,cH (t++[p]),cH (dg N m (y++t))]):=by
     have eh:cO eR (bV (cQ 0) (bV (cQ 1) (bV (cQ 2) (bV (di jM (dc 3) (dc 4)) (bV (cQ 5) cN))))) [.dat (.tup [.int (N:Nat),.tup (ls.map tupI)]),cG ((q:Int)-1),cH m,cH y,cH t,cH (dg N m (y++t))]=some (.int p):=
      (de (ff rfl (ff rfl (ff rfl (ff ey (i8 rfl)))))).trans (V1 h uM hfl top)
     have et:fz (bV (cO eR (bV (cQ 0) (bV (cQ 1) (bV (cQ 2) (bV (di jM (dc 3) (dc 4)) (bV (cQ 5) cN)))))) cN) [.dat (.tup [.int (N:Nat),.tup (ls.map tupI)]),cG ((q:Int)-1),cH m,cH y,cH t,cH (dg N m (y++t))]=some (tupI [p]):=by
      unfold fz;rw[i8 eh];rfl
     unfold oQ;rw[gu ((fE rfl et).trans (iN (a:=t) (b:=[p]) (by simp;omega)))]
     rfl
    have e4:oR [.dat (.tup [.int (N:Nat),.tup (ls.map tupI)]),cG ((q:Int)-1),cH m,cH y,cH (t++[p]),cH (dg N m (y++t))]=some (.next [.dat (.tup [.int (N:Nat),.tup (ls.map tupI)]),cG ((q:Int)-1),cH m,cH y,cH (t++[p]),cH (dg N m (y++(t++[p])))]):=by
     have ey2:di jM (dc 3) (dc 4) [.dat (.tup [.int (N:Nat),.tup (ls.map tupI)]),cG ((q:Int)-1),cH m,cH y,cH (t++[p]),cH (dg N m (y++t))]=some (tupI (y++(t++[p]))):=(fE rfl rfl).trans (iN (by simp;omega))
     unfold oR;rw[gu ((de (ff rfl (ff rfl (i8 ey2)))).trans (FE (many:=(N:Int)) (m:=m) (y:=y++(t++[p])) (by omega) (by omega) (by simp;omega)))]
     rfl
    have ef:kL [.dat (.tup [.int (N:Nat),.tup (ls.map tupI)]),cG ((q:Int)-1),cH m,cH y,cH t,cH (dg N m (y++t))]=some (.next [.dat (.tup [.int (N:Nat),.tup (ls.map tupI)]),cG ((q:Int)-1),cH m,cH y,cH (t++[p]),cH (dg N m (y++(t++[p])))]):=by
     unfold kL;rw[LW.cS e3,e4]
    simp only;rw[ef,er];exact FR h hm hy n k (t++[p]) (by simp;omega) (by omega)
theorem Er {q N:Nat}{ls:cm}{m y:cn}(h:Fk q N ls) (hm:m.length<=9) (hy:y.length<=9):
  mM [.tup [.int (N:Nat),.tup (ls.map tupI)],.int ((q:Int)-1),tupI m,tupI y]=some (tupI (gP q N N m y ls (q-1) [])):=by
 have q0:=h.q0;have q4:=h.q4;have n9:=h.n9;refine LW.dM rfl ?_;show m3 [.dat (.tup [.int (N:Nat),.tup (ls.map tupI)]),cG ((q:Int)-1),cH m,cH y,.no,.no]=_;have e1:tT [.dat (.tup [.int (N:Nat),.tup (ls.map tupI)]),cG ((q:Int)-1),cH m,cH y,.no,.no]=some (.next [.dat (.tup [.int (N:Nat),.tup (ls.map tupI)]),cG ((q:Int)-1),cH m,cH y,cH [],.no]):=rfl;have e2:oP [.dat (.tup [.int (N:Nat),.tup (ls.map tupI)]),cG ((q:Int)-1),cH m,cH y,cH [],.no]=some (.next [.dat (.tup [.int (N:Nat),.tup (ls.map tupI)]),cG ((q:Int)-1),cH m,cH y,cH [],cH (dg N m (y++[]))]):=by
  unfold oP;rw[bB,gu ((de rfl).trans (FE (many:=(N:Int)) (m:=m) (y:=y) (by omega) (by omega) (by omega)))]
  rfl
 have e5:tU [.dat (.tup [.int (N:Nat),.tup (ls.map tupI)]),cG ((q:Int)-1),cH m,cH y,cH [],cH (dg N m (y++[]))]=some (.next [.dat (.tup [.int (N:Nat),.tup (ls.map tupI)]),cG ((q:Int)-1),cH m,cH y,cH (gP q N N m y ls (q-1) []),cH (dg N m (y++gP q N N m y ls (q-1) []))]):=
  FR h hm hy (q-1) 5 [] (by simp) (by omega)
 unfold m3;rw[LW.cS e1,LW.cS e2,LW.cS e5];rfl
theorem FT {a b:Nat}:gH [KJ a b]=some (.bl (decide (((a/a.gcd b:Nat):Int)<((b/a.gcd b:Nat):Int)))):=by
 refine LW.dM rfl ?_;rfl
noncomputable def tW (q N:Nat) (ls:cm) (one:cn):Bool:=decide (((wN q N one [] ls/(wN q N one [] ls).gcd (q^N):Nat):Int)<((q^N/(wN q N one [] ls).gcd (q^N):Nat):Int))
noncomputable def xw (N:Nat) (f:Int):cm:=if f=1 then[[]]else(dJ 0 N).map λp=>[p]
theorem Ht {q N:Nat}{ls:cm}{f:Int}{B:D}(h:Fk q N ls) (hf:f=0\/f=1):
  n4 [.tup [.tup [.int (N:Nat),.tup (ls.map tupI)],.int f,B,.int ((q:Int)-1)]]=some (.bl ((xw N f).all (tW q N ls))):=by
 have q0:=h.q0;have q4:=h.q4;have n9:=h.n9;refine LW.dM rfl ?_;show oS [.dat (.tup [.tup [.int (N:Nat),.tup (ls.map tupI)],.int f,B,.int ((q:Int)-1)]),.no]=_;unfold oS;rcases hf with rfl|rfl
 ·have e2:m4 [.dat (.tup [.tup [.int (N:Nat),.tup (ls.map tupI)],.int 0,B,.int ((q:Int)-1)]),.no]=some (.next [.dat (.tup [.tup [.int (N:Nat),.tup (ls.map tupI)],.int 0,B,.int ((q:Int)-1)]),.no]):=rfl;rw[LW.cS e2];unfold u6;have eo:xw N 0=(dJ 0 N).map λp=>[p]:=rfl
  rw[eo,List.all_map];refine eO ((jU (ds:=(dJ 0 N).map λp=>D.bl ((tW q N ls∘λp=>[p]) p)) ?_).trans (LW.wX _ _))
  have it:ug (bV (di jc (di jc (dc 0) (dC (.int 0))) (dC (.int 0))) cN) [.dat (.tup [.tup [.int (N:Nat),.tup (ls.map tupI)],.int 0,B,.int ((q:Int)-1)]),.no]=some ((dJ 0 N).map D.int):=by
   have:bV (di jc (di jc (dc 0) (dC (.int 0))) (dC (.int 0))) cN [.dat (.tup [.tup [.int (N:Nat),.tup (ls.map tupI)],.int 0,B,.int ((q:Int)-1)]),.no]=some [.int N]:=rfl;unfold ug;rw[this];exact if_pos ⟨by omega,by omega⟩
  have hlen:((dJ 0 N).map D.int).length<1000000:=by rw[ae,dS];omega
  unfold dR;rw[it];simp only[ao,if_pos hlen];refine jT _ λp _=>?_
  exact(de (i8 ((de rfl).trans (Co (m:=[p]) (y:=[]) h)))).trans FT
 ·have e2:m4 [.dat (.tup [.tup [.int (N:Nat),.tup (ls.map tupI)],.int 1,B,.int ((q:Int)-1)]),.no]=some (.ret (.bl ((xw N 1).all (tW q N ls)))):=by
   unfold m4;rw[xh rfl];have eo:xw N 1=[[]]:=rfl;unfold u5;rw[eo];refine eO (((de (i8 ((de rfl).trans (Co (m:=[]) (y:=[]) h)))).trans FT).trans ?_);simp[tW]
  rw[kY e2]
end K8
namespace K8
open PySem DL GP PC PW
open LW (dk dq)
open L2 (j9 qX)
theorem gx {o:D->D->Option D}{f g:cb}{δ:dO}{x y:D}{r:Option D}(hf:f δ=some x) (hg:g δ=some y) (h:o x y=r):di o f g δ=r:=(fE hf hg).trans h
theorem KZ {δ:dO}{i j:Nat}{a c:cn}(hi:dc i δ=some (tupI a)) (hj:dc j δ=some (tupI c)) (h:a.length+c.length<64):
  cO lj (bV (dL (fA gk (bV (di jM (dc i) (dc j)) cN))) cN) δ=some (tupI (sortI (a++c))):=by
 have e:fA gk (bV (di jM (dc i) (dc j)) cN) δ=some ((sortI (a++c)).map D.int):=by
  unfold fA;rw[i8 (gx hi hj (iN h))];exact lJ (by rw[aQ];exact h)
 exact(jU e).trans rfl
theorem Hu {δ:dO}{i j:Nat}{a:cn}{c:Int}(hi:dc i δ=some (tupI a)) (hj:cQ j δ=some (.int c)) (h:a.length+1<64):
  cO lj (bV (dL (fA gk (bV (di jM (dc i) (fz (bV (cQ j) cN))) cN))) cN) δ=some (tupI (sortI (a++[c]))):=by
 have et:fz (bV (cQ j) cN) δ=some (tupI [c]):=by unfold fz;rw[i8 hj];rfl
 have e:fA gk (bV (di jM (dc i) (fz (bV (cQ j) cN))) cN) δ=some ((sortI (a++[c])).map D.int):=by
  unfold fA;rw[i8 (gx hi et (iN h))];exact lJ (by rw[aQ];exact h)
 exact(jU e).trans rfl
section
variable {q N:Nat}{ls:cm}{f:Int}{m y:cn}
noncomputable abbrev gD (q N:Nat) (ls:cm) (f:Int):D:=lD (N:Int) ls f 1 ((q:Int)-1)
theorem QC {rc:cf}{W:Sl}(hN:N<=9) (hl:m.length+y.length<64):nv rc [.dat (gD q N ls f),cH m,cH y,W,.no,.no,.no]=some (.next [.dat (gD q N ls f),cH m,cH y,W,.own ((dg N m y).map D.int),.no,.no]):=by
 have it:ug (bV (di jc (di jc (dc 0) (dC (.int 0))) (dC (.int 0))) cN) [.dat (gD q N ls f),cH m,cH y,W,.no,.no,.no]=some ((dJ 0 (N:Int).toNat).map D.int):=by
  have:bV (di jc (di jc (dc 0) (dC (.int 0))) (dC (.int 0))) cN [.dat (gD q N ls f),cH m,cH y,W,.no,.no,.no]=some [.int (N:Int)]:=rfl;unfold ug;rw[this];exact if_pos ⟨by omega,by omega⟩
 unfold nv;refine(tG (j3 it (by rw[ae,dS];omega) (gF (p:=λp=> !decide (p∈m++y)) (ψ:=D.int) _ (λp _=>?_) (λp _ _=>rfl)))).trans rfl
 exact gW (gx (x:=.int p) (y:=tupI (m++y)) rfl (gx (x:=tupI m) (y:=tupI y) rfl rfl (iN hl)) (nM _ _))
end
theorem K0 {N:Nat}{m y c:cn}(h:eS N m y) (hr:(∀p∈c,p∈dg N m y)) (nd:c.Nodup):eS N (sortI (m++c)) y/\eS N m (sortI (y++c)):=by
 have key:∀a:cn,fC a->(∀p∈c,p∉a)->fC (sortI (a++c)):=λa ra d=>by
  have QX:(sortI (a++c)).Nodup:=(sortI_perm _).nodup_iff.mpr (List.nodup_append.mpr ⟨gp ra,nd,λx hx z hz e=>d z hz (e▸hx)⟩)
  exact((lX (a++c)).and QX).imp λ{a b} h=>by have:=h.1;have:=h.2;omega
 have mem:∀a:cn,∀p∈sortI (a++c),p∈a\/p∈c:=λa p hp=>List.mem_append.mp (cY.mp hp)
 have cin:∀p∈c,(0<=p/\p<(N:Int))/\p∉m/\p∉y:=λp hp=>dv.mp (hr p hp)
 refine⟨⟨key m h.rm λp hp=>(cin p hp).2.1,h.ry,λp hp=>(mem m p hp).elim (h.im p) λk=>(cin p k).1,h.iy,λp hp=>(mem m p hp).elim (h.dj p) λk=>(cin p k).2.2⟩,⟨h.rm,key y h.ry λp hp=>(cin p hp).2.2,h.im,λp hp=>(mem y p hp).elim (h.iy p) λk=>(cin p k).1,λp hp k=>(mem y p k).elim (h.dj p hp) λk=>(cin p k).2.1 hp⟩⟩
theorem zt {N:Nat}{m y m' y':cn}{c:Int}(hm:∀p∈m,p∈m') (hy:∀p∈y,p∈y') (hc:c∈dg N m y) (se:c∉dg N m' y'):(dg N m' y').length<(dg N m y).length:=by
 have sub:(c::dg N m' y').Nodup:=List.nodup_cons.mpr ⟨se,gp (kj N m' y')⟩;have:=sub.length_le_of_subset (l₂:=dg N m y) λp hp=>by
  rcases List.mem_cons.mp hp with rfl|hp
  ·exact hc
  ·have:=dv.mp hp;exact dv.mpr ⟨this.1,λk=>this.2.1 (hm p k),λk=>this.2.2 (hy p k)⟩
 exact this
section
variable {q N:Nat}{ls:cm}{f:Int}
theorem Cp {rc:cf}{G M Y W L x5:Sl}:∀(ps:cn) (x6:Sl),(∀p∈ps,iD rc [G,M,Y,W,L,x5,cG p]=some (.next [G,M,Y,W,L,x5,cG p]))->∃y6,gr 6 (iD rc) (ps.map D.int) [G,M,Y,W,L,x5,x6]=some (.next [G,M,Y,W,L,x5,y6])
 |[],x6,_=>⟨x6,rfl⟩
 |p::ps,x6,h=>by
  obtain⟨y6,ih⟩:=Cp ps (cG p) λr hr=>h r (ai _ hr)
  exact⟨y6,by rw[aE,iQ (j:=6) (δ:=[G,M,Y,W,L,x5,x6]) (h p af),ih]⟩
theorem Es (h:Fk q N ls) (PM:1<q) (Tq:∀l∈ls,l.Nodup/\l.length<=N):∀(n:Nat) (m y:cn) (w:Int),(dg N m y).length<n->eS N m y->(w=0\/w=1)->o9 q N ls m y w->eD n [gD q N ls f,tupI m,tupI y,.int w]=some (.bl true)
 |0,_,_,_,hn,_,_,_=>by omega
 |n+1,m,y,w,hn,hp,hw,hs=>by
  have q0:=h.q0;have q4:=h.q4;have n9:=h.n9;have lm:=nQ hp.rm hp.im;have ly:=nQ hp.ry hp.iy;have no:=hs.over hp.dj;refine LW.dM rfl ?_;show j6 (eD n) [.dat (gD q N ls f),cH m,cH y,cG w,.no,.no,.no]=_;have e2:nu (eD n) [.dat (gD q N ls f),cH m,cH y,cG w,.no,.no,.no]=some (.next [.dat (gD q N ls f),cH m,cH y,cG w,.no,.no,.no]):=by
   unfold nu;refine(o6 (gW (gx ((de rfl).trans (Qy (many:=N) (ls:=ls) (f:=f) (b:=1) (g:=(q:Int)-1) (m:=m) (y:=y) λl hl=>by have:=h.four l hl;omega)) (y:=.int 0) rfl ?_))).trans rfl
   have ja:rB ls m y≠some 0:=λz=>no ((nT (G:=⟨N,ls,1,1⟩)).mp z)
   rcases iA ⟨N,ls,1,1⟩ m y with ho|ho|ho
   ·exact absurd ho ja
   ·rw[show rB ls m y=some 1 from ho];exact tH 1 0
   ·rw[show rB ls m y=none from ho];rfl
  unfold j6;rw[LW.cS e2,LW.cS (QC n9 (by omega))]
  show eB (kM (eD n)) _ [.dat (gD q N ls f),cH m,cH y,cG w,.dat (.lst ((dg N m y).map D.int)),.no,.no]=_;rcases hw with rfl|rfl
  ·have e8:kM (eD n) [.dat (gD q N ls f),cH m,cH y,cG 0,.dat (.lst ((dg N m y).map D.int)),.no,.no]=some (.next [.dat (gD q N ls f),cH m,cH y,cG 0,.dat (.lst ((dg N m y).map D.int)),.no,.no]):=rfl;rw[LW.cS e8];obtain⟨y6,el⟩:=Cp (rc:=eD n) (G:=.dat (gD q N ls f)) (M:=cH m) (Y:=cH y) (W:=cG 0) (L:=.dat (.lst ((dg N m y).map D.int))) (x5:=.no) (dg N m y) .no λp M3=>by
    have aa6:=dv.mp M3;have po:=(K0 hp (c:=[p]) (λr hr=>by rw[bt.mp hr];exact M3) (by simp)).1
    have less:=zt (c:=p) (m:=m) (y:=y) (m':=sortI (m++[p])) (y':=y) (λr hr=>cY.mpr (List.mem_append.mpr (.inl hr))) (λr hr=>hr) M3 λz=>(dv.mp z).2.1 (cY.mpr (by simp))
    have ih:=Es h PM Tq n (sortI (m++[p])) y 1 (by omega) po (.inr rfl) (hs.build M3)
    unfold iD qh;refine(o6 (tj (b:=true) (gW ?_))).trans rfl;exact(de (ff (x:=gD q N ls f) rfl (ff (Hu (a:=m) rfl rfl (by omega)) (ff (x:=tupI y) rfl (i8 (x:=.int 1) rfl))))).trans ih
   have V2:mN (eD n) [.dat (gD q N ls f),cH m,cH y,cG 0,.dat (.lst ((dg N m y).map D.int)),.no,.no]=some (.next [.dat (gD q N ls f),cH m,cH y,cG 0,.dat (.lst ((dg N m y).map D.int)),.no,y6]):=by
    unfold mN;exact qI rfl el
   rw[LW.cS V2];rfl
  ·refine kY ?_;unfold kM;rw[xh rfl];have e4:ny (eD n) [.dat (gD q N ls f),cH m,cH y,cG 1,.dat (.lst ((dg N m y).map D.int)),.no,.no]=some (.next [.dat (gD q N ls f),cH m,cH y,cG 1,.dat (.lst ((dg N m y).map D.int)),cH (gP q N N m y ls (q-1) []),.no]):=by
    unfold ny;exact gu ((de rfl).trans (Er h (by omega) (by omega)))
   obtain⟨rn,rf,_,_,_⟩:=AA (q:=q) (N:=N) (many:=N) (m:=m) (y:=y) (ls:=ls) (q-1) [] List.nodup_nil (λp hp=>by cases hp)
   have rl:=(zp (N:=N) (q:=q) (m:=m) (y:=y) (ls:=ls) (G:=⟨N,ls,1,(q:Int)-1⟩) rfl rfl q0).2;have fl:=nN N m y;generalize hR:gP q N N m y ls (q-1) []=R at e4 rn rf rl;have e6:nz (eD n) [.dat (gD q N ls f),cH m,cH y,cG 1,.dat (.lst ((dg N m y).map D.int)),cH R,.no]=some (.next [.dat (gD q N ls f),cH m,cH y,cG 1,.dat (.lst ((dg N m y).map D.int)),cH R,.no]):=by
    unfold nz;refine(o6 (Tj (gW (gx (x:=.int (R.length:Nat)) (y:=.int (R.length:Nat)) ?_ ?_ (B8 (by simp[dW])))) ?_)).trans rfl
    ·unfold tL;show(intsOf (R.map D.int)).bind _=_;rw[fP];exact if_pos ⟨rn,by omega⟩
    ·refine(de (ff (x:=.int ((q:Int)-1)) rfl (i8 (x:=.int ((dg N m y).length:Nat)) ?_))).trans ?_
     ·show some (D.int (((dg N m y).map D.int).length:Int))=_;rw[ae]
     ·show some (D.int (if((dg N m y).length:Int)<(q:Int)-1 then((dg N m y).length:Int)else(q:Int)-1))=_
      rw[rl]
      congr 2
      split<;>omega
    ·have it:iT (cQ 5) [.dat (gD q N ls f),cH m,cH y,cG 1,.dat (.lst ((dg N m y).map D.int)),cH R,.no]=some (R.map D.int):=rfl;have ec:=j3 (j:=6) (t:=qB (di qR (dc 6) (dc 4))) (f:=cQ 6) it (by rw[ae];omega) (gF (p:=λp=> !decide (p∈dg N m y)) (ψ:=D.int) _ (λp _=>gW (gx (x:=.int p) (y:=.lst ((dg N m y).map D.int)) rfl rfl (nM p (dg N m y)))) (λp _ _=>rfl))
     have en:R.filter (λp=> !decide (p∈dg N m y))=[]:=List.filter_eq_nil_iff.mpr λp hp=>by simp[rf p hp]
     rw[en]at ec;unfold qT dL;rw[ec];rfl
   have e7:nA (eD n) [.dat (gD q N ls f),cH m,cH y,cG 1,.dat (.lst ((dg N m y).map D.int)),cH R,.no]=some (.ret (.bl true)):=by
    unfold nA;refine eO ?_;by_cases he:dg N m y=[]
    ·unfold QP zl;rw[he];rfl
    ·have c0:∃c,c∈R:=by
      cases R with
      |cons c r=>exact⟨c,af⟩
      |nil=>
       have:0<(dg N m y).length:=List.length_pos_iff.mpr he;simp at rl;omega
     obtain⟨c,hc⟩:=c0;have po:=(K0 hp rf rn).2;have less:=zt (c:=c) (m:=m) (y:=y) (m':=m) (y':=sortI (y++R)) (λr hr=>hr) (λr hr=>cY.mpr (List.mem_append.mpr (.inl hr))) (rf c hc) λz=>(dv.mp z).2.2 (cY.mpr (List.mem_append.mpr (.inr hc)))
     have sg:=hs.guard Tq q0;rw[hR]at sg;have ih:=Es h PM Tq n m (sortI (y++R)) 0 (by omega) po (.inl rfl) sg
     have en:zl (dc 4) [.dat (gD q N ls f),cH m,cH y,cG 1,.dat (.lst ((dg N m y).map D.int)),cH R,.no]=some (.bl false):=by
      cases hL:dg N m y with
      |nil=>exact absurd hL he
      |cons a r=>rfl
     unfold QP;rw[en];exact(de (ff (x:=gD q N ls f) rfl (ff (x:=tupI m) rfl (ff (KZ (a:=y) (c:=R) rfl rfl (by omega)) (i8 (x:=.int 0) rfl))))).trans ih
   rw[LW.cS e4,LW.cS e6,e7]
end
end K8
namespace K8
open PySem DL GP PC PW
open LW (dk dq)
open L2 (j9 qX)
theorem FU {q N:Nat}{ls:cm}{one:cn}(h:tW q N ls one=true):wN q N one [] ls<q^N:=by
 unfold tW at h;have h:=bK h;rcases Nat.lt_or_ge (wN q N one [] ls) (q^N)with k|k
 ·exact k
 ·have:=Nat.div_le_div_right (c:=(wN q N one [] ls).gcd (q^N)) k;omega
theorem Et {q N:Nat}{ls:cm}{f:Int}(hf:f=0\/f=1) (hN:0<N) (hq:0<q) (Tq:∀l∈ls,l.Nodup/\l.length<=N) (h:(xw N f).all (tW q N ls)=true):o9 q N ls [] [] f:=by
 rw[List.all_eq_true]at h;rcases hf with rfl|rfl
 ·have hz:∀z:Int,0<=z->z<(N:Int)->wN q N [z] [] ls<q^N:=λz h0 h1=>FU (h [z] (List.mem_map.mpr ⟨z,(LW.ke _ _ _).mpr ⟨h0,by omega⟩,rfl⟩))
  refine⟨Nat.lt_of_le_of_lt (M1 (z:=0) (by simp) ls Tq hq) (hz 0 (by omega) (by omega)),λ_ z hzf=>?_⟩
  have:=dv.mp hzf;exact hz z this.1.1 this.1.2
 ·exact⟨FU (h [] af),λc=>absurd c (by decide)⟩
section
variable {S C F L x7:Sl}{q N:Nat}{ls:cm}
structure Li (N:Nat) (ls:cm):Prop where
 n0:0<N
 n7:N<=7
 num:ls.length<=8
 line:∀l∈ls,LW.uy N l
theorem Li.fk (h:Li N ls) (hq:1<q/\q<=4):Fk q N ls:=by
 have:=h.n0;have:=h.n7;have:=h.num;refine⟨by omega,hq.2,by omega,h.n0,by omega,λl hl=>(h.line l hl).four,λl hl=>?_⟩
 have:=nQ (h.line l hl).rise (h.line l hl).VV
 rwa [Int.toNat_natCast]at this
theorem Li.nd (h:Li N ls):∀l∈ls,l.Nodup/\l.length<=N:=λl hl=>by
 have:=nQ (h.line l hl).rise (h.line l hl).VV;rw[Int.toNat_natCast]at this;exact⟨gp (h.line l hl).rise,this⟩
theorem Li.V3 (h:Li N ls) (hq:1<q/\q<=4):tJ ⟨N,ls,1,(q:Int)-1⟩:=by
 have:=h.n0;have:=h.n7;have:=h.num;refine⟨⟨?_,?_,λl hl=>(h.line l hl).VV,λl hl=>by have:=(h.line l hl).four;omega,Int.le_refl 1,by show(1:Int)<=4;decide,?_,?_⟩,?_,λl hl=>(h.line l hl).rise⟩
 ·show(0:Int)<=N;omega
 ·show(N:Int)<=9;omega
 ·show(1:Int)<=(q:Int)-1;omega
 ·show(q:Int)-1<=4;omega
 ·show ls.length<=18;omega
theorem FV {i:Nat}{δ:dO}{b:Bool}(h:dc i δ=some (.bl b)):qT (dc i) δ=some b:=by unfold qT;rw[h];rfl
theorem FW {c:Int}(h:Li N ls) (hq:1<q/\q<=4) (hc:1+LW.lz c 9887 3=(q:Int)-1) {M:cm}{f:Int}(hf:f=0\/f=1) {x5 x6:Sl}:∃y5 y6,
  tV [S,cG c,.dat (LW.eW N M),.dat (.tup (ls.map tupI)),cG f,x5,x6,x7]=some (.next [S,cG c,.dat (LW.eW N M),.dat (.tup (ls.map tupI)),cG f,y5,y6,x7]):=by
 have F:=h.fk hq;have e5:AF [S,cG c,.dat (LW.eW N M),.dat (.tup (ls.map tupI)),cG f,x5,x6,x7]=some (.next [S,cG c,.dat (LW.eW N M),.dat (.tup (ls.map tupI)),cG f,.dat (gD q N ls f),x6,x7]):=by
  have em:di jI (dC (.int 1)) (cO dk (bV (cQ 1) (bV (dC (.int 9887)) (bV (dC (.int 3)) cN)))) [S,cG c,.dat (LW.eW N M),.dat (.tup (ls.map tupI)),cG f,x5,x6,x7]=some (.int ((q:Int)-1)):=by
   rw[<-hc];exact gx (x:=.int 1) (y:=.int (LW.lz c 9887 3)) rfl ((de rfl).trans (LW.Bx (by decide) (by decide))) rfl
  unfold AF;refine gu ?_;unfold fz;rw[ff (x:=.tup [.int (N:Nat),.tup (ls.map tupI)]) rfl (ff (x:=.int f) rfl (ff (x:=.int 1) rfl (i8 em)))];rfl
 have e6:AG [S,cG c,.dat (LW.eW N M),.dat (.tup (ls.map tupI)),cG f,.dat (gD q N ls f),x6,x7]=some (.next [S,cG c,.dat (LW.eW N M),.dat (.tup (ls.map tupI)),cG f,.dat (gD q N ls f),.dat (.bl ((xw N f).all (tW q N ls))),x7]):=by
  unfold AG;exact gu ((de rfl).trans (Ht F hf))
 have start:=Et (q:=q) (ls:=ls) hf h.n0 F.q0 h.nd;have pn:eS N [] []:=mU N;have fn:=nN N [] [];rw[Int.toNat_natCast]at fn;have n7:=h.n7;generalize (xw N f).all (tW q N ls)=b at e6 start;have e8:AH [S,cG c,.dat (LW.eW N M),.dat (.tup (ls.map tupI)),cG f,.dat (gD q N ls f),.dat (.bl b),x7]=some (.next [S,cG c,.dat (LW.eW N M),.dat (.tup (ls.map tupI)),cG f,.dat (gD q N ls f),.dat (.bl b),x7]):=by
  unfold AH;refine(o6 ?_).trans rfl;cases b with
  |false=>exact Ay (FV rfl)
  |true=>
   refine xl (FV rfl) (tj (b:=true) (gW ((de rfl).trans ?_)));exact Es (f:=f) F hq.1 h.nd 9 [] [] f (by omega) pn hf (start rfl)
 have VW:xt [S,cG c,.dat (LW.eW N M),.dat (.tup (ls.map tupI)),cG f,.dat (gD q N ls f),.dat (.bl b),x7]=some (.next [S,cG c,.dat (LW.eW N M),.dat (.tup (ls.map tupI)),cG f,.dat (gD q N ls f),.dat (.bl b),x7]):=by
  unfold xt;refine(o6 ?_).trans rfl;have el:qB (di Ja (di jc (dc 2) (dC (.int 0))) (dC (.int 7))) [S,cG c,.dat (LW.eW N M),.dat (.tup (ls.map tupI)),cG f,.dat (gD q N ls f),.dat (.bl b),x7]=some (decide ((N:Int)<7)):=rfl;by_cases c7:(N:Int)<7
  ·refine xl (el.trans (by rw[aR c7])) ?_
   cases b with
   |false=>exact Ay (FV rfl)
   |true=>
    refine xl (FV rfl) ?_;have G:=h.V3 hq;have ew:cO nY (bV (cQ 5) cN) [S,cG c,.dat (LW.eW N M),.dat (.tup (ls.map tupI)),cG f,.dat (gD q N ls f),.dat (.bl true),x7]=some (.int 1):=by
     refine((de rfl).trans (Hj G hf)).trans ?_;rw[KQ G.ok rfl rfl rfl F.q0 h.nd _ [] [] f (au _) pn hf (start rfl)]
    exact gW (gx ew (y:=.int 1) rfl (B8 (by simp[dW])))
  ·exact Ay (el.trans (by rw[aG c7]))
 refine⟨.dat (gD q N ls f),.dat (.bl b),?_⟩;unfold tV;rw[LW.cS e5,LW.cS e6,LW.cS e8,VW]
end
theorem K1 {least most lines many:Int}{ls:cm}(h:LW.Fs least most lines many ls) (h1:1<=least) (h2:most<=7) (h3:lines<=8):∃N:Nat,many=N/\Li N ls:=by
 have:=h.lo;have:=h.hi;have:=h.num;refine⟨many.toNat,by omega,by omega,by omega,by omega,λl hl=>?_⟩
 have e:((many.toNat:Nat):Int)=many:=by omega
 rw[e];exact h.line l hl
theorem K2 (c:Int) (S:Sl) (x2 x3 x4 x5 x6 x7:Sl):∃y2 y3 y4 y5 y6 y7,n5 [S,cG c,x2,x3,x4,x5,x6,x7]=some (.next [S,cG c,y2,y3,y4,y5,y6,y7]):=by
 obtain⟨m1,Ui,ef1,ok1⟩:=LW.Ft (c:=3*c+1) (least:=1) (most:=6) (lines:=8) (by omega) (by omega) (by omega) (by omega) (by omega)
 obtain⟨m2,ls2,ef2,T9⟩:=LW.Ft (c:=3*c+2) (least:=7) (most:=7) (lines:=4) (by omega) (by omega) (by omega) (by omega) (by omega)
 have e1:AD [S,cG c,x2,x3,x4,x5,x6,x7]=some (.next [S,cG c,.dat (LW.eW m1 Ui),x3,x4,x5,x6,x7]):=by
  unfold AD;exact gu ((de (ff (gx (x:=.int (3*c)) (y:=.int 1) (gx (x:=.int 3) (y:=.int c) rfl rfl (AK (by simp[wb]))) rfl rfl) (ff (x:=.int 1) rfl (ff (x:=.int 6) rfl (i8 (x:=.int 8) rfl))))).trans ef1)
 have e3:∃N ls,vO [S,cG c,.dat (LW.eW m1 Ui),x3,x4,x5,x6,x7]=some (.next [S,cG c,.dat (LW.eW (N:Nat) ls),x3,x4,x5,x6,x7])/\Li N ls:=by
  have em:qB (di qZ (di qP (dc 1) (dC (.int 5))) (dC (.int 0))) [S,cG c,.dat (LW.eW m1 Ui),x3,x4,x5,x6,x7]=some (decide (c%5=0)):=gW (gx (gx (x:=.int c) (y:=.int 5) rfl rfl (FN (by rfl))) (y:=.int 0) rfl (tH _ 0))
  by_cases h5:c%5=0
  ·obtain⟨N,rfl,hF⟩:=K1 T9 (by omega) (by omega) (by omega)
   refine⟨N,ls2,?_,hF⟩;unfold vO;rw[xh (em.trans (by rw[aR h5]))]
   unfold FK;exact gu ((de (ff (gx (x:=.int (3*c)) (y:=.int 2) (gx (x:=.int 3) (y:=.int c) rfl rfl (AK (by simp[wb]))) rfl rfl) (ff (x:=.int 7) rfl (ff (x:=.int 7) rfl (i8 (x:=.int 4) rfl))))).trans ef2)
  ·obtain⟨N,rfl,hF⟩:=K1 ok1 (by omega) (by omega) (by omega)
   refine⟨N,Ui,?_,hF⟩;unfold vO;rw[o6 (em.trans (by rw[aG h5]))]
   rfl
 obtain⟨N,ls,e3,hF⟩:=e3;have num:=hF.num;have e4:AE [S,cG c,.dat (LW.eW N ls),x3,x4,x5,x6,x7]=some (.next [S,cG c,.dat (LW.eW N ls),.dat (.tup ((ls.filter λl=>decide (1<l.length)).map tupI)),x4,x5,x6,x7]):=by
  have it:iT (di jc (dc 2) (dC (.int 1))) [S,cG c,.dat (LW.eW N ls),x3,x4,x5,x6,x7]=some (ls.map tupI):=rfl;have ec:=j3 (j:=7) (t:=qB (di A0 (cO iH (bV (dc 7) cN)) (dC (.int 1)))) (f:=cQ 7) it (by rw[ae];omega) (gF (p:=λl=>decide (1<l.length)) (ψ:=tupI) _ (λl _=>gW (gx (x:=.int (l.length:Nat)) (y:=.int 1) (by show some (D.int ((l.map D.int).length:Int))=_;rw[ae]) rfl (by show some (D.bl (decide ((1:Int)<(l.length:Int))))=_;congr 2;exact decide_eq_decide.mpr (by omega)))) (λl _ _=>rfl))
  unfold AE;exact gu ((jU ec).trans rfl)
 have Yd:Li N (ls.filter λl=>decide (1<l.length)):=⟨hF.n0,hF.n7,aB (aW _ _) hF.num,λl hl=>hF.line l (List.mem_filter.mp hl).1⟩
 have g1:=LW.sO (c:=c) (p:=9887) (m:=3) (by omega)
 have g2:=LW.sP (c:=c) (p:=9887) (m:=3) (by omega)
 obtain⟨q,hq⟩:∃q:Nat,1+LW.lz c 9887 3=(q:Int)-1:=⟨(2+LW.lz c 9887 3).toNat,by omega⟩
 obtain⟨a5,a6,ea⟩:=FW (S:=S) (x7:=x7) (x5:=x5) (x6:=x6) (c:=c) (M:=ls) (f:=0) Yd (q:=q) ⟨by omega,by omega⟩ hq (.inl rfl)
 obtain⟨b5,b6,eb⟩:=FW (S:=S) (x7:=x7) (x5:=a5) (x6:=a6) (c:=c) (M:=ls) (f:=1) Yd (q:=q) ⟨by omega,by omega⟩ hq (.inr rfl)
 have V2:xu [S,cG c,.dat (LW.eW N ls),.dat (.tup ((ls.filter λl=>decide (1<l.length)).map tupI)),x4,x5,x6,x7]=some (.next [S,cG c,.dat (LW.eW N ls),.dat (.tup ((ls.filter λl=>decide (1<l.length)).map tupI)),cG 1,b5,b6,x7]):=by
  unfold xu;refine qI (ds:=[.int 0,.int 1]) rfl ?_;rw[iQ (j:=4) ea,iQ (j:=4) eb];rfl
 refine⟨.dat (LW.eW N ls),.dat (.tup ((ls.filter λl=>decide (1<l.length)).map tupI)),cG 1,b5,b6,x7,?_⟩
 unfold n5;rw[LW.cS e1,LW.cS e3,LW.cS e4,V2]
theorem Cq (S:Sl):∀(cs:cn) (x1 x2 x3 x4 x5 x6 x7:Sl),∃δ,gr 1 n5 (cs.map D.int) [S,x1,x2,x3,x4,x5,x6,x7]=some (.next δ)
 |[],x1,x2,x3,x4,x5,x6,x7=>⟨_,rfl⟩
 |c::cs,x1,x2,x3,x4,x5,x6,x7=>by
  obtain⟨a2,a3,a4,a5,a6,a7,e⟩:=K2 c S x2 x3 x4 x5 x6 x7;obtain⟨δ,ih⟩:=Cq S cs (cG c) a2 a3 a4 a5 a6 a7;exact⟨δ,by rw[aE,iQ (j:=1) (f:=n5) (d:=.int c) (δ:=[S,x1,x2,x3,x4,x5,x6,x7]) e,ih]⟩
theorem M7 (ns:cn) (_:ns.length<=63):FL [.lst (ns.map D.int)]=some (.bl true):=by
 refine LW.dM rfl ?_;show AI [.dat (.lst (ns.map D.int)),.no,.no,.no,.no,.no,.no,.no]=_;have V4:cutD (ns.map D.int) none (some 2)=(ns.take 2).map D.int:=by
  show((ns.map D.int).drop 0).take (min 2 (ns.map D.int).length-0)=_;rw[List.drop_zero,Nat.sub_zero,List.map_take];rcases Nat.le_total 2 (ns.map D.int).length with q|q
  ·rw[Nat.min_eq_left q]
  ·rw[Nat.min_eq_right q,List.take_of_length_le (au _),List.take_of_length_le q]
 obtain⟨δ,e⟩:=Cq (.dat (.lst (ns.map D.int))) (ns.take 2) .no .no .no .no .no .no .no;have e12:xv [.dat (.lst (ns.map D.int)),.no,.no,.no,.no,.no,.no,.no]=some (.next δ):=by
  have it:iL (dL (Jd (dc 0) Pq (Bl (dC (.int 2))))) [.dat (.lst (ns.map D.int)),.no,.no,.no,.no,.no,.no,.no]=some (cutD (ns.map D.int) none (some 2)):=rfl;rw[V4]at it;unfold xv;exact qI it e
 unfold AI;rw[LW.cS e12];rfl
end K8
namespace K8
open PySem PySem.Spec PyProof.Rows L2 DL LW PC PW
noncomputable def top (i:Nat):cF:=PySem.Challenge.pw_fieldclaim_k08_whole_safe_by_weights.main.body.getD i (.Pass ⟨0,0,0,0⟩)
noncomputable abbrev kB:cF:=top 8
theorem xx:du ["points","line","point"] ["points","line"] (cK kB):={}
noncomputable abbrev jz:cF:=top 9
theorem u7:du ["points","line","point"] ["points","line"] (cK jz):={}
noncomputable abbrev iR:cF:=top 5
theorem AL:du ["game","whose"] ["game","whose"] (cK iR):={}
noncomputable abbrev g8:cF:=top 6
theorem yo:du ["hand"] ["hand"] (cK g8):={}
noncomputable abbrev kC:cF:=top 10
theorem oT:du ["points","count","told","k","rest"] ["points","count"] (cK kC):={}
noncomputable abbrev gI:cF:=top 7
theorem mO:du ["field","mine","yours","taken","point"] ["field","mine","yours"] (cK gI):={}
noncomputable abbrev lM:cF:=top 4
theorem Hv:du ["mine","yours","whose","claim"] ["mine","yours","whose","claim"] (cK lM):={}
noncomputable abbrev iU:cF:=top 16
theorem tX:du ["line","mine","point"] ["line","mine"] (cK iU):={}
noncomputable abbrev gJ:cF:=top 17
theorem qi:du ["line","lines","other"] ["line","lines"] (cK gJ):={}
noncomputable abbrev lN:cF:=top 18
theorem zu:du ["points","lines","line"] ["points","lines"] (cK lN):={}
noncomputable abbrev fL:cF:=top 19
theorem iV:du ["lines","uses","line","point"] ["lines"] (cK fL):={}
noncomputable abbrev g9:cF:=top 15
theorem kN:du ["lines","mine","yours","needed","unlike","line"] ["lines","mine","yours"] (cK g9):={}
noncomputable abbrev gf:cF:=inClass (top 14) 5
theorem gY:du ["self","lines","whose","tried","pressing","line","claim"] ["self","lines","whose"] (cK gf):={}
noncomputable abbrev jA:cF:=inClass (top 14) 4
theorem kZ:du ["self","lines","whose","shortest","claim","held","line"] ["self","lines","whose"] (cK jA):={}
noncomputable abbrev iW:cF:=inClass (top 14) 3
theorem AM:du ["self","lines","whose"] ["self","lines","whose"] (cK iW):={}
noncomputable abbrev iX:cF:=inClass (top 14) 1
theorem AN:du ["self","mine","yours","whose"] ["self","mine","yours","whose"] (cK iX):={}
noncomputable abbrev gK:cF:=top 13
theorem xy:du ["game","mine","yours","whose"] ["game","mine","yours","whose"] (cK gK):={}
noncomputable abbrev lO:cF:=top 12
theorem Hw:du ["game"] ["game"] (cK lO):={}
noncomputable abbrev hJ:cF:=top 25
theorem rK:du ["field","point","line"] ["field","point"] (cK hJ):={}
noncomputable abbrev n6:cF:=top 28
theorem tY:du ["base","times","told","turn"] ["base","times"] (cK n6):={}
noncomputable abbrev qM:cF:=top 26
theorem M8:du ["field","guards"] ["field","guards"] (cK qM):={}
noncomputable abbrev lP:cF:=top 27
theorem uH:du ["field","guards","mine","yours","lines","needed","line","part"] ["field","guards","mine","yours","lines"] (cK lP):={}
noncomputable abbrev fi:cF:=top 30
theorem ig:du ["one","other","rest"] ["one","other"] (cK fi):={}
noncomputable abbrev jB:cF:=top 29
theorem u9:du ["upper","lower","divisor"] ["upper","lower"] (cK jB):={}
noncomputable abbrev lQ:cF:=top 21
theorem Hx:du ["field","guards","mine","yours"] ["field","guards","mine","yours"] (cK lQ):={}
noncomputable abbrev fj:cF:=top 24
theorem m5:du ["field","guards","mine","yours","free","pulls","point"] ["field","guards","mine","yours","free"] (cK fj):={}
noncomputable abbrev jC:cF:=top 22
theorem lb:du ["field","guards","mine","yours","told","free"] ["field","guards","mine","yours"] (cK jC):={}
noncomputable abbrev gg:cF:=top 31
theorem vr:du ["pair"] ["pair"] (cK gg):={}
noncomputable abbrev kD:cF:=top 23
theorem xA:du ["game","point"] ["game"] (cK kD):={}
noncomputable abbrev jD:cF:=top 34
theorem Cr:du ["_law_cell_here","_law_prime","_law_many"] ["_law_cell_here","_law_prime","_law_many"] (cK jD):={}
noncomputable abbrev hO:cF:=top 35
theorem fJ:du ["_law_cell_here","_law_least","_law_most","_law_lines","_law_many","_law_found","_law_k","_law_size","_law_left","_law_line","_law_n"] ["_law_cell_here","_law_least","_law_most","_law_lines"] (cK hO):={}
noncomputable abbrev iY:cF:=top 38
theorem j7:du ["_law_game_here","_law_mine","_law_yours","_law_line","_law_point"] ["_law_game_here","_law_mine","_law_yours"] (cK iY):={}
noncomputable abbrev iZ:cF:=top 41
theorem i0:du ["_law_game_here","_law_mine","_law_yours","_law_whose","_law_left","_law_more","_law_point"] ["_law_game_here","_law_mine","_law_yours","_law_whose"] (cK iZ):={}
noncomputable abbrev oU:cF:=top 42
theorem oV:du ["_law_script","_law_cell_here","_law_field_here","_law_lines","_law_first","_law_game_here","_law_told","_law_line"] ["_law_script"] (cK oU):={}
structure Bt (mg:cj):Prop where
 all:mg "all"=none
 any:mg "any"=none
 len:mg "len"=none
 list:mg "list"=none
 max:mg "max"=none
 min:mg "min"=none
 range:mg "range"=none
 set:mg "set"=none
 sorted:mg "sorted"=none
 sum:mg "sum"=none
 tuple:mg "tuple"=none
 dQ:∃t,mg "BUILDER"=some (.int 0 t)
 lK:∃t,mg "GUARD"=some (.int 1 t)
noncomputable abbrev jE:cF:=inClass (top 14) 0
theorem Ct:du ["self","game"] ["self","game"] (cK jE):={}
noncomputable abbrev dw (Cs:cD):OC:=⟨Cs,"game","known",Ug⟩
section
variable {P:cz}{w:cA}{K:W.Frag}{mg:cj}{base:Heap}
theorem Eu {f:cD}{fd:cy}(F:lS K "has_all" "has_all" kB f fd) (M0:Bt mg):eA P w K mg base jb (1) f fd ["points","line"] (nC nW):=by
 refine eM F xx (λm fO A outer s H E hr C0 H0=>?_)
 have hu:=hr.units;unfold xg;exact(cU (dB (eG (Je rfl) (by rfl) M0.all DA (df (WD.o (WF.d (ow 2 rfl ⟨rfl,rfl,rfl,xx.nd⟩ (uT.weak (fB (cM 1))) (λ_ _ _ _ _=>(zV (IZ hu) (cL 2) (cL 0)))))) dA))))
theorem Cu {f:cD}{fd:cy}(F:lS K "has_some" "has_some" jz f fd) (M0:Bt mg):eA P w K mg base jb (1) f fd ["points","line"] (nC fT):=by
 refine eM F u7 (λm fO A outer s H E hr C0 H0=>?_)
 have hu:=hr.units;unfold u0;exact(cU (dB (eG (Ny rfl) (by rfl) M0.any Ju (df (WD.o (WF.d (ow 2 rfl ⟨rfl,rfl,rfl,u7.nd⟩ (uT.weak (fB (cM 1))) (λ_ _ _ _ _=>(zV (IZ hu) (cL 2) (cL 0)))))) dA))))
theorem AO {f:cD}{fd:cy}(F:lS K "at_a_time" "at_a_time" iR f fd) (M0:Bt mg):eA P w K mg base jb (1) f fd ["game","whose"] (nC dZ):=by
 obtain⟨n8,dQ⟩:=M0.dQ;refine eM F AL (λm fO A outer s H E hr C0 H0=>?_)
 have hu:=hr.units;unfold sY;exact(cU (dB (Bn (ei (ui hu) (cL 1) (WD.o (iK (by rfl) dQ))) (dY (cL 0) (WD.o cT) (λ_ _=>rfl)) (dY (cL 0) (WD.o cT) (λ_ _=>rfl)))))
theorem yp {f:cD}{fd:cy}(F:lS K "other_hand" "other_hand" g8 f fd) (M0:Bt mg):eA P w K mg base jb (1) f fd ["hand"] (nC gm):=by
 obtain⟨n8,dQ⟩:=M0.dQ;obtain⟨FX,lK⟩:=M0.lK;refine eM F yo (λm fO A outer s H E hr C0 H0=>?_)
 have hu:=hr.units;unfold rF;exact(cU (dB (Bn (ei (ui hu) (cL 0) (WD.o (iK (by rfl) dQ))) (iK (by rfl) lK) (iK (by rfl) dQ))))
theorem Ew {f:cD}{fd:cy}{n:Nat}(F:lS K "choices" "choices" kC f fd) (M0:Bt mg) {dt:cf}(uI:hV P w K mg base (0+n) "choices" dt):eA P w K mg base jb (0+n+1) f fd ["points","count"] (nC (gi 5 2 (mE dt))):=by
 refine eM F oT (λm fO A outer s H E hr C0 H0=>?_)
 have hu:=hr.units;unfold mE;exact(cW (jw (ei (U1) (cL 1) (WD.o (eG rh (by rfl) M0.len lW (df (cL 0) dA)))) (cU (dB (eN (cJ (cM 0) cP)))) eZ)
  (cW (jw (ei (ui hu) (cL 1) (WD.o cT)) (cU (dB (eN (cJ (eN cP) cP)))) eZ)
  (cW (qu 2 oT.nd (Jn cP))
  (cW (lr (f:=(jQ dt)) bz rfl (jr (by rfl) M0.range (cJ (jL (WD.o (wx (WD.o (eG rh (by rfl) M0.len lW (df (cL 0) dA))) (cL 1))) (WD.o cT)) cP)) (jl (i:=3) oT.nd rfl (by first|exact Or.inl rfl|exact Or.inr rfl)) (cU (lr (f:=(jP dt)) bz rfl (fB (cZ uI hr (by rfl) (cJ (PV (cL 0) (Jk (WD.o (jL (cL 3) (WD.o cT)))) Nx) (cJ (wx (cL 1) (WD.o cT)) cP)))) (jl (i:=4) oT.nd rfl (by first|exact Or.inl rfl|exact Or.inr rfl)) (cU (Jo (pv 2) (kF (WD.o (eN (cJ (dY (cL 0) (cL 3) (λ_ _=>rfl)) cP))) (cL 4)))))))
  (cU (dB (eY hX (by rfl) M0.tuple gj (df (cL 2) dA))))))))
theorem xB {f:cD}{fd:cy}(F:lS K "free_points" "free_points" gI f fd) (M0:Bt mg):eA P w K mg base jb (1) f fd ["field","mine","yours"] (nC gZ):=by
 refine eM F mO (λm fO A outer s H E hr C0 H0=>?_)
 have hu:=hr.units;unfold jR;exact(cW (fQ 3 mO.nd (kF (cL 1) (cL 2)))
  (cU (dB (eY hX (by rfl) M0.tuple gj (df (WD.o (WF.d (gB 4 rfl ⟨rfl,rfl,rfl,mO.nd⟩ (uT.weak (jr (by rfl) M0.range (cJ (dY (cL 0) (WD.o cT) (λ_ _=>rfl)) cP))) (λ_ _ _ _ _=>(ei (qq hu) (cL 4) (cL 3))) (λ_ _ _ _ _=>(cM 4))))) dA)))))
theorem Hy {f:cD}{fd:cy}(F:lS K "behind" "behind" lM f fd) (M0:Bt mg):eA P w K mg base jb (1) f fd ["mine","yours","whose","claim"] (nC qc):=by
 obtain⟨n8,dQ⟩:=M0.dQ;refine eM F Hv (λm fO A outer s H E hr C0 H0=>?_)
 have hu:=hr.units;unfold zg;exact(cW (jw (ei (ui hu) (cL 2) (WD.o (iK (by rfl) dQ))) (cU (dB (eN (cJ (eY hX (by rfl) M0.tuple gj (df (WD.o (WF.d (ma (qv hu) (by rfl) M0.sorted iJ (df (WD.o (kF (cL 0) (cL 3))) dA)))) dA)) (cJ (cM 1) cP))))) eZ)
  (cU (dB (eN (cJ (cM 0) (cJ (eY hX (by rfl) M0.tuple gj (df (WD.o (WF.d (ma (qv hu) (by rfl) M0.sorted iJ (df (WD.o (kF (cL 1) (cL 3))) dA)))) dA)) cP))))))
theorem AQ {f:cD}{fd:cy}(F:lS K "free_part" "free_part" iU f fd) (M0:Bt mg):eA P w K mg base jb (1) f fd ["line","mine"] (nC fF):=by
 refine eM F tX (λm fO A outer s H E hr C0 H0=>?_)
 have hu:=hr.units;unfold iO;exact(cU (dB (eY hX (by rfl) M0.tuple gj (df (WD.o (WF.d (gB 2 rfl ⟨rfl,rfl,rfl,tX.nd⟩ (uT.weak (fB (cM 0))) (λ_ _ _ _ _=>(ei (qq hu) (cL 2) (cL 1))) (λ_ _ _ _ _=>(cM 2))))) dA))))
theorem xC {f:cD}{fd:cy}(F:lS K "has_another" "has_another" gJ f fd) (M0:Bt mg) (Hz:hV P w K mg base 1 "has_all" nW):eA P w K mg base jb (2) f fd ["line","lines"] (nC ji):=by
 refine eM F qi (λm fO A outer s H E hr C0 H0=>?_)
 have hu:=hr.units;unfold jV;exact(cU (dB (eG (Ny rfl) (by rfl) M0.any Ju (df (WD.o (WF.d (ow 2 rfl ⟨rfl,rfl,rfl,qi.nd⟩ (uT.weak (Ad (cM 1))) (λ_ _ _ _ _=>(PK (zV (Po hu) (cL 2) (cL 0)) (Jm (cZ Hz hr (by rfl) (cJ (cM 0) (cJ (cM 2) cP))))))))) dA))))
theorem HA {f:cD}{fd:cy}(F:lS K "spoils" "spoils" lN f fd) (M0:Bt mg) (mP:hV P w K mg base 1 "has_some" fT):eA P w K mg base jb (2) f fd ["points","lines"] (nC qd):=by
 refine eM F zu (λm fO A outer s H E hr C0 H0=>?_)
 have hu:=hr.units;unfold qG;exact(cU (dB (eG (Je rfl) (by rfl) M0.all DA (df (WD.o (WF.d (ow 2 rfl ⟨rfl,rfl,rfl,zu.nd⟩ (zW (cL 1)) (λ_ _ _ _ _=>(cZ mP hr (by rfl) (cJ (cM 0) (cJ (cM 2) cP))))))) dA))))
theorem uJ {f:cD}{fd:cy}(F:lS K "points_by_use" "points_by_use" fL f fd) (M0:Bt mg) {ct Pt:cD}(ht:W.tabIn K "points_by_use"=some (ct,Pt)) (vd:fd.code=.ref ct):eA P w K mg base jb (1) f fd ["lines"] (nC gc):=by
 refine MO F iV (λA outer s H E hr C0 H0=>?_)
 letI:=Mem.keep
 have i7:=hr.ten;have hu:=hr.units;unfold kn;exact(D5 1 iV.nd (λa C1 H1 hn=>by letI:=eK a;unfold fX;exact(cW (lr (f:=eQ) bz rfl (fB (cM 0)) (jl (i:=2) iV.nd rfl (by first|exact Or.inl rfl|exact Or.inr rfl)) (cU (lr (f:=fW) bz rfl (fB (cM 2)) (jl (i:=3) iV.nd rfl (by first|exact Or.inl rfl|exact Or.inr rfl)) (cU (G9 hn hu (pv 1) (cM 3) (pv 1) (cM 3))))))
  (cU (dB (eY hX (by rfl) M0.tuple gj (df (WD.o (WF.d (BM (x:="points_by_use") rfl hu i7 (by rfl) M0.sorted rfl rfl (by first|exact af|simp[va]) ht (show(Str.ofString "points_by_use"++Str.ofString ".<locals>.")++Str.ofString "<lambda>"=Str.ofString "points_by_use.<locals>.<lambda>" by decide +kernel) vd (pv 1)))) dA)))))))
theorem yq {f:cD}{fd:cy}(F:lS K "open_lines" "open_lines" g9 f fd) (M0:Bt mg) (qj:hV P w K mg base 2 "free_part" fF) (yr:hV P w K mg base 2 "has_another" ji) (mP:hV P w K mg base 2 "has_some" fT):eA P w K mg base jb (3) f fd ["lines","mine","yours"] (nC eV):=by
 refine eM F kN (λm fO A outer s H E hr C0 H0=>?_)
 have hu:=hr.units;unfold kH;exact(cW (sG 3 5 rfl ⟨rfl,rfl,rfl,kN.nd⟩ (uT.weak (Ad (cM 0))) (λ_ _ _ _ _=>(rR (ur (cZ mP hr (by rfl) (cJ (cM 2) (cJ (cM 5) cP)))))) (λ_ _ _ _ _=>(cZ qj hr (by rfl) (cJ (cM 5) (cJ (cM 1) cP)))))
  (md 3 (cW (qu 4 kN.nd (D8 rfl hu (by rfl) M0.sorted (by rfl) M0.set (cL 3)))
  (md 4 (cU (dB (eY hX (by rfl) M0.tuple gj (df (WD.o (WF.d (gB 5 rfl ⟨rfl,rfl,rfl,kN.nd⟩ (zW (cL 4)) (λ_ _ _ _ _=>(rR (ur (cZ yr hr (by rfl) (cJ (cM 5) (cJ (cM 4) cP)))))) (λ_ _ _ _ _=>(cM 5))))) dA))))))))
theorem vt {f:cD}{fd:cy}(F:lS K "worth_trying" "Search.worth_trying" gf f fd) (M0:Bt mg) {Cs:cD}(Z:mf K (dw Cs)) (m6:hV P w K mg base 6 "at_a_time" dZ) (uI:hV P w K mg base 6 "choices" (fc 5)) (vv:hV P w K mg base 6 "points_by_use" gc) (K3:hV P w K mg base 6 "spoils" qd):eA P w K mg base jb (7) f fd ["self","lines","whose"] (HM (dw Cs) (nH 7 3 gX)):=by
 obtain⟨n8,dQ⟩:=M0.dQ;refine vG (dw Cs) F gY (λA G fO Ar outer s H E hr C0 H0=>?_)
 letI:=dF (dw Cs) A G
 have hu:=hr.units;unfold gX;exact(cW (fQ 3 gY.nd (cZ uI hr (by rfl) (cJ (cZ vv hr (by rfl) (cJ (cM 1) cP)) (cJ (cZ m6 hr (by rfl) (cJ (vF (Y:=dw Cs) Z (pv 0)) (cJ (cM 2) cP))) cP))))
  (cW (jw (ei (ui hu) (cL 2) (WD.o (iK (by rfl) dQ))) (cU (dB (cM 3))) eZ)
  (cW (qu 4 gY.nd (gB 5 rfl ⟨rfl,rfl,rfl,gY.nd⟩ (uT.weak (fB (cM 1))) (λ_ _ _ _ _=>(ei (R1) (WD.o (eG rh (by rfl) M0.len lW (df (cL 5) dA))) (WD.o (cZ m6 hr (by rfl) (cJ (vF (Y:=dw Cs) Z (pv 0)) (cJ (iK (by rfl) dQ) cP)))))) (λ_ _ _ _ _=>(cM 5))))
  (md 4 (cU (dB (eY hX (by rfl) M0.tuple gj (df (WD.o (WF.d (gB 6 rfl ⟨rfl,rfl,rfl,gY.nd⟩ (uT.weak (fB (cM 3))) (λ_ _ _ _ _=>(ur (cZ K3 hr (by rfl) (cJ (cM 6) (cJ (cM 4) cP))))) (λ_ _ _ _ _=>(cM 6))))) dA))))))))
theorem Cv {f:cD}{fd:cy}{n:Nat}(F:lS K "searched" "Search.searched" jA f fd) (M0:Bt mg) {Cs:cD}(Z:mf K (dw Cs)) {dr:cf}(m6:hV P w K mg base (7+n) "at_a_time" dZ) (K4:hV P w K mg base (7+n) "behind" qc) (oW:hV P w K mg base (7+n) "open_lines" eV) (tZ:hV P w K mg base (7+n) "other_hand" gm) (qk:lB P w K mg base (7+n) (dw Cs) "winner_of" dr) (xD:lB P w K mg base (7+n) (dw Cs) "worth_trying" gE):eA P w K mg base jb (7+n+1) f fd ["self","lines","whose"] (HM (dw Cs) (nH 7 3 (λG=>jy G dr))):=by
 obtain⟨n8,dQ⟩:=M0.dQ;refine vG (dw Cs) F kZ (λA G fO Ar outer s H E hr C0 H0=>?_)
 letI:=dF (dw Cs) A G
 have hu:=hr.units;unfold jy;exact(cW (fQ 3 kZ.nd (eG (P4 rfl) (by rfl) M0.min DB (df (WD.o (WF.d (ow 6 rfl ⟨rfl,rfl,rfl,kZ.nd⟩ (uT.weak (fB (cM 1))) (λ_ _ _ _ _=>(eG rh (by rfl) M0.len lW (df (cL 6) dA)))))) dA)))
  (cW (jw (E3.pt (ou (ei (ui hu) (cL 2) (WD.o (iK (by rfl) dQ))) (pJ (ei (R1) (cL 3) (WD.o (cZ m6 hr (by rfl) (cJ (vF (Y:=dw Cs) Z (pv 0)) (cJ (iK (by rfl) dQ) cP)))))))) (cU (dB (iK (by rfl) dQ))) eZ)
  (cW (lr (f:=(fH G dr)) bz rfl (fB (sM Z xD hr (pv 0) (cJ (cM 1) (cJ (cM 2) cP)))) (jl (i:=4) kZ.nd rfl (by first|exact Or.inl rfl|exact Or.inr rfl)) (cW (fQ 5 kZ.nd (cZ K4 hr (by rfl) (cJ (eN cP) (cJ (eN cP) (cJ (cM 2) (cJ (cM 4) cP))))))
  (cU (jw (ei (ui hu) (WD.o (sM Z qk hr (pv 0) (cJ (cZ oW hr (by rfl) (cJ (cM 1) (cJ (dY (cL 5) (WD.o cT) (λ_ _=>rfl)) (cJ (dY (cL 5) (WD.o cT) (λ_ _=>rfl)) cP)))) (cJ (cZ tZ hr (by rfl) (cJ (cM 2) cP)) cP)))) (cL 2)) (cU (dB (cM 2))) eZ))))
  (cU (dB (cZ tZ hr (by rfl) (cJ (cM 2) cP)))))))
theorem AR {f:cD}{fd:cy}{n:Nat}(F:lS K "winner_of" "Search.winner_of" iW f fd) (M0:Bt mg) {Cs:cD}(Z:mf K (dw Cs)) {dN:cf}(Ex:lB P w K mg base (7+n) (dw Cs) "searched" dN):eA P w K mg base jb (7+n+1) f fd ["self","lines","whose"] (HM (dw Cs) (nH 3 3 (λG=>iP G dN))):=by
 obtain⟨n8,dQ⟩:=M0.dQ;obtain⟨FX,lK⟩:=M0.lK;refine vG (dw Cs) F AM (λA G fO Ar outer s H E hr C0 H0=>?_)
 letI:=dF (dw Cs) A G
 have hu:=hr.units;unfold iP;exact(cW (jw (ei (ui hu) (WD.o (eG rh (by rfl) M0.len lW (df (cL 1) dA))) (WD.o cT)) (cU (dB (iK (by rfl) lK))) eZ)
  (cW (jw (ei (IZ hu) (WD.o (eN cP)) (cL 1)) (cU (dB (iK (by rfl) dQ))) eZ)
  (cW (JA [] hu Z (eN (cJ (cM 1) (cJ (cM 2) cP))) (pv 0) (cU (GW hu Z (sM Z Ex hr (pv 0) (cJ (cM 1) (cJ (cM 2) cP))) (pv 0) (eN (cJ (cM 1) (cJ (cM 2) cP))))))
  (cU (dB (GV hu Z (pv 0) (eN (cJ (cM 1) (cJ (cM 2) cP))) (λ_ _=>rfl)))))))
theorem AS {f:cD}{fd:cy}(F:lS K "winner_at" "Search.winner_at" iX f fd) (M0:Bt mg) {Cs:cD}(Z:mf K (dw Cs)) (oW:hV P w K mg base 32 "open_lines" eV) (qk:lB P w K mg base 32 (dw Cs) "winner_of" (gO 24)):eA P w K mg base jb (33) f fd ["self","mine","yours","whose"] (HM (dw Cs) (nH 4 4 jZ)):=by
 refine vG (dw Cs) F AN (λA G fO Ar outer s H E hr C0 H0=>?_)
 letI:=dF (dw Cs) A G
 have hu:=hr.units;unfold jZ;exact(cU (dB (sM Z qk hr (pv 0) (cJ (cZ oW hr (by rfl) (cJ (dY (WD.o (dY (WD.o (vF (Y:=dw Cs) Z (pv 0))) (WD.o cT) (λ_ _=>rfl))) (WD.o cT) (λ_ _=>rfl)) (cJ (cM 1) (cJ (cM 2) cP)))) (cJ (cM 3) cP)))))
theorem xE {f:cD}{fd:cy}(F:lS K "winner_from" "winner_from" gK f fd) (M0:Bt mg) {Cs:cD}(Z:mf K (dw Cs)) (K5:uv P w K mg base 32 (dw Cs) "Search") (Cw:lB P w K mg base 33 (dw Cs) "winner_at" mY):eA P w K mg base jb (34) f fd ["game","mine","yours","whose"] (nC g7):=by
 refine PX F xy (λfO A outer s H E hr C0 H0=>?_)
 letI:=Mem.keep
 have hu:=hr.units;unfold j0;exact(cU (dB (DM Z Cw hr (Vf Z K5 hr (by rfl) (cM 0)) (cJ (cM 1) (cJ (cM 2) (cJ (cM 3) cP))))))
theorem HB {f:cD}{fd:cy}(F:lS K "winner" "winner" lO f fd) (M0:Bt mg) (yt:hV P w K mg base 34 "winner_from" g7):eA P w K mg base jb (35) f fd ["game"] (nC nY):=by
 refine eM F Hw (λm fO A outer s H E hr C0 H0=>?_)
 have hu:=hr.units;unfold qH;exact(cU (dB (cZ yt hr (by rfl) (cJ (cM 0) (cJ (eN cP) (cJ (eN cP) (cJ (dY (cL 0) (WD.o cT) (λ_ _=>rfl)) cP)))))))
theorem yu {f:cD}{fd:cy}(F:lS K "lines_with" "lines_with" hJ f fd) (M0:Bt mg):eA P w K mg base jb (1) f fd ["field","point"] (nC gQ):=by
 refine eM F rK (λm fO A outer s H E hr C0 H0=>?_)
 have hu:=hr.units;unfold kK;exact(cU (dB (WF.d (gB 2 rfl ⟨rfl,rfl,rfl,rK.nd⟩ (uT.weak (fB (dY (cL 0) (WD.o cT) (λ_ _=>rfl)))) (λ_ _ _ _ _=>(ei (IZ hu) (cL 1) (cL 2))) (λ_ _ _ _ _=>(cM 2))))))
theorem K6 {f:cD}{fd:cy}(F:lS K "power" "power" n6 f fd) (M0:Bt mg):eA P w K mg base jb (1) f fd ["base","times"] (nC oO):=by
 refine eM F tY (λm fO A outer s H E hr C0 H0=>?_)
 have hu:=hr.units;unfold tM;exact(cW (fQ 2 tY.nd cT)
  (cW (lr (f:=kA) bz rfl (jr (by rfl) M0.range (cJ (cM 1) cP)) (jl (i:=3) tY.nd rfl (by first|exact Or.inl rfl|exact Or.inr rfl)) (cU (fQ 2 tY.nd (rQ (cL 2) (cL 0)))))
  (cU (dB (cM 2)))))
theorem M9 {f:cD}{fd:cy}(F:lS K "unit" "unit" qM f fd) (M0:Bt mg) (AU:hV P w K mg base 1 "power" oO):eA P w K mg base jb (2) f fd ["field","guards"] (nC xp):=by
 refine eM F M8 (λm fO A outer s H E hr C0 H0=>?_)
 have hu:=hr.units;unfold vN;exact(cU (dB (cZ AU hr (by rfl) (cJ (jL (cL 1) (WD.o cT)) (cJ (dY (cL 0) (WD.o cT) (λ_ _=>rfl)) cP)))))
theorem HC {f:cD}{fd:cy}(F:lS K "weight" "weight" lP f fd) (M0:Bt mg) (qj:hV P w K mg base 1 "free_part" fF) (mP:hV P w K mg base 1 "has_some" fT) (AU:hV P w K mg base 1 "power" oO):eA P w K mg base jb (2) f fd ["field","guards","mine","yours","lines"] (nC j5):=by
 refine eM F uH (λm fO A outer s H E hr C0 H0=>?_)
 have hu:=hr.units;unfold qK;exact(cW (sG 5 6 rfl ⟨rfl,rfl,rfl,uH.nd⟩ (uT.weak (Ad (cM 4))) (λ_ _ _ _ _=>(rR (ur (cZ mP hr (by rfl) (cJ (cM 3) (cJ (cM 6) cP)))))) (λ_ _ _ _ _=>(cZ qj hr (by rfl) (cJ (cM 6) (cJ (cM 2) cP)))))
  (md 5 (cU (dB (eG (SA rfl) (by rfl) M0.sum P1 (df (WD.o (WF.d (ow 7 rfl ⟨rfl,rfl,rfl,uH.nd⟩ (zW (cL 5)) (λ_ _ _ _ _=>(cZ AU hr (by rfl) (cJ (jL (cL 1) (WD.o cT)) (cJ (wx (WD.o (dY (cL 0) (WD.o cT) (λ_ _=>rfl))) (WD.o (eG rh (by rfl) M0.len lW (df (cL 7) dA)))) cP))))))) dA))))))
theorem t4 {f:cD}{fd:cy}(F:lS K "common_divisor" "common_divisor" fi f fd) (M0:Bt mg):eA P w K mg base jb (1) f fd ["one","other"] (nC gG):=by
 refine eM F ig (λm fO A outer s H E hr C0 H0=>?_)
 have hu:=hr.units;unfold hZ;exact(cW (Bq 400 bz (ei (IL) (cL 1) (WD.o cT)) (cW (fQ 2 ig.nd (wy (cL 0) (cL 1)))
  (cW (fQ 0 ig.nd (cM 1))
  (cU (fQ 1 ig.nd (cM 2))))))
  (cU (dB (cM 0))))
theorem Cy {f:cD}{fd:cy}(F:lS K "fraction" "fraction" jB f fd) (M0:Bt mg) (uK:hV P w K mg base 1 "common_divisor" gG):eA P w K mg base jb (2) f fd ["upper","lower"] (nC mL):=by
 refine eM F u9 (λm fO A outer s H E hr C0 H0=>?_)
 have hu:=hr.units;unfold mZ;exact(cW (fQ 2 u9.nd (cZ uK hr (by rfl) (cJ (cM 0) (cJ (cM 1) cP))))
  (cU (dB (eN (cJ (Jl (cL 0) (cL 2)) (cJ (Jl (cL 1) (cL 2)) cP))))))
theorem HD {f:cD}{fd:cy}(F:lS K "danger" "danger" lQ f fd) (M0:Bt mg) (Ey:hV P w K mg base 2 "fraction" mL) (QD:hV P w K mg base 2 "unit" xp) (xF:hV P w K mg base 2 "weight" j5):eA P w K mg base jb (3) f fd ["field","guards","mine","yours"] (nC nZ):=by
 refine eM F Hx (λm fO A outer s H E hr C0 H0=>?_)
 have hu:=hr.units;unfold qL;exact(cU (dB (cZ Ey hr (by rfl) (cJ (cZ xF hr (by rfl) (cJ (cM 0) (cJ (cM 1) (cJ (cM 2) (cJ (cM 3) (cJ (dY (cL 0) (WD.o cT) (λ_ _=>rfl)) cP)))))) (cJ (cZ QD hr (by rfl) (cJ (cM 0) (cJ (cM 1) cP))) cP)))))
theorem t5 {f:cD}{fd:cy}(F:lS K "heaviest_point" "heaviest_point" fj f fd) (M0:Bt mg) (AV:hV P w K mg base 2 "lines_with" gQ) (xF:hV P w K mg base 2 "weight" j5):eA P w K mg base jb (3) f fd ["field","guards","mine","yours","free"] (nC eR):=by
 refine eM F m5 (λm fO A outer s H E hr C0 H0=>?_)
 have hu:=hr.units;unfold ie;exact(cW (DG 5 6 rfl ⟨rfl,rfl,rfl,m5.nd⟩ (uT.weak (fB (cM 4))) (λ_ _ _ _ _=>(cZ xF hr (by rfl) (cJ (cM 0) (cJ (cM 1) (cJ (cM 2) (cJ (cM 3) (cJ (cZ AV hr (by rfl) (cJ (cM 0) (cJ (cM 6) cP))) cP))))))))
  (md 5 (cU (dB (dY (cL 4) (WD.o (P5 (cL 5) (df (WD.o (eG (P2 rfl) (by rfl) M0.max Pp (df (cL 5) dA))) dA))) (λ_ _=>rfl))))))
theorem Cz {f:cD}{fd:cy}(F:lS K "heaviest" "heaviest" jC f fd) (M0:Bt mg) (rL:hV P w K mg base 3 "free_points" gZ) (uL:hV P w K mg base 3 "heaviest_point" eR):eA P w K mg base jb (4) f fd ["field","guards","mine","yours"] (nC mM):=by
 refine eM F lb (λm fO A outer s H E hr C0 H0=>?_)
 have hu:=hr.units;unfold m3;exact(cW (fQ 4 lb.nd (eN cP))
  (cW (fQ 5 lb.nd (cZ rL hr (by rfl) (cJ (cM 0) (cJ (cM 2) (cJ (cM 3) cP)))))
  (cW (Bq 5 bz (E3.pt (ou (ei (Jb hu) (WD.o (eG rh (by rfl) M0.len lW (df (cL 4) dA))) (cL 1)) (pJ (ei (IL) (WD.o (eG rh (by rfl) M0.len lW (df (cL 5) dA))) (WD.o cT))))) (cW (fQ 4 lb.nd (kF (cL 4) (WD.o (eN (cJ (cZ uL hr (by rfl) (cJ (cM 0) (cJ (cM 1) (cJ (cM 2) (cJ (kF (cL 3) (cL 4)) (cJ (cM 5) cP)))))) cP)))))
  (cU (fQ 5 lb.nd (cZ rL hr (by rfl) (cJ (cM 0) (cJ (cM 2) (cJ (kF (cL 3) (cL 4)) cP))))))))
  (cU (dB (cM 4))))))
theorem vw {f:cD}{fd:cy}(F:lS K "is_below_one" "is_below_one" gg f fd) (M0:Bt mg):eA P w K mg base jb (1) f fd ["pair"] (nC gH):=by
 refine eM F vr (λm fO A outer s H E hr C0 H0=>?_)
 have hu:=hr.units;unfold pe;exact(cU (dB (zV (Jb hu) (WD.o (dY (cL 0) (WD.o cT) (λ_ _=>rfl))) (WD.o (dY (cL 0) (WD.o cT) (λ_ _=>rfl))))))
theorem Ez {f:cD}{fd:cy}(F:lS K "is_safe" "is_safe" kD f fd) (M0:Bt mg) (CA:hV P w K mg base 3 "danger" nZ) (ql:hV P w K mg base 3 "is_below_one" gH):eA P w K mg base jb (4) f fd ["game"] (nC n4):=by
 obtain⟨FX,lK⟩:=M0.lK;refine eM F xA (λm fO A outer s H E hr C0 H0=>?_)
 have hu:=hr.units;unfold oS;exact(cW (jw (ei (ui hu) (WD.o (dY (cL 0) (WD.o cT) (λ_ _=>rfl))) (WD.o (iK (by rfl) lK))) (cU (dB (cZ ql hr (by rfl) (cJ (cZ CA hr (by rfl) (cJ (dY (cL 0) (WD.o cT) (λ_ _=>rfl)) (cJ (dY (cL 0) (WD.o cT) (λ_ _=>rfl)) (cJ (eN cP) (cJ (eN cP) cP))))) cP)))) eZ)
  (cU (dB (eG (Je rfl) (by rfl) M0.all DA (df (WD.o (WF.d (ow 1 rfl ⟨rfl,rfl,rfl,xA.nd⟩ (uT.weak (jr (by rfl) M0.range (cJ (dY (WD.o (dY (cL 0) (WD.o cT) (λ_ _=>rfl))) (WD.o cT) (λ_ _=>rfl)) cP))) (λ_ _ _ _ _=>(cZ ql hr (by rfl) (cJ (cZ CA hr (by rfl) (cJ (dY (cL 0) (WD.o cT) (λ_ _=>rfl)) (cJ (dY (cL 0) (WD.o cT) (λ_ _=>rfl)) (cJ (eN (cJ (cM 1) cP)) (cJ (eN cP) cP))))) cP)))))) dA)))))
theorem CB {f:cD}{fd:cy}(F:lS K "_law_mix" "_law_mix" jD f fd) (M0:Bt mg):eA P w K mg base jb (1) f fd ["_law_cell_here","_law_prime","_law_many"] (nC dk):=by
 refine eM F Cr (λm fO A outer s H E hr C0 H0=>?_)
 have hu:=hr.units;unfold pP;exact(cU (dB (wy (WD.o (wy (WD.o (rQ (cL 0) (WD.o cT))) (cL 1))) (cL 2))))
theorem yv {f:cD}{fd:cy}(F:lS K "_law_field" "_law_field" hO f fd) (M0:Bt mg) (kE:hV P w K mg base 1 "_law_mix" dk):eA P w K mg base jb (2) f fd ["_law_cell_here","_law_least","_law_most","_law_lines"] (nC dq):=by
 refine eM F fJ (λm fO A outer s H E hr C0 H0=>?_)
 have hu:=hr.units;unfold kG;exact(cW (fQ 4 fJ.nd (jL (cL 1) (WD.o (cZ kE hr (by rfl) (cJ (cM 0) (cJ cT (cJ (jL (WD.o (wx (cL 2) (cL 1))) (WD.o cT)) cP)))))))
  (cW (qu 5 fJ.nd (Jn cP))
  (cW (lr (f:=gT) bz rfl (jr (by rfl) M0.range (cJ (cZ kE hr (by rfl) (cJ (cM 0) (cJ cT (cJ (jL (cL 3) (WD.o cT)) cP)))) cP)) (jl (i:=6) fJ.nd rfl (by first|exact Or.inl rfl|exact Or.inr rfl)) (cW (fQ 7 fJ.nd (jL (WD.o cT) (WD.o (cZ kE hr (by rfl) (cJ (jL (cL 0) (WD.o (rQ (WD.o cT) (cL 6)))) (cJ cT (cJ (eG (Jc rfl) (by rfl) M0.min DB (df (WD.o cT) (df (cL 4) dA))) cP)))))))
  (cW (jw (E3.pt (ou (ei (IL) (WD.o (wy (cL 0) (WD.o cT))) (WD.o cT)) (ou (ei (ui hu) (cL 7) (WD.o cT)) (pJ (ei (IL) (cL 4) (WD.o cT)))))) (cU (fQ 7 fJ.nd cT)) eZ)
  (cW (qu 8 fJ.nd (zX rfl (by rfl) M0.list (by rfl) M0.range (cJ (cM 4) cP)))
  (cW (Ml 9 10 8 rfl (by decide) ⟨rfl,rfl,rfl,fJ.nd⟩ (jr (by rfl) M0.range (cJ (cM 7) cP)) (λ_ _ _ _ _=>pv 8) (λ_ _ _ _ _=>(cZ kE hr (by rfl) (cJ (jL (WD.o (jL (cL 0) (WD.o (rQ (WD.o cT) (cL 6))))) (WD.o (rQ (WD.o cT) (cL 10)))) (cJ cT (cJ (wx (cL 4) (cL 10)) cP))))))
  (md 9 (cU (jw (ei (qq hu) (WD.o (eY hX (by rfl) M0.tuple gj (df (WD.o (WF.d (ma (wt hu) (by rfl) M0.sorted iJ (df (cL 9) dA)))) dA))) (cL 5)) (cU (Jo (pv 5) (eY hX (by rfl) M0.tuple gj (df (WD.o (WF.d (ma (wt hu) (by rfl) M0.sorted iJ (df (cL 9) dA)))) dA)))) eZ))))))))
  (cU (dB (eN (cJ (cM 4) (cJ (eY hX (by rfl) M0.tuple gj (df (WD.o (WF.d (ma (wt hu) (by rfl) M0.sorted iJ (df (cL 5) dA)))) dA)) cP))))))))
theorem AW {f:cD}{fd:cy}(F:lS K "_law_over" "_law_over" iY f fd) (M0:Bt mg):eA P w K mg base jb (1) f fd ["_law_game_here","_law_mine","_law_yours"] (nC kX):=by
 refine eM F j7 (λm fO A outer s H E hr C0 H0=>?_)
 have hu:=hr.units;unfold jS;exact(cW (lr (f:=fU) bz rfl (fB (dY (WD.o (dY (cL 0) (WD.o cT) (λ_ _=>rfl))) (WD.o cT) (λ_ _=>rfl))) (jl (i:=3) j7.nd rfl (by first|exact Or.inl rfl|exact Or.inr rfl)) (cU (jw (rR (pO (WD.o (WF.d (gB 4 rfl ⟨rfl,rfl,rfl,j7.nd⟩ (uT.weak (fB (cM 3))) (λ_ _ _ _ _=>(ei (qq hu) (cL 4) (cL 1))) (λ_ _ _ _ _=>(cM 4))))))) (cU (dB cT)) eZ)))
  (cW (lr (f:=fV) bz rfl (fB (dY (WD.o (dY (cL 0) (WD.o cT) (λ_ _=>rfl))) (WD.o cT) (λ_ _=>rfl))) (jl (i:=3) j7.nd rfl (by first|exact Or.inl rfl|exact Or.inr rfl)) (cU (jw (rR (pO (WD.o (WF.d (gB 4 rfl ⟨rfl,rfl,rfl,j7.nd⟩ (uT.weak (fB (cM 3))) (λ_ _ _ _ _=>(ei (IZ hu) (cL 4) (cL 2))) (λ_ _ _ _ _=>(cM 4))))))) (cU (dB PH)) eZ)))
  (cU (dB cT))))
theorem AX {f:cD}{fd:cy}{n:Nat}(F:lS K "_law_safe" "_law_safe" iZ f fd) (M0:Bt mg) {cX:cf}(CC:hV P w K mg base (4+n) "_law_over" kX) (m7:hV P w K mg base (4+n) "_law_safe" cX) (EA:hV P w K mg base (4+n) "heaviest" mM):eA P w K mg base jb (4+n+1) f fd ["_law_game_here","_law_mine","_law_yours","_law_whose"] (nC (gi 7 4 (j6 cX))):=by
 refine eM F i0 (λm fO A outer s H E hr C0 H0=>?_)
 have hu:=hr.units;unfold j6;exact(cW (jw (ei (ui hu) (WD.o (cZ CC hr (by rfl) (cJ (cM 0) (cJ (cM 1) (cJ (cM 2) cP))))) (WD.o cT)) (cU (dB wu)) eZ)
  (cW (qu 4 i0.nd (gB 6 rfl ⟨rfl,rfl,rfl,i0.nd⟩ (uT.weak (jr (by rfl) M0.range (cJ (dY (WD.o (dY (cL 0) (WD.o cT) (λ_ _=>rfl))) (WD.o cT) (λ_ _=>rfl)) cP))) (λ_ _ _ _ _=>(ei (qq hu) (cL 6) (WD.o (kF (cL 1) (cL 2))))) (λ_ _ _ _ _=>(cM 6))))
  (md 4 (cW (jw (ei (ui hu) (cL 3) (WD.o cT)) (cW (fQ 5 i0.nd (cZ EA hr (by rfl) (cJ (dY (cL 0) (WD.o cT) (λ_ _=>rfl)) (cJ (dY (cL 0) (WD.o cT) (λ_ _=>rfl)) (cJ (cM 1) (cJ (cM 2) cP))))))
  (cW (jw (E3.pt (PJ (ei (Po hu) (WD.o (Hm rfl hu (by rfl) M0.len (by rfl) M0.set (cL 5))) (WD.o (eG (Jc rfl) (by rfl) M0.min DB (df (WD.o (dY (cL 0) (WD.o cT) (λ_ _=>rfl))) (df (WD.o (eG rh (by rfl) M0.len lW (df (cL 4) dA))) dA))))) (Mj (pO (WD.o (WF.d (gB 6 rfl ⟨rfl,rfl,rfl,i0.nd⟩ (uT.weak (fB (cM 5))) (λ_ _ _ _ _=>(ei (qq hu) (cL 6) (cL 4))) (λ_ _ _ _ _=>(cM 6))))))))) (cU (dB wu)) eZ)
  (cU (dB (Sn (MY (cL 4)) (Jm (cZ m7 hr (by rfl) (cJ (cM 0) (cJ (cM 1) (cJ (eY hX (by rfl) M0.tuple gj (df (WD.o (WF.d (ma (qv hu) (by rfl) M0.sorted iJ (df (WD.o (kF (cL 2) (cL 5))) dA)))) dA)) (cJ cT cP))))))))))) eZ)
  (cW (lr (f:=(iD cX)) bz rfl (Bo (cM 4)) (jl (i:=6) i0.nd rfl (by first|exact Or.inl rfl|exact Or.inr rfl)) (cU (jw (rR (ur (cZ m7 hr (by rfl) (cJ (cM 0) (cJ (eY hX (by rfl) M0.tuple gj (df (WD.o (WF.d (ma (qv hu) (by rfl) M0.sorted iJ (df (WD.o (kF (cL 1) (WD.o (eN (cJ (cM 6) cP))))) dA)))) dA)) (cJ (cM 2) (cJ cT cP))))))) (cU (dB wu)) eZ)))
  (cU (dB wu)))))))
theorem QE {f:cD}{fd:cy}(F:lS K "law" "law" oU f fd) (M0:Bt mg) (t6:hV P w K mg base 35 "_law_field" dq) (kE:hV P w K mg base 35 "_law_mix" dk) (m7:hV P w K mg base 35 "_law_safe" (eD 9)) (HE:hV P w K mg base 35 "is_safe" n4) (K7:hV P w K mg base 35 "winner" nY):eA P w K mg base jb (36) f fd ["_law_script"] (nC FL):=by
 refine eM F oV (λm fO A outer s H E hr C0 H0=>?_)
 have hu:=hr.units;unfold AI;exact(cW (lr (f:=n5) bz rfl (Bo (WF.d (PL (cL 0) Nx (Jk (WD.o cT))))) (jl (i:=1) oV.nd rfl (by first|exact Or.inl rfl|exact Or.inr rfl)) (cW (fQ 2 oV.nd (cZ t6 hr (by rfl) (cJ (jL (WD.o (rQ (WD.o cT) (cL 1))) (WD.o cT)) (cJ cT (cJ cT (cJ cT cP))))))
  (cW (jw (ei (ui hu) (WD.o (wy (cL 1) (WD.o cT))) (WD.o cT)) (cU (fQ 2 oV.nd (cZ t6 hr (by rfl) (cJ (jL (WD.o (rQ (WD.o cT) (cL 1))) (WD.o cT)) (cJ cT (cJ cT (cJ cT cP))))))) eZ)
  (cW (fQ 3 oV.nd (eY hX (by rfl) M0.tuple gj (df (WD.o (WF.d (gB 7 rfl ⟨rfl,rfl,rfl,oV.nd⟩ (uT.weak (fB (dY (cL 2) (WD.o cT) (λ_ _=>rfl)))) (λ_ _ _ _ _=>(ei (IL) (WD.o (eG rh (by rfl) M0.len lW (df (cL 7) dA))) (WD.o cT))) (λ_ _ _ _ _=>(cM 7))))) dA)))
  (cU (lr (f:=tV) bz rfl (fB (eN (cJ cT (cJ cT cP)))) (jl (i:=4) oV.nd rfl (by first|exact Or.inl rfl|exact Or.inr rfl)) (cW (fQ 5 oV.nd (eN (cJ (eN (cJ (dY (cL 2) (WD.o cT) (λ_ _=>rfl)) (cJ (cM 3) cP))) (cJ (cM 4) (cJ cT (cJ (jL (WD.o cT) (WD.o (cZ kE hr (by rfl) (cJ (cM 1) (cJ cT (cJ cT cP)))))) cP))))))
  (cW (fQ 6 oV.nd (cZ HE hr (by rfl) (cJ (cM 5) cP)))
  (cW (jw (E3.pt (ou (pO (cL 6)) (pJ (rR (ur (cZ m7 hr (by rfl) (cJ (cM 5) (cJ (eN cP) (cJ (eN cP) (cJ (cM 4) cP)))))))))) (cU (dB wu)) eZ)
  (cU (jw (E3.pt (ou (ei (Jb hu) (WD.o (dY (cL 2) (WD.o cT) (λ_ _=>rfl))) (WD.o cT)) (ou (pO (cL 6)) (pJ (ei (Po hu) (WD.o (cZ K7 hr (by rfl) (cJ (cM 5) cP))) (WD.o cT)))))) (cU (dB wu)) eZ)))))))))))
  (cU (dB wu)))
theorem CG {f:cD}{fd:cy}{Cs:cD}(F:lS K "__init__" "Search.__init__" jE f fd) (Z:mf K (dw Cs)):eA P w K mg base jb 1 f fd ["self","game"] (Ac (dw Cs)):=Ms (dw Cs) F Ct rfl (λfO Ar outer s H E=>Jy Z (pv 0) (pv 1) (pv 0) rfl rfl)
end
theorem all_mk {l:W.OpenLaw}{w:cA}{K:W.Frag}{h:Heap}{mg:cj}(X:K.In h) (G:h.Ns mainGlobals mg) (hfa:mg "law"=some (.ref fa))
  {Cs:cD}(aC:W.nsIn K mainGlobals "Search"=some (some (.ref Cs)))
  (pgC:W.plainGet K Cs Str.empty=true)
  (hdC:W.hasDictIn K Cs=true)
  (poC:W.plainOver K Cs=true)
  (saC:W.findIn K (.ref Cs) "__setattr__"=some (some (.builtin "object.__setattr__")))
  (mkC:W.makesIn K Cs=true)
  (kcC:W.keepIn K (.ref Cs)=true)
  (nGC:W.findIn K (.ref Cs) "game"=some none)
  (nKC:W.findIn K (.ref Cs) "known"=some none)
  (aI:W.findIn K (.ref Cs) "__init__"=some (some (.ref fI))) (iI:W.isFn K (.ref fI)=true) (lI:K.lookup fI=some ⟨ocI,odI,.func (W.fnOf "__init__" "Search.__init__" (dD jE) (dh jE) (cK jE) .none kVI dcI pmI anI cdI ctI),slI⟩) (cI:W.codeIn K cdI "Search.__init__"=true) (kI:W.keepIn K (.ref fI)=true)
  (a0:W.nsIn K mainGlobals "has_all"=some (some (.ref f0))) (l0:K.lookup f0=some ⟨oc0,od0,.func (W.fnOf "has_all" "has_all" (dD kB) (dh kB) (cK kB) .none kV0 dc0 pm0 an0 cd0 ct0),sl0⟩) (c0:W.codeIn K cd0 "has_all"=true) (k0:W.keepIn K (.ref f0)=true)
  (a1:W.nsIn K mainGlobals "has_some"=some (some (.ref f1))) (l1:K.lookup f1=some ⟨oc1,od1,.func (W.fnOf "has_some" "has_some" (dD jz) (dh jz) (cK jz) .none kV1 dc1 pm1 an1 cd1 ct1),sl1⟩) (c1:W.codeIn K cd1 "has_some"=true) (k1:W.keepIn K (.ref f1)=true)
  (a2:W.nsIn K mainGlobals "at_a_time"=some (some (.ref f2))) (l2:K.lookup f2=some ⟨X3,od2,.func (W.fnOf "at_a_time" "at_a_time" (dD iR) (dh iR) (cK iR) .none kV2 dc2 X5 an2 cd2 ct2),Io⟩) (c2:W.codeIn K cd2 "at_a_time"=true) (k2:W.keepIn K (.ref f2)=true)
  (a3:W.nsIn K mainGlobals "other_hand"=some (some (.ref f3))) (l3:K.lookup f3=some ⟨oc3,od3,.func (W.fnOf "other_hand" "other_hand" (dD g8) (dh g8) (cK g8) .none kV3 dc3 pm3 an3 cd3 ct3),sl3⟩) (c3:W.codeIn K cd3 "other_hand"=true) (k3:W.keepIn K (.ref f3)=true)
  (a4:W.nsIn K mainGlobals "choices"=some (some (.ref f4))) (l4:K.lookup f4=some ⟨oc4,od4,.func (W.fnOf "choices" "choices" (dD kC) (dh kC) (cK kC) .none kV4 dc4 pm4 an4 cd4 ct4),sl4⟩) (c4:W.codeIn K cd4 "choices"=true) (k4:W.keepIn K (.ref f4)=true)
  (a5:W.nsIn K mainGlobals "free_points"=some (some (.ref f5))) (l5:K.lookup f5=some ⟨oc5,od5,.func (W.fnOf "free_points" "free_points" (dD gI) (dh gI) (cK gI) .none kV5 dc5 pm5 an5 cd5 ct5),sl5⟩) (c5:W.codeIn K cd5 "free_points"=true) (k5:W.keepIn K (.ref f5)=true)
  (a6:W.nsIn K mainGlobals "behind"=some (some (.ref f6))) (l6:K.lookup f6=some ⟨oc6,od6,.func (W.fnOf "behind" "behind" (dD lM) (dh lM) (cK lM) .none kV6 dc6 pm6 an6 cd6 ct6),sl6⟩) (c6:W.codeIn K cd6 "behind"=true) (k6:W.keepIn K (.ref f6)=true)
  (a7:W.nsIn K mainGlobals "free_part"=some (some (.ref f7))) (l7:K.lookup f7=some ⟨oc7,od7,.func (W.fnOf "free_part" "free_part" (dD iU) (dh iU) (cK iU) .none kV7 dc7 pm7 an7 cd7 ct7),sl7⟩) (c7:W.codeIn K cd7 "free_part"=true) (k7:W.keepIn K (.ref f7)=true)
  (a8:W.nsIn K mainGlobals "has_another"=some (some (.ref f8))) (l8:K.lookup f8=some ⟨oc8,od8,.func (W.fnOf "has_another" "has_another" (dD gJ) (dh gJ) (cK gJ) .none kV8 dc8 pm8 an8 cd8 ct8),sl8⟩) (c8:W.codeIn K cd8 "has_another"=true) (k8:W.keepIn K (.ref f8)=true)
  (a9:W.nsIn K mainGlobals "spoils"=some (some (.ref f9))) (l9:K.lookup f9=some ⟨oc9,od9,.func (W.fnOf "spoils" "spoils" (dD lN) (dh lN) (cK lN) .none kV9 dc9 pm9 an9 cd9 ct9),sl9⟩) (c9:W.codeIn K cd9 "spoils"=true) (k9:W.keepIn K (.ref f9)=true)
  (a10:W.nsIn K mainGlobals "points_by_use"=some (some (.ref Ye))) (l10:K.lookup Ye=some ⟨abp,abq,.func (W.fnOf "points_by_use" "points_by_use" (dD fL) (dh fL) (cK fL) .none abr abt abu abv V5 abw),abx⟩) (c10:W.codeIn K V5 "points_by_use"=true) (k10:W.keepIn K (.ref Ye)=true)
  (a11:W.nsIn K mainGlobals "open_lines"=some (some (.ref Yg))) (l11:K.lookup Yg=some ⟨aby,abz,.func (W.fnOf "open_lines" "open_lines" (dD g9) (dh g9) (cK g9) .none abA abB abC abD V6 abE),abF⟩) (c11:W.codeIn K V6 "open_lines"=true) (k11:W.keepIn K (.ref Yg)=true)
  (a12:W.findIn K (.ref Cs) "worth_trying"=some (some (.ref V7))) (i12:W.isFn K (.ref V7)=true) (l12:K.lookup V7=some ⟨abG,abH,.func (W.fnOf "worth_trying" "Search.worth_trying" (dD gf) (dh gf) (cK gf) .none abI abJ abK abL V8 abM),abN⟩) (c12:W.codeIn K V8 "Search.worth_trying"=true) (k12:W.keepIn K (.ref V7)=true)
  (a13:W.findIn K (.ref Cs) "searched"=some (some (.ref V9))) (i13:W.isFn K (.ref V9)=true) (l13:K.lookup V9=some ⟨abO,abP,.func (W.fnOf "searched" "Search.searched" (dD jA) (dh jA) (cK jA) .none abQ abR abS abT Wa abU),abV⟩) (c13:W.codeIn K Wa "Search.searched"=true) (k13:W.keepIn K (.ref V9)=true)
  (a14:W.findIn K (.ref Cs) "winner_of"=some (some (.ref Wb))) (i14:W.isFn K (.ref Wb)=true) (l14:K.lookup Wb=some ⟨abW,abX,.func (W.fnOf "winner_of" "Search.winner_of" (dD iW) (dh iW) (cK iW) .none abY abZ ab0 ab1 Wc ab2),ab3⟩) (c14:W.codeIn K Wc "Search.winner_of"=true) (k14:W.keepIn K (.ref Wb)=true)
  (a15:W.findIn K (.ref Cs) "winner_at"=some (some (.ref Wd))) (i15:W.isFn K (.ref Wd)=true) (l15:K.lookup Wd=some ⟨ab4,ab5,.func (W.fnOf "winner_at" "Search.winner_at" (dD iX) (dh iX) (cK iX) .none ab6 ab7 ab8 ab9 We aca),acb⟩) (c15:W.codeIn K We "Search.winner_at"=true) (k15:W.keepIn K (.ref Wd)=true)
  (a16:W.nsIn K mainGlobals "winner_from"=some (some (.ref Yh))) (l16:K.lookup Yh=some ⟨acd,ace,.func (W.fnOf "winner_from" "winner_from" (dD gK) (dh gK) (cK gK) .none acf acg ach aci Wf acj),ack⟩) (c16:W.codeIn K Wf "winner_from"=true) (k16:W.keepIn K (.ref Yh)=true)
  (a17:W.nsIn K mainGlobals "winner"=some (some (.ref Yi))) (l17:K.lookup Yi=some ⟨acm,acn,.func (W.fnOf "winner" "winner" (dD lO) (dh lO) (cK lO) .none aco acp acq acr Wg acs),acu⟩) (c17:W.codeIn K Wg "winner"=true) (k17:W.keepIn K (.ref Yi)=true)
  (a18:W.nsIn K mainGlobals "lines_with"=some (some (.ref Yj))) (l18:K.lookup Yj=some ⟨acv,acw,.func (W.fnOf "lines_with" "lines_with" (dD hJ) (dh hJ) (cK hJ) .none acx acy acz acA Wh acB),acC⟩) (c18:W.codeIn K Wh "lines_with"=true) (k18:W.keepIn K (.ref Yj)=true)
  (a19:W.nsIn K mainGlobals "power"=some (some (.ref Yk))) (l19:K.lookup Yk=some ⟨acD,acE,.func (W.fnOf "power" "power" (dD n6) (dh n6) (cK n6) .none acF acG acH acI Wi acJ),acK⟩) (c19:W.codeIn K Wi "power"=true) (k19:W.keepIn K (.ref Yk)=true)
  (a20:W.nsIn K mainGlobals "unit"=some (some (.ref Yl))) (l20:K.lookup Yl=some ⟨acL,acM,.func (W.fnOf "unit" "unit" (dD qM) (dh qM) (cK qM) .none acN acO acP acQ Wj acR),acS⟩) (c20:W.codeIn K Wj "unit"=true) (k20:W.keepIn K (.ref Yl)=true)
  (a21:W.nsIn K mainGlobals "weight"=some (some (.ref Ym))) (l21:K.lookup Ym=some ⟨acT,acU,.func (W.fnOf "weight" "weight" (dD lP) (dh lP) (cK lP) .none acV acW acX acY Wl acZ),ac0⟩) (c21:W.codeIn K Wl "weight"=true) (k21:W.keepIn K (.ref Ym)=true)
  (a22:W.nsIn K mainGlobals "common_divisor"=some (some (.ref Yn))) (l22:K.lookup Yn=some ⟨ac1,ac2,.func (W.fnOf "common_divisor" "common_divisor" (dD fi) (dh fi) (cK fi) .none ac3 ac4 ac5 ac6 Wm ac7),ac8⟩) (c22:W.codeIn K Wm "common_divisor"=true) (k22:W.keepIn K (.ref Yn)=true)
  (a23:W.nsIn K mainGlobals "fraction"=some (some (.ref Yo))) (l23:K.lookup Yo=some ⟨ac9,ada,.func (W.fnOf "fraction" "fraction" (dD jB) (dh jB) (cK jB) .none adb ade adf adg Wn adh),adi⟩) (c23:W.codeIn K Wn "fraction"=true) (k23:W.keepIn K (.ref Yo)=true)
  (a24:W.nsIn K mainGlobals "danger"=some (some (.ref Yp))) (l24:K.lookup Yp=some ⟨adj,adk,.func (W.fnOf "danger" "danger" (dD lQ) (dh lQ) (cK lQ) .none adl adm adn ado Wo adp),adq⟩) (c24:W.codeIn K Wo "danger"=true) (k24:W.keepIn K (.ref Yp)=true)
  (a25:W.nsIn K mainGlobals "heaviest_point"=some (some (.ref Yq))) (l25:K.lookup Yq=some ⟨ads,adt,.func (W.fnOf "heaviest_point" "heaviest_point" (dD fj) (dh fj) (cK fj) .none adu adw adx ady Wq adz),adA⟩) (c25:W.codeIn K Wq "heaviest_point"=true) (k25:W.keepIn K (.ref Yq)=true)
  (a26:W.nsIn K mainGlobals "heaviest"=some (some (.ref Yr))) (l26:K.lookup Yr=some ⟨adB,adC,.func (W.fnOf "heaviest" "heaviest" (dD jC) (dh jC) (cK jC) .none adD adE adF adG Wr adH),adI⟩) (c26:W.codeIn K Wr "heaviest"=true) (k26:W.keepIn K (.ref Yr)=true)
  (a27:W.nsIn K mainGlobals "is_below_one"=some (some (.ref Ys))) (l27:K.lookup Ys=some ⟨adJ,adK,.func (W.fnOf "is_below_one" "is_below_one" (dD gg) (dh gg) (cK gg) .none adL adM adN adO Ws adP),adQ⟩) (c27:W.codeIn K Ws "is_below_one"=true) (k27:W.keepIn K (.ref Ys)=true)
  (a28:W.nsIn K mainGlobals "is_safe"=some (some (.ref Yt))) (l28:K.lookup Yt=some ⟨adR,adS,.func (W.fnOf "is_safe" "is_safe" (dD kD) (dh kD) (cK kD) .none adT adU adV adW Wu adX),adY⟩) (c28:W.codeIn K Wu "is_safe"=true) (k28:W.keepIn K (.ref Yt)=true)
  (a29:W.nsIn K mainGlobals "_law_mix"=some (some (.ref Yu))) (l29:K.lookup Yu=some ⟨adZ,ad0,.func (W.fnOf "_law_mix" "_law_mix" (dD jD) (dh jD) (cK jD) .none ad1 ad2 ad3 ad4 Wv ad5),ad6⟩) (c29:W.codeIn K Wv "_law_mix"=true) (k29:W.keepIn K (.ref Yu)=true)
  (a30:W.nsIn K mainGlobals "_law_field"=some (some (.ref Yv))) (l30:K.lookup Yv=some ⟨ad7,ad8,.func (W.fnOf "_law_field" "_law_field" (dD hO) (dh hO) (cK hO) .none ad9 aea aeb aec Ww aed),aee⟩) (c30:W.codeIn K Ww "_law_field"=true) (k30:W.keepIn K (.ref Yv)=true)
  (a31:W.nsIn K mainGlobals "_law_over"=some (some (.ref Yw))) (l31:K.lookup Yw=some ⟨aef,aeg,.func (W.fnOf "_law_over" "_law_over" (dD iY) (dh iY) (cK iY) .none aeh aei aej aek Wx ael),aem⟩) (c31:W.codeIn K Wx "_law_over"=true) (k31:W.keepIn K (.ref Yw)=true)
  (a32:W.nsIn K mainGlobals "_law_safe"=some (some (.ref Yx))) (l32:K.lookup Yx=some ⟨aen,aeo,.func (W.fnOf "_law_safe" "_law_safe" (dD iZ) (dh iZ) (cK iZ) .none aep aeq aer aes Wy aet),aeu⟩) (c32:W.codeIn K Wy "_law_safe"=true) (k32:W.keepIn K (.ref Yx)=true)
  (a33:W.nsIn K mainGlobals "law"=some (some (.ref Yy))) (l33:K.lookup Yy=some ⟨aev,aew,.func (W.fnOf "law" "law" (dD oU) (dh oU) (cK oU) .none Wz WA WC WE Tr WG),aex⟩) (c33:W.codeIn K Tr "law"=true) (k33:W.keepIn K (.ref Yy)=true)
  (z0:W.nsIn K mainGlobals "all"=some none)
  (z1:W.nsIn K mainGlobals "any"=some none)
  (z2:W.nsIn K mainGlobals "len"=some none)
  (z3:W.nsIn K mainGlobals "list"=some none)
  (z4:W.nsIn K mainGlobals "max"=some none)
  (z5:W.nsIn K mainGlobals "min"=some none)
  (z6:W.nsIn K mainGlobals "range"=some none)
  (z7:W.nsIn K mainGlobals "set"=some none)
  (z8:W.nsIn K mainGlobals "sorted"=some none)
  (z9:W.nsIn K mainGlobals "sum"=some none)
  (z10:W.nsIn K mainGlobals "tuple"=some none)
  {t0:Tok}(y0:W.nsIn K mainGlobals "BUILDER"=some (some (.int 0 t0)))
  {t1:Tok}(y1:W.nsIn K mainGlobals "GUARD"=some (some (.int 1 t1)))
  (tq:(W.tabIn K "points_by_use").isSome=true)
  :∃fd:cy,(∀(s:cx) (v:cw),BindsTo s fd ⟨[v],[]⟩ [("_law_script",v)])/\∀base:Heap,K.In base->base.Ns mainGlobals mg->eA l.prog w K mg base jb 65 fa fd ["_law_script"] (nC FL):=by
 have e:=hfa.symm.trans (aO X G a33);cases e;have F0:=dX (st:=kB) l0 c0 k0;have b0:=F0.binds (ps:=["points","line"]) λ_ _ _ _ _ _ us hl=>match us,hl with|[_,_],_=>rfl
 have F1:=dX (st:=jz) l1 c1 k1;have b1:=F1.binds (ps:=["points","line"]) λ_ _ _ _ _ _ us hl=>match us,hl with|[_,_],_=>rfl
 have F2:=dX (st:=iR) l2 c2 k2;have b2:=F2.binds (ps:=["game","whose"]) λ_ _ _ _ _ _ us hl=>match us,hl with|[_,_],_=>rfl
 have F3:=dX (st:=g8) l3 c3 k3;have b3:=F3.binds (ps:=["hand"]) λ_ _ _ _ _ _ us hl=>match us,hl with|[_],_=>rfl
 have F4:=dX (st:=kC) l4 c4 k4;have b4:=F4.binds (ps:=["points","count"]) λ_ _ _ _ _ _ us hl=>match us,hl with|[_,_],_=>rfl
 have F5:=dX (st:=gI) l5 c5 k5;have b5:=F5.binds (ps:=["field","mine","yours"]) λ_ _ _ _ _ _ us hl=>match us,hl with|[_,_,_],_=>rfl
 have F6:=dX (st:=lM) l6 c6 k6;have b6:=F6.binds (ps:=["mine","yours","whose","claim"]) λ_ _ _ _ _ _ us hl=>match us,hl with|[_,_,_,_],_=>rfl
 have F7:=dX (st:=iU) l7 c7 k7;have b7:=F7.binds (ps:=["line","mine"]) λ_ _ _ _ _ _ us hl=>match us,hl with|[_,_],_=>rfl
 have F8:=dX (st:=gJ) l8 c8 k8;have b8:=F8.binds (ps:=["line","lines"]) λ_ _ _ _ _ _ us hl=>match us,hl with|[_,_],_=>rfl
 have F9:=dX (st:=lN) l9 c9 k9;have b9:=F9.binds (ps:=["points","lines"]) λ_ _ _ _ _ _ us hl=>match us,hl with|[_,_],_=>rfl
 have Yz:=dX (st:=fL) l10 c10 k10;have b10:=Yz.binds (ps:=["lines"]) λ_ _ _ _ _ _ us hl=>match us,hl with|[_],_=>rfl
 have YA:=dX (st:=g9) l11 c11 k11;have b11:=YA.binds (ps:=["lines","mine","yours"]) λ_ _ _ _ _ _ us hl=>match us,hl with|[_,_,_],_=>rfl
 have YB:=dX (st:=gf) l12 c12 k12;have b12:=YB.binds (ps:=["self","lines","whose"]) λ_ _ _ _ _ _ us hl=>match us,hl with|[_,_,_],_=>rfl
 have YC:=dX (st:=jA) l13 c13 k13;have YD:=YC.binds (ps:=["self","lines","whose"]) λ_ _ _ _ _ _ us hl=>match us,hl with|[_,_,_],_=>rfl
 have YE:=dX (st:=iW) l14 c14 k14;have YF:=YE.binds (ps:=["self","lines","whose"]) λ_ _ _ _ _ _ us hl=>match us,hl with|[_,_,_],_=>rfl
 have YG:=dX (st:=iX) l15 c15 k15;have b15:=YG.binds (ps:=["self","mine","yours","whose"]) λ_ _ _ _ _ _ us hl=>match us,hl with|[_,_,_,_],_=>rfl
 have YH:=dX (st:=gK) l16 c16 k16;have b16:=YH.binds (ps:=["game","mine","yours","whose"]) λ_ _ _ _ _ _ us hl=>match us,hl with|[_,_,_,_],_=>rfl
 have YI:=dX (st:=lO) l17 c17 k17;have b17:=YI.binds (ps:=["game"]) λ_ _ _ _ _ _ us hl=>match us,hl with|[_],_=>rfl
 have YJ:=dX (st:=hJ) l18 c18 k18;have b18:=YJ.binds (ps:=["field","point"]) λ_ _ _ _ _ _ us hl=>match us,hl with|[_,_],_=>rfl
 have YK:=dX (st:=n6) l19 c19 k19;have b19:=YK.binds (ps:=["base","times"]) λ_ _ _ _ _ _ us hl=>match us,hl with|[_,_],_=>rfl
 have YL:=dX (st:=qM) l20 c20 k20;have b20:=YL.binds (ps:=["field","guards"]) λ_ _ _ _ _ _ us hl=>match us,hl with|[_,_],_=>rfl
 have YM:=dX (st:=lP) l21 c21 k21;have b21:=YM.binds (ps:=["field","guards","mine","yours","lines"]) λ_ _ _ _ _ _ us hl=>match us,hl with|[_,_,_,_,_],_=>rfl
 have YN:=dX (st:=fi) l22 c22 k22;have b22:=YN.binds (ps:=["one","other"]) λ_ _ _ _ _ _ us hl=>match us,hl with|[_,_],_=>rfl
 have YO:=dX (st:=jB) l23 c23 k23;have b23:=YO.binds (ps:=["upper","lower"]) λ_ _ _ _ _ _ us hl=>match us,hl with|[_,_],_=>rfl
 have YQ:=dX (st:=lQ) l24 c24 k24;have b24:=YQ.binds (ps:=["field","guards","mine","yours"]) λ_ _ _ _ _ _ us hl=>match us,hl with|[_,_,_,_],_=>rfl
 have YR:=dX (st:=fj) l25 c25 k25;have b25:=YR.binds (ps:=["field","guards","mine","yours","free"]) λ_ _ _ _ _ _ us hl=>match us,hl with|[_,_,_,_,_],_=>rfl
 have YS:=dX (st:=jC) l26 c26 k26;have b26:=YS.binds (ps:=["field","guards","mine","yours"]) λ_ _ _ _ _ _ us hl=>match us,hl with|[_,_,_,_],_=>rfl
 have YT:=dX (st:=gg) l27 c27 k27;have b27:=YT.binds (ps:=["pair"]) λ_ _ _ _ _ _ us hl=>match us,hl with|[_],_=>rfl
 have YU:=dX (st:=kD) l28 c28 k28;have b28:=YU.binds (ps:=["game"]) λ_ _ _ _ _ _ us hl=>match us,hl with|[_],_=>rfl
 have YV:=dX (st:=jD) l29 c29 k29;have b29:=YV.binds (ps:=["_law_cell_here","_law_prime","_law_many"]) λ_ _ _ _ _ _ us hl=>match us,hl with|[_,_,_],_=>rfl
 have YW:=dX (st:=hO) l30 c30 k30;have b30:=YW.binds (ps:=["_law_cell_here","_law_least","_law_most","_law_lines"]) λ_ _ _ _ _ _ us hl=>match us,hl with|[_,_,_,_],_=>rfl
 have YX:=dX (st:=iY) l31 c31 k31;have b31:=YX.binds (ps:=["_law_game_here","_law_mine","_law_yours"]) λ_ _ _ _ _ _ us hl=>match us,hl with|[_,_,_],_=>rfl
 have YY:=dX (st:=iZ) l32 c32 k32;have YZ:=YY.binds (ps:=["_law_game_here","_law_mine","_law_yours","_law_whose"]) λ_ _ _ _ _ _ us hl=>match us,hl with|[_,_,_,_],_=>rfl
 have F33:=dX (st:=oU) l33 c33 k33;have M0:Bt mg:=⟨bE X G z0,bE X G z1,bE X G z2,bE X G z3,bE X G z4,bE X G z5,bE X G z6,bE X G z7,bE X G z8,bE X G z9,bE X G z10,⟨_,aO X G y0⟩,⟨_,aO X G y1⟩⟩;refine⟨W.fnOf "law" "law" (dD oU) (dh oU) (cK oU) .none Wz WA WC WE Tr WG,λs v=>.of_eq rfl,λbase _ _=>?_⟩
 have Z:mf K (dw Cs):=⟨⟨pgC,hdC,poC,saC⟩,nGC,nKC⟩;have FI:=dX (st:=jE) lI cI kI;have bI:=FI.binds (ps:=["self","game"]) λ_ _ _ _ _ _ us hl=>match us,hl with|[_,_],_=>rfl
 have K9:uv l.prog w K mg base 1 (dw Cs) "Search":=⟨_,_,_,CG FI Z,⟨mkC,aI,iI,kcC⟩,aO X G aC,bI,(show Str.ofString "known"≠Str.ofString "game" by decide +kernel)⟩
 obtain⟨⟨ctq,Ptq⟩,Y0⟩:=Option.isSome_iff_exists.mp tq;have hcq:=Kf a10 l10 Y0;have C0:hV l.prog w K mg base 1 "has_all" nW:=⟨_,_,_,Eu F0 M0,aO X G a0,k0,b0⟩;have C1:hV l.prog w K mg base 1 "has_some" fT:=⟨_,_,_,Cu F1 M0,aO X G a1,k1,b1⟩;have C2:hV l.prog w K mg base 1 "at_a_time" dZ:=⟨_,_,_,AO F2 M0,aO X G a2,k2,b2⟩;have C3:hV l.prog w K mg base 1 "other_hand" gm:=⟨_,_,_,yp F3 M0,aO X G a3,k3,b3⟩;have CR:∀n:Nat,(hV l.prog w K mg base (1+n) "choices" (fc n)):=by
  intro n;induction n with
  |zero=>exact⟨_,_,_,E6,aO X G a4,k4,b4⟩
  |succ n ih=>
   exact⟨_,_,_,(Ew (n:=1+n) F4 M0 (hV.mono ih (by omega))).mono (by omega),aO X G a4,k4,b4⟩
 have C4:=(CR 5);clear CR;have C5:hV l.prog w K mg base 1 "free_points" gZ:=⟨_,_,_,xB F5 M0,aO X G a5,k5,b5⟩;have C6:hV l.prog w K mg base 1 "behind" qc:=⟨_,_,_,Hy F6 M0,aO X G a6,k6,b6⟩;have C7:hV l.prog w K mg base 1 "free_part" fF:=⟨_,_,_,AQ F7 M0,aO X G a7,k7,b7⟩;have C8:hV l.prog w K mg base 2 "has_another" ji:=⟨_,_,_,xC F8 M0 (C0.mono (by decide)),aO X G a8,k8,b8⟩
 have C9:hV l.prog w K mg base 2 "spoils" qd:=⟨_,_,_,HA F9 M0 (C1.mono (by decide)),aO X G a9,k9,b9⟩
 have C10:hV l.prog w K mg base 1 "points_by_use" gc:=⟨_,_,_,uJ Yz M0 Y0 hcq,aO X G a10,k10,b10⟩;have Y1:hV l.prog w K mg base 3 "open_lines" eV:=⟨_,_,_,yq YA M0 (C7.mono (by decide)) (C8.mono (by decide)) (C1.mono (by decide)),aO X G a11,k11,b11⟩
 have C12:lB l.prog w K mg base 7 (dw Cs) "worth_trying" gE:=⟨_,_,_,vt YB M0 Z (C2.mono (by decide)) (C4.mono (by decide)) (C10.mono (by decide)) (C9.mono (by decide)),⟨a12,i12,k12⟩,b12,(show Str.ofString "worth_trying"≠Str.ofString "game" by decide +kernel),(show Str.ofString "worth_trying"≠Str.ofString "known" by decide +kernel)⟩
 have CR:∀n:Nat,(lB l.prog w K mg base (8+n) (dw Cs) "searched" (mG n))/\(lB l.prog w K mg base (8+n) (dw Cs) "winner_of" (gO n)):=by
  intro n;induction n with
  |zero=>exact⟨⟨_,_,_,Bu,⟨a13,i13,k13⟩,YD,(show Str.ofString "searched"≠Str.ofString "game" by decide +kernel),(show Str.ofString "searched"≠Str.ofString "known" by decide +kernel)⟩,⟨_,_,_,Bu,⟨a14,i14,k14⟩,YF,(show Str.ofString "winner_of"≠Str.ofString "game" by decide +kernel),(show Str.ofString "winner_of"≠Str.ofString "known" by decide +kernel)⟩⟩
  |succ n ih=>
   exact⟨⟨_,_,_,(Cv (n:=1+n) YC M0 Z (C2.mono (by omega)) (C6.mono (by omega)) (Y1.mono (by omega)) (C3.mono (by omega)) (lB.mono ih.2 (by omega)) (C12.mono (by omega))).mono (by omega),⟨a13,i13,k13⟩,YD,(show Str.ofString "searched"≠Str.ofString "game" by decide +kernel),(show Str.ofString "searched"≠Str.ofString "known" by decide +kernel)⟩,⟨_,_,_,(AR (n:=1+n) YE M0 Z (lB.mono ih.1 (by omega))).mono (by omega),⟨a14,i14,k14⟩,YF,(show Str.ofString "winner_of"≠Str.ofString "game" by decide +kernel),(show Str.ofString "winner_of"≠Str.ofString "known" by decide +kernel)⟩⟩
 have C13:=(CR 24).1;have C14:=(CR 24).2;clear CR;have C15:lB l.prog w K mg base 33 (dw Cs) "winner_at" mY:=⟨_,_,_,AS YG M0 Z (Y1.mono (by decide)) (C14.mono (by decide)),⟨a15,i15,k15⟩,b15,(show Str.ofString "winner_at"≠Str.ofString "game" by decide +kernel),(show Str.ofString "winner_at"≠Str.ofString "known" by decide +kernel)⟩
 have C16:hV l.prog w K mg base 34 "winner_from" g7:=⟨_,_,_,xE YH M0 Z (K9.mono (by decide)) (C15.mono (by decide)),aO X G a16,k16,b16⟩
 have C17:hV l.prog w K mg base 35 "winner" nY:=⟨_,_,_,HB YI M0 (C16.mono (by decide)),aO X G a17,k17,b17⟩
 have C18:hV l.prog w K mg base 1 "lines_with" gQ:=⟨_,_,_,yu YJ M0,aO X G a18,k18,b18⟩;have Y2:hV l.prog w K mg base 1 "power" oO:=⟨_,_,_,K6 YK M0,aO X G a19,k19,b19⟩;have C20:hV l.prog w K mg base 2 "unit" xp:=⟨_,_,_,M9 YL M0 (Y2.mono (by decide)),aO X G a20,k20,b20⟩
 have Y3:hV l.prog w K mg base 2 "weight" j5:=⟨_,_,_,HC YM M0 (C7.mono (by decide)) (C1.mono (by decide)) (Y2.mono (by decide)),aO X G a21,k21,b21⟩
 have C22:hV l.prog w K mg base 1 "common_divisor" gG:=⟨_,_,_,t4 YN M0,aO X G a22,k22,b22⟩;have C23:hV l.prog w K mg base 2 "fraction" mL:=⟨_,_,_,Cy YO M0 (C22.mono (by decide)),aO X G a23,k23,b23⟩
 have C24:hV l.prog w K mg base 3 "danger" nZ:=⟨_,_,_,HD YQ M0 (C23.mono (by decide)) (C20.mono (by decide)) (Y3.mono (by decide)),aO X G a24,k24,b24⟩
 have C25:hV l.prog w K mg base 3 "heaviest_point" eR:=⟨_,_,_,t5 YR M0 (C18.mono (by decide)) (Y3.mono (by decide)),aO X G a25,k25,b25⟩
 have C26:hV l.prog w K mg base 4 "heaviest" mM:=⟨_,_,_,Cz YS M0 (C5.mono (by decide)) (C25.mono (by decide)),aO X G a26,k26,b26⟩
 have C27:hV l.prog w K mg base 1 "is_below_one" gH:=⟨_,_,_,vw YT M0,aO X G a27,k27,b27⟩;have C28:hV l.prog w K mg base 4 "is_safe" n4:=⟨_,_,_,Ez YU M0 (C24.mono (by decide)) (C27.mono (by decide)),aO X G a28,k28,b28⟩
 have Y4:hV l.prog w K mg base 1 "_law_mix" dk:=⟨_,_,_,CB YV M0,aO X G a29,k29,b29⟩;have C30:hV l.prog w K mg base 2 "_law_field" dq:=⟨_,_,_,yv YW M0 (Y4.mono (by decide)),aO X G a30,k30,b30⟩
 have C31:hV l.prog w K mg base 1 "_law_over" kX:=⟨_,_,_,AW YX M0,aO X G a31,k31,b31⟩;have CR:∀n:Nat,(hV l.prog w K mg base (5+n) "_law_safe" (eD n)):=by
  intro n;induction n with
  |zero=>exact⟨_,_,_,E6,aO X G a32,k32,YZ⟩
  |succ n ih=>
   exact⟨_,_,_,(AX (n:=1+n) YY M0 (C31.mono (by omega)) (hV.mono ih (by omega)) (C26.mono (by omega))).mono (by omega),aO X G a32,k32,YZ⟩
 have C32:=(CR 9);clear CR;exact(QE F33 M0 (C30.mono (by decide)) (Y4.mono (by decide)) (C32.mono (by decide)) (C28.mono (by decide)) (C17.mono (by decide))).mono (by decide)
end K8
noncomputable def K8.view:PySem.Program:={PySem.Challenge.pw_fieldclaim_k08_whole_safe_by_weights with main:={PySem.Challenge.pw_fieldclaim_k08_whole_safe_by_weights.main with body:=[K8.top 0,K8.top 2,K8.top 3,K8.top 4,K8.top 5,K8.top 6,K8.top 7,K8.top 8,K8.top 9,K8.top 10,K8.top 12,K8.top 13,K8.top 14,K8.top 15,K8.top 16,K8.top 17,K8.top 18,K8.top 19,K8.top 21,K8.top 22,K8.top 23,K8.top 24,K8.top 25,K8.top 26,K8.top 27,K8.top 28,K8.top 29,K8.top 30,K8.top 31,K8.top 33,K8.top 34,K8.top 35,K8.top 36,K8.top 37,K8.top 38,K8.top 39,K8.top 40,K8.top 41,K8.top 42]}}
open PySem PySem.W PyProof.Rows
local macro_rules|`(tactic|o_head $H)=>do let hl:=Lean.mkIdent `hl;let hw:=Lean.mkIdent `hw;let hc:=Lean.mkIdent `hc;`(tactic|(refine holds_open (q:=K8.view) (loose:=[]) (Xt:=λs=>xlAt K8.view [] s&&recOk (RowW.records (OpenRow.toRowW (OpenLaw.row PySem.Challenge.rw_fieldclaim_k08_whole_safe_by_weights))) s) (XP:=XL K8.view []) (Yf:=Hook.obs $H) (Ya:=Hook.val $H) (YP:=Hook.says $H) (N:=3078) ?$hl (Hook.of $H) (Hook.keeps $H) (λs e=>xl_of s (Bool.and_eq_true_iff.mp e).1) XL.keeps (by rfl) (by rfl) (by rfl) (λs e=>recFacts_of (Bool.and_eq_true_iff.mp e).2) (by rfl) (by first|assumption|decide +kernel) (by decide +kernel) ⟨rfl,rfl,rfl,rfl,rfl,by decide +kernel⟩ ?$hw ?$hc;(case $hl:ident=>intro w;kernel_rfl)))
set_option maxRecDepth 100000 in
set_option maxHeartbeats 0 in
theorem PySem.Challenge.cw_fieldclaim_k08_whole_safe_by_weights_holds : PySem.Challenge.rw_fieldclaim_k08_whole_safe_by_weights.Holds := by
 w_on;o_law;k_head;(case hw=>w_witness2)
 k_fill
 refine DL.Sm (l:=PySem.Challenge.rw_fieldclaim_k08_whole_safe_by_weights) (x:="_law_script") (g:=K8.FL) rfl rfl (λw h Y=>by first|exact PySem.W.kIn_of Y|exact PySem.W.km_in_of Y) K8.M7 ?R ?F
 case R=>intro t ht;simp only[L2.va,bt]at ht;subst ht;kernel_rfl
 case F=>
  intro w mg fa h KX G RM;refine⟨?z,?t,?r⟩
  case z=>kernel_rfl
  case t=>kernel_rfl
  case r=>
   refine' K8.all_mk KX G RM ?aC ?pgC ?hdC ?poC ?saC ?mkC ?kcC ?nGC ?nKC ?aI ?iI ?lI ?cI ?kI ?a0 ?l0 ?c0 ?k0 ?a1 ?l1 ?c1 ?k1 ?a2 ?l2 ?c2 ?k2 ?a3 ?l3 ?c3 ?k3 ?a4 ?l4 ?c4 ?k4 ?a5 ?l5 ?c5 ?k5 ?a6 ?l6 ?c6 ?k6 ?a7 ?l7 ?c7 ?k7 ?a8 ?l8 ?c8 ?k8 ?a9 ?l9 ?c9 ?k9 ?a10 ?l10 ?c10 ?k10 ?a11 ?l11 ?c11 ?k11 ?a12 ?i12 ?l12 ?c12 ?k12 ?a13 ?i13 ?l13 ?c13 ?k13 ?a14 ?i14 ?l14 ?c14 ?k14 ?a15 ?i15 ?l15 ?c15 ?k15 ?a16 ?l16 ?c16 ?k16 ?a17 ?l17 ?c17 ?k17 ?a18 ?l18 ?c18 ?k18 ?a19 ?l19 ?c19 ?k19 ?a20 ?l20 ?c20 ?k20 ?a21 ?l21 ?c21 ?k21 ?a22 ?l22 ?c22 ?k22 ?a23 ?l23 ?c23 ?k23 ?a24 ?l24 ?c24 ?k24 ?a25 ?l25 ?c25 ?k25 ?a26 ?l26 ?c26 ?k26 ?a27 ?l27 ?c27 ?k27 ?a28 ?l28 ?c28 ?k28 ?a29 ?l29 ?c29 ?k29 ?a30 ?l30 ?c30 ?k30 ?a31 ?l31 ?c31 ?k31 ?a32 ?l32 ?c32 ?k32 ?a33 ?l33 ?c33 ?k33 ?z0 ?z1 ?z2 ?z3 ?z4 ?z5 ?z6 ?z7 ?z8 ?z9 ?z10 ?y0 ?y1 ?tq
   (case aC=>k_is)
   (case pgC=>k_is)
   (case hdC=>k_is)
   (case poC=>k_is)
   (case saC=>k_is)
   (case mkC=>k_is)
   (case kcC=>k_is)
   (case nGC=>k_is)
   (case nKC=>k_is)
   (case aI=>k_is)
   (case iI=>k_is)
   (case lI=>k_is)
   (case cI=>k_is)
   (case kI=>k_is)
   (case tq=>kernel_rfl)
   (case a0=>k_is);(case l0=>k_is);(case c0=>k_is);(case k0=>k_is)
   (case a1=>k_is);(case l1=>k_is);(case c1=>k_is);(case k1=>k_is)
   (case a2=>k_is);(case l2=>k_is);(case c2=>k_is);(case k2=>k_is)
   (case a3=>k_is);(case l3=>k_is);(case c3=>k_is);(case k3=>k_is)
   (case a4=>k_is);(case l4=>k_is);(case c4=>k_is);(case k4=>k_is)
   (case a5=>k_is);(case l5=>k_is);(case c5=>k_is);(case k5=>k_is)
   (case a6=>k_is);(case l6=>k_is);(case c6=>k_is);(case k6=>k_is)
   (case a7=>k_is);(case l7=>k_is);(case c7=>k_is);(case k7=>k_is)
   (case a8=>k_is);(case l8=>k_is);(case c8=>k_is);(case k8=>k_is)
   (case a9=>k_is);(case l9=>k_is);(case c9=>k_is);(case k9=>k_is)
   (case a10=>k_is);(case l10=>k_is);(case c10=>k_is);(case k10=>k_is)
   (case a11=>k_is);(case l11=>k_is);(case c11=>k_is);(case k11=>k_is)
   (case a12=>k_is);(case i12=>k_is);(case l12=>k_is);(case c12=>k_is);(case k12=>k_is)
   (case a13=>k_is);(case i13=>k_is);(case l13=>k_is);(case c13=>k_is);(case k13=>k_is)
   (case a14=>k_is);(case i14=>k_is);(case l14=>k_is);(case c14=>k_is);(case k14=>k_is)
   (case a15=>k_is);(case i15=>k_is);(case l15=>k_is);(case c15=>k_is);(case k15=>k_is)
   (case a16=>k_is);(case l16=>k_is);(case c16=>k_is);(case k16=>k_is)
   (case a17=>k_is);(case l17=>k_is);(case c17=>k_is);(case k17=>k_is)
   (case a18=>k_is);(case l18=>k_is);(case c18=>k_is);(case k18=>k_is)
   (case a19=>k_is);(case l19=>k_is);(case c19=>k_is);(case k19=>k_is)
   (case a20=>k_is);(case l20=>k_is);(case c20=>k_is);(case k20=>k_is)
   (case a21=>k_is);(case l21=>k_is);(case c21=>k_is);(case k21=>k_is)
   (case a22=>k_is);(case l22=>k_is);(case c22=>k_is);(case k22=>k_is)
   (case a23=>k_is);(case l23=>k_is);(case c23=>k_is);(case k23=>k_is)
   (case a24=>k_is);(case l24=>k_is);(case c24=>k_is);(case k24=>k_is)
   (case a25=>k_is);(case l25=>k_is);(case c25=>k_is);(case k25=>k_is)
   (case a26=>k_is);(case l26=>k_is);(case c26=>k_is);(case k26=>k_is)
   (case a27=>k_is);(case l27=>k_is);(case c27=>k_is);(case k27=>k_is)
   (case a28=>k_is);(case l28=>k_is);(case c28=>k_is);(case k28=>k_is)
   (case a29=>k_is);(case l29=>k_is);(case c29=>k_is);(case k29=>k_is)
   (case a30=>k_is);(case l30=>k_is);(case c30=>k_is);(case k30=>k_is)
   (case a31=>k_is);(case l31=>k_is);(case c31=>k_is);(case k31=>k_is)
   (case a32=>k_is);(case l32=>k_is);(case c32=>k_is);(case k32=>k_is)
   (case a33=>k_is);(case l33=>k_is);(case c33=>k_is);(case k33=>k_is)
   (case z0=>k_is)
   (case z1=>k_is)
   (case z2=>k_is)
   (case z3=>k_is)
   (case z4=>k_is)
   (case z5=>k_is)
   (case z6=>k_is)
   (case z7=>k_is)
   (case z8=>k_is)
   (case z9=>k_is)
   (case z10=>k_is)
   (case y0=>k_is)
   (case y1=>k_is)
