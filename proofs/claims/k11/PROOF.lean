import PyProof.Rows.All
import Wide.All
import OpenK.AllK
import Wide.FinOn
import Lean
import PyProof.EqAt
import PyProof.EqKinds
import PyProof.TupleCall
import KE.KSortTup
import KE.KLam
import KE.KTryMore
import PyProof.NsDelKeeps
import PyProof.RulesAs
import PyProof.Rows.SumAny
import PySem.SetTable
import KE.KDictList
import PySem.Challenge.RW_fieldclaim_k11_whole_fields_beside_one_a
set_option Elab.async false
set_option linter.all false
set_option maxRecDepth 100000
set_option maxHeartbeats 4000000
theorem aa:type_of% @PySem.wpAny_bind:=@PySem.wpAny_bind
theorem ae.{ig,Ei}:type_of% @List.length_map.{ig,Ei}:=@List.length_map
theorem af.{ig}:type_of% @List.mem_cons_self.{ig}:=@List.mem_cons_self
theorem ag:type_of% @PySem.Heap.get?_push_of_some:=@PySem.Heap.get?_push_of_some
theorem ah.{ig}:type_of% @List.getElem?_eq_getElem.{ig}:=@List.getElem?_eq_getElem
theorem ai.{ig}:type_of% @List.mem_cons_of_mem.{ig}:=@List.mem_cons_of_mem
theorem aj:type_of% @PySem.wpAny_pure:=@PySem.wpAny_pure
theorem ak.{ig}:type_of% @List.getD_eq_getElem?_getD.{ig}:=@List.getD_eq_getElem?_getD
theorem ao.{ig,Ei}:type_of% @Option.bind_some.{ig,Ei}:=@Option.bind_some
theorem aq.{u}:type_of% @List.size_toArray.{u}:=@List.size_toArray
theorem au:type_of% @Nat.le_refl:=@Nat.le_refl
theorem av.{ig,Ei}:type_of% @List.getElem?_map.{ig,Ei}:=@List.getElem?_map
theorem aw:type_of% @Nat.lt_of_lt_of_le:=@Nat.lt_of_lt_of_le
theorem ax.{u}:type_of% @List.length_cons.{u}:=@List.length_cons
theorem ay:type_of% @PySem.Heap.get?_push_size:=@PySem.Heap.get?_push_size
theorem az:type_of% @PySem.Heap.lt_size:=@PySem.Heap.lt_size
theorem aB:type_of% @Nat.le_trans:=@Nat.le_trans
theorem aD:type_of% @Nat.ne_of_lt:=@Nat.ne_of_lt
theorem aE.{u,v}:type_of% @List.map_cons.{u,v}:=@List.map_cons
theorem aF.{ig}:type_of% @List.getElem?_set_ne.{ig}:=@List.getElem?_set_ne
theorem aG:type_of% @decide_eq_false:=@decide_eq_false
theorem aH:type_of% @Bool.false_eq_true:=@Bool.false_eq_true
theorem aJ.{ig}:type_of% @List.getElem?_append_left.{ig}:=@List.getElem?_append_left
theorem aK.{ig}:type_of% @List.getElem?_cons_succ.{ig}:=@List.getElem?_cons_succ
theorem aL.{u}:type_of% @List.mem_append_right.{u}:=@List.mem_append_right
theorem aM.{ig}:type_of% @List.getElem?_cons_zero.{ig}:=@List.getElem?_cons_zero
theorem aN.{ig}:type_of% @Array.length_toList.{ig}:=@Array.length_toList
theorem aO:type_of% @PySem.W.mg_of:=@PySem.W.mg_of
theorem aP.{ig}:type_of% @List.getElem?_append_right.{ig}:=@List.getElem?_append_right
theorem aQ.{u}:type_of% @List.length_append.{u}:=@List.length_append
theorem aR:type_of% @decide_eq_true:=@decide_eq_true
theorem aS.{u}:type_of% @Option.some.inj.{u}:=@Option.some.inj
theorem aT.{ig}:type_of% @Array.getD_eq_getD_getElem?.{ig}:=@Array.getD_eq_getD_getElem?
theorem aU.{ig}:type_of% @Array.getElem?_eq_getElem.{ig}:=@Array.getElem?_eq_getElem
theorem aV.{ig,Ei,T7}:type_of% @List.map_map.{ig,Ei,T7}:=@List.map_map
theorem aW.{ig}:type_of% @List.length_filter_le.{ig}:=@List.length_filter_le
theorem aZ:type_of% @Bool.false_ne_true:=@Bool.false_ne_true
theorem bc.{ig}:type_of% @List.getElem?_set_self.{ig}:=@List.getElem?_set_self
theorem bf.{ig}:type_of% @List.getElem?_replicate.{ig}:=@List.getElem?_replicate
theorem bg:type_of% @Nat.le_of_lt:=@Nat.le_of_lt
theorem bh.{ig}:type_of% @List.mem_of_getElem?.{ig}:=@List.mem_of_getElem?
theorem bo:type_of% @PySem.wpAny_holding:=@PySem.wpAny_holding
theorem bp.{ig}:type_of% @List.getElem?_of_mem.{ig}:=@List.getElem?_of_mem
theorem bq.{u,ig}:type_of% @List.lookup_cons.{u,ig}:=@List.lookup_cons
theorem bu.{ig}:type_of% @List.mem_singleton.{ig}:=@List.mem_singleton
theorem bw:type_of% @PySem.sizeLine_eq:=@PySem.sizeLine_eq
theorem bx:type_of% @Nat.ne_of_gt:=@Nat.ne_of_gt
theorem bz:type_of% @PySem.Heap.get?_update_other:=@PySem.Heap.get?_update_other
theorem bA:type_of% @PySem.PassesOwn.never:=@PySem.PassesOwn.never
theorem bB.{ig,Ei}:type_of% @Option.map_some.{ig,Ei}:=@Option.map_some
theorem bC.{u}:type_of% @List.append_nil.{u}:=@List.append_nil
theorem bD.{u}:type_of% @List.mem_append_left.{u}:=@List.mem_append_left
theorem bE.{ig}:type_of% @if_false.{ig}:=@if_false
theorem bF:type_of% @PySem.W.mg_none_of:=@PySem.W.mg_none_of
theorem bG.{ig}:type_of% @List.any_cons.{ig}:=@List.any_cons
theorem bH:type_of% @Nat.lt_trans:=@Nat.lt_trans
theorem bJ.{ig}:type_of% @List.not_mem_nil.{ig}:=@List.not_mem_nil
theorem bK.{ig}:type_of% @List.length_take.{ig}:=@List.length_take
theorem bL:type_of% @of_decide_eq_true:=@of_decide_eq_true
theorem bM:type_of% @Nat.zero_le:=@Nat.zero_le
theorem bN:type_of% @PySem.wpAny_call_entry:=@PySem.wpAny_call_entry
theorem bO.{ig}:type_of% @beq_self_eq_true.{ig}:=@beq_self_eq_true
theorem bP.{ig}:type_of% @List.any_eq_true.{ig}:=@List.any_eq_true
theorem bQ:type_of% @PySem.wpAny_mono:=@PySem.wpAny_mono
theorem bR:type_of% @PySem.wpAny_truthy_bool:=@PySem.wpAny_truthy_bool
theorem bS:type_of% @PySem.wpAny_newObj_type:=@PySem.wpAny_newObj_type
theorem bT.{ig,Ei}:type_of% @List.map_congr_left.{ig,Ei}:=@List.map_congr_left
theorem bU:type_of% @Bool.not_true:=@Bool.not_true
theorem bV:type_of% @Classical.byContradiction:=@Classical.byContradiction
theorem bX.{ig}:type_of% @List.Nodup.length_le_of_subset.{ig}:=@List.Nodup.length_le_of_subset
theorem bY:type_of% @PySem.Around.under_plainId:=@PySem.Around.under_plainId
abbrev cn:=List (List Int)
abbrev cp:=List Int
abbrev cj:=PySem.Value->PySem.Shared->Prop
abbrev ck:=PySem.Str->Option PySem.Value
abbrev cm:=List (PySem.Addr×PySem.Obj)
abbrev cq:=Option PySem.Addr
abbrev cu:=Array (Option PySem.Value)
abbrev cw:=List PySem.Value
abbrev cx:=PySem.Value
abbrev cy:=PySem.Shared
abbrev cz:=PySem.FuncData
abbrev cA:=PySem.Program
abbrev cB:=PySem.World
abbrev cC:=PySem.Around
abbrev cD:=PySem.SetTable
abbrev cE:=PySem.Addr
abbrev cF:=PySem.Expr
abbrev cG:=PySem.Stmt
namespace L2
open PySem
noncomputable def rO:List (Str×Pos×Str):=[(Str.ofString "points_by_use",⟨86,34,86,69⟩,Str.ofString "points_by_use.<locals>.<lambda>")]
end L2
namespace L2
open PySem PySem.Spec PyProof.Rows
noncomputable abbrev Key:=Sum Int Str
noncomputable def vp:Key->cx->Bool
 |.inl k,v=>Value.isInt k v
 |.inr x,v=>Value.isStrOf x v
noncomputable def PV (w:cB):Key->Int
 |.inl k=>hashInt k
 |.inr x=>hashStr w x
theorem fB:∀{k:Key}{v:cx},vp k v=true->(∃i t,k=Sum.inl i/\v=Value.int i t)\/(∃x t,k=Sum.inr x/\v=Value.str x t)
 |.inl i,v,h=>by
  obtain⟨t,e⟩:=Value.isInt_shape (k:=i) (v:=v) h;exact .inl ⟨i,t,rfl,e⟩
 |.inr x,v,h=>by
  obtain⟨t,e⟩:=Value.isStrOf_shape (x:=x) (v:=v) h;exact .inr ⟨x,t,rfl,e⟩
theorem Cv (i:Int) (t:Tok):vp (.inl i) (.int i t)=true:=by simp[vp,Value.isInt]
theorem Cw (x:Str) (t:Tok):vp (.inr x) (.str x t)=true:=by simp[vp,Value.isStrOf]
theorem Kf (a b:Int):decide ((Sum.inl a:Key)=Sum.inl b)=(a==b):=by
 by_cases e:a=b
 ·subst e;simp
 ·have h:¬ (Sum.inl a:Key)=Sum.inl b:=λq=>e (Sum.inl.inj q)
  rw[aG h];exact(beq_eq_false_iff_ne.mpr e).symm
theorem Kg (a b:Str):decide ((Sum.inr a:Key)=Sum.inr b)=decide (a=b):=by
 by_cases e:a=b
 ·subst e;simp
 ·have h:¬ (Sum.inr a:Key)=Sum.inr b:=λq=>e (Sum.inr.inj q)
  rw[aG h,aG e]
theorem Kh (a:Int) (b:Str):decide ((Sum.inl a:Key)=Sum.inr b)=false:=aG (λq=>nomatch q)
theorem Ki (a:Str) (b:Int):decide ((Sum.inr a:Key)=Sum.inl b)=false:=aG (λq=>nomatch q)
noncomputable def eG (prog:cA) (w:cB):PySem.KeyKind prog w Key where
 is:=vp
 hash:=PV w
 inj:=λv a b ha hb=>by
  rcases fB ha with⟨i,t,rfl,rfl⟩|⟨x,t,rfl,rfl⟩
  ·rcases fB hb with⟨j,u,rfl,e⟩|⟨y,u,rfl,e⟩
   ·injection e with e1 _;rw[e1]
   ·exact nomatch e
  ·rcases fB hb with⟨j,u,rfl,e⟩|⟨y,u,rfl,e⟩
   ·exact nomatch e
   ·injection e with e1 _;rw[e1]
 byValue:=λk v h=>by
  rcases fB h with⟨i,t,rfl,rfl⟩|⟨x,t,rfl,rfl⟩<;>rfl
 pyHash:=λhv h=>by
  rcases fB hv with⟨i,t,rfl,rfl⟩|⟨x,t,rfl,rfl⟩
  ·exact wpAny_pyHash_int h
  ·exact wpAny_pyHash_str h
 eqBool:=λhu hv h=>by
  rcases fB hu with⟨i,t,rfl,rfl⟩|⟨x,t,rfl,rfl⟩
  ·rcases fB hv with⟨j,u,rfl,rfl⟩|⟨y,u,rfl,rfl⟩
   ·rw[Kf]at h;exact wpAny_eqBool_int h
   ·rw[Kh]at h;exact SeqAt.EqAt.int_str i t y u _ _ _ _ h
  ·rcases fB hv with⟨j,u,rfl,rfl⟩|⟨y,u,rfl,rfl⟩
   ·rw[Ki]at h;exact SeqAt.EqAt.str_int x t j u _ _ _ _ h
   ·rw[Kg]at h;exact wpAny_eqBool_str h
 «strs»:=λk x t v h=>by
  rcases fB h with⟨i,u,rfl,e⟩|⟨y,u,rfl,e⟩
  ·exact nomatch e
  ·injection e with e1 _
   subst e1;cases v<;>rfl
theorem xR (prog:cA) (w:cB) (i:Int) (t:Tok):(eG prog w).is (.inl i) (.int i t)=true:=Cv i t
theorem xS (prog:cA) (w:cB) (x:Str) (t:Tok):(eG prog w).is (.inr x) (.str x t)=true:=Cw x t
end L2
namespace L2
open PySem PySem.Spec PyProof.Rows
inductive V where
 |fO|bl (b:Bool)|int (i:Int)|str (x:Str)|OU (b:Array UInt8)|OV (b:UInt64)|ref (a:cE)|ty (n:String)
 deriving DecidableEq
noncomputable def RelV:V->cx->Prop
 |.fO,u=>u=Value.none
 |.bl b,u=>u=Value.bool b
 |.int i,u=>∃t,u=Value.int i t
 |.str x,u=>∃t,u=Value.str x t
 |.OU b,u=>∃t,u=Value.bytes b t
 |.OV b,u=>∃t,u=Value.float b t
 |.ref a,u=>u=Value.ref a
 |.ty n,u=>u=Value.type n
noncomputable abbrev Vals:List V->cw->Prop:=Paired RelV
theorem Vals.length {xs:List V}{us:cw}(r:Vals xs us):xs.length=us.length:=Paired.length r
theorem Vals.get:∀{xs:List V}{us:cw}{i:Nat}{x:V},Vals xs us->xs[i]? =some x->∃u,us[i]? =some u/\RelV x u
 |_,_,_,_,.nil,e=>by simp at e
 |_,_,0,_,.cons r _,e=>by simp at e;subst e;exact⟨_,rfl,r⟩
 |_,_,i+1,x,.cons _ t,e=>by
  obtain⟨u,h1,h2⟩:=Vals.get (i:=i) (x:=x) t (by simpa using e)
  exact⟨u,by simpa using h1,h2⟩
theorem Vals.append:∀{xs ys:List V}{us ws:cw},Vals xs us->Vals ys ws->Vals (xs++ys) (us++ws)
 |_,_,_,_,.nil,s=>s
 |_,_,_,_,.cons r t,s=>.cons r (Vals.append t s)
theorem Vals.take:∀{xs:List V}{us:cw}(n:Nat),Vals xs us->Vals (xs.take n) (us.take n)
 |_,_,0,_=>.nil
 |_,_,_+1,.nil=>.nil
 |_,_,n+1,.cons r t=>.cons r (Vals.take n t)
theorem Vals.drop:∀{xs:List V}{us:cw}(n:Nat),Vals xs us->Vals (xs.drop n) (us.drop n)
 |_,_,0,r=>r
 |_,_,_+1,.nil=>.nil
 |_,_,n+1,.cons _ t=>Vals.drop n t
noncomputable def mT:Option V->Option cx->Prop
 |some v,some u=>RelV v u
 |none,none=>True
 |_,_=>False
noncomputable def KV {κ:Type}:List (κ×V)->List (κ×cx)->Prop:=Paired λ(p:κ×V) (q:κ×cx)=>p.1=q.1/\RelV p.2 q.2
noncomputable def kV:Key->V
 |.inl i=>.int i
 |.inr x=>.str x
inductive HO where
 |lst (xs:List V)
 |tup (xs:List V)
 |dK (kvs:List (Key×V))|dT (kvs:List (List Key×V))
 |set (S:Int->Bool) (n:Nat)
 |ins (C dx:cE) (fs:List (Str×V))
 |own (x:cE)
 |xd (fs:List (Str×V))
 |met (f x:cE)
 |Jt (lo hi:Int)
 |zy (o:Obj) (u:HO)
 |zF (ps:Array cx)
 |ext (φ:Heap->Prop)
noncomputable abbrev Hp:=cE->Option HO
noncomputable def upd (H:Hp) (a:cE) (o:HO):Hp:=λb=>if b=a then some o else H b
theorem cR {H:Hp}{a:cE}{o:HO}:upd H a o a=some o:=by unfold upd;rw[if_pos rfl]
theorem cK {H:Hp}{a b:cE}{o:HO}(h:b≠a):upd H a o b=H b:=by unfold upd;rw[if_neg h]
theorem MD {H:Hp}{a b:cE}{o u:HO}(h:H a=some o) (h':H b=some u) (d:o≠u):a≠b:=by
 intro e;subst e;rw[h]at h';exact d (aS h')
theorem cP {H:Hp}{a b:cE}{o:HO}(h:H a=some o) (h':H b=none):a≠b:=by
 intro e;subst e;rw[h]at h';cases h'
noncomputable def uP (pos:Pos) (qual:Str):Array cx:=#[.int pos.line 0,.int pos.col 0,.str qual 0]
def vq (H:Hp) (h:Heap) (a:cE) (ps:Array cx):Prop:=
 ∃qs:Array cx,h.get? a=some {cls:=.none,data:=.fields qs}/\TriplesOk qs.toList/\∃pos qual more,ps=uP pos qual++more/\
  (codeAmong pos qs.toList=none\/∃c oc vs t,codeAmong pos qs.toList=some (.ref c)/\H c=some (.zy oc (.own 0))/\oc.data=.fields vs/\vs[1]? =some (.str qual t))
def Cy (K:W.Frag) (mg:ck) (base:Heap) (H:Hp):Prop:=∀x c Pt pos qual,(x,pos,qual)∈rO->W.tabIn K x=some (c,Pt)->(∃more,H Pt=some (.zF (uP pos qual++more)))/\W.CodeHd base c Pt/\base.BuiltinsAt mg Pt
section
variable (P:cA) (w:cB)
noncomputable def gA (H:Hp) (h:Heap) (a:cE):HO->Prop
 |.lst xs=>xs.length<=sizeLine/\∃(di:cw) (n:Nat),Vals xs di/\h.get? a=some {cls:=.type "list",data:=.seq di.toArray n}
 |.tup xs=>xs.length<=sizeLine/\∃di:cw,Vals xs di/\IsTup h a di.toArray
 |.dK kvs=>kvs.length<=sizeLine/\(a==sysModules)=false/\∃vs,KV kvs vs/\h.DictOf (eG P w) a vs
 |.dT kvs=>kvs.length<=sizeLine/\(a==sysModules)=false/\∃xs:List (List Key×cE×cx),
   Paired (λ(p:List Key×V) (q:List Key×cE×cx)=>p.1=q.1/\H q.2.1=some (.tup (p.1.map kV))/\RelV p.2 q.2.2) kvs xs/\
   ∃o es ep,h.get? a=some o/\o.ExactDict/\o.data=.dict es ep/\es.toList=xs.map (entryOfKey (tupleKind (eG P w)))/\(xs.map (·.1)).Nodup
 |.set S n=>h.SetOf (intKind P w) a S n
 |.ins C dx fs=>H dx=some (.own a)/\fs.length<=1000/\dx≠a/\h.get? a=some (W.instObj C dx)/\
   ∃mA,h.Ns1 dx mA/\(∀f,mT (fs.lookup f) (mA f))/\PySem.Within mA (fs.map (·.1))
 |.own _=>∃o,h.get? a=some o
 |.xd fs=>∃mA,h.Ns1 a mA/\∀f,mT (fs.lookup f) (mA f)
 |.Jt lo hi=>∃t u v,h.get? a=some {cls:=.type "range",data:=.fields #[.int lo t,.int hi u,.int 1 v]}
 |.zy o u=>h.get? a=some o/\gA H h a u
 |.zF ps=>vq H h a ps
 |.met f x=>h.get? a=some (W.methodObj (.ref f) (.ref x))
 |.ext φ=>φ h/\(∃o,h.get? a=some o)/\∀h1 h2:Heap,φ h1->(∀o,h1.get? a=some o->h2.get? a=some o)->φ h2
def oC (H:Hp) (h:Heap):Prop:=∀a o,H a=some o->gA P w H h a o
end
section
variable {P:cA}{w:cB}{H H':Hp}{h h':Heap}{a:cE}{o:HO}
theorem gA.lt (x:gA P w H h a o):a<h.objs.size:=by
 cases o with
 |lst xs=>obtain⟨_,_,_,_,e⟩:=x;exact az e
 |tup xs=>obtain⟨_,_,_,p⟩:=x;exact p.lt
 |dK kvs=>obtain⟨_,_,_,_,o,_,_,e,_⟩:=x;exact az e
 |dT kvs=>obtain⟨_,_,_,_,o,_,_,e,_⟩:=x;exact az e
 |set S n=>obtain⟨o,_,_,_,e,_⟩:=x;exact az e
 |ins C dx fs=>obtain⟨_,_,_,e,_⟩:=x;exact az e
 |own y=>obtain⟨_,e⟩:=x;exact az e
 |xd fs=>obtain⟨_,⟨_,_,_,e,_⟩,_⟩:=x;exact az e
 |Jt lo hi=>obtain⟨_,_,_,e⟩:=x;exact az e
 |zy ob u=>obtain⟨e,_⟩:=x;exact az e
 |zF ps=>obtain⟨_,e,_⟩:=(show vq H h a ps from x);exact az e
 |met f y=>exact az (show h.get? a=some _ from x)
 |ext φ=>obtain⟨_,⟨_,e⟩,_⟩:=x;exact az e
theorem Paired.Kj {α β:Type}{F G:α->β->Prop}:∀{l₁:List α}{l₂:List β},Paired F l₁ l₂->(∀a b,F a b->G a b)->Paired G l₁ l₂
 |_,_,.nil,_=>.nil
 |_,_,.cons r t,f=>.cons (f _ _ r) (Paired.Kj t f)
theorem gA.wq (x:gA P w H h a o) (k:∀b u,(b=a\/H b=some (.own a))->h.get? b=some u->h'.get? b=some u)
  (ho:∀b,H b=some (.own a)->H' b=some (.own a)) (ht:∀b xs,H b=some (.tup xs)->H' b=some (.tup xs)) (hz:∀b ob u,H b=some (.zy ob u)->H' b=some (.zy ob u):=by intro b ob u q;first|exact q|exact(cK (cP q (by assumption))).trans q):gA P w H' h' a o:=by
 induction o with
 |lst xs=>obtain⟨z,di,n,r,e⟩:=x;exact⟨z,di,n,r,k _ _ (.inl rfl) e⟩
 |tup xs=>obtain⟨z,di,r,ob,e,c⟩:=x;exact⟨z,di,r,ob,k _ _ (.inl rfl) e,c⟩
 |dK kvs=>obtain⟨z,y,vs,r,ob,es,ep,e,c⟩:=x;exact⟨z,y,vs,r,ob,es,ep,k _ _ (.inl rfl) e,c⟩
 |dT kvs=>
  obtain⟨z,y,xs,r,ob,es,ep,e,c⟩:=x;exact⟨z,y,xs,Paired.Kj r λp q z=>⟨z.1,ht _ _ z.2.1,z.2.2⟩,ob,es,ep,k _ _ (.inl rfl) e,c⟩
 |set S n=>obtain⟨ob,es,ep,t,e,c⟩:=x;exact⟨ob,es,ep,t,k _ _ (.inl rfl) e,c⟩
 |ins C dx fs=>
  obtain⟨d,z,ne,e,mA,⟨od,es,ep,e2,c⟩,r⟩:=x;exact⟨ho _ d,z,ne,k _ _ (.inl rfl) e,mA,⟨od,es,ep,k _ _ (.inr d) e2,c⟩,r⟩
 |own y=>obtain⟨ob,e⟩:=x;exact⟨ob,k _ _ (.inl rfl) e⟩
 |xd fs=>obtain⟨mA,⟨od,es,ep,e,c⟩,r⟩:=x;exact⟨mA,⟨od,es,ep,k _ _ (.inl rfl) e,c⟩,r⟩
 |Jt lo hi=>obtain⟨t,u,v,e⟩:=x;exact⟨t,u,v,k _ _ (.inl rfl) e⟩
 |zy ob u ih=>obtain⟨e,q⟩:=x;exact⟨k _ _ (.inl rfl) e,ih q⟩
 |zF ps=>
  obtain⟨qs,e,tr,pos,qual,more,eq,r⟩:=(show vq H h a ps from x)
  exact⟨qs,k _ _ (.inl rfl) e,tr,pos,qual,more,eq,r.imp id λ⟨c,oc,vs,tt,q1,q2,q3⟩=>⟨c,oc,vs,tt,q1,hz _ _ _ q2,q3⟩⟩
 |met f y=>
  have e:h.get? a=some (W.methodObj (.ref f) (.ref y)):=x;show h'.get? a=some (W.methodObj (.ref f) (.ref y));exact k a _ (.inl rfl) e
 |ext φ=>obtain⟨p,⟨o,e⟩,st⟩:=x;exact⟨st _ _ p λo q=>k _ _ (.inl rfl) q,⟨o,k _ _ (.inl rfl) e⟩,st⟩
theorem oC.lt (x:oC P w H h) (e:H a=some o):a<h.objs.size:=(x a o e).lt
theorem oC.fresh (x:oC P w H h) (e:h.objs.size<=a):H a=none:=by
 cases q:H a with
 |none=>rfl
 |some u=>exact absurd (aw (x.lt q) e) (Nat.lt_irrefl _)
theorem oC.kept (x:oC P w H h) (k:∀b u,h.get? b=some u->h'.get? b=some u):oC P w H h':=λa o e=>
 (x a o e).wq (λb u _ q=>k b u q) (λ_ q=>q) λ_ _ q=>q
theorem oC.laid (x:oC P w H h) (k:∀b u,h.get? b=some u->h'.get? b=some u) (hp:h.objs.size<=a) (new:gA P w (upd H a o) h' a o):oC P w (upd H a o) h':=λb u e=>by
 have hn:=x.fresh hp;by_cases hb:b=a
 ·subst hb;rw[cR]at e;cases e;exact new
 ·rw[cK hb]at e;exact(x b u e).wq (λc v _ q=>k c v q) (λc q=>by rw[cK (cP q hn)];exact q) λc xs q=>by rw[cK (cP q hn)];exact q
end
def Rd (H:Hp) (a:cE) (u:HO):Prop:=H a=some u\/∃o,H a=some (.zy o u)
theorem Rd.ok {P:cA}{w:cB}{H:Hp}{h:Heap}{a:cE}{u:HO}(r:Rd H a u) (x:oC P w H h):gA P w H h a u:=by
 rcases r with r|⟨o,r⟩
 ·exact x a u r
 ·obtain⟨_,q⟩:=x a _ r;exact q
noncomputable def ME:Option HO->Prop
 |some (.lst _)=>True
 |some (.dK _)=>True
 |some (.dT _)=>True
 |some (.set _ _)=>True
 |some (.ins _ _ _)=>True
 |some (.ext _)=>True
 |_=>False
section
variable {P:cA}{w:cB}{H:Hp}{h h':Heap}{x e:cE}{o':HO}
theorem oC.write (ok:oC P w H h) (mu:ME (H x)) (he:e=x\/H e=some (.own x)) (k:∀b u,b≠e->h.get? b=some u->h'.get? b=some u) (Mo:∃u,h'.get? e=some u)
  (new:gA P w (upd H x o') h' x o'):oC P w (upd H x o') h':=λb u q=>by
 have MF:∀c y,H c=some (.own y)->c≠x:=λc y r z=>by subst z;rw[r]at mu;exact mu
 have PX:∀c xs,H c=some (.tup xs)->c≠x:=λc xs r z=>by subst z;rw[r]at mu;exact mu
 by_cases hb:b=x
 ·subst hb;rw[cR]at q;cases q;exact new
 ·rw[cK hb]at q;by_cases Kk:b=e
  ·have q':H b=some (.own x):=by
    rcases he with z|z
    ·exact absurd (Kk.trans z) hb
    ·rw[Kk];exact z
   rw[q]at q';cases q';obtain⟨v,hv⟩:=Mo;exact⟨v,by rw[Kk];exact hv⟩
  ·refine(ok b u q).wq (λc v hc r=>k c v ?_ r) (λc r=>by rw[cK (MF c b r)];exact r) (λc xs r=>by rw[cK (PX c xs r)];exact r) λc YA u' r=>(cK (λz=>by subst z;rw[r]at mu;exact mu)).trans r
   rcases hc with rfl|hc
   ·exact Kk
   ·rintro rfl
    rcases he with z|z
    ·exact MF c b hc z
    ·rw[hc]at z;cases z;exact hb rfl
end
structure Un (fs ex:List cE) (H H':Hp) (h h':Heap):Prop where
 keep:∀b o,h.get? b=some o->H b=none->b∉fs->b∉ex->h'.get? b=some o
 slot:∀b o,h.get? b=some o->H b=none->b∈fs->b∉ex->∃sl,h'.get? b=some {o with slots:=sl}
 free:∀b o,h.get? b=some o->H b=none->b∉ex->H' b=none
 there:∀b o,h.get? b=some o->b∉ex->∃o',h'.get? b=some o'
 eW:∀b xs,H b=some (.tup xs)->H' b=some (.tup xs)
 wt:∀b o u,H b=some (.zy o u)->H' b=some (.zy o u)
 uQ:∀b ps,H b=some (.zF ps)->∃more,H' b=some (.zF (ps++more))
section
variable {fs T8 ex YB:List cE}{H H1 H2:Hp}{h h1 h2 h':Heap}{a x e:cE}{o:HO}
theorem Un.any (u:Un fs ex H H1 h h1) {b:cE}{ob:Obj}(q:h.get? b=some ob) (n:H b=none) (hx:b∉ex):∃sl,h1.get? b=some {ob with slots:=sl}:=by
 by_cases hb:b∈fs
 ·exact u.slot b ob q n hb hx
 ·exact⟨ob.slots,u.keep b ob q n hb hx⟩
theorem Un.kept (k:∀b u,h.get? b=some u->h'.get? b=some u):Un fs ex H H h h':=
 ⟨λb ob q _ _ _=>k b ob q,λb ob q _ _ _=>⟨ob.slots,k b ob q⟩,λ_ _ _ n _=>n,λb ob q _=>⟨ob,k b ob q⟩,λ_ _ q=>q,λ_ _ _ q=>q,λ_ ps q=>⟨#[],by rw[q];simp⟩⟩
theorem Un.refl:Un fs ex H H h h:=Un.kept λ_ _ q=>q
theorem Un.laid (k:∀b u,h.get? b=some u->h'.get? b=some u) (hp:h.objs.size<=a) (hn:H a=none):Un fs ex H (upd H a o) h h' where
 keep:=λb u q _ _ _=>k b u q
 slot:=λb u q _ _ _=>⟨u.slots,k b u q⟩
 free:=λb u q n _=>by rw[cK (aD (aw (az q) hp))];exact n
 there:=λb u q _=>⟨u,k b u q⟩
 eW:=λb xs q=>by rw[cK (cP q hn)];exact q
 wt:=λb u xs q=>by rw[cK (cP q hn)];exact q
 uQ:=λb ps q=>⟨#[],by rw[cK (cP q hn),q];simp⟩
theorem Un.write (mu:ME (H x)) (he:e=x\/H e=some (.own x)) (k:∀b u,b≠e->h.get? b=some u->h'.get? b=some u) (Mo:∃u,h'.get? e=some u):Un fs ex H (upd H x o) h h':=by
 have hx:∀b,H b=none->b≠x:=λb n z=>by subst z;rw[n]at mu;exact mu
 have hb:∀b,H b=none->b≠e:=λb n z=>by
  subst z;rcases he with r|r
  ·exact hx b n r
  ·rw[n]at r;cases r
 have hm:∀b u,H b=some u->¬ ME (some u)->b≠x:=λb u q nm z=>by subst z;rw[q]at mu;exact nm mu
 refine⟨λb u q n _ _=>k b u (hb b n) q,λb u q n _ _=>⟨u.slots,k b u (hb b n) q⟩,λb u q n _=>by rw[cK (hx b n)];exact n,λb u q _=>?_,
  λb xs q=>by rw[cK (hm b _ q λz=>z)];exact q,λb u xs q=>by rw[cK (hm b _ q λz=>z)];exact q,λb ps q=>⟨#[],by rw[cK (hm b _ q λz=>z),q];simp⟩⟩
 by_cases Kk:b=e
 ·subst Kk;exact Mo
 ·exact⟨u,k b u Kk q⟩
end
noncomputable def OW (h:Heap) (H:Hp):List cE:=(List.range h.objs.size).filter λa=>(H a).isSome
noncomputable def uR (h:Heap) (H:Hp):Heap:=W.hideAll h (OW h H)
theorem Cz (h:Heap) (H:Hp):(uR h H).objs.size=h.objs.size:=W.hideAll_size _ _
theorem Ej {h:Heap}{H:Hp}{b:cE}{o:Obj}(e:h.get? b=some o) (n:H b=none):(uR h H).get? b=some o:=
 W.hideAll_get _ e λhm=>by
  have q:(H b).isSome=true:=(List.mem_filter.mp hm).2;rw[n]at q;simp at q
theorem Ho {h:Heap}{H:Hp}{b:cE}{o:Obj}(e:(uR h H).get? b=some o):h.get? b=some o/\H b=none:=by
 have e':h.get? b=some o:=W.of_hideAll (OW h H) e;refine⟨e',?_⟩;cases q:H b with
 |none=>rfl
 |some x=>
  have hm:b∈OW h H:=List.mem_filter.mpr ⟨List.mem_range.mpr (az e'),by simp[q]⟩
  have z:(uR h H).get? b=none:=W.hideAll_none (OW h H) hm;rw[z]at e;cases e
noncomputable def iQ (g h:Heap) (L:cE):cm:=(List.range h.objs.size).filterMap λa=>if a=L\/(g.get? a).isSome=true then none else(h.get? a).map λo=>(a,o)
theorem kP {g h:Heap}{L a:cE}{o:Obj}(h1:a≠L) (h2:g.get? a=none) (h3:h.get? a=some o):(a,o)∈iQ g h L:=
 List.mem_filterMap.mpr ⟨a,List.mem_range.mpr (az h3),by simp[h1,h2,h3]⟩
theorem sH {g h:Heap}{L:cE}{p:cE×Obj}(hp:p∈iQ g h L):p.1≠L/\g.get? p.1=none/\h.get? p.1=some p.2:=by
 obtain⟨b,_,e⟩:=List.mem_filterMap.mp hp;split at e
 ·cases e
 ·rename_i hn;cases q:h.get? b with
  |none=>rw[q]at e;simp at e
  |some u=>
   rw[q]at e;simp only[bB,Option.some.injEq]at e;subst e;refine⟨λz=>hn (.inl z),?_,q⟩
   show g.get? b=none;cases r:g.get? b with
   |none=>rfl
   |some v=>exact(hn (.inr (by simp[r]))).elim
theorem sI {g h:Heap}{L:cE}:News g L h (iQ g h L):=λp hp=>let ⟨a,b,c⟩:=sH hp;⟨c,a,b⟩
end L2
namespace L2
open PySem PySem.Spec PyProof.Rows
structure Mod (K:W.Frag) (mg:ck) (base:Heap):Prop where
 MG:K.In base
 glob:base.Ns mainGlobals mg
 blt:∃mb,base.Ns builtinsNs mb/\∀x:Str,x≠"__name__"->mb x=bootBuiltins x
 nolimit:base.NoLimit
structure Cx where
 prog:cA
 w:cB
 K:W.Frag
 mg:ck
 base:Heap
 A:cC
 N:List Str
 s₀:cy
 H₀:Hp
 env:Env
 outer:List Env
 stack:List Env
 ex:List cE
 fn:Str->Bool
 calm:Bool
 pn:cm
 xe:cj
noncomputable def D9 (l:List Env):List cE:=l.filterMap (·.frame)
noncomputable abbrev Cx.fs (X:Cx):List cE:=D9 X.outer
def Mp (sc:Scope) (x:Str):Prop:=sc.names.lookup x=some .local\/sc.names.lookup x=some .cell\/sc.names.lookup x=some .free
def Loc (sc:Scope) (x:Str):Prop:=sc.names.lookup x=some .local\/sc.names.lookup x=some .cell
def Look (env:Env) (h:Heap) (m:ck) (x:Str) (u:cx):Prop:=
 (env.kindOf x=some .local/\m x=some u)\/((env.kindOf x=some .cell\/env.kindOf x=some .free)/\∃c,env.cells.lookup x=some c/\h.IsCell c (some u))
structure Cx.Ok (X:Cx):Prop where
 mod:Mod X.K X.mg X.base
 kind:X.env.scope.kind=.function
 glob:X.env.globals=mainGlobals
 blt:X.env.builtins=builtinsNs
 above:X.s₀.heap.objs.size<=X.env.locals
 inj:∀x y c,X.env.cells.lookup x=some c->X.env.cells.lookup y=some c->x=y
 has:∀x,(X.env.kindOf x=some .cell\/X.env.kindOf x=some .free)->∃c,X.env.cells.lookup x=some c
 MH:∀x c,X.fn x=true->X.env.cells.lookup x=some c->X.s₀.heap.objs.size<=c
 hd:X.calm=true->X.A.handled=none
 frames:X.A.frames=some X.stack
 OX:X.stack=X.outer\/(X.stack=X.env::X.outer/\X.env.frame=some X.env.locals)
 RS:∀b∈X.ex,b≠X.env.locals/\∀x c,X.env.cells.lookup x=some c->c≠b
 bs:∀b o,X.base.get? b=some o->X.s₀.heap.get? b=some o/\X.H₀ b=none
 Hf:X.base.objs.size<=X.s₀.heap.objs.size
 Ek:∀b o,X.base.get? b=some o->b∉X.ex
 Hq:∀b∈X.ex,b∉X.fs
 rP:X.s₀.heap.FunFrames X.base X.outer
 Kl:∀b∈X.fs,X.H₀ b=none
 tb:Cy X.K X.mg X.base X.H₀
structure Inv (X:Cx) (pins:cm) (σ:List (Option V)) (H:Hp) (s:cy):Prop where
 ok:X.Ok
 os:s.os=X.s₀.os
 bare:AllBare s.gens
 base:Un X.fs X.ex X.H₀ H X.s₀.heap s.heap
 loc:∃m,s.heap.Ns X.env.locals m/\∀(i:Nat) (x:Str) (v:V),X.N[i]? =some x->σ[i]? =some (some v)->Mp X.env.scope x->∃u,RelV v u/\Look X.env s.heap m x u
 cell:∀x c,X.env.cells.lookup x=some c->∃v,s.heap.IsCell c v
 free:H X.env.locals=none
 mU:∀x c,X.env.cells.lookup x=some c->H c=none
 pin:∀p∈X.pn++pins,s.heap.get? p.1=some p.2/\H p.1=none/\p.1≠X.env.locals/\p.1∉X.fs/\∀v,p.2.data≠.cell v
 fC:oC X.prog X.w H s.heap
 len:σ.length=X.N.length
section
variable {X:Cx}{pins:cm}{σ:List (Option V)}{H H':Hp}{s:cy}{h':Heap}
theorem Cx.Ok.PY (ok:X.Ok) {b:cE}{o:Obj}(e:X.base.get? b=some o):b∉X.fs:=λhb=>by
 have:=(ok.rP.mem hb).1;rw[e]at this;cases this
theorem Inv.bs (I:Inv X pins σ H s):∀b o,X.base.get? b=some o->s.heap.get? b=some o/\H b=none:=λb o e=>
 ⟨I.base.keep b o (I.ok.bs b o e).1 (I.ok.bs b o e).2 (I.ok.PY e) (I.ok.Ek b o e),I.base.free b o (I.ok.bs b o e).1 (I.ok.bs b o e).2 (I.ok.Ek b o e)⟩
theorem Inv.bk (I:Inv X pins σ H s):∀b o,X.base.get? b=some o->s.heap.get? b=some o:=λb o e=>(I.bs b o e).1
theorem Inv.mod (I:Inv X pins σ H s):Mod X.K X.mg X.base:=I.ok.mod
theorem Inv.CA (I:Inv X pins σ H s):X.K.In s.heap:=I.ok.mod.MG.keeps I.bk
theorem Inv.nolimit (I:Inv X pins σ H s):s.heap.NoLimit:=I.ok.mod.nolimit.keeps I.bk
theorem Inv.fr (I:Inv X pins σ H s):∃m,Fr X.base X.env.locals s.heap m:=
 let ⟨m,hn,_⟩:=I.loc
 ⟨m,hn,I.bk,aB I.ok.Hf I.ok.above⟩
theorem Inv.lt (I:Inv X pins σ H s):X.env.locals<s.heap.objs.size:=let ⟨_,hn,_⟩:=I.loc;hn.lt
theorem Inv.sz (I:Inv X pins σ H s):X.s₀.heap.objs.size<=s.heap.objs.size:=aB I.ok.above (bg I.lt)
theorem Inv.PZ (I:Inv X pins σ H s) {a:cE}(h:s.heap.objs.size<=a):a∉X.fs:=λhb=>by
 obtain⟨_,o,ho,_⟩:=I.ok.rP.mem hb;exact absurd (aw (az ho) (aB I.sz h)) (Nat.lt_irrefl _)
theorem Inv.Km (I:Inv X pins σ H s):∀x c,X.env.cells.lookup x=some c->c≠X.env.locals:=λx c e z=>by
 obtain⟨v,o,ho,hd⟩:=I.cell x c e;obtain⟨m,⟨o',es,ep,jJ,Ju,_⟩,_⟩:=I.loc;rw[z,jJ]at ho;cases ho;rw[Ju]at hd;cases hd
theorem Inv.rP (I:Inv X pins σ H s):s.heap.FunFrames X.base X.outer:=by
 have all:∀(l:List Env),(∀b∈D9 l,b∈X.fs)->X.s₀.heap.FunFrames X.base l->s.heap.FunFrames X.base l:=by
  intro l;induction l with
  |nil=>intro _ _;trivial
  |cons env r ih=>
   intro hs hl;obtain⟨hk,⟨L,o,hf,hn,ho,hd⟩,hr⟩:=hl;have hL:L∈X.fs:=hs L (by unfold D9;rw[List.filterMap_cons,hf];exact af)
   obtain⟨sl,e⟩:=I.base.slot L o ho (I.ok.Kl L hL) hL λz=>I.ok.Hq L z hL
   exact⟨hk,⟨L,_,hf,hn,e,hd⟩,ih (λb hb=>hs b (by unfold D9;rw[List.filterMap_cons,hf];exact ai _ hb)) hr⟩
 exact all X.outer (λ_ hb=>hb) I.ok.rP
theorem Inv.stack (I:Inv X pins σ H s):s.heap.FunFrames X.base X.stack:=by
 rcases I.ok.OX with e|⟨e,hf⟩
 ·rw[e];exact I.rP
 ·rw[e];obtain⟨m,hn,_⟩:=I.loc;refine .cons (by rw[I.ok.kind];decide) hf hn ?_ I.rP
  exact Heap.get?_none_of_le (aB I.ok.Hf I.ok.above)
theorem Inv.wu (I:Inv X pins σ H s):∀b∈D9 X.stack,b∈X.env.locals::X.fs:=λb hb=>by
 rcases I.ok.OX with e|⟨e,hf⟩
 ·rw[e]at hb;exact ai _ hb
 ·rw[e]at hb;unfold D9 at hb;rw[List.filterMap_cons,hf]at hb;exact hb
theorem Inv.Bl (I:Inv X pins σ H s):∀b∈D9 X.stack,H b=none:=λb hb=>by
 rcases List.mem_cons.mp (I.wu b hb)with e|hb
 ·rw[e];exact I.free
 ·obtain⟨_,o,ho,_⟩:=I.ok.rP.mem hb;exact I.base.free b o ho (I.ok.Kl b hb) λz=>I.ok.Hq b z hb
theorem Inv.step {g':Array GenState}{t':Nat}{d':Drawn}{ch:List cE}(I:Inv X pins σ H s)
  (Hg:∀b∈ch,(b∈X.ex\/X.s₀.heap.objs.size<=b)/\b≠X.env.locals/\(∀x c,X.env.cells.lookup x=some c->c≠b)/\∀p∈X.pn++pins,p.1≠b)
  (keep:∀b o,b≠X.env.locals->b∉X.fs->b∉ch->s.heap.get? b=some o->H b=none->h'.get? b=some o)
  (slot:∀b o,b≠X.env.locals->b∈X.fs->b∉ch->s.heap.get? b=some o->H b=none->∃sl,h'.get? b=some {o with slots:=sl}) (free:∀b o,b∉ch->s.heap.get? b=some o->H b=none->H' b=none)
  (there:∀b o,b∉ch->s.heap.get? b=some o->∃o',h'.get? b=some o')
  (eW:∀b xs,H b=some (.tup xs)->H' b=some (.tup xs)) (wt:∀b o u,H b=some (.zy o u)->H' b=some (.zy o u)) (uQ:∀b ps,H b=some (.zF ps)->∃more,H' b=some (.zF (ps++more)))
  (ns:∀m,s.heap.Ns X.env.locals m->h'.Ns X.env.locals m) (fC:oC X.prog X.w H' h') (hg:AllBare g'):
  Inv X pins σ H' {s with heap:=h',gens:=g',drawn:=d',toks:=t'}:=by
 have RT:∀b o,X.s₀.heap.get? b=some o->b≠X.env.locals:=λb o e=>aD (aw (az e) I.ok.above)
 have OY:∀b o,X.s₀.heap.get? b=some o->b∉X.ex->b∉ch:=λb o e hx hb=>by
  rcases(Hg b hb).1 with z|z
  ·exact hx z
  ·exact absurd (aw (az e) z) (Nat.lt_irrefl _)
 have cellK:∀x c,X.env.cells.lookup x=some c->∀v,s.heap.IsCell c v->h'.IsCell c v:=λx c e v ⟨o,ho,hd⟩=>by
  have MI:c∉ch:=λz=>(Hg c z).2.2.1 x c e rfl
  by_cases hc:c∈X.fs
  ·obtain⟨sl,q⟩:=slot c o (I.Km x c e) hc MI ho (I.mU x c e);exact⟨_,q,hd⟩
  ·exact⟨o,keep c o (I.Km x c e) hc MI ho (I.mU x c e),hd⟩
 refine⟨I.ok,I.os,hg,⟨λb o e n hb hx=>?_,λb o e n hb hx=>?_,λb o e n hx=>?_,λb o e hx=>?_,λb xs e=>eW b xs (I.base.eW b xs e),λb o xs e=>wt b o xs (I.base.wt b o xs e),λb ps e=>?_⟩,?_,λx c e=>?_,?_,λx c e=>?_,λp hp=>?_,fC,I.len⟩
 ·exact keep b o (RT b o e) hb (OY b o e hx) (I.base.keep b o e n hb hx) (I.base.free b o e n hx)
 ·obtain⟨sl,e1⟩:=I.base.slot b o e n hb hx;obtain⟨T9,e2⟩:=slot b _ (RT b o e) hb (OY b o e hx) e1 (I.base.free b o e n hx);exact⟨T9,e2⟩
 ·obtain⟨o',e1⟩:=I.base.there b o e hx;exact free b o' (OY b o e hx) e1 (I.base.free b o e n hx)
 ·obtain⟨o',e1⟩:=I.base.there b o e hx;exact there b o' (OY b o e hx) e1
 ·obtain⟨m1,e1⟩:=I.base.uQ b ps e;obtain⟨m2,e2⟩:=uQ b _ e1;exact⟨m1++m2,by rw[e2,Array.append_assoc]⟩
 ·obtain⟨m,hn,hl⟩:=I.loc;refine⟨m,ns m hn,λi x v e1 e2 e3=>?_⟩
  obtain⟨u,r,l⟩:=hl i x v e1 e2 e3;refine⟨u,r,?_⟩;rcases l with l|⟨k,c,e,z⟩
  ·exact .inl l
  ·exact .inr ⟨k,c,e,cellK x c e _ z⟩
 ·obtain⟨v,z⟩:=I.cell x c e;exact⟨v,cellK x c e v z⟩
 ·obtain⟨m,⟨o,_,_,ho,_⟩,_⟩:=I.loc;exact free _ o (λz=>(Hg _ z).2.1 rfl) ho I.free
 ·obtain⟨v,o,ho,hd⟩:=I.cell x c e;exact free c o (λz=>(Hg c z).2.2.1 x c e rfl) ho (I.mU x c e)
 ·obtain⟨e,n,ne,nf,d⟩:=I.pin p hp;have MI:p.1∉ch:=λz=>(Hg p.1 z).2.2.2 p hp rfl
  exact⟨keep p.1 p.2 ne nf MI e n,free p.1 p.2 MI e n,ne,nf,d⟩
theorem Inv.un {t':Nat}(I:Inv X pins σ H s) (u:Un X.fs [] H H' s.heap h') (fC:oC X.prog X.w H' h'):Inv X pins σ H' {s with heap:=h',toks:=t'}:=by
 obtain⟨m,⟨o,es,ep,ho,r⟩,_⟩:=id I.loc;obtain⟨sl,hL⟩:=u.any ho I.free (by simp)
 exact I.step (g':=s.gens) (d':=s.drawn) (ch:=[]) (λ_ z=>nomatch z) (λb o _ hb _ e n=>u.keep b o e n hb (by simp)) (λb o _ hb _ e n=>u.slot b o e n hb (by simp)) (λb o _ e n=>u.free b o e n (by simp)) (λb o _ e=>u.there b o e (by simp)) u.eW u.wt u.uQ (λm' hm=>by
  obtain⟨o',Bm,Kn,jJ,r'⟩:=hm;rw[ho]at jJ;cases jJ;exact⟨_,Bm,Kn,hL,r'⟩) fC I.bare
theorem Inv.call {g':Array GenState}{t':Nat}{d':Drawn}{ch:List cE}(I:Inv X pins σ H s) (u:Un (D9 X.stack) ch H H' s.heap h') (fC:oC X.prog X.w H' h') (hg:AllBare g')
  (Hg:∀b∈ch,(b∈X.ex\/X.s₀.heap.objs.size<=b)/\b≠X.env.locals/\(∀x c,X.env.cells.lookup x=some c->c≠b)/\∀p∈X.pn++pins,p.1≠b):
  Inv X pins σ H' {s with heap:=h',gens:=g',drawn:=d',toks:=t'}:=by
 obtain⟨m,⟨o,es,ep,ho,r⟩,_⟩:=id I.loc;obtain⟨sl,hL⟩:=u.any ho I.free λz=>(Hg _ z).2.1 rfl
 exact I.step (ch:=ch) Hg (λb o hL hb hc e n=>u.keep b o e n (λz=>(List.mem_cons.mp (I.wu b z)).elim hL hb) hc) (λb o _ _ hc e n=>u.any e n hc) (λb o hc e n=>u.free b o e n hc) (λb o hc e=>u.there b o e hc) u.eW u.wt u.uQ (λm' hm=>by
  obtain⟨o',Bm,Kn,jJ,r'⟩:=hm;rw[ho]at jJ;cases jJ;exact⟨_,Bm,Kn,hL,r'⟩) fC hg
theorem Inv.turned {t':Nat}{it:cE}(I:Inv X pins σ H s) (k:∀b o,b≠it->s.heap.get? b=some o->h'.get? b=some o) (hn:H it=none) (hL:it≠X.env.locals)
  (h1:it∈X.ex\/X.s₀.heap.objs.size<=it) (h2:∀x c,X.env.cells.lookup x=some c->c≠it) (h3:∀p∈X.pn++pins,p.1≠it):Inv X pins σ H {s with heap:=h',toks:=t'}:=by
 have RU:∀b u,H b=some u->b≠it:=λb u e z=>by rw[z,hn]at e;cases e
 refine I.step (g':=s.gens) (d':=s.drawn) (ch:=[it]) (λb hb=>?_) (λb o _ _ hc e _=>k b o (λz=>hc (by simp[z])) e) (λb o _ _ hc e _=>⟨o.slots,k b o (λz=>hc (by simp[z])) e⟩) (λ_ _ _ _ n=>n)
  (λb o hc e=>⟨o,k b o (λz=>hc (by simp[z])) e⟩) (λ_ _ e=>e) (λ_ _ _ e=>e) (λb ps e=>⟨#[],by rw[e];simp⟩) (λm hm=>?_) (λb u e=>?_) I.bare
 ·have e:b=it:=by simpa using hb
  subst e;exact⟨h1,hL,h2,h3⟩
 ·obtain⟨o,es,ep,ho,r⟩:=hm;exact⟨o,es,ep,k _ o (Ne.symm hL) ho,r⟩
 ·refine(I.fC b u e).wq (λc v hc q=>k c v ?_ q) (λ_ q=>q) λ_ _ q=>q
  rcases hc with z|z
  ·rw[z];exact RU b u e
  ·exact RU c _ z
theorem Inv.tok (I:Inv X pins σ H s) (t:Nat):Inv X pins σ H {s with toks:=t}:=I.un (h':=s.heap) (t':=t) Un.refl I.fC
theorem Inv.kept {t':Nat}(I:Inv X pins σ H s) (k:∀b u,s.heap.get? b=some u->h'.get? b=some u):Inv X pins σ H {s with heap:=h',toks:=t'}:=I.un (Un.kept k) (I.fC.kept k)
theorem Inv.laid {a:cE}{o:HO}{t':Nat}(I:Inv X pins σ H s) (k:∀b u,s.heap.get? b=some u->h'.get? b=some u) (hp:s.heap.objs.size<=a) (new:gA X.prog X.w (upd H a o) h' a o):
  Inv X pins σ (upd H a o) {s with heap:=h',toks:=t'}:=I.un (Un.laid k hp (I.fC.fresh hp)) (I.fC.laid k hp new)
theorem Inv.write {x e:cE}{o:HO}{t':Nat}(I:Inv X pins σ H s) (mu:ME (H x)) (he:e=x\/H e=some (.own x)) (k:∀b u,b≠e->s.heap.get? b=some u->h'.get? b=some u) (Mo:∃u,h'.get? e=some u)
  (new:gA X.prog X.w (upd H x o) h' x o):Inv X pins σ (upd H x o) {s with heap:=h',toks:=t'}:=I.un (Un.write mu he k Mo) (I.fC.write mu he k Mo new)
theorem Inv.weak {σ':List (Option V)}(I:Inv X pins σ H s) (hl:σ'.length=σ.length) (w:∀(i:Nat) v,σ'[i]? =some (some v)->σ[i]? =some (some v)):Inv X pins σ' H s:=
 ⟨I.ok,I.os,I.bare,I.base,let ⟨m,hn,gF⟩:=I.loc;⟨m,hn,λi x v e1 e2 e3=>gF i x v e1 (w i v e2) e3⟩,I.cell,I.free,I.mU,I.pin,I.fC,hl.trans I.len⟩
theorem Inv.Bn {Jv:cm}(I:Inv X pins σ H s) (h:∀p∈Jv,s.heap.get? p.1=some p.2/\H p.1=none/\p.1≠X.env.locals/\p.1∉X.fs/\∀v,p.2.data≠.cell v):Inv X Jv σ H s:=
 ⟨I.ok,I.os,I.bare,I.base,I.loc,I.cell,I.free,I.mU,λp hp=>(List.mem_append.mp hp).elim (λz=>I.pin p (bD _ z)) (h p),I.fC,I.len⟩
theorem sJ {N:List Str}(hN:N.Nodup) {i j:Nat}{x:Str}(a:N[i]? =some x) (b:N[j]? =some x):i=j:=by
 obtain⟨h1,e1⟩:=List.getElem?_eq_some_iff.mp a;obtain⟨h2,e2⟩:=List.getElem?_eq_some_iff.mp b;exact(List.getElem_inj hN).mp (e1.trans e2.symm)
theorem vt {M:Model}{A:cC}{E:cj}{i:Nat}{x:Str}{v:V}{u:cx}{Q:Unit->cy->Prop}(I:Inv X pins σ H s) (hN:X.N.Nodup) (hi:X.N[i]? =some x) (hx:Loc X.env.scope x) (r:RelV v u)
  (h:∀s',Inv X pins (σ.set i (some v)) H s'->(∃a,Heap.SameBut a s.heap s'.heap/\(a=X.env.locals\/X.env.cells.lookup x=some a))->Q () s') (hf:X.fn x=true\/X.env.scope.names.lookup x=some .local:=by first|exact .inl rfl|exact .inr rfl|assumption):wpAny M A (storeName X.env x u) Q E s:=by
 obtain⟨m,hn,hl⟩:=id I.loc;have P0:(X.env.scope.kind==.class||(X.env.scope.kind==.module&&X.env.locals !=X.env.globals))=false:=by rw[I.ok.kind];rfl
 have hiσ:i<σ.length:=by rw[I.len];exact(List.getElem?_eq_some_iff.mp hi).1
 have Km:=I.Km;have tracked:∀{a:cE}{h':Heap},(∃o,s.heap.get? a=some o/\H a=none)->Heap.SameBut a s.heap h'->oC X.prog X.w H h':=λ{a h'} ha hs b ob e=>by
  obtain⟨_,_,Jw⟩:=ha;refine(I.fC b ob e).wq (λc w' hc q=>(hs.2 c ?_).trans q) (λ_ q=>q) λ_ _ q=>q
  rintro rfl
  rcases hc with rfl|hc
  ·rw[Jw]at e;cases e
  ·rw[Jw]at hc;cases hc
 rcases hx with hk|hk
 ·refine wpAny_storeName_local hk hn (λh' xT hs=>?_) P0
  obtain⟨oL,_,_,Bo,_⟩:=id hn;refine h _ ⟨I.ok,I.os,I.bare,⟨λb o e n hb hx=>?_,λb o e n hb hx=>?_,I.base.free,λb o e hx=>?_,I.base.eW,I.base.wt,I.base.uQ⟩,⟨_,xT,λj y v' e1 e2 e3=>?_⟩,λy c e=>?_,I.free,I.mU,λp hp=>?_,tracked ⟨oL,Bo,I.free⟩ hs,by simpa using I.len⟩ ⟨_,hs,.inl rfl⟩
  ·exact(hs.2 b (aD (aw (az e) I.ok.above))).trans (I.base.keep b o e n hb hx)
  ·obtain⟨sl,e1⟩:=I.base.slot b o e n hb hx;exact⟨sl,(hs.2 b (aD (aw (az e) I.ok.above))).trans e1⟩
  ·obtain⟨o',e1⟩:=I.base.there b o e hx;exact⟨o',(hs.2 b (aD (aw (az e) I.ok.above))).trans e1⟩
  ·by_cases hj:j=i
   ·subst hj;rw[hi]at e1;cases e1;rw[bc hiσ]at e2;cases e2;exact⟨u,r,.inl ⟨hk,by simp⟩⟩
   ·rw[aF (Ne.symm hj)]at e2;obtain⟨u',r',q⟩:=hl j y v' e1 e2 e3;refine⟨u',r',?_⟩;rcases q with⟨k,e⟩|⟨k,c,e,z⟩
    ·refine .inl ⟨k,?_⟩;have:y≠x:=λe=>hj (sJ hN e1 (e▸hi))
     simp[this,e]
    ·exact .inr ⟨k,c,e,z.sameBut hs (Km y c e)⟩
  ·obtain⟨w',z⟩:=I.cell y c e;exact⟨w',z.sameBut hs (Km y c e)⟩
  ·obtain⟨e,n,ne,nf,d⟩:=I.pin p hp;exact⟨(hs.2 p.1 ne).trans e,n,ne,nf,d⟩
 ·have Jx:X.fn x=true:=by
   rcases hf with z|z
   ·exact z
   ·rw[z]at hk;cases hk
  obtain⟨c,hc⟩:=I.ok.has x (.inl hk);obtain⟨w',z⟩:=I.cell x c hc;refine wpAny_storeName_cell I.ok.kind hk hc z (λh' lZ hs=>?_)
  obtain⟨oc,Mq,P1⟩:=id z;refine h {s with heap:=h'} ⟨I.ok,I.os,I.bare,⟨λb o e n hb hx=>?_,λb o e n hb hx=>?_,I.base.free,λb o e hx=>?_,I.base.eW,I.base.wt,I.base.uQ⟩,⟨m,hn.sameBut hs (Ne.symm (Km x c hc)),λj y v' e1 e2 e3=>?_⟩,λy c' e=>?_,I.free,I.mU,λp hp=>?_,tracked ⟨oc,Mq,I.mU x c hc⟩ hs,by simpa using I.len⟩ ⟨c,hs,.inr hc⟩
  ·exact(hs.2 b (aD (aw (az e) (I.ok.MH x c Jx hc)))).trans (I.base.keep b o e n hb hx)
  ·obtain⟨sl,e1⟩:=I.base.slot b o e n hb hx;exact⟨sl,(hs.2 b (aD (aw (az e) (I.ok.MH x c Jx hc)))).trans e1⟩
  ·obtain⟨o',e1⟩:=I.base.there b o e hx;exact⟨o',(hs.2 b (aD (aw (az e) (I.ok.MH x c Jx hc)))).trans e1⟩
  ·by_cases hj:j=i
   ·subst hj;rw[hi]at e1;cases e1;rw[bc hiσ]at e2;cases e2;exact⟨u,r,.inr ⟨.inl hk,c,hc,lZ⟩⟩
   ·rw[aF (Ne.symm hj)]at e2;obtain⟨u',r',q⟩:=hl j y v' e1 e2 e3;refine⟨u',r',?_⟩;rcases q with q|⟨k,c',e,z'⟩
    ·exact .inl q
    ·refine .inr ⟨k,c',e,z'.sameBut hs ?_⟩
     rintro rfl
     exact hj (sJ hN e1 (I.ok.inj _ _ _ e hc▸hi))
  ·by_cases Mr:c'=c
   ·subst Mr;exact⟨_,lZ⟩
   ·obtain⟨w2,z2⟩:=I.cell y c' e;exact⟨w2,z2.sameBut hs Mr⟩
  ·obtain⟨e,n,ne,nf,d⟩:=I.pin p hp;refine⟨(hs.2 p.1 ?_).trans e,n,ne,nf,d⟩;intro q;rw[q,Mq]at e;have q':oc=p.2:=aS e;exact d w' (by rw[<-q'];exact P1)
theorem sL {M:Model}{A:cC}{E:cj}{i:Nat}{x:Str}{v:V}{u:cx}{Q:Unit->cy->Prop}(I:Inv X pins σ H s) (hN:X.N.Nodup) (hi:X.N[i]? =some x) (hx:Loc X.env.scope x) (r:RelV v u)
  (h:∀s',Inv X pins (σ.set i (some v)) H s'->Q () s') (hf:X.fn x=true\/X.env.scope.names.lookup x=some .local:=by first|exact .inl rfl|exact .inr rfl|assumption):wpAny M A (storeName X.env x u) Q E s:=
 vt I hN hi hx r (λs' I' _=>h s' I') hf
theorem Inv.MJ {s':cy}{ch:List cE}(I:Inv X pins σ H s) (ho:s'.os=s.os) (u:Un (D9 X.stack) ch H H' s.heap s'.heap) (fC:oC X.prog X.w H' s'.heap) (hg:AllBare s'.gens)
  (Hg:∀b∈ch,(b∈X.ex\/X.s₀.heap.objs.size<=b)/\b≠X.env.locals/\(∀x c,X.env.cells.lookup x=some c->c≠b)/\∀p∈X.pn++pins,p.1≠b):Inv X pins σ H' s':=by
 obtain⟨h',g',d',t',o'⟩:=s';have e:o'=s.os:=ho;subst e;exact I.call (g':=g') (t':=t') (d':=d') u fC hg Hg
end
noncomputable abbrev XK:=cx->cq->Hp->Prop
noncomputable abbrev St:=List (Option V)
noncomputable abbrev VK:=V->Hp->Prop
noncomputable abbrev TE:=St->Hp->VK->Prop
noncomputable abbrev TT:=St->Hp->(Bool->Hp->Prop)->Prop
noncomputable abbrev TA:=St->Hp->(List V->Hp->Prop)->Prop
structure Ends where
 nx:St->Hp->Prop
 rt:VK
 bk:St->Hp->Prop:=λ_ _=>False
 ct:St->Hp->Prop:=λ_ _=>False
noncomputable abbrev TS:=Ends->St->Hp->Prop
def EP (X:Cx) (pins:cm) (σ:St) (Q:VK) (u:cx) (s':cy):Prop:=∃v H',Inv X pins σ H' s'/\RelV v u/\Q v H'
def TP (X:Cx) (pins:cm) (σ:St) (Q:Bool->Hp->Prop) (b:Bool) (s':cy):Prop:=∃H',Inv X pins σ H' s'/\Q b H'
def AP (X:Cx) (pins:cm) (σ:St) (Q:List V->Hp->Prop) (us:cw) (s':cy):Prop:=∃vs H',Inv X pins σ H' s'/\Vals vs us/\Q vs H'
def SP (X:Cx) (pins:cm) (D:Ends) (f:Flow) (s':cy):Prop:=
 match f with
 |.next=>∃σ' H',Inv X pins σ' H' s'/\D.nx σ' H'
 |.brk=>∃σ' H',Inv X pins σ' H' s'/\D.bk σ' H'
 |.cont=>∃σ' H',Inv X pins σ' H' s'/\D.ct σ' H'
 |.ret u=>∃v σ' H',Inv X pins σ' H' s'/\RelV v u/\D.rt v H'
def PE (X:Cx) (e:cF) (t:TE):Prop:=
 ∀(pins:cm) (s:cy) (σ:St) (H:Hp) (Q:VK),Inv X pins σ H s->t σ H Q->wpAny (model X.prog X.w) X.A (eval e X.env) (EP X pins σ Q) X.xe s
def PT (X:Cx) (e:cF) (t:TT):Prop:=
 ∀(pins:cm) (s:cy) (σ:St) (H:Hp) (Q:Bool->Hp->Prop),Inv X pins σ H s->t σ H Q->wpAny (model X.prog X.w) X.A (isTrue e X.env (eval e X.env)) (TP X pins σ Q) X.xe s
def PW (X:Cx) (e:cF) (t:TT):Prop:=
 ∀(whole:Sem cx) (pins:cm) (s:cy) (σ:St) (H:Hp) (Q:Bool->Hp->Prop),Inv X pins σ H s->t σ H Q->wpAny (model X.prog X.w) X.A (isTrue e X.env whole) (TP X pins σ Q) X.xe s
theorem PW.pt {X:Cx}{e:cF}{t:TT}(h:PW X e t):PT X e t:=h _
def PA (X:Cx) (es:List cF) (t:TA):Prop:=
 ∀(pos:Pos) (pins:cm) (s:cy) (σ:St) (H:Hp) (Q:List V->Hp->Prop),Inv X pins σ H s->t σ H Q->wpAny (model X.prog X.w) X.A (spliced (backTo pos (starEach es X.env))) (AP X pins σ Q) X.xe s
def PS (X:Cx) (st:cG) (t:TS):Prop:=
 ∀(pins:cm) (s:cy) (σ:St) (H:Hp) (D:Ends),Inv X pins σ H s->t D σ H->wpAny (model X.prog X.w) X.A (exec st X.env) (SP X pins D) X.xe s
def vv (X:Cx) (st:List cG) (t:TS):Prop:=
 ∀(pins:cm) (s:cy) (σ:St) (H:Hp) (D:Ends),Inv X pins σ H s->t D σ H->wpAny (model X.prog X.w) X.A (execs st X.env) (SP X pins D) X.xe s
theorem gM {α:Type}{t:Sem α}{Q Q':α->cy->Prop}{M:Model}{A:cC}{E:cj}{s:cy}(h:wpAny M A t Q E s) (hQ:∀a s,Q a s->Q' a s):wpAny M A t Q' E s:=bQ h hQ λ_ _ x=>x
end L2
namespace L2
open PySem PySem.Spec PyProof.Rows
section
variable {X:Cx}
noncomputable def ij (i:Nat):TE:=λσ H Q=>∃v,σ[i]? =some (some v)/\Q v H
noncomputable def tC (v:V):TE:=λ_ H Q=>Q v H
theorem zG {i:Nat}{x:Str}{pos:Pos}(hN:X.N[i]? =some x) (hv:Mp X.env.scope x) (hd:(x==("__debug__":Str))=false:=by decide) (uS:(x==("__classdict__":Str))=false:=by decide):PE X (.Name x pos) (ij i):=by
 intro pins s σ H Q I h;obtain⟨v,e,h⟩:=h;obtain⟨m,hn,hl⟩:=I.loc;obtain⟨u,r,l⟩:=hl i x v hN e hv;have fin:EP X pins σ Q u s:=⟨v,H,I,r,h⟩;rcases l with⟨hk,hm⟩|⟨hk,c,hc,pA⟩
 ·exact wpAny_Name (wpAny_loadName_local I.ok.kind hk hn hm fin) hd
 ·rcases hk with hk|hk
  ·exact wpAny_Name (wpAny_loadName_cell I.ok.kind hk hc pA fin) hd
  ·exact wpAny_Name (wpAny_loadName_free I.ok.kind hk hc pA fin uS) hd
theorem zH {i j pos}:PE X (.Constant (.int i) j pos) (tC (.int i)):=λ_ _ _ H _ I h=>wpAny_Constant_int ⟨.int i,H,I.tok _,⟨_,rfl⟩,h⟩
theorem MK {b j pos}:PE X (.Constant (.bool b) j pos) (tC (.bl b)):=λ_ _ _ H _ I h=>Constant_bool ⟨.bl b,H,I,rfl,h⟩
def Gl (X:Cx) (x:Str):Prop:=X.env.kindOf x=some .globalImplicit
theorem wx {E:cj}{pins:cm}{s:cy}{σ:St}{H:Hp}{x:Str}{u:cx}{pos:Pos}{Q:cj}(I:Inv X pins σ H s) (hg:Gl X x) (hm:X.mg x=some u) (h:Q u s)
  (hd:(x==("__debug__":Str))=false:=by decide):wpAny (model X.prog X.w) X.A (eval (.Name x pos) X.env) Q E s:=
 Calls.Name_function_global I.ok.kind hg (Calls.loadGlobal_global (by rw[I.ok.glob];exact I.mod.glob.keeps I.bk) hm h) hd
theorem oV {E:cj}{pins:cm}{s:cy}{σ:St}{H:Hp}{x:Str}{u:cx}{pos:Pos}{Q:cj}(I:Inv X pins σ H s) (hg:Gl X x) (hm:X.mg x=none) (hv:bootBuiltins x=some u) (h:Q u s)
  (hn:x≠"__name__":=by decide) (hd:(x==("__debug__":Str))=false:=by decide):wpAny (model X.prog X.w) X.A (eval (.Name x pos) X.env) Q E s:=by
 obtain⟨mb,h1,h2⟩:=I.mod.blt;exact Calls.Name_function_global I.ok.kind hg (Calls.loadGlobal_builtin (by rw[I.ok.glob];exact I.mod.glob.keeps I.bk) hm (by rw[I.ok.blt];exact h1.keeps I.bk) ((h2 x hn).trans hv) h) hd
theorem Hr {x:Str}{v:V}{u:cx}{pos:Pos}(hg:Gl X x) (hm:X.mg x=some u) (r:RelV v u) (hd:(x==("__debug__":Str))=false:=by decide):PE X (.Name x pos) (tC v):=
 λ_ _ _ H _ I h=>wx I hg hm ⟨v,H,I,r,h⟩ hd
variable {a b:cF}{ta tb:TE}{pos:Pos}
def PC (X:Cx) (op:CmpOp) (a b:cF) (t:TE):Prop:=
 ∀(pins:cm) (s:cy) (σ:St) (H:Hp) (Q:VK),Inv X pins σ H s->t σ H Q->
  wpAny (model X.prog X.w) X.A (eval a X.env) (λv s₁=>wpAny (model X.prog X.w) X.A (eval b X.env) (λu s₂=>wpAny (model X.prog X.w) X.A (compareOp op v u) (EP X pins σ Q) X.xe s₂) X.xe s₁) X.xe s
noncomputable def tB (t:TE):TT:=λσ H Q=>t σ H λx H1=>∃c,x=.bl c/\Q c H1
theorem Ko {e:cF}{t:TE}(h:PE X e t) (he:∀whole,isTrue e X.env whole=(do let v <-whole;standAt e.pos;holding [v] (truthy v)):=by intro _;rfl):PT X e (tB t):=by
 intro pins s σ H Q I hw;refine isTrue_plain (gM (h pins s σ H _ I hw) λv s1 ⟨x,H1,I1,r1,q1⟩=>?_) (he _)
 obtain⟨d,rfl,q⟩:=q1;cases r1;exact bR ⟨H1,I1,q⟩
variable {tA RV:TT}{rest:List cF}
noncomputable def ML (t u:TT):TT:=λσ H Q=>t σ H λc H1=>if c=true then u σ H1 Q else Q false H1
noncomputable def P2 (t:TT):TT:=λσ H Q=>t σ H λc H1=>Q (!c) H1
theorem Hs (ha:PT X a tA):PW X (.BoolOp .And [a] pos) tA:=by
 intro wh pins s σ H Q I h;refine isTrue_and (gM (ha pins s σ H Q I h) λc s1 e=>?_)
 cases c with
 |true=>exact isTrue_and_nil e
 |false=>exact e
theorem Kp (ha:PT X a tA) (hb:PW X (.BoolOp .And (b::rest) pos) RV):PW X (.BoolOp .And (a::b::rest) pos) (ML tA RV):=by
 intro wh pins s σ H Q I h;refine isTrue_and (gM (ha pins s σ H _ I h) λc s1 ⟨H1,I1,q1⟩=>?_)
 cases c with
 |true=>exact hb wh pins s1 σ H1 Q I1 q1
 |false=>exact⟨H1,I1,q1⟩
theorem Kq (ha:PT X a tA):PT X (.UnaryOp .Not a pos) (P2 tA):=by
 intro pins s σ H Q I h;exact isTrue_not (ha pins s σ H (λc H1=>Q (!c) H1) I h)
noncomputable def MM (ta tb:TE):TE:=λσ H Q=>ta σ H λx H1=>∃c,x=.bl c/\if c=true then tb σ H1 Q else Q (.bl false) H1
theorem Kr {op} {t:TE}(h:PE X a t):PE X (.BoolOp op [a] pos) t:=λpins s σ H Q I hw=>BoolOp_one (h pins s σ H Q I hw)
theorem Ks (ha:PE X a ta) (hb:PE X (.BoolOp .And (b::rest) pos) tb):PE X (.BoolOp .And (a::b::rest) pos) (MM ta tb):=by
 intro pins s σ H Q I h;refine BoolOp_and (gM (ha pins s σ H _ I h) λv s1 ⟨x,H1,I1,r1,q1⟩=>?_)
 obtain⟨c,rfl,q1⟩:=q1;cases r1;refine bR ?_;cases c with
 |true=>exact hb pins s1 σ H1 Q I1 q1
 |false=>exact⟨.bl false,H1,I1,rfl,q1⟩
noncomputable def Ua (t:TT) (ta tb:TE):TE:=λσ H Q=>t σ H λc H1=>if c=true then ta σ H1 Q else tb σ H1 Q
theorem Em {c:cF}(hc:PT X c tA) (ha:PE X a ta) (hb:PE X b tb):PE X (.IfExp c a b pos) (Ua tA ta tb):=by
 intro pins s σ H Q I h;refine wpAny_IfExp (gM (hc pins s σ H _ I h) λd s1 ⟨H1,I1,q1⟩=>?_)
 cases d with
 |true=>exact ha pins s1 σ H1 Q I1 q1
 |false=>exact hb pins s1 σ H1 Q I1 q1
end
end L2
namespace L2
open PySem PySem.Spec PyProof.Rows
def oE (K:W.Frag) (H:Hp) (a:cE) (xs:List V):Prop:=
 Rd H a (.lst xs)\/
  ∃(o:Obj) (di:Array cx) (n:Nat),K.lookup a=some o/\o.cls=.type "list"/\o.dict=none/\o.data=.seq di n/\di.size<=sizeLine/\Vals xs di.toList
def hO (K:W.Frag) (H:Hp) (a:cE) (xs:List V):Prop:=
 Rd H a (.tup xs)\/
  ∃(o:Obj) (di:Array cx) (n:Nat),K.lookup a=some o/\o.cls=.type "tuple"/\o.data=.seq di n/\di.size<=sizeLine/\Vals xs di.toList
noncomputable def P4:cx->Option V
 |.none=>some .fO
 |.bool b=>some (.bl b)
 |.int i _=>some (.int i)
 |.str x _=>some (.str x)
 |.bytes b _=>some (.OU b)
 |.float b _=>some (.OV b)
 |.ref a=>some (.ref a)
 |.type n=>some (.ty n)
 |_=>none
theorem RelV.abs {x:V}{u:cx}(r:RelV x u):P4 u=some x:=by
 cases x with
 |fO=>cases r;rfl
 |bl _=>cases r;rfl
 |int _=>obtain⟨t,rfl⟩:=r;rfl
 |str _=>obtain⟨t,rfl⟩:=r;rfl
 |OU _=>obtain⟨t,rfl⟩:=r;rfl
 |OV _=>obtain⟨t,rfl⟩:=r;rfl
 |ref _=>cases r;rfl
 |ty _=>cases r;rfl
theorem RelV.inj {x y:V}{u:cx}(r:RelV x u) (q:RelV y u):x=y:=aS (r.abs.symm.trans q.abs)
theorem Vals.inj:∀{xs ys:List V}{us:cw},Vals xs us->Vals ys us->xs=ys
 |_,_,_,.nil,.nil=>rfl
 |_,_,_,.cons r t,.cons r' t'=>by rw[r.inj r',Vals.inj t t']
section
variable {X:Cx}{pins:cm}{σ:St}{H:Hp}{s:cy}{a:cE}{xs ys:List V}
theorem oE.of {K:W.Frag}(h:H a=some (.lst xs)):oE K H a xs:=.inl (.inl h)
theorem hO.of {K:W.Frag}(h:H a=some (.tup xs)):hO K H a xs:=.inl (.inl h)
theorem Inv.list (I:Inv X pins σ H s) (h:oE X.K H a xs):∃di:cw,Vals xs di/\PlainL s.heap a di.toArray/\xs.length<=sizeLine:=by
 rcases h with h|⟨o,di,n,hk,hc,hd,hs,hz,r⟩
 ·obtain⟨z,di,n,r,e⟩:=h.ok I.fC;exact⟨di,r,⟨_,n,e,rfl,rfl,rfl⟩,z⟩
 ·refine⟨di.toList,r,⟨o,n,I.CA a o hk,hc,hd,by simpa using hs⟩,?_⟩
  have e:=r.length;simp only[aN]at e;omega
theorem Inv.tuple (I:Inv X pins σ H s) (h:hO X.K H a xs):∃di:cw,Vals xs di/\IsTup s.heap a di.toArray/\xs.length<=sizeLine:=by
 rcases h with h|⟨o,di,n,hk,hc,hs,hz,r⟩
 ·obtain⟨z,di,r,p⟩:=h.ok I.fC;exact⟨di,r,p,z⟩
 ·refine⟨di.toList,r,⟨o,I.CA a o hk,hc,n,by simpa using hs⟩,?_⟩
  have e:=r.length;simp only[aN]at e;omega
theorem Inv.En (I:Inv X pins σ H s) (h:oE X.K H a xs) (h':oE X.K H a ys):xs=ys:=by
 obtain⟨di,r,⟨o,n,e,_,_,d⟩,_⟩:=I.list h;obtain⟨its',r',⟨o',n',e',_,_,d'⟩,_⟩:=I.list h';rw[e]at e';cases e';rw[d]at d';injection d' with d1 _
 have:di=its':=by simpa using congrArg Array.toList d1
 subst this;exact r.inj r'
theorem Inv.CB (I:Inv X pins σ H s) (h:hO X.K H a xs) (h':hO X.K H a ys):xs=ys:=by
 obtain⟨di,r,⟨o,e,_,n,d⟩,_⟩:=I.tuple h;obtain⟨its',r',⟨o',e',_,n',d'⟩,_⟩:=I.tuple h';rw[e]at e';cases e';rw[d]at d';injection d' with d1 _
 have:di=its':=by simpa using congrArg Array.toList d1
 subst this;exact r.inj r'
end
noncomputable abbrev Cx.uT (X:Cx) (E:cj):Cx:={X with xe:=E}
noncomputable abbrev Cx.Bp (X:Cx):Cx:=X.uT λ_ _=>False
theorem Cx.Ok.uT {X:Cx}(ok:X.Ok) (E:cj):(X.uT E).Ok:=
 ⟨ok.mod,ok.kind,ok.glob,ok.blt,ok.above,ok.inj,ok.has,ok.MH,ok.hd,ok.frames,ok.OX,ok.RS,ok.bs,ok.Hf,ok.Ek,ok.Hq,ok.rP,ok.Kl,ok.tb⟩
theorem Cx.Ok.mV {X:Cx}{E:cj}(ok:(X.uT E).Ok):X.Ok:=
 ⟨ok.mod,ok.kind,ok.glob,ok.blt,ok.above,ok.inj,ok.has,ok.MH,ok.hd,ok.frames,ok.OX,ok.RS,ok.bs,ok.Hf,ok.Ek,ok.Hq,ok.rP,ok.Kl,ok.tb⟩
section
variable {X:Cx}{pins:cm}{σ:St}{H:Hp}{s:cy}{E:cj}
theorem Inv.uT (I:Inv X pins σ H s) (E:cj):Inv (X.uT E) pins σ H s:=⟨I.ok.uT E,I.os,I.bare,I.base,I.loc,I.cell,I.free,I.mU,I.pin,I.fC,I.len⟩
theorem Inv.mV (I:Inv (X.uT E) pins σ H s):Inv X pins σ H s:=⟨I.ok.mV,I.os,I.bare,I.base,I.loc,I.cell,I.free,I.mU,I.pin,I.fC,I.len⟩
theorem SP.mV {D:Ends}{f:Flow}{s':cy}(h:SP (X.uT E) pins D f s'):SP X pins D f s':=by
 cases f with
 |next=>obtain⟨σ',H',I,q⟩:=h;exact⟨σ',H',I.mV,q⟩
 |brk=>obtain⟨σ',H',I,q⟩:=h;exact⟨σ',H',I.mV,q⟩
 |cont=>obtain⟨σ',H',I,q⟩:=h;exact⟨σ',H',I.mV,q⟩
 |ret u=>obtain⟨v,σ',H',I,r,q⟩:=h;exact⟨v,σ',H',I.mV,r,q⟩
theorem vv.Bp {st:List cG}{t:TS}(h:vv X.Bp st t):vv X st t:=λpins s σ H D I hw=>
 bQ (h pins s σ H D (I.uT _) hw) (λ_ _ q=>q.mV) λ_ _ z=>False.elim z
end
section
variable {X:Cx}{st:cG}{rest:List cG}{t u:TS}{e:cF}{te:TE}{pos:Pos}
noncomputable def MN:TS:=λD σ H=>D.nx σ H
noncomputable def P5 (t u:TS):TS:=λD σ H=>t {D with nx:=u D} σ H
theorem Bq:vv X [] MN:=λ_ _ σ H _ I h=>wpAny_execs_nil ⟨σ,H,I,h⟩
theorem sM (h1:PS X st t) (h2:vv X rest u):vv X (st::rest) (P5 t u):=by
 intro pins s σ H D I h;refine wpAny_execs_cons (gM (h1 pins s σ H {D with nx:=u D} I h) λf s1 q=>?_)
 cases f with
 |next=>
  obtain⟨σ',H',I',q⟩:=q;exact h2 pins s1 σ' H' D I' q
 |ret v=>exact q
 |brk=>exact q
 |cont=>exact q
theorem Br (h1:PS X st t):vv X [st] t:=by
 intro pins s σ H D I h;refine wpAny_execs_cons (gM (h1 pins s σ H D I h) λf s1 q=>?_)
 cases f with
 |next=>exact wpAny_execs_nil q
 |ret v=>exact q
 |brk=>exact q
 |cont=>exact q
theorem Inv.quiet {pins:cm}{σ:St}{H:Hp}{s:cy}(I:Inv X pins σ H s):interactive X.env=false:=by simp[interactive,I.ok.kind]
noncomputable def MO (te:TE):TS:=λD σ H=>te σ H λ_ H1=>D.nx σ H1
theorem Ht (he:PE X e te) (hs:swapsWith e none pos.line X.env=pure false:=by rfl):PS X (.Expr e pos) (MO te):=by
 intro pins s σ H D I h;exact wpAny_Expr_any (gM (he pins s σ H _ I h) λv s1 ⟨x,H1,I1,r1,q1⟩=>⟨σ,H1,I1,q1⟩) I.quiet hs
noncomputable def P6 (te:TE):TS:=λD σ H=>te σ H D.rt
theorem Kt (he:PE X e te):PS X (.Return (some e) pos) (P6 te):=by
 intro pins s σ H D I h;exact wpAny_Return_some (gM (he pins s σ H _ I h) λv s1 ⟨x,H1,I1,r1,q1⟩=>⟨x,σ,H1,I1,r1,q1⟩)
noncomputable def P7 (c:TT) (t u:TS):TS:=λD σ H=>c σ H λb H1=>if b=true then t D σ H1 else u D σ H1
theorem Jy {c:cF}{a b:List cG}{tc:TT}(hc:PT X c tc) (ha:vv X a t) (hb:vv X b u):PS X (.If c a b pos) (P7 tc t u):=by
 intro pins s σ H D I h;refine wpAny_If (gM (hc pins s σ H _ I h) λd s1 ⟨H1,I1,q1⟩=>?_)
 cases d with
 |true=>exact ha pins s1 σ H1 D I1 q1
 |false=>exact hb pins s1 σ H1 D I1 q1
end
noncomputable abbrev TG:=V->St->Hp->(St->Hp->Prop)->Prop
noncomputable abbrev Jz:=List V->St->Hp->(St->Hp->Prop)->Prop
def PG (X:Cx) (target:cF) (t:TG):Prop:=
 ∀(pins:cm) (s:cy) (σ:St) (H:Hp) (v:V) (u:cx) (Q:St->Hp->Prop),Inv X pins σ H s->RelV v u->t v σ H Q->
  wpAny (model X.prog X.w) X.A (assign target X.env u) (λ_ s'=>∃σ' H',Inv X pins σ' H' s'/\Q σ' H') X.xe s
def Ms (X:Cx) (ts:List cF) (t:Jz):Prop:=
 ∀(pins:cm) (s:cy) (σ:St) (H:Hp) (vs:List V) (us:cw) (Q:St->Hp->Prop),Inv X pins σ H s->Vals vs us->t vs σ H Q->
  wpAny (model X.prog X.w) X.A (assignInOrder ((assignEach ts X.env).map (·.2)) us) (λ_ s'=>∃σ' H',Inv X pins σ' H' s'/\Q σ' H') X.xe s
noncomputable abbrev Hu:=V->V->V->Hp->(Hp->Prop)->Prop
def MP (X:Cx) (t:Hu):Prop:=
 ∀(pins:cm) (s:cy) (σ:St) (H:Hp) (o i v:V) (ov iv u:cx) (Q:Hp->Prop),Inv X pins σ H s->RelV o ov->RelV i iv->RelV v u->t o i v H Q->
  wpAny (model X.prog X.w) X.A (setItem ov iv u) (λ_ s'=>∃H',Inv X pins σ H' s'/\Q H') X.xe s
section
variable {X:Cx}{pos:Pos}
noncomputable def vw (i:Nat):TG:=λv σ H Q=>Q (σ.set i (some v)) H
theorem jr {i:Nat}{x:Str}(hN:X.N.Nodup) (hi:X.N[i]? =some x) (hx:Loc X.env.scope x) (hf:X.fn x=true\/X.env.scope.names.lookup x=some .local:=by first|exact .inl rfl|exact .inr rfl|assumption):PG X (.Name x pos) (vw i):=by
 intro pins s σ H v u Q I r h;exact wpAny_assign_Name (sL I hN hi hx r (λs' I'=>⟨_,H,I',h⟩) hf)
noncomputable def MQ:Jz:=λvs σ H Q=>vs=[]/\Q σ H
noncomputable def JA (t:TG) (u:Jz):Jz:=λvs σ H Q=>∃v r,vs=v::r/\t v σ H λσ' H'=>u r σ' H' Q
theorem Hv:Ms X [] MQ:=by
 intro pins s σ H vs us Q I r h;obtain⟨e,h⟩:=h;subst e;cases r;exact assignInOrder_nil ⟨σ,H,I,h⟩
theorem xU {e:cF}{es:List cF}{t:TG}{u:Jz}(h1:PG X e t) (h2:Ms X es u)
  (hs:(assignEach (e::es) X.env).map (·.2)=assign e X.env::(assignEach es X.env).map (·.2):=by rfl):Ms X (e::es) (JA t u):=by
 intro pins s σ H vs us Q I r h;obtain⟨v,vr,e1,h⟩:=h;subst e1;cases r with
 |cons r rr=>
  rw[hs];refine assignInOrder_cons (gM (h1 pins s σ H _ _ _ I r h) λ_ s1 ⟨σ1,H1,I1,q1⟩=>?_)
  exact h2 pins s1 σ1 H1 _ _ Q I1 rr q1
noncomputable def iN (K:W.Frag) (n:Nat) (t:Jz):TG:=λv σ H Q=>∃a xs,v=.ref a/\hO K H a xs/\xs.length=n/\t xs σ H Q
theorem Ku {es:List cF}{k:Nat}{t:Jz}{n:Nat}(hc:X.calm=true) (h:Ms X es t)
  (hn:(assignEach es X.env).length=n:=by rfl) (ma:(assignEach es X.env).findIdx? (·.1)=none:=by rfl):PG X (.Tuple es k pos) (iN X.K n t):=by
 intro pins s σ H v u Q I r hw;obtain⟨a,xs,e1,hq,hl,hw⟩:=hw;subst e1;cases r;obtain⟨di,rv,ht,hz⟩:=I.tuple hq;refine assign_Tuple_tuple (I.ok.hd hc) ht (by simp[hn,<-hl,rv.length]) ma λh' hx=>?_
 have I1:Inv X pins σ H {s with heap:=h'}:=I.kept (t':=s.toks) λb o e=>hx b o (aD (az e)) e
 exact h pins _ σ H xs _ Q I1 (by simpa using rv) hw
noncomputable def P8 (to ti:TE) (t:Hu):TG:=λv σ H Q=>to σ H λo H1=>ti σ H1 λi H2=>t o i v H2 λH3=>Q σ H3
theorem Kv {o i:cF}{to ti:TE}{t:Hu}(ho:PE X o to) (hi:PE X i ti) (hs:MP X t)
  (ha:∀v,assign (.Subscript o i pos) X.env v=(do
   let ov <-holding [v] (eval o X.env)
   let iv <-holding [v,ov] (eval i X.env)
   standAt pos
   holding [v,ov,iv] (setItem ov iv v)
   release [v,ov,iv] []):=by intro _;rfl):PG X (.Subscript o i pos) (P8 to ti t):=by
 intro pins s σ H v u Q I r h;rw[ha];refine aa (bo (gM (ho pins s σ H _ I h) λov s1 ⟨x,H1,I1,r1,q1⟩=>?_))
 refine aa (bo (gM (hi pins s1 σ H1 _ I1 q1) λiv s2 ⟨y,H2,I2,r2,q2⟩=>?_))
 refine aa (wpAny_standAt (aa (bo (gM (hs pins s2 σ H2 x y v ov iv u _ I2 r1 r2 r q2) λ_ s3 ⟨H3,I3,q3⟩=>?_))))
 exact wpAny_release ⟨σ,H3,I3,q3⟩
noncomputable def MR (te:TE) (g:TG):TS:=λD σ H=>te σ H λx H1=>g x σ H1 D.nx
theorem Kw {tg e:cF}{te:TE}{g:TG}(he:PE X e te) (hg:PG X tg g) (hs:swapsWithSole [tg] e pos.line X.env=pure false:=by rfl) (hw:swappedStores [tg] e X.env=pure none:=by rfl)
  (h1:(assignEach [tg] X.env).map (·.2)=[assign tg X.env]:=by rfl):PS X (.Assign [tg] e pos) (MR te g):=by
 intro pins s σ H D I h;refine wpAny_Assign_stores (gM (he pins s σ H _ I h) λv s1 ⟨x,H1,I1,r1,q1⟩=>?_) hs hw
 rw[h1];exact gM (hg pins s1 σ H1 x v _ I1 r1 q1) λ_ s2 q=>q
theorem zI {i:Nat}{x:Str}{e:cF}{te:TE}{pos':Pos}(hN:X.N.Nodup) (hi:X.N[i]? =some x) (hx:Loc X.env.scope x) (he:PE X e te) (hs:swapsWith e (some (.Name x pos')) pos.line X.env=pure false:=by rfl) (hf:X.fn x=true\/X.env.scope.names.lookup x=some .local:=by first|exact .inl rfl|exact .inr rfl|assumption):
  PS X (.Assign [.Name x pos'] e pos) (MR te (vw i)):=by
 intro pins s σ H D I h;refine wpAny_Assign_Name (gM (he pins s σ H _ I h) λv s1 ⟨y,H1,I1,r1,q1⟩=>?_) hs
 exact sL I1 hN hi hx r1 (λs2 I2=>⟨_,H1,I2,q1⟩) hf
end
section
variable {X:Cx}{pos:Pos}
end
structure It where
 go:Nat->Hp->Prop
 JB:Nat->Hp->V->Hp->Prop
 stop:Nat->Hp->Prop
def xV (X:Cx) (pins:cm) (H:Hp) (b:cE):Prop:=
 H b=none/\b≠X.env.locals/\b∉X.fs/\(b∈X.ex\/X.s₀.heap.objs.size<=b)/\(∀x c,X.env.cells.lookup x=some c->c≠b)/\∀p∈X.pn++pins,p.1≠b
theorem Inv.Eo {X:Cx}{pins:cm}{σ:St}{H H':Hp}{s:cy}{b:cE}(I:Inv X pins σ H s) (hb:s.heap.objs.size<=b) (hn:H' b=none):xV X pins H' b:=by
 refine⟨hn,bx (aw I.lt hb),I.PZ hb,.inr (aB I.sz hb),λx c e z=>?_,λp hp z=>?_⟩
 ·obtain⟨v,q⟩:=I.cell x c e;exact absurd (aw q.lt (by rw[z];exact hb)) (Nat.lt_irrefl _)
 ·exact absurd (aw (az (I.pin p hp).1) (by rw[z];exact hb)) (Nat.lt_irrefl _)
structure Turn (P:cA) (w:cB) (K:W.Frag) (tg:cF) (J:It) (fp:List cE) (it:cE) (tn:Nat->Heap->Prop):Prop where
 mem:it∈fp
 obj:∀i h,tn i h->∀b∈fp,∃o,h.get? b=some o/\∀v,o.data≠.cell v
 keep:∀i h h',tn i h->(∀b∈fp,∀o,h.get? b=some o->h'.get? b=some o)->tn i h'
 item:∀(X:Cx),X.prog=P->X.w=w->X.K=K->X.calm=true->∀(i:Nat) (pins:cm) (s:cy) (σ:St) (H:Hp) (E:cj),Inv X pins σ H s->(∀b∈fp,xV X pins H b)->tn i s.heap->J.go i H->
  wpAny (model P w) X.A (pyNext (.ref it)) (λr s1=>∃u,r=some u/\
   wpAny (model P w) X.A (letOwnedTupleGo tg (.ref it) u) (λ_ s2=>∃x H',Inv X pins σ H' s2/\RelV x u/\J.JB i H x H'/\tn (i+1) s2.heap/\∀b∈fp,H' b=none) E s1) E s
 done:∀(X:Cx),X.prog=P->X.w=w->X.K=K->X.calm=true->∀(i:Nat) (pins:cm) (s:cy) (σ:St) (H:Hp) (E:cj),Inv X pins σ H s->(∀b∈fp,xV X pins H b)->tn i s.heap->J.stop i H->
  wpAny (model P w) X.A (pyNext (.ref it)) (λr s1=>r=none/\Inv X pins σ H s1) E s
 self:∀(A:cC) (i:Nat) (s:cy) (Q:cj) (E:cj),tn i s.heap->Q (.ref it) s->wpAny (model P w) A (pyIter (.ref it)) Q E s
noncomputable abbrev TI:=St->Hp->(It->Hp->Prop)->Prop
def RW (X:Cx) (pins:cm) (σ:St) (tg:cF) (R:It->Hp->Prop) (OZ:cx) (s2:cy):Prop:=
 ∃(it:cE) (fp:List cE) (tn:Nat->Heap->Prop) (J:It) (H':Hp),OZ=.ref it/\Inv X pins σ H' s2/\Turn X.prog X.w X.K tg J fp it tn/\tn 0 s2.heap/\(∀b∈fp,xV X pins H' b)/\R J H'
def PI (X:Cx) (tg iter:cF) (wi:TI):Prop:=
 ∀(pins:cm) (s:cy) (σ:St) (H:Hp) (R:It->Hp->Prop),Inv X pins σ H s->wi σ H R->
  wpAny (model X.prog X.w) X.A (eval iter X.env) (λv s1=>wpAny (model X.prog X.w) X.A (pyIter v) (RW X pins σ tg R) X.xe s1) X.xe s
theorem Ep {M:Model}{A:cC}{E:cj}{s:cy}{tg:cF}{it:cE}{u:cx}{o:Obj}{n:String}{vs:Array cx}{Q:Unit->cy->Prop}(ho:s.heap.get? it=some o) (hc:o.cls=.type n) (hd:o.data=.fields vs)
  (hn:["enumerate","zip","dict_itemiterator","dict_reverseitemiterator","odict_iterator","itertools.zip_longest","itertools.pairwise"].contains n=false) (hQ:Q () s):wpAny M A (letOwnedTupleGo tg (.ref it) u) Q E s:=by
 unfold letOwnedTupleGo;cases tg<;>first
  |exact aj hQ
  |(cases u<;>first
    |exact aj hQ
    |(refine aa (wpAny_load ho ?_)
      rw[hc,hd];show wpAny M A (if(["enumerate","zip","dict_itemiterator","dict_reverseitemiterator","odict_iterator","itertools.zip_longest","itertools.pairwise"].contains n&&vs[0]? ==some (rawInt _))=true then _ else _) Q E s
      rw[if_neg (by intro h;rw[hn,Bool.false_and]at h;cases h)]
      exact aj hQ))
noncomputable def P9 (K:W.Frag) (a:cE):It:=
 ⟨λi H=>∃xs x,oE K H a xs/\xs[i]? =some x,λi H x H'=>H'=H/\∀xs,oE K H a xs->xs[i]? =some x,λi H=>∃xs,oE K H a xs/\xs.length<=i⟩
noncomputable def Qa (K:W.Frag) (a:cE):It:=
 ⟨λi H=>∃xs x,hO K H a xs/\xs[i]? =some x,λi H x H'=>H'=H/\∀xs,hO K H a xs->xs[i]? =some x,λi H=>∃xs,hO K H a xs/\xs.length<=i⟩
noncomputable def O0 (lo:Int) (n:Nat):It:=⟨λi _=>i<n,λi H x H'=>H'=H/\x=.int (lo+i),λi _=>n<=i⟩
theorem CC {P:cA}{w:cB}{K:W.Frag}{tg:cF}(a it:cE):Turn P w K tg (P9 K a) [it] it (λi h=>h.IsListIter it a i)where
 mem:=by simp
 obj:=λi h st b hb=>by
  have e:b=it:=by simpa using hb
  subst e;obtain⟨o,e,c,d⟩:=st;exact⟨o,e,λv z=>by rw[d]at z;cases z⟩
 keep:=λi h h' st k=>st.at λo e=>k it (by simp) o e
 item:=by
  intro X hP hw hK hc i pins s σ H E I hf st hg;subst hP hw hK;obtain⟨xs,x,hq,hx⟩:=hg;obtain⟨di,rv,p,hz⟩:=I.list hq;obtain⟨u,hu,ru⟩:=rv.get hx;obtain⟨f0,f1,f2,f3,f4,f5⟩:=hf it (by simp)
  refine wpAny_pyNext_list_item st p.isList (x:=u) (by simpa using hu) λh' JC sb=>?_
  have I1:Inv X pins σ H {s with heap:=h'}:=I.turned (t':=s.toks) (λb o hb e=>(sb.2 b hb).trans e) f0 f1 f3 f4 f5
  obtain⟨o,e,c,d⟩:=id JC;exact⟨u,rfl,Ep (s:={s with heap:=h'}) e c d (by decide) ⟨x,H,I1,ru,⟨rfl,λys hy=>by rw[I.En hy hq];exact hx⟩,JC,λb hb=>(hf b hb).1⟩⟩
 done:=by
  intro X hP hw hK hc i pins s σ H E I hf st hg;subst hP hw hK;obtain⟨xs,hq,hx⟩:=hg;obtain⟨di,rv,p,hz⟩:=I.list hq;obtain⟨f0,f1,f2,f3,f4,f5⟩:=hf it (by simp)
  have hl:=rv.length;exact wpAny_pyNext_list_end (I.ok.hd hc) st p.isList (by simp;omega) λh' eb=>⟨rfl,I.turned (t':=s.toks) (λb o hb e=>eb b o hb e) f0 f1 f3 f4 f5⟩
 self:=λ_ _ _ _ _ st h=>wpAny_pyIter_listiter st h
theorem zJ {P:cA}{w:cB}{K:W.Frag}{tg:cF}(a it:cE):Turn P w K tg (Qa K a) [it] it (λi h=>h.IsTupleIter it a i)where
 mem:=by simp
 obj:=λi h st b hb=>by
  have e:b=it:=by simpa using hb
  subst e;obtain⟨o,e,c,d⟩:=st;exact⟨o,e,λv z=>by rw[d]at z;cases z⟩
 keep:=λi h h' st k=>st.at λo e=>k it (by simp) o e
 item:=by
  intro X hP hw hK hc i pins s σ H E I hf st hg;subst hP hw hK;obtain⟨xs,x,hq,hx⟩:=hg;obtain⟨di,rv,p,hz⟩:=I.tuple hq;obtain⟨u,hu,ru⟩:=rv.get hx;obtain⟨f0,f1,f2,f3,f4,f5⟩:=hf it (by simp)
  refine wpAny_pyNext_tuple_item st (show s.heap.IsTuple a di.toArray from p) (x:=u) (by simpa using hu) λh' JC sb=>?_
  have I1:Inv X pins σ H {s with heap:=h'}:=I.turned (t':=s.toks) (λb o hb e=>(sb.2 b hb).trans e) f0 f1 f3 f4 f5
  obtain⟨o,e,c,d⟩:=id JC;exact⟨u,rfl,Ep (s:={s with heap:=h'}) e c d (by decide) ⟨x,H,I1,ru,⟨rfl,λys hy=>by rw[I.CB hy hq];exact hx⟩,JC,λb hb=>(hf b hb).1⟩⟩
 done:=by
  intro X hP hw hK hc i pins s σ H E I hf st hg;subst hP hw hK;obtain⟨xs,hq,hx⟩:=hg;obtain⟨di,rv,p,hz⟩:=I.tuple hq;obtain⟨f0,f1,f2,f3,f4,f5⟩:=hf it (by simp)
  have hl:=rv.length;exact wpAny_pyNext_tuple_end (I.ok.hd hc) st (show s.heap.IsTuple a di.toArray from p) (by simp;omega) λh' eb=>⟨rfl,I.turned (t':=s.toks) (λb o hb e=>eb b o hb e) f0 f1 f3 f4 f5⟩
 self:=λ_ _ _ _ _ st h=>wpAny_pyIter_tupleiter st h
theorem zK {P:cA}{w:cB}{K:PySem.W.Frag}{tg:cF}(it:cE) (lo:Int) (n:Nat):Turn P w K tg (O0 lo n) [it] it (λi h=>IsRangeIter h it (lo+(i:Nat)*1) ((n:Int)-(i:Nat)) 1)where
 mem:=by simp
 obj:=λi h st b hb=>by
  have e:b=it:=by simpa using hb
  subst e;exact⟨_,st,λv z=>by
   have z':Data.fields _=Data.cell v:=z;cases z'⟩
 keep:=λi h h' st k=>k it (by simp) _ st
 item:=by
  intro X hP hw hK hc i pins s σ H E I hf st hg;subst hP hw hK;obtain⟨f0,f1,f2,f3,f4,f5⟩:=hf it (by simp)
  have W:=Walks.range (prog:=X.prog) (w:=X.w) (I.ok.hd hc) it lo 1 n;refine W.item i s _ _ hg st λv h' tk hv JC kk=>?_
  obtain⟨t,rfl⟩:=hv;have I1:Inv X pins σ H {s with heap:=h',toks:=tk}:=I.turned (λb o hb e=>kk b o (by simpa using hb) e) f0 f1 f3 f4 f5
  refine⟨_,rfl,Ep (s:={s with heap:=h',toks:=tk}) (n:="range_iterator") JC rfl rfl (by decide) ⟨.int (lo+i),H,I1,⟨t,?_⟩,⟨rfl,rfl⟩,JC,λb hb=>(hf b hb).1⟩⟩
  rw[Int.mul_one]
 done:=by
  intro X hP hw hK hc i pins s σ H E I hf st hg;subst hP hw hK;obtain⟨f0,f1,f2,f3,f4,f5⟩:=hf it (by simp)
  exact wpAny_pyNext_range_end (I.ok.hd hc) st (by have:n<=i:=hg;omega) λh' eb=>⟨rfl,I.turned (t':=s.toks) (λb o hb e=>eb b o hb e) f0 f1 f3 f4 f5⟩
 self:=λ_ _ _ _ _ st h=>wpAny_pyIter_rangeiter st h
end L2
namespace L2
open PySem PySem.Spec PyProof.Rows
section
variable {X:Cx}{tg:cF}
noncomputable def MS (K:W.Frag) (tl:TE):TI:=λσ H R=>tl σ H λx H1=>∃a,x=.ref a/\(∃xs,oE K H1 a xs)/\R (P9 K a) H1
noncomputable def Qb (K:W.Frag) (tl:TE):TI:=λσ H R=>tl σ H λx H1=>∃a,x=.ref a/\(∃xs,hO K H1 a xs)/\R (Qa K a) H1
theorem Bs {l:cF}{tl:TE}(hl:PE X l tl):PI X tg l (MS X.K tl):=by
 intro pins s σ H R I h;refine gM (hl pins s σ H _ I h) λv s1 ⟨x,H1,I1,r1,q1⟩=>?_
 obtain⟨a,e,⟨xs,hq⟩,q⟩:=q1;subst e;cases r1;obtain⟨di,rv,p,hz⟩:=I1.list hq;refine wpAny_pyIter_list p.isList ?_;refine⟨s1.heap.objs.size,[s1.heap.objs.size],_,_,H1,rfl,I1.kept (t':=s1.toks) λb o e=>ag _ e,CC a _,⟨_,ay _ rfl,rfl,rfl⟩,λb hb=>?_,q⟩
 have e:b=s1.heap.objs.size:=by simpa using hb
 subst e;exact I1.Eo (au _) (I1.fC.fresh (au _))
theorem Kx {l:cF}{tl:TE}(hl:PE X l tl):PI X tg l (Qb X.K tl):=by
 intro pins s σ H R I h;refine gM (hl pins s σ H _ I h) λv s1 ⟨x,H1,I1,r1,q1⟩=>?_
 obtain⟨a,e,⟨xs,hq⟩,q⟩:=q1;subst e;cases r1;obtain⟨di,rv,p,hz⟩:=I1.tuple hq;refine wpAny_pyIter_tuple (show s1.heap.IsTuple a di.toArray from p) ?_
 refine⟨s1.heap.objs.size,[s1.heap.objs.size],_,_,H1,rfl,I1.kept (t':=s1.toks) λb o e=>ag _ e,zJ a _,⟨_,ay _ rfl,rfl,rfl⟩,λb hb=>?_,q⟩
 have e:b=s1.heap.objs.size:=by simpa using hb
 subst e;exact I1.Eo (au _) (I1.fC.fresh (au _))
theorem Er {pins:cm}{σ:St}{H:Hp}{s:cy}{R:It->Hp->Prop}{E:cj}{lo hi:Int}{t u v:Tok}{tk:Nat}(I:Inv X pins σ H s) (h1: -(2^62)<=lo) (h2:lo<2^62) (h3: -(2^62)<=hi) (h4:hi<2^62)
  (q:R (O0 lo (hi-lo).toNat) H):wpAny (model X.prog X.w) X.A (pyIter (.ref s.heap.objs.size)) (RW X pins σ tg R) E {s with heap:=s.heap.push {cls:=.type "range",data:=.fields #[.int lo t,.int hi u,.int 1 v]},toks:=tk}:=by
 refine wpAny_pyIter_range (IsRange.new ..) (small_one h1 h2 h3 h4) ?_;have I1:Inv X pins σ H {s with heap:=s.heap.push {cls:=.type "range",data:=.fields #[.int lo t,.int hi u,.int 1 v]},toks:=tk}:=I.kept λb o e=>ag _ e
 refine⟨(s.heap.push {cls:=.type "range",data:=.fields #[.int lo t,.int hi u,.int 1 v]}).objs.size,[(s.heap.push {cls:=.type "range",data:=.fields #[.int lo t,.int hi u,.int 1 v]}).objs.size],_,_,H,rfl,
  I1.kept (t':=tk) λb o e=>ag _ e,zK _ lo (hi-lo).toNat,?_,λb hb=>?_,q⟩
 ·have e1:lo+((0:Nat):Int)*1=lo:=by simp
  have e2:(((hi-lo).toNat:Nat):Int)-((0:Nat):Int)=Builtin.Range.rangeSize lo hi 1:=by rw[rangeSize_one];split<;>omega
  show IsRangeIter _ _ (lo+((0:Nat):Int)*1) ((((hi-lo).toNat:Nat):Int)-((0:Nat):Int)) 1;rw[e1,e2];exact ay _ rfl
 ·have e:b=(s.heap.push {cls:=.type "range",data:=.fields #[.int lo t,.int hi u,.int 1 v]}).objs.size:=by simpa using hb
  subst e;exact I1.Eo (au _) (I1.fC.fresh (au _))
noncomputable def MT (ta:TA):TI:=λσ H R=>ta σ H λvs H1=>∃j:Int,vs=[.int j]/\-(2^62)<=j/\j<2^62/\R (O0 0 j.toNat) H1
theorem CG {a:cF}{ta:TA}{p pos:Pos}(hg:Gl X "range") (hm:X.mg "range"=none) (ha:PA X [a] ta) (hs:starEach [a] X.env=[(false,eval a X.env)]:=by rfl):PI X tg (.Call (.Name "range" p) [a] [] pos) (MT ta):=by
 intro pins s σ H R I h;refine Call_ (oV I hg hm boot_range (PyProof.Rows.callWith_type1 (gM (ha pos pins s σ H _ I h) λus s1 ⟨vs,H1,I1,r1,q1⟩=>?_) hs rfl))
 obtain⟨j,e,q1,q2,q⟩:=q1;subst e;cases r1 with
 |cons r rr=>
  cases rr;obtain⟨t,rfl⟩:=r;exact call_range_1 (Er I1 (by omega) (by omega) q1 q2 (by simpa using q))
noncomputable def Qc (wi:TI) (g:TG) (tb:TS):TS:=λD σ H=>wi σ H λJ H1=>∃W:Nat->Nat->St->Hp->Prop,(∃m,W 0 m σ H1)/\∀i m σ H,W i m σ H->
 (J.stop i H/\D.nx σ H)\/(J.go i H/\∃N:St->Hp->Prop,(∀σ' H',N σ' H'->∃m',m'<m/\W (i+1) m' σ' H')/\∀x H',J.JB i H x H'->g x σ H' λσ2 H2=>tb {D with nx:=N,ct:=N,bk:=D.nx} σ2 H2)
noncomputable def sN (fp:List cE) (h:Heap):cm:=fp.filterMap λb=>(h.get? b).map λo=>(b,o)
theorem md {fp:List cE}{h:Heap}{b:cE}{o:Obj}(hb:b∈fp) (e:h.get? b=some o):(b,o)∈sN fp h:=List.mem_filterMap.mpr ⟨b,hb,by rw[e];rfl⟩
theorem CH {fp:List cE}{h:Heap}{p:cE×Obj}(hp:p∈sN fp h):p.1∈fp/\h.get? p.1=some p.2:=by
 obtain⟨b,hb,e⟩:=List.mem_filterMap.mp hp;cases q:h.get? b with
 |none=>rw[q]at e;cases e
 |some o=>
  rw[q]at e;have e':(b,o)=p:=aS e;subst e';exact⟨hb,q⟩
theorem Inv.pinned {pins:cm}{σ:St}{H:Hp}{s:cy}{fp:List cE}(I:Inv X pins σ H s) (hf:∀b∈fp,xV X pins H b) (ho:∀b∈fp,∃o,s.heap.get? b=some o/\∀v,o.data≠.cell v):Inv X (pins++sN fp s.heap) σ H s:=
 I.Bn λp hp=>(List.mem_append.mp hp).elim (λz=>I.pin p (aL _ z)) λz=>by
  obtain⟨hb,e⟩:=CH z;obtain⟨f0,f1,f2,_⟩:=hf p.1 hb;obtain⟨o,e',d⟩:=ho p.1 hb;rw[e]at e';cases e';exact⟨e,f0,f1,f2,d⟩
theorem Inv.pB {pins pl:cm}{σ:St}{H:Hp}{s:cy}(I:Inv X (pins++pl) σ H s):Inv X pins σ H s:=I.Bn λp hp=>I.pin p (aL _ (bD _ hp))
theorem Es {iter:cF}{body:List cG}{wi:TI}{g:TG}{tb:TS}{pos:Pos}(hp:PassesOwn (model X.prog X.w) X.A X.env X.xe) (hc:X.calm=true) (hi:PI X tg iter wi) (hg:PG X tg g) (hb:vv X body tb)
  (hs:∀x,foldedSetIterable iter X.env x=pure x:=by intro _;rfl):PS X (.For tg iter body [] pos) (Qc wi g tb):=by
 intro pins s σ H D I h;refine wpAny_For (gM (hi pins s σ H _ I h) λv s1 h1=>gM h1 λOZ s2 h2=>?_) hs
 obtain⟨it,fp,tn,J,H2,e,I2,T,JD,f2,W,⟨m0,w0⟩,turn⟩:=h2;subst e;have zL:∀{H':Hp},(∀b∈fp,H' b=none)->∀b∈fp,xV X pins H' b:=λhn b hb=>⟨hn b hb,(f2 b hb).2⟩
 refine codeAny_forLoop_any (λn s'=>∃i σ' H',Inv X pins σ' H' s'/\tn i s'.heap/\(∀b∈fp,H' b=none)/\W i n σ' H') ?_ m0 ⟨0,σ,H2,I2,JD,λb hb=>(f2 b hb).1,w0⟩
 rintro n s3 ⟨i,σ3,H3,I3,MU,MV,w3⟩
 rcases turn i n σ3 H3 w3 with⟨stop,qn⟩|⟨go,N,hN,step⟩
 ·refine wpAny_passesOwn hp (gM (T.done X rfl rfl rfl hc i pins s3 σ3 H3 X.xe I3 (zL MV) MU stop) λr s4 ⟨hr,I4⟩=>?_)
  subst hr;exact wpAny_execs_nil ⟨σ3,H3,I4,qn⟩
 ·refine wpAny_passesOwn hp (gM (T.item X rfl rfl rfl hc i pins s3 σ3 H3 X.xe I3 (zL MV) MU go) λr s4 ⟨u,hr,h4⟩=>?_)
  subst hr;refine wpAny_passesOwn hp (gM h4 λ_ s5 ⟨x,H5,I5,r5,y5,Ky,Qd⟩=>?_)
  have Qe:=I5.pinned (zL Qd) (T.obj _ _ Ky);refine wpAny_passesOwn hp (gM (hg _ s5 σ3 H5 x u _ Qe r5 (step x H5 y5)) λ_ s6 ⟨σ6,H6,I6,q6⟩=>?_)
  refine wpAny_passesOwn hp (gM (hb _ s6 σ6 H6 _ I6 q6) λf s7 q7=>?_)
  have again:∀{σ7:St}{H7:Hp},Inv X (pins++sN fp s5.heap) σ7 H7 s7->N σ7 H7->∃m,m<n/\∃i σ' H',Inv X pins σ' H' s7/\tn i s7.heap/\(∀b∈fp,H' b=none)/\W i m σ' H':=λ{σ7 H7} I7 n7=>by
   obtain⟨m',hm,w7⟩:=hN σ7 H7 n7;refine⟨m',hm,i+1,σ7,H7,I7.pB,T.keep _ _ _ Ky λb hb o e=>(I7.pin (b,o) (aL _ (aL _ (md hb e)))).1,λb hb=>?_,w7⟩
   obtain⟨o,e,d⟩:=T.obj _ _ Ky b hb;exact(I7.pin (b,o) (aL _ (aL _ (md hb e)))).2.1
  cases f with
  |next=>obtain⟨σ7,H7,I7,n7⟩:=q7;exact again I7 n7
  |cont=>obtain⟨σ7,H7,I7,n7⟩:=q7;exact again I7 n7
  |brk=>obtain⟨σ7,H7,I7,q7⟩:=q7;exact⟨σ7,H7,I7.pB,q7⟩
  |ret v=>obtain⟨x7,σ7,H7,I7,r7,q7⟩:=q7;exact⟨x7,σ7,H7,I7.pB,r7,q7⟩
end
end L2
namespace L2
open PySem PySem.Spec PyProof.Rows
noncomputable abbrev R2:=V->V->Hp->VK->Prop
def r9 (X:Cx) (f:cx->cx->Sem cx) (r:R2):Prop:=
 ∀(pins:cm) (s:cy) (σ:St) (H:Hp) (x y:V) (v u:cx) (Q:VK),Inv X pins σ H s->RelV x v->RelV y u->r x y H Q->
  wpAny (model X.prog X.w) X.A (f v u) (EP X pins σ Q) X.xe s
def hU (X:Cx) (f:cx) (r:List V->Hp->VK->Prop):Prop:=
 ∀(pins:cm) (s:cy) (σ:St) (H:Hp) (xs:List V) (us:cw) (Q:VK),Inv X pins σ H s->Vals xs us->r xs H Q->
  wpAny (model X.prog X.w) X.A (call f us) (EP X pins σ Q) X.xe s
noncomputable def MW (r:R2) (ta tb:TE):TE:=λσ H Q=>ta σ H λx H1=>tb σ H1 λy H2=>r x y H2 Q
noncomputable def rI (C:Int->Int->Prop) (g:Int->Int->V):R2:=λx y H Q=>∃i j,x=.int i/\y=.int j/\C i j/\Q (g i j) H
noncomputable def Hw (g:Int->Int->V):R2:=λx y H Q=>∃i j,x=.int i/\y=.int j/\Q (g i j) H
section
variable {X:Cx}{a b c:cF}{ta tb tc:TE}{pos:Pos}
theorem Kz (ha:PE X a ta) (hb:PE X b tb) {pins:cm}{s:cy}{σ:St}{H:Hp}{R:V->V->Hp->Prop}(I:Inv X pins σ H s)
  (h:ta σ H λx H1=>tb σ H1 λy H2=>R x y H2) {Q:cj}{f:cx->cx->Sem cx}
  (hf:∀v u s2 x y H2,Inv X pins σ H2 s2->RelV x v->RelV y u->R x y H2->wpAny (model X.prog X.w) X.A (f v u) Q X.xe s2):
  wpAny (model X.prog X.w) X.A (eval a X.env) (λv s₁=>wpAny (model X.prog X.w) X.A (eval b X.env) (λu s₂=>wpAny (model X.prog X.w) X.A (f v u) Q X.xe s₂) X.xe s₁) X.xe s:=by
 refine gM (ha pins s σ H _ I h) λv s1 ⟨x,H1,I1,r1,q1⟩=>?_
 refine gM (hb pins s1 σ H1 _ I1 q1) λu s2 ⟨y,H2,I2,r2,q2⟩=>?_
 exact hf v u s2 x y H2 I2 r1 r2 q2
theorem JE {op:Operator}{r:R2}(ho:r9 X (binaryOp op) r) (ha:PE X a ta) (hb:PE X b tb):PE X (.BinOp a op b pos) (MW r ta tb):=by
 intro pins s σ H Q I h;exact wpAny_BinOp (Kz ha hb I h λv u s2 x y H2 I2 rx ry q=>ho pins s2 σ H2 x y v u Q I2 rx ry q)
theorem RX {f:cx->cx->Sem cx}{C:Int->Int->Prop}{g:Int->Int->Int}
  (rule:∀(i j:Int) (t u:Tok) (s:cy) (Q:cj) (E:cj),C i j->Q (.int (g i j) s.toks) {s with toks:=s.toks+1}->wpAny (model X.prog X.w) X.A (f (.int i t) (.int j u)) Q E s):
  r9 X f (rI C λi j=>.int (g i j)):=by
 intro pins s σ H x y v u Q I rx ry h;obtain⟨i,j,rfl,rfl,hc,q⟩:=h;obtain⟨t,rfl⟩:=rx;obtain⟨t',rfl⟩:=ry;exact rule i j t t' s _ _ hc ⟨.int (g i j),H,I.tok _,⟨_,rfl⟩,q⟩
theorem MX {f:cx->cx->Sem cx}{g:Int->Int->Int}
  (rule:∀(i j:Int) (t u:Tok) (s:cy) (Q:cj) (E:cj),Q (.int (g i j) s.toks) {s with toks:=s.toks+1}->wpAny (model X.prog X.w) X.A (f (.int i t) (.int j u)) Q E s):
  r9 X f (Hw λi j=>.int (g i j)):=by
 intro pins s σ H x y v u Q I rx ry h;obtain⟨i,j,rfl,rfl,q⟩:=h;obtain⟨t,rfl⟩:=rx;obtain⟨t',rfl⟩:=ry;exact rule i j t t' s _ _ ⟨.int (g i j),H,I.tok _,⟨_,rfl⟩,q⟩
theorem Hx {f:cx->cx->Sem cx}{g:Int->Int->Bool}
  (rule:∀(i j:Int) (t u:Tok) (s:cy) (Q:cj) (E:cj),Q (.bool (g i j)) s->wpAny (model X.prog X.w) X.A (f (.int i t) (.int j u)) Q E s):
  r9 X f (Hw λi j=>.bl (g i j)):=by
 intro pins s σ H x y v u Q I rx ry h;obtain⟨i,j,rfl,rfl,q⟩:=h;obtain⟨t,rfl⟩:=rx;obtain⟨t',rfl⟩:=ry;exact rule i j t t' s _ _ ⟨.bl (g i j),H,I,rfl,q⟩
def Hy (i j:Int):Prop:=(-(2^64)<i/\i<2^64)\/(-(2^64)<j/\j<2^64)
theorem Hy.ok {i j:Int}(h:Hy i j):IntMulOk i j:=by
 rcases h with⟨h1,h2⟩|⟨h1,h2⟩
 ·exact .of_left (intBits_le_64 h1 h2)
 ·exact .of_right (intBits_le_64 h1 h2)
theorem Et:r9 X (binaryOp .Add) (Hw λi j=>.int (i+j)):=MX λ_ _ _ _ _ _ _ q=>add_int q
theorem KA:r9 X (binaryOp .Sub) (Hw λi j=>.int (i-j)):=MX λ_ _ _ _ _ _ _ q=>sub_int q
theorem KC:r9 X (binaryOp .Mult) (rI Hy λi j=>.int (i*j)):=RX λ_ _ _ _ _ _ _ hc q=>mul_int q hc.ok
theorem KD:r9 X (binaryOp .Mod) (rI (λ_ j=>0<j) λi j=>.int (i%j)):=RX λi j _ _ _ _ _ hc q=>by
 have h1:(0:Int)<j:=hc;exact mod_int' (by omega) (by rw[Int.fmod_eq_emod_of_nonneg i (by omega)];exact q)
end
section
variable {X:Cx}{a b c:cF}{ta tb tc:TE}{pos:Pos}
theorem MY:r9 X (compareOp .Lt) (Hw λi j=>.bl (decide (i<j))):=Hx λ_ _ _ _ _ _ _ q=>lt_int q
theorem MZ:r9 X (compareOp .LtE) (Hw λi j=>.bl (decide (i<=j))):=Hx λ_ _ _ _ _ _ _ q=>le_int q
theorem M1:r9 X (compareOp .Gt) (Hw λi j=>.bl (decide (j<i))):=Hx λ_ _ _ _ _ _ _ q=>gt_int q
theorem M3:r9 X (compareOp .GtE) (Hw λi j=>.bl (decide (j<=i))):=Hx λ_ _ _ _ _ _ _ q=>ge_int q
theorem r9.or {f:cx->cx->Sem cx}{r r':R2}(h:r9 X f r) (h':r9 X f r'):r9 X f (λx y H Q=>r x y H Q\/r' x y H Q):=by
 intro pins s σ H x y v u Q I rx ry q;rcases q with q|q
 ·exact h pins s σ H x y v u Q I rx ry q
 ·exact h' pins s σ H x y v u Q I rx ry q
theorem sO (b:cF) {op:CmpOp}(h:op≠.In:=by decide) (h2:op≠.NotIn:=by decide):behindInMarks op b=false:=by
 have e1:(op==CmpOp.In)=false:=by cases op<;>first|rfl|exact absurd rfl h
 have e2:(op==CmpOp.NotIn)=false:=by cases op<;>first|rfl|exact absurd rfl h2
 cases b<;>simp[behindInMarks,e1,e2]
theorem Hz {op:CmpOp}{r:R2}(ho:r9 X (compareOp op) r) (ha:PE X a ta) (hb:PE X b tb) (hm:behindInMarks op b=false):PE X (.Compare a [op] [b] pos) (MW r ta tb):=by
 intro pins s σ H Q I h;exact wpAny_Compare1 (Kz ha hb I h λv u s2 x y H2 I2 rx ry q=>ho pins s2 σ H2 x y v u Q I2 rx ry q) hm
noncomputable def M4 (t:TE):TT:=λσ H Q=>t σ H λx H'=>∃k,x=.bl k/\Q k H'
theorem Bu {op:CmpOp}{r:R2}(ho:r9 X (compareOp op) r) (ha:PE X a ta) (hb:PE X b tb) (hm:behindInMarks op b=false):PT X (.Compare a [op] [b] pos) (M4 (MW r ta tb)):=by
 intro pins s σ H Q I h;refine wpAny_isTrue_Compare1 (gM (ha pins s σ H _ I h) λv s1 ⟨x,H1,I1,r1,q1⟩=>gM (hb pins s1 σ H1 _ I1 q1) λu s2 ⟨y,H2,I2,r2,q2⟩=>
  gM (ho pins s2 σ H2 x y v u _ I2 r1 r2 q2) λc s3 ⟨z,H3,I3,r3,k,e,q3⟩=>?_) hm
 subst e;cases r3;exact bR ⟨H3,I3,q3⟩
theorem sP:(sizeLine:Nat)<2^63:=by rw[bw];decide
theorem vals1 {x:V}{us:cw}(r:Vals [x] us):∃u,us=[u]/\RelV x u:=by
 cases r with
 |cons r1 r2=>cases r2;exact⟨_,rfl,r1⟩
theorem vals2 {x y:V}{us:cw}(r:Vals [x,y] us):∃u w',us=[u,w']/\RelV x u/\RelV y w':=by
 cases r with
 |cons r1 r2=>
  cases r2 with
  |cons r3 r4=>cases r4;exact⟨_,_,rfl,r1,r3⟩
theorem CI (hc:X.calm=true):hU X (.builtin "min") (λxs H Q=>∃i j,xs=[.int i,.int j]/\Q (.int (if j<i then j else i)) H):=by
 intro pins s σ H xs us Q I r h;obtain⟨i,j,rfl,q⟩:=h;obtain⟨u,w',rfl,⟨t,rfl⟩,⟨t',rfl⟩⟩:=vals2 r;refine min_two_ints (I.ok.hd hc) λh' tk k=>⟨_,H,I.kept k,?_,q⟩
 by_cases hj:j<i
 ·rw[if_pos hj,if_pos hj];exact⟨_,rfl⟩
 ·rw[if_neg hj,if_neg hj];exact⟨_,rfl⟩
end
end L2
namespace L2
open PySem PySem.Spec PyProof.Rows
structure zM (h:Heap) (x dx C:cE) (mA:ck):Prop where
 obj:h.get? x=some (W.instObj C dx)
 ns:h.Ns1 dx mA
 ne:dx≠x
theorem CJ {h:Heap}{dx:cE}{mA:ck}(n:h.Ns1 dx mA):∃od,h.get? dx=some od/\∀name,W.lookIn name od=some (mA name):=by
 obtain⟨o,es,ep,ho,hd,hk,_,hm⟩:=n;refine⟨o,ho,λname=>?_⟩
 have e:=hm name;unfold nsFind findBy at e;rw[<-Array.find?_toList]at e;unfold W.lookIn;rw[hd];dsimp only;split
 ·rename_i y q;rw[q]at e;exact congrArg some e
 ·rename_i q;rw[q]at e;have a:es.toList.any (·.refKey)=false:=by
   rw[List.any_eq_false];intro y hy;obtain⟨z,t,zN⟩:=hk y (Array.mem_toList_iff.mp hy);simp[DictEntry.refKey,zN]
  have a':¬ es.toList.any (·.refKey)=true:=by rw[a];exact aZ
  rw[if_neg a'];exact congrArg some e
theorem zM.look {h:Heap}{x dx C:cE}{mA:ck}(I:zM h x dx C mA):∃od,W.InstAt h x (W.instObj C dx) C (some od)/\∀name,W.lookIn name od=some (mA name):=
 let ⟨od,ho,hl⟩:=CJ I.ns
 ⟨od,⟨I.obj,rfl,rfl,ho⟩,hl⟩
section
variable {prog:cA}{w:cB}{A:cC}{E:cj}{s:cy}{K:W.Frag}{x dx C f:cE}{mA:ck}{name:Str}{v:cx}
theorem get_map {expr:Bool}{Q:cj}(X:K.In s.heap) (I:zM s.heap x dx C mA) (hg:W.plainGet K C name=true) (hh:W.hasDictIn K C=true)
  (ha:W.findIn K (.ref C) name=some none) (hv:mA name=some v) (HA:W.handedIn v=true) (h:Q v {s with toks:=s.toks+1}):
  wpAny (model prog w) A (getAttr (.ref x) name expr) Q E s:=by
 obtain⟨od,J,hl⟩:=I.look;exact W.get_value X J (W.plainGet_of hg).1 (W.findObj_own hh ha rfl (by rw[hl,hv])) HA h
theorem Eu {pl:Sem Bool}{Q:cx×cw->cy->Prop}(X:K.In s.heap) (I:zM s.heap x dx C mA) (hg:W.plainGet K C name=true)
  (hf:W.findIn K (.ref C) name=some (some (.ref f))) (ht:W.isFn K (.ref f)=true) (hv:mA name=none) (h:Q (.ref f,[.ref x]) s):
  wpAny (model prog w) A (getMethod (.ref x) name pl) Q E s:=by
 obtain⟨od,J,hl⟩:=I.look;exact W.method_fn X J (W.plainGet_of hg).1 (W.plainGet_of hg).2 hf (beq_iff_eq.mp ht) (by show(W.lookIn name od).map (·.isSome)=some false;rw[hl,hv];rfl) h
theorem HB {ns:List Str}{Q:Unit->cy->Prop}(X:K.In s.heap) (I:zM s.heap x dx C mA)
  (hs:W.findIn K (.ref C) "__setattr__"=some (some (.builtin "object.__setattr__"))) (hp:W.plainOver K C=true) (ht:W.takerIn K C name=some none) (hh:W.hasDictIn K C=true)
  (hw:PySem.Within mA ns) (hsz:ns.length<=sizeLine)
  (h:∀h',zM h' x dx C (λy=>if y=name then some v else mA y)->Heap.SameBut dx s.heap h'->Q () {s with heap:=h',toks:=s.toks+2}):
  wpAny (model prog w) A (setAttr (.ref x) name v) Q E s:=by
 obtain⟨od,J,hl⟩:=I.look;refine W.set_plain X J hs (W.osa_open (s:={s with toks:=s.toks+1}) (r:=none) X J hp ht λb=>?_)
 obtain⟨cd,hc,Ju⟩:=W.any_some hh;have hx:s.heap.get? x=some ⟨.ref C,some dx,.plain,#[]⟩:=I.obj;refine aa (aj (aa (aa (wpAny_loadPart hx (aa (W.Looks.here (s:={s with toks:=s.toks+1}) (W.looks_clsIn X hc) ?_))))))
 rw[Ju];refine aj (a:=some dx) (aa (aj (aa ?_)));refine wpAny_nsSet1 (s:={s with toks:=s.toks+1}) I.ns λh' Mt KG=>?_
 obtain⟨oD,YC,YD,Ub,Uc,Ud⟩:=Mt.count (PySem.Within.cons name v hw);refine aa (wpAny_lookBehind Ub (by rw[Uc];exact pastItsLine_dict (aB Ud (by rw[ax];omega))) ?_)
 exact aj (h _ ⟨(KG.2 _ (Ne.symm I.ne)).trans I.obj,Mt,I.ne⟩ KG)
theorem Ew {R:Result->cy->Prop}{vs:cw}{kw:List (Str×cx)}(X:K.In s.heap) (hm:W.makesIn K C=true)
  (hi:W.findIn K (.ref C) "__init__"=some (some (.ref f))) (hf:W.typeIn K (.ref f)=some (.type "function"))
  (h:codeAny (model prog w) (A.under (.builtin "type.__call__" ⟨.ref C::vs,kw⟩)) (.call (.ref f) ⟨.ref (s.heap.objs.size+1)::vs,kw⟩) (W.InitBack (s.heap.objs.size+1) R)
   {s with heap:=(s.heap.push W.emptyDict).push (W.instObj C s.heap.objs.size)}):
  codeAny (model prog w) A (.call (.ref C) ⟨vs,kw⟩) R s:=by
 obtain⟨hh,g,d,t,os⟩:=s;exact W.make_core (W.makes_of X hm) (W.looks_findIn X hi) (λself=>W.bind_fn X self hf) (.inl rfl) h
end
noncomputable def me (f:Str) (v:V):List (Str×V)->List (Str×V)
 |[]=>[(f,v)]
 |(g,x)::r=>if g=f then(g,v)::r else(g,x)::me f v r
theorem gG (f g:Str) (v:V):∀fs:List (Str×V),(me f v fs).lookup g=if g=f then some v else fs.lookup g
 |[]=>by
  show List.lookup g [(f,v)]=_;by_cases h:g=f
  ·have hb:(g==f)=true:=beq_iff_eq.mpr h;simp only[List.lookup,hb,if_pos h]
  ·have hb:(g==f)=false:=beq_eq_false_iff_ne.mpr h;simp only[List.lookup,hb,if_neg h]
 |(k,x)::r=>by
  have ih:=gG f g v r;rw[show me f v ((k,x)::r)=(if k=f then(k,v)::r else(k,x)::me f v r)from rfl]
  by_cases hk:k=f
  ·rw[if_pos hk];by_cases h:g=k
   ·have hb:(g==k)=true:=beq_iff_eq.mpr h;simp only[List.lookup,hb,if_pos (h.trans hk)]
   ·have hb:(g==k)=false:=beq_eq_false_iff_ne.mpr h;simp only[List.lookup,hb,if_neg (λe:g=f=>h (e.trans hk.symm))]
  ·rw[if_neg hk];by_cases h:g=k
   ·have hb:(g==k)=true:=beq_iff_eq.mpr h;simp only[List.lookup,hb,if_neg (λe:g=f=>hk (h.symm.trans e))]
   ·have hb:(g==k)=false:=beq_eq_false_iff_ne.mpr h;simp only[List.lookup,hb];exact ih
theorem qA (f:Str) (v:V):∀fs:List (Str×V),f∈(me f v fs).map (·.1)/\∀g,g∈fs.map (·.1)->g∈(me f v fs).map (·.1)
 |[]=>⟨by simp[me],λg h=>by simp at h⟩
 |(k,x)::r=>by
  obtain⟨i1,i2⟩:=qA f v r;rw[show me f v ((k,x)::r)=(if k=f then(k,v)::r else(k,x)::me f v r)from rfl]
  by_cases hk:k=f
  ·rw[if_pos hk];subst hk;exact⟨by simp,λg h=>by simpa using h⟩
  ·rw[if_neg hk];refine⟨?_,λg h=>?_⟩
   ·rw[aE];exact ai _ i1
   ·rw[aE]at h ⊢;rcases List.mem_cons.mp h with e|e
    ·exact List.mem_cons.mpr (.inl e)
    ·exact ai _ (i2 g e)
theorem rj (f:Str) (v:V):∀fs:List (Str×V),(me f v fs).length<=fs.length+1
 |[]=>by simp[me]
 |(k,x)::r=>by
  have ih:=rj f v r;rw[show me f v ((k,x)::r)=(if k=f then(k,v)::r else(k,x)::me f v r)from rfl]
  by_cases hk:k=f
  ·rw[if_pos hk,ax,ax];omega
  ·rw[if_neg hk,ax,ax];omega
theorem mT.some_of {v:V}{o:Option cx}(r:mT (some v) o):∃u,o=some u/\RelV v u:=by
 cases o with
 |none=>exact(show False from r).elim
 |some u=>exact⟨u,rfl,r⟩
theorem mT.none_of {o:Option cx}(r:mT none o):o=none:=by
 cases o with
 |none=>rfl
 |some u=>exact(show False from r).elim
theorem CK {v:V}{u:cx}(r:RelV v u):W.handedIn u=true:=by
 cases v with
 |fO=>cases (show u=Value.none from r);rfl
 |bl b=>cases (show u=Value.bool b from r);rfl
 |int i=>obtain⟨t,e⟩:=(show ∃t,u=Value.int i t from r);cases e;rfl
 |str x=>obtain⟨t,e⟩:=(show ∃t,u=Value.str x t from r);cases e;rfl
 |OU b=>obtain⟨t,e⟩:=(show ∃t,u=Value.bytes b t from r);cases e;rfl
 |OV b=>obtain⟨t,e⟩:=(show ∃t,u=Value.float b t from r);cases e;rfl
 |ref a=>cases (show u=Value.ref a from r);rfl
 |ty n=>cases (show u=Value.type n from r);rfl
section
variable {P:cA}{w:cB}{H H':Hp}{h h':Heap}{a C dx:cE}{fs T8:List (Str×V)}
theorem kQ (fC:oC P w H h) (e:H a=some (.ins C dx fs)):∃mA,zM h a dx C mA/\(∀f,mT (fs.lookup f) (mA f))/\PySem.Within mA (fs.map (·.1))/\fs.length<=1000/\H dx=some (.own a):=by
 obtain⟨d,z,ne,ob,mA,n,r,q⟩:=(show gA P w H h a (.ins C dx fs)from fC a _ e)
 exact⟨mA,⟨ob,n,ne⟩,r,q,z,d⟩
end
structure HC (K:W.Frag) (C:cE):Prop where
 pg:W.plainGet K C Str.empty=true
 hd:W.hasDictIn K C=true
 po:W.plainOver K C=true
 sa:W.findIn K (.ref C) "__setattr__"=some (some (.builtin "object.__setattr__"))
theorem HC.get {K:W.Frag}{C:cE}(c:HC K C) (f:Str):W.plainGet K C f=true:=c.pg
def mW (K:W.Frag) (C:cE) (f:Str):Prop:=W.findIn K (.ref C) f=some none
theorem mW.M5 {K:W.Frag}{C:cE}{f:Str}(n:mW K C f):W.takerIn K C f=some none:=by
 unfold W.takerIn;rw[show W.findIn K (.ref C) f=some none from n]
 rfl
structure Meth (K:W.Frag) (C:cE) (m:Str) (f:cE):Prop where
 at_:W.findIn K (.ref C) m=some (some (.ref f))
 fn:W.isFn K (.ref f)=true
 kp:W.keepIn K (.ref f)=true
section
variable {X:Cx}{pins:cm}{σ:St}{H:Hp}{s:cy}{a C dx:cE}{fs:List (Str×V)}{f:Str}{v:V}{A:cC}{E:cj}
theorem zO {b:Bool}{Q:cj}(I:Inv X pins σ H s) (e:H a=some (.ins C dx fs)) (c:HC X.K C) (n:mW X.K C f) (l:fs.lookup f=some v)
  (h:∀u s',Inv X pins σ H s'->RelV v u->Q u s'):wpAny (model X.prog X.w) A (getAttr (.ref a) f b) Q E s:=by
 obtain⟨mA,O,r,_,_,_⟩:=kQ I.fC e;obtain⟨u,hu,ru⟩:=mT.some_of (v:=v) (o:=mA f) (by rw[<-l];exact r f)
 exact get_map I.CA O (c.get f) c.hd n hu (CK ru) (h u _ (I.tok _) ru)
theorem zP {m:Str}{g:cE}{pl:Sem Bool}{Q:cx×cw->cy->Prop}(I:Inv X pins σ H s) (e:H a=some (.ins C dx fs)) (c:HC X.K C) (k:Meth X.K C m g) (l:fs.lookup m=none)
  (h:Q (.ref g,[.ref a]) s):wpAny (model X.prog X.w) A (getMethod (.ref a) m pl) Q E s:=by
 obtain⟨mA,O,r,_,_,_⟩:=kQ I.fC e;have hn:mA m=none:=mT.none_of (by rw[<-l];exact r m)
 exact Eu I.CA O (c.get m) k.at_ k.fn hn h
theorem zQ {y:V}{u:cx}{Q:Unit->cy->Prop}(I:Inv X pins σ H s) (e:H a=some (.ins C dx fs)) (c:HC X.K C) (n:mW X.K C f) (hl:fs.length<1000) (ry:RelV y u)
  (h:∀s',Inv X pins σ (upd H a (.ins C dx (me f y fs))) s'->Q () s'):wpAny (model X.prog X.w) A (setAttr (.ref a) f u) Q E s:=by
 obtain⟨mA,O,r,wi,_,ho⟩:=kQ I.fC e;have hz:(fs.map (·.1)).length<=sizeLine:=by rw[ae,bw];omega
 refine HB I.CA O c.sa c.po n.M5 c.hd wi hz λh' O' sb=>h _ ?_
 have hd:∃o,h'.get? dx=some o:=let ⟨o,_,_,e',_⟩:=O'.ns;⟨o,e'⟩;refine I.write (x:=a) (e:=dx) (by rw[e];exact True.intro) (.inr ho) (λb q hb z=>(sb.2 b hb).trans z) hd ?_
 refine⟨by rw[cK O.ne];exact ho,?_,O.ne,O'.obj,_,O'.ns,λg=>?_,λg hg=>?_⟩
 ·have:=rj f y fs;omega
 ·show mT ((me f y fs).lookup g) (if g=f then some u else mA g)
  rw[gG];by_cases q:g=f
  ·rw[if_pos q,if_pos q];exact ry
  ·rw[if_neg q,if_neg q];exact r g
 ·by_cases q:g=f
  ·rw[q];exact(qA f y fs).1
  ·refine(qA f y fs).2 g (wi g λz=>hg ?_)
   show(if g=f then some u else mA g)=none
   rw[if_neg q];exact z
theorem Inv.made (I:Inv X pins σ H s):Inv X pins σ (upd (upd H s.heap.objs.size (.own (s.heap.objs.size+1))) (s.heap.objs.size+1) (.ins C s.heap.objs.size []))
  {s with heap:=(s.heap.push W.emptyDict).push (W.instObj C s.heap.objs.size)}:=by
 have e1:(s.heap.push W.emptyDict).get? s.heap.objs.size=some W.emptyDict:=ay s.heap rfl;have e2:((s.heap.push W.emptyDict).push (W.instObj C s.heap.objs.size)).get? (s.heap.objs.size+1)=some (W.instObj C s.heap.objs.size):=by
  have:=ay (s.heap.push W.emptyDict) (o:=W.instObj C s.heap.objs.size) rfl
  rwa [Heap.size_push]at this
 have e3:(s.heap.push W.emptyDict).Ns s.heap.objs.size (λ_=>none):=⟨W.emptyDict,#[],_,e1,rfl,(λe he=>absurd he (by simp)),λ_=>rfl⟩
 have I1:=I.laid (a:=s.heap.objs.size) (o:=.own (s.heap.objs.size+1)) (h':=s.heap.push W.emptyDict) (t':=s.toks) (λb u q=>ag _ q) (au _) ⟨_,e1⟩
 refine I1.laid (a:=s.heap.objs.size+1) (o:=.ins C s.heap.objs.size []) (t':=s.toks) (λb u q=>ag _ q) (Nat.le_of_eq (Heap.size_push _ _)) ?_
 have ne:s.heap.objs.size≠s.heap.objs.size+1:=aD (Nat.lt_succ_self _);refine⟨by rw[cK ne,cR],bM _,ne,e2,λ_=>none,(Heap.Ns1.of_empty e3).at λo q=>ag _ q,λ_=>True.intro,λy hy=>absurd rfl hy⟩
theorem HD {prog:cA}{w:cB}{env:Env}{e:cF}{f:Str}{pos:Pos}{s:cy}{Q:cj}(hb:attributeBase e f env (eval e env)=eval e env)
  (h:wpAny (model prog w) A (eval e env) (λo s₁=>wpAny (model prog w) A (getAttr o f true) Q E s₁) E s):wpAny (model prog w) A (eval (.Attribute e f pos) env) Q E s:=
 Attribute_any_ h (by rw[arm_eval_Attribute,hb])
end
noncomputable def M6 (K:W.Frag) (ta:TE) (f:Str):TE:=λσ H Q=>ta σ H λx H1=>∃a C dx fs v,x=.ref a/\H1 a=some (.ins C dx fs)/\HC K C/\mW K C f/\fs.lookup f=some v/\Q v H1
noncomputable def Qf (K:W.Frag) (ta tv:TE) (f:Str):TS:=λD σ H=>tv σ H λy H1=>ta σ H1 λx H2=>∃a C dx fs,x=.ref a/\H2 a=some (.ins C dx fs)/\HC K C/\mW K C f/\fs.length<1000/\
 D.nx σ (upd H2 a (.ins C dx (me f y fs)))
section
variable {X:Cx}{o e value:cF}{f:Str}{pos pos' wy:Pos}{ta tv:TE}
theorem wz (he:PE X e ta) (hb:attributeBase e f X.env (eval e X.env)=eval e X.env):PE X (.Attribute e f pos) (M6 X.K ta f):=by
 intro pins s σ H Q I h;refine HD hb (gM (he pins s σ H _ I h) λu s1 ⟨x,H1,I1,rx,a,C,dx,fs,v,ex,ea,c,n,l,q⟩=>?_)
 subst ex;obtain rfl:u=Value.ref a:=rx;exact zO I1 ea c n l λu' s2 I2 ru=>⟨v,H1,I2,ru,q⟩
theorem Ex (ha:PE X o ta) (hv:PE X value tv) (hs:swapsWith value (some (.Attribute o f pos')) pos.line X.env=pure false):PS X (.Assign [.Attribute o f pos'] value pos) (Qf X.K ta tv f):=by
 intro pins s σ H D I h;refine plainObj_wpAny_Assign_Attribute (gM (hv pins s σ H _ I h) λu s1 ⟨y,H1,I1,ry,q⟩=>gM (ha pins s1 σ H1 _ I1 q) λov s2 ⟨x,H2,I2,rx,a,C,dx,fs,ex,ea,c,n,l,q2⟩=>?_) hs
 subst ex;obtain rfl:ov=Value.ref a:=rx;exact zQ I2 ea c n l ry λs3 I3=>⟨σ,_,I3,q2⟩
end
section
variable {X:Cx}{pins:cm}{σ:St}{H:Hp}{s:cy}{A:cC}{E:cj}{Q:cj}{c:cx}{b:Bool}
end
end L2
namespace L2
open PySem PySem.Spec PyProof.Rows
structure fR (k:Nat) (A:cC):Prop where
 hd:A.handled=none
 dp:A.depth+3*k+5<recursionLimit
 un:A.units+16*k+200<cLine
 gd:A.guards=some []
theorem fR.mono {j k:Nat}{A:cC}(r:fR k A) (h:j<=k):fR j A:=⟨r.hd,by have:=r.dp;omega,by have:=r.un;omega,r.gd⟩
theorem fR.deeper {k:Nat}{A:cC}(r:fR (k+1) A) (env:Env):fR k (A.deeper env):=
 ⟨r.hd,by have:=r.dp;show A.depth+1+3*k+5<_;omega,by have:=r.un;show A.units+3+16*k+200<_;omega,r.gd⟩
theorem zR {A:cC}{C:cE}{us:cw}{kw:List (Str×cx)}:(A.under (.builtin "type.__call__" ⟨.ref C::us,kw⟩)).depth=A.depth+1:=by
 first|rfl|simp[Around.under,Code.weight,Code.isCreation,Code.isGuard,Code.isCaller,Code.frames,Code.isFrame,guardIds]
theorem zS {A:cC}{C:cE}{us:cw}{kw:List (Str×cx)}:(A.under (.builtin "type.__call__" ⟨.ref C::us,kw⟩)).units=A.units+1:=by
 first|rfl|simp[Around.under,Code.cUnits,Code.frames,Code.isFrame]
theorem xW {A:cC}{C:cE}{us:cw}{kw:List (Str×cx)}:(A.under (.builtin "type.__call__" ⟨.ref C::us,kw⟩)).guards=A.guards:=by
 cases A with|mk hd d fr gs u=>cases gs<;>rfl
theorem fR.make {k:Nat}{A:cC}(r:fR (k+1) A) (C:cE) (us:cw) (kw:List (Str×cx)):fR k (A.under (.builtin "type.__call__" ⟨.ref C::us,kw⟩)):=
 ⟨r.hd,by have:=r.dp;rw[zR];omega,by have:=r.un;rw[zS];omega,xW.trans r.gd⟩
theorem fR.depth {k:Nat}{A:cC}(r:fR k A):A.depth<recursionLimit:=by have:=r.dp;omega
theorem fR.units {k:Nat}{A:cC}(r:fR k A):A.units+64<cLine:=by have:=r.un;omega
noncomputable def Qg:TA:=λ_ H Q=>Q [] H
noncomputable def M7 (ta:TE) (tr:TA):TA:=λσ H Q=>ta σ H λx H1=>tr σ H1 λxs H2=>Q (x::xs) H2
section
variable {X:Cx}{e:cF}{es:List cF}{te:TE}{t:TA}{pos:Pos}
theorem sQ:PA X [] Qg:=λ_ _ _ _ H Q I h=>Calls.spliced_nil ⟨[],H,I,.nil,h⟩
theorem pC (ha:PE X e te) (hr:PA X es t) (hs:starEach (e::es) X.env=(false,eval e X.env)::starEach es X.env:=by rfl):PA X (e::es) (M7 te t):=by
 intro pos pins s σ H Q I h;rw[hs];show wpAny _ _ (spliced ((false,eval e X.env)::backTo pos (starEach es X.env))) _ _ s;refine Calls.spliced_cons (gM (ha pins s σ H _ I h) λu s1 ⟨x,H1,I1,r1,q1⟩=>?_)
 exact gM (hr pos pins s1 σ H1 _ I1 q1) λus s2 ⟨xs,H2,I2,r2,q2⟩=>⟨x::xs,H2,I2,.cons r1 r2,q2⟩
noncomputable def Qh (t:TA):TE:=λσ H Q=>t σ H λxs H1=>xs.length<=sizeLine/\∀p,H1 p=none->Q (.ref p) (upd H1 p (.tup xs))
noncomputable def Qi (t:TA):TE:=λσ H Q=>t σ H λxs H1=>xs.length<=sizeLine/\∀p,H1 p=none->Q (.ref p) (upd H1 p (.lst xs))
theorem KH {x1} (h:PA X es t):PE X (.Tuple es x1 pos) (Qh t):=by
 intro pins s σ H Q I hq;refine wpAny_Tuple_spliced (gM (h pos pins s σ H _ I hq) λus s1 ⟨xs,H1,I1,r,z,q⟩=>⟨by rw[<-r.length];exact z,?_⟩)
 have hf:H1 s1.heap.objs.size=none:=I1.fC.fresh (au _);refine⟨.ref s1.heap.objs.size,upd H1 s1.heap.objs.size (.tup xs),I1.laid (t':=s1.toks) (λb u e=>ag _ e) (au _) ?_,rfl,q _ hf⟩
 exact⟨z,us,r,⟨_,ay _ rfl,rfl,_,rfl⟩⟩
theorem KJ (h:PA X es t):PE X (.List es pos) (Qi t):=by
 intro pins s σ H Q I hq;refine wpAny_List_spliced (gM (h pos pins s σ H _ I hq) λus s1 ⟨xs,H1,I1,r,z,q⟩=>⟨by rw[<-r.length];exact z,?_⟩)
 have hf:H1 s1.heap.objs.size=none:=I1.fC.fresh (au _);refine⟨.ref s1.heap.objs.size,upd H1 s1.heap.objs.size (.lst xs),I1.laid (t':=s1.toks) (λb u e=>ag _ e) (au _) ?_,rfl,q _ hf⟩
 exact⟨z,us,0,r,ay _ rfl⟩
end
noncomputable abbrev Sp:=List V->Hp->VK->XK->Prop
noncomputable abbrev CL:=List Env->Hp->cy->XK->cj
structure zT (P:cA) (w:cB) (K:W.Frag) (mg:ck) (base:Heap) (A:cC) (outer:List Env) (s:cy) (H:Hp):Prop where
 frames:A.frames=some outer
 mod:Mod K mg base
 bs:∀b o,base.get? b=some o->s.heap.get? b=some o/\H b=none
 Hf:base.objs.size<=s.heap.objs.size
 rP:s.heap.FunFrames base outer
 Kl:∀b∈D9 outer,H b=none
 fC:oC P w H s.heap
 bare:AllBare s.gens
 tb:Cy K mg base H
theorem Cy.un {K:W.Frag}{mg:ck}{base:Heap}{fs ex:List cE}{H H':Hp}{h h':Heap}(t:Cy K mg base H) (u:Un fs ex H H' h h'):Cy K mg base H':=λx c Pt pos qual hm ht=>by
 obtain⟨⟨m1,e1⟩,hr⟩:=t x c Pt pos qual hm ht;obtain⟨m2,e2⟩:=u.uQ Pt _ e1;exact⟨⟨m1++m2,by rw[e2,Array.append_assoc]⟩,hr⟩
def CE (outer:List Env) (P:cA) (w:cB) (H:Hp) (s:cy) (Q:VK) (u:cx) (s':cy):Prop:=
 ∃v H',s'.os=s.os/\AllBare s'.gens/\Un (D9 outer) [] H H' s.heap s'.heap/\oC P w H' s'.heap/\RelV v u/\Q v H'
def CR (CX:CL) (outer:List Env) (P:cA) (w:cB) (H:Hp) (s:cy) (Q:VK) (E:XK) (r:Result) (s':cy):Prop:=
 match r with
 |.ok (.ret u)=>CE outer P w H s Q u s'
 |.ok _=>False
 |.error e=>CX outer H s E e s'
structure ef (P:cA) (w:cB) (K:W.Frag) (mg:ck) (base:Heap) (CX:CL) (k:Nat) (f:cE) (fd:cz) (ps:List Str) (sp:Sp):Prop where
 len:∀vs H Q E,sp vs H Q E->vs.length=ps.length
 run:∀(A:cC) (outer:List Env) (s:cy) (H:Hp) (args:Args) (us:cw) (vs:List V) (Q:VK) (E:XK),fR k A->zT P w K mg base A outer s H->BindsTo s fd args (ps.zip us)->Vals vs us->sp vs H Q E->
  codeAny (model P w) A (.call (.ref f) args) (CR CX outer P w H s Q E) s
theorem ef.mono {P:cA}{w:cB}{K:W.Frag}{mg:ck}{base:Heap}{CX:CL}{j k:Nat}{f:cE}{fd:cz}{ps:List Str}{sp:Sp}(F:ef P w K mg base CX j f fd ps sp) (h:j<=k):
  ef P w K mg base CX k f fd ps sp:=⟨F.len,λA outer s H args us vs Q E hr=>F.run A outer s H args us vs Q E (hr.mono h)⟩
theorem ef.imp {P:cA}{w:cB}{K:W.Frag}{mg:ck}{base:Heap}{CX:CL}{k:Nat}{f:cE}{fd:cz}{ps:List Str}{sp RY:Sp}(F:ef P w K mg base CX k f fd ps sp)
  (h:∀vs H Q E,RY vs H Q E->sp vs H Q E):ef P w K mg base CX k f fd ps RY:=
 ⟨λvs H Q E q=>F.len vs H Q E (h _ _ _ _ q),λA outer s H args us vs Q E hr he hb hv hs=>F.run A outer s H args us vs Q E hr he hb hv (h _ _ _ _ hs)⟩
theorem zT.make {P:cA}{w:cB}{K:W.Frag}{mg:ck}{base:Heap}{A:cC}{outer:List Env}{s:cy}{H:Hp}(e:zT P w K mg base A outer s H) (C:cE) (us:cw) (kw:List (Str×cx)):
  zT P w K mg base (A.under (.builtin "type.__call__" ⟨.ref C::us,kw⟩)) outer s H:=⟨by first|exact e.frames|(simpa [Around.under,Code.envs,Code.isFrame,pushEnvs]using e.frames),e.mod,e.bs,e.Hf,e.rP,e.Kl,e.fC,e.bare,e.tb⟩
section
variable {X:Cx}{pins:cm}{σ:St}{H:Hp}{s s':cy}
theorem Inv.M8 (I:Inv X pins σ H s):zT X.prog X.w X.K X.mg X.base X.A X.stack s H:=
 ⟨I.ok.frames,I.ok.mod,I.bs,aB I.ok.Hf I.sz,I.stack,I.Bl,I.fC,I.bare,I.ok.tb.un I.base⟩
theorem Inv.after {Q:VK}{u:cx}(I:Inv X pins σ H s) (h:CE X.stack X.prog X.w H s Q u s'):EP X pins σ Q u s':=by
 obtain⟨v,H',os,bare,un,fC,r,q⟩:=h;obtain⟨hh,g,d,t,M9⟩:=s';obtain rfl:M9=s.os:=os;exact⟨v,H',I.call (h':=hh) (g':=g) (d':=d) (t':=t) (ch:=[]) un fC bare (λb z=>absurd z (by simp)),r,q⟩
end
noncomputable def JF (sp:Sp) (wA:List V) (E:XK) (t:TA):TE:=λσ H Q=>t σ H λvs H1=>sp (vs++wA) H1 Q E
noncomputable def Na (C:cE) (m:Str) (sp:Sp) (wA:List V) (E:XK) (ta:TE) (t:TA):TE:=λσ H Q=>ta σ H λx H1=>∃a dx fs,x=.ref a/\H1 a=some (.ins C dx fs)/\fs.lookup m=none/\
 t σ H1 λvs H2=>sp (x::(vs++wA)) H2 Q E
noncomputable def Nb (C:cE) (sp:Sp) (wA:List V) (E:XK) (t:TA):TE:=λσ H Q=>t σ H λvs H1=>∀x dx,H1 x=none->H1 dx=none->dx≠x->
 sp (.ref x::(vs++wA)) (upd (upd H1 dx (.own x)) x (.ins C dx [])) (λv H2=>v=.fO/\Q (.ref x) H2) E
def Binds (K:W.Frag) (fd:cz) (ps:List Str) (ds:cw):Prop:=
 ∀(s:cy) (us:cw),K.In s.heap->(us++ds).length=ps.length->BindsTo s fd ⟨us,[]⟩ (ps.zip (us++ds))
theorem Binds.all {K:W.Frag}{fd:cz}{ps:List Str}(h:∀us:cw,us.length=ps.length->bindArgs fd ⟨us,[]⟩=pure (ps.zip us)):Binds K fd ps []:=λs us _ hl=>by
 rw[bC]at hl ⊢;exact .of_eq (h us hl)
def Passes (CX:CL) (X:Cx) (E:XK):Prop:=∀(pins:cm) (σ:St) (H:Hp) (s:cy) (e:cx) (s':cy),Inv X pins σ H s->CX X.stack H s E e s'->X.xe e s'
section
variable {X:Cx}{CX:CL}{k:Nat}{f C:cE}{fd:cz}{ps:List Str}{sp:Sp}{wA:List V}{ds:cw}{E:XK}{x m:Str}{p pos apos:Pos}{e o:cF}{es:List cF}{ta:TE}{t:TA}
theorem Ey {pins:cm}{σ:St}{H:Hp}{s:cy}{Q:VK}{us:cw}{vs:List V}(F:ef X.prog X.w X.K X.mg X.base CX k f fd ps sp) (hr:fR k X.A) (hb:Binds X.K fd ps ds) (hd:Vals wA ds) (hx:Passes CX X E)
  (I:Inv X pins σ H s) (r:Vals vs us) (h:sp (vs++wA) H Q E):wpAny (model X.prog X.w) X.A (call (.ref f) us) (EP X pins σ Q) X.xe s:=by
 have r2:Vals (vs++wA) (us++ds):=r.append hd;have hl:(us++ds).length=ps.length:=by rw[<-r2.length];exact F.len _ _ _ _ h
 refine wpAny_call (codeAny_mono (F.run X.A X.stack s H ⟨us,[]⟩ (us++ds) (vs++wA) Q E hr I.M8 (hb s us I.CA hl) r2 h) λr s' hq=>?_)
 cases r with
 |error e=>exact hx pins σ H s e s' I hq
 |ok fl=>
  cases fl with
  |ret u=>exact I.after hq
  |next=>exact False.elim hq
  |brk=>exact False.elim hq
  |cont=>exact False.elim hq
theorem HE (F:ef X.prog X.w X.K X.mg X.base CX k f fd ps sp) (hr:fR k X.A) (hg:Gl X x) (hm:X.mg x=some (.ref f)) (hk:W.keepIn X.K (.ref f)=true) (hb:Binds X.K fd ps ds) (hd:Vals wA ds) (hx:Passes CX X E)
  (ha:PA X (e::es) t) (ot:(x==("__debug__":Str))=false:=by decide) (he:starEach (e::es) X.env=(false,eval e X.env)::starEach es X.env:=by rfl) (i9:(backTo pos (starEach es X.env)).any (·.1)=false:=by rfl):
  PE X (.Call (.Name x p) (e::es) [] pos) (JF sp wA E t):=by
 intro pins s σ H Q I h;refine wpAny_Call_Name_kw (wx I hg hm ?_ ot);refine W.callWith_K (h₀:=X.base) I.ok.mod.MG hk (gM (ha pos pins s σ H _ I h) λus s1 ⟨vs,H1,I1,r,q⟩=>⟨I1.CA,?_⟩) he i9
 exact Ey F hr hb hd hx I1 r q
theorem Bv {pl:Sem Bool}(he:PE X o ta) (c:HC X.K C) (hm:Meth X.K C m f) (F:ef X.prog X.w X.K X.mg X.base CX k f fd ps sp) (hr:fR k X.A) (hb:Binds X.K fd ps ds) (hd:Vals wA ds) (hx:Passes CX X E) (ha:PA X (e::es) t)
  (ma:starEach (e::es) X.env=(false,eval e X.env)::starEach es X.env:=by rfl) (i9:(backTo pos (starEach es X.env)).any (·.1)=false:=by rfl)
  (ht:eval (.Call (.Attribute o m apos) (e::es) [] pos) X.env=(do
   let ov <-eval o X.env
   standAt apos.atName
   let (f,first) <-holding [ov] (getMethod ov m pl)
   callWith pos f first (backTo pos (starEach (e::es) X.env)) (backToKw pos (keywordEach [] X.env))):=by rfl):
  PE X (.Call (.Attribute o m apos) (e::es) [] pos) (Na C m sp wA E ta t):=by
 intro pins s σ H Q I h;refine W.methodCall_KW (pl:=pl) (gM (he pins s σ H _ I h) λu s1 ⟨x,H1,I1,rx,a,dx,fs,ex,ea,l,q⟩=>?_) ht
 subst ex;obtain rfl:u=Value.ref a:=rx;refine zP I1 ea c hm l ?_;refine W.callWith_K (first:=[.ref a]) (h₀:=X.base) I.ok.mod.MG hm.kp (gM (ha pos pins s1 σ H1 _ I1 q) λus s2 ⟨vs,H2,I2,r,q2⟩=>⟨I2.CA,?_⟩) ma i9
 exact Ey (us:=.ref a::us) (vs:=.ref a::vs) F hr hb hd hx I2 (.cons rfl r) q2
structure Mk (K:W.Frag) (C f:cE):Prop where
 makes:W.makesIn K C=true
 init:W.findIn K (.ref C) "__init__"=some (some (.ref f))
 fn:W.isFn K (.ref f)=true
 kp:W.keepIn K (.ref C)=true
theorem Ez {pins:cm}{σ:St}{H:Hp}{s:cy}{Q:VK}{us:cw}{vs:List V}(M:Mk X.K C f) (F:ef X.prog X.w X.K X.mg X.base CX k f fd ps sp) (hr:fR (k+1) X.A) (hb:Binds X.K fd ps ds) (hd:Vals wA ds)
  (hx:Passes CX X E) (I:Inv X pins σ H s) (r:Vals vs us)
  (h:∀x dx,H x=none->H dx=none->dx≠x->sp (.ref x::(vs++wA)) (upd (upd H dx (.own x)) x (.ins C dx [])) (λv H2=>v=.fO/\Q (.ref x) H2) E):
  wpAny (model X.prog X.w) X.A (call (.ref C) us) (EP X pins σ Q) X.xe s:=by
 have hq:=h (s.heap.objs.size+1) s.heap.objs.size (I.fC.fresh (Nat.le_succ _)) (I.fC.fresh (au _)) (aD (Nat.lt_succ_self _));have I2:=Inv.made (C:=C) I;have r2:Vals (V.ref (s.heap.objs.size+1)::(vs++wA)) (Value.ref (s.heap.objs.size+1)::(us++ds)):=.cons rfl (r.append hd);have hl:(Value.ref (s.heap.objs.size+1)::us++ds).length=ps.length:=by
  have e:=r2.length;rw[F.len _ _ _ _ hq]at e;exact e.symm
 refine wpAny_call (Ew (f:=f) I.CA M.makes M.init (beq_iff_eq.mp M.fn) (codeAny_mono (F.run _ X.stack _ _ ⟨Value.ref (s.heap.objs.size+1)::us,[]⟩ (Value.ref (s.heap.objs.size+1)::(us++ds)) _ _ E (hr.make C us [])
  (I2.M8.make C us []) (hb _ (Value.ref (s.heap.objs.size+1)::us) I2.CA hl) r2 hq) λr s' Nc=>?_))
 cases r with
 |error e=>exact hx pins σ _ _ e s' I2 Nc
 |ok fl=>
  cases fl with
  |ret u=>
   obtain⟨v,H',I3,rv,ev,q3⟩:=I2.after Nc;subst ev;exact⟨rv,⟨V.ref (s.heap.objs.size+1),H',I3,rfl,q3⟩⟩
  |next=>exact False.elim Nc
  |brk=>exact False.elim Nc
  |cont=>exact False.elim Nc
theorem HF (M:Mk X.K C f) (F:ef X.prog X.w X.K X.mg X.base CX k f fd ps sp) (hr:fR (k+1) X.A) (hg:Gl X x) (hm:X.mg x=some (.ref C)) (hb:Binds X.K fd ps ds) (hd:Vals wA ds) (hx:Passes CX X E)
  (ha:PA X (e::es) t) (ot:(x==("__debug__":Str))=false:=by decide) (he:starEach (e::es) X.env=(false,eval e X.env)::starEach es X.env:=by rfl) (i9:(backTo pos (starEach es X.env)).any (·.1)=false:=by rfl):
  PE X (.Call (.Name x p) (e::es) [] pos) (Nb C sp wA E t):=by
 intro pins s σ H Q I h;refine wpAny_Call_Name_kw (wx I hg hm ?_ ot);refine W.callWith_K (h₀:=X.base) I.ok.mod.MG M.kp (gM (ha pos pins s σ H _ I h) λus s1 ⟨vs,H1,I1,r,q⟩=>⟨I1.CA,?_⟩) he i9
 exact Ez M F hr hb hd hx I1 r q
end
section
variable {X:Cx}{CX:CL}{k:Nat}{f C:cE}{fd:cz}{ps ks:List Str}{sp:Sp}{E:XK}{x m:Str}{p pos apos Ue:Pos}{e o:cF}{es:List cF}{YE:List Keyword}{te ta:TE}{t tk:TA}{nm:Option Str}
variable {g:cw->cw->cw}{gV:List V->List V->List V}
end
structure dw (N P:List Str) (sc:Scope):Prop where
 kind:sc.kind=.function:=by rfl
 co:sc.isCoroutine=false:=by rfl
 gen:sc.isGenerator=false:=by rfl
 nd:N.Nodup:=by decide +kernel
 pre:N.take P.length=P:=by rfl
 par:∀x∈P,sc.names.lookup x=some .local\/sc.names.lookup x=some .cell:=by decide +kernel
 KL:∀y∈sc.names,y.2≠.free:=by decide +kernel
theorem vy {kindOf:Str->Option NameKind}{x:Str}:∀{binds:List (Str×cx)}{m:ck},(∀v,(x,v)∉binds)->bindL kindOf binds m x=m x
 |[],_,_=>rfl
 |(n,v)::r,m,h=>by
  unfold bindL;rw[vy λw hw=>h w (ai _ hw)]
  split
  ·have:x≠n:=by rintro rfl;exact h v af
   simp[this]
  ·rfl
theorem vz {kindOf:Str->Option NameKind}{x:Str}:∀{binds:List (Str×cx)}{m:ck},(∀v,(x,v)∉binds)->bindC kindOf binds m x=m x
 |[],_,_=>rfl
 |(n,v)::r,m,h=>by
  unfold bindC;rw[vz λw hw=>h w (ai _ hw)]
  split
  ·rfl
  ·have:x≠n:=by rintro rfl;exact h v af
   simp[this]
theorem vA {kindOf:Str->Option NameKind}{x:Str}{v:cx}:∀{P:List Str}{vs:cw}{i:Nat}{m:ck},P.Nodup->P[i]? =some x->vs[i]? =some v->kindOf x=some .local->
  bindL kindOf (P.zip vs) m x=some v
 |[],_,_,_,_,h,_,_=>by simp at h
 |_::_,[],_,_,_,_,h,_=>by simp at h
 |p::P,w::vs,0,m,nd,h1,h2,hk=>by
  simp at h1 h2;subst h1;subst h2;show bindL kindOf ((p,w)::P.zip vs) m p=_;unfold bindL;rw[vy λv hv=>(List.nodup_cons.mp nd).1 (List.of_mem_zip hv).1,if_pos hk]
  simp
 |p::P,w::vs,i+1,m,nd,h1,h2,hk=>by
  show bindL kindOf ((p,w)::P.zip vs) m x=_;unfold bindL;exact vA (i:=i) (List.nodup_cons.mp nd).2 (by simpa using h1) (by simpa using h2) hk
theorem vB {kindOf:Str->Option NameKind}{x:Str}{v:cx}:∀{P:List Str}{vs:cw}{i:Nat}{m:ck},P.Nodup->P[i]? =some x->vs[i]? =some v->kindOf x≠some .local->
  bindC kindOf (P.zip vs) m x=some v
 |[],_,_,_,_,h,_,_=>by simp at h
 |_::_,[],_,_,_,_,h,_=>by simp at h
 |p::P,w::vs,0,m,nd,h1,h2,hk=>by
  simp at h1 h2;subst h1;subst h2;show bindC kindOf ((p,w)::P.zip vs) m p=_;unfold bindC;rw[vz λv hv=>(List.nodup_cons.mp nd).1 (List.of_mem_zip hv).1,if_neg hk]
  simp
 |p::P,w::vs,i+1,m,nd,h1,h2,hk=>by
  show bindC kindOf ((p,w)::P.zip vs) m x=_;unfold bindC;exact vB (i:=i) (List.nodup_cons.mp nd).2 (by simpa using h1) (by simpa using h2) hk
noncomputable def start (N:List Str) (vs:List V):St:=vs.map some++List.replicate (N.length-vs.length) none
noncomputable def oW (CX:CL) (P:cA) (w:cB) (K:W.Frag) (mg:ck) (base:Heap) (N:List Str) (qual:Str) (scope:Scope) (f:cE) (cd:cx) (A:cC) (outer:List Env) (s:cy) (H:Hp) (E:XK):Cx where
 prog:=P
 w:=w
 K:=K
 mg:=mg
 base:=base
 A:=A.deeper (envOfC qual scope s.heap.objs.size f cd)
 N:=N
 s₀:=s
 H₀:=H
 env:=envOfC qual scope s.heap.objs.size f cd
 outer:=outer
 stack:=envOfC qual scope s.heap.objs.size f cd::outer
 ex:=[]
 calm:=true
 fn:=λ_=>true
 pn:=[]
 xe:=λe s'=>wpAny (model P w) (A.deeper (envOfC qual scope s.heap.objs.size f cd)) (leaving (envOfC qual scope s.heap.objs.size f cd) e) (λ_ Ea=>CX outer H s E e Ea) (λe' Ea=>CX outer H s E e' Ea) s'
theorem xX {sc:Scope}{n:Nat}{x:Str}(h:sc.names.lookup x=some .cell):∃c,(cellsFrom n sc.names []).lookup x=some c:=by
 have q:=W.cellsFrom_some sc.names n [] (.inl h);exact Option.isSome_iff_exists.mp q
theorem CM {CX:CL}{P:cA}{w:cB}{K:W.Frag}{mg:ck}{base:Heap}{N ps:List Str}{qual:Str}{scope:Scope}{f:cE}{cd:cx}{A:cC}{outer:List Env}{s s1:cy}{H:Hp}{E:XK}{us:cw}{vs:List V}
  (S:dw N ps scope) (hd:A.handled=none) (e0:zT P w K mg base A outer s H) (hl:vs.length=ps.length) (r:Vals vs us)
  (x:InCallC s s.heap.objs.size (bindL (envOfC qual scope s.heap.objs.size f cd).kindOf (ps.zip us) λ_=>none) (cellsFrom (s.heap.objs.size+1) scope.names []) (bindC (envOfC qual scope s.heap.objs.size f cd).kindOf (ps.zip us) λ_=>none) s1):
  Inv (oW CX P w K mg base N qual scope f cd A outer s H E) [] (start N vs) H s1:=by
 have i9:ps.length<=N.length:=by have:=congrArg List.length S.pre;rw[bK]at this;omega
 obtain⟨h1,tk,rfl,hk⟩:=x.done;have Nd:∀b:cE,b∉(oW CX P w K mg base N qual scope f cd A outer s H E).ex:=λb z=>absurd (show b∈([]:List cE)from z) (by simp)
 refine⟨⟨e0.mod,S.kind,rfl,rfl,au _,λy z c h1 h2=>?_,λy hy=>?_,λy c _ h=>?_,λ_=>hd,Around.frames_deeper e0.frames,.inr ⟨rfl,rfl⟩,λb z=>absurd z (Nd b),e0.bs,e0.Hf,λb _ _=>Nd b,λb z=>absurd z (Nd b),e0.rP,e0.Kl,e0.tb⟩,
  rfl,e0.bare,Un.kept hk,⟨_,x.toInCall.ns,λi y v h1 h2 h3=>?_⟩,λy c h=>⟨_,x.cell y c h⟩,e0.fC.fresh (au _),λy c h=>?_,λp hp=>absurd (show p∈([]:cm)from hp) (by simp),e0.fC.kept hk,?_⟩
 ·exact name_of_addr x.apart (PySem.mem_of_lookup h1) (PySem.mem_of_lookup h2)
 ·have hy:scope.names.lookup y=some .cell\/scope.names.lookup y=some .free:=hy;rcases hy with hy|hy
  ·exact xX hy
  ·exact absurd rfl (S.KL _ (PySem.mem_of_lookup hy))
 ·exact bg (x.above y c (PySem.mem_of_lookup h))
 ·have hi:i<vs.length:=by
   unfold start at h2;by_cases hi:i<vs.length
   ·exact hi
   ·rw[aP (by simpa using hi)]at h2
    rw[bf]at h2;split at h2<;>cases h2
  have ha:vs[i]? =some v:=by
   unfold start at h2;rw[aJ (by simpa using hi),av]at h2
   cases e:vs[i]? with
   |none=>rw[e]at h2;cases h2
   |some a=>rw[e]at h2;cases h2;rfl
  obtain⟨u,hu,rv⟩:=r.get ha;have hp:ps[i]? =some y:=by
   rw[<-S.pre,List.getElem?_take_of_lt (by omega)];exact h1
  have RZ:ps.Nodup:=by rw[<-S.pre];exact S.nd.sublist (List.take_sublist _ _)
  refine⟨u,rv,?_⟩;rcases S.par y (bh hp)with k|k
  ·exact .inl ⟨k,vA RZ hp hu k⟩
  ·obtain⟨c,e⟩:=xX (n:=s.heap.objs.size+1) k;refine .inr ⟨.inl k,c,e,?_⟩;have q:=x.cell y c e;rw[vB RZ hp hu (by show scope.names.lookup y≠_;rw[k];decide)]at q
   exact q
 ·exact e0.fC.fresh (bg (x.above y c (PySem.mem_of_lookup h)))
 ·unfold start;show _=N.length;rw[aQ,ae,List.length_replicate];omega
theorem JG {CX:CL}{P:cA}{w:cB}{K:W.Frag}{mg:ck}{base:Heap}{k:Nat}{f:cE}{name qual:Str}{params:Arguments}{body:List cG}{scope:Scope}{dV kV doc pm fS ct oc:cx}{an od:cq}
  {HG:cu}{N ps:List Str}{sp:Sp}(lk:K.lookup f=some ⟨oc,od,.func (W.fnOf name qual params body scope dV kV doc pm an fS ct),HG⟩) (uS:W.codeIn K fS qual=true) (S:dw N ps scope)
  (len:∀vs H Q E,sp vs H Q E->vs.length=ps.length)
  (jB:∀(A:cC) (outer:List Env) (s:cy) (H:Hp) (vs:List V) (Q:VK) (E:XK),fR k (A.deeper (envOfC qual scope s.heap.objs.size f fS))->sp vs H Q E->
   ∃t,vv (oW CX P w K mg base N qual scope f fS A outer s H E) body t/\t {nx:=λ_ H'=>Q .fO H',rt:=Q} (start N vs) H):
  ef P w K mg base CX (k+1) f (W.fnOf name qual params body scope dV kV doc pm an fS ct) ps sp:=by
 refine⟨len,λA outer s H args us vs Q E hr e0 hb r Hh=>?_⟩
 have hl:=len _ _ _ _ Hh;have KX:K.In s.heap:=e0.mod.MG.keeps λb o e=>(e0.bs b o e).1
 have lim:s.heap.NoLimit:=e0.mod.nolimit.keeps λb o e=>(e0.bs b o e).1
 have Nf:∀y∈ps.zip us,scope.names.lookup y.1=some .local\/(scope.names.lookup y.1=some .cell/\((cellsFrom (s.heap.objs.size+1) scope.names []).lookup y.1).isSome=true):=λ⟨n,v⟩ hy=>by
  rcases S.par n (List.of_mem_zip hy).1 with q|q
  ·exact .inl q
  ·exact .inr ⟨q,W.cellsFrom_some _ _ _ (.inl q)⟩
 refine codeAny_call_function hr.depth (KX _ _ lk) rfl S.co S.gen rfl (W.codeRec_of KX uS) (hb _ _ _ _ ?_);refine wpAny_newFunctionEnv_cells S.kind Nf λenv he s1 x=>?_
 subst he;refine⟨lim.keeps x.toInCall.keep,codeAny_func ?_⟩;obtain⟨t,ht,hq⟩:=jB A outer s H vs Q E (hr.deeper _) Hh;have I:Inv (oW CX P w K mg base N qual scope f fS A outer s H E) [] (start N vs) H s1:=CM S hr.hd e0 hl r x;refine bQ (ht [] s1 (start N vs) H _ I hq) (λfl s' hs=>?_) λe s' hs=>hs
 have fin:∀{σ':St}{H':Hp}{v:V}{u:cx},Inv (oW CX P w K mg base N qual scope f fS A outer s H E) [] σ' H' s'->RelV v u->Q v H'->CE outer P w H s Q u s':=
  λ{σ' H' v u} J rv q=>⟨v,H',J.os,J.bare,J.base,J.fC,rv,q⟩
 cases fl with
 |ret u=>
  obtain⟨v,σ',H',J,rv,q⟩:=hs;exact fin J rv q
 |next=>
  obtain⟨σ',H',J,q⟩:=hs;exact fin (v:=V.fO) (u:=Value.none) J rfl q
 |brk=>
  obtain⟨_,_,_,q⟩:=hs;exact False.elim q
 |cont=>
  obtain⟨_,_,_,q⟩:=hs;exact False.elim q
end L2
namespace L2
open PySem PySem.Spec PyProof.Rows
section
variable {X:Cx}{x:Str}{p pos:Pos}{e:cF}{es:List cF}{t:TA}{id T:String}{r:List V->Hp->VK->Prop}
noncomputable def O1 (r:List V->Hp->VK->Prop) (t:TA):TE:=λσ H Q=>t σ H λvs H1=>r vs H1 Q
theorem xY (hc:hU X (.builtin id) r) (hg:Gl X x) (hm:X.mg x=none) (hv:bootBuiltins x=some (.builtin id)) (ha:PA X (e::es) t) (hn:x≠"__name__":=by decide) (ot:(x==("__debug__":Str))=false:=by decide)
  (he:starEach (e::es) X.env=(false,eval e X.env)::starEach es X.env:=by rfl) (i9:(backTo pos (starEach es X.env)).any (·.1)=false:=by rfl):PE X (.Call (.Name x p) (e::es) [] pos) (O1 r t):=by
 intro pins s σ H Q I h;refine wpAny_Call_Name_kw (oV I hg hm hv ?_ hn ot);exact PyProof.Rows.callWith_builtin1 (gM (ha pos pins s σ H _ I h) λus s1 ⟨vs,H1,I1,r1,q1⟩=>hc pins s1 σ H1 vs us Q I1 r1 q1) he i9
theorem qC (hc:hU X (.type T) r) (hg:Gl X x) (hm:X.mg x=none) (hv:bootBuiltins x=some (.type T)) (ha:PA X (e::es) t) (hn:x≠"__name__":=by decide) (ot:(x==("__debug__":Str))=false:=by decide)
  (he:starEach (e::es) X.env=(false,eval e X.env)::starEach es X.env:=by rfl) (i9:(backTo pos (starEach es X.env)).any (·.1)=false:=by rfl):PE X (.Call (.Name x p) (e::es) [] pos) (O1 r t):=by
 intro pins s σ H Q I h;refine wpAny_Call_Name_kw (oV I hg hm hv ?_ hn ot);exact PyProof.Rows.callWith_type1 (gM (ha pos pins s σ H _ I h) λus s1 ⟨vs,H1,I1,r1,q1⟩=>hc pins s1 σ H1 vs us Q I1 r1 q1) he i9
end
end L2
namespace HT
open PySem PyProof.Rows
noncomputable def lexLt:cp->cp->Bool
 |[],[]=>false
 |[],_::_=>true
 |_::_,[]=>false
 |x::xs,y::ys=>if x=y then lexLt xs ys else decide (x<y)
theorem ik (x y:Int) (xs ys:cp):lexLt (x::xs) (y::ys)=if x=y then lexLt xs ys else decide (x<y):=rfl
theorem uU:lexLt [] []=false:=rfl
theorem mX (y:Int) (ys:cp):lexLt [] (y::ys)=true:=rfl
theorem mY (x:Int) (xs:cp):lexLt (x::xs) []=false:=rfl
theorem EA (A:cC) (s:cy) (a:Int) (t:Tok) (c:Int) (u:Tok):∃e,SeqAt.EqAt A s (.int a t) (.int c u) e/\(e=true↔a=c):=
 ⟨(a==c),SeqAt.EqAt.int_int a t c u,by simp⟩
theorem EB (A:cC) (s:cy) (a:Int) (t:Tok) (c:Int) (u:Tok) (prog:cA) (w:cB) (E:cj) (Q:cj) (h:Q (.bool (decide (a<c))) s):
  wpAny (model prog w) A (richCompare .Lt (.int a t) (.int c u)) Q E s:=
 (PyProof.Rows.lt_int h:wpAny (model prog w) A (compareOp .Lt (.int a t) (.int c u)) Q E s)
section
open PySem.SeqAt
open PySem.AutoSeq1 (wpAny_loadPart')
open PySem.MeetsSeq PySem.MeetsSeq2 PySem.MeetsSeq3
theorem oF (l b:cE) (items fT:Array cx) (n n2:Nat) (dd Hi:cq) (sl EC:cu) (ns ms:cp) (hi:IntsAre items.toList ns) (hj:IntsAre fT.toList ms):
  Meets (Builtin.«tuple.__lt__» ⟨[.ref l,.ref b],[]⟩)
   (λ_ R s=>s.heap.get? l=some {cls:=.type "tuple",dict:=dd,data:=.seq items n,slots:=sl}/\s.heap.get? b=some {cls:=.type "tuple",dict:=Hi,data:=.seq fT n2,slots:=EC}/\
    R (.ok (.ret (.bool (lexLt ns ms)))) s):=
 .of_wp λprog w A R s h=>by
  obtain⟨hp,g,d,tk,os⟩:=s;obtain⟨hl,hb,h⟩:=h;have f2:=AutoSeq1.sub_tuple_tuple;have z1:items.size=ns.length:=by rw[<-hi.length];simp
  have z2:fT.size=ms.length:=by rw[<-hj.length];simp
  wp_walk using wpAny_loadPart' hl,wpAny_loadPart' hb,wpAny_forIn_list _ (λrest b s'=>b.1=none/\s'=⟨hp,g,d,tk,os⟩/\∃(vs ws:cw) (xP Mu:cp),rest=vs.zip ws/\
   IntsAre vs xP/\IntsAre ws Mu/\xP.length+fT.size=Mu.length+items.size/\R (.ok (.ret (.bool (lexLt xP Mu)))) ⟨hp,g,d,tk,os⟩) _
  case turn=>
   rintro⟨y,x⟩ rest b s' ⟨HH,rfl,vs,ws,xP,Mu,hz,Qj,O2,hlen,hR⟩
   cases Qj with
   |nil=>rw[List.zip_nil_left]at hz;cases hz
   |cons a t Qk=>
    cases O2 with
    |nil=>rw[List.zip_nil_right]at hz;cases hz
    |cons c u Ql=>
     rw[List.zip_cons_cons]at hz;injection hz with Ug Ng
     injection Ug with hy hx
     subst hy hx;rw[ik]at hR;simp only[ax]at hlen;obtain⟨e,he,Nh⟩:=EA A.in1 ⟨hp,g,d,tk,os⟩ a t c u;refine aa (he prog w _ _ ?_);cases e with
     |true=>
      rw[if_pos (Nh.mp rfl)]at hR
      wp_walk
      exact⟨rfl,rfl,_,_,_,_,Ng,Qk,Ql,by omega,hR⟩
     |false=>
      rw[if_neg (λq=>absurd (Nh.mpr q) aZ)]at hR
      have Uh:=EB A.in1 ⟨hp,g,d,tk,os⟩ a t c u prog w
      wp_walk using Uh
      exact⟨_,rfl,by simpa using hR⟩
  case fin=>
   rintro⟨b1,b2⟩ s' ⟨HH,rfl,vs,ws,xP,Mu,hz,Qj,O2,hlen,hR⟩
   simp only at HH;subst HH;have hv:lexLt xP Mu=decide (items.size<fT.size):=by
    cases Qj with
    |nil=>
     cases O2 with
     |nil=>
      simp only[List.length_nil]at hlen;rw[uU];exact(aG (by omega)).symm
     |cons c u hw=>
      simp only[List.length_nil,ax]at hlen;rw[mX];exact(aR (by omega)).symm
    |cons a t hv=>
     cases O2 with
     |nil=>
      simp only[List.length_nil,ax]at hlen;rw[mY];exact(aG (by omega)).symm
     |cons c u hw=>
      rw[List.zip_cons_cons]at hz;cases hz
   rw[hv]at hR
   wp_walk
   exact⟨_,rfl,by simpa [Builtin.Tuple.tupleCompareSizes]using hR⟩
  case h=>
   exact⟨rfl,rfl,items.toList,fT.toList,ns,ms,rfl,hi,hj,by omega,h⟩
end
section
variable {prog:cA}{w:cB}{A:cC}{E:cj}{s:cy}
theorem sR {l b:cE}{items fT:Array cx}{ns ms:cp}{Q:cj}(hl:IsTup s.heap l items) (hb:IsTup s.heap b fT) (hi:IntsAre items.toList ns) (hj:IntsAre fT.toList ms)
  (hu:A.units<cLine) (h:Q (.bool (lexLt ns ms)) s):wpAny (model prog w) A (compareOp .Lt (.ref l) (.ref b)) Q E s:=by
 obtain⟨⟨cls,dd,data,sl⟩,ho,hc,n,hd⟩:=id hl;obtain⟨⟨KN,Hi,data2,EC⟩,rQ,rk,n2,hd2⟩:=id hb;simp only at hc hd rk hd2;subst hc hd rk hd2;exact richCompare_meets_room (op:=.Lt) ⟨_,ho,rfl⟩ ⟨_,rQ,rfl⟩ PySem.F.slot_tuple_lt PySem.F.entry_tuple_lt (PySem.F.args_tuple_lt_2 _ _) (oF l b items fT n n2 dd Hi sl EC ns ms hi hj)
  ⟨ho,rQ,show Value.bool (lexLt ns ms)≠Value.notImplemented/\Q (.bool (lexLt ns ms)) s from⟨(λx=>nomatch x),h⟩⟩ hu
theorem HI {t b:cE}{vs ws:cw}{Q:cj}(ht:IsTup s.heap t vs.toArray) (hb:IsTup s.heap b ws.toArray) (hv:vs≠[])
  (h1:ws=[]->Q (.ref t) s) (h2:ws≠[]->Q (.ref s.heap.objs.size) {s with heap:=s.heap.push {cls:=.type "tuple",data:=.seq (vs++ws).toArray}})
  (hsz:vs.length+ws.length<=sizeLine):wpAny (model prog w) A (binaryOp .Add (.ref t) (.ref b)) Q E s:=by
 obtain⟨⟨cls,dd,data,sl⟩,ho,hc,n,hd⟩:=id ht;obtain⟨⟨KN,Hi,data2,EC⟩,rQ,rk,n2,hd2⟩:=id hb;simp only at hc hd rk hd2;subst hc hd rk hd2;have e:vs.toArray++ws.toArray=(vs++ws).toArray:=by simp
 by_cases hw:ws=[]
 ·exact concat_meets ⟨_,ho,rfl⟩ ⟨_,rQ,rfl⟩ noFill_tuple_add seq_tuple_add PySem.F.slot_tuple_add PySem.F.entry_tuple_add (PySem.F.args_tuple_add_2 _ _)
   (tuple_addW1 t b vs.toArray ws.toArray n n2 dd Hi sl EC (by simpa using hv) (by simp[hw])) ⟨ho,rQ,h1 hw⟩
 ·refine concat_meets ⟨_,ho,rfl⟩ ⟨_,rQ,rfl⟩ noFill_tuple_add seq_tuple_add PySem.F.slot_tuple_add PySem.F.entry_tuple_add (PySem.F.args_tuple_add_2 _ _)
   (tuple_addW2 t b vs.toArray ws.toArray n n2 dd Hi sl EC (by simpa using hv) (by simpa using hw) (by rw[aq,aq];exact hsz)) ⟨ho,rQ,?_⟩
  rw[e];exact h2 hw
noncomputable def iP (n d:Nat):Option Int->Nat
 |none=>d
 |some v=>if v<0 then(v+(n:Int)).toNat else min v.toNat n
theorem KO (n d:Nat) (hd:d<=n) (o:Option Int):iP n d o<=n:=by
 cases o with
 |none=>exact hd
 |some v=>
  show(if v<0 then(v+(n:Int)).toNat else min v.toNat n)<=n
  by_cases hv:v<0
  ·rw[if_pos hv];omega
  ·rw[if_neg hv];exact Nat.min_le_right _ _
theorem Bw (v:Int) (n d:Nat):(if v<0 then max (v+(n:Int)) 0 else min v (n:Int))=((iP n d (some v):Nat):Int):=by
 show(if v<0 then max (v+(n:Int)) 0 else min v (n:Int))=(((if v<0 then(v+(n:Int)).toNat else min v.toNat n):Nat):Int)
 by_cases hv:v<0
 ·simp only[if_pos hv];omega
 ·simp only[if_neg hv];omega
theorem zU (lo hi:Option Int) (n:Nat):Builtin.Slice.sliceAdjust lo hi 1 (n:Int)=(((iP n 0 lo:Nat):Int),((iP n n hi:Nat):Int)):=by
 have h1:¬ ((1:Int)<0):=by omega
 unfold Builtin.Slice.sliceAdjust;simp only[h1,bE];refine Prod.ext ?_ ?_
 ·cases lo with
  |none=>rfl
  |some v=>exact Bw v n 0
 ·cases hi with
  |none=>rfl
  |some v=>exact Bw v n n
theorem zV (i j:Nat):Builtin.Slice.slicePlaces (i:Int) (j:Int) 1=j-i:=by
 unfold Builtin.Slice.slicePlaces;have h1:(1:Int)>0:=by omega
 simp only[h1,if_true,Int.ediv_one];split<;>omega
theorem sS {v:cx}{o:Option Int}{Q:Option Int->cy->Prop}(p:IsPart v o) (h:Q o s):wpAny (model prog w) A (Builtin.Slice.slicePartIndex v) Q E s:=by
 cases p with
 |none=>exact slicePart_none h
 |int i t=>exact slicePart_int h
theorem lA {sl:cE}{vl vu:cx}{lo hi:Option Int}{n:Nat}{Q:Int×Int×Nat->cy->Prop}(hs:s.heap.IsSliceOf sl vl vu .none) (pl:IsPart vl lo) (pu:IsPart vu hi)
  (h:Q (((iP n 0 lo:Nat):Int),1,iP n n hi-iP n 0 lo) s):wpAny (model prog w) A (Builtin.Slice.sliceApplied (.ref sl) (pure (n:Int))) Q E s:=by
 obtain⟨os,KP,O3,Ni⟩:=id hs;unfold Builtin.Slice.sliceApplied Builtin.Slice.sliceFields;refine aa (aa (wpAny_field KP Ni (x:=vl) rfl (aa (wpAny_field KP Ni (x:=vu) rfl (aa (wpAny_field KP Ni (x:=.none) rfl (aj ?_)))))));refine aa (slicePart_none ?_);show wpAny _ _ (if((1:Int)==0)=true then _ else _) _ _ s
 rw[if_neg (by decide)]
 refine aa (sS pl (aa (sS pu (aa (aj ?_)))));show wpAny _ _ (match Builtin.Slice.sliceAdjust lo hi 1 (n:Int)with|(lo,hi)=>pure (lo,(1:Int),Builtin.Slice.slicePlaces lo hi 1)) _ _ s
 rw[zU lo hi n];show wpAny _ _ (pure (((iP n 0 lo:Nat):Int),(1:Int),Builtin.Slice.slicePlaces ((iP n 0 lo:Nat):Int) ((iP n n hi:Nat):Int) 1)) _ _ s;rw[zV];exact aj h
theorem ED (xs:Array cx) (i k:Nat):((List.range k).filterMap λ(m:Nat)=>xs[((i:Int)+(m:Int)*1).toNat]?).toArray=((xs.toList.drop i).take k).toArray:=by
 have e:(λ(m:Nat)=>xs[((i:Int)+(m:Int)*1).toNat]?)=λm=>xs[i+m]? :=by
  funext m
  have:((i:Int)+(m:Int)*1).toNat=i+m:=by omega
  rw[this]
 rw[e];have:=pick_run xs i k;rw[List.filterMap_map]at this;have e2:((λx=>xs[x]?)∘λx=>i+x)=λm=>xs[i+m]? :=rfl
 rw[e2]at this;rw[this]
theorem pD {t sl:cE}{items:Array cx}{vl vu:cx}{lo hi:Option Int}{Q:cj}(ht:IsTup s.heap t items) (hs:s.heap.IsSliceOf sl vl vu .none) (pl:IsPart vl lo) (pu:IsPart vu hi)
  (hw:¬ (iP items.size 0 lo=0/\iP items.size items.size hi=items.size))
  (h:Q (.ref s.heap.objs.size) {s with heap:=s.heap.push {cls:=.type "tuple",data:=.seq ((items.toList.drop (iP items.size 0 lo)).take (iP items.size items.size hi-iP items.size 0 lo)).toArray}})
  (hsz:items.size<=sizeLine):wpAny (model prog w) A (getItem (.ref t) (.ref sl)) Q E s:=by
 have Bx:sizeOk (.seq ((items.toList.drop (iP items.size 0 lo)).take (iP items.size items.size hi-iP items.size 0 lo)).toArray):=by
  show((items.toList.drop (iP items.size 0 lo)).take (iP items.size items.size hi-iP items.size 0 lo)).toArray.size<=sizeLine;rw[aq,bK,List.length_drop,aN];omega
 have hj:iP items.size items.size hi<=items.size:=KO _ _ (au _) hi;obtain⟨os,KP,O3,Ni⟩:=id hs;have Qm:s.TypeIs (.ref sl) "slice":=⟨os,KP,O3⟩;unfold getItem;try with_reducible refine bo ?_
 first|refine aa (aj ?_)|skip
 refine aa (wpAny_sequenceKey ht.typeIs (by decide) ?_)
 refine aa (wpAny_callSpecial?_slot (name:=Str.ofString "__getitem__") ht.typeIs PyProof.Rows.slot_tuple_getitem
  (bN PyProof.Rows.slot_tuple_getitem ht.typeIs entry_tuple_getitem ?_ (args_tuple_getitem _ _)))
 show wpAny _ _ (Builtin.Tuple.tupleItemsOf (.ref t)>>=_) _ _ s;refine aa (tupleItemsOf_ ht ?_);refine aa (wpAny_typeOf Qm ?_);rw[if_pos (by decide)]
 refine aa (lA hs pl pu ?_);have Ui:¬ ((((iP items.size 0 lo:Nat):Int)==0&&(1:Int)==1&&(iP items.size items.size hi-iP items.size 0 lo)==items.size)=true):=by
  intro q;rw[Bool.and_eq_true,Bool.and_eq_true]at q;have q1:((iP items.size 0 lo:Nat):Int)=0:=eq_of_beq q.1.1;have q2:iP items.size items.size hi-iP items.size 0 lo=items.size:=eq_of_beq q.2;exact hw ⟨by omega,by omega⟩
 show wpAny _ _ (if(((iP items.size 0 lo:Nat):Int)==0&&(1:Int)==1&&(iP items.size items.size hi-iP items.size 0 lo)==items.size)=true then _ else _) _ _ s
 rw[if_neg Ui,ED]
 first
  |exact aa (m:=Builtin.Tuple.tupleExact _) (bS (aj ⟨_,rfl,aj h⟩) Bx)
  |exact aa (m:=Builtin.Tuple.tupleExact _) (bS (aa (aj (aj ⟨_,rfl,aj h⟩))) Bx)
  |exact aa (aa (m:=Builtin.Tuple.tupleExact _) (bS (aj (aj ⟨_,rfl,aj h⟩)) Bx))
  |exact aa (aa (m:=Builtin.Tuple.tupleExact _) (bS (aj ⟨_,rfl,aj h⟩) Bx))
end
end HT
namespace L2
open PySem PySem.Spec PyProof.Rows
noncomputable abbrev TO:=St->Hp->(Option Int->Hp->Prop)->Prop
def PO (X:Cx) (e:Option cF) (t:TO):Prop:=
 ∀(pins:cm) (s:cy) (σ:St) (H:Hp) (Q:Option Int->Hp->Prop),Inv X pins σ H s->t σ H Q->
  wpAny (model X.prog X.w) X.A (evalPart e X.env) (λu s'=>∃o H',Inv X pins σ H' s'/\IsPart u o/\Q o H') X.xe s
noncomputable def HJ:TO:=λ_ H Q=>Q none H
noncomputable def Nj (t:TE):TO:=λσ H Q=>t σ H λx H1=>∃i,x=.int i/\Q (some i) H1
theorem intsAre_of {ns:cp}:∀{us:cw},Vals (ns.map V.int) us->IntsAre us ns:=by
 induction ns with
 |nil=>intro us r;rw[List.map_nil]at r;cases r;exact .nil
 |cons n ns ih=>
  intro us r;rw[aE]at r;cases r with
  |cons r1 r2=>
   obtain⟨t,e⟩:=r1;subst e;exact .cons n t (ih r2)
section
variable {X:Cx}{e:cF}{te:TE}{lo hi:Option cF}{tl th:TO}{pos p2:Pos}
theorem HK:PO X none HJ:=by
 intro pins s σ H Q I h;rw[evalPart_none];exact aj ⟨none,H,I,.none,h⟩
theorem HL (h:PE X e te):PO X (some e) (Nj te):=by
 intro pins s σ H Q I hw;rw[evalPart_some];refine gM (h pins s σ H _ I hw) λu s1 ⟨x,H1,I1,r1,q1⟩=>?_
 obtain⟨i,rfl,q⟩:=q1;obtain⟨t,rfl⟩:=r1;exact⟨some i,H1,I1,.int i t,q⟩
def KQ (X:Cx) (r:V->Option Int->Option Int->Hp->VK->Prop):Prop:=
 ∀(pins:cm) (s:cy) (σ:St) (H:Hp) (x:V) (v vl vu:cx) (lo hi:Option Int) (sl:cE) (Q:VK),Inv X pins σ H s->RelV x v->s.heap.IsSliceOf sl vl vu .none->IsPart vl lo->IsPart vu hi->r x lo hi H Q->
  ∃T id,typeLookup (.type T) "__getitem__"=pure (some (.builtin id))/\s.TypeIs v T/\wpAny (model X.prog X.w) X.A (getItem v (.ref sl)) (EP X pins σ Q) X.xe s
theorem KQ.or {r r':V->Option Int->Option Int->Hp->VK->Prop}(h:KQ X r) (h':KQ X r'):KQ X (λx lo hi H Q=>r x lo hi H Q\/r' x lo hi H Q):=by
 intro pins s σ H x v vl vu lo hi sl Q I rx hs pl pu q;rcases q with q|q
 ·exact h pins s σ H x v vl vu lo hi sl Q I rx hs pl pu q
 ·exact h' pins s σ H x v vl vu lo hi sl Q I rx hs pl pu q
noncomputable def Uj (r:V->Option Int->Option Int->Hp->VK->Prop) (te:TE) (tl th:TO):TE:=λσ H Q=>te σ H λx H1=>tl σ H1 λl H2=>th σ H2 λu H3=>r x l u H3 Q
theorem EE {r:V->Option Int->Option Int->Hp->VK->Prop}(hr:KQ X r) (he:PE X e te) (hl:PO X lo tl) (hu:PO X hi th):PE X (.Subscript e (.Slice lo hi none p2) pos) (Uj r te tl th):=by
 intro pins s σ H Q I h;refine Subscript_ (gM (he pins s σ H _ I h) λv s1 ⟨x,H1,I1,r1,q1⟩=>?_)
 refine wpAny_Slice (gM (hl pins s1 σ H1 _ I1 q1) λvl s2 ⟨l,H2,I2,pl,q2⟩=>gM (hu pins s2 σ H2 _ I2 q2) λvu s3 ⟨u,H3,I3,pu,q3⟩=>?_)
 rw[evalPart_none];refine aj ?_;have I4:Inv X pins σ H3 {s3 with heap:=s3.heap.push {cls:=.type "slice",data:=.fields #[vl,vu,.none]}}:=I3.kept (t':=s3.toks) λb ob q=>ag _ q
 obtain⟨T,id,hT,ht,hg⟩:=hr pins {s3 with heap:=s3.heap.push {cls:=.type "slice",data:=.fields #[vl,vu,.none]}} σ H3 x v vl vu l u s3.heap.objs.size Q I4 r1 (Heap.IsSliceOf.new ..) pl pu q3
 show wpAny (model X.prog X.w) X.A (subscriptTail e (.Slice lo hi none p2) v (.ref s3.heap.objs.size)) (EP X pins σ Q) X.xe {s3 with heap:=s3.heap.push {cls:=.type "slice",data:=.fields #[vl,vu,.none]}}
 exact tail_any (ops:=[.ref s3.heap.objs.size,v]) ht hT hg (by with_unfolding_all rfl)
noncomputable def CN (xs:List V) (lo hi:Option Int):List V:=(xs.drop (HT.iP xs.length 0 lo)).take (HT.iP xs.length xs.length hi-HT.iP xs.length 0 lo)
theorem xZ (xs:List V) (lo hi:Option Int):(CN xs lo hi).length<=xs.length:=by
 unfold CN;rw[bK,List.length_drop];omega
noncomputable def Qn (K:W.Frag):V->Option Int->Option Int->Hp->VK->Prop:=λx lo hi H Q=>∃a xs,x=.ref a/\hO K H a xs/\
 ¬ (HT.iP xs.length 0 lo=0/\HT.iP xs.length xs.length hi=xs.length)/\∀p,H p=none->Q (.ref p) (upd H p (.tup (CN xs lo hi)))
theorem KR:KQ X (Qn X.K):=by
 intro pins s σ H x v vl vu lo hi sl Q I rx hs pl pu h;obtain⟨a,xs,rfl,hx,hw,q⟩:=h;cases rx;obtain⟨di,r,ht,hz⟩:=I.tuple hx;have hlen:di.toArray.size=xs.length:=by rw[aq];exact r.length.symm
 refine⟨"tuple",_,PyProof.Rows.slot_tuple_getitem.lookup,ht.typeIs,?_⟩;refine HT.pD ht hs pl pu (by rw[hlen];exact hw) ?_ (by rw[hlen];exact hz)
 rw[hlen];refine⟨.ref s.heap.objs.size,_,I.laid (t':=s.toks) (o:=.tup (CN xs lo hi)) (λb ob q=>ag _ q) (au _) ?_,rfl,q _ (I.fC.fresh (au _))⟩
 exact⟨aB (xZ xs lo hi) hz,_,(r.drop (HT.iP xs.length 0 lo)).take (HT.iP xs.length xs.length hi-HT.iP xs.length 0 lo),IsTup.new _ _⟩
noncomputable def Qo (K:W.Frag):R2:=λx y H Q=>∃a b ns ms,x=.ref a/\y=.ref b/\hO K H a (ns.map V.int)/\hO K H b (ms.map V.int)/\Q (.bl (HT.lexLt ns ms)) H
theorem KS (hu:X.A.units<cLine):r9 X (compareOp .Lt) (Qo X.K):=by
 intro pins s σ H x y v u Q I rx ry h;obtain⟨a,b,ns,ms,rfl,rfl,ha,hb,q⟩:=h;cases rx;cases ry;obtain⟨di,r1,p1,_⟩:=I.tuple ha;obtain⟨eM,r2,p2,_⟩:=I.tuple hb;have i1:IntsAre di.toArray.toList ns:=intsAre_of r1;have i2:IntsAre eM.toArray.toList ms:=intsAre_of r2;exact HT.sR p1 p2 i1 i2 hu ⟨.bl (HT.lexLt ns ms),H,I,rfl,q⟩
noncomputable def JH (K:W.Frag):R2:=λx y H Q=>∃a b xs ys,x=.ref a/\y=.ref b/\hO K H a xs/\hO K H b ys/\xs≠[]/\xs.length+ys.length<=sizeLine/\
 (ys=[]->Q (.ref a) H)/\(ys≠[]->∀p,H p=none->Q (.ref p) (upd H p (.tup (xs++ys))))
theorem Vals.wB {xs:List V}{us:cw}(r:Vals xs us):us=[]↔xs=[]:=by
 cases r with
 |nil=>simp
 |cons _ _=>simp
theorem HM:r9 X (binaryOp .Add) (JH X.K):=by
 intro pins s σ H x y v u Q I rx ry h;obtain⟨a,b,xs,ys,rfl,rfl,ha,hb,hx,hz,q1,q2⟩:=h;cases rx;cases ry;obtain⟨di,r1,p1,_⟩:=I.tuple ha;obtain⟨eM,r2,p2,_⟩:=I.tuple hb;refine HT.HI p1 p2 (λz=>hx (r1.wB.mp z)) (λz=>⟨.ref a,H,I,rfl,q1 (r2.wB.mp z)⟩) (λz=>?_) (by rw[<-r1.length,<-r2.length];exact hz)
 refine⟨.ref s.heap.objs.size,_,I.laid (t':=s.toks) (o:=.tup (xs++ys)) (λb ob q=>ag _ q) (au _) ?_,rfl,q2 (λw=>z (r2.wB.mpr w)) _ (I.fC.fresh (au _))⟩
 exact⟨by rw[aQ];exact hz,_,r1.append r2,IsTup.new _ _⟩
end
end L2
namespace L2
open PySem PySem.Spec PyProof.Rows
noncomputable def oX (n:Nat) (i:Int):Option Nat:=if 0<=i then(if i<n then some i.toNat else none)else if -(n:Int)<=i then some (i+n).toNat else none
noncomputable def js {α:Type}(xs:List α) (i:Int):Option α:=(oX xs.length i).bind λj=>xs[j]?
theorem HN {n:Nat}{i:Int}{j:Nat}(h:oX n i=some j):seqIndex? i n=some j/\j<n/\-(n:Int)<=i/\i<n:=by
 unfold oX at h;by_cases h0:0<=i
 ·rw[if_pos h0]at h;by_cases h1:i<n
  ·rw[if_pos h1]at h;have e:i.toNat=j:=aS h;exact⟨by rw[seqIndex_of h0 h1,e],by omega,by omega,h1⟩
  ·rw[if_neg h1]at h;cases h
 ·rw[if_neg h0]at h;by_cases h1: -(n:Int)<=i
  ·rw[if_pos h1]at h;have e:(i+n).toNat=j:=aS h;exact⟨by rw[seqIndex_neg (by omega) h1,e],by omega,h1,by omega⟩
  ·rw[if_neg h1]at h;cases h
theorem wC {α:Type}{xs:List α}{i:Int}{v:α}(h:js xs i=some v):∃j,seqIndex? i xs.length=some j/\xs[j]? =some v/\j<xs.length/\-(xs.length:Int)<=i/\i<xs.length:=by
 unfold js at h;cases e:oX xs.length i with
 |none=>rw[e]at h;cases h
 |some j=>
  rw[e]at h;obtain⟨h1,h2,h3,h4⟩:=HN e;exact⟨j,h1,h,h2,h3,h4⟩
def nR (b:cF):Prop:=∀o i,subscripted b false o i=operate [o,i] (getItem o i)
def EF (X:Cx) (r:R2):Prop:=
 ∀(value slice:cF) (pins:cm) (s:cy) (σ:St) (H:Hp) (x y:V) (v u:cx) (Q:VK),Inv X pins σ H s->RelV x v->RelV y u->r x y H Q->
  subscripted slice false v u=operate [v,u] (getItem v u)->wpAny (model X.prog X.w) X.A (subscriptTail value slice v u) (EP X pins σ Q) X.xe s
def Uk (X:Cx) (id:String) (r:V->List V->Hp->VK->Prop):Prop:=
 ∀(pins:cm) (s:cy) (σ:St) (H:Hp) (x:V) (xs:List V) (v:cx) (us:cw) (Q:VK),Inv X pins σ H s->RelV x v->Vals xs us->r x xs H Q->
  wpAny (model X.prog X.w) X.A (call (.builtin id) (v::us)) (EP X pins σ Q) X.xe s
section
variable {X:Cx}{a b:cF}{ta tb:TE}{pos:Pos}
theorem EF.or {r r':R2}(h:EF X r) (h':EF X r'):EF X (λx y H Q=>r x y H Q\/r' x y H Q):=by
 intro value slice pins s σ H x y v u Q I rx ry q hs;rcases q with q|q
 ·exact h value slice pins s σ H x y v u Q I rx ry q hs
 ·exact h' value slice pins s σ H x y v u Q I rx ry q hs
theorem JI {r:R2}(hr:EF X r) (ha:PE X a ta) (hb:PE X b tb) (hs:nR b):PE X (.Subscript a b pos) (MW r ta tb):=by
 intro pins s σ H Q I h;exact Subscript_ (Kz ha hb I h λv u s2 x y H2 I2 rx ry q=>hr a b pins s2 σ H2 x y v u Q I2 rx ry q (hs _ _))
noncomputable def Nk (K:W.Frag):R2:=λx y H Q=>∃p xs i v,x=.ref p/\y=.int i/\oE K H p xs/\js xs i=some v/\Q v H
noncomputable def Nl (K:W.Frag):R2:=λx y H Q=>∃p xs i v,x=.ref p/\y=.int i/\hO K H p xs/\js xs i=some v/\Q v H
noncomputable def Nm:R2:=λx y H Q=>∃z i c,x=.str z/\y=.int i/\z.length<=sizeLine/\js z.cps.toList i=some c/\Q (.str ⟨#[c]⟩) H
theorem HP:EF X (Nk X.K):=by
 intro value slice pins s σ H x y v u Q I rx ry h hs;obtain⟨p,xs,i,z,rfl,rfl,hq,he,q⟩:=h;cases rx;obtain⟨t,rfl⟩:=ry;obtain⟨di,r,pl,hz⟩:=I.list hq;obtain⟨j,h1,h2,h3,h4,h5⟩:=wC he;obtain⟨w,ew,HQ⟩:=r.get h2;have hl:=r.length;have hn:=sP;have fin:EP X pins σ Q w s:=⟨z,H,I,HQ,q⟩;by_cases h0:0<=i
 ·have hj:i.toNat=j:=by
   rw[seqIndex_of h0 h5]at h1;exact aS h1
  exact item_listR pl.isList h0 (by omega) (by rw[hj];simpa using ew) fin hs
 ·have hj:(i+(di.toArray.size:Int)).toNat=j:=by
   rw[seqIndex_neg (by omega) h4]at h1
   rw[aq,<-hl];exact aS h1
  exact subscriptTail_builtinR (x:=w) pl.isList.typeIs slot_list_getitem.lookup
   (wpAny_getItem_list_neg (Q:=λr s'=>r=w/\EP X pins σ Q r s') pl.isList (by omega) (by rw[aq]<;>omega) (by omega) (by rw[hj];simpa using ew) ⟨rfl,fin⟩) hs
theorem KU:EF X (Nl X.K):=by
 intro value slice pins s σ H x y v u Q I rx ry h hs;obtain⟨p,xs,i,z,rfl,rfl,hq,he,q⟩:=h;cases rx;obtain⟨t,rfl⟩:=ry;obtain⟨di,r,pl,hz⟩:=I.tuple hq;obtain⟨j,h1,h2,h3,h4,h5⟩:=wC he;obtain⟨w,ew,HQ⟩:=r.get h2;have hl:=r.length;have hn:=sP;have fin:EP X pins σ Q w s:=⟨z,H,I,HQ,q⟩;exact subscriptTail_builtinR (x:=w) pl.typeIs slot_tuple_getitem.lookup
  (getItem_tuple (j:=j) (Q:=λr s'=>r=w/\EP X pins σ Q r s') pl (by omega) (by omega) (by rw[aq,<-hl];exact h1) (by simpa using ew) ⟨rfl,fin⟩) hs
theorem KW:EF X Nm:=by
 intro value slice pins s σ H x y v u Q I rx ry h hs;obtain⟨z,i,c,rfl,rfl,hz,he,q⟩:=h;obtain⟨t,rfl⟩:=rx;obtain⟨t',rfl⟩:=ry;obtain⟨j,h1,h2,h3,h4,h5⟩:=wC he;have hl:z.cps.toList.length=z.length:=by simp[Str.length]
 rw[hl]at h1 h4 h5;have hn:=sP;exact tail_any (typeIs_str s z t) slot_str_getitem.lookup (getItem_str (c:=c) (by
  have e1:decide (i< -(2^63:Int))=false:=aG (by omega)
  have e2:decide (i ≥ 2^63)=false:=aG (by omega)
  rw[e1,e2,Bool.or_false]) (by rw[h1];simpa using h2) ⟨.str ⟨#[c]⟩,H,I.tok _,⟨_,rfl⟩,q⟩) hs
noncomputable def R1 (K:W.Frag):R2:=λx y H Q=>Nk K x y H Q\/Nl K x y H Q\/Nm x y H Q
theorem KY:EF X (R1 X.K):=HP.or (KU.or KW)
theorem wD:hU X (.builtin "len") (λxs H Q=>∃p ys,xs=[.ref p]/\(oE X.K H p ys\/hO X.K H p ys)/\Q (.int ys.length) H):=by
 intro pins s σ H xs us Q I r h;obtain⟨p,ys,rfl,hq,q⟩:=h;obtain⟨u,rfl,rx⟩:=vals1 r;cases rx;have hn:=sP;rcases hq with hq|hq
 ·obtain⟨di,r',pl,hz⟩:=I.list hq;have hlen:=r'.length;exact Calls.call_len_list pl.isList (by simp only[aq]<;>omega) ⟨.int ys.length,H,I.tok _,⟨s.toks+1,by rw[aq,hlen]⟩,q⟩
 ·obtain⟨di,r',pl,hz⟩:=I.tuple hq;have hlen:=r'.length;exact len_tuple pl (by simp only[aq]<;>omega) ⟨.int ys.length,H,I.tok _,⟨s.toks+1,by rw[aq,hlen]⟩,q⟩
theorem wF:hU X (.builtin "len") (λxs H Q=>∃z,xs=[.str z]/\z.length<=sizeLine/\Q (.int z.length) H):=by
 intro pins s σ H xs us Q I r h;obtain⟨z,rfl,hz,q⟩:=h;obtain⟨u,rfl,t,rfl⟩:=vals1 r;have hn:=sP;exact len_str (by omega) ⟨.int z.length,H,I.tok _,⟨_,rfl⟩,q⟩
theorem hU.or {f:cx}{r r':List V->Hp->VK->Prop}(h:hU X f r) (h':hU X f r'):hU X f (λxs H Q=>r xs H Q\/r' xs H Q):=by
 intro pins s σ H xs us Q I rs q;rcases q with q|q
 ·exact h pins s σ H xs us Q I rs q
 ·exact h' pins s σ H xs us Q I rs q
theorem wG:hU X (.type "list") (λxs H Q=>∃p ys,xs=[.ref p]/\(oE X.K H p ys\/hO X.K H p ys)/\∀l,H l=none->Q (.ref l) (upd H l (.lst ys))):=by
 intro pins s σ H xs us Q I r h;obtain⟨p,ys,rfl,hq,q⟩:=h;obtain⟨u,rfl,rx⟩:=vals1 r;cases rx;have fin:∀(di:cw),Vals ys di->ys.length<=sizeLine->∀(h':Heap) (c':Nat),(∀b o',s.heap.get? b=some o'->h'.get? b=some o')->
   h'.get? s.heap.objs.size=some {cls:=.type "list",dict:=none,data:=.seq di.toArray c',slots:=#[]}->EP X pins σ Q (.ref s.heap.objs.size) {s with heap:=h'}:=λdi r' hz h' c' kp e=>
  ⟨.ref s.heap.objs.size,_,I.laid (t':=s.toks) kp (au _) (show gA X.prog X.w _ h' _ (.lst ys)from⟨hz,di,c',r',e⟩),rfl,q _ (I.fC.fresh (au _))⟩
 rcases hq with hq|hq
 ·obtain⟨di,r',pl,hz⟩:=I.list hq;have hlen:=r'.length;obtain⟨o,ho,hc,n,hd⟩:=pl.isList;exact call_list_seq p (.inl rfl) ho hc hd (λh' c' kp e=>fin di r' hz h' c' kp e) (by simp only[aq]<;>omega)
 ·obtain⟨di,r',pl,hz⟩:=I.tuple hq;have hlen:=r'.length;obtain⟨o,ho,hc,n,hd⟩:=pl;exact call_list_seq p (.inr rfl) ho hc hd (λh' c' kp e=>fin di r' hz h' c' kp e) (by simp only[aq]<;>omega)
theorem uV:hU X (.type "tuple") (λxs H Q=>∃p ys,xs=[.ref p]/\((oE X.K H p ys/\∀l,H l=none->Q (.ref l) (upd H l (.tup ys)))\/(hO X.K H p ys/\Q (.ref p) H))):=by
 intro pins s σ H xs us Q I r h;obtain⟨p,ys,rfl,h⟩:=h;obtain⟨u,rfl,rx⟩:=vals1 r;cases rx;rcases h with⟨hq,q⟩|⟨hq,q⟩
 ·obtain⟨di,r',pl,hz⟩:=I.list hq;have hlen:=r'.length;refine call_tuple_list pl.isList (λh' kp=>?_) (by simp only[aq]<;>omega)
  have I1:Inv X pins σ H {s with heap:=h'}:=I.kept (t':=s.toks) kp
  have I2:Inv X pins σ (upd H h'.objs.size (.tup ys)) {s with heap:=h'.push {cls:=.type "tuple",data:=.seq di.toArray}}:=
   I1.laid (t':=s.toks) (λb o e=>ag _ e) (au _) (show gA X.prog X.w _ _ _ (.tup ys)from⟨hz,di,r',IsTup.new _ _⟩)
  exact⟨.ref h'.objs.size,_,I2,rfl,q _ (I1.fC.fresh (au _))⟩
 ·obtain⟨di,r',pl,hz⟩:=I.tuple hq;exact call_tuple_same pl ⟨.ref p,H,I,rfl,q⟩
def R3 (K:W.Frag) (T:String) (x:V) (H:Hp):Prop:=match x with
 |.str _=>T="str"
 |.int _=>T="int"
 |.ref p=>(T="list"/\∃xs,oE K H p xs)\/(T="tuple"/\∃o,K.lookup p=some o/\o.cls=.type "tuple"/\o.dict=none)\/
   (T="dict"/\((∃kvs,H p=some (.dK kvs))\/∃kvs,H p=some (.dT kvs)))\/(T="set"/\∃S n,H p=some (.set S n))
 |_=>False
theorem KZ {pins:cm}{σ:St}{H:Hp}{s:cy}{T:String}{x:V}{v:cx}(I:Inv X pins σ H s) (r:RelV x v) (ty:R3 X.K T x H):
  s.TypeIs v T/\∀a,v=.ref a->∃ob,s.heap.get? a=some ob/\ob.dict=none:=by
 cases x with
 |str z=>
  obtain⟨t,rfl⟩:=r;cases (show T="str" from ty)
  exact⟨typeIs_str s z t,λ_ e=>nomatch e⟩
 |int i=>
  obtain⟨t,rfl⟩:=r;cases (show T="int" from ty)
  exact⟨typeIs_int s i t,λ_ e=>nomatch e⟩
 |ref p=>
  cases r;rcases ty with⟨rfl,xs,hq⟩|⟨rfl,o,hk,hc,hd⟩|⟨rfl,hk⟩|⟨rfl,S,n,hk⟩
  ·obtain⟨di,_,pl,_⟩:=I.list hq;refine⟨pl.isList.typeIs,λa e=>?_⟩
   cases e;obtain⟨o,n,e,c,hd,_⟩:=pl;exact⟨o,e,hd⟩
  ·refine⟨⟨o,I.CA p o hk,hc⟩,λa e=>?_⟩
   cases e;exact⟨o,I.CA _ o hk,hd⟩
  ·have z:∃o,s.heap.get? p=some o/\o.ExactDict:=by
    rcases hk with⟨kvs,hk⟩|⟨kvs,hk⟩
    ·obtain⟨_,_,_,_,o,_,_,e,ex,_⟩:=I.fC p _ hk;exact⟨o,e,ex⟩
    ·obtain⟨_,_,_,_,o,_,_,e,ex,_⟩:=I.fC p _ hk;exact⟨o,e,ex⟩
   obtain⟨o,e,ex⟩:=z;refine⟨⟨o,e,ex.1⟩,λa e2=>?_⟩
   cases e2;exact⟨o,e,ex.2.1⟩
  ·obtain⟨o,_,_,_,e,ex,_⟩:=I.fC p _ hk;refine⟨⟨o,e,ex.1⟩,λa e2=>?_⟩
   cases e2;exact⟨o,e,ex.2.1⟩
 |_=>exact False.elim ty
noncomputable def Qp (K:W.Frag) (T:String) (r:V->List V->Hp->VK->Prop) (to:TE) (t:TA):TE:=λσ H Q=>to σ H λx H1=>R3 K T x H1/\t σ H1 λxs H2=>r x xs H2 Q
variable {o e:cF}{es:List cF}{to:TE}{t:TA}{name:Str}{apos fu:Pos}{T id:String}{r:V->List V->Hp->VK->Prop}
theorem JJ (pa:PlainAttrs T) (slot:Slot T name id) (Ul:typeOf (.builtin id)=pure (.type "method_descriptor")) (hm:Uk X id r) (ho:PE X o to) (ha:PA X (e::es) t)
  (pE:attributeBase o name X.env (eval o X.env)=eval o X.env:=by rfl)
  (wH:((backTo fu (starEach (e::es) X.env)).all (λx=> !x.1)&&(backToKw fu (keywordEach [] X.env)).all (λx=>x.1.isSome)
   &&decide ((e::es).length+([]:List Keyword).length+(if([]:List Keyword).isEmpty then 0 else 1)<30))=true:=by rfl)
  (pF:(apos.endLine==fu.line)=true:=by rfl) (hs:starEach (e::es) X.env=(false,eval e X.env)::starEach es X.env:=by rfl) (mf:(backTo fu (starEach es X.env)).any (·.1)=false:=by rfl):
  PE X (.Call (.Attribute o name apos) (e::es) [] fu) (Qp X.K T r to t):=by
 intro pins s σ H Q I h;refine wpAny_Call_method_late pE wH pF rfl (gM (ho pins s σ H _ I h) λv s1 ⟨x,H1,I1,r1,ty,q1⟩=>?_)
 obtain⟨h1,h2⟩:=KZ I1 r1 ty;refine⟨T,id,pa,slot,Ul,h1,h2,?_⟩;have hA:=ha fu pins s1 σ H1 _ I1 q1;rw[hs]at hA ⊢;refine Calls.callWith_builtin (by show(false||(backTo fu (starEach es X.env)).any (·.1))=false;rw[mf]<;>rfl) (Calls.evalArgs_plain ?_)
 exact gM hA λus s2 ⟨vs,H2,I2,r2,q2⟩=>hm pins s2 σ H2 x vs v us Q I2 r1 r2 q2
end
end L2
namespace L2
open PySem PySem.Spec PyProof.Rows
def R4 (X:Cx) (id:String) (r:V->List V->Hp->VK->Prop):Prop:=
 ∀(pins:cm) (s:cy) (σ:St) (H:Hp) (x:V) (xs:List V) (v:cx) (us:cw) (Q:VK),Inv X pins σ H s->RelV x v->Vals xs us->r x xs H Q->
  wpAny (model X.prog X.w) X.A (call (.builtin id) (v::us)) (EP X pins σ Q) X.xe s
theorem Vals.one:∀{x:V}{us:cw},Vals [x] us->∃u,us=[u]/\RelV x u
 |_,_,.cons r .nil=>⟨_,rfl,r⟩
theorem Vals.eraseIdx:∀{xs:List V}{us:cw}(i:Nat),Vals xs us->Vals (xs.eraseIdx i) (us.eraseIdx i)
 |_,_,_,.nil=>.nil
 |_,_,0,.cons _ t=>t
 |_,_,i+1,.cons r t=>.cons r (Vals.eraseIdx i t)
theorem qD {α:Type}:∀(l:List α) (i:Nat),(l.eraseIdx i).length<=l.length
 |[],_=>au _
 |_::_,0=>Nat.le_succ _
 |_::r,i+1=>Nat.succ_le_succ (qD r i)
section
variable {X:Cx}{pins:cm}{σ:St}{H:Hp}{s:cy}{l b:cE}{xs ys zs:List V}
theorem Inv.Nn {di its':cw}{n:Nat}{f:Array cx->Array cx}{t':Nat}(I:Inv X pins σ H s) (hH:H l=some (.lst xs))
  (e:s.heap.get? l=some {cls:=.type "list",data:=.seq di.toArray n}) (hf:f di.toArray=its'.toArray) (hv:Vals ys its') (hz:ys.length<=sizeLine):
  Inv X pins σ (upd H l (.lst ys)) {s with heap:=s.heap.update l (Obj.mapSeq f),toks:=t'}:=by
 have q:=PySem.IsL.update e f;rw[hf]at q;refine I.write (x:=l) (e:=l) (by rw[hH];exact trivial) (.inl rfl) (λb' u hb hu=>(bz s.heap (Obj.mapSeq f) (Ne.symm hb)).trans hu) ⟨_,q⟩ ?_
 exact⟨hz,its',_,hv,q⟩
theorem Inv.Np (I:Inv X pins σ H s) (hH:H l=some (.lst xs)):xs.length<=sizeLine/\∃(di:cw) (n:Nat),Vals xs di/\xs.length=di.length/\s.heap.get? l=some {cls:=.type "list",data:=.seq di.toArray n}:=by
 obtain⟨z,di,n,r,e⟩:=I.fC l _ hH;exact⟨z,di,n,r,r.length,e⟩
end
section
variable {X:Cx}
noncomputable def By:V->List V->Hp->VK->Prop:=λx vs H Q=>∃l xs y,x=.ref l/\vs=[y]/\H l=some (.lst xs)/\xs.length<sizeLine/\Q .fO (upd H l (.lst (xs++[y])))
theorem vC:R4 X "list.append" By:=by
 intro pins s σ H x vs v us Q I rx rv h;obtain⟨l,xs,y,rfl,rfl,hH,hz,q⟩:=h;cases rx;obtain⟨u,rfl,ru⟩:=rv.one;obtain⟨z,di,n,r,hl,e⟩:=I.Np hH;refine call_meets F.slot_list_append ⟨_,e,rfl⟩ F.entry_list_append (F.args_list_append_2 _ _) (PySem.list_append l di.toArray n u (by rw[aq];omega)) ⟨e,?_⟩
 refine⟨.fO,_,I.Nn (its':=di++[u]) hH e (by simp) (r.append (.cons ru .nil)) ?_,rfl,q⟩
 rw[aQ,List.length_singleton];omega
noncomputable def EG:V->List V->Hp->VK->Prop:=λx vs H Q=>∃l xs i k y,x=.ref l/\vs=[.int i]/\H l=some (.lst xs)/\-(2^63)<=i/\i<2^63/\seqIndex? i xs.length=some k/\xs[k]? =some y/\Q y (upd H l (.lst (xs.eraseIdx k)))
theorem EH:R4 X "list.pop" EG:=by
 intro pins s σ H x vs v us Q I rx rv h;obtain⟨l,xs,i,k,y,rfl,rfl,hH,h1,h2,hk,hy,q⟩:=h;cases rx;obtain⟨u,rfl,ru⟩:=rv.one;obtain⟨t,rfl⟩:=ru;obtain⟨z,di,n,r,hl,e⟩:=I.Np hH;obtain⟨w,hw,HQ⟩:=r.get hy;refine call_meets F.slot_list_pop ⟨_,e,rfl⟩ F.entry_list_pop (F.args_list_pop_2 _ _)
  (MeetsSeq.list_pop_at l di.toArray n i t k w (fitsIndex_both h1 h2) (by rw[aq,<-hl];exact hk) (by rw[<-Array.getElem?_toList];exact hw) (by rw[aq];omega)) ⟨e,?_⟩
 refine⟨y,_,I.Nn (its':=di.eraseIdx k) hH e ?_ (r.eraseIdx k) ?_,HQ,q⟩
 ·show di.toArray.eraseIdxIfInBounds k=(di.eraseIdx k).toArray;rw[List.eraseIdxIfInBounds_toArray]
 ·have:=qD xs k;omega
end
section
variable {prog:cA}{w:cB}{A:cC}{E:cj}{s:cy}
end
section
variable {X:Cx}
end
end L2
namespace R5
open PySem PySem.W PySem.Calls PyProof.Rows
theorem rR {P:Params}{h:Heap}:∀(ns:cp) (vs:cw),WellAll P h vs (ns.map WData.int)->IntsAre vs ns:=by
 intro ns;induction ns with
 |nil=>
  intro vs w;rw[List.map_nil]at w;cases w;exact .nil
 |cons n ns ih=>
  intro vs w;rw[aE]at w;cases w with
  |cons a b=>
   cases a;exact .cons _ _ (ih _ b)
theorem CO {l:OpenLaw}{n:Nat}(hn:l.most=some n) {P:Params}{h:Heap}{args:List WData}{vals:cw}
  (HR:l.row.toRowW.claim.pre args=true) (Qq:WellAll P h vals args):
  ∃a vs ns,vals=[Value.ref a]/\args=[WData.list (ns.map WData.int)]/\h.get? a=some {cls:=.type "list",data:=.seq vs.toArray}/\IntsAre vs ns/\ns.length<=n:=by
 have Um:WShape.hasAll [] args [.list .int]=true:=(pre_splitW HR).1;have hc:l.pre.holds [] {args:=args}=true:=(pre_splitW HR).2;obtain⟨d,r,rfl,h1,h2⟩:=hasAllW_cons Um;obtain rfl:=hasAllW_nil h2;obtain⟨xs,rfl,h3⟩:=hasW_list h1;obtain⟨ns,rfl⟩:=items_int h3;have hlen:ns.length<=n:=by
  unfold OpenLaw.pre at hc;have h4:(WTm.not (.lt (.lit (.int (n:Int))) (.len (.arg 0)))).holds [] {args:=[.list (ns.map .int)]}=true:=by
   have h4:=(holds_andW hc).1;rw[hn]at h4;exact h4
  have h5:=condW_of h4 (w_not (w_lt w_lit (w_len_list (w_arg rfl))));rw[ae]at h5;refine Nat.le_of_not_lt λq=>?_
  have q':(n:Int)<((ns.length:Nat):Int):=by omega
  first
   |(rw[aR q']at h5;exact absurd h5 (by decide))
   |(simp at h5;omega)
 cases Qq with
 |cons w1 w2=>
  cases w2;cases w1 with
  |list ho sT=>exact⟨_,_,ns,rfl,rfl,ho,rR ns _ sT,hlen⟩
theorem CP (l:OpenLaw) (args:List WData):l.row.toRowW.claim.post args (.bool true) args=true:=
 postW_of (r:=l.row.toRowW) (X:=(true==true))
  (show WShape.has [] (.bool true) .bool=true by first|rfl|decide|simp[WShape.has,WShape.arms,WShape.armsAll])
  (show(WTm.eq .res (.lit (.bool true))).value [] {args:=args,res:=some (.bool true),after:=args}=some (.bool (true==true))from w_eq_bool (w_res rfl) w_lit) rfl
theorem ya {l:OpenLaw}{n:Nat}{q:cA}{loose:List Str}{XP:(ck)->Heap->Prop}{YP:cB->Heap->Prop}{d:DefRec}
  (hn:l.most=some n) (Nq:d.params.defaults=[])
  (call:∀(w:cB) (s₀ s₁:cy) (mg mb:ck) (fa:cE) (o:Obj) (pm cd doc:cx) (a:cE) (vs:cw) (ns:cp),
   Ground q loose [] XP w s₀ mg mb s₁.heap->YP w s₁.heap->
   s₁.heap.get? fa=some o->o.data=.func (docDef d.name d.params d.body d.scope pm cd doc)->s₁.heap.CodeRec cd d.name->mg d.name=some (.ref fa)->
   s₁.heap.get? a=some {cls:=.type "list",data:=.seq vs.toArray}->IntsAre vs ns->ns.length<=n->s₁.gens=#[]->
   codeAny (model l.prog w) callerA (.call (.ref fa) ⟨[.ref a],[]⟩) (λr s'=>r=.ok (.ret (.bool true))/\OldK s₁.heap s'.heap/\s'.os=s₁.os/\AllBare s'.gens) s₁):
  WalkO q loose XP YP l.row.toRowW d [] (λf vs=>PySem.call f vs):=by
 intro w s₀ s₁ mg mb G Y fa o pm cd doc dV kV ho hd uS hD Nr hg args vals as HR Uo YF Qq Nt;obtain rfl:dV=.none:=Dflts.none hD Nq;obtain rfl:kV=.none:=Dflts.noKw hD;obtain⟨a,vs,ns,rfl,rfl,K0,hints,hlen⟩:=CO hn HR Qq;refine enter_call (codeAny_mono (call w s₀ s₁ mg mb fa o pm cd doc a vs ns G Y ho (fd_plain hd) uS Nr K0 hints hlen hg) λr s' hq=>?_)
 obtain⟨rfl,h2,h3,h4⟩:=hq;exact⟨.inl ⟨.bool true,.bool true,[],rfl,λ_=>rfl,.bool true,CP l _,λ_=>⟨List.Pairwise.nil,λ_ hm=>(nomatch hm)⟩⟩,h2,h3,h4⟩
section
variable {prog:cA}{w:cB}{A:cC}{E:cj}{s:cy}{K:Frag}
end
end R5
namespace L2
open PySem PySem.Spec PyProof.Rows
theorem nS:∀{vs:cw}{ns:cp},IntsAre vs ns->Vals (ns.map V.int) vs
 |_,_,.nil=>.nil
 |_,_,.cons n t h=>.cons ⟨t,rfl⟩ (nS h)
end L2
namespace L2
open PySem PySem.Spec PyProof.Rows
end L2
namespace L2
open PySem PySem.Spec PyProof.Rows
noncomputable def inClass (s:cG) (j:Nat):cG:=match s with
 |.ClassDef _ _ _ body _ _ _ _ _ _ _=>body.getD j (.Pass ⟨0,0,0,0⟩)
 |_=>.Pass ⟨0,0,0,0⟩
noncomputable def dJ (s:cG):Arguments:=match s with
 |.FunctionDef _ a _ _ _ _ _ _ _ _=>a
 |_=>{posonlyargs:=[],args:=[],vararg:=none,kwonlyargs:=[],kw_defaults:=[],kwarg:=none,defaults:=[]}
noncomputable def dk (s:cG):List cG:=match s with
 |.FunctionDef _ _ b _ _ _ _ _ _ _=>b
 |_=>[]
noncomputable def bt (s:cG):Scope:=match s with
 |.FunctionDef _ _ _ _ _ _ sc _ _ _=>sc
 |_=>{kind:=.function,names:=[],isGenerator:=false,isCoroutine:=false}
noncomputable abbrev jt:CL:=λ_ _ _ _ _ _=>False
noncomputable abbrev E0:XK:=λ_ _ _=>False
theorem Bz {X:Cx}:Passes jt X E0:=λ_ _ _ _ _ _ _ h=>h.elim
structure mZ (K:W.Frag) (x qual:Str) (st:cG) (f:cE) (fd:cz):Prop where
 ex:∃(oc:cx) (od:cq) (kV doc pm:cx) (an:cq) (fS ct:cx) (HG:cu),
  fd=W.fnOf x qual (dJ st) (dk st) (bt st) .none kV doc pm an fS ct/\K.lookup f=some ⟨oc,od,.func fd,HG⟩/\W.codeIn K fS qual=true
 kp:W.keepIn K (.ref f)=true
section
variable {P:cA}{w:cB}{K:W.Frag}{mg:ck}{base:Heap}
theorem mZ.ok {x qual:Str}{st:cG}{f:cE}{fd:cz}{N ps:List Str}{k:Nat}{sp:Sp}(F:mZ K x qual st f fd) (S:dw N ps (bt st)) (len:∀vs H Q E,sp vs H Q E->vs.length=ps.length)
  (jB:∀(fS:cx) (A:cC) (outer:List Env) (s:cy) (H:Hp) (vs:List V) (Q:VK) (E:XK),fR k (A.deeper (envOfC qual (bt st) s.heap.objs.size f fS))->sp vs H Q E->
   ∃t,vv (oW jt P w K mg base N qual (bt st) f fS A outer s H E).Bp (dk st) t/\t {nx:=λ_ H'=>Q .fO H',rt:=Q} (start N vs) H):ef P w K mg base jt (k+1) f fd ps sp:=by
 obtain⟨oc,od,kV,doc,pm,an,fS,ct,HG,rfl,lk,uS⟩:=F.ex;refine JG lk uS S len λA outer s H vs Q E hr Hh=>?_
 obtain⟨t,h,q⟩:=jB fS A outer s H vs Q E hr Hh;exact⟨t,h.Bp,q⟩
theorem mZ.binds {x qual:Str}{st:cG}{f:cE}{fd:cz}{ps:List Str}(F:mZ K x qual st f fd)
  (h:∀(kV doc pm:cx) (an:cq) (fS ct:cx) (us:cw),us.length=ps.length->bindArgs (W.fnOf x qual (dJ st) (dk st) (bt st) .none kV doc pm an fS ct) ⟨us,[]⟩=pure (ps.zip us)):Binds K fd ps []:=by
 obtain⟨oc,od,kV,doc,pm,an,fS,ct,HG,rfl,lk,uS⟩:=F.ex;exact .all (h kV doc pm an fS ct)
theorem eX {x qual:Str}{st:cG}{f:cE}{oc:cx}{od an:cq}{HG:cu}{kV doc pm fS ct:cx}(l:K.lookup f=some ⟨oc,od,.func (W.fnOf x qual (dJ st) (dk st) (bt st) .none kV doc pm an fS ct),HG⟩)
  (c:W.codeIn K fS qual=true) (k:W.keepIn K (.ref f)=true):mZ K x qual st f (W.fnOf x qual (dJ st) (dk st) (bt st) .none kV doc pm an fS ct):=⟨⟨oc,od,kV,doc,pm,an,fS,ct,HG,rfl,l,c⟩,k⟩
end
theorem je {n:Nat}(h:n<=1000):n<sizeLine:=Nat.lt_of_le_of_lt h (by decide)
section
variable {X:Cx}
theorem pv (i:Nat) {x:Str}{pos:Pos}(hN:X.N[i]? =some x:=by rfl) (hv:Mp X.env.scope x:=by first|exact Or.inl rfl|exact Or.inr (Or.inl rfl)|exact Or.inr (Or.inr rfl)) (hd:(x==("__debug__":Str))=false:=by decide)
  (uS:(x==("__classdict__":Str))=false:=by decide):PE X (.Name x pos) (ij i):=zG hN hv hd uS
end
theorem CQ {A B:Prop}(h:B):if false=true then A else B:=by
 rw[if_neg aZ];exact h
theorem zW {A B:Prop}(h:A):if true=true then A else B:=by
 rw[if_pos rfl];exact h
def dF (H H':Hp):Prop:=∀b o,H b=some o->H' b=some o
theorem dF.refl (H:Hp):dF H H:=λ_ _ h=>h
theorem dF.trans {H H1 H2:Hp}(a:dF H H1) (b:dF H1 H2):dF H H2:=λc o h=>b c o (a c o h)
theorem dF.free {H H':Hp}(e:dF H H') {l:cE}(h:H' l=Option.none):H l=Option.none:=by
 cases q:H l with
 |none=>rfl
 |some o=>
  rw[e l o q]at h;cases h
end L2
namespace L2
open PySem PySem.Spec PyProof.Rows
noncomputable def qE (K:W.Frag):List (cE×Array cx):=rO.filterMap λ(t:Str×Pos×Str)=>(W.tabIn K t.1).map λq=>(q.2,uP t.2.1 t.2.2)
theorem HS {K:W.Frag}{b:cE}{ps:Array cx}(h:(b,ps)∈qE K):∃x c pos qual,(x,pos,qual)∈rO/\W.tabIn K x=some (c,b)/\ps=uP pos qual:=by
 obtain⟨⟨x,pos,qual⟩,hm,he⟩:=List.mem_filterMap.mp h;cases ht:W.tabIn K x with
 |none=>rw[show W.tabIn K (x,pos,qual).1=none from ht]at he;cases he
 |some q=>
  obtain⟨c,P⟩:=q;rw[show W.tabIn K (x,pos,qual).1=some (c,P)from ht]at he
  cases he;exact⟨x,c,pos,qual,hm,ht,rfl⟩
theorem EI {K:W.Frag}{x:Str}{c b:cE}{pos:Pos}{qual:Str}(hm:(x,pos,qual)∈rO) (ht:W.tabIn K x=some (c,b)):(b,uP pos qual)∈qE K:=
 List.mem_filterMap.mpr ⟨(x,pos,qual),hm,by show(W.tabIn K x).map _=_;rw[ht];rfl⟩
theorem pG {α:Type}:∀{l:List (cE×α)}{b:cE}{v:α},(l.map (·.1)).Nodup->(b,v)∈l->l.lookup b=some v
 |[],_,_,_,h=>by cases h
 |(c,u)::r,b,v,nd,h=>by
  rw[aE,List.nodup_cons]at nd;rcases List.mem_cons.mp h with e|h
  ·cases e;simp[bq]
  ·have ja:b≠c:=λz=>nd.1 (by rw[<-z];exact List.mem_map_of_mem (f:=(·.1)) h)
   have hb:(b==c)=false:=by simpa using ja
   rw[bq,hb];exact pG nd.2 h
theorem rl {α:Type}:∀{l:List (cE×α)}{b:cE}{v:α},l.lookup b=some v->(b,v)∈l
 |[],_,_,h=>by cases h
 |(c,u)::r,b,v,h=>by
  by_cases e:b=c
  ·subst e;simp only[bq,bO,Option.some.injEq]at h;subst h;exact af
  ·have hb:(b==c)=false:=by simpa using e
   simp only[bq,hb]at h;exact ai _ (rl h)
noncomputable def tabsOk (K:W.Frag):Bool:=W.noTabs K&&decide ((qE K).map (·.1)).Nodup
theorem CS {P:cA}{w:cB}{K:W.Frag}{mg mb:ck}{CX:CL}{k:Nat}{fa a:cE}{fd:cz}{x:Str}{sp:Sp}{s₁:cy}{vs:cw}{ns:cp}
  (KX:K.In s₁.heap) (HU:s₁.heap.Ns mainGlobals mg) (hb:s₁.heap.Ns builtinsNs mb) (R6:∀x:Str,x≠"__name__"->mb x=bootBuiltins x) (K1:s₁.heap.NoLimit) (hg:s₁.gens=#[])
  (ha:s₁.heap.get? a=some {cls:=.type "list",data:=.seq vs.toArray}) (hi:IntsAre vs ns) (hl:ns.length<=sizeLine) (hr:fR k callerA)
  (Qr:tabsOk K=true) (hT:∀x c Pt pos qual,(x,pos,qual)∈rO->W.tabIn K x=some (c,Pt)->W.CodeHd s₁.heap c Pt/\s₁.heap.get? Pt=some (W.tabObj #[]))
  (Up:∃bm ob,mg "__builtins__"=some (.ref bm)/\bm≠builtinsNs/\s₁.heap.get? bm=some ob/\ob.cls=.type "module"/\ob.dict=some builtinsNs/\ob.data=.plain)
  (F:∀base:Heap,K.In base->base.Ns mainGlobals mg->ef P w K mg base CX k fa fd [x] sp) (Nu:∀(s:cy) (u:cx),BindsTo s fd ⟨[u],[]⟩ [(x,u)])
  (Hh:∀H:Hp,oE K H a (ns.map V.int)->sp [.ref a] H (λv _=>v=.bl true) λ_ _ _=>False)
  (Qs:∀H e s',CX [] H s₁ (λ_ _ _=>False) e s'->False):
  codeAny (model P w) callerA (.call (.ref fa) ⟨[.ref a],[]⟩) (λr s'=>r=.ok (.ret (.bool true))/\OldK s₁.heap s'.heap/\s'.os=s₁.os/\AllBare s'.gens) s₁:=by
 have rv:=nS hi;have Qt:=hi.length;obtain⟨O4,Qu⟩:=Bool.and_eq_true_iff.mp Qr;have Hj:((qE K).map (·.1)).Nodup:=bL Qu
 have atT:∀{b:cE}{ps:Array cx},(qE K).lookup b=some ps->∃c pos qual,ps=uP pos qual/\W.CodeHd s₁.heap c b/\s₁.heap.get? b=some (W.tabObj #[]):=λ{b ps} h=>by
  obtain⟨x,c,pos,qual,hm,ht,e⟩:=HS (rl h);exact⟨c,pos,qual,e,hT x c b pos qual hm ht⟩
 have core:∀H0:Hp,(∀b u,H0 b=some u->b=a/\K.lookup a=none/\u=.zy {cls:=.type "list",data:=.seq vs.toArray} (.lst (ns.map V.int)))->oE K H0 a (ns.map V.int)->
   codeAny (model P w) callerA (.call (.ref fa) ⟨[.ref a],[]⟩) (λr s'=>r=.ok (.ret (.bool true))/\OldK s₁.heap s'.heap/\s'.os=s₁.os/\AllBare s'.gens) s₁:=by
  intro H0 h0 Uq;have hex:∃H:Hp,(∀b u,H0 b=some u->H b=some u)/\(∀b ps,(qE K).lookup b=some ps->H b=some (.zF ps))/\∀b u,H b=some u->(b=a/\K.lookup a=none/\u=.zy {cls:=.type "list",data:=.seq vs.toArray} (.lst (ns.map V.int)))\/∃ps,(qE K).lookup b=some ps/\u=.zF ps:=by
   refine⟨λb=>match(qE K).lookup b with|some ps=>some (HO.zF ps)|none=>H0 b,λb u e=>?_,λb ps e=>?_,λb u e=>?_⟩
   ·show(match(qE K).lookup b with|some ps=>some (HO.zF ps)|none=>H0 b)=_
    cases q:(qE K).lookup b with
    |none=>exact e
    |some ps=>
     obtain⟨c,pos,qual,_,_,e2⟩:=atT q;obtain⟨rfl,_⟩:=h0 b u e;rw[ha]at e2;cases e2
   ·show(match(qE K).lookup b with|some ps=>some (HO.zF ps)|none=>H0 b)=_
    rw[e]
   ·have e':(match(qE K).lookup b with|some ps=>some (HO.zF ps)|none=>H0 b)=some u:=e
    cases q:(qE K).lookup b with
    |none=>
     rw[q]at e';exact .inl (h0 b u e')
    |some ps=>
     rw[q]at e';cases e';exact .inr ⟨ps,rfl,rfl⟩
  obtain⟨H,up,ut,uo⟩:=hex;have hS:oE K H a (ns.map V.int):=by
   rcases Uq with h|h
   ·rcases h with h|⟨o,h⟩
    ·exact .inl (.inl (up _ _ h))
    ·exact .inl (.inr ⟨o,up _ _ h⟩)
   ·exact .inr h
  have fC:oC P w H s₁.heap:=λb u e=>by
   rcases uo b u e with⟨rfl,_,rfl⟩|⟨ps,q,rfl⟩
   ·exact⟨ha,by rw[ae];exact hl,vs,_,rv,ha⟩
   ·obtain⟨c,pos,qual,rfl,_,e2⟩:=atT q;exact⟨#[],e2,trivial,pos,qual,#[],by simp,.inl rfl⟩
  have sd:∀{b:cE}{o:Obj},s₁.heap.get? b=some o->H b=none->(uR s₁.heap H).get? b=some o:=λe n=>Ej e n
  have Nd:∀{b:cE}{o:Obj}{es:Array DictEntry}{ep:Nat},s₁.heap.get? b=some o->o.data=.dict es ep->H b=none:=λ{b o es ep} e d=>by
   cases q:H b with
   |none=>rfl
   |some u=>
    rcases uo b u q with⟨rfl,_,_⟩|⟨ps,q2,_⟩
    ·rw[ha]at e;cases e;have d':Data.seq vs.toArray _=Data.dict es ep:=d;cases d'
    ·obtain⟨c,pos,qual,_,_,e2⟩:=atT q2;rw[e]at e2;cases e2;cases d
  have O5:∀{b:cE}{m:ck},s₁.heap.Ns b m->(uR s₁.heap H).Ns b m:=λ{b m} ⟨o,es,ep,e,d,r⟩=>⟨o,es,ep,sd e (Nd e d),d,r⟩
  have R7:K.In (uR s₁.heap H):=λb o e=>sd (KX b o e) (by
   cases q:H b with
   |none=>rfl
   |some u=>
    rcases uo b u q with⟨rfl,hk,_⟩|⟨ps,q2,_⟩
    ·rw[hk]at e;cases e
    ·obtain⟨c,pos,qual,_,_,e2⟩:=atT q2;rw[KX b o e]at e2;cases e2;have h2:=List.all_eq_true.mp O4 (b,W.tabObj #[]) (W.mem_of_lookupK e);exact absurd (show false=true from h2) aZ)
  have hM:Mod K mg (uR s₁.heap H):=⟨R7,O5 HU,⟨mb,O5 hb,R6⟩,let ⟨mc,h1,h2⟩:=K1;⟨mc,O5 h1,h2⟩⟩;have R8:∀{b:cE}{o:Obj}{T:String},s₁.heap.get? b=some o->o.cls=.type T->T≠"list"->H b=none:=λ{b o T} e d nl=>by
   cases q:H b with
   |none=>rfl
   |some u=>
    rcases uo b u q with⟨rfl,_,_⟩|⟨ps,q2,_⟩
    ·rw[ha]at e;cases e;injection (show Value.type "list"=Value.type T from d)with d'
     exact absurd d'.symm nl
    ·obtain⟨c,pos,qual,_,_,e2⟩:=atT q2;rw[e]at e2;cases e2;cases d
  have O6:Cy K mg (uR s₁.heap H) H:=λx c Pt pos qual hm ht=>by
   obtain⟨hC,hP⟩:=hT x c Pt pos qual hm ht;obtain⟨o,Ur,file,tf,flags,tg,Us,text,tt,c1,c2,c3⟩:=hC;obtain⟨bm,ob,b1,b2,b3,b4,b5,b6⟩:=Up;refine⟨⟨#[],by rw[ut Pt _ (pG Hj (EI hm ht))];simp⟩,⟨o,Ur,file,tf,flags,tg,Us,text,tt,sd c1 (R8 c1 c2 (by decide)),c2,c3⟩,bm,ob,b1,b2,λz=>?_,λz=>?_,sd b3 (R8 b3 b4 (by decide)),b4,b5,b6⟩
   ·obtain⟨og,es,ep,e,hd,_⟩:=HU;rw[z,e]at b3;cases b3;rw[hd]at b6;cases b6
   ·rw[z,hP]at b3;cases b3;cases b4
  have e0:zT P w K mg (uR s₁.heap H) callerA [] s₁ H:=⟨rfl,hM,λb o e=>Ho e,Nat.le_of_eq (Cz _ _),trivial,λb hb=>absurd (show b∈([]:List cE)from hb) (by simp),fC,.of_eq hg,O6⟩
  refine codeAny_mono ((F _ R7 (O5 HU)).run callerA [] s₁ H ⟨[.ref a],[]⟩ [.ref a] [.ref a] _ _ hr e0 (Nu s₁ (.ref a)) (.cons rfl .nil) (Hh H hS)) λr s' h=>?_
  cases r with
  |error e=>exact(Qs H e s' h).elim
  |ok fl=>
   cases fl with
   |next=>exact False.elim h
   |brk=>exact False.elim h
   |cont=>exact False.elim h
   |ret u=>
    obtain⟨v,H',os,bare,un,Nv,r',q⟩:=h;have q':v=.bl true:=q;subst q';obtain rfl:u=Value.bool true:=r';refine⟨rfl,⟨λb o e=>?_,λb o e=>un.there b o e (by simp)⟩,os,bare⟩
    cases q:H b with
    |none=>exact .inl (un.keep b o e q (by intro z;exact absurd (show b∈([]:List cE)from z) (by simp)) (by simp))
    |some u=>
     rcases uo b u q with⟨_,_,rfl⟩|⟨ps,q2,rfl⟩
     ·have z2:=un.wt b _ _ q;obtain⟨e1,_⟩:=fC b _ q;obtain⟨e2,_⟩:=Nv b _ z2;rw[e]at e1;cases e1;exact .inl e2
     ·obtain⟨c,pos,qual,_,hC,e2⟩:=atT q2;obtain⟨more,e3⟩:=un.uQ b _ q;obtain⟨qs,e4,_⟩:=(show vq H' s'.heap b (ps++more)from Nv b _ e3)
      rw[e]at e2;cases e2;exact .inr (.inl ⟨(hC.tab e).isCodeTable,rfl,#[],qs,rfl,by rw[e4];simp⟩)
 cases hk:K.lookup a with
 |some o=>
  have e:=KX a o hk;rw[ha]at e;cases e;exact core (λ_=>none) (λb u z=>by cases z) (.inr ⟨_,vs.toArray,_,hk,rfl,rfl,rfl,by rw[aq,Qt];exact hl,by simpa using rv⟩)
 |none=>
  refine core (λb=>if b=a then some (.zy {cls:=.type "list",data:=.seq vs.toArray} (.lst (ns.map V.int)))else none) (λb u z=>?_) (.inl (.inr ⟨{cls:=.type "list",data:=.seq vs.toArray},if_pos rfl⟩))
  by_cases hb:b=a
  ·have z':=(if_pos hb).symm.trans z;cases z';exact⟨hb,hk,rfl⟩
  ·have z':=(if_neg hb).symm.trans z;cases z'
theorem HV {l:W.OpenLaw}{n k:Nat}{q:cA}{loose:List Str}{XP:(ck)->Heap->Prop}{YP:cB->Heap->Prop}{d:DefRec}{K:Params->W.Frag}{CX:cB->CL}{sp:cB->Sp}{x:Str}
  (hn:l.most=some n) (Mt:n<=sizeLine) (Nq:d.params.defaults=[]) (hr:fR k callerA)
  (hY:∀(w:cB) (h:Heap),YP w h->(K w.params).In h)
  (EJ:∀t∈rO,((recsOf q).find? λe=>e.name==t.1).isSome=true)
  (F:∀(w:cB) (mg:ck) (fa:cE) (h:Heap),(K w.params).In h->h.Ns mainGlobals mg->mg d.name=some (.ref fa)->
   tabsOk (K w.params)=true/\∃fd:cz,(∀(s:cy) (u:cx),BindsTo s fd ⟨[u],[]⟩ [(x,u)])/\
    ∀base:Heap,(K w.params).In base->base.Ns mainGlobals mg->ef l.prog w (K w.params) mg base (CX w) k fa fd [x] (sp w))
  (Hh:∀(w:cB) (H:Hp) (a:cE) (ns:cp),ns.length<=n->oE (K w.params) H a (ns.map V.int)->sp w [.ref a] H (λv _=>v=.bl true) λ_ _ _=>False)
  (Qs:∀(w:cB) (H:Hp) (s:cy) (e:cx) (s':cy),CX w [] H s (λ_ _ _=>False) e s'->False):
  W.WalkO q loose XP YP l.row.toRowW d [] (λf vs=>PySem.call f vs):=by
 refine R5.ya hn Nq λw s₀ s₁ mg mb fa o pm cd doc a vs ns G Y ho hd uS Nr K0 hints hlen hg=>?_
 have KX:=hY w _ Y;obtain⟨Qr,fd,hb,hF⟩:=F w mg fa _ KX G.T.g Nr;refine CS KX G.T.g G.T.b G.T.builtins G.T.nolimit hg K0 hints (aB hlen Mt) hr Qr (λx c Pt pos qual hm ht=>?_) (let ⟨bm,ob,b1,b2,b3,b4,b5,b6⟩:=G.T.bmain;⟨bm,ob,b1,b2,b3,b4,b5,b6⟩) hF hb (λH hS=>Hh w H a ns hlen hS) λH e s'=>Qs w H s₁ e s'
 obtain⟨d',Ju⟩:=Option.isSome_iff_exists.mp (EJ _ hm);exact W.tab_of G.T KX Ju ht
end L2
namespace L2
open PySem PySem.Spec PyProof.Rows
theorem j7 (env:Env):∀(names:List (Str×NameKind)) (x:Str),
  (names.map λ(n,k)=>if(k==NameKind.free&&env.scope.kind==.function&&env.kindOf n==some .cell)then(n,NameKind.cell)else(n,k)).lookup x=
   (names.lookup x).map λk=>if(k==NameKind.free&&env.scope.kind==.function&&env.kindOf x==some .cell)then NameKind.cell else k
 |[],_=>rfl
 |(n,k)::r,x=>by
  have ih:=j7 env r x;rw[aE];show List.lookup x ((if(k==NameKind.free&&env.scope.kind==.function&&env.kindOf n==some .cell)=true then(n,NameKind.cell)else(n,k))::_)=_
  by_cases hx:x=n
  ·subst hx;by_cases hc:(k==NameKind.free&&env.scope.kind==.function&&env.kindOf x==some .cell)=true
   ·rw[if_pos hc];simp only[bq,bO,bB];rw[if_pos hc]
   ·rw[if_neg hc];simp only[bq,bO,bB];rw[if_neg hc]
  ·have hb:(x==n)=false:=by simpa using hx
   by_cases hc:(k==NameKind.free&&env.scope.kind==.function&&env.kindOf n==some .cell)=true
   ·rw[if_pos hc];simp only[bq,hb];exact ih
   ·rw[if_neg hc];simp only[bq,hb];exact ih
theorem mem_lookup {α:Type}:∀{l:List (Str×α)}{x:Str}{a:α},l.lookup x=some a->(x,a)∈l
 |[],_,_,h=>by cases h
 |(n,b)::r,x,a,h=>by
  by_cases hx:x=n
  ·subst hx;simp only[bq,bO,Option.some.injEq]at h;subst h;exact af
  ·have hb:(x==n)=false:=by simpa using hx
   simp only[bq,hb]at h;exact ai _ (mem_lookup h)
theorem zX {scope:Scope}{env:Env}(h:∀y∈scope.names,y.2=.free->∃c,env.cells.lookup y.1=some c):
  ∃cl,closureFor scope env=pure cl/\(∀x c,cl.lookup x=some c->env.cells.lookup x=some c/\(x,NameKind.free)∈scope.names)/\(∀x,(x,NameKind.free)∈scope.names->∃c,cl.lookup x=some c):=by
 have loop:∀(l:List (Str×NameKind)) (acc:List (Str×cE)) (f:Str×NameKind->List (Str×cE)->Sem (ForInStep (List (Str×cE)))),
   (∀n k a,f (n,k) a=if(k==NameKind.free)=true then(do let c <-cellOf env n;pure (ForInStep.yield ((n,c)::a)))else pure (ForInStep.yield a))->
   (∀y∈l,y.2=.free->∃c,env.cells.lookup y.1=some c)->
   ∃cl,forIn l acc f=pure cl/\(∀x c,cl.lookup x=some c->acc.lookup x=some c\/(env.cells.lookup x=some c/\(x,NameKind.free)∈l))/\(∀x,((x,NameKind.free)∈l\/∃c,acc.lookup x=some c)->∃c,cl.lookup x=some c):=by
  intro l;induction l with
  |nil=>intro acc f _ _;exact⟨acc,rfl,λx c e=>.inl e,λx e=>e.elim (λz=>nomatch z) id⟩
  |cons y r ih=>
   intro acc f hf hl;obtain⟨n,k⟩:=y;have hr:∀y∈r,y.2=.free->∃c,env.cells.lookup y.1=some c:=λy hy=>hl y (ai _ hy)
   rw[List.forIn_cons,hf];by_cases hk:k=.free
   ·subst hk;obtain⟨c,hc⟩:=hl (n,.free) af rfl;have ec:cellOf env n=pure c:=by unfold cellOf;rw[hc]
    rw[if_pos (by rfl),ec]
    obtain⟨cl,e1,e2,e3⟩:=ih ((n,c)::acc) f hf hr;refine⟨cl,by simpa using e1,λx d hx=>?_,λx hx=>e3 x ?_⟩
    ·rcases e2 x d hx with z|⟨z1,z2⟩
     ·by_cases Mv:x=n
      ·subst Mv;simp only[bq,bO,Option.some.injEq]at z;subst z;exact .inr ⟨hc,af⟩
      ·have hb:(x==n)=false:=by simpa using Mv
       simp only[bq,hb]at z;exact .inl z
     ·exact .inr ⟨z1,ai _ z2⟩
    ·by_cases Mv:x=n
     ·subst Mv;exact .inr ⟨c,by simp[bq]⟩
     ·have hb:(x==n)=false:=by simpa using Mv
      rcases hx with z|⟨d,z⟩
      ·rcases List.mem_cons.mp z with z|z
       ·cases z;exact absurd rfl Mv
       ·exact .inl z
      ·exact .inr ⟨d,by simp only[bq,hb];exact z⟩
   ·have hb:(k==NameKind.free)=false:=by simpa using hk
    rw[if_neg (by rw[hb];exact aZ)]
    obtain⟨cl,e1,e2,e3⟩:=ih acc f hf hr;refine⟨cl,by simpa using e1,λx d hx=>(e2 x d hx).elim .inl λz=>.inr ⟨z.1,ai _ z.2⟩,λx hx=>e3 x ?_⟩
    rcases hx with z|z
    ·rcases List.mem_cons.mp z with z|z
     ·cases z;exact absurd rfl hk
     ·exact .inl z
    ·exact .inr z
 have ec:closureFor scope env=forIn scope.names ([]:List (Str×cE)) (λ(x:Str×NameKind) a=>if(x.2==NameKind.free)=true then(do let c <-cellOf env x.1;pure (ForInStep.yield ((x.1,c)::a)))else pure (ForInStep.yield a)):=by
  unfold closureFor;simp only[bind_pure]
 obtain⟨cl,e1,e2,e3⟩:=loop scope.names [] (λ(x:Str×NameKind) a=>if(x.2==NameKind.free)=true then(do let c <-cellOf env x.1;pure (ForInStep.yield ((x.1,c)::a)))else pure (ForInStep.yield a)) (λn k a=>rfl) h
 refine⟨cl,?_,λx c hx=>?_,λx hx=>e3 x (.inl hx)⟩
 ·rw[ec,e1]
 ·rcases e2 x c hx with z|z
  ·simp at z
  ·exact z
noncomputable def dg (X:Cx) (scope:Scope) (cl:List (Str×cE)) (C:cE) (s:cy) (H:Hp) (fp:List cE):Cx:=
 {X with s₀:=s,H₀:=H,env:=compEnvC scope cl C X.env,outer:=X.stack,ex:=fp,fn:=λ_=>false,pn:=[],xe:=λ_ _=>False}
noncomputable def se (N:List Str) (outer names:List (Str×NameKind)) (x:Str):Bool:=
 names.all (λy=>(y.2!=.cell&&(y.2!=.local||y.1==x|| !(N.contains y.1)))&&(y.2!=.local||names.lookup y.1==some .local)&&(y.2!=.free||((outer.lookup y.1==some .cell||outer.lookup y.1==some .free)&&names.lookup y.1==some .free)))&&names.lookup x==some .local
structure fU (X:Cx) (scope:Scope) (x:Str) (j:Nat):Prop where
 kind:scope.kind=.function
 ok:se X.N X.env.scope.names scope.names x=true
 hj:X.N[j]? =some x
 nd:X.N.Nodup
section
variable {X:Cx}{scope:Scope}{x:Str}{j:Nat}
theorem fU.all (S:fU X scope x j):∀y∈scope.names,y.2≠.cell/\(y.2=.local->scope.names.lookup y.1=some .local)/\(y.2=.free->(X.env.kindOf y.1=some .cell\/X.env.kindOf y.1=some .free)/\scope.names.lookup y.1=some .free):=λy hy=>by
 have h:=S.ok;unfold se at h;have h1:=(List.all_eq_true.mp (Bool.and_eq_true_iff.mp h).1) y hy;have h2:=Bool.and_eq_true_iff.mp h1;have h3:=Bool.and_eq_true_iff.mp h2.1;have h0:=Bool.and_eq_true_iff.mp h3.1;refine⟨by simpa using h0.1,λe=>?_,λe=>?_⟩
 ·have:=h3.2;rw[e]at this
  simpa using this
 ·have:=h2.2;rw[e]at this;exact(by simpa using this:(X.env.scope.names.lookup y.1=some .cell\/X.env.scope.names.lookup y.1=some .free)/\scope.names.lookup y.1=some .free)
theorem fU.only(S:fU X scope x j) {y:Str}(hm:(y,NameKind.local)∈scope.names) {i:Nat}(sU:i≠j) (e:X.N[i]? =some y):False:=by
 have h:=S.ok;unfold se at h;have h1:=(List.all_eq_true.mp (Bool.and_eq_true_iff.mp h).1) _ hm;have h2:=Bool.and_eq_true_iff.mp h1;have h3:=Bool.and_eq_true_iff.mp h2.1;have h0:=(Bool.and_eq_true_iff.mp h3.1).2;have hN:y∈X.N:=bh e;have Ut:X.N.contains y=true:=by simpa using hN
 simp only[Ut,bne_self_eq_false,Bool.false_or,bU,Bool.or_false]at h0;have:y=x:=by simpa using h0
 subst this;exact sU (sJ S.nd e S.hj)
theorem fU.hx (S:fU X scope x j):scope.names.lookup x=some .local:=by
 have h:=S.ok;unfold se at h
 simpa using (Bool.and_eq_true_iff.mp h).2
end
def EK (X:Cx) (ifs:List cF) (t:TT):Prop:=
 ∀(pins:cm) (s:cy) (σ:St) (H:Hp) (Q:Bool->Hp->Prop),Inv X pins σ H s->t σ H Q->
  wpAny (model X.prog X.w) X.A (forIn ifs true λc r=>if r=true then do let ok <-isTrue c X.env (eval c X.env);pure (ForInStep.yield ok)else pure (ForInStep.yield r)) (TP X pins σ Q) X.xe s
noncomputable def Nw:TT:=λ_ H Q=>Q true H
theorem sV {X:Cx}:EK X [] Nw:=λ_ _ _ H _ I h=>wpAny_tests_nil ⟨H,I,h⟩
theorem yb {X:Cx}{c:cF}{t:TT}(h:PT X c t):EK X [c] t:=λpins s σ H Q I q=>wpAny_tests_one (h pins s σ H Q I q)
noncomputable def BA (wi:TI) (j:Nat) (tt:TT) (te:TE):TE:=λσ H Q=>wi σ H λJ H1=>∀D,H1 D=none->∃W:Nat->Nat->List V->Hp->Prop,(∃m,W 0 m [] (upd H1 D (.lst [])))/\
 ∀i m acc H,W i m acc H->(J.stop i H/\Q (.ref D) H)\/(J.go i H/\∀x H',J.JB i H x H'->tt (σ.set j (some x)) H' λb H2=>
  if b=true then te (σ.set j (some x)) H2 λy H3=>H3 D=some (.lst acc)/\acc.length<sizeLine/\∃m',m'<m/\W (i+1) m' (acc++[y]) (upd H3 D (.lst (acc++[y])))else ∃m',m'<m/\W (i+1) m' acc H2)
theorem wI {prog:cA}{w:cB}{A:cC}{R:Result->cy->Prop}{s:cy}{elt target iter:cF}{ifs:List cF}{scope:Scope}{pos:Pos}{it acc:cx}{env:Env}(I:Nat->cy->Prop)
  (turn:∀n s,I n s->wpAny (model prog w) A (pyNext it) (λr s₁=>match r with
   |none=>R (.ok .next) s₁
   |some v=>wpAny (model prog w) A (letOwnedTupleGo target it v) (λ_ s₁=>wpAny (model prog w) A (assign target env v) (λ_ s₂=>
     wpAny (model prog w) A (forIn ifs true λc r=>if r=true then do let ok <-isTrue c env (eval c env);pure (ForInStep.yield ok)else pure (ForInStep.yield r)) (λok s₃=>
      if ok=true then wpAny (model prog w) A (eval elt env) (λx s₄=>
       wpAny (model prog w) A (call (.builtin "list.append") [acc,x]) (λ_ s₅=>∃m,m<n/\I m s₅) (λ_ _=>False) s₄) (λ_ _=>False) s₃
      else ∃m,m<n/\I m s₃) (λ_ _=>False) s₂) (λ_ _=>False) s₁) (λ_ _=>False) s₁) (λ_ _=>False) s)
  (n:Nat) (h:I n s):
  codeAny (model prog w) A (.compLoop (.ListComp elt [⟨target,iter,ifs,0⟩] scope pos) 0 it acc env) R s:=by
 refine codeAny_loop rfl I (λn s hI=>?_) n h
 show wpAny _ A ((compTurn (.ListComp elt [⟨target,iter,ifs,0⟩] scope pos) 0 it acc env).onRaise (λx=>do noteFrame x env;theTreesLotGoes x)) _ _ s
 refine wpAny_noted ?_;rw[compTurn_list];refine aa (wpAny_standAt (aa (bQ (turn n s hI) (λr s₁ h₁=>?_) λ_ _ h'=>h'.elim)))
 cases r with
 |none=>exact aj h₁
 |some v=>
  refine aa (bQ h₁ (λ_ s₁ h₁=>?_) λ_ _ h'=>h'.elim)
  refine aa (bQ h₁ (λ_ s₂ h₂=>aa (bQ h₂ (λok s₃ h₃=>?_) λ_ _ h'=>h'.elim)) λ_ _ h'=>h'.elim)
  cases ok with
  |false=>exact aj ⟨rfl,h₃⟩
  |true=>
   exact aa (aa (bQ h₃ (λx s₄ h₄=>aa (bQ h₄ (λ_ s₅ h₅=>aj (aj ⟨rfl,h₅⟩)) λ_ _ h'=>h'.elim)) λ_ _ h'=>h'.elim))
section
variable {X:Cx}{elt iter:cF}{ifs:List cF}{x:Str}{px pos:Pos}{scope:Scope}{j:Nat}{wi:TI}{tt:TT}{te:TE}
theorem sW (hc:X.calm=true) (S:fU X scope x j) {cl:List (Str×cE)}(sX:closureFor scope X.env=pure cl) (Eb:∀y c,cl.lookup y=some c->X.env.cells.lookup y=some c/\(y,NameKind.free)∈scope.names)
  (Mw:∀y,(y,NameKind.free)∈scope.names->∃c,cl.lookup y=some c)
  (ht:∀cl C s H fp,EK (dg X scope cl C s H fp) ifs tt) (he:∀cl C s H fp,PE (dg X scope cl C s H fp) elt te)
  {pins:cm}{σ:St}{H2:Hp}{s₂:cy}{it:cE}{fp:List cE}{tn:Nat->Heap->Prop}{J:It}{Q:VK}(I2:Inv X pins σ H2 s₂) (T:Turn X.prog X.w X.K (.Name x px) J fp it tn) (JD:tn 0 s₂.heap) (f2:∀b∈fp,xV X pins H2 b)
  (hR:∀D,H2 D=none->∃W:Nat->Nat->List V->Hp->Prop,(∃m,W 0 m [] (upd H2 D (.lst [])))/\
   ∀i m acc H,W i m acc H->(J.stop i H/\Q (.ref D) H)\/(J.go i H/\∀x H',J.JB i H x H'->tt (σ.set j (some x)) H' λb H2=>
    if b=true then te (σ.set j (some x)) H2 λy H3=>H3 D=some (.lst acc)/\acc.length<sizeLine/\∃m',m'<m/\W (i+1) m' (acc++[y]) (upd H3 D (.lst (acc++[y])))else ∃m',m'<m/\W (i+1) m' acc H2))
  {RR:cx->cE->Result->cy->Prop}
  (Uu:∀D C s' H' m',s₂.heap.objs.size<=C->Inv X pins σ H' s'->s'.heap.Ns C m'->H' C=none->Q (.ref D) H'->RR (.ref D) C (.ok .next) s') {E:cj}:
  wpAny (model X.prog X.w) X.A (newList []) (λacc s₃=>wpAny (model X.prog X.w) X.A (newFunctionEnv scope X.env.globals cl [] X.env.qual none .none (some X.env)) (λNx s₄=>
   codeAny (model X.prog X.w) X.A (.compStart (.ListComp elt [⟨.Name x px,iter,ifs,0⟩] scope pos) 0 (.ref it) acc {Nx with scope:=relabel scope X.env}) (RR acc Nx.locals) s₄) E s₃) E s₂:=by
 have A1:=S.all;refine bS (wpAny_newFunctionEnv (λy hy=>(A1 y hy).1) (by intro y hy;simp at hy) (λh₁ HW EL=>?_) S.kind)
 dsimp only at HW EL ⊢;generalize Ny:s₂.heap.push {cls:=.type "list",dict:=none,data:=.seq ([]:cw).toArray}=G at HW EL ⊢;have hC:G.objs.size=s₂.heap.objs.size+1:=by rw[<-Ny,Heap.size_push]
 have O7:s₂.heap.objs.size≠G.objs.size:=by rw[hC];exact aD (Nat.lt_succ_self _)
 have zY:s₂.heap.objs.size<=G.objs.size:=by rw[hC];exact Nat.le_succ _
 have below:∀b,b<s₂.heap.objs.size->b≠G.objs.size/\b≠s₂.heap.objs.size:=λb hb=>⟨by rw[hC];exact aD (Nat.lt_succ_of_lt hb),aD hb⟩
 have old:∀b o,s₂.heap.get? b=some o->h₁.get? b=some o:=λb o e=>EL.extBut b o (below b (az e)).1 (ag _ (Ny▸ag _ e))
 have ou:h₁.get? s₂.heap.objs.size=some {cls:=.type "list",data:=.seq ([]:cw).toArray 0}:=EL.extBut _ _ O7 (ag _ (Ny▸ay _ rfl));generalize YG:G.objs.size=C at HW EL hC O7 zY below ⊢;generalize zZ:s₂.heap.objs.size=D at ou hC O7 zY below ⊢;have R9:H2 D=none:=by rw[<-zZ];exact I2.fC.fresh (au _)
 have Uv:H2 C=none:=I2.fC.fresh (by rw[zZ];exact zY)
 obtain⟨W,⟨m0,w0⟩,turn⟩:=hR D R9;have EM:∀b∈fp,b<D:=λb hb=>by
  obtain⟨o,e,_⟩:=T.obj 0 _ JD b hb;rw[<-zZ];exact az e
 have ok:(dg X scope cl C s₂ H2 fp).Ok:=by
  have o:=I2.ok;refine⟨o.mod,S.kind,o.glob,o.blt,by show s₂.heap.objs.size<=C;rw[zZ];exact zY,λy z c e1 e2=>o.inj y z c (Eb y c e1).1 (Eb z c e2).1,λy hy=>?_,λy c z=>(by cases z),o.hd,o.frames,.inl rfl,λb hb=>⟨?_,λy c e=>(f2 b hb).2.2.2.2.1 y c (Eb y c e).1⟩,
   λb ob e=>I2.bs b ob e,aB o.Hf I2.sz,λb ob e hb=>?_,λb hb z=>?_,I2.stack,I2.Bl,I2.ok.tb.un I2.base⟩
  ·have q:((relabel scope X.env).names.lookup y=some .cell\/(relabel scope X.env).names.lookup y=some .free):=hy;have e:=j7 X.env scope.names y;have fr:scope.names.lookup y=some .free:=by
    cases k:scope.names.lookup y with
    |none=>
     rw[k]at e;have e':(relabel scope X.env).names.lookup y=none:=e;rw[e']at q;rcases q with q|q<;>cases q
    |some kk=>
     by_cases hk:kk=.free
     ·rw[hk]
     ·rw[k]at e;have hb:(kk==NameKind.free)=false:=by simpa using hk
      have e':(relabel scope X.env).names.lookup y=some kk:=by
       refine e.trans ?_;simp only[bB,hb,Bool.false_and,aH,bE]
      rw[e']at q;have hm:(y,kk)∈scope.names:=mem_lookup k;rcases q with q|q
      ·exact absurd (aS q) (A1 _ hm).1
      ·exact absurd (aS q) hk
   exact Mw y (mem_lookup fr)
  ·show b≠C;exact aD (aw (EM b hb) zY)
  ·rcases(f2 b hb).2.2.2.1 with z|z
   ·exact o.Ek b ob e z
   ·exact absurd (aw (az e) (aB o.Hf z)) (Nat.lt_irrefl _)
  ·rcases List.mem_cons.mp (I2.wu b z)with z|z
   ·exact(f2 b hb).2.1 z
   ·exact(f2 b hb).2.2.1 z
 have Nz:Un (D9 X.stack) fp H2 (upd H2 D (.lst [])) s₂.heap h₁:=Un.laid old (by rw[zZ];exact au _) R9
 have HX:∀y c,cl.lookup y=some c->c<D:=λy c e=>by
  obtain⟨v,z⟩:=I2.cell y c (Eb y c e).1;rw[<-zZ];exact z.lt
 have zL:∀{H':Hp},(∀b∈fp,H' b=none)->∀b∈fp,xV (dg X scope cl C s₂ H2 fp) [] H' b:=λhn b hb=>
  ⟨hn b hb,aD (aw (EM b hb) zY),λz=>(List.mem_cons.mp (I2.wu b z)).elim (λq=>(f2 b hb).2.1 q) λq=>(f2 b hb).2.2.1 q,.inl hb,λy c e=>(f2 b hb).2.2.2.2.1 y c (Eb y c e).1,(λp hp=>nomatch hp)⟩
 have NA:(relabel scope X.env).names.lookup x=some .local:=lookup_relabel_local S.hx;have start:Inv (dg X scope cl C s₂ H2 fp) [] (σ.set j none) (upd H2 D (.lst [])) {s₂ with heap:=h₁,toks:=s₂.toks+([]:List (Str×cx)).length}:=by
  refine⟨ok,rfl,I2.bare,Nz,⟨_,HW,λi y v e1 e2 e3=>?_⟩,λy c e=>?_,?_,λy c e=>?_,(λp hp=>nomatch hp),?_,?_⟩
  ·obtain⟨m,hn,hl⟩:=I2.loc;by_cases sU:i=j
   ·subst sU;have:(σ.set i none)[i]? =some none\/(σ.set i none)[i]? =none:=by
     by_cases hi:i<σ.length
     ·left;rw[bc hi]
     ·right;simp;omega
    rcases this with q|q<;>(rw[q]at e2;cases e2)
   ·rw[aF (Ne.symm sU)]at e2;have O8:(relabel scope X.env).names.lookup y=some .local\/(relabel scope X.env).names.lookup y=some .cell\/(relabel scope X.env).names.lookup y=some .free:=e3;have er:=j7 X.env scope.names y;have O9:(relabel scope X.env).names.lookup y=(scope.names.lookup y).map λk=>if(k==NameKind.free&&X.env.scope.kind==.function&&X.env.kindOf y==some .cell)then NameKind.cell else k:=er
    cases k:scope.names.lookup y with
    |none=>
     rw[k]at O9;have K2:(relabel scope X.env).names.lookup y=none:=O9;rw[K2]at O8;rcases O8 with q|q|q<;>cases q
    |some kk=>
     have hm:(y,kk)∈scope.names:=mem_lookup k;obtain⟨a1,a2,a3⟩:=A1 _ hm;by_cases hk:kk=.free
     ·subst hk;obtain⟨o1,_⟩:=a3 rfl;have Qv:Mp X.env.scope y:=o1.elim (λz=>.inr (.inl z)) λz=>.inr (.inr z)
      obtain⟨u,r,l⟩:=hl i y v e1 e2 Qv;obtain⟨c',lZ⟩:=Mw y hm;refine⟨u,r,.inr ⟨?_,c',lZ,?_⟩⟩
      ·show(relabel scope X.env).names.lookup y=some .cell\/(relabel scope X.env).names.lookup y=some .free;rw[O9,k];simp only[bB];split
       ·exact .inl rfl
       ·exact .inr rfl
      ·rcases l with⟨l1,_⟩|⟨_,c,ec,z⟩
       ·rcases o1 with o1|o1<;>(rw[l1]at o1;cases o1)
       ·have Pa:=(Eb y c' lZ).1;rw[ec]at Pa;cases Pa;obtain⟨oc,ho,hd⟩:=z;exact⟨oc,old _ _ ho,hd⟩
     ·have hb:(kk==NameKind.free)=false:=by simpa using hk
      have K2:(relabel scope X.env).names.lookup y=some kk:=by rw[O9,k];simp only[bB,hb,Bool.false_and,aH,bE]
      rw[K2]at O8;rcases O8 with q|q|q
      ·
       cases q;exact(S.only hm sU e1).elim
      ·cases q;exact absurd rfl a1
      ·cases q;exact absurd rfl hk
  ·obtain⟨v,oc,ho,hd⟩:=I2.cell y c (Eb y c e).1;exact⟨v,oc,old _ _ ho,hd⟩
  ·show upd H2 D (.lst []) C=none;rw[cK (Ne.symm O7)];exact Uv
  ·rw[cK (aD (HX y c e))];exact I2.mU y c (Eb y c e).1
  ·exact I2.fC.laid old (by rw[zZ];exact au _) ⟨bM _,[],0,.nil,ou⟩
  ·show(σ.set j none).length=X.N.length;rw[List.length_set];exact I2.len
 have Sa:tn 0 h₁:=T.keep _ _ _ JD λb hb o e=>old b o e
 have Uw:∀b∈fp,upd H2 D (.lst []) b=none:=λb hb=>by rw[cK (aD (EM b hb))];exact(f2 b hb).1
 have K3:j<σ.length:=by rw[I2.len];exact(List.getElem?_eq_some_iff.mp S.hj).1
 have loop:∀s₄:cy,s₄={s₂ with heap:=h₁,toks:=s₂.toks+([]:List (Str×cx)).length}->
   codeAny (model X.prog X.w) X.A (.compLoop (.ListComp elt [⟨.Name x px,iter,ifs,0⟩] scope pos) 0 (.ref it) (.ref D) (compEnvC scope cl C X.env)) (RR (.ref D) C) s₄:=by
  rintro s₄ rfl
  refine wI (λn s'=>∃i acc H',Inv (dg X scope cl C s₂ H2 fp) [] (σ.set j none) H' s'/\tn i s'.heap/\(∀b∈fp,H' b=none)/\W i n acc H') ?_ m0 ⟨0,[],_,start,Sa,Uw,w0⟩
  rintro n s3 ⟨i,acc,H3,I3,MU,MV,w3⟩
  rcases turn i n acc H3 w3 with⟨stop,qn⟩|⟨go,step⟩
  ·refine gM (T.done (dg X scope cl C s₂ H2 fp) rfl rfl rfl hc i [] s3 _ H3 _ I3 (zL MV) MU stop) λr s4 ⟨hr,I4⟩=>?_
   subst hr;obtain⟨m',xT,_⟩:=I4.loc;exact Uu D C s4 H3 m' (by rw[zZ];exact zY) (I2.MJ (ch:=fp) I4.os I4.base I4.fC I4.bare λb hb=>⟨(f2 b hb).2.2.2.1,(f2 b hb).2.1,(f2 b hb).2.2.2.2.1,(f2 b hb).2.2.2.2.2⟩) xT I4.free qn
  ·refine gM (T.item (dg X scope cl C s₂ H2 fp) rfl rfl rfl hc i [] s3 _ H3 _ I3 (zL MV) MU go) λr s4 ⟨u,hr,h4⟩=>?_
   subst hr;refine gM h4 λ_ s5 ⟨y,H5,I5,r5,y5,Ky,Qd⟩=>?_
   have Qe:=I5.pinned (zL Qd) (T.obj _ _ Ky);refine wpAny_assign_Name (sL Qe S.nd (show(dg X scope cl C s₂ H2 fp).N[j]? =some x from S.hj) (.inl NA) r5 (λs6 I6=>?_) (.inr NA))
   have eσ:(σ.set j none).set j (some y)=σ.set j (some y):=by rw[List.set_set]
   rw[eσ]at I6;refine gM (ht cl C s₂ H2 fp _ s6 _ H5 _ I6 (step y H5 y5)) λb s7 ⟨H7,I7,q7⟩=>?_
   have again:∀{H8:Hp}{s8:cy}{K4:List V},Inv (dg X scope cl C s₂ H2 fp) ([]++sN fp s5.heap) (σ.set j (some y)) H8 s8->(∃m',m'<n/\W (i+1) m' K4 H8)->∃m,m<n/\∃i acc H',Inv (dg X scope cl C s₂ H2 fp) [] (σ.set j none) H' s8/\tn i s8.heap/\(∀b∈fp,H' b=none)/\W i m acc H':=λ{H8 s8 K4} I8 ⟨m',hm,w8⟩=>by
    refine⟨m',hm,i+1,K4,H8,I8.pB.weak (by simp) (λk v e=>?_),T.keep _ _ _ Ky λb hb o e=>(I8.pin (b,o) (aL _ (aL _ (md hb e)))).1,λb hb=>?_,w8⟩
    ·by_cases hk:k=j
     ·subst hk;rw[bc K3]at e;cases e
     ·rw[aF (Ne.symm hk)]at e ⊢;exact e
    ·obtain⟨o,e,d⟩:=T.obj _ _ Ky b hb;exact(I8.pin (b,o) (aL _ (aL _ (md hb e)))).2.1
   cases b with
   |false=>exact again I7 (by simpa using q7)
   |true=>
    simp only[if_true]at q7 ⊢;refine gM (he cl C s₂ H2 fp _ s7 _ H7 _ I7 q7) λv s8 ⟨z,H8,I8,r8,Ux,Uy,q8⟩=>?_
    refine gM (vC (X:=dg X scope cl C s₂ H2 fp) _ s8 _ H8 (.ref D) [z] (.ref D) [v] (λ_ H9=>∃m',m'<n/\W (i+1) m' (acc++[z]) H9) I8 rfl (.cons r8 .nil) ⟨D,acc,z,rfl,rfl,Ux,Uy,q8⟩) λ_ s9 ⟨_,H9,I9,_,q9⟩=>?_
    exact again I9 q9
 exact codeAny_compStart_list (loop _ rfl) (T.self _ 0 _ _ _ Sa (loop _ rfl))
theorem sY (I0:X.Ok) (S:fU X scope x j):∃cl,closureFor scope X.env=pure cl/\(∀y c,cl.lookup y=some c->X.env.cells.lookup y=some c/\(y,NameKind.free)∈scope.names)/\(∀y,(y,NameKind.free)∈scope.names->∃c,cl.lookup y=some c):=
 zX λy hy e=>I0.has y.1 ((S.all y hy).2.2 e).1
theorem BB (hc:X.calm=true) (S:fU X scope x j) (hi:PI X (.Name x px) iter wi) (ht:∀cl C s H fp,EK (dg X scope cl C s H fp) ifs tt) (he:∀cl C s H fp,PE (dg X scope cl C s H fp) elt te)
  (hs:∀v,foldedSetIterable iter X.env v=pure v:=by intro _;rfl):PE X (.ListComp elt [⟨.Name x px,iter,ifs,0⟩] scope pos) (BA wi j tt te):=by
 intro pins s σ H Q I h;obtain⟨cl,sX,Eb,Mw⟩:=sY I.ok S;rw[eval_ListComp];refine wpAny_comprehension_free (use:=none) rfl hs sX S.kind (λy hy=>(S.all y hy).2.1) (gM (hi pins s σ H _ I h) λv s1 h1=>gM h1 λOZ s2 h2=>?_)
 obtain⟨it,fp,tn,J,H2,e,I2,T,JD,f2,hR⟩:=h2;subst e;refine sW hc S sX Eb Mw ht he I2 T JD f2 hR (RR:=λacc C=>compPost (model X.prog X.w) X.A X.xe none (EP X pins σ Q) acc C) ?_
 intro D C s' H' m' hC I' hn hf q;refine⟨m',hn,λh' EN=>⟨.ref D,H',?_,rfl,q⟩⟩
 exact I'.turned (t':=s'.toks) (it:=C) (λb o hb e=>(EN.2 b hb).trans e) hf (bx (aw I2.lt hC)) (.inr (aB I2.sz hC))
  (λy c e z=>by obtain⟨v,q⟩:=I2.cell y c e;exact absurd (aw q.lt (by rw[z];exact hC)) (Nat.lt_irrefl _)) λp hp z=>absurd (aw (az (I2.pin p hp).1) (by rw[z];exact hC)) (Nat.lt_irrefl _)
noncomputable def yc (i:Nat) (t:TE):TS:=λDn σ H=>t σ H λv H1=>Dn.nx (σ.set i (some v)) H1
theorem oY {i:Nat}{y:Str}{py mS:Pos}(hc:X.calm=true) (S:fU X scope x j) (hi:PI X (.Name x px) iter wi) (ht:∀cl C s H fp,EK (dg X scope cl C s H fp) ifs tt) (he:∀cl C s H fp,PE (dg X scope cl C s H fp) elt te)
  (hN:X.N[i]? =some y) (hy:Loc X.env.scope y) (hf:X.fn y=true\/X.env.scope.names.lookup y=some .local)
  (CT:swapsWith (.ListComp elt [⟨.Name x px,iter,ifs,0⟩] scope pos) (some (.Name y py)) mS.line X.env=pure true)
  (hs:∀v,foldedSetIterable iter X.env v=pure v:=by intro _;rfl):PS X (.Assign [.Name y py] (.ListComp elt [⟨.Name x px,iter,ifs,0⟩] scope pos) mS) (yc i (BA wi j tt te)):=by
 intro pins s σ H Dn I h;obtain⟨cl,sX,Eb,Mw⟩:=sY I.ok S;rw[exec_Assign_Name_used _ _ _ _ CT];refine aa (wpAny_standAt (aa ?_));show wpAny _ X.A (do let _ <-comprehension (.ListComp elt [⟨.Name x px,iter,ifs,0⟩] scope pos) scope X.env _ (newList []) false (eval iter X.env) (some (assign (.Name y py) X.env))) _ _ s
 refine aa (bQ (wpAny_comprehension_free (use:=some (assign (.Name y py) X.env)) (Q:=λ_ s'=>SP X pins Dn .next s') rfl hs sX S.kind (λy hy=>(S.all y hy).2.1)
  (gM (hi pins s σ H _ I h) λv s1 h1=>gM h1 λOZ s2 h2=>?_)) (λ_ s' hq=>aj (aj hq)) λ_ _ e=>e)
 obtain⟨it,fp,tn,J,H2,e,I2,T,JD,f2,hR⟩:=h2;subst e;refine sW (Q:=λv H1=>Dn.nx (σ.set i (some v)) H1) hc S sX Eb Mw ht he I2 T JD f2 hR (RR:=λacc C=>compPost (model X.prog X.w) X.A X.xe (some (assign (.Name y py) X.env)) (λ_ s'=>SP X pins Dn .next s') acc C) ?_
 intro D C s' H' m' hC I' hn HY q;show wpAny _ X.A (assign (.Name y py) X.env (.ref D)) _ _ _;have Sb:C≠X.env.locals:=bx (aw I2.lt hC);have Sd:∀y c,X.env.cells.lookup y=some c->c≠C:=λy c e z=>by obtain⟨v,q⟩:=I2.cell y c e;exact absurd (aw q.lt (by rw[z];exact hC)) (Nat.lt_irrefl _)
 refine wpAny_assign_Name (vt (v:=.ref D) I' S.nd hN hy rfl (λs6 I6 Uz=>?_) hf)
 obtain⟨a,Hk,ha⟩:=Uz;have UA:C≠a:=ha.elim (λz=>by rw[z];exact Sb) λz w=>Sd _ _ z w.symm
 refine⟨m',hn.sameBut Hk UA,λh' EN=>⟨_,H',?_,q⟩⟩
 exact I6.turned (t':=s6.toks) (it:=C) (λb o hb e=>(EN.2 b hb).trans e) HY Sb (.inr (aB I2.sz hC)) Sd λp hp z=>absurd (aw (az (I2.pin p hp).1) (by rw[z];exact hC)) (Nat.lt_irrefl _)
end
end L2
namespace So
open PySem PySem.W PyProof.Rows
noncomputable def gN {α:Type}(lt:Nat->Nat->Bool):KasT α->α
 |.ret a=>a
 |.ask i j k=>gN lt (k (lt i j))
theorem jZ {α β:Type}(lt:Nat->Nat->Bool) (f:α->KasT β):∀t:KasT α,gN lt (t.bind f)=gN lt (f (gN lt t))
 |.ret _=>rfl
 |.ask i j k=>jZ lt f (k (lt i j))
section
variable (rank:Nat->Int)
noncomputable def kk (p:Array Nat) (i:Nat):Int:=rank (p.getD i 0)
def Aa (p:Array Nat) (n:Nat):Prop:=∀i j,i<=j->j<n->kk rank p i<=kk rank p j
def Dec (p:Array Nat) (n:Nat):Prop:=∀i j,i<=j->j<n->kk rank p j<=kk rank p i
variable {rank}
theorem yd {p q:Array Nat}{i j:Nat}(h:p[i]? =q[j]?):kk rank p i=kk rank q j:=by
 unfold kk;rw[aT,aT,h]
theorem Ab {p:Array Nat}{i j:Nat}(hj:j<=p.size) (k:Nat):kk rank (kas_rev p i j) k=if i<=k/\k<j then kk rank p (i+j-1-k)else kk rank p k:=by
 have e:=getElem?_mirror_all (xs:=p) (i:=i) hj k;unfold kas_rev;split
 ·rename_i h;rw[if_pos h]at e;exact yd e
 ·rename_i h;rw[if_neg h]at e;exact yd e
theorem qF {p:Array Nat}{i j:Nat}(hj:j<=p.size) (he:∀k,i<=k->k<j->kk rank p k=kk rank p (j-1)) (k:Nat):kk rank (kas_rev p i j) k=kk rank p k:=by
 rw[Ab hj];split
 ·rw[he _ (by omega) (by omega),he k (by omega) (by omega)]
 ·rfl
theorem hV (p:Array Nat) (i j:Nat):(kas_rev p i j).Perm p:=mirror_perm _ _ _ _
theorem sZ (p:Array Nat) (i j:Nat):(kas_rev p i j).size=p.size:=(hV p i j).size_eq
theorem Aa.snoc {p:Array Nat}{n:Nat}(h:Aa rank p n) (h1:1<=n) (hx:kk rank p (n-1)<=kk rank p n):Aa rank p (n+1):=λi j sU hj=>by
 by_cases EO:j<n
 ·exact h i j sU EO
 ·have e:j=n:=by omega
  subst e;by_cases hi:i=j
  ·subst hi;exact Int.le_refl _
  ·exact Int.le_trans (h i (j-1) (by omega) (by omega)) hx
theorem Dec.snoc {p:Array Nat}{n:Nat}(h:Dec rank p n) (h1:1<=n) (hx:kk rank p n<=kk rank p (n-1)):Dec rank p (n+1):=λi j sU hj=>by
 by_cases EO:j<n
 ·exact h i j sU EO
 ·have e:j=n:=by omega
  subst e;by_cases hi:i=j
  ·subst hi;exact Int.le_refl _
  ·exact Int.le_trans hx (h i (j-1) (by omega) (by omega))
theorem Dec.congr {p q:Array Nat}{n:Nat}(h:Dec rank p n) (e:∀k,kk rank q k=kk rank p k):Dec rank q n:=λi j sU hj=>by rw[e,e];exact h i j sU hj
variable {lt:Nat->Nat->Bool}(eP:∀i j,lt i j=decide (rank i<rank j))
include eP
theorem ER {p:Array Nat}(f n:Nat):gN lt (kas_asc p (f+1) n)=if rank (p.getD n 0)<rank (p.getD (n-1) 0)then n else gN lt (kas_asc p f (n+1)):=by
 show gN lt (if lt (p.getD n 0) (p.getD (n-1) 0)=true then KasT.ret n else kas_asc p f (n+1))=_
 rw[eP];by_cases c:rank (p.getD n 0)<rank (p.getD (n-1) 0)
 ·rw[aR c,if_pos rfl,if_pos c];rfl
 ·rw[aG c,if_neg aZ,if_neg c]
theorem wJ {p:Array Nat}:∀(f n:Nat),1<=n->Aa rank p n->let m:=gN lt (kas_asc p f n);n<=m/\m<=n+f/\Aa rank p m/\(m=n+f\/kk rank p m<kk rank p (m-1))
 |0,n,h1,h=>⟨au _,au _,h,.inl rfl⟩
 |f+1,n,h1,h=>by
  dsimp only;rw[ER eP];by_cases c:rank (p.getD n 0)<rank (p.getD (n-1) 0)
  ·rw[if_pos c];exact⟨au _,by omega,h,.inr c⟩
  ·rw[if_neg c];have ih:=wJ f (n+1) (by omega) (h.snoc h1 (by show rank _<=rank _;omega))
   dsimp only at ih;obtain⟨a,b,c',d⟩:=ih;exact⟨by omega,by omega,c',d.elim (λz=>.inl (by omega)) .inr⟩
theorem CU (f:Nat) (p:Array Nat) (n q:Nat):gN lt (kas_desc (f+1) p n q)=if rank (p.getD n 0)<rank (p.getD (n-1) 0)then(if q>0 then gN lt (kas_desc f (kas_rev p (n-(q+1)) n) (n+1) 0)else gN lt (kas_desc f p (n+1) 0))
  else if rank (p.getD (n-1) 0)<rank (p.getD n 0)then(p,n,q)else gN lt (kas_desc f p (n+1) (q+1)):=by
 show gN lt (if lt (p.getD n 0) (p.getD (n-1) 0)=true then(if q>0 then kas_desc f (kas_rev p (n-(q+1)) n) (n+1) 0 else kas_desc f p (n+1) 0)
  else .ask (p.getD (n-1) 0) (p.getD n 0) λd=>if d=true then .ret (p,n,q)else kas_desc f p (n+1) (q+1))=_
 rw[eP];by_cases c:rank (p.getD n 0)<rank (p.getD (n-1) 0)
 ·rw[aR c,if_pos rfl,if_pos c];split<;>rfl
 ·rw[aG c,if_neg aZ,if_neg c];show gN lt (if lt (p.getD (n-1) 0) (p.getD n 0)=true then KasT.ret (p,n,q)else kas_desc f p (n+1) (q+1))=_
  rw[eP];by_cases c2:rank (p.getD (n-1) 0)<rank (p.getD n 0)
  ·rw[aR c2,if_pos rfl,if_pos c2];rfl
  ·rw[aG c2,if_neg aZ,if_neg c2]
theorem pH:∀(f:Nat) (p:Array Nat) (n q:Nat),1<=n->n+f<=p.size->Dec rank p n->q+1<=n->(∀i,n-(q+1)<=i->i<n->kk rank p i=kk rank p (n-1))->
  let r:=gN lt (kas_desc f p n q);r.1.Perm p/\n<=r.2.1/\r.2.1<=n+f/\Dec rank r.1 r.2.1/\r.2.2+1<=r.2.1/\(∀i,r.2.1-(r.2.2+1)<=i->i<r.2.1->kk rank r.1 i=kk rank r.1 (r.2.1-1))
 |0,p,n,q,h1,hz,h,hq,he=>⟨Array.Perm.refl _,au _,au _,h,hq,he⟩
 |f+1,p,n,q,h1,hz,h,hq,he=>by
  dsimp only;rw[CU eP];by_cases c:rank (p.getD n 0)<rank (p.getD (n-1) 0)
  ·rw[if_pos c];have hx:kk rank p n<=kk rank p (n-1):=Int.le_of_lt c;by_cases Se:q>0
   ·rw[if_pos Se];have es:=qF (rank:=rank) (p:=p) (i:=n-(q+1)) (j:=n) (by omega) he
    have ih:=pH f (kas_rev p (n-(q+1)) n) (n+1) 0 (by omega) (by rw[sZ];omega) ((h.snoc h1 hx).congr es) (by omega) (λi a b=>by rw[show i=n+1-1 by omega])
    dsimp only at ih;obtain⟨a,b,c',d⟩:=ih;exact⟨a.trans (hV _ _ _),by omega,by omega,d⟩
   ·rw[if_neg Se];have ih:=pH f p (n+1) 0 (by omega) (by omega) (h.snoc h1 hx) (by omega) (λi a b=>by rw[show i=n+1-1 by omega])
    dsimp only at ih;obtain⟨a,b,c',d⟩:=ih;exact⟨a,by omega,by omega,d⟩
  ·rw[if_neg c];by_cases c2:rank (p.getD (n-1) 0)<rank (p.getD n 0)
   ·rw[if_pos c2];exact⟨Array.Perm.refl _,au _,by show n<=_;omega,h,hq,he⟩
   ·rw[if_neg c2];have ex:kk rank p n=kk rank p (n-1):=by unfold kk;omega
    have ih:=pH f p (n+1) (q+1) (by omega) (by omega) (h.snoc h1 (Int.le_of_eq ex)) (by omega) (λi a b=>by
     rw[show n+1-1=n by omega]
     by_cases hi:i=n
     ·rw[hi]
     ·rw[ex];exact he i (by omega) (by omega))
    dsimp only at ih;obtain⟨a,b,c',d⟩:=ih;exact⟨a,by omega,by omega,d⟩
theorem vD {p:Array Nat}{n nrem:Nat}(h1:1<=n) (hn:n<=nrem) (hz:nrem<=p.size) (h:Dec rank p n):let r:=gN lt (kas_tail3 n nrem p);r.2.Perm p/\1<=r.1/\r.1<=nrem/\Aa rank r.2 r.1:=by
 dsimp only;unfold kas_tail3;rw[jZ];have hi:Aa rank (kas_rev p 0 n) n:=λi j sU hj=>by
  rw[Ab (by omega),Ab (by omega),if_pos (by omega),if_pos (by omega)]
  exact h _ _ (by omega) (by omega)
 have ih:=wJ eP (p:=kas_rev p 0 n) (nrem-n) n h1 hi;dsimp only at ih;exact⟨hV _ _ _,by show 1<=gN lt (kas_asc _ _ _);omega,by show gN lt (kas_asc _ _ _)<=nrem;omega,ih.2.2.1⟩
theorem pI {p:Array Nat}{n nrem:Nat}(hn:n+1<=nrem) (hz:nrem<=p.size) (h:Dec rank p (n+1)):let r:=gN lt (kas_descPart n nrem p);r.2.Perm p/\1<=r.1/\r.1<=nrem/\Aa rank r.2 r.1:=by
 dsimp only;unfold kas_descPart;rw[jZ];have ih:=pH eP (nrem-(n+1)) p (n+1) 0 (by omega) (by omega) h (by omega) (λi a b=>by rw[show i=n+1-1 by omega])
 dsimp only at ih;generalize gN lt (kas_desc (nrem-(n+1)) p (n+1) 0)=r at ih ⊢;obtain⟨a,b,c,d,e,g⟩:=ih;have sz:r.1.size=p.size:=a.size_eq;by_cases hq:r.2.2>0
 ·rw[if_pos hq];have es:=qF (rank:=rank) (p:=r.1) (i:=r.2.1-(r.2.2+1)) (j:=r.2.1) (by omega) g
  have t:=vD eP (p:=kas_rev r.1 (r.2.1-(r.2.2+1)) r.2.1) (n:=r.2.1) (nrem:=nrem) (by omega) (by omega) (by rw[sZ];omega) (d.congr es)
  exact⟨t.1.trans ((hV _ _ _).trans a),t.2⟩
 ·rw[if_neg hq];have t:=vD eP (p:=r.1) (n:=r.2.1) (nrem:=nrem) (by omega) (by omega) (by omega) d
  exact⟨t.1.trans a,t.2⟩
theorem CV {p:Array Nat}{nrem:Nat}(h1:1<=nrem) (hz:nrem<=p.size):let r:=gN lt (kas_count nrem p);r.2.Perm p/\1<=r.1/\r.1<=nrem/\Aa rank r.2 r.1:=by
 dsimp only;unfold kas_count;rw[jZ];have ih:=wJ eP (p:=p) (nrem-1) 1 (au _) (λi j sU hj=>by have:i=j:=(by omega);subst this;exact Int.le_refl _)
 dsimp only at ih;generalize gN lt (kas_asc p (nrem-1) 1)=n at ih ⊢;obtain⟨a,b,c,d⟩:=ih;by_cases Sf:n=nrem
 ·rw[if_pos (by simpa using Sf)]
  exact⟨Array.Perm.refl _,a,by show n<=nrem;omega,c⟩
 ·rw[if_neg (by simpa using Sf)]
  have hl:kk rank p n<kk rank p (n-1):=d.resolve_left (by omega)
  by_cases JK:n>1
  ·rw[if_pos JK];have e0:gN lt (KasT.ask (p.getD 0 0) (p.getD (n-1) 0) λc=>if c=true then .ret (n,p)else kas_descPart n nrem (kas_rev p 0 n))=gN lt (if lt (p.getD 0 0) (p.getD (n-1) 0)=true then .ret (n,p)else kas_descPart n nrem (kas_rev p 0 n)):=rfl
   rw[e0,eP];by_cases hr:rank (p.getD 0 0)<rank (p.getD (n-1) 0)
   ·rw[aR hr,if_pos rfl];exact⟨Array.Perm.refl _,a,by show n<=nrem;omega,c⟩
   ·rw[aG hr,if_neg aZ];have sT:∀k,0<=k->k<n->kk rank p k=kk rank p (n-1):=λk _ hk=>by
     have a1:=c 0 k (by omega) hk
     have a2:=c k (n-1) (by omega) (by omega)
     have a3:¬ kk rank p 0<kk rank p (n-1):=hr;omega
    have es:=qF (rank:=rank) (p:=p) (i:=0) (j:=n) (by omega) sT
    have t:=pI eP (p:=kas_rev p 0 n) (n:=n) (nrem:=nrem) (by omega) (by rw[sZ];omega) (λi j sU hj=>by
     rw[es,es];by_cases EO:j<n
     ·rw[sT i (by omega) (by omega),sT j (by omega) EO];exact Int.le_refl _
     ·have e:j=n:=by omega
      subst e;by_cases hi:i=j
      ·subst hi;exact Int.le_refl _
      ·rw[sT i (by omega) (by omega)];exact Int.le_of_lt hl)
    exact⟨t.1.trans (hV _ _ _),t.2⟩
  ·rw[if_neg JK];have e:n=1:=by omega
   subst e;exact pI eP (by omega) hz (λi j sU hj=>by
    by_cases hi:i=j
    ·subst hi;exact Int.le_refl _
    ·have:i=0:=by omega
     have:j=1:=by omega
     subst_vars
     exact Int.le_of_lt hl)
theorem qG {p:Array Nat}{k:Nat}(hs:Aa rank p k):∀(f l r:Nat),l<=r->r<=k->r-l<=f->(∀i,i<l->kk rank p i<=kk rank p k)->(∀i,r<=i->i<k->kk rank p k<kk rank p i)->
  let m:=gN lt (kas_place p k f l r);m<=k/\(∀i,i<m->kk rank p i<=kk rank p k)/\(∀i,m<=i->i<k->kk rank p k<kk rank p i)
 |0,l,r,h1,h2,h3,Nt,Pc=>by
  have e:l=r:=by omega
  subst e;exact⟨h2,Nt,Pc⟩
 |f+1,l,r,h1,h2,h3,Nt,Pc=>by
  dsimp only;unfold kas_place;by_cases hg:l ≥ r
  ·rw[if_pos hg];have e:l=r:=by omega
   subst e;exact⟨h2,Nt,Pc⟩
  ·rw[if_neg hg];simp only[gN];rw[eP];have CW:l<=(l+r)/2:=by omega
   have vE:(l+r)/2<r:=by omega
   generalize (l+r)/2=m at CW vE ⊢;by_cases c:rank (p.getD k 0)<rank (p.getD m 0)
   ·rw[aR c,if_pos rfl];have ih:=qG hs f l m CW (by omega) (by omega) Nt (λi a b=>Int.lt_of_lt_of_le c (hs m i a b))
    exact ih
   ·rw[aG c,if_neg aZ];have ih:=qG hs f (m+1) r (by omega) h2 (by omega) (λi a=>Int.le_trans (hs i m (by omega) (by omega)) (by show rank _<=rank _;omega)) Pc
    exact ih
theorem vF {p:Array Nat}{src d:Nat}(hs:src<p.size) (hd:d<=src) (k:Nat):kk rank (bubble p src d) k=if k=src-d then kk rank p src else if src-d<k/\k<=src then kk rank p (k-1)else kk rank p k:=by
 have e:=getElem?_bubble hs d hd k;by_cases h1:k=src-d
 ·rw[if_pos h1]at e ⊢;exact yd e
 ·rw[if_neg h1]at e ⊢;by_cases h2:src-d<k/\k<=src
  ·rw[if_pos h2]at e ⊢;exact yd e
  ·rw[if_neg h2]at e ⊢;exact yd e
theorem BC:∀(f:Nat) (p:Array Nat) (k:Nat),k+f<=p.size->Aa rank p k->let r:=gN lt (kas_bin f p k);r.Perm p/\Aa rank r (k+f)
 |0,p,k,hz,h=>⟨Array.Perm.refl _,h⟩
 |f+1,p,k,hz,h=>by
  dsimp only;unfold kas_bin;rw[jZ];have pl:=qG eP h k 0 k (bM _) (au _) (by omega) (λi a=>absurd a (Nat.not_lt_zero _)) (λi a b=>by omega)
  dsimp only at pl;generalize gN lt (kas_place p k k 0 k)=l at pl ⊢;obtain⟨h1,h2,h3⟩:=pl;have ks:k<p.size:=by omega
  have inc:Aa rank (bubble p k (k-l)) (k+1):=λi j sU hj=>by
   rw[vF eP ks (by omega),vF eP ks (by omega),show k-(k-l)=l by omega]
   by_cases hi:i=l
   ·rw[if_pos hi];by_cases K3:j=l
    ·rw[if_pos K3];exact Int.le_refl _
    ·rw[if_neg K3,if_pos (by omega)]
     exact Int.le_of_lt (h3 (j-1) (by omega) (by omega))
   ·rw[if_neg hi];by_cases Sg:l<i/\i<=k
    ·rw[if_pos Sg,if_neg (by omega),if_pos (by omega)]
     exact h (i-1) (j-1) (by omega) (by omega)
    ·rw[if_neg Sg];by_cases K3:j=l
     ·rw[if_pos K3];exact h2 i (by omega)
     ·rw[if_neg K3];by_cases Qw:l<j/\j<=k
      ·rw[if_pos Qw];exact h i (j-1) (by omega) (by omega)
      ·rw[if_neg Qw];exact h i j sU (by omega)
  have ih:=BC f (bubble p k (k-l)) (k+1) (by rw[bubble_size];omega) inc
  dsimp only at ih;exact⟨ih.1.trans (bubble_perm _ _ _),by rw[show k+(f+1)=k+1+f by omega];exact ih.2⟩
theorem tj (n:Nat) (h1:1<=n):let r:=gN lt (kas_sort n);r.Perm (List.toArray (List.range n))/\Aa rank r n:=by
 dsimp only;unfold kas_sort;rw[jZ];have hz:(List.toArray (List.range n)).size=n:=by simp
 have c:=CV eP (p:=List.toArray (List.range n)) h1 (by omega)
 dsimp only at c;generalize gN lt (kas_count n (List.toArray (List.range n)))=r at c ⊢;obtain⟨a,b,d,e⟩:=c;have sz:r.2.size=n:=a.size_eq.trans hz;by_cases NB:r.1<n
 ·rw[if_pos NB];have m:max r.1 1=r.1:=by omega
  rw[m];have bn:=BC eP (n-r.1) r.2 r.1 (by omega) e
  dsimp only at bn;exact⟨bn.1.trans a,by have:=bn.2;rwa [show r.1+(n-r.1)=n by omega]at this⟩
 ·rw[if_neg NB];have:r.1=n:=by omega
  exact⟨a,by show Aa rank r.2 n;rw[<-this];exact e⟩
end
end So
namespace DL
open PySem PySem.Spec PyProof.Rows L2
inductive D where
 |fO|bl (b:Bool)|int (i:Int)|str (x:Str)|tup (ds:List D)|lst (ds:List D)
mutual
inductive Is (C:Hp):V->D->Prop where
 |fO:Is C .fO .fO
 |bl (b:Bool):Is C (.bl b) (.bl b)
 |int (i:Int):Is C (.int i) (.int i)
 |str (x:Str):Is C (.str x) (.str x)
 |tup {a:cE}{xs:List V}{ds:List D}:C a=some (.tup xs)->IsL C xs ds->Is C (.ref a) (.tup ds)
 |lst {a:cE}{xs:List V}{ds:List D}:Rd C a (.lst xs)->IsL C xs ds->Is C (.ref a) (.lst ds)
inductive IsL (C:Hp):List V->List D->Prop where
 |nil:IsL C [] []
 |cons {v:V}{d:D}{vs:List V}{ds:List D}:Is C v d->IsL C vs ds->IsL C (v::vs) (d::ds)
end
theorem _root_.L2.Rd.same {C C':Hp}(e:dF C C') {a:cE}{u:HO}(h:Rd C a u):Rd C' a u:=by
 rcases h with h|⟨o,h⟩
 ·exact .inl (e _ _ h)
 ·exact .inr ⟨o,e _ _ h⟩
mutual
theorem Is.mono {C C':Hp}(e:dF C C'):∀{v:V}{d:D},Is C v d->Is C' v d
 |_,_,.fO=>.fO
 |_,_,.bl b=>.bl b
 |_,_,.int i=>.int i
 |_,_,.str x=>.str x
 |_,_,.tup h l=>.tup (e _ _ h) (IsL.mono e l)
 |_,_,.lst h l=>.lst (h.same e) (IsL.mono e l)
theorem IsL.mono {C C':Hp}(e:dF C C'):∀{vs:List V}{ds:List D},IsL C vs ds->IsL C' vs ds
 |_,_,.nil=>.nil
 |_,_,.cons h t=>.cons (Is.mono e h) (IsL.mono e t)
end
section
variable {C:Hp}
theorem IsL.length:∀{vs:List V}{ds:List D},IsL C vs ds->vs.length=ds.length
 |_,_,.nil=>rfl
 |_,_,.cons _ t=>congrArg (·+1) (IsL.length t)
theorem IsL.get:∀{vs:List V}{ds:List D}{i:Nat}{d:D},IsL C vs ds->ds[i]? =some d->∃v,vs[i]? =some v/\Is C v d
 |_,_,_,_,.nil,e=>by simp at e
 |_,_,0,_,.cons h _,e=>by simp at e;subst e;exact⟨_,rfl,h⟩
 |_,_,i+1,_,.cons _ t,e=>by
  obtain⟨v,h1,h2⟩:=IsL.get (i:=i) t (by simpa using e)
  exact⟨v,by simpa using h1,h2⟩
theorem IsL.get':∀{vs:List V}{ds:List D}{i:Nat}{v:V},IsL C vs ds->vs[i]? =some v->∃d,ds[i]? =some d/\Is C v d
 |_,_,_,_,.nil,e=>by simp at e
 |_,_,0,_,.cons h _,e=>by simp at e;subst e;exact⟨_,rfl,h⟩
 |_,_,i+1,_,.cons _ t,e=>by
  obtain⟨v,h1,h2⟩:=IsL.get' (i:=i) t (by simpa using e)
  exact⟨v,by simpa using h1,h2⟩
theorem IsL.append:∀{vs ws:List V}{ds es:List D},IsL C vs ds->IsL C ws es->IsL C (vs++ws) (ds++es)
 |_,_,_,_,.nil,s=>s
 |_,_,_,_,.cons h t,s=>.cons h (IsL.append t s)
theorem IsL.take:∀{vs:List V}{ds:List D}(n:Nat),IsL C vs ds->IsL C (vs.take n) (ds.take n)
 |_,_,0,_=>.nil
 |_,_,_+1,.nil=>.nil
 |_,_,n+1,.cons h t=>.cons h (IsL.take n t)
theorem IsL.drop:∀{vs:List V}{ds:List D}(n:Nat),IsL C vs ds->IsL C (vs.drop n) (ds.drop n)
 |_,_,0,h=>h
 |_,_,_+1,.nil=>.nil
 |_,_,n+1,.cons _ t=>IsL.drop n t
theorem IsL.eraseIdx:∀{vs:List V}{ds:List D}(n:Nat),IsL C vs ds->IsL C (vs.eraseIdx n) (ds.eraseIdx n)
 |_,_,_,.nil=>.nil
 |_,_,0,.cons _ t=>t
 |_,_,n+1,.cons h t=>.cons h (IsL.eraseIdx n t)
theorem IsL.ints (ns:cp):IsL C (ns.map V.int) (ns.map D.int):=by
 induction ns with
 |nil=>exact .nil
 |cons n r ih=>exact .cons (.int n) ih
theorem IsL.kR:∀{ns:cp}{vs:List V},IsL C vs (ns.map D.int)->vs=ns.map V.int
 |[],_,.nil=>rfl
 |n::r,_,.cons (.int _) t=>by rw[IsL.kR t];rfl
theorem IsL.Ac:∀{bs:List Bool}{vs:List V},IsL C vs (bs.map D.bl)->vs=bs.map V.bl
 |[],_,.nil=>rfl
 |n::r,_,.cons (.bl _) t=>by rw[IsL.Ac t];rfl
theorem IsL.one {v:V}{d:D}(h:Is C v d):IsL C [v] [d]:=.cons h .nil
end
structure m3 (C H C' H':Hp):Prop where
 c:dF C C'
 h:dF H H'
 s:dF C' H'
 n:∀a u,C' a=some u->C a=some u\/H a=none
theorem dW {H:Hp}{p:cE}{o:HO}(h:H p=none):dF H (upd H p o):=λb u q=>by rw[cK (cP q h)];exact q
noncomputable def zA:HO->Bool
 |.ext _=>true
 |.ins _ _ _=>true
 |.own _=>true
 |.dK _=>true
 |_=>false
class Mem where
 cell:cq
 face:cq
 ok:Hp->Hp->Prop
 has:Hp->Hp->D->Prop
 rel:Hp->Hp->Hp->Hp->Prop
 of0:∀{C H C' H':Hp},m3 C H C' H'->rel C H C' H'
 trans:∀{C H C' H' C2 H2:Hp},rel C H C' H'->rel C' H' C2 H2->rel C H C2 H2
 chg:∀{C H C' H':Hp}{a:cE}{o:HO},rel C H C' H'->H a=none->rel C H C' (upd H' a o)
 give:∀{C H C' H':Hp}{a:cE}{o:HO},rel C H C' H'->C' a=none->H' a=some o->zA o=false->rel C H (upd C' a o) H'
 Pd:∀{C H C' H':Hp},rel C H C' H'->ok C H->ok C' H'
 HZ:∀{C H C' H':Hp}{k:D},rel C H C' H'->ok C H->has C H k->has C' H' k
 NC:∀{C H:Hp}{a:cE}{o:HO},ok C H->(∀u,H a=some u->zA u=false)->ok C (upd H a o)
 ES:∀{C H:Hp}{a:cE}{o:HO}{k:D},ok C H->(∀u,H a=some u->zA u=false)->has C H k->has C (upd H a o) k
 Pe:∀{C H:Hp}{a:cE}{o:HO},ok C H->C a=none->H a=some o->zA o=false->ok (upd C a o) H
 Ia:∀{C H:Hp}{a:cE}{o:HO}{k:D},ok C H->C a=none->H a=some o->zA o=false->has C H k->has (upd C a o) H k
@[reducible] noncomputable def Mem.keep:Mem where
 cell:=none
 face:=none
 ok:=λ_ _=>True
 has:=λ_ _ _=>False
 rel:=λ_ H _ H'=>dF H H'
 of0:=λe=>e.h
 trans:=λa b=>a.trans b
 chg:=λ{_ _ _ _ a o} r h b u q=>by rw[cK (cP q h)];exact r b u q
 give:=λr _ _ _=>r
 Pd:=λ_ _=>trivial
 HZ:=λ_ _ h=>h
 NC:=λ_ _=>trivial
 ES:=λ_ _ h=>h
 Pe:=λ_ _ _ _=>trivial
 Ia:=λ_ _ _ _ h=>h
structure Ev [m:Mem] (C H C' H':Hp):Prop where
 c:dF C C'
 h:∀b o,H b=some o->(m.cell≠some b\/zA o=false)->H' b=some o
 x:∀b o,H b=some o->m.cell=some b->zA o=true->∃o',H' b=some o'/\zA o'=true
 s:dF C' H'
 n:∀a u,C' a=some u->C a=some u\/H a=none
 r:m.rel C H C' H'
section
variable {C H C' H' C2 H2:Hp}
theorem m3.refl (s:dF C H):m3 C H C H:=⟨dF.refl _,dF.refl _,s,λ_ _ e=>.inl e⟩
theorem m3.trans (a:m3 C H C' H') (b:m3 C' H' C2 H2):m3 C H C2 H2:=
 ⟨a.c.trans b.c,a.h.trans b.h,b.s,λp u e=>(b.n p u e).elim (a.n p u) λz=>.inr (a.h.free z)⟩
theorem m3.new (s:dF C H) {p:cE}{o:HO}(h:H p=none):m3 C H (upd C p o) (upd H p o):=
 ⟨dW (s.free h),dW h,λb u q=>by
  by_cases e:b=p
  ·subst e;rw[cR]at q ⊢;exact q
  ·rw[cK e]at q ⊢;exact s b u q,λb u q=>by
  by_cases e:b=p
  ·subst e;exact .inr h
  ·rw[cK e]at q;exact .inl q⟩
theorem m3.gi (s:dF C H) {p:cE}{o:HO}(h:H p=none):m3 C H C (upd H p o):=
 ⟨dF.refl _,dW h,s.trans (dW h),λ_ _ e=>.inl e⟩
theorem Ev.rn (e:@Ev Mem.keep C H C' H'):m3 C H C' H':=⟨@Ev.c Mem.keep _ _ _ _ e,@Ev.r Mem.keep _ _ _ _ e,@Ev.s Mem.keep _ _ _ _ e,@Ev.n Mem.keep _ _ _ _ e⟩
variable [Mem]
theorem m3.up (e:m3 C H C' H'):Ev C H C' H':=⟨e.c,λb o q _=>e.h b o q,λb o q _ x=>⟨o,e.h b o q,x⟩,e.s,e.n,Mem.of0 e⟩
theorem Ev.free (e:Ev C H C' H') {a:cE}(h:H' a=none):H a=none:=by
 cases q:H a with
 |none=>rfl
 |some o=>
  cases hx:zA o with
  |false=>rw[e.h a o q (.inr hx)]at h;cases h
  |true=>
   by_cases hc:Mem.cell=some a
   ·obtain⟨o',h1,_⟩:=e.x a o q hc hx;rw[h1]at h;cases h
   ·rw[e.h a o q (.inl hc)]at h;cases h
theorem Ev.hh (e:Ev C H C' H') {a:cE}{o:HO}(h:H a=some o) (hx:zA o=false:=by rfl):H' a=some o:=e.h a o h (.inr hx)
theorem Ev.refl (s:dF C H):Ev C H C H:=(m3.refl s).up
theorem Ev.trans (a:Ev C H C' H') (b:Ev C' H' C2 H2):Ev C H C2 H2:=
 ⟨a.c.trans b.c,λp o q x=>b.h p o (a.h p o q x) x,λp o q c x=>let ⟨o',h1,h2⟩:=a.x p o q c x;b.x p o' h1 c h2,b.s,λp u e=>(b.n p u e).elim (a.n p u) λz=>.inr (a.free z),Mem.trans a.r b.r⟩
theorem Ev.new (s:dF C H) {p:cE}{o:HO}(h:H p=none):Ev C H (upd C p o) (upd H p o):=(m3.new s h).up
theorem Ev.gi (s:dF C H) {p:cE}{o:HO}(h:H p=none):Ev C H C (upd H p o):=(m3.gi s h).up
theorem Ev.nn (a:Ev C H C' H') {p:cE}(h:C p=none) {u:HO}(h2:H p=some u):C' p=none:=by
 cases q:C' p with
 |none=>rfl
 |some o=>rcases a.n p o q with z|z<;>simp_all
theorem Ev.BD (e:Ev C H C' H') {a:cE}(hn:H a=none) (hc:C' a=none) (o:HO):Ev C H C' (upd H' a o):=
 ⟨e.c,λb u q x=>by rw[cK (cP q hn)];exact e.h b u q x,λb u q c x=>by rw[cK (cP q hn)];exact e.x b u q c x,λb u q=>by rw[cK (cP q hc)];exact e.s b u q,e.n,Mem.chg e.r hn⟩
theorem Ev.JL (e:Ev C H C' H') {a:cE}{o:HO}(hn:H a=none) (hc:C' a=none) (ho:H' a=some o) (hx:zA o=false:=by rfl):Ev C H (upd C' a o) H':=
 ⟨e.c.trans (dW hc),e.h,e.x,λb u z=>by
   by_cases hb:b=a
   ·subst hb;rw[cR]at z;cases z;exact ho
   ·rw[cK hb]at z;exact e.s b u z,λb u z=>by
   by_cases hb:b=a
   ·subst hb;exact .inr hn
   ·rw[cK hb]at z;exact e.n b u z,Mem.give e.r hc ho hx⟩
end
inductive Sl where
 |no|dat (d:D)|own (ds:List D)|memo (ks:List D)
noncomputable abbrev dD:=List Sl
structure Sx [m:Mem] (δ:dD) (σ:L2.St) (C H:Hp):Prop where
 sub:dF C H
 dat:∀(i:Nat) (d:D),δ[i]? =some (.dat d)->∃v,σ[i]? =some (some v)/\Is C v d
 own:∀(i:Nat) (ds:List D),δ[i]? =some (.own ds)->∃(a:cE) (xs:List V),σ[i]? =some (some (.ref a))/\C a=none/\H a=some (.lst xs)/\IsL C xs ds
 wK:∀(i j:Nat) (ds es:List D) (a:cE),δ[i]? =some (.own ds)->δ[j]? =some (.own es)->σ[i]? =some (some (.ref a))->σ[j]? =some (some (.ref a))->i=j
 len:δ.length=σ.length
 mem:∀(i:Nat) (ks:List D),δ[i]? =some (.memo ks)->∃a:cE,m.face=some a/\σ[i]? =some (some (.ref a))/\m.ok C H/\∀k∈ks,m.has C H k
section
variable [Mem] {δ:dD}{σ:L2.St}{C H C' H':Hp}
theorem Sx.ev (x:Sx δ σ C H) (e:Ev C H C' H'):Sx δ σ C' H' where
 sub:=e.s
 dat:=λi d q=>let ⟨v,h1,h2⟩:=x.dat i d q;⟨v,h1,h2.mono e.c⟩
 own:=λi ds q=>let ⟨a,xs,h1,h2,h3,h4⟩:=x.own i ds q;⟨a,xs,h1,e.nn h2 h3,e.hh h3,h4.mono e.c⟩
 wK:=x.wK
 len:=x.len
 mem:=λi ks q=>let ⟨a,h1,h2,h3,h4⟩:=x.mem i ks q;⟨a,h1,h2,Mem.Pd e.r h3,λk hk=>Mem.HZ e.r h3 (h4 k hk)⟩
omit [Mem] in
theorem getElem?_set_cases {α:Type}{l:List α}{i j:Nat}{a b:α}(h:(l.set i a)[j]? =some b):(j=i/\b=a)\/(j≠i/\l[j]? =some b):=by
 by_cases e:j=i
 ·subst e;by_cases hl:j<l.length
  ·rw[bc hl]at h;exact .inl ⟨rfl,(aS h).symm⟩
  ·have:(l.set j a)[j]? =none:=by simp;omega
   rw[this]at h;cases h
 ·rw[aF (Ne.symm e)]at h;exact .inr ⟨e,h⟩
omit [Mem] in
theorem Ad {α:Type}{l:List α}{i:Nat}{a b:α}(h:(l.set i a)[i]? =some b):i<l.length:=by
 by_cases hl:i<l.length
 ·exact hl
 ·have:(l.set i a)[i]? =none:=by simp;omega
  rw[this]at h;cases h
theorem Sx.oZ (x:Sx δ σ C H) {i:Nat}{v:V}{d:D}(h:Is C v d):Sx (δ.set i (.dat d)) (σ.set i (some v)) C H where
 sub:=x.sub
 dat:=λk d' q=>by
  rcases getElem?_set_cases q with⟨rfl,e⟩|⟨hk,e⟩
  ·cases e;have:=Ad q;exact⟨v,by rw[bc (by rw[<-x.len];exact this)],h⟩
  ·obtain⟨v',h1,h2⟩:=x.dat k d' e;exact⟨v',by rw[aF (Ne.symm hk)];exact h1,h2⟩
 own:=λk ds q=>by
  rcases getElem?_set_cases q with⟨rfl,e⟩|⟨hk,e⟩
  ·cases e
  ·obtain⟨a,xs,h1,h2⟩:=x.own k ds e;exact⟨a,xs,by rw[aF (Ne.symm hk)];exact h1,h2⟩
 wK:=λk l ds es a q1 q2 q3 q4=>by
  rcases getElem?_set_cases q1 with⟨_,e1⟩|⟨hk,e1⟩
  ·cases e1
  rcases getElem?_set_cases q2 with⟨_,e2⟩|⟨hl,e2⟩
  ·cases e2
  rw[aF (Ne.symm hk)]at q3;rw[aF (Ne.symm hl)]at q4;exact x.wK k l ds es a e1 e2 q3 q4
 len:=by simp[x.len]
 mem:=λk ks q=>by
  rcases getElem?_set_cases q with⟨rfl,e⟩|⟨hk,e⟩
  ·cases e
  ·obtain⟨a,h1,h2,h3⟩:=x.mem k ks e;exact⟨a,h1,by rw[aF (Ne.symm hk)];exact h2,h3⟩
theorem Sx.wL (x:Sx δ σ C H) {i:Nat}{a:cE}{xs:List V}{ds:List D}(hc:C a=none) (hH:H a=some (.lst xs)) (hl:IsL C xs ds)
  (hn:∀(k:Nat) (es:List D),δ[k]? =some (.own es)->σ[k]? ≠some (some (.ref a))):Sx (δ.set i (.own ds)) (σ.set i (some (.ref a))) C H where
 sub:=x.sub
 dat:=λk d' q=>by
  rcases getElem?_set_cases q with⟨rfl,e⟩|⟨hk,e⟩
  ·cases e
  ·obtain⟨v',h1,h2⟩:=x.dat k d' e;exact⟨v',by rw[aF (Ne.symm hk)];exact h1,h2⟩
 own:=λk es q=>by
  rcases getElem?_set_cases q with⟨rfl,e⟩|⟨hk,e⟩
  ·cases e;have:=Ad q;exact⟨a,xs,by rw[bc (by rw[<-x.len];exact this)],hc,hH,hl⟩
  ·obtain⟨b,ys,h1,h2⟩:=x.own k es e;exact⟨b,ys,by rw[aF (Ne.symm hk)];exact h1,h2⟩
 wK:=λk l BE es b q1 q2 q3 q4=>by
  rcases getElem?_set_cases q1 with⟨hk,e1⟩|⟨hk,e1⟩
  ·rcases getElem?_set_cases q2 with⟨gF,e2⟩|⟨gF,e2⟩
   ·rw[hk,gF]
   ·subst hk;have e3:=getElem?_set_cases q3;rcases e3 with⟨_,e3⟩|⟨z,_⟩
    ·cases e3;rw[aF (Ne.symm gF)]at q4;exact absurd q4 (hn l es e2)
    ·exact absurd rfl z
  ·rcases getElem?_set_cases q2 with⟨gF,e2⟩|⟨gF,e2⟩
   ·subst gF;rcases getElem?_set_cases q4 with⟨_,e4⟩|⟨z,_⟩
    ·cases e4;rw[aF (Ne.symm hk)]at q3;exact absurd q3 (hn k BE e1)
    ·exact absurd rfl z
   ·rw[aF (Ne.symm hk)]at q3;rw[aF (Ne.symm gF)]at q4;exact x.wK k l BE es b e1 e2 q3 q4
 len:=by simp[x.len]
 mem:=λk ks q=>by
  rcases getElem?_set_cases q with⟨rfl,e⟩|⟨hk,e⟩
  ·cases e
  ·obtain⟨a,h1,h2,h3⟩:=x.mem k ks e;exact⟨a,h1,by rw[aF (Ne.symm hk)];exact h2,h3⟩
theorem Sx.mut (x:Sx δ σ C H) {i:Nat}{a:cE}{ys:List V}{ds es:List D}(hi:δ[i]? =some (.own ds)) (ha:σ[i]? =some (some (.ref a))) (hl:IsL C ys es):
  Sx (δ.set i (.own es)) σ C (upd H a (.lst ys))where
 sub:=λb u q=>by
  obtain⟨a',xs,h1,h2,_⟩:=x.own i ds hi;rw[ha]at h1;cases h1;have:b≠a:=λz=>by rw[z,h2]at q;cases q
  rw[cK this];exact x.sub b u q
 dat:=λk d' q=>by
  rcases getElem?_set_cases q with⟨rfl,e⟩|⟨hk,e⟩
  ·cases e
  ·exact x.dat k d' e
 own:=λk fs q=>by
  obtain⟨a',xs,h1,h2,_⟩:=x.own i ds hi;rw[ha]at h1;cases h1;rcases getElem?_set_cases q with⟨rfl,e⟩|⟨hk,e⟩
  ·cases e;exact⟨a,ys,ha,h2,cR,hl⟩
  ·obtain⟨b,zs,xQ,zB,ET,Ib⟩:=x.own k fs e;have:b≠a:=λz=>by subst z;exact hk (x.wK k i fs ds b e hi xQ ha)
   exact⟨b,zs,xQ,zB,by rw[cK this];exact ET,Ib⟩
 wK:=λk l BE Bm b q1 q2 q3 q4=>by
  have EU:∀{k:Nat}{Bm:List D},(δ.set i (Sl.own es))[k]? =some (.own Bm)->∃fs,δ[k]? =some (.own fs):=λ{k Bm} q=>by
   rcases getElem?_set_cases q with⟨rfl,e⟩|⟨hk,e⟩
   ·exact⟨ds,hi⟩
   ·exact⟨_,e⟩
  obtain⟨f1,e1⟩:=EU q1;obtain⟨f2,e2⟩:=EU q2;exact x.wK k l f1 f2 b e1 e2 q3 q4
 len:=by simp[x.len]
 mem:=λk ks q=>by
  obtain⟨a',xs,h1,h2,h3,_⟩:=x.own i ds hi;rw[ha]at h1;cases h1;have hx:∀u,H a=some u->zA u=false:=λu q=>by rw[h3]at q;cases q;rfl
  rcases getElem?_set_cases q with⟨rfl,e⟩|⟨hk,e⟩
  ·cases e
  ·obtain⟨b,h1,h2,h3,h4⟩:=x.mem k ks e;exact⟨b,h1,h2,Mem.NC h3 hx,λk hk=>Mem.ES h3 hx (h4 k hk)⟩
theorem Sx.give (x:Sx δ σ C H) {i:Nat}{a:cE}{xs:List V}{ds:List D}(hi:δ[i]? =some (.own ds)) (ha:σ[i]? =some (some (.ref a))) (hH:H a=some (.lst xs)) (hl:IsL C xs ds):
  Sx (δ.set i (.dat (.lst ds))) σ (upd C a (.lst xs)) H:=by
 obtain⟨a',YH,h1,h2,h3,_⟩:=x.own i ds hi;rw[ha]at h1;cases h1;have sc:dF C (upd C a (.lst xs)):=dW h2;exact {
  sub:=λb u q=>by
   by_cases e:b=a
   ·subst e;rw[cR]at q;cases q;exact hH
   ·rw[cK e]at q;exact x.sub b u q
  dat:=λk d' q=>by
   rcases getElem?_set_cases q with⟨rfl,e⟩|⟨hk,e⟩
   ·cases e;exact⟨_,ha,.lst (.inl cR) (hl.mono sc)⟩
   ·obtain⟨v,q1,q2⟩:=x.dat k d' e;exact⟨v,q1,q2.mono sc⟩
  own:=λk fs q=>by
   rcases getElem?_set_cases q with⟨rfl,e⟩|⟨hk,e⟩
   ·cases e
   ·obtain⟨b,zs,xQ,zB,ET,Ib⟩:=x.own k fs e;have:b≠a:=λz=>by subst z;exact hk (x.wK k i fs ds b e hi xQ ha)
    exact⟨b,zs,xQ,by rw[cK this];exact zB,ET,Ib.mono sc⟩
  wK:=λk l BE Bm b q1 q2 q3 q4=>by
   rcases getElem?_set_cases q1 with⟨_,e1⟩|⟨_,e1⟩
   ·cases e1
   rcases getElem?_set_cases q2 with⟨_,e2⟩|⟨_,e2⟩
   ·cases e2
   exact x.wK k l BE Bm b e1 e2 q3 q4
  len:=by simp[x.len]
  mem:=λk ks q=>by
   rcases getElem?_set_cases q with⟨rfl,e⟩|⟨hk,e⟩
   ·cases e
   ·obtain⟨b,h1,zB,h3,h4⟩:=x.mem k ks e;exact⟨b,h1,zB,Mem.Pe h3 h2 hH rfl,λk hk=>Mem.Ia h3 h2 hH rfl (h4 k hk)⟩}
end
variable [Mem]
def qz (C H:Hp) (v:V) (d:D):Prop:=Is C v d\/∃a xs ds,v=.ref a/\d=.lst ds/\C a=none/\H a=some (.lst xs)/\IsL C xs ds
noncomputable def tD (f:dD->Option D):TE:=λσ H Q=>∃C δ d,Sx δ σ C H/\f δ=some d/\∀v C' H',Ev C H C' H'->Is C' v d->Q v H'
noncomputable def tO (f:dD->Option D):TE:=λσ H Q=>∃C δ d,Sx δ σ C H/\f δ=some d/\∀v C' H',Ev C H C' H'->qz C' H' v d->Q v H'
noncomputable def tF (f:dD->Option (List D)):TE:=λσ H Q=>∃C δ ds,Sx δ σ C H/\f δ=some ds/\∀a xs C' H',Ev C H C' H'->H a=none->C' a=none->H' a=some (.lst xs)->IsL C' xs ds->Q (.ref a) H'
noncomputable def tQ (f:dD->Option Bool):TT:=λσ H Q=>∃C δ b,Sx δ σ C H/\f δ=some b/\∀C' H',Ev C H C' H'->Q b H'
noncomputable def Pf (f:dD->Option (List D)):TA:=λσ H Q=>∃C δ ds,Sx δ σ C H/\f δ=some ds/\∀vs C' H',Ev C H C' H'->IsL C' vs ds->Q vs H'
abbrev PD (X:Cx) (e:cF) (f:dD->Option D):Prop:=PE X e (tD f)
abbrev PO (X:Cx) (e:cF) (f:dD->Option D):Prop:=PE X e (tO f)
abbrev PF (X:Cx) (e:cF) (f:dD->Option (List D)):Prop:=PE X e (tF f)
abbrev PQ (X:Cx) (e:cF) (f:dD->Option Bool):Prop:=PT X e (tQ f)
abbrev Ec (X:Cx) (es:List cF) (f:dD->Option (List D)):Prop:=PA X es (Pf f)
omit [Mem] in
theorem _root_.L2.PE.imp {X:Cx}{e:cF}{t t':TE}(h:PE X e t) (m:∀σ H Q,t' σ H Q->t σ H Q):PE X e t':=λpins s σ H Q I q=>h pins s σ H Q I (m σ H Q q)
omit [Mem] in
theorem _root_.L2.PT.imp {X:Cx}{e:cF}{t t':TT}(h:PT X e t) (m:∀σ H Q,t' σ H Q->t σ H Q):PT X e t':=λpins s σ H Q I q=>h pins s σ H Q I (m σ H Q q)
omit [Mem] in
theorem _root_.L2.PW.imp {X:Cx}{e:cF}{t t':TT}(h:PW X e t) (m:∀σ H Q,t' σ H Q->t σ H Q):PW X e t':=λwhole pins s σ H Q I q=>h whole pins s σ H Q I (m σ H Q q)
omit [Mem] in
theorem _root_.L2.PA.imp {X:Cx}{es:List cF}{t t':TA}(h:PA X es t) (m:∀σ H Q,t' σ H Q->t σ H Q):PA X es t':=λpos pins s σ H Q I q=>h pos pins s σ H Q I (m σ H Q q)
omit [Mem] in
theorem _root_.L2.PS.imp {X:Cx}{st:cG}{t t':TS}(h:PS X st t) (m:∀Dn σ H,t' Dn σ H->t Dn σ H):PS X st t':=λpins s σ H Dn I q=>h pins s σ H Dn I (m Dn σ H q)
omit [Mem] in
theorem _root_.L2.vv.imp {X:Cx}{st:List cG}{t t':TS}(h:vv X st t) (m:∀Dn σ H,t' Dn σ H->t Dn σ H):vv X st t':=λpins s σ H Dn I q=>h pins s σ H Dn I (m Dn σ H q)
section
variable {X:Cx}{e a b c:cF}{pos:Pos}
theorem PD.o {f:dD->Option D}(h:PD X e f):PO X e f:=h.imp λσ H Q ⟨C,δ,d,x,q,k⟩=>⟨C,δ,d,x,q,λv C' H' ev i=>k v C' H' ev (.inl i)⟩
noncomputable def dL (f:dD->Option (List D)):dD->Option D:=λδ=>(f δ).map D.lst
theorem PF.d {f:dD->Option (List D)}(h:PF X e f):PD X e (dL f):=h.imp λσ H Q ⟨C,δ,d,x,q,k⟩=>by
 unfold dL at q;cases hf:f δ with
 |none=>rw[hf]at q;cases q
 |some ds=>
  rw[hf]at q;have q':d=.lst ds:=(aS q).symm;subst q';exact⟨C,δ,ds,x,hf,λa xs C' H' ev h1 h2 h3 h4=>k (.ref a) (upd C' a (.lst xs)) H' (ev.JL h1 h2 h3) (.lst (.inl cR) (h4.mono (dW h2)))⟩
noncomputable def cU (i:Nat):dD->Option D:=λδ=>match δ[i]? with|some (.dat d)=>some d|_=>none
noncomputable def dt (i:Nat):dD->Option D:=λδ=>match δ[i]? with|some (.dat d)=>some d|some (.own ds)=>some (.lst ds)|_=>none
noncomputable def dC (d:D):dD->Option D:=λ_=>some d
theorem CY {i:Nat}(h:PE X e (ij i)):PD X e (cU i):=h.imp λσ H Q ⟨C,δ,d,x,q,k⟩=>by
 unfold cU at q;split at q
 ·rename_i d' hd;cases q;obtain⟨v,h1,h2⟩:=x.dat i _ hd;exact⟨v,h1,k v C H (.refl x.sub) h2⟩
 ·cases q
theorem CZ {i:Nat}(h:PE X e (ij i)):PO X e (dt i):=h.imp λσ H Q ⟨C,δ,d,x,q,k⟩=>by
 unfold dt at q;split at q
 ·rename_i d' hd;cases q;obtain⟨v,h1,h2⟩:=x.dat i _ hd;exact⟨v,h1,k v C H (.refl x.sub) (.inl h2)⟩
 ·rename_i ds hd;cases q;obtain⟨a,xs,h1,h2,h3,h4⟩:=x.own i _ hd;exact⟨_,h1,k _ C H (.refl x.sub) (.inr ⟨a,xs,ds,rfl,rfl,h2,h3,h4⟩)⟩
 ·cases q
theorem wM {v:V}{d:D}(h:PE X e (tC v)) (hd:∀C,Is C v d):PD X e (dC d):=h.imp λσ H Q ⟨C,δ,d',x,q,k⟩=>by
 cases q;exact k v C H (.refl x.sub) (hd C)
theorem K5 {i:Int}{j:Nat}:PD X (.Constant (.int i) j pos) (dC (.int i)):=wM zH λ_=>.int i
theorem ND {i:Bool}{j:Nat}:PD X (.Constant (.bool i) j pos) (dC (.bl i)):=wM MK λ_=>.bl i
theorem Ic {x:Str}{i:Int}{t:Tok}(hg:Gl X x) (hm:X.mg x=some (.int i t)) (hd:(x==("__debug__":Str))=false:=by decide):PD X (.Name x pos) (dC (.int i)):=wM (Hr (v:=.int i) hg hm ⟨t,rfl⟩ hd) λ_=>.int i
def JM (r:R2) (op:D->D->Option D):Prop:=∀C H x y dx dy d Q,dF C H->qz C H x dx->qz C H y dy->op dx dy=some d->(∀v C' H',m3 C H C' H'->Is C' v d->Q v H')->r x y H Q
noncomputable def dA {α:Type}(op:D->D->Option α) (f g:dD->Option D):dD->Option α:=λδ=>(f δ).bind λx=>(g δ).bind λy=>op x y
theorem qz.ev {C H C' H':Hp}{v:V}{d:D}(h:qz C H v d) (e:Ev C H C' H'):qz C' H' v d:=by
 rcases h with h|⟨a,xs,ds,h1,h2,h3,h4,h5⟩
 ·exact .inl (h.mono e.c)
 ·exact .inr ⟨a,xs,ds,h1,h2,e.nn h3 h4,e.hh h4,h5.mono e.c⟩
theorem BF {r:R2}{op:D->D->Option D}{f g:dD->Option D}(hd:JM r op):∀σ H Q,tD (dA op f g) σ H Q->MW r (tO f) (tO g) σ H Q:=λσ H Q ⟨C,δ,d,x,q,k⟩=>by
 unfold dA at q;cases hf:f δ with
 |none=>rw[hf]at q;cases q
 |some dx=>
  cases hg:g δ with
  |none=>rw[hf,hg]at q;cases q
  |some dy=>
   rw[hf,hg]at q;refine⟨C,δ,dx,x,hf,λv C1 H1 e1 i1=>⟨C1,δ,dy,x.ev e1,hg,λu C2 H2 e2 i2=>hd C2 H2 v u dx dy d Q e2.s (i1.ev e2) i2 q λw C3 H3 e3 i3=>k w C3 H3 ((e1.trans e2).trans e3.up) i3⟩⟩
theorem ye {op:Operator}{r:R2}{o:D->D->Option D}{f g:dD->Option D}(ho:r9 X (binaryOp op) r) (hd:JM r o) (ha:PO X a f) (hb:PO X b g):PD X (.BinOp a op b pos) (dA o f g):=(JE ho ha hb).imp (BF hd)
theorem NF {r:R2}{o:D->D->Option D}{f g:dD->Option D}(ho:EF X r) (hd:JM r o) (ha:PO X a f) (hb:PO X b g) (hs:nR b):PD X (.Subscript a b pos) (dA o f g):=(JI ho ha hb hs).imp (BF hd)
noncomputable def oI (g:Int->Int->D):D->D->Option D
 |.int i,.int j=>some (g i j)
 |_,_=>none
noncomputable def EV (c:Int->Int->Bool) (g:Int->Int->D):D->D->Option D
 |.int i,.int j=>if c i j=true then some (g i j)else none
 |_,_=>none
theorem qz.int {C H:Hp}{v:V}{i:Int}(h:qz C H v (.int i)):v=.int i:=by
 rcases h with h|⟨_,_,_,_,z,_⟩
 ·cases h;rfl
 ·cases z
theorem qz.is {C H:Hp}{v:V}{d:D}(h:qz C H v d) (hd:∀ds,d≠.lst ds):Is C v d:=by
 rcases h with h|⟨_,_,ds,_,z,_⟩
 ·exact h
 ·exact absurd z (hd ds)
theorem EW {gV:Int->Int->V}{g:Int->Int->D}(h:∀C i j,Is C (gV i j) (g i j)):JM (Hw gV) (oI g):=λC H x y dx dy d Q s ix iy q k=>by
 unfold oI at q;split at q
 ·rename_i i j;cases q;exact⟨i,j,ix.int,iy.int,k _ C H (.refl s) (h C i j)⟩
 ·cases q
theorem JN {P:Int->Int->Prop}{c:Int->Int->Bool}{gV:Int->Int->V}{g:Int->Int->D}(hc:∀i j,c i j=true->P i j) (h:∀C i j,Is C (gV i j) (g i j)):JM (rI P gV) (EV c g):=λC H x y dx dy d Q s ix iy q k=>by
 unfold EV at q;split at q
 ·rename_i i j;split at q
  ·rename_i Mr;cases q;exact⟨i,j,ix.int,iy.int,hc i j Mr,k _ C H (.refl s) (h C i j)⟩
  ·cases q
 ·cases q
noncomputable def iR:=oI λi j=>.int (i+j)
noncomputable def qH:=oI λi j=>.int (i-j)
noncomputable def EX (i j:Int):Bool:=(decide (-(2^64)<i)&&decide (i<2^64))||(decide (-(2^64)<j)&&decide (j<2^64))
noncomputable def ow:=EV EX λi j=>.int (i*j)
noncomputable def Ae (_ j:Int):Bool:=decide (0<j)
noncomputable def uW:=EV Ae λi j=>.int (i%j)
theorem K6 {f g:dD->Option D}(ha:PO X a f) (hb:PO X b g):PD X (.BinOp a .Add b pos) (dA iR f g):=ye Et (EW λ_ _ _=>.int _) ha hb
theorem K7 {f g:dD->Option D}(ha:PO X a f) (hb:PO X b g):PD X (.BinOp a .Sub b pos) (dA qH f g):=ye KA (EW λ_ _ _=>.int _) ha hb
theorem K8 {f g:dD->Option D}(ha:PO X a f) (hb:PO X b g):PD X (.BinOp a .Mult b pos) (dA ow f g):=ye KC (JN (λi j h=>by
 unfold EX at h;unfold Hy
 simpa using h) λ_ _ _=>.int _) ha hb
theorem K9 {f g:dD->Option D}(ha:PO X a f) (hb:PO X b g):PD X (.BinOp a .Mod b pos) (dA uW f g):=ye KD (JN (λi j h=>by
 unfold Ae at h
 simpa using h) λ_ _ _=>.int _) ha hb
noncomputable def La:=oI λi j=>.bl (decide (i<=j))
noncomputable def Lb:=oI λi j=>.bl (decide (j<i))
noncomputable def Qx:=oI λi j=>.bl (decide (j<=i))
def rS (X:Cx) (op:CmpOp) (o:D->D->Option D):Prop:=∃r,r9 X (compareOp op) r/\JM r o
theorem NG:rS X .LtE La:=⟨_,MZ,EW λ_ _ _=>.bl _⟩
theorem NH:rS X .Gt Lb:=⟨_,M1,EW λ_ _ _=>.bl _⟩
theorem Qy:rS X .GtE Qx:=⟨_,M3,EW λ_ _ _=>.bl _⟩
theorem Lc {op:CmpOp}{o:D->D->Option D}{f g:dD->Option D}(c:rS X op o) (ha:PO X a f) (hb:PO X b g) (hm:behindInMarks op b=false:=by first|exact sO _|rfl):PD X (.Compare a [op] [b] pos) (dA o f g):=by
 obtain⟨r,ho,hd⟩:=c;exact(Hz ho ha hb hm).imp (BF hd)
noncomputable def qB (f:dD->Option D):dD->Option Bool:=λδ=>match f δ with|some (.bl b)=>some b|_=>none
theorem Qz {f:dD->Option D}{δ:dD}{b:Bool}(h:qB f δ=some b):f δ=some (.bl b):=by
 unfold qB at h;split at h
 ·rename_i e;cases h;exact e
 ·cases h
theorem JO {t:TE}{f:dD->Option D}(h:∀σ H Q,tD f σ H Q->t σ H Q):∀σ H Q,tQ (qB f) σ H Q->t σ H λx H1=>∃c,x=.bl c/\Q c H1:=λσ H Q ⟨C,δ,b,x,q,k⟩=>
 h σ H _ ⟨C,δ,.bl b,x,Qz q,λv C' H' ev i=>by cases i;exact⟨b,rfl,k C' H' ev⟩⟩
theorem Ld {f:dD->Option D}(h:PD X e f) (he:∀whole,isTrue e X.env whole=(do let v <-whole;standAt e.pos;holding [v] (truthy v)):=by intro _;rfl):PQ X e (qB f):=(Ko h he).imp (JO λ_ _ _ h=>h)
theorem Lf {op:CmpOp}{o:D->D->Option D}{f g:dD->Option D}(c:rS X op o) (ha:PO X a f) (hb:PO X b g) (hm:behindInMarks op b=false:=by first|exact sO _|rfl):PQ X (.Compare a [op] [b] pos) (qB (dA o f g)):=by
 obtain⟨r,ho,hd⟩:=c;exact(Bu ho ha hb hm).imp (JO (BF hd))
noncomputable def m4 (f g:dD->Option Bool):dD->Option Bool:=λδ=>match f δ with|some true=>g δ|some false=>some false|none=>none
noncomputable def yf (f:dD->Option Bool):dD->Option Bool:=λδ=>(f δ).map not
abbrev Pg (X:Cx) (e:cF) (f:dD->Option Bool):Prop:=PW X e (tQ f)
theorem Lg {f g:dD->Option Bool}:∀σ H Q,tQ (m4 f g) σ H Q->ML (tQ f) (tQ g) σ H Q:=λσ H Q ⟨C,δ,b,x,q,k⟩=>by
 unfold m4 at q;split at q
 ·rename_i hf;exact⟨C,δ,true,x,hf,λC' H' ev=>zW ⟨C',δ,b,x.ev ev,q,λC2 H2 e2=>k C2 H2 (ev.trans e2)⟩⟩
 ·rename_i hf;cases q;exact⟨C,δ,false,x,hf,λC' H' ev=>CQ (k C' H' ev)⟩
 ·cases q
theorem EY {f:dD->Option Bool}(ha:PQ X a f):Pg X (.BoolOp .And [a] pos) f:=Hs ha
theorem Ie {rest:List cF}{f g:dD->Option Bool}(ha:PQ X a f) (hb:Pg X (.BoolOp .And (b::rest) pos) g):Pg X (.BoolOp .And (a::b::rest) pos) (m4 f g):=(Kp ha hb).imp Lg
theorem Lh {f:dD->Option Bool}(ha:PQ X a f):PQ X (.UnaryOp .Not a pos) (yf f):=(Kq ha).imp λσ H Q ⟨C,δ,b,x,q,k⟩=>by
 unfold yf at q;cases hf:f δ with
 |none=>rw[hf]at q;cases q
 |some c=>
  rw[hf]at q;cases q;exact⟨C,δ,c,x,hf,k⟩
noncomputable def Dc (f g:dD->Option D):dD->Option D:=λδ=>match f δ with|some (.bl true)=>g δ|some (.bl false)=>some (.bl false)|_=>none
theorem Li {op:BoolOp}{f:dD->Option D}(h:PD X a f):PD X (.BoolOp op [a] pos) f:=Kr h
theorem Lj {rest:List cF}{f g:dD->Option D}(ha:PD X a f) (hb:PD X (.BoolOp .And (b::rest) pos) g):PD X (.BoolOp .And (a::b::rest) pos) (Dc f g):=(Ks ha hb).imp λσ H Q ⟨C,δ,d,x,q,k⟩=>by
 unfold Dc at q;split at q
 ·rename_i hf;exact⟨C,δ,_,x,hf,λv C' H' ev i=>by cases i;exact⟨true,rfl,zW ⟨C',δ,d,x.ev ev,q,λu C2 H2 e2 i2=>k u C2 H2 (ev.trans e2) i2⟩⟩⟩
 ·rename_i hf;cases q;exact⟨C,δ,_,x,hf,λv C' H' ev i=>by cases i;exact⟨false,rfl,CQ (k _ C' H' ev (.bl _))⟩⟩
 ·cases q
noncomputable def NI (c:dD->Option Bool) (f g:dD->Option D):dD->Option D:=λδ=>match c δ with|some true=>f δ|some false=>g δ|none=>none
theorem EZ {q:dD->Option Bool}{f g:dD->Option D}(hc:PQ X c q) (ha:PD X a f) (hb:PD X b g):PD X (.IfExp c a b pos) (NI q f g):=(Em hc ha hb).imp λσ H Q ⟨C,δ,d,x,h,k⟩=>by
 unfold NI at h;split at h
 ·rename_i hf;exact⟨C,δ,true,x,hf,λC' H' ev=>zW ⟨C',δ,d,x.ev ev,h,λu C2 H2 e2 i2=>k u C2 H2 (ev.trans e2) i2⟩⟩
 ·rename_i hf;exact⟨C,δ,false,x,hf,λC' H' ev=>CQ ⟨C',δ,d,x.ev ev,h,λu C2 H2 e2 i2=>k u C2 H2 (ev.trans e2) i2⟩⟩
 ·cases h
end
noncomputable def isStar:cF->Bool
 |.Starred _ _=>true
 |_=>false
theorem eB {e:cF}{es:List cF}{env:Env}(h:isStar e=false):starEach (e::es) env=(false,eval e env)::starEach es env:=by
 cases e<;>first|(cases h;done)|(rw[starEach];intro _ _ z;cases z)
noncomputable def noStar (es:List cF):Bool:=es.all λe=> !isStar e
theorem eI {pos:Pos}{env:Env}:∀{es:List cF},noStar es=true->(backTo pos (starEach es env)).any (·.1)=false
 |[],_=>rfl
 |e::es,h=>by
  unfold noStar at h;rw[List.all_cons,Bool.and_eq_true]at h;rw[eB (by simpa using h.1)]
  unfold backTo;rw[aE,bG];have:=eI (pos:=pos) (env:=env) (es:=es) h.2;unfold backTo at this;rw[this];rfl
theorem Ig {e:cF}{env:Env}{pos:Pos}(h:isStar e=false):((backTo pos (starEach [e] env)).all (λx=> !x.1)&&(backToKw pos (keywordEach [] env)).all (λx=>x.1.isSome)
   &&decide ([e].length+([]:List Keyword).length+(if([]:List Keyword).isEmpty then 0 else 1)<30))=true:=by
 rw[eB h];rfl
section
variable {X:Cx}{e:cF}{es:List cF}{pos p:Pos}{x:Str}
noncomputable def cL:dD->Option (List D):=λ_=>some []
noncomputable def aX (f:dD->Option D) (g:dD->Option (List D)):dD->Option (List D):=λδ=>(f δ).bind λd=>(g δ).map λds=>d::ds
theorem sf:Ec X [] cL:=(sQ (X:=X)).imp λσ H Q ⟨C,δ,ds,x,q,k⟩=>by cases q;exact k [] C H (.refl x.sub) .nil
theorem pJ {f:dD->Option D}{g:dD->Option (List D)}(ha:PD X e f) (hr:Ec X es g) (hs:starEach (e::es) X.env=(false,eval e X.env)::starEach es X.env:=by exact eB rfl):Ec X (e::es) (aX f g):=(pC ha hr hs).imp λσ H Q ⟨C,δ,ds,x,q,k⟩=>by
 unfold aX at q;cases hf:f δ with
 |none=>rw[hf]at q;cases q
 |some d=>
  cases hg:g δ with
  |none=>rw[hf,hg]at q;cases q
  |some r=>
   rw[hf,hg]at q;cases q;exact⟨C,δ,d,x,hf,λv C1 H1 e1 i1=>⟨C1,δ,r,x.ev e1,hg,λvs C2 H2 e2 i2=>k _ C2 H2 (e1.trans e2) (.cons (i1.mono e2.c) i2)⟩⟩
inductive uX (C H:Hp):List V->List D->Prop where
 |nil:uX C H [] []
 |cons {v:V}{d:D}{vs:List V}{ds:List D}:qz C H v d->uX C H vs ds->uX C H (v::vs) (d::ds)
noncomputable def QA (f:dD->Option (List D)):TA:=λσ H Q=>∃C δ ds,Sx δ σ C H/\f δ=some ds/\∀vs C' H',Ev C H C' H'->uX C' H' vs ds->Q vs H'
abbrev JP (X:Cx) (es:List cF) (f:dD->Option (List D)):Prop:=PA X es (QA f)
theorem Ih:JP X [] cL:=(sQ (X:=X)).imp λσ H Q ⟨C,δ,ds,x,q,k⟩=>by cases q;exact k [] C H (.refl x.sub) .nil
theorem E1 {f:dD->Option D}{g:dD->Option (List D)}(ha:PO X e f) (hr:JP X es g) (hs:starEach (e::es) X.env=(false,eval e X.env)::starEach es X.env:=by exact eB rfl):JP X (e::es) (aX f g):=(pC ha hr hs).imp λσ H Q ⟨C,δ,ds,x,q,k⟩=>by
 unfold aX at q;cases hf:f δ with
 |none=>rw[hf]at q;cases q
 |some d=>
  cases hg:g δ with
  |none=>rw[hf,hg]at q;cases q
  |some r=>
   rw[hf,hg]at q;cases q;exact⟨C,δ,d,x,hf,λv C1 H1 e1 i1=>⟨C1,δ,r,x.ev e1,hg,λvs C2 H2 e2 i2=>k _ C2 H2 (e1.trans e2) (.cons (i1.ev e2) i2)⟩⟩
noncomputable def fL (f:dD->Option (List D)):dD->Option D:=λδ=>(f δ).bind λds=>if ds.length<=1000 then some (.tup ds)else none
theorem Lk {k:Nat}{f:dD->Option (List D)}(h:Ec X es f):PD X (.Tuple es k pos) (fL f):=(KH h).imp λσ H Q ⟨C,δ,d,x,q,k⟩=>by
 unfold fL at q;cases hf:f δ with
 |none=>rw[hf]at q;cases q
 |some ds=>
  rw[hf]at q;simp only[ao]at q;split at q
  ·rename_i hz;cases q;refine⟨C,δ,ds,x,hf,λvs C1 H1 e1 i1=>⟨?_,λp hp=>k _ _ _ (e1.trans (.new e1.s hp)) (.tup cR (i1.mono (dW (e1.s.free hp))))⟩⟩
   rw[i1.length];exact bg (je hz)
  ·cases q
noncomputable def Af (f:dD->Option (List D)):dD->Option (List D):=λδ=>(f δ).bind λds=>if ds.length<=1000 then some ds else none
theorem Ll {f:dD->Option (List D)}(h:Ec X es f):PF X (.List es pos) (Af f):=(KJ h).imp λσ H Q ⟨C,δ,d,x,q,k⟩=>by
 unfold Af at q;cases hf:f δ with
 |none=>rw[hf]at q;cases q
 |some ds=>
  rw[hf]at q;simp only[ao]at q;split at q
  ·rename_i hz;cases q;refine⟨C,δ,_,x,hf,λvs C1 H1 e1 i1=>⟨?_,λp hp=>k p vs C1 _ (e1.trans (.gi e1.s hp)) (e1.free hp) (e1.s.free hp) cR i1⟩⟩
   rw[i1.length];exact bg (je hz)
  ·cases q
noncomputable def pK (g:List D->Option D):Sp:=λvs H Q _=>∃C ds d,dF C H/\IsL C vs ds/\g ds=some d/\∀v C' H',m3 C H C' H'->Is C' v d->Q v H'
noncomputable def cM (g:List D->Option D) (f:dD->Option (List D)):dD->Option D:=λδ=>(f δ).bind g
theorem Ii {g:List D->Option D}{E:XK}{f:dD->Option (List D)}:∀σ H Q,tD (cM g f) σ H Q->JF (pK g) [] E (Pf f) σ H Q:=λσ H Q ⟨C,δ,d,x,q,k⟩=>by
 unfold cM at q;cases hf:f δ with
 |none=>rw[hf]at q;cases q
 |some ds=>
  rw[hf]at q;exact⟨C,δ,ds,x,hf,λvs C1 H1 e1 i1=>⟨C1,ds,d,e1.s,by rw[bC];exact i1,q,λv C2 H2 e2 i2=>k v C2 H2 (e1.trans e2.up) i2⟩⟩
theorem Ij {k:Nat}{f:cE}{fd:cz}{ps:List Str}{g:List D->Option D}{fa:dD->Option (List D)}(F:ef X.prog X.w X.K X.mg X.base jt k f fd ps (pK g)) (hr:fR k X.A) (hg:Gl X x) (hm:X.mg x=some (.ref f)) (hk:W.keepIn X.K (.ref f)=true) (hb:Binds X.K fd ps [])
  (ha:Ec X (e::es) fa) (ot:(x==("__debug__":Str))=false:=by decide) (he:starEach (e::es) X.env=(false,eval e X.env)::starEach es X.env:=by exact eB rfl) (i9:(backTo pos (starEach es X.env)).any (·.1)=false:=by exact eI rfl):
  PD X (.Call (.Name x p) (e::es) [] pos) (cM g fa):=(HE F hr hg hm hk hb .nil Bz ha ot he i9).imp Ii
def CD (r:List V->Hp->VK->Prop) (g:List D->Option D):Prop:=∀C H vs ds d Q,dF C H->uX C H vs ds->g ds=some d->(∀v C' H',m3 C H C' H'->Is C' v d->Q v H')->r vs H Q
def CF (r:List V->Hp->VK->Prop) (g:List D->Option (List D)):Prop:=∀C H vs ds d Q,dF C H->uX C H vs ds->g ds=some d->(∀a xs C' H',m3 C H C' H'->H a=none->C' a=none->H' a=some (.lst xs)->IsL C' xs d->Q (.ref a) H')->r vs H Q
def oG (X:Cx) (f:cx) (g:List D->Option D):Prop:=∃r,hU X f r/\CD r g
def tm (X:Cx) (f:cx) (g:List D->Option (List D)):Prop:=∃r,hU X f r/\CF r g
noncomputable def eQ (g:List D->Option (List D)) (f:dD->Option (List D)):dD->Option (List D):=λδ=>(f δ).bind g
theorem JQ {r:List V->Hp->VK->Prop}{g:List D->Option D}{f:dD->Option (List D)}(hd:CD r g):∀σ H Q,tD (cM g f) σ H Q->O1 r (QA f) σ H Q:=λσ H Q ⟨C,δ,d,x,q,k⟩=>by
 unfold cM at q;cases hf:f δ with
 |none=>rw[hf]at q;cases q
 |some ds=>
  rw[hf]at q;exact⟨C,δ,ds,x,hf,λvs C1 H1 e1 i1=>hd C1 H1 vs ds d Q e1.s i1 q λv C2 H2 e2 i2=>k v C2 H2 (e1.trans e2.up) i2⟩
theorem JR {r:List V->Hp->VK->Prop}{g:List D->Option (List D)}{f:dD->Option (List D)}(hd:CF r g):∀σ H Q,tF (eQ g f) σ H Q->O1 r (QA f) σ H Q:=λσ H Q ⟨C,δ,d,x,q,k⟩=>by
 unfold eQ at q;cases hf:f δ with
 |none=>rw[hf]at q;cases q
 |some ds=>
  rw[hf]at q;exact⟨C,δ,ds,x,hf,λvs C1 H1 e1 i1=>hd C1 H1 vs ds d Q e1.s i1 q λa xs C2 H2 e2 h2=>k a xs C2 H2 (e1.trans e2.up) (e1.free h2)⟩
theorem E2 {id:String}{g:List D->Option D}{f:dD->Option (List D)}(hc:oG X (.builtin id) g) (hg:Gl X x) (hm:X.mg x=none) (hv:bootBuiltins x=some (.builtin id)) (ha:JP X (e::es) f) (hn:x≠"__name__":=by decide) (ot:(x==("__debug__":Str))=false:=by decide)
  (he:starEach (e::es) X.env=(false,eval e X.env)::starEach es X.env:=by exact eB rfl) (i9:(backTo pos (starEach es X.env)).any (·.1)=false:=by exact eI rfl):PD X (.Call (.Name x p) (e::es) [] pos) (cM g f):=by
 obtain⟨r,h1,h2⟩:=hc;exact(xY h1 hg hm hv ha hn ot he i9).imp (JQ h2)
theorem E3 {id:String}{g:List D->Option (List D)}{f:dD->Option (List D)}(hc:tm X (.builtin id) g) (hg:Gl X x) (hm:X.mg x=none) (hv:bootBuiltins x=some (.builtin id)) (ha:JP X (e::es) f) (hn:x≠"__name__":=by decide) (ot:(x==("__debug__":Str))=false:=by decide)
  (he:starEach (e::es) X.env=(false,eval e X.env)::starEach es X.env:=by exact eB rfl) (i9:(backTo pos (starEach es X.env)).any (·.1)=false:=by exact eI rfl):PF X (.Call (.Name x p) (e::es) [] pos) (eQ g f):=by
 obtain⟨r,h1,h2⟩:=hc;exact(xY h1 hg hm hv ha hn ot he i9).imp (JR h2)
theorem Dd {T:String}{g:List D->Option D}{f:dD->Option (List D)}(hc:oG X (.type T) g) (hg:Gl X x) (hm:X.mg x=none) (hv:bootBuiltins x=some (.type T)) (ha:JP X (e::es) f) (hn:x≠"__name__":=by decide) (ot:(x==("__debug__":Str))=false:=by decide)
  (he:starEach (e::es) X.env=(false,eval e X.env)::starEach es X.env:=by exact eB rfl) (i9:(backTo pos (starEach es X.env)).any (·.1)=false:=by exact eI rfl):PD X (.Call (.Name x p) (e::es) [] pos) (cM g f):=by
 obtain⟨r,h1,h2⟩:=hc;exact(qC h1 hg hm hv ha hn ot he i9).imp (JQ h2)
theorem De {T:String}{g:List D->Option (List D)}{f:dD->Option (List D)}(hc:tm X (.type T) g) (hg:Gl X x) (hm:X.mg x=none) (hv:bootBuiltins x=some (.type T)) (ha:JP X (e::es) f) (hn:x≠"__name__":=by decide) (ot:(x==("__debug__":Str))=false:=by decide)
  (he:starEach (e::es) X.env=(false,eval e X.env)::starEach es X.env:=by exact eB rfl) (i9:(backTo pos (starEach es X.env)).any (·.1)=false:=by exact eI rfl):PF X (.Call (.Name x p) (e::es) [] pos) (eQ g f):=by
 obtain⟨r,h1,h2⟩:=hc;exact(qC h1 hg hm hv ha hn ot he i9).imp (JR h2)
end
end DL
namespace DL
open PySem PySem.Spec PyProof.Rows L2
variable [Mem]
structure Gd (B C0 H0:Hp) (δ:dD) (σ:L2.St) (C H:Hp):Prop where
 b:dF B C
 ev:Ev C0 H0 C H
 x:Sx δ σ C H
 fr:∀(i:Nat) (ds:List D) (a:cE),δ[i]? =some (.own ds)->σ[i]? =some (some (.ref a))->H0 a=none
inductive R where
 |next (δ:dD)|ret (d:D)|brk (δ:dD)|cont (δ:dD)
noncomputable abbrev _root_.bZ:=dD->Option (List D)
noncomputable abbrev _root_.cb:=dD->Option R
noncomputable abbrev _root_.cc:=dD->Option D
noncomputable abbrev _root_.cf:=dD->Option Bool
noncomputable abbrev _root_.cg:=List D->Option D
noncomputable abbrev _root_.cv:=List D
noncomputable def Fi (B C0 H0:Hp) (Dn:Ends):R->Prop
 |.next δ=>∀σ C H,Gd B C0 H0 δ σ C H->Dn.nx σ H
 |.ret d=>∀v C H,Ev C0 H0 C H->Is C v d->Dn.rt v H
 |.brk δ=>∀σ C H,Gd B C0 H0 δ σ C H->Dn.bk σ H
 |.cont δ=>∀σ C H,Gd B C0 H0 δ σ C H->Dn.ct σ H
noncomputable def tS (B C0 H0:Hp) (f:cb):TS:=λDn σ H=>∃C δ r,Gd B C0 H0 δ σ C H/\f δ=some r/\Fi B C0 H0 Dn r
def PB (X:Cx) (C0 H0:Hp) (st:cG) (f:cb):Prop:=∀B,PS X st (tS B C0 H0 f)
def zC (X:Cx) (C0 H0:Hp) (st:List cG) (f:cb):Prop:=∀B,vv X st (tS B C0 H0 f)
section
variable {B C0 H0 C H C' H':Hp}{δ:dD}{σ:L2.St}
theorem Gd.Df (g:Gd B C0 H0 δ σ C H) (e:Ev C H C' H'):Gd B C0 H0 δ σ C' H':=⟨g.b.trans e.c,g.ev.trans e,g.x.ev e,g.fr⟩
theorem Gd.oZ (g:Gd B C0 H0 δ σ C H) {i:Nat}{v:V}{d:D}(h:Is C v d):Gd B C0 H0 (δ.set i (.dat d)) (σ.set i (some v)) C H:=
 ⟨g.b,g.ev,g.x.oZ h,λk ds a q1 q2=>by
  rcases getElem?_set_cases q1 with⟨_,e⟩|⟨hk,e⟩
  ·cases e
  ·rw[aF (Ne.symm hk)]at q2;exact g.fr k ds a e q2⟩
theorem Gd.wL (g:Gd B C0 H0 δ σ C H) (e:Ev C H C' H') {i:Nat}{a:cE}{xs:List V}{ds:cv}(hn:H a=none) (hc:C' a=none) (hH:H' a=some (.lst xs)) (hl:IsL C' xs ds):Gd B C0 H0 (δ.set i (.own ds)) (σ.set i (some (.ref a))) C' H':=
 ⟨g.b.trans e.c,g.ev.trans e,(g.x.ev e).wL hc hH hl (λk es q z=>by
   obtain⟨b,ys,h1,h2,h3,_⟩:=g.x.own k es q;rw[z]at h1;cases h1;rw[hn]at h3;cases h3),
  λk es b q1 q2=>by
   rcases getElem?_set_cases q1 with⟨rfl,e1⟩|⟨hk,e1⟩
   ·rcases getElem?_set_cases q2 with⟨_,e2⟩|⟨z,_⟩
    ·cases e2;exact g.ev.free hn
    ·exact absurd rfl z
   ·rw[aF (Ne.symm hk)]at q2;exact g.fr k es b e1 q2⟩
theorem Gd.mut (g:Gd B C0 H0 δ σ C H) {i:Nat}{a:cE}{ys:List V}{ds es:cv}(hi:δ[i]? =some (.own ds)) (ha:σ[i]? =some (some (.ref a))) (hl:IsL C ys es):Gd B C0 H0 (δ.set i (.own es)) σ C (upd H a (.lst ys)):=by
 obtain⟨a',xs,h1,h2,h3,_⟩:=g.x.own i ds hi;rw[ha]at h1;cases h1;refine⟨g.b,g.ev.BD (g.fr i ds a hi ha) h2 _,g.x.mut hi ha hl,λk fs b q1 q2=>?_⟩
 rcases getElem?_set_cases q1 with⟨rfl,e1⟩|⟨hk,e1⟩
 ·exact g.fr k ds b hi q2
 ·exact g.fr k fs b e1 q2
noncomputable def tu (i:Nat) (δ:dD):dD:=match δ[i]? with|some (.own ds)=>δ.set i (.dat (.lst ds))|_=>δ
theorem Gd.give (g:Gd B C0 H0 δ σ C H) (i:Nat):∃C',Gd B C0 H0 (tu i δ) σ C' H:=by
 unfold tu;split
 ·rename_i ds hi;obtain⟨a,xs,h1,h2,h3,h4⟩:=g.x.own i ds hi;refine⟨upd C a (.lst xs),g.b.trans (dW h2),g.ev.JL (g.fr i ds a hi h1) h2 h3,g.x.give hi h1 h3 h4,λk fs b q1 q2=>?_⟩
  ·rcases getElem?_set_cases q1 with⟨_,e1⟩|⟨hk,e1⟩
   ·cases e1
   ·exact g.fr k fs b e1 q2
 ·exact⟨C,g⟩
end
section
variable {X:Cx}{C0 H0:Hp}{st:cG}{NJ rest:List cG}{e:cF}{pos:Pos}{f g:cb}
noncomputable def kO:cb:=λδ=>some (.next δ)
noncomputable def eR (f g:cb):cb:=λδ=>match f δ with|some (.next δ')=>g δ'|r=>r
theorem Ik:zC X C0 H0 [] kO:=λB=>Bq.imp λDn σ H ⟨C,δ,r,g,q,k⟩=>by cases q;exact k σ C H g
theorem Il (h:PB X C0 H0 st f):zC X C0 H0 [st] f:=λB=>Br (h B)
theorem E4 (h:PB X C0 H0 st f) (h2:zC X C0 H0 rest g):zC X C0 H0 (st::rest) (eR f g):=λB=>(sM (h B) (h2 B)).imp λDn σ H ⟨C,δ,r,gd,q,k⟩=>by
 unfold eR at q;split at q
 ·rename_i δ' hf;exact⟨C,δ,.next δ',gd,hf,λσ' C' H' g'=>⟨C',δ',r,g',q,k⟩⟩
 ·rename_i hn;refine⟨C,δ,r,gd,q,?_⟩;cases r with
  |next δ'=>exact absurd q (hn δ')
  |ret d=>exact k
  |brk δ'=>exact k
  |cont δ'=>exact k
noncomputable def rq (i:Nat) (f:cb):cb:=λδ=>f (tu i δ)
theorem E5 (i:Nat) (h:zC X C0 H0 NJ f):zC X C0 H0 NJ (rq i f):=λB=>(h B).imp λDn σ H ⟨C,δ,r,gd,q,k⟩=>by
 obtain⟨C',g'⟩:=gd.give i;exact⟨C',_,r,g',q,k⟩
noncomputable def eY (f:cc):cb:=λδ=>(f δ).map .ret
theorem Lm {f:cc}(he:PD X e f):PB X C0 H0 (.Return (some e) pos) (eY f):=λB=>(Kt he).imp λDn σ H ⟨C,δ,r,gd,q,k⟩=>by
 unfold eY at q;cases hf:f δ with
 |none=>rw[hf]at q;cases q
 |some d=>
  rw[hf]at q;cases q;exact⟨C,δ,d,gd.x,hf,λv C' H' ev i=>k v C' H' (gd.ev.trans ev) i⟩
noncomputable def lq (i:Nat) (f:cc):cb:=λδ=>(f δ).map λd=>.next (δ.set i (.dat d))
noncomputable def ir (i:Nat) (f:bZ):cb:=λδ=>(f δ).map λds=>.next (δ.set i (.own ds))
theorem Ln {B:Hp}{i:Nat}{f:cc}{t:TE}(h:∀σ H Q,tD f σ H Q->t σ H Q):∀Dn σ H,tS B C0 H0 (lq i f) Dn σ H->t σ H λv H1=>Dn.nx (σ.set i (some v)) H1:=λDn σ H ⟨C,δ,r,gd,q,k⟩=>by
 unfold lq at q;cases hf:f δ with
 |none=>rw[hf]at q;cases q
 |some d=>
  rw[hf]at q;cases q;exact h σ H _ ⟨C,δ,d,gd.x,hf,λv C' H' ev i=>k _ C' H' ((gd.Df ev).oZ i)⟩
theorem Ag {B:Hp}{i:Nat}{f:bZ}{t:TE}(h:∀σ H Q,tF f σ H Q->t σ H Q):∀Dn σ H,tS B C0 H0 (ir i f) Dn σ H->t σ H λv H1=>Dn.nx (σ.set i (some v)) H1:=λDn σ H ⟨C,δ,r,gd,q,k⟩=>by
 unfold ir at q;cases hf:f δ with
 |none=>rw[hf]at q;cases q
 |some ds=>
  rw[hf]at q;cases q;exact h σ H _ ⟨C,δ,ds,gd.x,hf,λa xs C' H' ev h1 h2 h3 h4=>k _ C' H' (gd.wL ev h1 h2 h3 h4)⟩
theorem Lo (i:Nat) {x:Str}{pos':Pos}{f:cc}(hN:X.N.Nodup) (he:PD X e f) (hi:X.N[i]? =some x:=by rfl) (hx:Loc X.env.scope x:=by first|exact Or.inl rfl|exact Or.inr rfl) (hs:swapsWith e (some (.Name x pos')) pos.line X.env=pure false:=by rfl) (hf:X.fn x=true\/X.env.scope.names.lookup x=some .local:=by first|exact .inl rfl|exact .inr rfl):
  PB X C0 H0 (.Assign [.Name x pos'] e pos) (lq i f):=λB=>(zI hN hi hx he hs hf).imp (Ln λ_ _ _ h=>h)
theorem Im (i:Nat) {x:Str}{pos':Pos}{f:bZ}(hN:X.N.Nodup) (he:PF X e f) (hi:X.N[i]? =some x:=by rfl) (hx:Loc X.env.scope x:=by first|exact Or.inl rfl|exact Or.inr rfl) (hs:swapsWith e (some (.Name x pos')) pos.line X.env=pure false:=by rfl) (hf:X.fn x=true\/X.env.scope.names.lookup x=some .local:=by first|exact .inl rfl|exact .inr rfl):
  PB X C0 H0 (.Assign [.Name x pos'] e pos) (ir i f):=λB=>(zI hN hi hx he hs hf).imp (Ag λ_ _ _ h=>h)
noncomputable def pq (c:cf) (f g:cb):cb:=λδ=>match c δ with|some true=>f δ|some false=>g δ|none=>none
theorem NK {c:cF}{a b:List cG}{q:cf}(hc:PQ X c q) (ha:zC X C0 H0 a f) (hb:zC X C0 H0 b g):PB X C0 H0 (.If c a b pos) (pq q f g):=λB=>(Jy hc (ha B) (hb B)).imp λDn σ H ⟨C,δ,r,gd,h,k⟩=>by
 unfold pq at h;split at h
 ·rename_i hf;exact⟨C,δ,true,gd.x,hf,λC' H' ev=>zW ⟨C',δ,r,gd.Df ev,h,k⟩⟩
 ·rename_i hf;exact⟨C,δ,false,gd.x,hf,λC' H' ev=>CQ ⟨C',δ,r,gd.Df ev,h,k⟩⟩
 ·cases h
noncomputable def uY (i:Nat) (f:cc):cb:=λδ=>match δ[i]? with
 |some (.own ds)=>(f δ).bind λd=>if ds.length<1000000 then some (.next (δ.set i (.own (ds++[d]))))else none
 |_=>none
omit [Mem] in
theorem si {n:Nat}(h:n<1000000):n<sizeLine:=aw h (by decide)
theorem Dg {i:Nat}{o:cF}{f:cc}{apos:Pos}{t:TA}(ht:PA X [e] t) (ho:PE X o (ij i)) (he:∀σ H Q,Pf (aX f cL) σ H Q->t σ H Q)
  (call:PE X (.Call (.Attribute o "append" apos) [e] [] pos) (Qp X.K "list" By (ij i) t)) {pos':Pos}(hs:swapsWith (.Call (.Attribute o "append" apos) [e] [] pos) none pos'.line X.env=pure false:=by rfl):
  PB X C0 H0 (.Expr (.Call (.Attribute o "append" apos) [e] [] pos) pos') (uY i f):=λB=>(Ht call hs).imp λDn σ H ⟨C,δ,r,gd,q,k⟩=>by
 unfold uY at q;split at q
 ·rename_i ds hi;cases hf:f δ with
  |none=>rw[hf]at q;cases q
  |some d=>
   rw[hf]at q;simp only[ao]at q;split at q
   ·rename_i hz;cases q;obtain⟨a,xs,h1,h2,h3,h4⟩:=gd.x.own i ds hi;refine⟨_,h1,.inl ⟨rfl,_,oE.of h3⟩,he σ H _ ⟨C,δ,[d],gd.x,by unfold aX cL;rw[hf];rfl,λvs C' H' ev i'=>?_⟩⟩
    cases i' with
    |cons i1 i2=>
     cases i2;refine⟨a,xs,_,rfl,rfl,ev.hh h3,by rw[h4.length];exact si hz,k σ C' _ ((gd.Df ev).mut hi h1 ((h4.mono ev.c).append (.one i1)))⟩
   ·cases q
 ·cases q
end
def Wk (J:It) (ds:cv) (C:Hp):Prop:=∀i C' H',dF C C'->dF C' H'->(∀d,ds[i]? =some d->J.go i H'/\∀x H3,J.JB i H' x H3->H3=H'/\Is C' x d)/\(ds.length<=i->J.stop i H')
def UB (J:It) (ds:cv) (C H:Hp):Prop:=∀i C' H',Ev C H C' H'->(∀d,ds[i]? =some d->J.go i H'/\∀x H3,J.JB i H' x H3->H3=H'/\Is C' x d)/\(ds.length<=i->J.stop i H')
noncomputable def tI (f:bZ):TI:=λσ H R=>∃C δ ds,Sx δ σ C H/\f δ=some ds/\∀J C' H',Ev C H C' H'->Wk J ds C'->R J H'
noncomputable def Sh (f:bZ):TI:=λσ H R=>∃C δ ds,Sx δ σ C H/\f δ=some ds/\∀J C' H',Ev C H C' H'->UB J ds C' H'->R J H'
omit [Mem] in
theorem _root_.L2.PI.imp {X:Cx}{tg e:cF}{t t':TI}(h:PI X tg e t) (m:∀σ H Q,t' σ H Q->t σ H Q):PI X tg e t':=λpins s σ H Q I q=>h pins s σ H Q I (m σ H Q q)
abbrev Io (X:Cx) (tg e:cF) (f:bZ):Prop:=PI X tg e (tI f)
abbrev Lp (X:Cx) (tg e:cF) (f:bZ):Prop:=PI X tg e (Sh f)
section
variable {X:Cx}{tg e:cF}
theorem Io.weak {f:bZ}(h:Io X tg e f):Lp X tg e f:=h.imp λσ H R ⟨C,δ,ds,x,q,k⟩=>⟨C,δ,ds,x,q,λJ C' H' ev wk=>k J C' H' ev λi C2 H2 e2=>wk i C2 H2 e2.c e2.s⟩
noncomputable def iL (f:cc):bZ:=λδ=>match f δ with|some (.lst ds)=>some ds|_=>none
noncomputable def iT (f:cc):bZ:=λδ=>match f δ with|some (.tup ds)=>some ds|_=>none
theorem vG {K:W.Frag}{C:Hp}{a:cE}{xs:List V}{ds:cv}(h:Rd C a (.lst xs)) (hl:IsL C xs ds):Wk (P9 K a) ds C:=λi C' H' sc sh=>by
 have hq:oE K H' a xs:=.inl ((h.same sc).same sh);refine⟨λd hd=>?_,λhi=>⟨xs,hq,by rw[hl.length];exact hi⟩⟩
 obtain⟨v,hv,is⟩:=hl.get hd;exact⟨⟨xs,v,hq,hv⟩,λx H3 ⟨e1,e2⟩=>⟨e1,by
  have:=e2 xs hq;rw[hv]at this;cases this;exact is.mono sc⟩⟩
theorem E6 {K:W.Frag}{C:Hp}{a:cE}{xs:List V}{ds:cv}(h:C a=some (.tup xs)) (hl:IsL C xs ds):Wk (Qa K a) ds C:=λi C' H' sc sh=>by
 have hq:hO K H' a xs:=hO.of (sh _ _ (sc _ _ h));refine⟨λd hd=>?_,λhi=>⟨xs,hq,by rw[hl.length];exact hi⟩⟩
 obtain⟨v,hv,is⟩:=hl.get hd;exact⟨⟨xs,v,hq,hv⟩,λx H3 ⟨e1,e2⟩=>⟨e1,by
  have:=e2 xs hq;rw[hv]at this;cases this;exact is.mono sc⟩⟩
theorem yg {f:cc}(h:PD X e f):Io X tg e (iL f):=(Bs h).imp λσ H R ⟨C,δ,ds,x,q,k⟩=>by
 unfold iL at q;split at q
 ·rename_i es hf;cases q;refine⟨C,δ,_,x,hf,λv C' H' ev i=>?_⟩
  cases i with
  |lst hr hl=>exact⟨_,rfl,⟨_,.inl (hr.same ev.s)⟩,k _ C' H' ev (vG hr hl)⟩
 ·cases q
theorem BG {f:cc}(h:PD X e f):Io X tg e (iT f):=(Kx h).imp λσ H R ⟨C,δ,ds,x,q,k⟩=>by
 unfold iT at q;split at q
 ·rename_i es hf;cases q;refine⟨C,δ,_,x,hf,λv C' H' ev i=>?_⟩
  cases i with
  |tup hr hl=>exact⟨_,rfl,⟨_,hO.of (ev.s _ _ hr)⟩,k _ C' H' ev (E6 hr hl)⟩
 ·cases q
theorem Ip {f:cc}(h:PO X e f):Lp X tg e (iL f):=(Bs h).imp λσ H R ⟨C,δ,ds,x,q,k⟩=>by
 unfold iL at q;split at q
 ·rename_i es hf;cases q;refine⟨C,δ,_,x,hf,λv C' H' ev i=>?_⟩
  rcases i with i|⟨a,xs,BE,rfl,e2,h2,h3,h4⟩
  ·cases i with
   |lst hr hl=>exact⟨_,rfl,⟨_,.inl (hr.same ev.s)⟩,k _ C' H' ev λi C2 H2 e2=>vG hr hl i C2 H2 e2.c e2.s⟩
  ·cases e2;refine⟨a,rfl,⟨xs,oE.of h3⟩,k _ C' H' ev λi C2 H2 e2=>?_⟩
   have hq:oE X.K H2 a xs:=oE.of (e2.hh h3);refine⟨λd hd=>?_,λhi=>⟨xs,hq,by rw[h4.length];exact hi⟩⟩
   obtain⟨v,hv,is⟩:=h4.get hd;exact⟨⟨xs,v,hq,hv⟩,λx H3 ⟨z1,z2⟩=>⟨z1,by
    have:=z2 xs hq;rw[hv]at this;cases this;exact is.mono e2.c⟩⟩
 ·cases q
noncomputable def dP (lo:Int):Nat->cp
 |0=>[]
 |n+1=>lo::dP (lo+1) n
omit [Mem] in
theorem mh:∀(n i:Nat) (lo:Int),(dP lo n)[i]? =if i<n then some (lo+i)else none
 |0,i,lo=>by simp[dP]
 |n+1,0,lo=>by simp[dP]
 |n+1,i+1,lo=>by
  show(dP (lo+1) n)[i]? =_;rw[mh n i (lo+1)];by_cases h:i<n
  ·rw[if_pos h,if_pos (by omega)];congr 1;omega
  ·rw[if_neg h,if_neg (by omega)]
omit [Mem] in
theorem eC:∀(n:Nat) (lo:Int),(dP lo n).length=n
 |0,_=>rfl
 |n+1,lo=>congrArg (·+1) (eC n (lo+1))
theorem Ah {lo:Int}{n:Nat}{C:Hp}:Wk (O0 lo n) ((dP lo n).map D.int) C:=λi C' H' sc sh=>by
 refine⟨λd hd=>?_,λhi=>?_⟩
 ·rw[av,mh]at hd;split at hd
  ·rename_i h;cases hd;exact⟨h,λx H3 ⟨e1,e2⟩=>⟨e1,by rw[e2];exact .int _⟩⟩
  ·cases hd
 ·rw[ae,eC]at hi;exact hi
noncomputable def zD (f:bZ):bZ:=λδ=>match f δ with|some [.int j]=>if j<1000000/\-1000000<j then some ((dP 0 j.toNat).map D.int)else none|_=>none
theorem Ai {a:cF}{f:bZ}{p pos:Pos}(hg:Gl X "range") (hm:X.mg "range"=none) (ha:Ec X [a] f) (hs:starEach [a] X.env=[(false,eval a X.env)]:=by exact eB rfl):Io X tg (.Call (.Name "range" p) [a] [] pos) (zD f):=(CG hg hm ha hs).imp λσ H R ⟨C,δ,ds,x,q,k⟩=>by
 unfold zD at q;split at q
 ·rename_i j hf;split at q
  ·rename_i hj;cases q;refine⟨C,δ,_,x,hf,λvs C' H' ev i=>?_⟩
   cases i with
   |cons i1 i2=>
    cases i2;cases i1;exact⟨j,rfl,by omega,by omega,k _ C' H' ev Ah⟩
  ·cases q
 ·cases q
noncomputable def iU (j:Nat) (f:cb):cv->cb
 |[],δ=>some (.next δ)
 |d::ds,δ=>match f (δ.set j (.dat d))with
  |some (.next δ')=>iU j f ds δ'
  |some (.cont δ')=>iU j f ds δ'
  |some (.brk δ')=>some (.next δ')
  |some (.ret r)=>some (.ret r)
  |none=>none
noncomputable def oy (j:Nat) (i:bZ) (f:cb):cb:=λδ=>(i δ).bind λds=>iU j f ds δ
theorem Lq {C0 H0:Hp}{iter:cF}{body:List cG}{i:bZ}{f:cb}{pos:Pos}{j:Nat}(hp:PassesOwn (model X.prog X.w) X.A X.env X.xe) (hc:X.calm=true) (hi:Io X tg iter i) (hg:PG X tg (vw j)) (hb:zC X C0 H0 body f)
  (hs:∀x,foldedSetIterable iter X.env x=pure x:=by intro _;rfl):PB X C0 H0 (.For tg iter body [] pos) (oy j i f):=λB pins s σ H Dn I h=>by
 obtain⟨C,δ,r,gd,q,k⟩:=h;unfold oy at q;cases hf:i δ with
 |none=>rw[hf]at q;cases q
 |some ds=>
  rw[hf]at q;simp only[ao]at q;have main:∀J C1 H1,Ev C H C1 H1->Wk J ds C1->∃W:Nat->Nat->L2.St->Hp->Prop,(∃m,W 0 m σ H1)/\∀i m σ H,W i m σ H->
    (J.stop i H/\Dn.nx σ H)\/(J.go i H/\∃N:L2.St->Hp->Prop,(∀σ' H',N σ' H'->∃m',m'<m/\W (i+1) m' σ' H')/\∀x H',J.JB i H x H'->vw j x σ H' λσ2 H2=>tS C1 C0 H0 f {Dn with nx:=N,ct:=N,bk:=Dn.nx} σ2 H2):=by
   intro J C1 H1 ev wk;have bs:dF B C1:=gd.b.trans ev.c;refine⟨λn m σ H=>∃C δ,m=ds.length-n/\n<=ds.length/\Gd C1 C0 H0 δ σ C H/\iU j f (ds.drop n) δ=some r,⟨ds.length,C1,δ,by simp,bM _,⟨dF.refl _,gd.ev.trans ev,gd.x.ev ev,gd.fr⟩,by simpa using q⟩,?_⟩
   rintro n m σ2 H2 ⟨C2,δ2,rfl,hn,g2,q2⟩
   have w:=wk n C2 H2 g2.b g2.x.sub;by_cases eP:n<ds.length
   ·have hd:ds[n]? =some ds[n]:=ah eP;obtain⟨go,yl⟩:=w.1 _ hd;rw[List.drop_eq_getElem_cons eP]at q2;refine .inr ⟨go,λσ' H'=>∃C' δ',Gd C1 C0 H0 δ' σ' C' H'/\iU j f (ds.drop (n+1)) δ'=some r,λσ' H' ⟨C',δ',g',q'⟩=>⟨ds.length-(n+1),by omega,C',δ',rfl,eP,g',q'⟩,λx H3 y=>?_⟩
    obtain⟨rfl,is⟩:=yl x H3 y;have g3:=g2.oZ (i:=j) is;unfold iU at q2;show tS C1 C0 H0 f {Dn with nx:=_,ct:=_,bk:=Dn.nx} (σ2.set j (some x)) _
    cases Iq:f (δ2.set j (.dat ds[n]))with
    |none=>rw[Iq]at q2;cases q2
    |some rb=>
     rw[Iq]at q2;refine⟨C2,δ2.set j (.dat ds[n]),rb,g3,Iq,?_⟩;cases rb with
     |next δ'=>exact λσ' C' H' g'=>⟨C',δ',g',q2⟩
     |cont δ'=>exact λσ' C' H' g'=>⟨C',δ',g',q2⟩
     |brk δ'=>
      cases q2;exact λσ' C' H' g'=>k σ' C' H' ⟨bs.trans g'.b,g'.ev,g'.x,g'.fr⟩
     |ret d=>
      cases q2;exact k
   ·have e:n=ds.length:=by omega
    subst e;rw[List.drop_length]at q2;unfold iU at q2;cases q2;exact .inl ⟨w.2 (au _),k σ2 C2 H2 ⟨bs.trans g2.b,g2.ev,g2.x,g2.fr⟩⟩
  refine Es (tb:=λLr σ' H'=>∃C1,tS C1 C0 H0 f Lr σ' H') hp hc hi hg (λpins s σ H Lr I ⟨C1,h⟩=>hb C1 pins s σ H Lr I h) hs pins s σ H Dn I ?_
  refine⟨C,δ,ds,gd.x,hf,λJ C1 H1 ev wk=>?_⟩
  obtain⟨W,w0,st⟩:=main J C1 H1 ev wk;refine⟨W,w0,λi m σ H w=>?_⟩
  rcases st i m σ H w with z|⟨go,N,hN,hy⟩
  ·exact .inl z
  ·exact .inr ⟨go,N,hN,λx H' y=>⟨C1,hy x H' y⟩⟩
noncomputable def j8 (j:Nat) (t:cf) (f:cc) (δ:dD):cv->Option (cv)
 |[]=>some []
 |d::ds=>match t (δ.set j (.dat d))with
  |some true=>(f (δ.set j (.dat d))).bind λy=>(j8 j t f δ ds).map λys=>y::ys
  |some false=>j8 j t f δ ds
  |none=>none
noncomputable def eS (i:bZ) (j:Nat) (t:cf) (f:cc):bZ:=λδ=>(i δ).bind λds=>if ds.length<1000000 then j8 j t f δ ds else none
noncomputable def j9:cf:=λ_=>some true
theorem Aj:∀σ H Q,tQ j9 σ H Q->Nw σ H Q:=λσ H Q ⟨C,δ,b,x,q,k⟩=>by cases q;exact k C H (.refl x.sub)
theorem wN {i:bZ}{j:Nat}{t:cf}{f:cc}{tt:TT}(ht:∀σ H Q,tQ t σ H Q->tt σ H Q):∀σ H Q,tF (eS i j t f) σ H Q->BA (Sh i) j tt (tD f) σ H Q:=λσ H Q ⟨C,δ,ys,x,q,k⟩=>by
 unfold eS at q;cases hf:i δ with
 |none=>rw[hf]at q;cases q
 |some ds=>
  rw[hf]at q;simp only[ao]at q;split at q
  case isFalse=>cases q
  rename_i hz;refine⟨C,δ,ds,x,hf,λJ C1 H1 ev wk A hA=>?_⟩
  refine⟨λn m acc H'=>∃C' done rest,m=ds.length-n/\n<=ds.length/\Ev C1 H1 C' H'/\C' A=none/\H' A=some (.lst acc)/\IsL C' acc done/\done.length<=n/\j8 j t f δ (ds.drop n)=some rest/\ys=done++rest,
   ⟨ds.length,C1,[],ys,by simp,bM _,.gi ev.s hA,ev.s.free hA,cR,.nil,au _,by simpa using q,rfl⟩,?_⟩
  rintro n m acc H2 ⟨C2,done,rest,rfl,hn,e2,a2,b2,l2,Si,q2,ey⟩
  have w:=wk n C2 H2 e2;by_cases eP:n<ds.length
  ·have hd:ds[n]? =some ds[n]:=ah eP;obtain⟨go,yl⟩:=w.1 _ hd;rw[List.drop_eq_getElem_cons eP]at q2;refine .inr ⟨go,λv H3 y=>?_⟩
   obtain⟨rfl,is⟩:=yl v H3 y;have x2:Sx δ σ C2 H3:=x.ev (ev.trans e2);have x3:=x2.oZ (i:=j) is;unfold j8 at q2;split at q2
   ·rename_i QB;refine ht _ _ _ ⟨C2,_,true,x3,QB,λC4 H4 e4=>zW ?_⟩
    cases Lu:f (δ.set j (.dat ds[n]))with
    |none=>rw[Lu]at q2;cases q2
    |some y=>
     rw[Lu]at q2;simp only[ao]at q2;cases hr:j8 j t f δ (ds.drop (n+1))with
     |none=>rw[hr]at q2;cases q2
     |some rs=>
      rw[hr]at q2;cases q2;refine⟨C4,_,y,x3.ev e4,Lu,λu C5 H5 e5 i5=>?_⟩
      have Ed:=e4.trans e5;have Ph:=Ed.hh b2;have a5:=Ed.nn a2 b2;refine⟨Ph,?_,ds.length-(n+1),by omega,C5,done++[y],rs,rfl,eP,(e2.trans Ed).BD hA a5 _,a5,cR,(l2.mono Ed.c).append (.one i5),?_,hr,?_⟩
      ·rw[l2.length];exact si (by omega)
      ·rw[aQ,List.length_singleton];omega
      ·rw[ey,List.append_assoc];rfl
   ·rename_i QB;refine ht _ _ _ ⟨C2,_,false,x3,QB,λC4 H4 e4=>CQ ?_⟩
    exact⟨ds.length-(n+1),by omega,C4,done,rest,rfl,eP,e2.trans e4,e4.nn a2 b2,e4.hh b2,l2.mono e4.c,by omega,q2,ey⟩
   ·cases q2
  ·have e:n=ds.length:=by omega
   subst e;rw[List.drop_length]at q2;unfold j8 at q2;cases q2;rw[bC]at ey;subst ey;exact .inl ⟨w.2 (au _),k A acc C2 H2 (ev.trans e2) (ev.free hA) a2 b2 l2⟩
end
section
variable {X:Cx}{elt iter:cF}{x:Str}{px pos:Pos}{scope:Scope}{i:bZ}{t:cf}{f:cc}
theorem Ir (j:Nat) (hc:X.calm=true) (S:fU X scope x j) (hi:Lp X (.Name x px) iter i) (he:∀cl C s H fp,PD (dg X scope cl C s H fp) elt f)
  (hs:∀v,foldedSetIterable iter X.env v=pure v:=by intro _;rfl):PF X (.ListComp elt [⟨.Name x px,iter,[],0⟩] scope pos) (eS i j j9 f):=(BB hc S hi (λ_ _ _ _ _=>sV) he hs).imp (wN Aj)
theorem Dh (j:Nat) {c:cF}(hc:X.calm=true) (S:fU X scope x j) (hi:Lp X (.Name x px) iter i) (ht:∀cl C s H fp,PQ (dg X scope cl C s H fp) c t) (he:∀cl C s H fp,PD (dg X scope cl C s H fp) elt f)
  (hs:∀v,foldedSetIterable iter X.env v=pure v:=by intro _;rfl):PF X (.ListComp elt [⟨.Name x px,iter,[c],0⟩] scope pos) (eS i j t f):=(BB hc S hi (λcl C s H fp=>yb (ht cl C s H fp)) he hs).imp (wN λ_ _ _ h=>h)
variable {C0 H0:Hp}{y:Str}{py mS:Pos}
theorem Ak (k j:Nat) (hc:X.calm=true) (S:fU X scope x j) (hi:Lp X (.Name x px) iter i) (he:∀cl C s H fp,PD (dg X scope cl C s H fp) elt f)
  (hN:X.N[k]? =some y:=by rfl) (hy:Loc X.env.scope y:=by first|exact Or.inl rfl|exact Or.inr rfl) (hf:X.fn y=true\/X.env.scope.names.lookup y=some .local:=by first|exact .inl rfl|exact .inr rfl)
  (CT:swapsWith (.ListComp elt [⟨.Name x px,iter,[],0⟩] scope pos) (some (.Name y py)) mS.line X.env=pure true:=by rfl)
  (hs:∀v,foldedSetIterable iter X.env v=pure v:=by intro _;rfl):PB X C0 H0 (.Assign [.Name y py] (.ListComp elt [⟨.Name x px,iter,[],0⟩] scope pos) mS) (ir k (eS i j j9 f)):=λB=>
 (oY hc S hi (λ_ _ _ _ _=>sV) he hN hy hf CT hs).imp (Ag (wN Aj))
theorem wO (k j:Nat) {c:cF}(hc:X.calm=true) (S:fU X scope x j) (hi:Lp X (.Name x px) iter i) (ht:∀cl C s H fp,PQ (dg X scope cl C s H fp) c t) (he:∀cl C s H fp,PD (dg X scope cl C s H fp) elt f)
  (hN:X.N[k]? =some y:=by rfl) (hy:Loc X.env.scope y:=by first|exact Or.inl rfl|exact Or.inr rfl) (hf:X.fn y=true\/X.env.scope.names.lookup y=some .local:=by first|exact .inl rfl|exact .inr rfl)
  (CT:swapsWith (.ListComp elt [⟨.Name x px,iter,[c],0⟩] scope pos) (some (.Name y py)) mS.line X.env=pure true:=by rfl)
  (hs:∀v,foldedSetIterable iter X.env v=pure v:=by intro _;rfl):PB X C0 H0 (.Assign [.Name y py] (.ListComp elt [⟨.Name x px,iter,[c],0⟩] scope pos) mS) (ir k (eS i j t f)):=λB=>
 (oY hc S hi (λcl C s H fp=>yb (ht cl C s H fp)) he hN hy hf CT hs).imp (Ag (wN λ_ _ _ h=>h))
end
end DL
namespace DL
open PySem PySem.Spec PyProof.Rows L2
noncomputable def il (n:Nat) (np:Nat) (f:cb) (ds:cv):Option D:=
 if ds.length=np then(match f (ds.map Sl.dat++List.replicate (n-np) Sl.no)with|some (.ret d)=>some d|some (.next _)=>some .fO|_=>none)else none
theorem JS {P:cA}{w:cB}{K:W.Frag}{mg:ck}{base:Heap}{x qual:Str}{st:cG}{f:cE}{fd:cz}{N ps:List Str}{k:Nat}(F:mZ K x qual st f fd) (S:dw N ps (bt st)) {fb:cb}
  (jB:∀(fS:cx) (A:cC) (outer:List Env) (s:cy) (H:Hp) (E:XK),fR k (A.deeper (envOfC qual (bt st) s.heap.objs.size f fS))->∀C0 H0,@zC Mem.keep (oW jt P w K mg base N qual (bt st) f fS A outer s H E).Bp C0 H0 (dk st) fb):
  ef P w K mg base jt (k+1) f fd ps (pK (il N.length ps.length fb)):=by
 letI:Mem:=Mem.keep
 refine F.ok S (λvs H Q E h=>?_) (λfS A outer s H vs Q E hr h=>?_)
 ·obtain⟨C,ds,d,_,i,q,_⟩:=h;unfold il at q;split at q
  ·rename_i hl;rw[i.length];exact hl
  ·cases q
 ·obtain⟨C,ds,d,sub,i,q,k⟩:=h;refine⟨tS C C H fb,jB fS A outer s H E hr C H C,?_⟩;unfold il at q;split at q
  case isFalse=>cases q
  rename_i hl;have hN:ps.length<=N.length:=by have:=S.pre;rw[<-this,bK];omega
  have sx:Sx (ds.map Sl.dat++List.replicate (N.length-ps.length) Sl.no) (L2.start N vs) C H:=by
   have lv:=i.length;refine⟨sub,λn d e=>?_,λn es e=>?_,λn m es fs a e=>?_,?_,λn ks e=>?_⟩
   ·by_cases hn:n<ds.length
    ·rw[aJ (by simpa using hn),av]at e
     cases hd:ds[n]? with
     |none=>rw[hd]at e;cases e
     |some d'=>
      rw[hd]at e;cases e;obtain⟨v,h1,h2⟩:=i.get hd;refine⟨v,?_,h2⟩;unfold L2.start;rw[aJ (by rw[ae,lv];exact hn),av,h1];rfl
    ·rw[aP (by rw[ae];omega),bf]at e
     split at e<;>cases e
   ·by_cases hn:n<ds.length
    ·rw[aJ (by simpa using hn),av]at e
     cases hd:ds[n]? with
     |none=>rw[hd]at e;cases e
     |some d'=>rw[hd]at e;cases e
    ·rw[aP (by rw[ae];omega),bf]at e
     split at e<;>cases e
   ·by_cases hn:n<ds.length
    ·rw[aJ (by simpa using hn),av]at e
     cases hd:ds[n]? with
     |none=>rw[hd]at e;cases e
     |some d'=>rw[hd]at e;cases e
    ·rw[aP (by rw[ae];omega),bf]at e
     split at e<;>cases e
   ·unfold L2.start;simp only[aQ,ae,List.length_replicate];omega
   ·by_cases hn:n<ds.length
    ·rw[aJ (by simpa using hn),av]at e
     cases hd:ds[n]? with
     |none=>rw[hd]at e;cases e
     |some d'=>rw[hd]at e;cases e
    ·rw[aP (by rw[ae];omega),bf]at e
     split at e<;>cases e
  have gd:Gd C C H (ds.map Sl.dat++List.replicate (N.length-ps.length) Sl.no) (L2.start N vs) C H:=⟨dF.refl _,.refl sub,sx,λn es a e _=>by
   obtain⟨a',xs,h1,h2,h3,_⟩:=sx.own n es e;exfalso;by_cases hn:n<ds.length
   ·rw[aJ (by simpa using hn),av]at e
    cases hd:ds[n]? with
    |none=>rw[hd]at e;cases e
    |some d'=>rw[hd]at e;cases e
   ·rw[aP (by rw[ae];omega),bf]at e
    split at e<;>cases e⟩
  split at q
  ·rename_i d' hf;cases q;exact⟨C,_,_,gd,hf,λv C' H' ev i'=>k v C' H' ev.rn i'⟩
  ·rename_i δ' hf;cases q;exact⟨C,_,_,gd,hf,λσ' C' H' g'=>k .fO C' H' g'.ev.rn .fO⟩
  ·cases q
end DL
namespace DL
open PySem PySem.Spec PyProof.Rows L2
mutual
noncomputable def dz:D->D->Bool
 |.fO,.fO=>true
 |.bl a,.bl b=>a==b
 |.bl a,.int b=>(if a then 1 else 0)==b
 |.int a,.bl b=>a==(if b then 1 else 0)
 |.int a,.int b=>a==b
 |.str a,.str b=>a==b
 |.tup a,.tup b=>jK a b
 |.lst a,.lst b=>jK a b
 |_,_=>false
noncomputable def jK:cv->cv->Bool
 |[],[]=>true
 |a::as,b::bs=>dz a b&&jK as bs
 |_,_=>false
end
mutual
noncomputable def dI:D->Nat
 |.tup ds=>g7 ds+1
 |.lst ds=>g7 ds+1
 |_=>0
noncomputable def g7:cv->Nat
 |[]=>0
 |d::ds=>max (dI d) (g7 ds)
end
theorem iV:∀{ds:cv}{d:D},d∈ds->dI d<=g7 ds
 |e::r,d,h=>by
  unfold g7;rcases List.mem_cons.mp h with h|h
  ·subst h;omega
  ·have:=iV h;omega
mutual
theorem m5:∀d:D,dz d d=true
 |.fO=>by unfold dz;rfl
 |.bl b=>by unfold dz;simp
 |.int i=>by unfold dz;simp
 |.str x=>by unfold dz;simp
 |.tup ds=>by unfold dz;exact qI ds
 |.lst ds=>by unfold dz;exact qI ds
theorem qI:∀ds:cv,jK ds ds=true
 |[]=>by unfold jK;rfl
 |d::ds=>by unfold jK;rw[m5 d,qI ds];rfl
end
theorem jC:∀(as bs:cv),jK as bs=((List.range (min as.length bs.length)).all (λj=>dz (as.getD j .fO) (bs.getD j .fO))&&as.length==bs.length)
 |[],[]=>by unfold jK;rfl
 |[],b::bs=>by unfold jK;simp
 |a::as,[]=>by unfold jK;simp
 |a::as,b::bs=>by
  unfold jK;rw[jC as bs];have e:min (a::as).length (b::bs).length=min as.length bs.length+1:=by simp only[ax];omega
  rw[e,List.range_succ_eq_map,List.all_cons,List.all_map];simp only[ax,List.getD_cons_zero,Nat.add_left_inj,Nat.add_eq,Nat.add_zero,Bool.and_assoc]
  congr 1
  have e2:(as.length+1==bs.length+1)=(as.length==bs.length):=by
   rw[Bool.eq_iff_iff];simp
  rw[e2]
  congr 1
mutual
theorem Is.inj {C:Hp}:∀{v:V}{d e:D},Is C v d->Is C v e->d=e
 |_,_,_,.fO,.fO=>rfl
 |_,_,_,.bl _,.bl _=>rfl
 |_,_,_,.int _,.int _=>rfl
 |_,_,_,.str _,.str _=>rfl
 |_,_,_,.tup h l,.tup h' l'=>by
  rw[h]at h';cases h';rw[IsL.inj l l']
 |_,_,_,.lst h l,.lst h' l'=>by
  have:∀{a:cE}{xs ys:List V},Rd C a (.lst xs)->Rd C a (.lst ys)->xs=ys:=λ{a xs ys} p q=>by
   rcases p with p|⟨o,p⟩<;>rcases q with q|⟨o',q⟩<;>(rw[p]at q;cases q)<;>rfl
  cases this h h';rw[IsL.inj l l']
 |_,_,_,.tup h l,.lst h' l'=>by
  rcases h' with q|⟨o',q⟩<;>(rw[h]at q;cases q)
 |_,_,_,.lst h l,.tup h' l'=>by
  rcases h with q|⟨o',q⟩<;>(rw[h']at q;cases q)
theorem IsL.inj {C:Hp}:∀{vs:List V}{ds es:cv},IsL C vs ds->IsL C vs es->ds=es
 |_,_,_,.nil,.nil=>rfl
 |_,_,_,.cons h t,.cons h' t'=>by rw[Is.inj h h',IsL.inj t t']
end
section
variable {X:Cx}{pins:cm}{σ:L2.St}{C H:Hp}{s:cy}
theorem E7 (I:Inv X pins σ H s) (sub:dF C H):∀(n:Nat) (A:cC) (d e:D) (v w:V) (u z:cx),dI d<=n->A.units+n<cLine->Is C v d->Is C w e->RelV v u->RelV w z->SeqAt.EqAt A s u z (dz d e):=by
 intro n;induction n with
 |zero=>
  intro A d e v w u z hd hu iv iw ru rz;have gE:A.units<cLine:=by omega
  cases iv with
  |tup h l=>unfold dI at hd;omega
  |lst h l=>unfold dI at hd;omega
  |fO=>
   cases ru;cases iw with
   |tup h l=>cases rz;obtain⟨di,_,p,_⟩:=I.tuple (hO.of (K:=X.K) (sub _ _ h));unfold dz;exact SeqAt.EqAt.none_tuple p gE
   |lst h l=>cases rz;obtain⟨di,_,p,_⟩:=I.list (.inl (h.same sub));unfold dz;exact SeqAt.EqAt.none_list p.isList gE
   |fO=>cases rz;unfold dz;exact SeqAt.EqAt.same _
   |bl b=>cases rz;unfold dz;exact SeqAt.EqAt.none_bool b
   |int b=>obtain⟨t,rfl⟩:=rz;unfold dz;exact SeqAt.EqAt.none_int b t
   |str b=>obtain⟨t,rfl⟩:=rz;unfold dz;exact SeqAt.EqAt.none_str b t
  |bl a=>
   cases ru;cases iw with
   |tup h l=>cases rz;obtain⟨di,_,p,_⟩:=I.tuple (hO.of (K:=X.K) (sub _ _ h));unfold dz;exact SeqAt.EqAt.bool_tuple a p gE
   |lst h l=>cases rz;obtain⟨di,_,p,_⟩:=I.list (.inl (h.same sub));unfold dz;exact SeqAt.EqAt.bool_list a p.isList gE
   |fO=>cases rz;unfold dz;exact SeqAt.EqAt.bool_none a
   |bl b=>cases rz;unfold dz;exact SeqAt.EqAt.bool_bool a b
   |int b=>obtain⟨t,rfl⟩:=rz;unfold dz;exact SeqAt.EqAt.bool_int a b t
   |str b=>obtain⟨t,rfl⟩:=rz;unfold dz;exact SeqAt.EqAt.bool_str a b t
  |int a=>
   obtain⟨t',rfl⟩:=ru;cases iw with
   |tup h l=>cases rz;obtain⟨di,_,p,_⟩:=I.tuple (hO.of (K:=X.K) (sub _ _ h));unfold dz;exact SeqAt.EqAt.int_tuple a t' p gE
   |lst h l=>cases rz;obtain⟨di,_,p,_⟩:=I.list (.inl (h.same sub));unfold dz;exact SeqAt.EqAt.int_list a t' p.isList gE
   |fO=>cases rz;unfold dz;exact SeqAt.EqAt.int_none a t'
   |bl b=>cases rz;unfold dz;exact SeqAt.EqAt.int_bool a t' b
   |int b=>obtain⟨t,rfl⟩:=rz;unfold dz;exact SeqAt.EqAt.int_int a t' b t
   |str b=>obtain⟨t,rfl⟩:=rz;unfold dz;exact SeqAt.EqAt.int_str a t' b t
  |str a=>
   obtain⟨t',rfl⟩:=ru;cases iw with
   |tup h l=>cases rz;obtain⟨di,_,p,_⟩:=I.tuple (hO.of (K:=X.K) (sub _ _ h));unfold dz;exact SeqAt.EqAt.str_tuple a t' p gE
   |lst h l=>cases rz;obtain⟨di,_,p,_⟩:=I.list (.inl (h.same sub));unfold dz;exact SeqAt.EqAt.str_list a t' p.isList gE
   |fO=>cases rz;unfold dz;exact SeqAt.EqAt.str_none a t'
   |bl b=>cases rz;unfold dz;exact SeqAt.EqAt.str_bool a t' b
   |int b=>obtain⟨t,rfl⟩:=rz;unfold dz;exact SeqAt.EqAt.str_int a t' b t
   |str b=>obtain⟨t,rfl⟩:=rz;unfold dz;exact SeqAt.EqAt.str_str a t' b t
 |succ n ih=>
  intro A d e v w u z hd hu iv iw ru rz;have gE:A.units<cLine:=by omega
  have Lv:A.in1.units+n<cLine:=by show A.units+1+n<cLine;omega
  have items:∀{xs ys:List V}{ds es:cv}{di eM:cw},g7 ds<=n->IsL C xs ds->IsL C ys es->Vals xs di->Vals ys eM->
    ∀j (h1:j<di.toArray.size) (h2:j<eM.toArray.size),SeqAt.EqAt A.in1 s di.toArray[j] eM.toArray[j] (dz (ds.getD j .fO) (es.getD j .fO)):=λ{xs ys ds es di eM} hn l1 l2 r1 r2 j h1 h2=>by
   have xQ:j<di.length:=by simpa using h1
   have zB:j<eM.length:=by simpa using h2
   have g1:xs[j]? =some (xs[j]'(by rw[r1.length];exact xQ)):=ah _
   have g2:ys[j]? =some (ys[j]'(by rw[r2.length];exact zB)):=ah _
   obtain⟨u1,q1,k1⟩:=r1.get g1;obtain⟨u2,q2,k2⟩:=r2.get g2;obtain⟨d1,e1,i1⟩:=l1.get' g1;obtain⟨d2,e2,i2⟩:=l2.get' g2;have w1:di.toArray[j]=u1:=by
    rw[ah xQ]at q1
    simpa using aS q1
   have w2:eM.toArray[j]=u2:=by
    rw[ah zB]at q2
    simpa using aS q2
   rw[w1,w2,ak,ak,e1,e2];exact ih A.in1 d1 d2 _ _ u1 u2 (aB (iV (bh e1)) hn) Lv i1 i2 k1 k2
  cases iv with
  |fO=>exact ih A .fO e .fO w u z (by unfold dI;omega) (by omega) .fO iw ru rz
  |bl b=>exact ih A (.bl b) e (.bl b) w u z (by unfold dI;omega) (by omega) (.bl b) iw ru rz
  |int b=>exact ih A (.int b) e (.int b) w u z (by unfold dI;omega) (by omega) (.int b) iw ru rz
  |str b=>exact ih A (.str b) e (.str b) w u z (by unfold dI;omega) (by omega) (.str b) iw ru rz
  |@tup a xs ds h l=>
   cases ru;obtain⟨di,r1,p1,z1⟩:=I.tuple (hO.of (K:=X.K) (sub _ _ h));unfold dI at hd;cases iw with
   |fO=>cases rz;unfold dz;exact SeqAt.EqAt.tuple_none p1 gE
   |bl b=>cases rz;unfold dz;exact SeqAt.EqAt.tuple_bool b p1 gE
   |int b=>obtain⟨t,rfl⟩:=rz;unfold dz;exact SeqAt.EqAt.tuple_int b t p1 gE
   |str b=>obtain⟨t,rfl⟩:=rz;unfold dz;exact SeqAt.EqAt.tuple_str b t p1 gE
   |lst h2 l2=>cases rz;obtain⟨eM,_,p2,_⟩:=I.list (.inl (h2.same sub));unfold dz;exact SeqAt.EqAt.tuple_list p1 p2.isList gE
   |@tup b ys es h2 l2=>
    cases rz;by_cases BH:a=b
    ·subst BH;have e:=Is.inj (Is.tup h l) (Is.tup h2 l2);rw[<-e,m5];exact SeqAt.EqAt.same _
    ·obtain⟨eM,r2,p2,z2⟩:=I.tuple (hO.of (K:=X.K) (sub _ _ h2));have q:=SeqAt.RcAt.tuples p1 p2 gE (items (by omega) l l2 r1 r2)
     unfold dz;rw[jC];have e1:di.toArray.size=ds.length:=by rw[aq,<-r1.length,l.length]
     have e2:eM.toArray.size=es.length:=by rw[aq,<-r2.length,l2.length]
     rw[e1,e2]at q;exact SeqAt.EqAt.of_refs BH q
  |@lst a xs ds h l=>
   cases ru;obtain⟨di,r1,p1,z1⟩:=I.list (.inl (h.same sub));unfold dI at hd;cases iw with
   |fO=>cases rz;unfold dz;exact SeqAt.EqAt.list_none p1.isList gE
   |bl b=>cases rz;unfold dz;exact SeqAt.EqAt.list_bool b p1.isList gE
   |int b=>obtain⟨t,rfl⟩:=rz;unfold dz;exact SeqAt.EqAt.list_int b t p1.isList gE
   |str b=>obtain⟨t,rfl⟩:=rz;unfold dz;exact SeqAt.EqAt.list_str b t p1.isList gE
   |tup h2 l2=>cases rz;obtain⟨eM,_,p2,_⟩:=I.tuple (hO.of (K:=X.K) (sub _ _ h2));unfold dz;exact SeqAt.EqAt.list_tuple p1.isList p2 gE
   |@lst b ys es h2 l2=>
    cases rz;by_cases BH:a=b
    ·subst BH;have e:=Is.inj (Is.lst h l) (Is.lst h2 l2);rw[<-e,m5];exact SeqAt.EqAt.same _
    ·obtain⟨eM,r2,p2,z2⟩:=I.list (.inl (h2.same sub));have e1:di.toArray.size=ds.length:=by rw[aq,<-r1.length,l.length]
     have e2:eM.toArray.size=es.length:=by rw[aq,<-r2.length,l2.length]
     unfold dz;rw[jC];by_cases hl:ds.length=es.length
     ·have q:=SeqAt.RcAt.lists p1.isList p2.isList (by rw[e1,e2];exact hl) gE (items (by omega) l l2 r1 r2)
      rw[e1]at q;rw[<-hl,Nat.min_self,bO,Bool.and_true];exact SeqAt.EqAt.of_refs BH q
     ·have q:=SeqAt.RcAt.lists_lengths p1.isList p2.isList (by rw[e1,e2];simpa using hl) gE
      have e3:(ds.length==es.length)=false:=by simpa using hl
      rw[e3,Bool.and_false];exact SeqAt.EqAt.of_refs BH q
theorem pL (I:Inv X pins σ H s) (sub:dF C H) {A:cC}(hu:A.in1.units+30<cLine) {xs ys:List V}{ds es:cv}{di eM:cw}(hn:g7 ds<=30) (l1:IsL C xs ds) (l2:IsL C ys es) (r1:Vals xs di) (r2:Vals ys eM):
  ∀j (h1:j<di.toArray.size) (h2:j<eM.toArray.size),SeqAt.EqAt A.in1 s di.toArray[j] eM.toArray[j] (dz (ds.getD j .fO) (es.getD j .fO)):=λj h1 h2=>by
 have xQ:j<di.length:=by simpa using h1
 have zB:j<eM.length:=by simpa using h2
 have g1:xs[j]? =some (xs[j]'(by rw[r1.length];exact xQ)):=ah _
 have g2:ys[j]? =some (ys[j]'(by rw[r2.length];exact zB)):=ah _
 obtain⟨u1,q1,k1⟩:=r1.get g1;obtain⟨u2,q2,k2⟩:=r2.get g2;obtain⟨d1,e1,i1⟩:=l1.get' g1;obtain⟨d2,e2,i2⟩:=l2.get' g2;have w1:di.toArray[j]=u1:=by
  rw[ah xQ]at q1
  simpa using aS q1
 have w2:eM.toArray[j]=u2:=by
  rw[ah zB]at q2
  simpa using aS q2
 rw[w1,w2,ak,ak,e1,e2];exact E7 I sub 30 A.in1 d1 d2 _ _ u1 u2 (aB (iV (bh e1)) hn) hu i1 i2 k1 k2
theorem Lw (I:Inv X pins σ H s) (sub:dF C H) {A:cC}{d e:D}{v w:V}{u z:cx}(hd:dI d<=30) (hu:A.units+40<cLine) (iv:Is C v d) (iw:Is C w e) (ru:RelV v u) (rz:RelV w z):SeqAt.RcAt A s u z (dz d e):=by
 have gE:A.units<cLine:=by omega
 have Lv:A.in1.units+30<cLine:=by show A.units+1+30<cLine;omega
 cases iv with
 |fO=>
  cases ru;cases iw with
  |fO=>cases rz;unfold dz;exact SeqAt.RcAt.none_none
  |bl b=>cases rz;unfold dz;exact SeqAt.RcAt.none_bool b
  |int b=>obtain⟨t,rfl⟩:=rz;unfold dz;exact SeqAt.RcAt.none_int b t
  |str b=>obtain⟨t,rfl⟩:=rz;unfold dz;exact SeqAt.RcAt.none_str b t
  |@tup b ys es h2 l2=>cases rz;obtain⟨eM,r2,p2,z2⟩:=I.tuple (hO.of (K:=X.K) (sub _ _ h2));unfold dz;exact SeqAt.RcAt.none_tuple p2 gE
  |@lst b ys es h2 l2=>cases rz;obtain⟨eM,r2,p2,z2⟩:=I.list (.inl (h2.same sub));unfold dz;exact SeqAt.RcAt.none_list p2.isList gE
 |bl a=>
  cases ru;cases iw with
  |fO=>cases rz;unfold dz;exact SeqAt.RcAt.bool_none a
  |bl b=>cases rz;unfold dz;exact SeqAt.RcAt.bool_bool a b
  |int b=>obtain⟨t,rfl⟩:=rz;unfold dz;exact SeqAt.RcAt.bool_int a b t
  |str b=>obtain⟨t,rfl⟩:=rz;unfold dz;exact SeqAt.RcAt.bool_str a b t
  |@tup b ys es h2 l2=>cases rz;obtain⟨eM,r2,p2,z2⟩:=I.tuple (hO.of (K:=X.K) (sub _ _ h2));unfold dz;exact SeqAt.RcAt.bool_tuple a p2 gE
  |@lst b ys es h2 l2=>cases rz;obtain⟨eM,r2,p2,z2⟩:=I.list (.inl (h2.same sub));unfold dz;exact SeqAt.RcAt.bool_list a p2.isList gE
 |int a=>
  obtain⟨t',rfl⟩:=ru;cases iw with
  |fO=>cases rz;unfold dz;exact SeqAt.RcAt.int_none a t'
  |bl b=>cases rz;unfold dz;exact SeqAt.RcAt.int_bool a t' b
  |int b=>obtain⟨t,rfl⟩:=rz;unfold dz;exact SeqAt.RcAt.int_int a t' b t
  |str b=>obtain⟨t,rfl⟩:=rz;unfold dz;exact SeqAt.RcAt.int_str a t' b t
  |@tup b ys es h2 l2=>cases rz;obtain⟨eM,r2,p2,z2⟩:=I.tuple (hO.of (K:=X.K) (sub _ _ h2));unfold dz;exact SeqAt.RcAt.int_tuple a t' p2 gE
  |@lst b ys es h2 l2=>cases rz;obtain⟨eM,r2,p2,z2⟩:=I.list (.inl (h2.same sub));unfold dz;exact SeqAt.RcAt.int_list a t' p2.isList gE
 |str a=>
  obtain⟨t',rfl⟩:=ru;cases iw with
  |fO=>cases rz;unfold dz;exact SeqAt.RcAt.str_none a t'
  |bl b=>cases rz;unfold dz;exact SeqAt.RcAt.str_bool a t' b
  |int b=>obtain⟨t,rfl⟩:=rz;unfold dz;exact SeqAt.RcAt.str_int a t' b t
  |str b=>obtain⟨t,rfl⟩:=rz;unfold dz;exact SeqAt.RcAt.str_str a t' b t
  |@tup b ys es h2 l2=>cases rz;obtain⟨eM,r2,p2,z2⟩:=I.tuple (hO.of (K:=X.K) (sub _ _ h2));unfold dz;exact SeqAt.RcAt.str_tuple a t' p2 gE
  |@lst b ys es h2 l2=>cases rz;obtain⟨eM,r2,p2,z2⟩:=I.list (.inl (h2.same sub));unfold dz;exact SeqAt.RcAt.str_list a t' p2.isList gE
 |@tup a xs ds h l=>
  cases ru;obtain⟨di,r1,p1,z1⟩:=I.tuple (hO.of (K:=X.K) (sub _ _ h));unfold dI at hd;cases iw with
  |fO=>cases rz;unfold dz;exact SeqAt.RcAt.tuple_none p1 gE
  |bl b=>cases rz;unfold dz;exact SeqAt.RcAt.tuple_bool b p1 gE
  |int b=>obtain⟨t,rfl⟩:=rz;unfold dz;exact SeqAt.RcAt.tuple_int b t p1 gE
  |str b=>obtain⟨t,rfl⟩:=rz;unfold dz;exact SeqAt.RcAt.tuple_str b t p1 gE
  |@tup b ys es h2 l2=>
   cases rz;obtain⟨eM,r2,p2,z2⟩:=I.tuple (hO.of (K:=X.K) (sub _ _ h2));have q:=SeqAt.RcAt.tuples p1 p2 gE (pL I sub Lv (by omega) l l2 r1 r2)
   unfold dz;rw[jC];have e1:di.toArray.size=ds.length:=by rw[aq,<-r1.length,l.length]
   have e2:eM.toArray.size=es.length:=by rw[aq,<-r2.length,l2.length]
   rw[e1,e2]at q;exact q
  |@lst b ys es h2 l2=>cases rz;obtain⟨eM,r2,p2,z2⟩:=I.list (.inl (h2.same sub));unfold dz;exact SeqAt.RcAt.tuple_list p1 p2.isList gE
 |@lst a xs ds h l=>
  cases ru;obtain⟨di,r1,p1,z1⟩:=I.list (.inl (h.same sub));unfold dI at hd;cases iw with
  |fO=>cases rz;unfold dz;exact SeqAt.RcAt.list_none p1.isList gE
  |bl b=>cases rz;unfold dz;exact SeqAt.RcAt.list_bool b p1.isList gE
  |int b=>obtain⟨t,rfl⟩:=rz;unfold dz;exact SeqAt.RcAt.list_int b t p1.isList gE
  |str b=>obtain⟨t,rfl⟩:=rz;unfold dz;exact SeqAt.RcAt.list_str b t p1.isList gE
  |@tup b ys es h2 l2=>cases rz;obtain⟨eM,r2,p2,z2⟩:=I.tuple (hO.of (K:=X.K) (sub _ _ h2));unfold dz;exact SeqAt.RcAt.list_tuple p1.isList p2 gE
  |@lst b ys es h2 l2=>
   cases rz;obtain⟨eM,r2,p2,z2⟩:=I.list (.inl (h2.same sub));have e1:di.toArray.size=ds.length:=by rw[aq,<-r1.length,l.length]
   have e2:eM.toArray.size=es.length:=by rw[aq,<-r2.length,l2.length]
   unfold dz;rw[jC];by_cases hl:ds.length=es.length
   ·have q:=SeqAt.RcAt.lists p1.isList p2.isList (by rw[e1,e2];exact hl) gE (pL I sub Lv (by omega) l l2 r1 r2)
    rw[e1]at q;rw[<-hl,Nat.min_self,bO,Bool.and_true];exact q
   ·have q:=SeqAt.RcAt.lists_lengths p1.isList p2.isList (by rw[e1,e2];simpa using hl) gE
    have e3:(ds.length==es.length)=false:=by simpa using hl
    rw[e3,Bool.and_false];exact q
theorem Lx (I:Inv X pins σ H s) (sub:dF C H) {A:cC}{d e:D}{v w:V}{u z:cx}(hd:dI d<=30) (hu:A.units+40<cLine) (iv:Is C v d) (iw:Is C w e) (ru:RelV v u) (rz:RelV w z):SeqAt.RcNeAt A s u z (!(dz d e)):=by
 have gE:A.units<cLine:=by omega
 have Lv:A.in1.units+30<cLine:=by show A.units+1+30<cLine;omega
 cases iv with
 |fO=>
  cases ru;cases iw with
  |fO=>cases rz;unfold dz;exact SeqAt.RcNeAt.none_none
  |bl b=>cases rz;unfold dz;exact SeqAt.RcNeAt.none_bool b
  |int b=>obtain⟨t,rfl⟩:=rz;unfold dz;exact SeqAt.RcNeAt.none_int b t
  |str b=>obtain⟨t,rfl⟩:=rz;unfold dz;exact SeqAt.RcNeAt.none_str b t
  |@tup b ys es h2 l2=>cases rz;obtain⟨eM,r2,p2,z2⟩:=I.tuple (hO.of (K:=X.K) (sub _ _ h2));unfold dz;exact SeqAt.RcNeAt.none_tuple p2 gE
  |@lst b ys es h2 l2=>cases rz;obtain⟨eM,r2,p2,z2⟩:=I.list (.inl (h2.same sub));unfold dz;exact SeqAt.RcNeAt.none_list p2.isList gE
 |bl a=>
  cases ru;cases iw with
  |fO=>cases rz;unfold dz;exact SeqAt.RcNeAt.bool_none a
  |bl b=>cases rz;unfold dz;exact SeqAt.RcNeAt.bool_bool a b
  |int b=>obtain⟨t,rfl⟩:=rz;unfold dz;exact SeqAt.RcNeAt.bool_int a b t
  |str b=>obtain⟨t,rfl⟩:=rz;unfold dz;exact SeqAt.RcNeAt.bool_str a b t
  |@tup b ys es h2 l2=>cases rz;obtain⟨eM,r2,p2,z2⟩:=I.tuple (hO.of (K:=X.K) (sub _ _ h2));unfold dz;exact SeqAt.RcNeAt.bool_tuple a p2 gE
  |@lst b ys es h2 l2=>cases rz;obtain⟨eM,r2,p2,z2⟩:=I.list (.inl (h2.same sub));unfold dz;exact SeqAt.RcNeAt.bool_list a p2.isList gE
 |int a=>
  obtain⟨t',rfl⟩:=ru;cases iw with
  |fO=>cases rz;unfold dz;exact SeqAt.RcNeAt.int_none a t'
  |bl b=>cases rz;unfold dz;exact SeqAt.RcNeAt.int_bool a t' b
  |int b=>obtain⟨t,rfl⟩:=rz;unfold dz;exact SeqAt.RcNeAt.int_int a t' b t
  |str b=>obtain⟨t,rfl⟩:=rz;unfold dz;exact SeqAt.RcNeAt.int_str a t' b t
  |@tup b ys es h2 l2=>cases rz;obtain⟨eM,r2,p2,z2⟩:=I.tuple (hO.of (K:=X.K) (sub _ _ h2));unfold dz;exact SeqAt.RcNeAt.int_tuple a t' p2 gE
  |@lst b ys es h2 l2=>cases rz;obtain⟨eM,r2,p2,z2⟩:=I.list (.inl (h2.same sub));unfold dz;exact SeqAt.RcNeAt.int_list a t' p2.isList gE
 |str a=>
  obtain⟨t',rfl⟩:=ru;cases iw with
  |fO=>cases rz;unfold dz;exact SeqAt.RcNeAt.str_none a t'
  |bl b=>cases rz;unfold dz;exact SeqAt.RcNeAt.str_bool a t' b
  |int b=>obtain⟨t,rfl⟩:=rz;unfold dz;exact SeqAt.RcNeAt.str_int a t' b t
  |str b=>obtain⟨t,rfl⟩:=rz;unfold dz;exact SeqAt.RcNeAt.str_str a t' b t
  |@tup b ys es h2 l2=>cases rz;obtain⟨eM,r2,p2,z2⟩:=I.tuple (hO.of (K:=X.K) (sub _ _ h2));unfold dz;exact SeqAt.RcNeAt.str_tuple a t' p2 gE
  |@lst b ys es h2 l2=>cases rz;obtain⟨eM,r2,p2,z2⟩:=I.list (.inl (h2.same sub));unfold dz;exact SeqAt.RcNeAt.str_list a t' p2.isList gE
 |@tup a xs ds h l=>
  cases ru;obtain⟨di,r1,p1,z1⟩:=I.tuple (hO.of (K:=X.K) (sub _ _ h));unfold dI at hd;cases iw with
  |fO=>cases rz;unfold dz;exact SeqAt.RcNeAt.tuple_none p1 gE
  |bl b=>cases rz;unfold dz;exact SeqAt.RcNeAt.tuple_bool b p1 gE
  |int b=>obtain⟨t,rfl⟩:=rz;unfold dz;exact SeqAt.RcNeAt.tuple_int b t p1 gE
  |str b=>obtain⟨t,rfl⟩:=rz;unfold dz;exact SeqAt.RcNeAt.tuple_str b t p1 gE
  |@tup b ys es h2 l2=>
   cases rz;obtain⟨eM,r2,p2,z2⟩:=I.tuple (hO.of (K:=X.K) (sub _ _ h2));have q:=SeqAt.RcNeAt.tuples p1 p2 gE (pL I sub Lv (by omega) l l2 r1 r2)
   unfold dz;rw[jC];have e1:di.toArray.size=ds.length:=by rw[aq,<-r1.length,l.length]
   have e2:eM.toArray.size=es.length:=by rw[aq,<-r2.length,l2.length]
   rw[e1,e2]at q;exact q
  |@lst b ys es h2 l2=>cases rz;obtain⟨eM,r2,p2,z2⟩:=I.list (.inl (h2.same sub));unfold dz;exact SeqAt.RcNeAt.tuple_list p1 p2.isList gE
 |@lst a xs ds h l=>
  cases ru;obtain⟨di,r1,p1,z1⟩:=I.list (.inl (h.same sub));unfold dI at hd;cases iw with
  |fO=>cases rz;unfold dz;exact SeqAt.RcNeAt.list_none p1.isList gE
  |bl b=>cases rz;unfold dz;exact SeqAt.RcNeAt.list_bool b p1.isList gE
  |int b=>obtain⟨t,rfl⟩:=rz;unfold dz;exact SeqAt.RcNeAt.list_int b t p1.isList gE
  |str b=>obtain⟨t,rfl⟩:=rz;unfold dz;exact SeqAt.RcNeAt.list_str b t p1.isList gE
  |@tup b ys es h2 l2=>cases rz;obtain⟨eM,r2,p2,z2⟩:=I.tuple (hO.of (K:=X.K) (sub _ _ h2));unfold dz;exact SeqAt.RcNeAt.list_tuple p1.isList p2 gE
  |@lst b ys es h2 l2=>
   cases rz;obtain⟨eM,r2,p2,z2⟩:=I.list (.inl (h2.same sub));have e1:di.toArray.size=ds.length:=by rw[aq,<-r1.length,l.length]
   have e2:eM.toArray.size=es.length:=by rw[aq,<-r2.length,l2.length]
   unfold dz;rw[jC];by_cases hl:ds.length=es.length
   ·have q:=SeqAt.RcNeAt.lists p1.isList p2.isList (by rw[e1,e2];exact hl) gE (pL I sub Lv (by omega) l l2 r1 r2)
    rw[e1]at q;rw[<-hl,Nat.min_self,bO,Bool.and_true];exact q
   ·have q:=SeqAt.RcNeAt.lists_lengths p1.isList p2.isList (by rw[e1,e2];simpa using hl) gE
    have e3:(ds.length==es.length)=false:=by simpa using hl
    rw[e3,Bool.and_false];exact q
end
end DL
namespace DL
open PySem PySem.Spec PyProof.Rows L2
variable [Mem]
theorem qz.list {K:W.Frag}{C H:Hp}{v:V}{ds:cv}(s:dF C H) (h:qz C H v (.lst ds)):∃a xs,v=.ref a/\oE K H a xs/\IsL C xs ds:=by
 rcases h with h|⟨a,xs,es,h1,h2,h3,h4,h5⟩
 ·cases h with
  |lst h l=>exact⟨_,_,rfl,.inl (h.same s),l⟩
 ·cases h2;exact⟨a,xs,h1,oE.of h4,h5⟩
theorem qz.tup {K:W.Frag}{C H:Hp}{v:V}{ds:cv}(s:dF C H) (h:qz C H v (.tup ds)):∃a xs,v=.ref a/\hO K H a xs/\IsL C xs ds/\C a=some (.tup xs):=by
 rcases h with h|⟨a,xs,es,h1,h2,_⟩
 ·cases h with
  |tup h l=>exact⟨_,_,rfl,hO.of (s _ _ h),l,h⟩
 ·cases h2
theorem IsL.js {C:Hp}{xs:List V}{ds:cv}(l:IsL C xs ds) {i:Int}{d:D}(h:js ds i=some d):∃v,L2.js xs i=some v/\Is C v d:=by
 unfold L2.js at h ⊢;rw[l.length];cases hk:oX ds.length i with
 |none=>rw[hk]at h;cases h
 |some j=>
  rw[hk]at h;exact l.get h
noncomputable def mi:D->D->Option D
 |.lst ds,.int i=>js ds i
 |.tup ds,.int i=>js ds i
 |.str z,.int i=>if z.length<=1000000 then(js z.cps.toList i).map λc=>.str ⟨#[c]⟩else none
 |_,_=>none
section
variable {X:Cx}{a b c e o:cF}{pos:Pos}{f g h:cc}
theorem NL:JM (R1 X.K) mi:=λC H x y dx dy d Q s ix iy q k=>by
 unfold mi at q;split at q
 ·rename_i ds i;obtain⟨p,xs,rfl,hq,l⟩:=ix.list (K:=X.K) s;obtain⟨v,h1,h2⟩:=l.js q;exact .inl ⟨p,xs,i,v,rfl,iy.int,hq,h1,k v C H (.refl s) h2⟩
 ·rename_i ds i;obtain⟨p,xs,rfl,hq,l,_⟩:=ix.tup (K:=X.K) s;obtain⟨v,h1,h2⟩:=l.js q;exact .inr (.inl ⟨p,xs,i,v,rfl,iy.int,hq,h1,k v C H (.refl s) h2⟩)
 ·rename_i z i;split at q
  ·rename_i hz;cases hc:js z.cps.toList i with
   |none=>rw[hc]at q;cases q
   |some c=>
    rw[hc]at q;cases q;have:=ix.is (λ_ z=>by cases z)
    cases this;exact .inr (.inr ⟨z,i,c,rfl,iy.int,aB hz (by decide),hc,k _ C H (.refl s) (.str _)⟩)
  ·cases q
 ·cases q
theorem Ly (ha:PO X a f) (hb:PO X b g) (hs:nR b):PD X (.Subscript a b pos) (dA mi f g):=NF KY NL ha hb hs
noncomputable def o3 (d e:D):Option D:=if dI d<=30 then some (.bl (dz d e))else none
theorem qz.both {C H:Hp}{v:V}{d:D}(h:qz C H v d):∃C',dF C C'/\(dF C H->dF C' H)/\Is C' v d:=by
 rcases h with h|⟨a,xs,ds,rfl,rfl,h3,h4,h5⟩
 ·exact⟨C,dF.refl _,id,h⟩
 ·refine⟨upd C a (.lst xs),dW h3,λs b u q=>?_,.lst (.inl cR) (h5.mono (dW h3))⟩
  by_cases e:b=a
  ·subst e;rw[cR]at q;cases q;exact h4
  ·rw[cK e]at q;exact s b u q
theorem qz.two {C H:Hp}{v w:V}{d e:D}(s:dF C H) (h:qz C H v d) (h':qz C H w e):∃C',dF C' H/\Is C' v d/\Is C' w e:=by
 obtain⟨C1,a1,b1,i1⟩:=h.both;have s1:=b1 s;rcases h' with h'|⟨a,xs,ds,rfl,rfl,h3,h4,h5⟩
 ·exact⟨C1,s1,i1,h'.mono a1⟩
 ·cases q:C1 a with
  |none=>
   refine⟨upd C1 a (.lst xs),λb u z=>?_,i1.mono (dW q),.lst (.inl cR) ((h5.mono a1).mono (dW q))⟩
   by_cases e:b=a
   ·subst e;rw[cR]at z;cases z;exact h4
   ·rw[cK e]at z;exact s1 b u z
  |some u=>
   have:=s1 a u q;rw[h4]at this;cases this;exact⟨C1,s1,i1,.lst (.inl q) (h5.mono a1)⟩
theorem tw (hu:X.A.units+64<cLine):rS X .Eq o3:=by
 refine⟨λx y H Q=>∃C dx dy,dF C H/\Is C x dx/\Is C y dy/\dI dx<=30/\Q (.bl (dz dx dy)) H,?_,?_⟩
 ·rintro pins s σ H x y v u Q I rx ry ⟨C,dx,dy,sub,ix,iy,hd,q⟩
  have fin:EP X pins σ Q (.bool (dz dx dy)) s:=⟨.bl _,H,I,rfl,q⟩;exact Lw I sub hd (by omega) ix iy rx ry X.prog X.w _ _ fin
 ·intro C H x y dx dy d Q s ix iy q k;unfold o3 at q;split at q
  ·rename_i hd;cases q;obtain⟨C',s',i1,i2⟩:=qz.two s ix iy;exact⟨C',dx,dy,s',i1,i2,hd,k _ C H (.refl s) (.bl _)⟩
  ·cases q
noncomputable def Hl (d e:D):Option D:=if dI d<=30 then some (.bl (!(dz d e)))else none
theorem Iu (hu:X.A.units+64<cLine):rS X .NotEq Hl:=by
 refine⟨λx y H Q=>∃C dx dy,dF C H/\Is C x dx/\Is C y dy/\dI dx<=30/\Q (.bl (!(dz dx dy))) H,?_,?_⟩
 ·rintro pins s σ H x y v u Q I rx ry ⟨C,dx,dy,sub,ix,iy,hd,q⟩
  have fin:EP X pins σ Q (.bool (!(dz dx dy))) s:=⟨.bl _,H,I,rfl,q⟩;exact Lx I sub hd (by omega) ix iy rx ry X.prog X.w _ _ fin
 ·intro C H x y dx dy d Q s ix iy q k;unfold Hl at q;split at q
  ·rename_i hd;cases q;obtain⟨C',s',i1,i2⟩:=qz.two s ix iy;exact⟨C',dx,dy,s',i1,i2,hd,k _ C H (.refl s) (.bl _)⟩
  ·cases q
noncomputable def oH:D->Option (cv)
 |.lst ds=>some ds
 |.tup ds=>some ds
 |_=>none
noncomputable def memD (d:D) (ds:cv):Bool:=ds.any λe=>dz e d
noncomputable def Am (d e:D):Option D:=(oH e).bind λds=>if g7 ds<=30 then some (.bl (memD d ds))else none
noncomputable def yh (d e:D):Option D:=(oH e).bind λds=>if g7 ds<=30 then some (.bl (!(memD d ds)))else none
theorem pM {pins:cm}{σ:L2.St}{C H:Hp}{s:cy}(I:Inv X pins σ H s) (sub:dF C H) {A:cC}(hu:A.units+31<cLine) {d:D}{w:V}{z:cx}(iw:Is C w d) (rz:RelV w z):
  ∀{xs:List V}{ds:cv}{di:cw},g7 ds<=30->IsL C xs ds->Vals xs di->∃e:cx->Bool,(∀y∈di,SeqAt.EqAt A.in1 s y z (e y))/\di.any e=memD d ds:=λ{xs ds di} hn l r=>by
 classical
 have one:∀{v:V}{u:cx}{c:D},c∈ds->Is C v c->RelV v u->SeqAt.EqAt A.in1 s u z (dz c d):=λ{v u c} hc i ru=>
  E7 I sub 30 A.in1 c d v w u z (aB (iV hc) hn) (by show A.units+1+30<cLine;omega) i iw ru rz
 let e:cx->Bool:=λu=>if h:∃v c,c∈ds/\Is C v c/\RelV v u then dz h.choose_spec.choose d else false
 have he:∀{v u c},c∈ds->Is C v c->RelV v u->e u=dz c d:=λ{v u c} hc i ru=>by
  have hx:∃v c,c∈ds/\Is C v c/\RelV v u:=⟨v,c,hc,i,ru⟩;show(if h:∃v c,c∈ds/\Is C v c/\RelV v u then dz h.choose_spec.choose d else false)=_
  rw[dif_pos hx];obtain⟨h1,h2,h3⟩:=hx.choose_spec.choose_spec;have ev:hx.choose=v:=h3.inj ru;have ec:hx.choose_spec.choose=c:=by
   have zB:Is C v hx.choose_spec.choose:=by rw[<-ev];exact h2
   exact zB.inj i
  rw[ec]
 refine⟨e,λy hy=>?_,?_⟩
 ·obtain⟨j,hj,ej⟩:=List.getElem_of_mem hy;have g1:xs[j]? =some (xs[j]'(by rw[r.length];exact hj)):=ah _
  obtain⟨u1,q1,k1⟩:=r.get g1;obtain⟨c,e1,i1⟩:=l.get' g1;have hc:=bh e1;rw[ah hj]at q1;have eu:u1=y:=by rw[<-ej];exact(aS q1).symm
  subst eu;rw[he hc i1 k1];exact one hc i1 k1
 ·have aux:∀{xs:List V}{es:cv}{di:cw},(∀c∈es,c∈ds)->IsL C xs es->Vals xs di->di.any e=es.any λc=>dz c d:=by
   intro xs es di hs l;induction es generalizing xs di with
   |nil=>cases l;intro r;cases r;rfl
   |cons c es ih=>
    intro r;cases l with
    |cons i l=>
     cases r with
     |cons rr r=>
      rw[bG,bG,he (hs c af) i rr,ih (λc hc=>hs c (ai _ hc)) l r]
  exact aux (λc hc=>hc) l r
theorem Lz (hu:X.A.units+64<cLine):rS X .In Am:=by
 refine⟨λx y H Q=>∃C dx ds,dF C H/\Is C x dx/\(Is C y (.lst ds)\/Is C y (.tup ds))/\g7 ds<=30/\Q (.bl (memD dx ds)) H,?_,?_⟩
 ·rintro pins s σ H x y v u Q I rx ry ⟨C,dx,ds,sub,ix,iy,hd,q⟩
  rcases iy with iy|iy
  ·cases iy with
   |lst h l=>
    cases ry;obtain⟨di,r,pl,hz⟩:=I.list (.inl (h.same sub));obtain⟨e,h1,h2⟩:=pM I sub (A:=X.A) (by omega) ix rx hd l r
    refine SeqAt.in_listAt e pl.isList (λw hw=>h1 w (by simpa using hw)) ⟨.bl _,H,I,rfl,?_⟩
    rw[show di.toArray.any e=di.any e by simp,h2]
    exact q
  ·cases iy with
   |tup h l=>
    cases ry;obtain⟨di,r,pl,hz⟩:=I.tuple (hO.of (K:=X.K) (sub _ _ h));obtain⟨e,h1,h2⟩:=pM I sub (A:=X.A) (by omega) ix rx hd l r
    refine SeqAt.in_tupleAt e pl (λw hw=>h1 w (by simpa using hw)) ⟨.bl _,H,I,rfl,?_⟩
    rw[show di.toArray.any e=di.any e by simp,h2]
    exact q
 ·intro C H x y dx dy d Q s ix iy q k;unfold Am at q;cases hs:oH dy with
  |none=>rw[hs]at q;cases q
  |some ds=>
   rw[hs]at q;simp only[ao]at q;split at q
   ·rename_i hd;cases q;obtain⟨C',s',i1,i2⟩:=qz.two s ix iy;refine⟨C',dx,ds,s',i1,?_,hd,k _ C H (.refl s) (.bl _)⟩;unfold oH at hs;split at hs
    ·cases hs;exact .inl i2
    ·cases hs;exact .inr i2
    ·cases hs
   ·cases q
theorem BI (hu:X.A.units+64<cLine):rS X .NotIn yh:=by
 refine⟨λx y H Q=>∃C dx ds,dF C H/\Is C x dx/\(Is C y (.lst ds)\/Is C y (.tup ds))/\g7 ds<=30/\Q (.bl (!(memD dx ds))) H,?_,?_⟩
 ·rintro pins s σ H x y v u Q I rx ry ⟨C,dx,ds,sub,ix,iy,hd,q⟩
  rcases iy with iy|iy
  ·cases iy with
   |lst h l=>
    cases ry;obtain⟨di,r,pl,hz⟩:=I.list (.inl (h.same sub));obtain⟨e,h1,h2⟩:=pM I sub (A:=X.A) (by omega) ix rx hd l r
    refine SeqAt.notIn_listAt e pl.isList (λw hw=>h1 w (by simpa using hw)) ⟨.bl _,H,I,rfl,?_⟩
    rw[show di.toArray.any e=di.any e by simp,h2]
    exact q
  ·cases iy with
   |tup h l=>
    cases ry;obtain⟨di,r,pl,hz⟩:=I.tuple (hO.of (K:=X.K) (sub _ _ h));obtain⟨e,h1,h2⟩:=pM I sub (A:=X.A) (by omega) ix rx hd l r
    refine SeqAt.notIn_tupleAt e pl (λw hw=>h1 w (by simpa using hw)) ⟨.bl _,H,I,rfl,?_⟩
    rw[show di.toArray.any e=di.any e by simp,h2]
    exact q
 ·intro C H x y dx dy d Q s ix iy q k;unfold yh at q;cases hs:oH dy with
  |none=>rw[hs]at q;cases q
  |some ds=>
   rw[hs]at q;simp only[ao]at q;split at q
   ·rename_i hd;cases q;obtain⟨C',s',i1,i2⟩:=qz.two s ix iy;refine⟨C',dx,ds,s',i1,?_,hd,k _ C H (.refl s) (.bl _)⟩;unfold oH at hs;split at hs
    ·cases hs;exact .inl i2
    ·cases hs;exact .inr i2
    ·cases hs
   ·cases q
noncomputable def intsOf:cv->Option (cp)
 |[]=>some []
 |.int i::r=>(intsOf r).map λns=>i::ns
 |_=>none
omit [Mem] in
theorem gu:∀{ds:cv}{ns:cp},intsOf ds=some ns->ds=ns.map D.int
 |[],_,h=>by cases h;rfl
 |.int i::r,ns,h=>by
  unfold intsOf at h;cases hr:intsOf r with
  |none=>rw[hr]at h;cases h
  |some ms=>rw[hr]at h;cases h;rw[gu hr];rfl
omit [Mem] in
theorem ip (ns:cp):intsOf (ns.map D.int)=some ns:=by
 induction ns with
 |nil=>rfl
 |cons n r ih=>show(intsOf (r.map D.int)).map _=_;rw[ih];rfl
noncomputable def Pj:D->D->Option D
 |.int i,.int j=>some (.bl (decide (i<j)))
 |.tup a,.tup b=>(intsOf a).bind λns=>(intsOf b).map λms=>.bl (HT.lexLt ns ms)
 |_,_=>none
theorem NM (hu:X.A.units+64<cLine):rS X .Lt Pj:=by
 refine⟨_,MY.or (KS (by omega)),?_⟩
 intro C H x y dx dy d Q s ix iy q k;unfold Pj at q;split at q
 ·rename_i i j;cases q;exact .inl ⟨i,j,ix.int,iy.int,k _ C H (.refl s) (.bl _)⟩
 ·rename_i a b;cases ha:intsOf a with
  |none=>rw[ha]at q;cases q
  |some ns=>
   cases hb:intsOf b with
   |none=>rw[ha,hb]at q;cases q
   |some ms=>
    rw[ha,hb]at q;cases q;obtain⟨p,xs,rfl,h1,l1,_⟩:=ix.tup (K:=X.K) s;obtain⟨p',ys,rfl,h2,l2,_⟩:=iy.tup (K:=X.K) s;rw[gu ha]at l1;rw[gu hb]at l2;cases l1.kR;cases l2.kR;exact .inr ⟨p,p',ns,ms,rfl,rfl,h1,h2,k _ C H (.refl s) (.bl _)⟩
 ·cases q
noncomputable def lB:cg
 |[.lst ds]=>some (.int ds.length)
 |[.tup ds]=>some (.int ds.length)
 |[.str z]=>if z.length<=1000000 then some (.int z.length)else none
 |_=>none
theorem uX.one {C H:Hp}{vs:List V}{d:D}(h:uX C H vs [d]):∃v,vs=[v]/\qz C H v d:=by
 cases h with|cons h t=>cases t;exact⟨_,rfl,h⟩
theorem uX.two {C H:Hp}{vs:List V}{d e:D}(h:uX C H vs [d,e]):∃v w,vs=[v,w]/\qz C H v d/\qz C H w e:=by
 cases h with|cons h t=>cases t with|cons h2 t=>cases t;exact⟨_,_,rfl,h,h2⟩
theorem vH:oG X (.builtin "len") lB:=by
 refine⟨_,wD.or wF,?_⟩;intro C H vs ds d Q s i q k;unfold lB at q;split at q
 ·cases q;obtain⟨v,rfl,j⟩:=i.one;obtain⟨p,xs,rfl,hq,l⟩:=j.list (K:=X.K) s;exact .inl ⟨p,xs,rfl,.inl hq,by rw[l.length];exact k _ C H (.refl s) (.int _)⟩
 ·cases q;obtain⟨v,rfl,j⟩:=i.one;obtain⟨p,xs,rfl,hq,l,_⟩:=j.tup (K:=X.K) s;exact .inl ⟨p,xs,rfl,.inr hq,by rw[l.length];exact k _ C H (.refl s) (.int _)⟩
 ·split at q
  ·rename_i hz;cases q;obtain⟨v,rfl,j⟩:=i.one;have:=j.is (λ_ z=>by cases z);cases this
   exact .inr ⟨_,rfl,aB hz (by decide),k _ C H (.refl s) (.int _)⟩
  ·cases q
 ·cases q
noncomputable def iN:cg
 |[.lst ds]=>some (.tup ds)
 |[.tup ds]=>some (.tup ds)
 |_=>none
theorem gB:oG X (.type "tuple") iN:=by
 refine⟨_,uV,?_⟩;intro C H vs ds d Q s i q k;unfold iN at q;split at q
 ·cases q;obtain⟨v,rfl,j⟩:=i.one;obtain⟨p,xs,rfl,hq,l⟩:=j.list (K:=X.K) s;exact⟨p,xs,rfl,.inl ⟨hq,λt ht=>k _ _ _ (.new s ht) (.tup cR (l.mono (dW (s.free ht))))⟩⟩
 ·cases q;obtain⟨v,rfl,j⟩:=i.one;obtain⟨p,xs,rfl,hq,l,hc⟩:=j.tup (K:=X.K) s;exact⟨p,xs,rfl,.inr ⟨hq,k _ C H (.refl s) (.tup hc l)⟩⟩
 ·cases q
noncomputable def E8:cv->Option (cv)
 |[.lst ds]=>some ds
 |[.tup ds]=>some ds
 |_=>none
theorem LA:tm X (.type "list") E8:=by
 refine⟨_,wG,?_⟩;intro C H vs ds d Q s i q k;unfold E8 at q;split at q
 ·cases q;obtain⟨v,rfl,j⟩:=i.one;obtain⟨p,xs,rfl,hq,l⟩:=j.list (K:=X.K) s;exact⟨p,xs,rfl,.inl hq,λt ht=>k t xs C _ (.gi s ht) ht (s.free ht) cR l⟩
 ·cases q;obtain⟨v,rfl,j⟩:=i.one;obtain⟨p,xs,rfl,hq,l,hc⟩:=j.tup (K:=X.K) s;exact⟨p,xs,rfl,.inr hq,λt ht=>k t xs C _ (.gi s ht) ht (s.free ht) cR l⟩
 ·cases q
noncomputable def yi:cg
 |[.int i,.int j]=>some (.int (if j<i then j else i))
 |_=>none
theorem E9 (hc:X.calm=true):oG X (.builtin "min") yi:=by
 refine⟨_,CI hc,?_⟩;intro C H vs ds d Q s i q k;unfold yi at q;split at q
 ·rename_i i' j';cases q;obtain⟨v,w,rfl,i1,i2⟩:=i.two;exact⟨i',j',by rw[i1.int,i2.int],k _ C H (.refl s) (.int _)⟩
 ·cases q
end
end DL
namespace DL
open PySem PySem.Spec PyProof.Rows L2
variable [Mem]
omit [Mem] in
theorem fE:bootBuiltins "tuple"=some (.type "tuple"):=by decide +kernel
omit [Mem] in
theorem BJ:bootBuiltins "list"=some (.type "list"):=by decide +kernel
omit [Mem] in
theorem qJ:bootBuiltins "len"=some (.builtin "len"):=by decide +kernel
omit [Mem] in
theorem Fb:bootBuiltins "all"=some (.builtin "all"):=by decide +kernel
omit [Mem] in
theorem An:bootBuiltins "min"=some (.builtin "min"):=by decide +kernel
omit [Mem] in
theorem iu:bootBuiltins "sorted"=some (.builtin "sorted"):=by decide +kernel
section
variable {X:Cx}{a b c e o:cF}{pos p p2:Pos}{f g h:cc}
noncomputable def cutD (ds:cv) (lo hi:Option Int):cv:=(ds.drop (HT.iP ds.length 0 lo)).take (HT.iP ds.length ds.length hi-HT.iP ds.length 0 lo)
noncomputable def NN:dD->Option (Option Int):=λ_=>some none
noncomputable def Di (f:cc):dD->Option (Option Int):=λδ=>match f δ with|some (.int i)=>some (some i)|_=>none
noncomputable def tP (f:dD->Option (Option Int)):TO:=λσ H Q=>∃C δ o,Sx δ σ C H/\f δ=some o/\∀C' H',Ev C H C' H'->Q o H'
omit [Mem] in
theorem _root_.L2.PO.imp {X:Cx}{e:Option cF}{t t':TO}(h:L2.PO X e t) (m:∀σ H Q,t' σ H Q->t σ H Q):L2.PO X e t':=λpins s σ H Q I q=>h pins s σ H Q I (m σ H Q q)
theorem NO:L2.PO X none (tP NN):=HK.imp λσ H Q ⟨C,δ,o,x,q,k⟩=>by cases q;exact k C H (.refl x.sub)
theorem LB (h:PO X e f):L2.PO X (some e) (tP (Di f)):=(HL h).imp λσ H Q ⟨C,δ,o,x,q,k⟩=>by
 unfold Di at q;split at q
 ·rename_i i hf;cases q;exact⟨C,δ,_,x,hf,λv C' H' ev i'=>⟨i,i'.int,k C' H' ev⟩⟩
 ·cases q
theorem IsL.cut {C:Hp}{xs:List V}{ds:cv}(l:IsL C xs ds) (lo hi:Option Int):IsL C (CN xs lo hi) (cutD ds lo hi):=by
 unfold CN cutD;rw[l.length];exact(l.drop _).take _
theorem yj (hc:X.calm=true):hU X (.builtin "all") (λxs H Q=>∃(p:cE) (bs:List Bool),xs=[.ref p]/\oE X.K H p (bs.map V.bl)/\Q (.bl (bs.all id)) H):=by
 intro pins s σ H xs us Q I r h;obtain⟨p,bs,rfl,hq,q⟩:=h;obtain⟨u,rfl,r1⟩:=vals1 r;cases r1;obtain⟨di,rv,pl,hz⟩:=I.list hq;have eP:p<s.heap.objs.size:=by obtain⟨o,n,e,_⟩:=pl;exact az e
 have hlen:=rv.length;rw[ae]at hlen;have NP:∀(i:Nat) (v:cx),di.toArray[i]? =some v->v=.bool (bs.getD i false):=λi v hv=>by
  have HA:di[i]? =some v:=by simpa using hv
  have hi:i<di.length:=(List.getElem?_eq_some_iff.mp HA).1;have g1:(bs.map V.bl)[i]? =some (.bl (bs.getD i false)):=by
   rw[av,ah (by omega),ak,ah (by omega)];rfl
  obtain⟨w,h1,h2⟩:=rv.get g1;rw[HA]at h1;cases h1;exact h2
 refine call_all_walk (wpAny_pyIter_list pl.isList ⟨s.heap.objs.size,_,_,_,_,_,λi=>bs.getD i false,rfl,Walks.list (A:=X.A.in1) (I.ok.hd hc) s.heap.objs.size p (aD eP) di.toArray,⟨⟨_,ay _ rfl,rfl,rfl⟩,?_⟩,λi v s' Q' E' hv hQ=>?_,λh' tk kk=>?_⟩)
 ·obtain⟨o,n,e,h1,h2,h3⟩:=pl;exact⟨o,ag _ e,h1,n,h3⟩
 ·rw[NP i v hv];exact bR hQ
 ·have I1:L2.Inv X pins σ H {s with heap:=s.heap.push {cls:=.type "list_iterator",data:=.fields #[.ref p,.int 0 0]}}:=I.kept (t':=s.toks) λb o e=>ag _ e
  obtain⟨f0,f1,f2,f3,f4,f5⟩:=I.Eo (H':=H) (au _) (I.fC.fresh (au _));have I2:=I1.turned (t':=tk) (h':=h') (it:=s.heap.objs.size) (λb o hb e=>kk b o (by simpa using hb) e) f0 f1 f3 f4 f5
  refine⟨.bl (bs.all id),H,I2,?_,q⟩;show Value.bool _=Value.bool _
  congr 1
  rw[aq,<-hlen];clear NP hlen;rw[Bool.eq_iff_iff];simp only[List.all_eq_true,List.mem_range,id];constructor
  ·intro h b hb;obtain⟨i,hi,e⟩:=List.getElem_of_mem hb;have:=h i hi;rw[ak,ah hi]at this;rw[<-e];exact this
  ·intro h i hi;rw[ak,ah hi];exact h _ (List.getElem_mem hi)
noncomputable def lC:cv->Option (List Bool)
 |[]=>some []
 |.bl i::r=>(lC r).map λns=>i::ns
 |_=>none
omit [Mem] in
theorem tE:∀{ds:cv}{ns:List Bool},lC ds=some ns->ds=ns.map D.bl
 |[],_,h=>by cases h;rfl
 |.bl i::r,ns,h=>by
  unfold lC at h;cases hr:lC r with
  |none=>rw[hr]at h;cases h
  |some ms=>rw[hr]at h;cases h;rw[tE hr];rfl
omit [Mem] in
theorem Dj (ns:List Bool):lC (ns.map D.bl)=some ns:=by
 induction ns with
 |nil=>rfl
 |cons n r ih=>show(lC (r.map D.bl)).map _=_;rw[ih];rfl
noncomputable def Fc:cg
 |[.lst ds]=>(lC ds).map λbs=>.bl (bs.all id)
 |_=>none
theorem JT (hc:X.calm=true):oG X (.builtin "all") Fc:=by
 refine⟨_,yj hc,?_⟩;intro C H vs ds d Q s i q k;unfold Fc at q;split at q
 ·rename_i es;cases hb:lC es with
  |none=>rw[hb]at q;cases q
  |some bs=>
   rw[hb]at q;cases q;obtain⟨v,rfl,j⟩:=i.one;obtain⟨p,xs,rfl,hq,l⟩:=j.list (K:=X.K) s;rw[tE hb]at l;cases l.Ac;exact⟨p,bs,rfl,hq,k _ C H (.refl s) (.bl _)⟩
 ·cases q
theorem Dk {ta:TA}(hg:Gl X "range") (hm:X.mg "range"=none) (ha:PA X [a] ta) (hs:starEach [a] X.env=[(false,eval a X.env)]:=by exact eB rfl):
  PE X (.Call (.Name "range" p) [a] [] pos) (λσ H Q=>ta σ H λvs H1=>∃j:Int,vs=[.int j]/\∀t,H1 t=none->Q (.ref t) (upd H1 t (.Jt 0 j))):=by
 intro pins s σ H Q I h;refine Call_ (oV I hg hm boot_range (PyProof.Rows.callWith_type1 (gM (ha pos pins s σ H _ I h) λus s1 ⟨vs,H1,I1,r1,q1⟩=>?_) hs rfl))
 obtain⟨j,e,q⟩:=q1;subst e;obtain⟨u,rfl,t,rfl⟩:=vals1 r1;refine call_range_1 ⟨.ref s1.heap.objs.size,_,I1.laid (o:=.Jt 0 j) (λb o e=>ag _ e) (au _) ?_,rfl,q _ (I1.fC.fresh (au _))⟩
 exact⟨_,_,_,ay _ rfl⟩
theorem uZ {n:Nat}:∀(di:cw) (lo:Int),di.length=n->(∀(j:Nat) (v:cx),di[j]? =some v->∃t,v=Value.int (lo+(j:Int)) t)->Vals ((dP lo n).map V.int) di:=by
 induction n with
 |zero=>intro di lo hl _;cases di with|nil=>exact .nil|cons _ _=>simp at hl
 |succ n ih=>
  intro di lo hl h;cases di with
  |nil=>simp at hl
  |cons v r=>
   refine .cons ?_ (ih r (lo+1) (by simpa using hl) λj w hw=>?_)
   ·obtain⟨t,e⟩:=h 0 v rfl;exact⟨t,by rw[e];simp⟩
   ·obtain⟨t,e⟩:=h (j+1) w (by simpa using hw)
    exact⟨t,by rw[e];congr 1;omega⟩
theorem u0 (hc:X.calm=true):hU X (.type "list") (λxs H Q=>∃(p:cE) (hi:Int),xs=[.ref p]/\H p=some (.Jt 0 hi)/\hi<1000000/\-1000000<hi/\∀l,H l=none->Q (.ref l) (upd H l (.lst ((dP 0 hi.toNat).map V.int)))):=by
 intro pins s σ H xs us Q I r h;obtain⟨p,hi,rfl,hp,h1,h2,q⟩:=h;obtain⟨u,rfl,rx⟩:=vals1 r;cases rx;obtain⟨t,u,v,e⟩:=I.fC p _ hp;refine call_list_range (n:=hi.toNat) (I.ok.hd hc) e (small_one (by omega) (by omega) (by omega) (by omega)) ?_ (by omega) λh' tk jU c' kp e' it=>?_
 ·rw[rangeSize_one];split<;>omega
 ·refine⟨.ref s.heap.objs.size,_,I.laid (t':=tk) kp (au _) (show gA X.prog X.w _ h' _ (.lst ((dP 0 hi.toNat).map V.int))from⟨?_,jU.toList,c',?_,by simpa using e'⟩),rfl,q _ (I.fC.fresh (au _))⟩
  ·rw[ae,eC];exact bg (si (by omega))
  ·refine uZ jU.toList 0 (by simpa using it.1) λj v hv=>?_
   obtain⟨t,e⟩:=it.2 j v (by simpa using hv)
   exact⟨t,by rw[e];congr 1;omega⟩
theorem wQ {f:bZ}{p' pos':Pos}(hc:X.calm=true) (hg:Gl X "list") (hm:X.mg "list"=none) (QC:Gl X "range") (BK:X.mg "range"=none) (ha:Ec X [a] f) (hs:starEach [a] X.env=[(false,eval a X.env)]:=by exact eB rfl)
  (he:starEach [.Call (.Name "range" p') [a] [] pos'] X.env=(false,eval (.Call (.Name "range" p') [a] [] pos') X.env)::starEach [] X.env:=by exact eB rfl) (i9:(backTo pos (starEach [] X.env)).any (·.1)=false:=by exact eI rfl):
  PF X (.Call (.Name "list" p) [.Call (.Name "range" p') [a] [] pos'] [] pos) (zD f):=
 (qC (u0 hc) hg hm BJ (pC (Dk QC BK ha hs) sQ he) (by decide) (by decide) he i9).imp λσ H Q ⟨C,δ,ds,x,q,k⟩=>by
  unfold zD at q;split at q
  ·rename_i j hf;split at q
   ·rename_i hj;cases q;refine⟨C,δ,_,x,hf,λvs C' H' ev i=>?_⟩
    cases i with
    |cons i1 i2=>
     cases i2;cases i1;refine⟨j,rfl,λt ht=>⟨t,j,rfl,cR,hj.1,hj.2,λl hl=>?_⟩⟩
     have e1:=Ev.gi (o:=HO.Jt 0 j) ev.s ht;exact k l _ C' _ ((ev.trans e1).trans (.gi e1.s hl)) (ev.free (e1.free hl)) (ev.s.free (e1.free hl)) cR (.ints _)
   ·cases q
  ·cases q
end
end DL
namespace So
open PySem PySem.W PyProof.Rows
noncomputable def lr {α:Type}(n:Nat) (P:α->Prop):KasT α->Prop
 |.ret a=>P a
 |.ask i j k=>i<n/\j<n/\∀b,lr n P (k b)
theorem lr.bind {α β:Type}{n:Nat}{P:α->Prop}{R:β->Prop}{f:α->KasT β}(hf:∀a,P a->lr n R (f a)):∀{t:KasT α},lr n P t->lr n R (t.bind f)
 |.ret a,h=>hf a h
 |.ask i j k,h=>⟨h.1,h.2.1,λb=>lr.bind hf (h.2.2 b)⟩
def Al (p:Array Nat) (n:Nat):Prop:=0<n/\∀x∈p,x<n
theorem Al.at {p:Array Nat}{n:Nat}(h:Al p n) (i:Nat):p.getD i 0<n:=by
 rw[aT];cases e:p[i]? with
 |none=>exact h.1
 |some x=>exact h.2 x (Array.mem_of_getElem? e)
theorem Al.perm {p q:Array Nat}{n:Nat}(h:Al p n) (e:q.Perm p):Al q n:=⟨h.1,λx hx=>h.2 x (e.mem_iff.mp hx)⟩
theorem wR {p:Array Nat}{n:Nat}(h:Al p n):∀(f m:Nat),lr n (λ_=>True) (kas_asc p f m)
 |0,_=>trivial
 |f+1,m=>⟨h.at _,h.at _,λb=>by
  cases b with
  |true=>exact trivial
  |false=>exact wR h f (m+1)⟩
theorem pN {n:Nat}:∀(f:Nat) (p:Array Nat) (m q:Nat),Al p n->lr n (λr=>Al r.1 n) (kas_desc f p m q)
 |0,_,_,_,h=>h
 |f+1,p,m,q,h=>⟨h.at _,h.at _,λb=>by
  cases b with
  |true=>
   show lr n _ (if q>0 then _ else _)
   split
   ·exact pN f _ _ _ (h.perm (hV _ _ _))
   ·exact pN f _ _ _ h
  |false=>exact⟨h.at _,h.at _,λb=>by
    cases b with
    |true=>exact h
    |false=>exact pN f _ _ _ h⟩⟩
theorem vI {n m k:Nat}{p:Array Nat}(h:Al p n):lr n (λr=>Al r.2 n) (kas_tail3 m k p):=
 lr.bind (n:=n) (R:=λr:Nat×Array Nat=>Al r.2 n) (P:=λ_=>True) (f:=λm'=>KasT.ret (m',kas_rev p 0 m)) (λ_ _=>(h.perm (hV _ _ _):Al (kas_rev p 0 m) n)) (wR (h.perm (hV _ _ _)) _ _)
theorem pO {n m k:Nat}{p:Array Nat}(h:Al p n):lr n (λr=>Al r.2 n) (kas_descPart m k p):=
 lr.bind (λr hr=>by
  split
  ·exact vI (hr.perm (hV _ _ _))
  ·exact vI hr) (pN _ _ _ _ h)
theorem Dl {n k:Nat}{p:Array Nat}(h:Al p n):lr n (λr=>Al r.2 n) (kas_count k p):=
 lr.bind (λm _=>by
  split
  ·exact h
  ·split
   ·exact⟨h.at _,h.at _,λb=>by
     cases b with
     |true=>exact h
     |false=>exact pO (h.perm (hV _ _ _))⟩
   ·exact pO h) (wR h _ _)
theorem qK {n k:Nat}{p:Array Nat}(h:Al p n):∀(f l r:Nat),lr n (λ_=>True) (kas_place p k f l r)
 |0,_,_=>trivial
 |f+1,l,r=>by
  unfold kas_place;split
  ·exact trivial
  ·exact⟨h.at _,h.at _,λb=>by
    cases b with
    |true=>exact qK h f _ _
    |false=>exact qK h f _ _⟩
theorem BL {n:Nat}:∀(f:Nat) (p:Array Nat) (k:Nat),Al p n->lr n (λr=>Al r n) (kas_bin f p k)
 |0,_,_,h=>h
 |f+1,p,k,h=>lr.bind (λl _=>BL f _ _ (h.perm (bubble_perm _ _ _))) (qK h _ _ _)
theorem tG {n:Nat}(hn:0<n):lr n (λr=>Al r n) (kas_sort n):=
 lr.bind (λr hr=>by
  split
  ·exact BL _ _ _ hr
  ·exact hr) (Dl ⟨hn,λx hx=>by simpa using hx⟩)
theorem nT {α:Type}{n:Nat}{P:α->Prop}{cmp:Nat->Nat->(Bool->cy->Prop)->cy->Prop}{lt:Nat->Nat->Bool}{s:cy}(hc:∀i j (Q:Bool->cy->Prop),i<n->j<n->Q (lt i j) s->cmp i j Q s) {Q:α->cy->Prop}:
  ∀(t:KasT α),lr n P t->Q (gN lt t) s->t.kasWp cmp Q s
 |.ret _,_,h=>h
 |.ask i j k,a,h=>hc i j _ a.1 a.2.1 (nT hc (k (lt i j)) (a.2.2 _) h)
end So
namespace HT
theorem mj:∀a:cp,lexLt a a=false
 |[]=>rfl
 |x::a=>by rw[ik,if_pos rfl];exact mj a
theorem jD:∀{a b c:cp},lexLt a b=true->lexLt b c=true->lexLt a c=true
 |[],[],_,h,_=>by cases h
 |[],_::_,[],_,h=>by cases h
 |[],_::_,_::_,_,_=>rfl
 |_::_,[],_,h,_=>by cases h
 |_::_,_::_,[],_,h=>by cases h
 |x::a,y::b,z::c,h1,h2=>by
  rw[ik]at h1 h2 ⊢;split at h1
  ·rename_i e;subst e;split at h2
   ·rename_i e2;subst e2;rw[if_pos rfl];exact jD h1 h2
   ·rename_i e2;rw[if_neg e2];exact h2
  ·rename_i e;have q1:x<y:=bL h1;split at h2
   ·rename_i e2;subst e2;rw[if_neg e];exact h1
   ·have q2:y<z:=bL h2;rw[if_neg (by omega)];exact aR (by omega)
theorem gf:∀{a b:cp},lexLt a b=false->lexLt b a=false->a=b
 |[],[],_,_=>rfl
 |[],_::_,h,_=>by cases h
 |_::_,[],_,h=>by cases h
 |x::a,y::b,h1,h2=>by
  rw[ik]at h1 h2;by_cases e:x=y
  ·subst e;rw[if_pos rfl]at h1 h2;rw[gf h1 h2]
  ·rw[if_neg e]at h1;rw[if_neg (Ne.symm e)]at h2;have q1:=of_decide_eq_false h1;have q2:=of_decide_eq_false h2;omega
end HT
namespace L2
open PySem PySem.Spec PyProof.Rows
theorem oC.has {P:cA}{w:cB}{H:Hp}{h:Heap}(x:oC P w H h) {a:cE}{o:HO}(e:H a=some o):∃ob,h.get? a=some ob:=by
 have q:=x a o e;cases o with
 |lst xs=>obtain⟨_,_,_,_,e⟩:=q;exact⟨_,e⟩
 |tup xs=>obtain⟨_,_,_,ob,e,_⟩:=q;exact⟨ob,e⟩
 |dK kvs=>obtain⟨_,_,_,_,o,_,_,e,_⟩:=q;exact⟨_,e⟩
 |dT kvs=>obtain⟨_,_,_,_,o,_,_,e,_⟩:=q;exact⟨_,e⟩
 |set S n=>obtain⟨o,_,_,_,e,_⟩:=q;exact⟨_,e⟩
 |ins C dx fs=>obtain⟨_,_,_,e,_⟩:=q;exact⟨_,e⟩
 |own y=>obtain⟨_,e⟩:=q;exact⟨_,e⟩
 |xd fs=>obtain⟨_,⟨_,_,_,e,_⟩,_⟩:=q;exact⟨_,e⟩
 |Jt lo hi=>obtain⟨_,_,_,e⟩:=q;exact⟨_,e⟩
 |zy ob u=>obtain⟨e,_⟩:=q;exact⟨_,e⟩
 |zF ps=>obtain⟨_,e,_⟩:=(show vq H h a ps from q);exact⟨_,e⟩
 |met f y=>exact⟨_,(show h.get? a=some _ from q)⟩
 |ext φ=>obtain⟨_,⟨_,e⟩,_⟩:=q;exact⟨_,e⟩
theorem tH:∀vs:cw,(vs.zip vs).map (·.2)=vs
 |[]=>rfl
 |v::r=>congrArg (v:: ·) (tH r)
theorem vJ {α:Type}{p q:α->Bool}:∀{l:List α},(∀x∈l,p x=true->q x=true)->(∃x∈l,q x=true/\p x=false)->l.countP p<l.countP q
 |[],_,h=>by obtain⟨x,hx,_⟩:=h;cases hx
 |y::l,hs,h=>by
  have EN:∀x∈l,p x=true->q x=true:=λx hx=>hs x (ai _ hx)
  have le:l.countP p<=l.countP q:=List.countP_mono_left EN;rw[List.countP_cons,List.countP_cons];obtain⟨x,hx,h1,h2⟩:=h;rcases List.mem_cons.mp hx with rfl|hx
  ·rw[h1,h2];simp only[if_true,aH,bE];omega
  ·have ih:=vJ EN ⟨x,hx,h1,h2⟩;cases hp:p y with
   |false=>simp only[aH,bE];omega
   |true=>rw[hs y af hp];simp only[if_true];omega
noncomputable def nU (nss:cn) (a:cp):Int:=((([]:cp)::nss).countP λx=>HT.lexLt x a:Nat)
theorem jL (nss:cn) (i:Nat):nss.getD i []∈([]:cp)::nss:=by
 rw[ak];cases e:nss[i]? with
 |none=>exact af
 |some x=>exact ai _ (bh e)
theorem jf {nss:cn}{a b:cp}(ha:a∈([]:cp)::nss) (hb:b∈([]:cp)::nss):HT.lexLt a b=decide (nU nss a<nU nss b):=by
 unfold nU;cases h:HT.lexLt a b with
 |true=>
  have:=vJ (l:=([]:cp)::nss) (p:=λx=>HT.lexLt x a) (q:=λx=>HT.lexLt x b) (λx _ hx=>HT.jD hx h) ⟨a,ha,h,HT.mj a⟩
  exact(aR (by omega)).symm
 |false=>
  refine(aG ?_).symm;have:(([]:cp)::nss).countP (λx=>HT.lexLt x b)<=(([]:cp)::nss).countP (λx=>HT.lexLt x a):=List.countP_mono_left λx _ hx=>by
   cases h2:HT.lexLt b a with
   |true=>exact HT.jD hx h2
   |false=>rw[HT.gf h h2];exact hx
  omega
noncomputable def wU (K:W.Frag) (H:Hp):List V->cn->Prop:=Paired λv ns=>∃a,v=.ref a/\hO K H a (ns.map V.int)
theorem m6 {prog:cA}{w:cB}{A:cC}{s:cy}{Q:Bool->cy->Prop}{bb:Bool}:∀(us zs:cw) (ns ms:cp) (i:Nat) (fin:Bool),IntsAre us ns->IntsAre zs ms->
  (bb=true\/True)->fin=(if ns.length<ms.length then true else false)->Q (HT.lexLt ns ms) s->W.KatLex prog w A bb fin Q (us.zip zs) i s
 |[],zs,ns,ms,i,fin,h1,h2,_,e,q=>by
  cases h1;show Q fin s;rw[e];cases h2 with
  |nil=>exact q
  |cons n t h=>rw[HT.mX]at q;simpa using q
 |_::_,[],ns,ms,i,fin,h1,h2,_,e,q=>by
  cases h2;cases h1 with
  |cons n t h=>
   show Q fin s;rw[e];rw[HT.mY]at q
   simpa using q
 |u::us,z::zs,ns,ms,i,fin,h1,h2,hb,e,q=>by
  cases h1 with
  |cons n t h1=>
   cases h2 with
   |cons m t' h2=>
    refine W.kat_cons (wpAny_eqBool_int ?_);rw[HT.ik]at q;by_cases QD:n=m
    ·subst QD;rw[bO];rw[if_pos rfl]at q;refine W.kat_yes (m6 us zs _ _ (i+1) fin h1 h2 hb ?_ q);rw[e];simp only[ax,Nat.add_lt_add_iff_right]
    ·have ja:(n==m)=false:=by simpa using QD
     rw[ja];rw[if_neg QD]at q;refine W.kat_no ?_;cases R6:(bb&&i==0)with
     |true=>exact oneLt_int q
     |false=>exact W.kat_one _ _ (lt_int q)
theorem Ao {h:Heap}{a:cE}{m m':ck}(x:h.Ns a m) (y:h.Ns a m'):m=m':=by
 obtain⟨o,es,ep,e,d,_,f⟩:=x;obtain⟨o',Bm,Kn,e',d',_,f'⟩:=y;rw[e]at e';cases e';rw[d]at d';injection d' with d1 _
 subst d1
 funext n
 rw[<-f,<-f']
section
variable {X:Cx}
theorem qL:hU X (.builtin "sorted") (λxs H Q=>∃(p:cE) (ns:cp),xs=[.ref p]/\oE X.K H p (ns.map V.int)/\ns.length<64/\∀(l:cE) (ms:cp),H l=none->ms.Perm ns->ms.Pairwise (·<= ·)->Q (.ref l) (upd H l (.lst (ms.map V.int)))):=by
 intro pins s σ H xs us Q I r h;obtain⟨p,ns,rfl,hq,Ap,q⟩:=h;obtain⟨u,rfl,rx⟩:=vals1 r;cases rx;obtain⟨di,rv,pl,hz⟩:=I.list hq;have hi:IntsAre di ns:=intsAre_of rv;have hl:=hi.length;refine sorted_ints pl.isList hi (by omega) λout xP a1 a2 a3=>?_
 obtain⟨e,he⟩:=sortedAll_at s.heap di out;refine⟨.ref (s.heap.objs.size+1),_,I.laid (t':=s.toks) (o:=.lst (xP.map V.int)) (λb o z=>sortedAll_old z) (Nat.le_succ _) ?_,rfl,q _ xP (I.fC.fresh (Nat.le_succ _)) a2 a3⟩
 refine⟨?_,out.toList,e,nS a1,by simpa using he⟩
 have:=a2.length_eq;rw[ae];exact bg (je (by omega))
theorem wV {prog:cA}{w:cB}{A:cC}{E:cj}{s:cy}{l:cE}{vs:cw}{Q:cj}(hl:s.heap.IsList l vs.toArray) (h2:vs.length<2)
  (h:Q (.ref (s.heap.objs.size+1)) {s with heap:=sortedAll s.heap vs vs.toArray}):wpAny (model prog w) A (call (.builtin "sorted") [.ref l]) Q E s:=by
 refine Calls.call_function_entry kind_sorted plain_sorted entry_sorted (args_sorted1 _) ?_;unfold Builtin.«sorted»;refine aa (m:=checkCount "sorted" 1 1 _) (aj (aa (collect_list hl (aa (wpAny_newList ?_ (hsz:=by rw[bw];omega))) (by rw[bw];omega))))
 have z1:((s.heap.push (seqObj "list" #[] 0)).update s.heap.objs.size (Obj.mapSeq (·++vs.toArray))).objs.size=s.heap.objs.size+1:=by rw[Heap.size_update,size_push']
 generalize hG:(s.heap.push (seqObj "list" #[] 0)).update s.heap.objs.size (Obj.mapSeq (·++vs.toArray))=G at z1
 have h':Q (.ref (s.heap.objs.size+1)) {s with heap:=sortedHeap (G.push (seqObj "list" vs.toArray 0)) (s.heap.objs.size+1) vs vs.toArray}:=by rw[<-hG];exact h
 have o1:(G.push (seqObj "list" vs.toArray 0)).get? (s.heap.objs.size+1)=some (seqObj "list" vs.toArray 0):=by rw[<-z1];exact ay _ rfl
 show wpAny _ _ (do let _ <-holding [Value.ref G.objs.size] (call (.builtin "list.sort") [Value.ref G.objs.size]);ret (Value.ref G.objs.size)) _ _ {s with heap:=G.push (seqObj "list" vs.toArray 0)}
 rw[z1];generalize hT:G.push (seqObj "list" vs.toArray 0)=T at o1 h';generalize s.heap.objs.size+1=a at o1 h';have ha:a<T.objs.size:=az o1;refine aa (bo (bN slot_list_sort ⟨_,o1,rfl⟩ entry_list_sort ?_ (args_list_sort _)));rw[list_sort_plain];refine aa (listItems_at o1 rfl (aa (listUpdate_at o1 rfl ?_ (hsz:=by rw[aq,bw];omega))))
 obtain⟨e1,rA⟩:∃e1,(T.update a (Obj.mapSeq λ_=>#[])).get? a=some (seqObj "list" #[] e1):=⟨_,get?_update_seq o1 (λ_=>#[])⟩
 refine aa (seqEpoch_at rA rfl (aa (wpAny_newTuple (aa (wpAny_newList (bo ?_))) (by show vs.length<=_;rw[bw];omega))))
 have LC:(((T.update a (Obj.mapSeq λ_=>#[])).push (seqObj "tuple" vs.toArray 0)).push (seqObj "list" #[] 0)).get? a=some (seqObj "list" #[] e1):=by
  rw[Heap.get?_push_ne _ _ _ (by rw[size_push',Heap.size_update];exact aD (Nat.lt_succ_of_lt ha)),Heap.get?_push_ne _ _ _ (by rw[Heap.size_update];exact aD ha)]
  exact rA
 show wpAny (model prog w) _ _ _ _ {s with heap:=((T.update a (Obj.mapSeq λ_=>#[])).push (seqObj "tuple" vs.toArray 0)).push (seqObj "list" #[] 0)}
 dsimp only;have hsz:vs.toArray.size<2:=by rw[aq];exact h2
 rw[if_pos hsz,if_pos hsz];refine aa (aj ?_);rw[StateT.run_pure];refine aa (aj ?_);dsimp only;have Aq:(vs.toArray.zip vs.toArray).map (·.2)=vs.toArray:=by
  apply Array.toList_inj.mp
  rw[Array.toList_map,Array.toList_zip];exact tH vs
 rw[show(arrOf (SortSt.mk' general' (vs.toArray.zip vs.toArray) #[] 7 none))=vs.toArray.zip vs.toArray from rfl]at *
 refine aa (seqEpoch_at LC rfl (aa (listUpdate_at LC rfl ?_ (hsz2:=by rw[Aq,aq,bw];omega))))
 rw[Aq];simp only[bne_self_eq_false,aH,bE];exact aj ⟨_,rfl,aj ⟨_,rfl,h'⟩⟩
theorem rT:hU X (.builtin "sorted") (λxs H Q=>∃(p:cE) (vs:List V),xs=[.ref p]/\oE X.K H p vs/\vs.length<2/\∀l,H l=none->Q (.ref l) (upd H l (.lst vs))):=by
 intro pins s σ H xs us Q I r h;obtain⟨p,vs,rfl,hq,h2,q⟩:=h;obtain⟨u,rfl,rx⟩:=vals1 r;cases rx;obtain⟨di,rv,pl,hz⟩:=I.list hq;have hl:=rv.length;refine wV pl.isList (by omega) ?_
 obtain⟨e,he⟩:=sortedAll_at s.heap di di.toArray;exact⟨.ref (s.heap.objs.size+1),_,I.laid (t':=s.toks) (o:=.lst vs) (λb o z=>sortedAll_old z) (Nat.le_succ _) ⟨hz,di,e,rv,he⟩,rfl,q _ (I.fC.fresh (Nat.le_succ _))⟩
theorem qM (hu:X.A.units+64<cLine):hU X (.builtin "sorted") (λxs H Q=>∃(p:cE) (vs:List V) (nss:cn),xs=[.ref p]/\oE X.K H p vs/\wU X.K H vs nss/\2<=vs.length/\vs.length<64/\(∀ns∈nss,ns≠[])/\
  ∀(l:cE) (ix:List Nat),H l=none->ix.Perm (List.range vs.length)->(ix.map λi=>nss.getD i []).Pairwise (λa b=>HT.lexLt b a=false)->Q (.ref l) (upd H l (.lst (ix.map λi=>vs.getD i .fO)))):=by
 intro pins s σ H xs us Q I r h;obtain⟨p,vs,nss,rfl,hq,ht,h2,Ap,ja,q⟩:=h;obtain⟨u,rfl,rx⟩:=vals1 r;cases rx;obtain⟨di,rv,pl,hz⟩:=I.list hq;have hlen:=rv.length;have Sj:=Paired.length ht;obtain⟨m,F⟩:=I.fr;have N:News X.base X.env.locals s.heap (iQ X.base s.heap X.env.locals):=sI;have tJ:∀i,i<vs.length->∃(a:cE) (o:Obj) (ts:cw) (n:Nat),di.getD i Value.none=.ref a/\vs.getD i .fO=.ref a/\a≠X.env.locals/\s.heap.get? a=some o/\o.cls=.type "tuple"/\o.data=.seq ts.toArray n/\IntsAre ts (nss.getD i []):=λi hi=>by
  have g1:vs[i]? =some vs[i]:=ah hi;obtain⟨w,h1,h3⟩:=rv.get g1;have g2:∀{vs:List V}{nss:cn}{i:Nat}{v:V},wU X.K H vs nss->vs[i]? =some v->∃ns a,nss[i]? =some ns/\v=.ref a/\hO X.K H a (ns.map V.int):=by
   intro vs nss i v t e;induction t generalizing i with
   |nil=>simp at e
   |cons x t ih=>
    cases i with
    |zero=>
     simp at e;subst e;obtain⟨a,e1,e2⟩:=x;exact⟨_,a,rfl,e1,e2⟩
    |succ i=>exact ih (by simpa using e)
  obtain⟨ns,a,e1,e2,e3⟩:=g2 ht g1;rw[e2]at h3;cases h3;obtain⟨ts,r2,⟨o,ho,hc,n,hd⟩,_⟩:=I.tuple e3;refine⟨a,o,ts,n,?_,?_,?_,ho,hc,hd,?_⟩
  ·rw[ak,h1];rfl
  ·rw[ak,g1,e2];rfl
  ·intro z;obtain⟨oL,es,ep,hL,NQ,_⟩:=F.ns;rw[z,hL]at ho;cases ho;rw[NQ]at hd;cases hd
  ·rw[ak,e1];exact intsAre_of r2
 refine W.kat_sorted F N pl.isList (by omega) (by omega) λD e1 h' F' N' eP=>?_
 have zZ:s.heap.get? D=none:=by
  cases e:s.heap.get? D with
  |none=>rfl
  |some o=>
   have n1:=(N' (D,_) (.head _)).2.1;have n2:=(N' (D,_) (.head _)).2.2;exact absurd (eP (D,o) (kP n1 n2 e)) (Nat.lt_irrefl _)
 have rB:∀{h':Heap}{o1:Obj},Fr X.base X.env.locals h' m->News X.base X.env.locals h' ((D,o1)::iQ X.base s.heap X.env.locals)->∀b o,b≠X.env.locals->s.heap.get? b=some o->h'.get? b=some o:=λ{h' o1} F' N' b o hb e=>by
  cases g:X.base.get? b with
  |some u=>
   have:=I.bk b u g;rw[e]at this;cases this;exact F'.keep b _ g
  |none=>exact(N' (b,o) (.tail _ (kP hb g e))).1
 have oJ:=rB F' N';have NR:∃fs:cw,fs.length=di.length/\W.KatTups h' di fs/\∀v∈fs,∃i t,v=Value.int i t:=by
  have aux:∀(l:cw),(∀v∈l,∃(a:cE) (o:Obj) (ts:cw) (n:Nat) (ns:cp),v=.ref a/\h'.get? a=some o/\o.cls=.type "tuple"/\o.data=.seq ts.toArray n/\IntsAre ts ns/\ns≠[])->∃fs:cw,fs.length=l.length/\W.KatTups h' l fs/\∀v∈fs,∃i t,v=Value.int i t:=by
   intro l;induction l with
   |nil=>intro _;exact⟨[],rfl,.nil,λv hv=>nomatch hv⟩
   |cons v l ih=>
    intro h;obtain⟨fs,l1,l2,l3⟩:=ih λw hw=>h w (ai _ hw)
    obtain⟨a,o,ts,n,ns,rfl,e2,e3,e4,e5,e6⟩:=h v af;cases e5 with
    |nil=>exact absurd rfl e6
    |cons i t e5=>
     refine⟨Value.int i t::fs,by simp[l1],.cons e2 e3 e4 (by simp) l2,λw hw=>?_⟩
     rcases List.mem_cons.mp hw with rfl|hw
     ·exact⟨i,t,rfl⟩
     ·exact l3 w hw
  refine aux di λv hv=>?_
  obtain⟨i,hi,e⟩:=List.getElem_of_mem hv;obtain⟨a,o,ts,n,b1,b2,b3,b4,b5,b6,b7⟩:=tJ i (by omega)
  have ev:v=.ref a:=by
   rw[ak,ah hi]at b1;rw[<-e];exact b1
  refine⟨a,o,ts,n,_,ev,oJ a o b3 b4,b5,b6,b7,ja _ ?_⟩;rw[ak,ah (by omega)]
  exact List.getElem_mem _
 obtain⟨fs,f1,f2,f3⟩:=NR;refine W.kat_kind (T:=.type "int") f2 (by omega) (λv hv=>?_) (by decide) ?_
 ·obtain⟨i,t,rfl⟩:=f3 v hv;exact λA Q E s' k q=>aj q
 rw[<-hlen];have cmp:∀i j (R:Bool->cy->Prop),i<vs.length->j<vs.length->R (HT.lexLt (nss.getD i []) (nss.getD j [])) {s with heap:=h'}->W.kas_ask X.prog X.w X.A.in1.in1 (tuples' (Value.type "int"!=Value.type "tuple")) di i j R {s with heap:=h'}:=λi j R hi hj hR=>by
  obtain⟨a,o,ts,n,b1,b2,b3,b4,b5,b6,b7⟩:=tJ i hi;obtain⟨a',o',NS,n',c1,c2,c3,c4,c5,c6,c7⟩:=tJ j hj;show wpAny _ _ (keyLt' _ (di.getD i Value.none) (di.getD j Value.none)) _ _ _;rw[b1,c1];refine W.kat_lt (oJ a o b3 b4) b6 (oJ a' o' c3 c4) c6 ?_;have s1:ts.toArray.size=(nss.getD i []).length:=by rw[aq,b7.length]
  have s2:NS.toArray.size=(nss.getD j []).length:=by rw[aq,c7.length]
  refine m6 _ _ (nss.getD i []) (nss.getD j []) 0 _ (by simpa using b7) (by simpa using c7) (.inr trivial) ?_ hR
  rw[s1,s2];by_cases h:(nss.getD i []).length<(nss.getD j []).length
  ·rw[if_pos h];exact aR h
  ·rw[if_neg h];exact aG h
 refine So.nT (n:=vs.length) cmp _ (So.tG (by omega)) ?_
 obtain⟨s1,s2⟩:=So.tj (lt:=λi j=>HT.lexLt (nss.getD i []) (nss.getD j [])) (rank:=λi=>nU nss (nss.getD i [])) (λi j=>jf (jL _ _) (jL _ _)) vs.length (by omega)
 generalize So.gN _ (W.kas_sort vs.length)=ar at s1 s2;have pm:ar.toList.Perm (List.range vs.length):=by simpa using Array.perm_iff_toList_perm.mp s1
 have sz:ar.size=vs.length:=by simpa using s1.size_eq
 have below:∀i∈ar.toList,i<vs.length:=λi hi=>by simpa using pm.mem_iff.mp hi
 refine⟨_,_,F',N',.head λp hp=>aD (eP p hp),λh2 c F2 N2=>?_⟩
 have hD:H D=none:=by
  cases e:H D with
  |none=>rfl
  |some u=>obtain⟨o,z⟩:=I.fC.has e;rw[zZ]at z;cases z
 have vl:Vals (ar.toList.map λi=>vs.getD i .fO) (ar.toList.map λi=>di.getD i Value.none):=by
  have aux:∀(l:List Nat),(∀i∈l,i<vs.length)->Vals (l.map λi=>vs.getD i .fO) (l.map λi=>di.getD i Value.none):=by
   intro l;induction l with
   |nil=>intro _;exact .nil
   |cons i l ih=>
    intro h;refine .cons ?_ (ih λk hk=>h k (ai _ hk))
    have hi:=h i af;show RelV (vs.getD i .fO) (di.getD i Value.none);obtain⟨w,e1,e2⟩:=rv.get (ah hi);rw[ak,ak,e1,ah hi];exact e2
  exact aux _ below
 have iz:=rB F2 N2;have NT:h2.get? D=some {cls:=.type "list",data:=.seq (ar.toList.map λi=>di.getD i Value.none).toArray c}:=(N2 _ (.head _)).1
 refine⟨.ref D,upd H D (.lst (ar.toList.map λi=>vs.getD i .fO)),?_,rfl,q D ar.toList hD pm ?_⟩
 ·show Inv X pins σ _ {s with heap:=h2,gens:=s.gens,drawn:=s.drawn,toks:=s.toks}
  refine I.step (g':=s.gens) (d':=s.drawn) (t':=s.toks) (ch:=[]) (λ_ z=>nomatch z) (λb o h1 _ _ e _=>iz b o h1 e) (λb o h1 _ _ e _=>⟨o.slots,iz b o h1 e⟩) (λb o _ e hn=>?_) (λb o _ e=>?_) (λb xs e=>?_) (λb o xs e=>?_) (λb ps e=>⟨#[],?_⟩) (λm' hm=>?_) (λb u e=>?_) I.bare
  ·rw[cK (λz=>by rw[z,zZ]at e;cases e)];exact hn
  ·by_cases hb:b=X.env.locals
   ·obtain⟨o',_,_,e',_⟩:=F2.ns;exact⟨o',by rw[hb];exact e'⟩
   ·exact⟨o,iz b o hb e⟩
  ·rw[cK (cP e hD)];exact e
  ·rw[cK (cP e hD)];exact e
  ·rw[cK (cP e hD),e];simp
  ·rw[Ao hm F.ns];exact F2.ns
  ·by_cases hb:b=D
   ·subst hb;rw[cR]at e;cases e;exact⟨by rw[ae,aN,sz];exact bg (je (by omega)),_,c,vl,NT⟩
   ·rw[cK hb]at e;refine(I.fC b u e).wq (λk v hk z=>iz k v ?_ z) (λk z=>by rw[cK (cP z hD)];exact z) λk xs z=>by rw[cK (cP z hD)];exact z
    rcases hk with rfl|hk
    ·intro z;rw[z,I.free]at e;cases e
    ·intro z;rw[z,I.free]at hk;cases hk
 ·rw[List.pairwise_map,List.pairwise_iff_getElem];intro i j hi hj sU;have vK:i<ar.size:=by simpa using hi
  have Ee:j<ar.size:=by simpa using hj
  have le:=s2 i j (bg sU) (by omega)
  unfold So.kk at le;rw[aT,aT,aU vK,aU Ee]at le;simp only[Option.getD_some]at le;have e:=jf (nss:=nss) (a:=nss.getD (ar[j]) []) (b:=nss.getD (ar[i]) []) (jL _ _) (jL _ _);simp only[Array.getElem_toList];rw[e];exact aG (by omega)
end
end L2
namespace DL
open PySem PySem.Spec PyProof.Rows L2
variable [Mem]
noncomputable def Fd (a b:Int):Bool:=decide (a<=b)
noncomputable def sortI (ns:cp):cp:=ns.mergeSort Fd
noncomputable def NU (a b:cp):Bool:= !(HT.lexLt b a)
noncomputable def fV (nss:cn):cn:=nss.mergeSort NU
omit [Mem] in
theorem sortI_perm (ns:cp):(sortI ns).Perm ns:=List.mergeSort_perm _ _
omit [Mem] in
theorem tK (ns:cp):(sortI ns).Pairwise (·<= ·):=
 (List.pairwise_mergeSort (le:=Fd) (λa b c h1 h2=>by simp only[Fd,decide_eq_true_eq]at *; omega) (λa b=>by simp only[Fd,Bool.or_eq_true,decide_eq_true_eq];omega) ns).imp λ{a b} h=>by simpa [Fd]using h
omit [Mem] in
theorem ez (nss:cn):(fV nss).Perm nss:=List.mergeSort_perm _ _
omit [Mem] in
theorem pP (nss:cn):(fV nss).Pairwise (λa b=>HT.lexLt b a=false):=
 (List.pairwise_mergeSort (le:=NU) (λa b c h1 h2=>by
  simp only[NU,Bool.not_eq_true']at *;cases h:HT.lexLt c a with
  |false=>rfl
  |true=>
   cases hb:HT.lexLt b c with
   |true=>rw[HT.jD hb h]at h1;cases h1
   |false=>rw[HT.gf hb h2]at h1;rw[h1]at h;cases h) (λa b=>by
  simp only[NU,Bool.or_eq_true,Bool.not_eq_true'];cases h:HT.lexLt b a with
  |false=>exact .inl rfl
  |true=>
   right;cases h2:HT.lexLt a b with
   |false=>rfl
   |true=>have:=HT.jD h h2;rw[HT.mj]at this;cases this) nss).imp λ{a b} h=>by simpa [NU]using h
omit [Mem] in
theorem fM {α:Type}{R:α->α->Prop}(NV:∀a b,R a b->R b a->a=b):∀{l m:List α},l.Perm m->l.Pairwise R->m.Pairwise R->l=m
 |[],m,h,_,_=>by have:=h.length_eq;cases m with|nil=>rfl|cons _ _=>cases this
 |a::l,m,h,p,q=>by
  cases m with
  |nil=>exact absurd h.length_eq (by simp)
  |cons b m=>
   have BH:a=b:=by
    by_cases e:a=b
    ·exact e
    ·have h1:a∈m:=(List.mem_cons.mp (h.mem_iff.mp af)).resolve_left e;have h2:b∈l:=(List.mem_cons.mp (h.mem_iff.mpr af)).resolve_left (Ne.symm e);exact NV a b ((List.pairwise_cons.mp p).1 b h2) ((List.pairwise_cons.mp q).1 a h1)
   subst BH;rw[fM NV ((List.perm_cons a).mp h) (List.pairwise_cons.mp p).2 (List.pairwise_cons.mp q).2]
noncomputable def tupI (ns:cp):D:=.tup (ns.map D.int)
noncomputable abbrev _root_.cH (i:Int):DL.Sl:=.dat (.int i)
noncomputable abbrev _root_.cJ (l:List Int):DL.Sl:=.dat (tupI l)
noncomputable def kb:cv->Option (cn)
 |[]=>some []
 |.tup ds::r=>(intsOf ds).bind λns=>(kb r).map λnss=>ns::nss
 |_=>none
omit [Mem] in
theorem qN:∀{ds:cv}{nss:cn},kb ds=some nss->ds=nss.map tupI
 |[],_,h=>by cases h;rfl
 |.tup es::r,nss,h=>by
  unfold kb at h;cases h1:intsOf es with
  |none=>rw[h1]at h;cases h
  |some ns=>
   cases h2:kb r with
   |none=>rw[h1,h2]at h;cases h
   |some ms=>rw[h1,h2]at h;cases h;rw[qN h2,gu h1];rfl
omit [Mem] in
theorem tL (nss:cn):kb (nss.map tupI)=some nss:=by
 induction nss with
 |nil=>rfl
 |cons n r ih=>show(intsOf (n.map D.int)).bind _=_;rw[ip];show(kb (r.map tupI)).map _=_;rw[ih];rfl
noncomputable def fF:cv->Option (cv)
 |[.lst ds]=>if ds.length<64 then
   (match intsOf ds with
   |some ns=>some ((sortI ns).map D.int)
   |none=>(kb ds).bind λnss=>if nss.all (λns=> !ns.isEmpty)=true then some ((fV nss).map tupI)else none)
  else none
 |_=>none
theorem IsL.BM {K:W.Frag}{C H:Hp}(s:dF C H):∀{nss:cn}{vs:List V},IsL C vs (nss.map tupI)->wU K H vs nss
 |[],_,.nil=>.nil
 |ns::r,_,.cons h t=>by
  cases h with
  |tup h l=>
   cases l.kR;exact .cons ⟨_,rfl,hO.of (s _ _ h)⟩ (IsL.BM s t)
theorem IsL.places {C:Hp}{vs:List V}{ds:cv}(l:IsL C vs ds):∀(ix:List Nat),(∀i∈ix,i<ds.length)->IsL C (ix.map λi=>vs.getD i .fO) (ix.map λi=>ds.getD i .fO)
 |[],_=>.nil
 |i::ix,h=>by
  refine .cons ?_ (IsL.places l ix λk hk=>h k (ai _ hk))
  have hi:=h i af;obtain⟨v,h1,h2⟩:=l.get (ah hi);show Is C (vs.getD i .fO) (ds.getD i .fO);rw[ak,ak,h1,ah hi];exact h2
omit [Mem] in
theorem kc {α:Type}(l:List α) (d:α):(List.range l.length).map (λi=>l.getD i d)=l:=by
 apply List.ext_getElem
 ·simp
 ·intro i h1 h2;simp[ak,ah h2]
omit [Mem] in
theorem wW {α β:Type}(f:α->β) (l:List α) (a:α) (b:β) (ix:List Nat) (h:∀i∈ix,i<l.length):(ix.map λi=>(l.map f).getD i b)=(ix.map λi=>l.getD i a).map f:=by
 rw[aV];apply bT
 intro i hi;have:=h i hi;simp[ak,av,ah this]
section
variable {X:Cx}
theorem pQ (hu:X.A.units+64<cLine):tm X (.builtin "sorted") fF:=by
 refine⟨_,qL.or (rT.or (qM hu)),?_⟩;intro C H vs ds d Q s i q k;unfold fF at q;split at q
 ·rename_i es;split at q
  case isFalse=>cases q
  rename_i Ap;obtain⟨v,rfl,j⟩:=i.one;obtain⟨p,xs,rfl,hq,l⟩:=j.list (K:=X.K) s;split at q
  ·rename_i ns hi;cases q;rw[gu hi]at l Ap;cases l.kR;refine .inl ⟨p,ns,rfl,hq,by simpa using Ap,λt ms ht pm pw=>?_⟩
   have e:ms=sortI ns:=fM (λa b h1 h2=>Int.le_antisymm h1 h2) (pm.trans (sortI_perm ns).symm) pw (tK ns)
   subst e;exact k t _ C _ (.gi s ht) ht (s.free ht) cR (.ints _)
  ·cases hn:kb es with
   |none=>rw[hn]at q;cases q
   |some nss=>
    rw[hn]at q;simp only[ao]at q;split at q
    ·rename_i sT;cases q;have ee:=qN hn;subst ee;have lv:=l.length;rw[ae]at lv Ap;by_cases h2:xs.length<2
     ·refine .inr (.inl ⟨p,xs,rfl,hq,h2,λt ht=>?_⟩)
      have e:fV nss=nss:=by
       have:nss.length<2:=by omega
       match nss,this with
       |[],_=>exact List.Perm.eq_nil (ez [])
       |[a],_=>exact List.perm_singleton.mp (ez [a])
      rw[e]at k;exact k t xs C _ (.gi s ht) ht (s.free ht) cR l
     ·refine .inr (.inr ⟨p,xs,nss,rfl,hq,l.BM s,by omega,by omega,λns HU=>?_,λt ix ht pm pw=>?_⟩)
      ·have:=List.all_eq_true.mp sT ns HU;intro z;subst z;simp at this
      ·have lt:∀i∈ix,i<(nss.map tupI).length:=λi hi=>by
        have:=pm.mem_iff.mp hi;rw[List.mem_range]at this;rw[ae];omega
       have lt':∀i∈ix,i<nss.length:=λi hi=>by have:=lt i hi;rwa [ae]at this
       have e:(ix.map λi=>nss.getD i [])=fV nss:=by
        refine fM (λa b h1 h2=>HT.gf h2 h1) ?_ pw (pP nss)
        have e1:(ix.map λi=>nss.getD i []).Perm ((List.range nss.length).map λi=>nss.getD i []):=List.Perm.map _ (by rw[<-lv];exact pm)
        rw[kc]at e1;exact e1.trans (ez nss).symm
       have ll:=l.places ix lt;rw[wW tupI nss [] .fO ix lt',e]at ll;exact k t _ C _ (.gi s ht) ht (s.free ht) cR ll
    ·cases q
 ·cases q
end
section
variable {X:Cx}{e:cF}{pos:Pos}{C0 H0:Hp}{f:cc}
noncomputable def As:List Nat->Jz
 |[]=>MQ
 |i::is=>JA (vw i) (As is)
noncomputable def qO:List Nat->cv->dD->dD
 |i::is,d::ds,δ=>qO is ds (δ.set i (.dat d))
 |_,_,δ=>δ
theorem JU {B C H:Hp}{Q:L2.St->Hp->Prop}:∀(is:List Nat) {xs:List V}{ds:cv}{δ:dD}{σ:L2.St},IsL C xs ds->ds.length=is.length->Gd B C0 H0 δ σ C H->(∀σ',Gd B C0 H0 (qO is ds δ) σ' C H->Q σ' H)->As is xs σ H Q
 |[],_,_,_,_,.nil,_,g,k=>⟨rfl,k _ g⟩
 |_::_,_,_,_,_,.nil,h,_,_=>by cases h
 |i::is,_,_,_,_,.cons h t,hl,g,k=>⟨_,_,rfl,JU is t (by simpa using hl) (g.oZ h) k⟩
theorem LD {i:Nat}{o:cF}{apos:Pos}(ho:PE X o (ij i)) (he:PD X e f) (oK:starEach [e] X.env=(false,eval e X.env)::starEach [] X.env:=by exact eB rfl) (pE:attributeBase o "append" X.env (eval o X.env)=eval o X.env:=by rfl)
  (wH:((backTo pos (starEach [e] X.env)).all (λx=> !x.1)&&(backToKw pos (keywordEach [] X.env)).all (λx=>x.1.isSome)
   &&decide ([e].length+([]:List Keyword).length+(if([]:List Keyword).isEmpty then 0 else 1)<30))=true:=by exact Ig rfl)
  (pF:(apos.endLine==pos.line)=true:=by rfl) (mf:(backTo pos (starEach [] X.env)).any (·.1)=false:=by exact eI rfl) {pos':Pos}(hs:swapsWith (.Call (.Attribute o "append" apos) [e] [] pos) none pos'.line X.env=pure false:=by rfl):
  PB X C0 H0 (.Expr (.Call (.Attribute o "append" apos) [e] [] pos) pos') (uY i f):=
 Dg (pJ he sf oK) ho (λ_ _ _ h=>h) (JJ PySem.F.plainAttrs_list PySem.F.slot_list_append PySem.F.type_list_append vC ho (pJ he sf oK) pE wH pF oK mf) hs
theorem Gd.gi {B C H:Hp}{δ:dD}{σ:L2.St}(g:Gd B C0 H0 δ σ C H) {a:cE}(h0:H0 a=none) (hc:C a=none) (hn:∀(k:Nat) (es:cv),δ[k]? =some (.own es)->σ[k]? ≠some (some (.ref a))) (hx:∀u,H a=some u->zA u=false) (o:HO):Gd B C0 H0 δ σ C (upd H a o):=
 ⟨g.b,g.ev.BD h0 hc o,⟨λb u q=>by rw[cK (cP q hc)];exact g.x.sub b u q,g.x.dat,λk ds q=>by
   obtain⟨b,xs,h1,h2,h3,h4⟩:=g.x.own k ds q;exact⟨b,xs,h1,h2,by rw[cK (λz=>hn k ds q (by rw[h1,z]))];exact h3,h4⟩,g.x.wK,g.x.len,λk ks q=>by
   obtain⟨b,h1,h2,h3,h4⟩:=g.x.mem k ks q;exact⟨b,h1,h2,Mem.NC h3 hx,λk hk=>Mem.ES h3 hx (h4 k hk)⟩⟩,g.fr⟩
theorem Gd.Iv {B C H:Hp}{δ:dD}{σ:L2.St}(g:Gd B C0 H0 δ σ C H) {i:Nat}{a:cE}{xs:List V}{ds:cv}(h0:H0 a=none) (hc:C a=none) (hH:H a=some (.lst xs)) (hl:IsL C xs ds) (hn:∀(k:Nat) (es:cv),δ[k]? =some (.own es)->σ[k]? ≠some (some (.ref a))):Gd B C0 H0 (δ.set i (.own ds)) (σ.set i (some (.ref a))) C H:=
 ⟨g.b,g.ev,g.x.wL hc hH hl hn,λk es b q1 q2=>by
  rcases getElem?_set_cases q1 with⟨rfl,e1⟩|⟨hk,e1⟩
  ·rcases getElem?_set_cases q2 with⟨_,e2⟩|⟨z,_⟩
   ·cases e2;exact h0
   ·exact absurd rfl z
  ·rw[aF (Ne.symm hk)]at q2;exact g.fr k es b e1 q2⟩
noncomputable def wX (j m:Nat) (f:cc) (δ:dD):cv->cv->Option (cv×cv)
 |ls,[]=>some ([],ls)
 |ls,d::ds=>match f ((δ.set m (.own ls)).set j (.dat d))with
  |some (.int i)=>if 0<=i then(match ls[i.toNat]? with
   |some x=>(wX j m f δ (ls.eraseIdx i.toNat) ds).map λr=>(x::r.1,r.2)
   |none=>none)else none
  |_=>none
noncomputable def vL (k j m:Nat) (i:bZ) (f:cc):cb:=λδ=>match δ[m]? with
 |some (.own ls)=>if ls.length<1000000 then(i δ).bind λds=>if ds.length<1000000 then(wX j m f δ ls ds).map λr=>.next ((δ.set m (.own r.2)).set k (.own r.1))else none else none
 |_=>none
omit [Mem] in
theorem getElem?_set_own {δ:dD}{m k:Nat}{ls es:cv}(hm:∃fs,δ[m]? =some (Sl.own fs)) (h:(δ.set m (Sl.own ls))[k]? =some (.own es)):∃fs,δ[k]? =some (.own fs):=by
 rcases getElem?_set_cases h with⟨rfl,_⟩|⟨_,e⟩
 ·exact hm
 ·exact⟨_,e⟩
theorem Fe {B:Hp}{k j m:Nat}{i:bZ}{tt:TT}(NW:m≠j) (ht:∀σ H Q,tQ j9 σ H Q->tt σ H Q) {K:W.Frag}:∀Dn σ H,tS B C0 H0 (vL k j m i f) Dn σ H->
  yc k (BA (tI i) j tt (Qp K "list" EG (ij m) (Pf (aX f cL)))) Dn σ H:=λDn σ H ⟨C,δ,r,gd,q,kk⟩=>by
 unfold vL at q;split at q
 case h_2=>cases q
 rename_i ls hm;split at q
 case isFalse=>cases q
 rename_i UC;cases hf:i δ with
 |none=>rw[hf]at q;cases q
 |some ds=>
  rw[hf]at q;simp only[ao]at q;split at q
  case isFalse=>cases q
  rename_i hz;cases hp:wX j m f δ ls ds with
  |none=>rw[hp]at q;cases q
  |some pr=>
   rw[hp]at q;cases q;obtain⟨ys,rem⟩:=pr;refine⟨C,δ,ds,gd.x,hf,λJ C1 H1 ev wk A hA=>?_⟩
   have g1:=gd.Df ev;have NX:∀(k:Nat) (es:cv),δ[k]? =some (.own es)->σ[k]? ≠some (some (.ref A)):=λk es e z=>by
    obtain⟨a,xs,h1,_,h3,_⟩:=g1.x.own k es e;rw[z]at h1;cases h1;rw[hA]at h3;cases h3
   have LF:∀(ls:cv) (k:Nat) (es:cv),(δ.set m (.own ls))[k]? =some (.own es)->σ[k]? ≠some (some (.ref A)):=λls k es e=>by
    obtain⟨fs,e'⟩:=getElem?_set_own ⟨_,hm⟩ e;exact NX k fs e'
   have QE:H0 A=none:=g1.ev.free hA;have dm:δ.set m (.own ls)=δ:=by
    apply List.ext_getElem?
    intro n;by_cases e:n=m
    ·subst e;rw[bc (List.getElem?_eq_some_iff.mp hm).1,hm]
    ·rw[aF (Ne.symm e)]
   refine⟨λn mm acc H'=>∃C' lc done rest,mm=ds.length-n/\n<=ds.length/\Gd B C0 H0 (δ.set m (.own lc)) σ C' H'/\dF C1 C'/\C' A=none/\H' A=some (.lst acc)/\IsL C' acc done/\done.length<=n/\lc.length<1000000/\wX j m f δ lc (ds.drop n)=some (rest,rem)/\ys=done++rest,
    ⟨ds.length,C1,ls,[],ys,by simp,bM _,by rw[dm];exact g1.gi QE (ev.s.free hA) NX (λu q=>by rw[hA]at q;cases q) _,dF.refl _,ev.s.free hA,cR,.nil,au _,UC,by simpa using hp,rfl⟩,?_⟩
   rintro n mm acc H2 ⟨C2,lc,done,rest,rfl,hn,g2,sc,a2,b2,l2,Si,UD,q2,ey⟩
   have w:=wk n C2 H2 sc g2.x.sub;by_cases eP:n<ds.length
   ·have hd:ds[n]? =some ds[n]:=ah eP;obtain⟨go,yl⟩:=w.1 _ hd;rw[List.drop_eq_getElem_cons eP]at q2;refine .inr ⟨go,λv H3 y=>?_⟩
    obtain⟨rfl,is⟩:=yl v H3 y;have x3:=g2.x.oZ (i:=j) is;unfold wX at q2;split at q2
    case h_2=>cases q2
    rename_i ii UE;split at q2
    case isFalse=>cases q2
    rename_i UG;split at q2
    case h_2=>cases q2
    rename_i x hx;cases hr:wX j m f δ (lc.eraseIdx ii.toNat) (ds.drop (n+1))with
    |none=>rw[hr]at q2;cases q2
    |some pr=>
     rw[hr]at q2;cases q2;have UH:m<δ.length:=(List.getElem?_eq_some_iff.mp hm).1;have om:(δ.set m (.own lc))[m]? =some (.own lc):=bc UH;obtain⟨a,xs,h1,h2,h3,h4⟩:=g2.x.own m lc om;refine ht _ _ _ ⟨C2,_,true,x3,rfl,λC4 H4 e4=>zW ?_⟩
     have g4:=g2.Df e4;have ET:=e4.hh h3;refine⟨.ref a,by rw[aF (Ne.symm NW)];exact h1,.inl ⟨rfl,_,oE.of ET⟩,C4,_,[.int ii],x3.ev e4,by unfold aX cL;rw[UE];rfl,λvs C5 H5 e5 i5=>?_⟩
     cases i5 with
     |cons UI UJ=>
      cases UJ;cases UI;have Ed:=e4.trans e5;have g5:=g2.Df Ed;have UK:=Ed.hh h3;have l5:=h4.mono Ed.c;obtain⟨vx,Sk,Pk⟩:=l5.get hx;have hlen:xs.length=lc.length:=l5.length;have UL:ii.toNat<xs.length:=(List.getElem?_eq_some_iff.mp Sk).1;have aA:a≠A:=λz=>LF lc m lc om (by rw[h1,z])
      have Ph:H5 A=some (.lst acc):=Ed.hh b2;have a5:=Ed.nn a2 b2;refine⟨a,xs,ii,ii.toNat,vx,rfl,rfl,UK,by omega,by omega,seqIndex_of UG (by omega),Sk,?_⟩
      refine⟨by rw[cK (Ne.symm aA)];exact Ph,by rw[l2.length];exact si (by omega),ds.length-(n+1),by omega,C5,lc.eraseIdx ii.toNat,done++[x],pr.1,rfl,eP,?_,sc.trans Ed.c,a5,cR,(l2.mono Ed.c).append (.one Pk),?_,?_,hr,?_⟩
      ·have g6:=g5.mut (es:=lc.eraseIdx ii.toNat) om h1 (l5.eraseIdx ii.toNat);rw[List.set_set]at g6;exact g6.gi QE a5 (LF _) (λu q=>by rw[cK (Ne.symm aA),Ph]at q;cases q;rfl) _
      ·rw[aQ,List.length_singleton];omega
      ·exact Nat.lt_of_le_of_lt (qD _ _) UD
      ·rw[ey,List.append_assoc];rfl
   ·have e:n=ds.length:=by omega
    subst e;rw[List.drop_length]at q2;unfold wX at q2;cases q2;rw[bC]at ey;subst ey;refine .inl ⟨w.2 (au _),kk _ C2 H2 ?_⟩;exact g2.Iv QE a2 b2 l2 (LF _)
variable {elt o iter:cF}{x y:Str}{px py mS apos fu:Pos}{scope:Scope}{i:bZ}
theorem Iw (k j m:Nat) (hc:X.calm=true) (NW:m≠j) (S:fU X scope x j) (hi:Io X (.Name x px) iter i) (ho:∀cl C s H fp,PE (dg X scope cl C s H fp) o (ij m)) (he:∀cl C s H fp,PD (dg X scope cl C s H fp) e f)
  (oK:∀cl C s H fp,starEach [e] (dg X scope cl C s H fp).env=(false,eval e (dg X scope cl C s H fp).env)::starEach [] (dg X scope cl C s H fp).env:=by intros;exact eB rfl)
  (pE:∀cl C s H fp,attributeBase o "pop" (dg X scope cl C s H fp).env (eval o (dg X scope cl C s H fp).env)=eval o (dg X scope cl C s H fp).env:=by intros;rfl)
  (wH:∀cl C s H fp,((backTo fu (starEach [e] (dg X scope cl C s H fp).env)).all (λx=> !x.1)&&(backToKw fu (keywordEach [] (dg X scope cl C s H fp).env)).all (λx=>x.1.isSome)
   &&decide ([e].length+([]:List Keyword).length+(if([]:List Keyword).isEmpty then 0 else 1)<30))=true:=by intros;exact Ig rfl)
  (pF:(apos.endLine==fu.line)=true:=by rfl) (mf:∀cl C s H fp,(backTo fu (starEach [] (dg X scope cl C s H fp).env)).any (·.1)=false:=by intros;rfl)
  (hN:X.N[k]? =some y:=by rfl) (hy:Loc X.env.scope y:=by first|exact Or.inl rfl|exact Or.inr rfl) (hf:X.fn y=true\/X.env.scope.names.lookup y=some .local:=by first|exact .inl rfl|exact .inr rfl)
  (CT:swapsWith (.ListComp (.Call (.Attribute o "pop" apos) [e] [] fu) [⟨.Name x px,iter,[],0⟩] scope pos) (some (.Name y py)) mS.line X.env=pure true:=by rfl)
  (hs:∀v,foldedSetIterable iter X.env v=pure v:=by intro _;rfl):PB X C0 H0 (.Assign [.Name y py] (.ListComp (.Call (.Attribute o "pop" apos) [e] [] fu) [⟨.Name x px,iter,[],0⟩] scope pos) mS) (vL k j m i f):=λB=>
 (oY hc S hi (λ_ _ _ _ _=>sV) (λcl C s H fp=>JJ PySem.F.plainAttrs_list PySem.F.slot_list_pop PySem.F.type_list_pop EH (ho cl C s H fp) (pJ (he cl C s H fp) sf (oK cl C s H fp)) (pE cl C s H fp) (wH cl C s H fp) pF (oK cl C s H fp) (mf cl C s H fp)) hN hy hf CT hs).imp (Fe NW Aj)
end
end DL
namespace DL
open PySem PySem.Spec PyProof.Rows L2
def kT (P:cA) (w:cB) (K:W.Frag) (mg:ck) (base:Heap) (k:Nat) (x:Str) (g:cg):Prop:=
 ∃f fd ps,ef P w K mg base jt k f fd ps (pK g)/\mg x=some (.ref f)/\W.keepIn K (.ref f)=true/\Binds K fd ps []
theorem kT.mono {P:cA}{w:cB}{K:W.Frag}{mg:ck}{base:Heap}{j k:Nat}{x:Str}{g:cg}(c:kT P w K mg base j x g) (h:j<=k):kT P w K mg base k x g:=
 let ⟨f,fd,ps,F,r⟩:=c;⟨f,fd,ps,F.mono h,r⟩
section
variable {X:Cx}{e:cF}{es:List cF}{p pos:Pos}{x:Str}
theorem Ff [Mem] {k:Nat}{g:cg}{fa:bZ}(c:kT X.prog X.w X.K X.mg X.base k x g) (hr:fR k X.A) (hg:Gl X x) (ha:Ec X (e::es) fa)
  (ot:(x==("__debug__":Str))=false:=by decide) (he:starEach (e::es) X.env=(false,eval e X.env)::starEach es X.env:=by exact eB rfl) (i9:(backTo pos (starEach es X.env)).any (·.1)=false:=by exact eI rfl):
  PD X (.Call (.Name x p) (e::es) [] pos) (cM g fa):=by
 obtain⟨f,fd,ps,F,hm,hk,hb⟩:=c;exact Ij F hr hg hm hk hb ha ot he i9
end
end DL
namespace DL
open PySem PySem.Spec PyProof.Rows L2
noncomputable def wY (K:W.Frag):Bool:=K.all λp=>match p.2.data with
 |.seq _ _=>(match p.2.cls with|.type t=>t !="list"|_=>true)
 |_=>true
theorem mem_of_lookup {K:W.Frag}{a:cE}{o:Obj}(e:K.lookup a=some o):(a,o)∈K:=by
 induction K with
 |nil=>cases e
 |cons p r ih=>
  obtain⟨b,u⟩:=p;rw[bq]at e;by_cases h:a=b
  ·subst h;simp only[bO]at e;cases e;exact af
  ·have hb:(a==b)=false:=by simpa using h
   simp only[hb]at e;exact ai _ (ih e)
theorem Au {K:W.Frag}(h:wY K=true) {a:cE}{o:Obj}{di:Array cx}{n:Nat}(e:K.lookup a=some o) (hc:o.cls=.type "list") (hs:o.data=.seq di n):False:=by
 have:=List.all_eq_true.mp h _ (mem_of_lookup e);simp only[hs,hc]at this;simp at this
theorem NY {l:W.OpenLaw}{q:cA}{loose:List Str}{XP:(ck)->Heap->Prop}{YP:cB->Heap->Prop}{d:DefRec}{K:Params->W.Frag}{x:Str}{g:cg}(hn:l.most=some 63) (Nq:d.params.defaults=[])
  (hY:∀(w:cB) (h:Heap),YP w h->(K w.params).In h)
  (hg:∀ns:cp,ns.length<=63->g [.lst (ns.map D.int)]=some (.bl true))
  (EJ:∀t∈rO,((recsOf q).find? λe=>e.name==t.1).isSome=true)
  (F:∀(w:cB) (mg:ck) (fa:cE) (h:Heap),(K w.params).In h->h.Ns mainGlobals mg->mg d.name=some (.ref fa)->
   wY (K w.params)=true/\tabsOk (K w.params)=true/\∃fd:cz,(∀(s:cy) (u:cx),BindsTo s fd ⟨[u],[]⟩ [(x,u)])/\∀base:Heap,(K w.params).In base->base.Ns mainGlobals mg->ef l.prog w (K w.params) mg base jt 65 fa fd [x] (pK g)):
  W.WalkO q loose XP YP l.row.toRowW d [] (λf vs=>PySem.call f vs):=
 L2.HV (n:=63) (k:=65) (x:=x) (CX:=λ_=>jt) (sp:=λw vs H Q E=>wY (K w.params)=true->pK g vs H Q E) hn (by decide) Nq ⟨rfl,by decide,by decide,rfl⟩ hY EJ
  (λw mg fa h k1 k2 k3=>by
   obtain⟨z,tz,fd,b,f⟩:=F w mg fa h k1 k2 k3;exact⟨tz,fd,b,λbase e1 e2=>(f base e1 e2).imp λvs H Q E h=>h z⟩)
  (λw H a ns hl hS hz=>by
   have hr:Rd H a (.lst (ns.map V.int)):=by
    rcases hS with h|⟨o,di,n,e1,e2,_,e4,_⟩
    ·exact h
    ·exact(Au hz e1 e2 e4).elim
   exact⟨H,[.lst (ns.map D.int)],.bl true,dF.refl H,.cons (.lst hr (.ints ns)) .nil,hg ns hl,λv C' H' ev i=>by cases i;rfl⟩)
  λ_ _ _ _ _ z=>z
end DL
namespace DL
open PySem PySem.Spec PyProof.Rows L2
variable [Mem]
structure WD (X:Cx) (e:cF) (f:cc):Prop where
 go:PD X e f
structure WO (X:Cx) (e:cF) (f:cc):Prop where
 go:PO X e f
structure WF (X:Cx) (e:cF) (f:bZ):Prop where
 go:PF X e f
structure WQ (X:Cx) (e:cF) (f:cf):Prop where
 go:PQ X e f
structure JV (X:Cx) (e:cF) (f:cf):Prop where
 go:Pg X e f
structure Fg (X:Cx) (es:List cF) (f:bZ):Prop where
 go:Ec X es f
structure LG (X:Cx) (es:List cF) (f:bZ):Prop where
 go:JP X es f
structure vM (X:Cx) (tg e:cF) (f:bZ):Prop where
 go:Io X tg e f
structure Mx (X:Cx) (tg e:cF) (f:bZ):Prop where
 go:Lp X tg e f
structure WB (X:Cx) (C0 H0:Hp) (st:cG) (f:cb):Prop where
 go:PB X C0 H0 st f
structure sj (X:Cx) (C0 H0:Hp) (st:List cG) (f:cb):Prop where
 go:zC X C0 H0 st f
structure WP (X:Cx) (e:Option cF) (f:dD->Option (Option Int)):Prop where
 go:L2.PO X e (tP f)
section
variable {X:Cx}{e tg:cF}{pos:Pos}
theorem cN (i:Nat) {x:Str}(hN:X.N[i]? =some x:=by rfl) (hv:Mp X.env.scope x:=by first|exact Or.inl rfl|exact Or.inr (Or.inl rfl)|exact Or.inr (Or.inr rfl)) (hd:(x==("__debug__":Str))=false:=by decide) (uS:(x==("__classdict__":Str))=false:=by decide):WO X (.Name x pos) (dt i):=⟨CZ (zG hN hv hd uS)⟩
theorem cQ (i:Nat) {x:Str}(hN:X.N[i]? =some x:=by rfl) (hv:Mp X.env.scope x:=by first|exact Or.inl rfl|exact Or.inr (Or.inl rfl)|exact Or.inr (Or.inr rfl)) (hd:(x==("__debug__":Str))=false:=by decide) (uS:(x==("__classdict__":Str))=false:=by decide):WD X (.Name x pos) (cU i):=⟨CY (zG hN hv hd uS)⟩
theorem WD.o {f:cc}(h:WD X e f):WO X e f:=⟨h.go.o⟩
theorem WF.d {f:bZ}(h:WF X e f):WD X e (dL f):=⟨h.go.d⟩
theorem JV.pt {f:cf}(h:JV X e f):WQ X e f:=⟨h.go.pt⟩
theorem vM.weak {f:bZ}(h:vM X tg e f):Mx X tg e f:=⟨h.go.weak⟩
theorem NZ:WP X none NN:=⟨NO⟩
theorem LH {f:cc}(h:WO X e f):WP X (some e) (Di f):=⟨LB h.go⟩
end
end DL
namespace DL
open PySem PySem.Spec PyProof.Rows L2
theorem g8 {P:cA}{w:cB}{K:W.Frag}{mg:ck}{base:Heap}{x qual:Str}{st:cG}{f:cE}{fd:cz}{N ps:List Str}{k:Nat}(F:mZ K x qual st f fd) (S:dw N ps (bt st)) {fb:cb}
  (jB:∀(m:Mem) (fS:cx) (A:cC) (outer:List Env) (s:cy) (H:Hp) (E:XK),fR k (A.deeper (envOfC qual (bt st) s.heap.objs.size f fS))->∀C0 H0,sj (oW jt P w K mg base N qual (bt st) f fS A outer s H E).Bp C0 H0 (dk st) fb):
  ef P w K mg base jt (k+1) f fd ps (pK (il N.length ps.length fb)):=JS F S λfS A outer s H E hr C0 H0=>@sj.go Mem.keep _ _ _ _ _ (jB Mem.keep fS A outer s H E hr C0 H0)
variable [Mem]
section
variable {C:Hp}
end
section
variable {C H C' H' C2 H2:Hp}
variable [Mem]
end
section
variable [Mem] {δ:dD}{σ:L2.St}{C H C' H':Hp}
end
variable [Mem]
section
variable {X:Cx}{e a b c:cF}{pos:Pos}
theorem cS {i:Int}{j:Nat}:WD X (.Constant (.int i) j pos) (dC (.int i)):=⟨K5⟩
theorem BN {i:Bool}{j:Nat}:WD X (.Constant (.bool i) j pos) (dC (.bl i)):=⟨ND⟩
theorem hZ {x:Str}{i:Int}{t:Tok}(hg:Gl X x) (hm:X.mg x=some (.int i t)) (hd:(x==("__debug__":Str))=false:=by decide):WD X (.Name x pos) (dC (.int i)):=⟨Ic hg hm hd⟩
theorem iW {f g:cc}(ha:WO X a f) (hb:WO X b g):WD X (.BinOp a .Add b pos) (dA iR f g):=⟨K6 ha.go hb.go⟩
theorem wZ {f g:cc}(ha:WO X a f) (hb:WO X b g):WD X (.BinOp a .Sub b pos) (dA qH f g):=⟨K7 ha.go hb.go⟩
theorem qP {f g:cc}(ha:WO X a f) (hb:WO X b g):WD X (.BinOp a .Mult b pos) (dA ow f g):=⟨K8 ha.go hb.go⟩
theorem Av {f g:cc}(ha:WO X a f) (hb:WO X b g):WD X (.BinOp a .Mod b pos) (dA uW f g):=⟨K9 ha.go hb.go⟩
theorem Aw {op:CmpOp}{o:D->D->Option D}{f g:cc}(c:rS X op o) (ha:WO X a f) (hb:WO X b g) (hm:behindInMarks op b=false:=by first|exact sO _|rfl):WD X (.Compare a [op] [b] pos) (dA o f g):=⟨Lc c ha.go hb.go hm⟩
theorem Ax {f:cc}(h:WD X e f) (he:∀whole,isTrue e X.env whole=(do let v <-whole;standAt e.pos;holding [v] (truthy v)):=by intro _;rfl):WQ X e (qB f):=⟨Ld h.go he⟩
theorem eZ {op:CmpOp}{o:D->D->Option D}{f g:cc}(c:rS X op o) (ha:WO X a f) (hb:WO X b g) (hm:behindInMarks op b=false:=by first|exact sO _|rfl):WQ X (.Compare a [op] [b] pos) (qB (dA o f g)):=⟨Lf c ha.go hb.go hm⟩
theorem tM {f:cf}(ha:WQ X a f):JV X (.BoolOp .And [a] pos) f:=⟨EY ha.go⟩
theorem pR {rest:List cF}{f g:cf}(ha:WQ X a f) (hb:JV X (.BoolOp .And (b::rest) pos) g):JV X (.BoolOp .And (a::b::rest) pos) (m4 f g):=⟨Ie ha.go hb.go⟩
theorem Fh {f:cf}(ha:WQ X a f):WQ X (.UnaryOp .Not a pos) (yf f):=⟨Lh ha.go⟩
theorem LI {op:BoolOp}{f:cc}(h:WD X a f):WD X (.BoolOp op [a] pos) f:=⟨Li h.go⟩
theorem LJ {rest:List cF}{f g:cc}(ha:WD X a f) (hb:WD X (.BoolOp .And (b::rest) pos) g):WD X (.BoolOp .And (a::b::rest) pos) (Dc f g):=⟨Lj ha.go hb.go⟩
theorem yk {q:cf}{f g:cc}(hc:WQ X c q) (ha:WD X a f) (hb:WD X b g):WD X (.IfExp c a b pos) (NI q f g):=⟨EZ hc.go ha.go hb.go⟩
end
section
variable {X:Cx}{e:cF}{es:List cF}{pos p:Pos}{x:Str}
theorem cO:Fg X [] cL:=⟨sf⟩
theorem aY {f:cc}{g:bZ}(ha:WD X e f) (hr:Fg X es g) (hs:starEach (e::es) X.env=(false,eval e X.env)::starEach es X.env:=by exact eB rfl):Fg X (e::es) (aX f g):=⟨pJ ha.go hr.go hs⟩
theorem du:LG X [] cL:=⟨Ih⟩
theorem da {f:cc}{g:bZ}(ha:WO X e f) (hr:LG X es g) (hs:starEach (e::es) X.env=(false,eval e X.env)::starEach es X.env:=by exact eB rfl):LG X (e::es) (aX f g):=⟨E1 ha.go hr.go hs⟩
theorem eN {k:Nat}{f:bZ}(h:Fg X es f):WD X (.Tuple es k pos) (fL f):=⟨Lk h.go⟩
theorem Ay {f:bZ}(h:Fg X es f):WF X (.List es pos) (Af f):=⟨Ll h.go⟩
theorem fW {id:String}{g:cg}{f:bZ}(hc:oG X (.builtin id) g) (hg:Gl X x) (hm:X.mg x=none) (hv:bootBuiltins x=some (.builtin id)) (ha:LG X (e::es) f) (hn:x≠"__name__":=by decide) (ot:(x==("__debug__":Str))=false:=by decide) (he:starEach (e::es) X.env=(false,eval e X.env)::starEach es X.env:=by exact eB rfl) (i9:(backTo pos (starEach es X.env)).any (·.1)=false:=by exact eI rfl):WD X (.Call (.Name x p) (e::es) [] pos) (cM g f):=⟨E2 hc hg hm hv ha.go hn ot he i9⟩
theorem lD {id:String}{g:cv->Option (cv)}{f:bZ}(hc:tm X (.builtin id) g) (hg:Gl X x) (hm:X.mg x=none) (hv:bootBuiltins x=some (.builtin id)) (ha:LG X (e::es) f) (hn:x≠"__name__":=by decide) (ot:(x==("__debug__":Str))=false:=by decide) (he:starEach (e::es) X.env=(false,eval e X.env)::starEach es X.env:=by exact eB rfl) (i9:(backTo pos (starEach es X.env)).any (·.1)=false:=by exact eI rfl):WF X (.Call (.Name x p) (e::es) [] pos) (eQ g f):=⟨E3 hc hg hm hv ha.go hn ot he i9⟩
theorem eJ {T:String}{g:cg}{f:bZ}(hc:oG X (.type T) g) (hg:Gl X x) (hm:X.mg x=none) (hv:bootBuiltins x=some (.type T)) (ha:LG X (e::es) f) (hn:x≠"__name__":=by decide) (ot:(x==("__debug__":Str))=false:=by decide) (he:starEach (e::es) X.env=(false,eval e X.env)::starEach es X.env:=by exact eB rfl) (i9:(backTo pos (starEach es X.env)).any (·.1)=false:=by exact eI rfl):WD X (.Call (.Name x p) (e::es) [] pos) (cM g f):=⟨Dd hc hg hm hv ha.go hn ot he i9⟩
theorem Dm {T:String}{g:cv->Option (cv)}{f:bZ}(hc:tm X (.type T) g) (hg:Gl X x) (hm:X.mg x=none) (hv:bootBuiltins x=some (.type T)) (ha:LG X (e::es) f) (hn:x≠"__name__":=by decide) (ot:(x==("__debug__":Str))=false:=by decide) (he:starEach (e::es) X.env=(false,eval e X.env)::starEach es X.env:=by exact eB rfl) (i9:(backTo pos (starEach es X.env)).any (·.1)=false:=by exact eI rfl):WF X (.Call (.Name x p) (e::es) [] pos) (eQ g f):=⟨De hc hg hm hv ha.go hn ot he i9⟩
end
variable [Mem]
section
variable {B C0 H0 C H C' H':Hp}{δ:dD}{σ:L2.St}
end
section
variable {X:Cx}{C0 H0:Hp}{st:cG}{NJ rest:List cG}{e:cF}{pos:Pos}{f g:cb}
theorem gC:sj X C0 H0 [] kO:=⟨Ik⟩
theorem cX (h:WB X C0 H0 st f):sj X C0 H0 [st] f:=⟨Il h.go⟩
theorem cY (h:WB X C0 H0 st f) (h2:sj X C0 H0 rest g):sj X C0 H0 (st::rest) (eR f g):=⟨E4 h.go h2.go⟩
theorem m7 (i:Nat) (h:sj X C0 H0 NJ f):sj X C0 H0 NJ (rq i f):=⟨E5 i h.go⟩
theorem dN {f:cc}(he:WD X e f):WB X C0 H0 (.Return (some e) pos) (eY f):=⟨Lm he.go⟩
theorem jM (i:Nat) {x:Str}{pos':Pos}{f:cc}(hN:X.N.Nodup) (he:WD X e f) (hi:X.N[i]? =some x:=by rfl) (hx:Loc X.env.scope x:=by first|exact Or.inl rfl|exact Or.inr rfl) (hs:swapsWith e (some (.Name x pos')) pos.line X.env=pure false:=by rfl) (hf:X.fn x=true\/X.env.scope.names.lookup x=some .local:=by first|exact .inl rfl|exact .inr rfl):WB X C0 H0 (.Assign [.Name x pos'] e pos) (lq i f):=⟨Lo i hN he.go hi hx hs hf⟩
theorem nV (i:Nat) {x:Str}{pos':Pos}{f:bZ}(hN:X.N.Nodup) (he:WF X e f) (hi:X.N[i]? =some x:=by rfl) (hx:Loc X.env.scope x:=by first|exact Or.inl rfl|exact Or.inr rfl) (hs:swapsWith e (some (.Name x pos')) pos.line X.env=pure false:=by rfl) (hf:X.fn x=true\/X.env.scope.names.lookup x=some .local:=by first|exact .inl rfl|exact .inr rfl):WB X C0 H0 (.Assign [.Name x pos'] e pos) (ir i f):=⟨Im i hN he.go hi hx hs hf⟩
theorem kU {c:cF}{a b:List cG}{q:cf}(hc:WQ X c q) (ha:sj X C0 H0 a f) (hb:sj X C0 H0 b g):WB X C0 H0 (.If c a b pos) (pq q f g):=⟨NK hc.go ha.go hb.go⟩
end
section
variable {X:Cx}{tg e:cF}
theorem Fj {f:cc}(h:WD X e f):vM X tg e (iL f):=⟨yg h.go⟩
theorem gD {f:cc}(h:WD X e f):vM X tg e (iT f):=⟨BG h.go⟩
theorem BO {f:cc}(h:WO X e f):Mx X tg e (iL f):=⟨Ip h.go⟩
theorem ml {a:cF}{f:bZ}{p pos:Pos}(hg:Gl X "range") (hm:X.mg "range"=none) (ha:Fg X [a] f) (hs:starEach [a] X.env=[(false,eval a X.env)]:=by exact eB rfl):vM X tg (.Call (.Name "range" p) [a] [] pos) (zD f):=⟨Ai hg hm ha.go hs⟩
theorem m8 {C0 H0:Hp}{iter:cF}{body:List cG}{i:bZ}{f:cb}{pos:Pos}{j:Nat}(hp:PassesOwn (model X.prog X.w) X.A X.env X.xe) (hc:X.calm=true) (hi:vM X tg iter i) (hg:PG X tg (vw j)) (hb:sj X C0 H0 body f) (hs:∀x,foldedSetIterable iter X.env x=pure x:=by intro _;rfl):WB X C0 H0 (.For tg iter body [] pos) (oy j i f):=⟨Lq hp hc hi.go hg hb.go hs⟩
end
section
variable {X:Cx}{elt iter:cF}{x:Str}{px pos:Pos}{scope:Scope}{i:bZ}{t:cf}{f:cc}
theorem mn (j:Nat) (hc:X.calm=true) (S:fU X scope x j) (hi:Mx X (.Name x px) iter i) (he:∀cl C s H fp,WD (dg X scope cl C s H fp) elt f) (hs:∀v,foldedSetIterable iter X.env v=pure v:=by intro _;rfl):WF X (.ListComp elt [⟨.Name x px,iter,[],0⟩] scope pos) (eS i j j9 f):=⟨Ir j hc S hi.go (λcl C s H fp=>(he cl C s H fp).go) hs⟩
theorem nW (j:Nat) {c:cF}(hc:X.calm=true) (S:fU X scope x j) (hi:Mx X (.Name x px) iter i) (ht:∀cl C s H fp,WQ (dg X scope cl C s H fp) c t) (he:∀cl C s H fp,WD (dg X scope cl C s H fp) elt f) (hs:∀v,foldedSetIterable iter X.env v=pure v:=by intro _;rfl):WF X (.ListComp elt [⟨.Name x px,iter,[c],0⟩] scope pos) (eS i j t f):=⟨Dh j hc S hi.go (λcl C s H fp=>(ht cl C s H fp).go) (λcl C s H fp=>(he cl C s H fp).go) hs⟩
variable {C0 H0:Hp}{y:Str}{py mS:Pos}
theorem Az (k j:Nat) (hc:X.calm=true) (S:fU X scope x j) (hi:Mx X (.Name x px) iter i) (he:∀cl C s H fp,WD (dg X scope cl C s H fp) elt f) (hN:X.N[k]? =some y:=by rfl) (hy:Loc X.env.scope y:=by first|exact Or.inl rfl|exact Or.inr rfl) (hf:X.fn y=true\/X.env.scope.names.lookup y=some .local:=by first|exact .inl rfl|exact .inr rfl) (CT:swapsWith (.ListComp elt [⟨.Name x px,iter,[],0⟩] scope pos) (some (.Name y py)) mS.line X.env=pure true:=by rfl) (hs:∀v,foldedSetIterable iter X.env v=pure v:=by intro _;rfl):WB X C0 H0 (.Assign [.Name y py] (.ListComp elt [⟨.Name x px,iter,[],0⟩] scope pos) mS) (ir k (eS i j j9 f)):=⟨Ak k j hc S hi.go (λcl C s H fp=>(he cl C s H fp).go) hN hy hf CT hs⟩
theorem w4 (k j:Nat) {c:cF}(hc:X.calm=true) (S:fU X scope x j) (hi:Mx X (.Name x px) iter i) (ht:∀cl C s H fp,WQ (dg X scope cl C s H fp) c t) (he:∀cl C s H fp,WD (dg X scope cl C s H fp) elt f) (hN:X.N[k]? =some y:=by rfl) (hy:Loc X.env.scope y:=by first|exact Or.inl rfl|exact Or.inr rfl) (hf:X.fn y=true\/X.env.scope.names.lookup y=some .local:=by first|exact .inl rfl|exact .inr rfl) (CT:swapsWith (.ListComp elt [⟨.Name x px,iter,[c],0⟩] scope pos) (some (.Name y py)) mS.line X.env=pure true:=by rfl) (hs:∀v,foldedSetIterable iter X.env v=pure v:=by intro _;rfl):WB X C0 H0 (.Assign [.Name y py] (.ListComp elt [⟨.Name x px,iter,[c],0⟩] scope pos) mS) (ir k (eS i j t f)):=⟨wO k j hc S hi.go (λcl C s H fp=>(ht cl C s H fp).go) (λcl C s H fp=>(he cl C s H fp).go) hN hy hf CT hs⟩
end
section
variable {X:Cx}{pins:cm}{σ:L2.St}{C H:Hp}{s:cy}
end
variable [Mem]
section
variable {X:Cx}{a b c e o:cF}{pos:Pos}{f g h:cc}
theorem gj (ha:WO X a f) (hb:WO X b g) (hs:nR b):WD X (.Subscript a b pos) (dA mi f g):=⟨Ly ha.go hb.go hs⟩
end
variable [Mem]
section
variable {X:Cx}{a b c e o:cF}{pos p p2:Pos}{f g h:cc}
theorem w5 {f:bZ}{p' pos':Pos}(hc:X.calm=true) (hg:Gl X "list") (hm:X.mg "list"=none) (QC:Gl X "range") (BK:X.mg "range"=none) (ha:Fg X [a] f) (hs:starEach [a] X.env=[(false,eval a X.env)]:=by exact eB rfl) (he:starEach [.Call (.Name "range" p') [a] [] pos'] X.env=(false,eval (.Call (.Name "range" p') [a] [] pos') X.env)::starEach [] X.env:=by exact eB rfl) (i9:(backTo pos (starEach [] X.env)).any (·.1)=false:=by exact eI rfl):WF X (.Call (.Name "list" p) [.Call (.Name "range" p') [a] [] pos'] [] pos) (zD f):=⟨wQ hc hg hm QC BK ha.go hs he i9⟩
end
variable [Mem]
section
variable {X:Cx}
end
section
variable {X:Cx}{e:cF}{pos:Pos}{C0 H0:Hp}{f:cc}
theorem AA {i:Nat}{o:cF}{apos:Pos}(ho:PE X o (ij i)) (he:WD X e f) (oK:starEach [e] X.env=(false,eval e X.env)::starEach [] X.env:=by exact eB rfl) (pE:attributeBase o "append" X.env (eval o X.env)=eval o X.env:=by rfl) (wH:((backTo pos (starEach [e] X.env)).all (λx=> !x.1)&&(backToKw pos (keywordEach [] X.env)).all (λx=>x.1.isSome)
   &&decide ([e].length+([]:List Keyword).length+(if([]:List Keyword).isEmpty then 0 else 1)<30))=true:=by exact Ig rfl) (pF:(apos.endLine==pos.line)=true:=by rfl) (mf:(backTo pos (starEach [] X.env)).any (·.1)=false:=by exact eI rfl) {pos':Pos}(hs:swapsWith (.Call (.Attribute o "append" apos) [e] [] pos) none pos'.line X.env=pure false:=by rfl):WB X C0 H0 (.Expr (.Call (.Attribute o "append" apos) [e] [] pos) pos') (uY i f):=⟨LD ho he.go oK pE wH pF mf hs⟩
variable {elt o iter:cF}{x y:Str}{px py mS apos fu:Pos}{scope:Scope}{i:bZ}
theorem Iy (k j m:Nat) (hc:X.calm=true) (NW:m≠j) (S:fU X scope x j) (hi:vM X (.Name x px) iter i) (ho:∀cl C s H fp,PE (dg X scope cl C s H fp) o (ij m)) (he:∀cl C s H fp,WD (dg X scope cl C s H fp) e f) (oK:∀cl C s H fp,starEach [e] (dg X scope cl C s H fp).env=(false,eval e (dg X scope cl C s H fp).env)::starEach [] (dg X scope cl C s H fp).env:=by intros;exact eB rfl) (pE:∀cl C s H fp,attributeBase o "pop" (dg X scope cl C s H fp).env (eval o (dg X scope cl C s H fp).env)=eval o (dg X scope cl C s H fp).env:=by intros;rfl) (wH:∀cl C s H fp,((backTo fu (starEach [e] (dg X scope cl C s H fp).env)).all (λx=> !x.1)&&(backToKw fu (keywordEach [] (dg X scope cl C s H fp).env)).all (λx=>x.1.isSome)
   &&decide ([e].length+([]:List Keyword).length+(if([]:List Keyword).isEmpty then 0 else 1)<30))=true:=by intros;exact Ig rfl) (pF:(apos.endLine==fu.line)=true:=by rfl) (mf:∀cl C s H fp,(backTo fu (starEach [] (dg X scope cl C s H fp).env)).any (·.1)=false:=by intros;rfl) (hN:X.N[k]? =some y:=by rfl) (hy:Loc X.env.scope y:=by first|exact Or.inl rfl|exact Or.inr rfl) (hf:X.fn y=true\/X.env.scope.names.lookup y=some .local:=by first|exact .inl rfl|exact .inr rfl) (CT:swapsWith (.ListComp (.Call (.Attribute o "pop" apos) [e] [] fu) [⟨.Name x px,iter,[],0⟩] scope pos) (some (.Name y py)) mS.line X.env=pure true:=by rfl) (hs:∀v,foldedSetIterable iter X.env v=pure v:=by intro _;rfl):WB X C0 H0 (.Assign [.Name y py] (.ListComp (.Call (.Attribute o "pop" apos) [e] [] fu) [⟨.Name x px,iter,[],0⟩] scope pos) mS) (vL k j m i f):=⟨Iw k j m hc NW S hi.go ho (λcl C s H fp=>(he cl C s H fp).go) oK pE wH pF mf hN hy hf CT hs⟩
end
section
variable {X:Cx}{e:cF}{es:List cF}{p pos:Pos}{x:Str}
theorem dh {k:Nat}{g:cg}{fa:bZ}(c:kT X.prog X.w X.K X.mg X.base k x g) (hr:fR k X.A) (hg:Gl X x) (ha:Fg X (e::es) fa) (ot:(x==("__debug__":Str))=false:=by decide) (he:starEach (e::es) X.env=(false,eval e X.env)::starEach es X.env:=by exact eB rfl) (i9:(backTo pos (starEach es X.env)).any (·.1)=false:=by exact eI rfl):WD X (.Call (.Name x p) (e::es) [] pos) (cM g fa):=⟨Ff c hr hg ha.go ot he i9⟩
end
end DL
namespace DL
open PySem PySem.Spec PyProof.Rows L2
variable [Mem]
section
variable {X:Cx}{a b c e o:cF}{pos p p2:Pos}{f g h:cc}
theorem Fl:r9 X (binaryOp .Add) (λx y H Q=>∃a b ys,x=.ref a/\y=.ref b/\hO X.K H a []/\hO X.K H b ys/\Q (.ref b) H):=by
 intro pins s σ H x y v u Q I rx ry h;obtain⟨a,b,ys,rfl,rfl,ha,hb,q⟩:=h;cases rx;cases ry;obtain⟨di,r1,p1,_⟩:=I.tuple ha;obtain⟨eM,r2,p2,_⟩:=I.tuple hb;have e0:di=[]:=by cases r1;rfl
 obtain⟨⟨cls,dd,data,sl⟩,ho,hc,n,hd⟩:=id p1;obtain⟨⟨KN,Hi,data2,EC⟩,rQ,rk,n2,hd2⟩:=id p2;simp only at hc hd rk hd2;subst hc hd rk hd2;exact concat_meets ⟨_,ho,rfl⟩ ⟨_,rQ,rfl⟩ noFill_tuple_add seq_tuple_add PySem.F.slot_tuple_add PySem.F.entry_tuple_add (PySem.F.args_tuple_add_2 _ _)
   (tuple_addW0 a b di.toArray eM.toArray n n2 dd Hi sl EC (by simp[e0])) ⟨ho,rQ,⟨.ref b,H,I,rfl,q⟩⟩
noncomputable def nc:D->D->Option D
 |.tup a,.tup b=>if a.length+b.length<=1000000 then some (.tup (a++b))else none
 |_,_=>none
theorem Iz:JM (λx y H Q=>(∃a b ys,x=.ref a/\y=.ref b/\hO X.K H a []/\hO X.K H b ys/\Q (.ref b) H)\/JH X.K x y H Q) nc:=λC H x y dx dy d Q s ix iy q k=>by
 unfold nc at q;split at q
 ·rename_i ds es;split at q
  ·rename_i hz;cases q;obtain⟨a,xs,rfl,hq,l,hc⟩:=ix.tup (K:=X.K) s;obtain⟨b,ys,rfl,Pl,l2,rk⟩:=iy.tup (K:=X.K) s;cases ds with
   |nil=>
    cases l;exact .inl ⟨a,b,ys,rfl,rfl,hq,Pl,k _ C H (.refl s) (.tup rk l2)⟩
   |cons d0 ds=>
    refine .inr ⟨a,b,xs,ys,rfl,rfl,hq,Pl,(λz=>by rw[z]at l;cases l),by rw[l.length,l2.length];exact aB hz (by decide),λz=>?_,λz t ht=>?_⟩
    ·subst z;cases l2;exact k _ C H (.refl s) (.tup hc (by rw[bC];exact l))
    ·exact k _ _ _ (.new s ht) (.tup cR ((l.append l2).mono (dW (s.free ht))))
  ·cases q
 ·cases q
theorem IA (ha:PO X a f) (hb:PO X b g):PD X (.BinOp a .Add b pos) (dA nc f g):=ye (Fl.or HM) Iz ha hb
theorem IsL.LK {C:Hp}{xs:List V}{ds:cv}(l:IsL C xs ds) {lo hi:Option Int}(h:HT.iP xs.length 0 lo=0/\HT.iP xs.length xs.length hi=xs.length):IsL C xs (cutD ds lo hi):=by
 unfold cutD;rw[<-l.length,h.1,h.2,List.drop_zero,Nat.sub_zero,l.length,List.take_length];exact l
end
end DL
namespace DL
open PySem PySem.Spec PyProof.Rows L2
noncomputable instance:DecidableEq D:=Classical.typeDecidableEq D
mutual
inductive KI (h:Heap):cx->D->Prop where
 |int (n:Int) (t:Tok):KI h (.int n t) (.int n)
 |tup {a:cE}{o:Obj}{items:Array cx}{n:Nat}{ds:cv}:h.get? a=some o->o.cls=.type "tuple"->o.data=.seq items n->o4 h items.toList ds->KI h (.ref a) (.tup ds)
inductive o4 (h:Heap):cw->cv->Prop where
 |nil:o4 h [] []
 |cons {v:cx}{d:D}{vs:cw}{ds:cv}:KI h v d->o4 h vs ds->o4 h (v::vs) (d::ds)
end
theorem o4.length {h:Heap}:∀{vs:cw}{ds:cv},o4 h vs ds->vs.length=ds.length
 |_,_,.nil=>rfl
 |_,_,.cons _ t=>congrArg (·+1) t.length
theorem o4.get {h:Heap}:∀{vs:cw}{ds:cv}{i:Nat}{v:cx},o4 h vs ds->vs[i]? =some v->∃d,ds[i]? =some d/\KI h v d
 |_,_,_,_,.nil,e=>by simp at e
 |_,_,0,_,.cons h _,e=>⟨_,rfl,by simp only[aM,Option.some.injEq]at e;subst e;exact h⟩
 |_,_,i+1,_,.cons _ t,e=>by
  obtain⟨d,h1,h2⟩:=t.get (i:=i) (by simpa using e)
  exact⟨d,by simpa using h1,h2⟩
mutual
theorem KI.inj {h:Heap}:∀{v:cx}{d e:D},KI h v d->KI h v e->d=e
 |_,_,_,.int n t,.int _ _=>rfl
 |_,_,_,.tup h1 h2 h3 l,.tup xQ zB ET l'=>by
  rw[h1]at xQ;cases xQ;rw[h3]at ET;injection ET with e1 _;subst e1
  rw[l.inj l']
theorem o4.inj {h:Heap}:∀{vs:cw}{ds es:cv},o4 h vs ds->o4 h vs es->ds=es
 |_,_,_,.nil,.nil=>rfl
 |_,_,_,.cons h t,.cons h' t'=>by rw[h.inj h',t.inj t']
end
mutual
theorem KI.keeps {h h':Heap}{x:cE}{ox:Obj}{es:Array DictEntry}{ep:Nat}(ho:h.get? x=some ox) (hd:ox.data=.dict es ep) (hs:Heap.SameBut x h h'):∀{v:cx}{d:D},KI h v d->KI h' v d
 |_,_,.int n t=>.int n t
 |_,_,@KI.tup _ a o items n ds h1 h2 h3 l=>by
  have ja:a≠x:=by
   rintro rfl
   rw[ho]at h1;cases h1;rw[hd]at h3;exact nomatch h3
  exact .tup ((hs.2 a ja).trans h1) h2 h3 (o4.keeps ho hd hs l)
theorem o4.keeps {h h':Heap}{x:cE}{ox:Obj}{es:Array DictEntry}{ep:Nat}(ho:h.get? x=some ox) (hd:ox.data=.dict es ep) (hs:Heap.SameBut x h h'):∀{vs:cw}{ds:cv},o4 h vs ds->o4 h' vs ds
 |_,_,.nil=>.nil
 |_,_,.cons h t=>.cons (KI.keeps ho hd hs h) (o4.keeps ho hd hs t)
end
mutual
noncomputable def dX:D->Int
 |.int n=>hashInt n
 |.tup ds=>reduceHash (Builtin.Tuple.tupleHashOf (ke ds))
 |_=>0
noncomputable def ke:cv->cp
 |[]=>[]
 |d::ds=>dX d::ke ds
end
mutual
noncomputable def tN:D->Nat
 |.tup ds=>mO ds+1
 |_=>1
noncomputable def mO:cv->Nat
 |[]=>0
 |d::ds=>tN d+mO ds
end
theorem mq:∀a b:cv,ke (a++b)=ke a++ke b
 |[],b=>by simp[ke]
 |x::a,b=>by simp[ke,mq a b]
theorem mr:∀a b:cv,mO (a++b)=mO a+mO b
 |[],b=>by simp[mO]
 |x::a,b=>by simp[mO,mr a b,Nat.add_assoc]
section
variable {prog:cA}{w:cB}{E:cj}
theorem KI.hash (n:Nat):∀(A:cC) (s:cy) (v:cx) (d:D) (Q:Int->cy->Prop),dI d<=n->A.units+n<cLine->KI s.heap v d->Q (dX d) {s with toks:=s.toks+tN d}->wpAny (model prog w) A (pyHash v) Q E s:=by
 induction n with
 |zero=>
  intro A s v d Q hn hu k h;cases k with
  |int i t=>
   unfold dX tN at h;exact wpAny_pyHash_int h
  |tup h1 h2 h3 l=>unfold dI at hn;omega
 |succ n ih=>
  intro A s v d Q hn hu k h;cases k with
  |int i t=>
   unfold dX tN at h;exact wpAny_pyHash_int h
  |@tup a o items m ds ho hc hd l=>
   have hT:s.TypeIs (.ref a) "tuple":=⟨o,ho,hc⟩;have xT:g7 ds<=n:=by unfold dI at hn;omega
   unfold dX tN at h;unfold pyHash
   first|unfold pyHashByItsType|skip
   first|refine aa (wpAny_cRoomFor_or (.inr (by omega)) ?_)|skip
   refine aa (wpAny_specialOf hT F.slot_tuple_hash.lookup ?_);show wpAny _ _ (if(some (Value.builtin "tuple.__hash__")==some Value.none)=true then _ else _) Q E s
   rw[if_neg (by rw[beq_builtin_none];exact aZ)]
   refine aa (wpAny_specialOf hT F.slot_tuple_hash.lookup ?_);show wpAny _ _ (callSpecialIfBoundUnlessNone? (.ref a) "__hash__" _>>=_) Q E s;refine aa (wpAny_callSpecialIfBoundUnlessNone?_slot hT F.slot_tuple_hash (bN F.slot_tuple_hash hT F.entry_tuple_hash ?_ (F.args_tuple_hash_1 _)));show wpAny _ _ (Builtin.Tuple.tupleItemsOf (.ref a)>>=_) _ _ s;refine aa (wpAny_tupleItemsOf ho hd ?_);refine aa ?_;rw[<-Array.forIn_toList];refine wpAny_forIn_list _
    (λrest (b:Array Int) s'=>∃done left,ds=done++left/\o4 s.heap rest left/\b.toList=ke done/\s'={s with toks:=s.toks+mO done})
    _ ?_ ?_ _ _ ⟨[],ds,rfl,l,by simp[ke],by simp[mO]⟩
   ·rintro x rest b s' ⟨done,left,rfl,hl,hb,rfl⟩
    cases hl with
    |@cons _ k _ N0 h1 gF=>
     have hk:dI k<=n:=aB (iV (aL _ af)) xT;refine aa (ih _ {s with toks:=s.toks+mO done} x k _ hk ?_ h1 ?_)
     ·show A.units+1+n<cLine;omega
     ·first
       |exact aj ⟨done++[k],N0,by simp,gF,by simp[hb,mq,ke],by simp[Nat.add_assoc,mr,mO]⟩
       |exact aa (aj (aj ⟨done++[k],N0,by simp,gF,by simp[hb,mq,ke],by simp[Nat.add_assoc,mr,mO]⟩))
   ·rintro b s' ⟨done,left,rfl,hl,hb,rfl⟩
    cases hl;rw[bC]at h;show wpAny _ _ (retInt (Builtin.Tuple.tupleHashOf b.toList)) _ _ _;rw[hb];refine wpAny_ret_mkInt ?_;show wpAny _ _ (if(decide (-(2:Int)^63<=Builtin.Tuple.tupleHashOf (ke done))&&decide (Builtin.Tuple.tupleHashOf (ke done)<2^63))=true then _ else _) Q E _
    unfold reduceHash at h;by_cases hr:(decide (-(2:Int)^63<=Builtin.Tuple.tupleHashOf (ke done))&&decide (Builtin.Tuple.tupleHashOf (ke done)<2^63))=true
    ·rw[if_pos hr];rw[if_pos hr]at h;exact aj (by simpa [Nat.add_assoc]using h)
    ·rw[if_neg hr];rw[if_neg hr]at h;exact aa (wpAny_rule (aj (by simpa [Nat.add_assoc]using h)))
theorem KI.eq (n:Nat):∀(A:cC) (s:cy) (u v:cx) (d e:D),dI d<=n->A.units+n<cLine->KI s.heap u d->KI s.heap v e->SeqAt.EqAt A s u v (dz d e):=by
 induction n with
 |zero=>
  intro A s u v d e hn hu ku kv;have gE:A.units<cLine:=by omega
  cases ku with
  |int i t=>
   cases kv with
   |int j t'=>unfold dz;exact SeqAt.EqAt.int_int i t j t'
   |@tup b o2 fT n2 es rQ rk hd2 l2=>unfold dz;exact SeqAt.EqAt.int_tuple i t (items:=fT) ⟨o2,rQ,rk,n2,hd2⟩ gE
  |tup h1 h2 h3 l=>unfold dI at hn;omega
 |succ n ih=>
  intro A s u v d e hn hu ku kv;have gE:A.units<cLine:=by omega
  cases ku with
  |int i t=>
   cases kv with
   |int j t'=>unfold dz;exact SeqAt.EqAt.int_int i t j t'
   |@tup b o2 fT n2 es rQ rk hd2 l2=>unfold dz;exact SeqAt.EqAt.int_tuple i t (items:=fT) ⟨o2,rQ,rk,n2,hd2⟩ gE
  |@tup a o items m ds ho hc hd l=>
   have xT:g7 ds<=n:=by unfold dI at hn;omega
   have p1:IsTup s.heap a items:=⟨o,ho,hc,m,hd⟩;cases kv with
   |int j t'=>unfold dz;exact SeqAt.EqAt.tuple_int j t' p1 gE
   |@tup b o2 fT n2 es rQ rk hd2 l2=>
    have p2:IsTup s.heap b fT:=⟨o2,rQ,rk,n2,hd2⟩;by_cases BH:a=b
    ·subst BH;have e:=KI.inj (KI.tup ho hc hd l) (KI.tup rQ rk hd2 l2);rw[<-e,m5];exact SeqAt.EqAt.same _
    ·have hits:∀j (h1:j<items.size) (h2:j<fT.size),SeqAt.EqAt A.in1 s items[j] fT[j] (dz (ds.getD j .fO) (es.getD j .fO)):=λj h1 h2=>by
      obtain⟨d1,e1,i1⟩:=l.get (i:=j) (v:=items[j]) (by simp[h1])
      obtain⟨d2,e2,i2⟩:=l2.get (i:=j) (v:=fT[j]) (by simp[h2])
      rw[ak,ak,e1,e2];exact ih A.in1 s _ _ d1 d2 (aB (iV (bh e1)) xT) (by show A.units+1+n<cLine;omega) i1 i2
     have q:=SeqAt.RcAt.tuples p1 p2 gE hits;have z1:items.size=ds.length:=by rw[<-aN,l.length]
     have z2:fT.size=es.length:=by rw[<-aN,l2.length]
     unfold dz;rw[jC];rw[z1,z2]at q;exact SeqAt.EqAt.of_refs BH q
mutual
theorem KI.dz {h h':Heap}:∀{u v:cx}{d e:D},KI h u d->KI h' v e->dz d e=decide (d=e)
 |_,_,_,_,.int i t,.int j t'=>by unfold DL.dz;by_cases e:i=j<;>simp[e]
 |_,_,_,_,.int i t,.tup _ _ _ _=>by unfold DL.dz;simp
 |_,_,_,_,.tup _ _ _ _,.int j t'=>by unfold DL.dz;simp
 |_,_,_,_,.tup _ _ _ l,.tup _ _ _ l'=>by
  unfold DL.dz;rw[o4.jK l l'];simp
theorem o4.jK {h h':Heap}:∀{us vs:cw}{ds es:cv},o4 h us ds->o4 h' vs es->jK ds es=decide (ds=es)
 |_,_,_,_,.nil,.nil=>by unfold DL.jK;simp
 |_,_,_,_,.nil,.cons _ _=>by unfold DL.jK;simp
 |_,_,_,_,.cons _ _,.nil=>by unfold DL.jK;simp
 |_,_,_,_,.cons a b,.cons a' b'=>by
  unfold DL.jK;rw[KI.dz a a',o4.jK b b'];simp[Bool.decide_and]
end
theorem KI.quiet (n:Nat):∀(A:cC) (s:cy) (u:cx) (d:D) (Q:Bool->cy->Prop),dI d<=n->KI s.heap u d->Q true s->wpAny (model prog w) A (eqIsQuiet n u) Q E s:=by
 induction n with
 |zero=>
  intro A s u d Q hn k h;cases k with
  |int i t=>rw[eqIsQuiet_byValue _ rfl];exact aj h
  |tup h1 h2 h3 l=>unfold dI at hn;omega
 |succ n ih=>
  intro A s u d Q hn k h;cases k with
  |int i t=>rw[eqIsQuiet_byValue _ rfl];exact aj h
  |@tup a o items m ds ho hc hd l=>
   have hT:s.TypeIs (.ref a) "tuple":=⟨o,ho,hc⟩;have xT:g7 ds<=n:=by unfold dI at hn;omega
   unfold eqIsQuiet;refine aa (wpAny_specialOf hT F.slot_tuple_eq.lookup ?_);show wpAny _ _ (isInstance (.ref a) (.type "tuple")>>=_) _ _ s;refine aa (wpAny_isInstance hT isSubtype_tuple_tuple ?_);simp only[bU,aH,bE];refine aa (wpAny_seqItems ho hd ?_);refine aa ?_;show wpAny _ _ (forIn items _ _) _ _ s;rw[<-Array.forIn_toList];refine wpAny_forIn_list _ (λrest r s'=>r.1=none/\s'=s/\∃es,(∀e∈es,dI e<=n)/\o4 s.heap rest es) _ ?_ ?_ _ _ ⟨rfl,rfl,ds,λe he=>aB (iV he) xT,l⟩
   ·rintro v rest r s' ⟨hr,rfl,es,he,hk⟩
    cases hk with
    |cons k1 k2=>
     refine aa (ih A s' v _ _ (he _ af) k1 ?_);simp only[bU,aH,bE];exact aj ⟨rfl,rfl,_,λe h=>he e (ai _ h),k2⟩
   ·rintro⟨r1,r2⟩ s' ⟨hr,rfl,_⟩
    simp only at hr;subst hr;exact aj h
end
noncomputable def jV (prog:cA) (w:cB):HeapKind prog w D where
 is:=λh d a=>KI h (.ref a) d/\dI d<=4
 hash:=dX
 draws:=tN
 room:=λA=>A.units+8<cLine
 inj:=λhx hy=>hx.1.inj hy.1
 keeps:=λx ho hd hs=>⟨x.1.keeps ho hd hs,x.2⟩
 pyHash:=λhu hk h=>KI.hash 4 _ _ _ _ _ hk.2 (by omega) hk.1 h
 eqBool:=λhu hx hy h=>KI.eq 4 _ _ _ _ _ _ hx.2 (by omega) hx.1 hy.1 _ _ _ _ (by rw[KI.dz hx.1 hy.1];exact h)
 quiet:=λhk h=>KI.quiet 8 _ _ _ _ _ (aB hk.2 (by decide)) hk.1 h
end DL
namespace DL
open PySem PySem.Spec PyProof.Rows L2
mutual
noncomputable def ng:D->Bool
 |.int _=>true
 |.tup ds=>lE ds
 |_=>false
noncomputable def lE:cv->Bool
 |[]=>true
 |d::ds=>ng d&&lE ds
end
section
variable {X:Cx}{pins:cm}{σ:L2.St}{C H:Hp}{s:cy}
mutual
theorem Is.ki (I:Inv X pins σ H s) (sub:dF C H):∀(d:D) {v:V}{u:cx},ng d=true->Is C v d->RelV v u->KI s.heap u d
 |.int i,_,_,_,is,ru=>by
  cases is;obtain⟨t,rfl⟩:=ru;exact .int i t
 |.tup ds,_,_,hk,is,ru=>by
  cases is with
  |tup h l=>
   cases ru;obtain⟨di,r,⟨o,ho,hc,n,hd⟩,_⟩:=I.tuple (hO.of (K:=X.K) (sub _ _ h));unfold ng at hk;exact .tup ho hc hd (by have:=IsL.Sm I sub ds hk l r;simpa using this)
 |.fO,_,_,hk,_,_=>by unfold ng at hk;cases hk
 |.bl _,_,_,hk,_,_=>by unfold ng at hk;cases hk
 |.str _,_,_,hk,_,_=>by unfold ng at hk;cases hk
 |.lst _,_,_,hk,_,_=>by unfold ng at hk;cases hk
theorem IsL.Sm (I:Inv X pins σ H s) (sub:dF C H):∀(ds:cv) {vs:List V}{us:cw},lE ds=true->IsL C vs ds->Vals vs us->o4 s.heap us ds
 |[],_,_,_,l,r=>by
  cases l;cases r;exact .nil
 |d::ds,_,_,hk,l,r=>by
  cases l with
  |cons h t=>
   cases r with
   |cons r rs=>
    unfold lE at hk;rw[Bool.and_eq_true]at hk;exact .cons (Is.ki I sub d hk.1 h r) (IsL.Sm I sub ds hk.2 t rs)
end
end
structure jb where
 W:D->Option D
 enc:D->Nat
 N:Nat
 hN:N<=1000000
 lt:∀k d,W k=some d->enc k<N
 inj:∀k k' d d',W k=some d->W k'=some d'->enc k=enc k'->k=k'
 key:∀k d,W k=some d->ng k=true/\dI k<=4
noncomputable def kW (a:cE) (xs:List (D×cE×cx)):Heap->Prop:=λh=>∃o es ep,h.get? a=some o/\o.ExactDict/\o.data=.dict es ep/\es.toList=xs.map (λx=>(⟨dX x.1,.ref x.2.1,x.2.2⟩:DictEntry))/\(xs.map (·.1)).Nodup
structure dY (a:cE) (M:jb) (C H:Hp) (xs:List (D×cE×cx)):Prop where
 h:H a=some (.ext (kW a xs))
 c:C a=none
 sm:(a==sysModules)=false
 nd:(xs.map (·.1)).Nodup
 ent:∀x∈xs,Is C (.ref x.2.1) x.1/\∃v d,RelV v x.2.2/\Is C v d/\M.W x.1=some d
theorem vN:∀(N:Nat) (l:List Nat),l.Nodup->(∀x∈l,x<N)->l.length<=N
 |0,l,_,h=>by
  cases l with
  |nil=>exact au _
  |cons a r=>exact absurd (h a af) (Nat.not_lt_zero _)
 |N+1,l,nd,h=>by
  have h1:=vN N (l.erase N) (nd.erase N) (λx hx=>by
   have:=(nd.mem_erase_iff.mp hx);have:=h x this.2;omega)
  have h2:l.length<=(l.erase N).length+1:=by
   rw[List.length_erase];split<;>omega
  omega
theorem dY.len {a:cE}{M:jb}{C H:Hp}{xs:List (D×cE×cx)}(m:dY a M C H xs):xs.length<=M.N:=by
 have h:=vN M.N (xs.map λx=>M.enc x.1) ?_ ?_
 ·simpa using h
 ·have nd:=m.nd;rw[List.Nodup,List.pairwise_map]at nd ⊢;refine List.Pairwise.imp_of_mem (λ{x y} hx hy ja he=>?_) nd
  obtain⟨_,v,d,_,_,w1⟩:=m.ent x hx;obtain⟨_,v',d',_,_,w2⟩:=m.ent y hy;exact ja (M.inj _ _ _ _ w1 w2 he)
 ·intro n hn;obtain⟨x,hx,rfl⟩:=List.mem_map.mp hn;obtain⟨_,v,d,_,_,w1⟩:=m.ent x hx;exact M.lt _ _ w1
section
variable {a:cE}{M:jb}{C H C' H':Hp}{xs:List (D×cE×cx)}
theorem dY.N1 (m:dY a M C H xs) (e:m3 C H C' H'):dY a M C' H' xs where
 h:=e.h _ _ m.h
 c:=by
  cases q:C' a with
  |none=>rfl
  |some u=>
   rcases e.n a u q with z|z
   ·rw[m.c]at z;cases z
   ·rw[m.h]at z;cases z
 sm:=m.sm
 nd:=m.nd
 ent:=λx hx=>let ⟨h1,v,d,h2,h3,h4⟩:=m.ent x hx;⟨h1.mono e.c,v,d,h2,h3.mono e.c,h4⟩
theorem dY.Dp (m:dY a M C H xs) {b:cE}{o:HO}(hb:b≠a):dY a M C (upd H b o) xs where
 h:=by rw[cK (Ne.symm hb)];exact m.h
 c:=m.c
 sm:=m.sm
 nd:=m.nd
 ent:=m.ent
theorem dY.Dq (m:dY a M C H xs) {b:cE}{o:HO}(hb:b≠a) (hc:C b=none):dY a M (upd C b o) H xs where
 h:=m.h
 c:=by rw[cK (Ne.symm hb)];exact m.c
 sm:=m.sm
 nd:=m.nd
 ent:=λx hx=>let ⟨h1,v,d,h2,h3,h4⟩:=m.ent x hx;⟨h1.mono (dW hc),v,d,h2,h3.mono (dW hc),h4⟩
theorem dY.ne (m:dY a M C H xs) {b:cE}(h:∀u,H b=some u->zA u=false):b≠a:=λz=>by
 subst z;have:=h _ m.h;cases this
theorem dY.My (m:dY a M C H xs) {b:cE}(h:H b=none):b≠a:=λz=>by
 subst z;rw[m.h]at h;cases h
end
section
variable {X:Cx}{M:jb}{a:cE}{pins:cm}{σ:L2.St}{C H:Hp}{s:cy}{xs ys:List (D×cE×cx)}
theorem dY.dict (I:Inv X pins σ H s) (sub:dF C H) (m:dY a M C H xs):s.heap.DictOfH (jV X.prog X.w) a xs:=by
 obtain⟨⟨o,es,ep,h1,h2,h3,h4,h5⟩,_⟩:=I.fC a _ m.h;exact⟨o,es,ep,h1,h2,h3,h4,λx hx=>by
  obtain⟨h1,v,d,_,_,w⟩:=m.ent x hx;obtain⟨k1,k2⟩:=M.key _ _ w;exact⟨Is.ki I sub _ k1 h1 rfl,k2⟩,h5⟩
theorem dY.keys_eq (I:Inv X pins σ H s) (sub:dF C H) (m:dY a M C H xs) (m':dY a M C H ys):xs.map (·.1)=ys.map (·.1):=by
 obtain⟨o,es,ep,h1,h2,h3,h4,h5,h6⟩:=m.dict I sub;obtain⟨o',Bm,Kn,xQ,zB,ET,Ib,Sn,UM⟩:=m'.dict I sub;rw[h1]at xQ;cases xQ;rw[h3]at ET;injection ET with e1 _;subst e1
 rw[h4]at Ib;clear h1 h2 zB h3 h4 h6 UM m m';induction xs generalizing ys with
 |nil=>cases ys with
  |nil=>rfl
  |cons _ _=>cases Ib
 |cons x xs ih=>
  cases ys with
  |nil=>cases Ib
  |cons y ys=>
   rw[aE,aE]at Ib;injection Ib with e1 e2
   have ea:x.2.1=y.2.1:=by
    have:(entryOfKey (jV X.prog X.w) x).key=(entryOfKey (jV X.prog X.w) y).key:=congrArg DictEntry.key e1;injection this
   have k1:=(h5 x af).1;have k2:=(Sn y af).1;rw[ea]at k1;rw[aE,aE,k1.inj k2,ih (λx hx=>h5 x (ai _ hx)) (λx hx=>Sn x (ai _ hx)) e2]
theorem qQ {xs:List (D×cE×cx)}{k:D}:(atKey xs k).isSome=true↔k∈xs.map (·.1):=by
 unfold atKey;rw[Option.isSome_map,List.find?_isSome];constructor
 ·rintro⟨x,hx,e⟩
  exact List.mem_map.mpr ⟨x,hx,by simpa using e⟩
 ·intro h;obtain⟨x,hx,e⟩:=List.mem_map.mp h;exact⟨x,hx,by simpa using e⟩
theorem Dr {xs:List (D×cE×cx)}{k:D}{p:cE×cx}(h:atKey xs k=some p):(k,p)∈xs:=by
 unfold atKey at h;cases q:xs.find? (λx=>decide (x.1=k))with
 |none=>rw[q]at h;cases h
 |some x=>
  rw[q]at h;cases h;have h1:=List.mem_of_find?_eq_some q;have h2:=List.find?_some q;have h3:x.1=k:=by simpa using h2
  rw[<-h3];exact h1
noncomputable def LL (a:cE) (M:jb):R2:=λx y H Q=>∃C ds xs,dF C H/\Is C x (.tup ds)/\ng (.tup ds)=true/\dI (.tup ds)<=4/\y=.ref a/\dY a M C H xs/\Q (.bl (!(atKey xs (.tup ds)).isSome)) H
theorem w6 (hu:X.A.units+64<cLine):r9 X (compareOp .NotIn) (LL a M):=by
 intro pins s σ H x y v u Q I rx ry h;obtain⟨C,ds,xs,sub,is,hk,hd,rfl,m,q⟩:=h;cases is with
 |@tup p ws _ hp l=>
  cases rx;cases ry;have zN:(jV X.prog X.w).is s.heap (.tup ds) p:=⟨Is.ki I sub _ hk (.tup hp l) rfl,hd⟩;have hm:=m.dict I sub;show wpAny _ _ (do return .bool (!(<-contains (.ref a) (.ref p)))) (EP X pins σ Q) X.xe s
  refine aa ?_;unfold contains;try with_reducible refine bo ?_
  refine aa (wpAny_specialOf hm.typeIs slot_dict_contains.lookup ?_);show wpAny _ _ (if(some (Value.builtin "dict.__contains__")==some Value.none)=true then _ else _) _ X.xe s
  rw[if_neg (by rw[beq_builtin_none];exact aZ)]
  refine aa (wpAny_callSpecialUnlessNone?_slot (name:=Str.ofString "__contains__") hm.typeIs slot_dict_contains
   (bN slot_dict_contains hm.typeIs entry_dict_contains ?_ (args_dict_contains _ _)))
  show wpAny _ _ (dictGet a (.ref p)>>=_) _ _ s;have gZ:(jV X.prog X.w).room X.A.in1:=by show X.A.units+1+8<cLine;omega
  refine aa (wpAny_dictGet_heap gZ zN hm ?_);cases hf:atKey xs (.tup ds)with
  |some p'=>
   rw[hf]at q;show wpAny _ _ (ret (.bool true)) _ _ _;exact aj ⟨_,rfl,bR (aj ⟨.bl _,H,I.tok _,rfl,q⟩)⟩
  |none=>
   rw[hf]at q;show wpAny _ _ (Builtin.Dict.pendingKey? a (.ref p)>>=_) _ _ _;exact aa (wpAny_pendingKey_other m.sm (aj ⟨_,rfl,bR (aj ⟨.bl _,H,I.tok _,rfl,q⟩)⟩))
noncomputable def N4 (a:cE) (M:jb):R2:=λx y H Q=>∃C ds xs,dF C H/\x=.ref a/\Is C y (.tup ds)/\ng (.tup ds)=true/\dI (.tup ds)<=4/\dY a M C H xs/\D.tup ds∈xs.map (·.1)/\∀v d,M.W (.tup ds)=some d->Is C v d->Q v H
theorem IB (hu:X.A.units+64<cLine):EF X (N4 a M):=by
 intro value slice pins s σ H x y v u Q I rx ry h hs;obtain⟨C,ds,xs,sub,rfl,is,hk,hd,m,j0,q⟩:=h;cases is with
 |@tup p ws _ hp l=>
  cases rx;cases ry;have zN:(jV X.prog X.w).is s.heap (.tup ds) p:=⟨Is.ki I sub _ hk (.tup hp l) rfl,hd⟩;have hm:=m.dict I sub;have gZ:(jV X.prog X.w).room X.A.in1:=by show X.A.units+1+8<cLine;omega
  cases hf:atKey xs (.tup ds)with
  |none=>
   have:=qQ.mpr j0;rw[hf]at this;cases this
  |some pv=>
   obtain⟨_,v',d,r,i,w⟩:=m.ent _ (Dr hf);exact tail_any (ops:=[.ref a,.ref p]) hm.typeIs slot_dict_getitem.lookup (wpAny_getItem_heap gZ zN hm hf ⟨v',H,I.tok _,r,q v' d w i⟩) hs
theorem tR {xs:List (D×cE×cx)}{k:D}{v:cx}:(xs.map (putAt k v)).map (·.1)=xs.map (·.1):=by
 rw[aV];apply bT
 intro x _;unfold putAt;simp only[Function.comp_apply];split<;>rfl
noncomputable def N5 (a:cE) (M:jb):Hu:=λo i v H Q=>∃C ds d xs,dF C H/\o=.ref a/\Is C i (.tup ds)/\Is C v d/\M.W (.tup ds)=some d/\dY a M C H xs/\
 ∀ys,dY a M C (upd H a (.ext (kW a ys))) ys->(∀k,(∃zs,dY a M C H zs/\k∈zs.map (·.1))->k∈ys.map (·.1))->D.tup ds∈ys.map (·.1)->Q (upd H a (.ext (kW a ys)))
theorem Fm (hu:X.A.units+64<cLine):MP X (N5 a M):=by
 intro pins s σ H o i v ov iv u Q I ro ri rv h;obtain⟨C,ds,d,xs,sub,rfl,is,Sq,hw,m,q⟩:=h;obtain⟨hk,hd⟩:=M.key _ _ hw;cases is with
 |@tup p ws _ hp l=>
  cases ro;cases ri;have zN:(jV X.prog X.w).is s.heap (.tup ds) p:=⟨Is.ki I sub _ hk (.tup hp l) rfl,hd⟩;have hm:=m.dict I sub;have gZ:(jV X.prog X.w).room X.A.in1:=by show X.A.units+1+8<cLine;omega
  refine wpAny_setItem_heap gZ zN hm (λh' BK EN=>?_) (aB m.len (aB M.hN (by decide)))
  have keys:(storedH xs (.tup ds) p u).map (·.1)=if(atKey xs (.tup ds)).isSome then xs.map (·.1)else xs.map (·.1)++[.tup ds]:=by
   unfold storedH;split
   ·exact tR
   ·simp
  have j0:D.tup ds∈(storedH xs (.tup ds) p u).map (·.1):=by
   rw[keys];split
   ·rename_i hh;exact qQ.mp hh
   ·exact aL _ af
  have hold:∀k∈xs.map (·.1),k∈(storedH xs (.tup ds) p u).map (·.1):=λk h=>by
   rw[keys];split
   ·exact h
   ·exact bD _ h
  obtain⟨oo,es,ep,g1,g2,g3,g4,g5,g6⟩:=BK;have m':dY a M C (upd H a (.ext (kW a (storedH xs (.tup ds) p u)))) (storedH xs (.tup ds) p u):=by
   refine⟨cR,m.c,m.sm,g6,λx hx=>?_⟩
   unfold storedH at hx;split at hx
   ·obtain⟨y,hy,rfl⟩:=List.mem_map.mp hx;obtain⟨h1,v',d',r,i',w⟩:=m.ent y hy;unfold putAt;split
    ·rename_i e;refine⟨h1,v,d,rv,Sq,?_⟩;show M.W y.1=some d;rw[e];exact hw
    ·exact⟨h1,v',d',r,i',w⟩
   ·rcases List.mem_append.mp hx with hx|hx
    ·exact m.ent x hx
    ·rw[bu]at hx;subst hx;exact⟨.tup hp l,v,d,rv,Sq,hw⟩
  have ok:gA X.prog X.w (upd H a (.ext (kW a (storedH xs (.tup ds) p u)))) h' a (.ext (kW a (storedH xs (.tup ds) p u))):=
   ⟨⟨oo,es,ep,g1,g2,g3,g4,g6⟩,⟨oo,g1⟩,λh1 h2 ⟨o1,e1,p1,q1,q2⟩ st=>⟨o1,e1,p1,st _ q1,q2⟩⟩
  refine⟨_,I.write (e:=a) (by rw[m.h];exact trivial) (.inl rfl) (λb ob hb hq=>(EN.2 b hb).trans hq) ⟨oo,g1⟩ ok,q _ m' (λk ⟨zs,mz,hz⟩=>hold k (by rw[m.keys_eq I sub mz];exact hz)) j0⟩
end
end DL
namespace DL
open PySem PySem.Spec PyProof.Rows L2
def Ds (δ' δ:dD):Prop:=δ'.length=δ.length/\∀(i:Nat) (s:Sl),δ'[i]? =some s->s=.no\/δ[i]? =some s\/∃ks N0,s=.memo N0/\δ[i]? =some (.memo ks)/\∀k∈N0,k∈ks
section
variable [Mem] {δ δ':dD}{σ:L2.St}{B C0 H0 C H:Hp}
theorem Ds.own (w:Ds δ' δ) {i:Nat}{ds:cv}(q:δ'[i]? =some (.own ds)):δ[i]? =some (.own ds):=by
 rcases w.2 i _ q with z|z|⟨_,_,z,_⟩
 ·cases z
 ·exact z
 ·cases z
theorem Sx.weak (x:Sx δ σ C H) (w:Ds δ' δ):Sx δ' σ C H where
 sub:=x.sub
 dat:=λi d q=>by
  rcases w.2 i _ q with z|z|⟨_,_,z,_⟩
  ·cases z
  ·exact x.dat i d z
  ·cases z
 own:=λi ds q=>x.own i ds (w.own q)
 wK:=λi j ds es a q1 q2 q3 q4=>x.wK i j ds es a (w.own q1) (w.own q2) q3 q4
 len:=w.1.trans x.len
 mem:=λi ks q=>by
  rcases w.2 i _ q with z|z|⟨UN,YI,z,z2,z3⟩
  ·cases z
  ·exact x.mem i ks z
  ·cases z;obtain⟨a,h1,h2,h3,h4⟩:=x.mem i UN z2;exact⟨a,h1,h2,h3,λk hk=>h4 k (z3 k hk)⟩
theorem Gd.weak (g:Gd B C0 H0 δ σ C H) (w:Ds δ' δ):Gd B C0 H0 δ' σ C H:=⟨g.b,g.ev,g.x.weak w,λk ds a q1 q2=>g.fr k ds a (w.own q1) q2⟩
theorem Sx.BP (x:Sx δ σ C H) {i:Nat}{ks:cv}{k:D}(hi:δ[i]? =some (.memo ks)) (hk:Mem.has C H k):Sx (δ.set i (.memo (k::ks))) σ C H where
 sub:=x.sub
 dat:=λj d q=>by
  rcases getElem?_set_cases q with⟨rfl,e⟩|⟨hj,e⟩
  ·cases e
  ·exact x.dat j d e
 own:=λj ds q=>by
  rcases getElem?_set_cases q with⟨rfl,e⟩|⟨hj,e⟩
  ·cases e
  ·exact x.own j ds e
 wK:=λj l ds es a q1 q2 q3 q4=>by
  rcases getElem?_set_cases q1 with⟨_,e⟩|⟨_,e1⟩
  ·cases e
  rcases getElem?_set_cases q2 with⟨_,e⟩|⟨_,e2⟩
  ·cases e
  exact x.wK j l ds es a e1 e2 q3 q4
 len:=by simp[x.len]
 mem:=λj ls q=>by
  rcases getElem?_set_cases q with⟨rfl,e⟩|⟨hj,e⟩
  ·cases e;obtain⟨a,h1,h2,h3,h4⟩:=x.mem j ks hi;refine⟨a,h1,h2,h3,λc hc=>?_⟩
   rcases List.mem_cons.mp hc with rfl|hc
   ·exact hk
   ·exact h4 c hc
  ·exact x.mem j ls e
theorem Gd.BP (g:Gd B C0 H0 δ σ C H) {i:Nat}{ks:cv}{k:D}(hi:δ[i]? =some (.memo ks)) (hk:Mem.has C H k):Gd B C0 H0 (δ.set i (.memo (k::ks))) σ C H:=
 ⟨g.b,g.ev,g.x.BP hi hk,λj ds a q1 q2=>by
  rcases getElem?_set_cases q1 with⟨_,e⟩|⟨_,e⟩
  ·cases e
  ·exact g.fr j ds a e q2⟩
end
noncomputable def forget (fs:List Nat) (δ:dD):dD:=fs.foldl (λδ i=>δ.set i .no) δ
theorem lu:∀(fs:List Nat) (δ:dD),(forget fs δ).length=δ.length
 |[],_=>rfl
 |i::fs,δ=>by
  show(forget fs (δ.set i .no)).length=_;rw[lu fs,List.length_set]
theorem tT:∀(fs:List Nat) (δ:dD) (i:Nat) (s:Sl),(forget fs δ)[i]? =some s->s=.no\/δ[i]? =some s
 |[],_,_,_,h=>.inr h
 |j::fs,δ,i,s,h=>by
  rcases tT fs (δ.set j .no) i s h with z|z
  ·exact .inl z
  ·rcases getElem?_set_cases z with⟨_,e⟩|⟨_,e⟩
   ·exact .inl e
   ·exact .inr e
theorem ym (fs:List Nat) (δ:dD) (i:Nat) (k:D) (ks:cv):Ds ((forget fs δ).set i (.memo [k])) (δ.set i (.memo (k::ks))):=by
 refine⟨by simp[lu],λj s q=>?_⟩
 rcases getElem?_set_cases q with⟨rfl,e⟩|⟨hj,e⟩
 ·have hl:j<δ.length:=by have:=Ad q;rwa [lu]at this
  exact .inr (.inr ⟨k::ks,[k],e,by rw[bc hl],λc hc=>by rw[bu]at hc;subst hc;exact af⟩)
 ·rcases tT fs δ j s e with z|z
  ·exact .inl z
  ·exact .inr (.inl (by rw[aF (Ne.symm hj)];exact z))
open Classical in
noncomputable def pV (i:Nat) (fs:List Nat) (fk:cc) (fb:cb):cb:=λδ=>match δ[i]?,fk δ,fb δ with
 |some (.memo _),some (.tup ds),some (.next δ2)=>if ng (.tup ds)=true/\dI (.tup ds)<=4/\Ds ((forget fs δ).set i (.memo [.tup ds])) δ2 then some (.next ((forget fs δ).set i (.memo [.tup ds])))else none
 |_,_,_=>none
noncomputable def nh (M:jb) (i:Nat) (fk:cc):cc:=λδ=>match δ[i]?,fk δ with
 |some (.memo ks),some (.tup ds)=>if ng (.tup ds)=true/\dI (.tup ds)<=4/\D.tup ds∈ks then M.W (.tup ds)else none
 |_,_=>none
noncomputable def ni (M:jb) (i:Nat) (fk fe:cc):cb:=λδ=>match δ[i]?,fk δ,fe δ with
 |some (.memo ks),some (.tup ds),some d=>if M.W (.tup ds)=some d then some (.next (δ.set i (.memo (.tup ds::ks))))else none
 |_,_,_=>none
section
variable {X:Cx}{a:cE}{M:jb}{C0 H0:Hp}{e k o:cF}{body:List cG}{pos pos' p p2:Pos}{i:Nat}
end
end DL
namespace DL
open PySem PySem.Spec PyProof.Rows L2
section
variable {X:Cx}{e:cF}{es:List cF}{p pos:Pos}{x:Str}{a:cE}{M:jb}
end
noncomputable def startM (n np j:Nat) (ds:cv):dD:=(ds.take j).map Sl.dat++.memo []::(ds.drop j).map Sl.dat++List.replicate (n-np) Sl.no
theorem o5 {n np j:Nat}{ds:cv}(hl:ds.length+1=np) (hj:j<np) (i:Nat):(startM n np j ds)[i]? =if i<j then(ds[i]?).map Sl.dat else if i=j then some (.memo [])else if i<np then(ds[i-1]?).map Sl.dat else if i<np+(n-np)then some .no else none:=by
 unfold startM;have l1:((ds.take j).map Sl.dat).length=j:=by rw[ae,bK];omega
 have l2:((ds.drop j).map Sl.dat).length=ds.length-j:=by rw[ae,List.length_drop]
 rw[List.append_assoc];by_cases h1:i<j
 ·rw[if_pos h1,aJ (by omega),av,List.getElem?_take_of_lt h1]
 ·rw[if_neg h1,aP (by omega),l1]
  by_cases h2:i=j
  ·subst h2;rw[if_pos rfl,Nat.sub_self];rfl
  ·rw[if_neg h2,List.cons_append];obtain⟨r,hr⟩:∃r,i-j=r+1:=⟨i-j-1,by omega⟩
   rw[hr,aK];by_cases h3:i<np
   ·rw[if_pos h3,aJ (by omega),av,List.getElem?_drop]
    congr 2
    omega
   ·rw[if_neg h3,aP (by omega),bf]
    congr 1
    rw[eq_iff_iff];constructor<;>intro _<;>omega
end DL
namespace DL
open PySem PySem.Spec PyProof.Rows L2
section
variable {X:Cx}{e:cF}{es:List cF}{p pos pos':Pos}{x:Str}{a:cE}{M:jb}{C0 H0:Hp}{rest:List cG}
theorem _root_.L2.Inv.QF {pins:cm}{σ:L2.St}{H:Hp}{s:cy}(I:Inv X pins σ H s):sysModules<s.heap.objs.size:=by
 have h:mainGlobals<s.heap.objs.size:=(I.mod.glob.keeps I.bk).lt;exact bH (by decide) h
noncomputable def N6:TE:=λ_ H Q=>∀p,H p=none->(p==sysModules)=false->Q (.ref p) (upd H p (.ext (kW p [])))
theorem IC:PE X (.Dict [] [] pos) N6:=λpins s σ H Q I h=>
 wpAny_Dict_empty ⟨.ref s.heap.objs.size,_,I.laid (a:=s.heap.objs.size) (o:=.ext (kW s.heap.objs.size [])) (t':=s.toks) (λ_ _ q=>ag _ q) (au _)
  ⟨⟨_,#[],0,ay _ rfl,⟨rfl,rfl,rfl⟩,rfl,rfl,List.nodup_nil⟩,⟨_,ay _ rfl⟩,λh1 h2 ⟨o1,e1,p1,q1,q2⟩ st=>⟨o1,e1,p1,st _ q1,q2⟩⟩,rfl,
  h _ (I.fC.fresh (au _)) (beq_eq_false_iff_ne.mpr (Ne.symm (aD I.QF)))⟩
theorem AB {C H:Hp}{p:cE}(hc:C p=none) (hs:(p==sysModules)=false) (hH:H p=some (.ext (kW p []))):dY p M C H []:=⟨hH,hc,hs,List.nodup_nil,λ_ h=>by cases h⟩
noncomputable def noOwn (δ:dD):Bool:=δ.all λs=>match s with|.own _=>false|_=>true
noncomputable def nj (δ:dD):Bool:=δ.all λs=>match s with|.memo _=>false|_=>true
theorem tU {δ:dD}(h:noOwn δ=true) {i:Nat}{ds:cv}(q:δ[i]? =some (.own ds)):False:=by
 have:=List.all_eq_true.mp h _ (bh q);cases this
theorem vO {δ:dD}(h:nj δ=true) {i:Nat}{ds:cv}(q:δ[i]? =some (.memo ds)):False:=by
 have:=List.all_eq_true.mp h _ (bh q);cases this
noncomputable def Fn (i:Nat):R->Option R
 |.next δ=>if nj (δ.set i .no)=true then some (.next (δ.set i .no))else none
 |.ret d=>some (.ret d)
 |.brk δ=>if nj (δ.set i .no)=true then some (.brk (δ.set i .no))else none
 |.cont δ=>if nj (δ.set i .no)=true then some (.cont (δ.set i .no))else none
end
end DL
namespace HT
open PySem PySem.Spec PyProof.Rows
section
variable {prog:cA}{w:cB}{A:cC}{E:cj}{s:cy}
theorem oz {t sl:cE}{items:Array cx}{vl vu:cx}{lo hi:Option Int}{Q:cj}(ht:IsTup s.heap t items) (hs:s.heap.IsSliceOf sl vl vu .none) (pl:IsPart vl lo) (pu:IsPart vu hi)
  (hw:iP items.size 0 lo=0/\iP items.size items.size hi=items.size)
  (h:Q (.ref t) s):wpAny (model prog w) A (getItem (.ref t) (.ref sl)) Q E s:=by
 obtain⟨os,KP,O3,Ni⟩:=id hs;have Qm:s.TypeIs (.ref sl) "slice":=⟨os,KP,O3⟩;unfold getItem;try with_reducible refine bo ?_
 first|refine aa (aj ?_)|skip
 refine aa (wpAny_sequenceKey ht.typeIs (by decide) ?_)
 refine aa (wpAny_callSpecial?_slot (name:=Str.ofString "__getitem__") ht.typeIs PyProof.Rows.slot_tuple_getitem
  (bN PyProof.Rows.slot_tuple_getitem ht.typeIs entry_tuple_getitem ?_ (args_tuple_getitem _ _)))
 show wpAny _ _ (Builtin.Tuple.tupleItemsOf (.ref t)>>=_) _ _ s;refine aa (tupleItemsOf_ ht ?_);refine aa (wpAny_typeOf Qm ?_);rw[if_pos (by decide)]
 refine aa (lA hs pl pu ?_);have QG:(((iP items.size 0 lo:Nat):Int)==0&&(1:Int)==1&&(iP items.size items.size hi-iP items.size 0 lo)==items.size)=true:=by
  rw[hw.1,hw.2];simp
 show wpAny _ _ (if(((iP items.size 0 lo:Nat):Int)==0&&(1:Int)==1&&(iP items.size items.size hi-iP items.size 0 lo)==items.size)=true then _ else _) _ _ s
 rw[if_pos QG];unfold Builtin.Tuple.tupleIsExact;refine aa (aa (wpAny_typeOf ht.typeIs (aj ?_)));rw[if_pos (by decide)]
 first
  |exact aa (wpAny_rule (aa (aj ⟨_,rfl,aj h⟩)))
  |exact aa (wpAny_rule (aj ⟨_,rfl,aj h⟩))
end
end HT
namespace DL
open PySem PySem.Spec PyProof.Rows L2
variable [Mem]
section
variable {X:Cx}{a b c e o:cF}{pos p p2:Pos}{f g h:cc}
theorem ID:KQ X (λx lo hi H Q=>∃a xs,x=.ref a/\hO X.K H a xs/\(HT.iP xs.length 0 lo=0/\HT.iP xs.length xs.length hi=xs.length)/\Q (.ref a) H):=by
 intro pins s σ H x v vl vu lo hi sl Q I rx hs pl pu h;obtain⟨a,xs,rfl,hx,hw,q⟩:=h;cases rx;obtain⟨di,r,ht,hz⟩:=I.tuple hx;have hlen:di.toArray.size=xs.length:=by rw[aq];exact r.length.symm
 refine⟨"tuple",_,PyProof.Rows.slot_tuple_getitem.lookup,ht.typeIs,?_⟩;exact HT.oz ht hs pl pu (by rw[hlen];exact hw) ⟨.ref a,H,I,rfl,q⟩
noncomputable def Dt (f:cc) (lo hi:dD->Option (Option Int)):cc:=λδ=>match f δ with
 |some (.tup ds)=>(lo δ).bind λl=>(hi δ).map λu=>.tup (cutD ds l u)
 |_=>none
theorem LM {lo hi:Option cF}{fl fh:dD->Option (Option Int)}(he:PO X e f) (hl:L2.PO X lo (tP fl)) (hh:L2.PO X hi (tP fh)):PD X (.Subscript e (.Slice lo hi none p2) pos) (Dt f fl fh):=(EE (ID.or KR) he hl hh).imp λσ H Q ⟨C,δ,d,x,q,k⟩=>by
 unfold Dt at q;split at q
 ·rename_i es hf;cases h1:fl δ with
  |none=>rw[h1]at q;cases q
  |some l=>
   cases h2:fh δ with
   |none=>rw[h1,h2]at q;cases q
   |some u=>
    rw[h1,h2]at q;cases q;refine⟨C,δ,_,x,hf,λv C1 H1 e1 i1=>⟨C1,δ,l,x.ev e1,h1,λC2 H2 e2=>⟨C2,δ,u,x.ev (e1.trans e2),h2,λC3 H3 e3=>?_⟩⟩⟩
    obtain⟨p,xs,rfl,hq,ll,hc⟩:=((i1.ev e2).ev e3).tup (K:=X.K) e3.s;have ev:=(e1.trans e2).trans e3;by_cases hw:HT.iP xs.length 0 l=0/\HT.iP xs.length xs.length u=xs.length
    ·exact .inl ⟨p,xs,rfl,hq,hw,k _ C3 H3 ev (.tup hc (ll.LK hw))⟩
    ·exact .inr ⟨p,xs,rfl,hq,hw,λt ht=>k _ _ _ (ev.trans (.new e3.s ht)) (.tup cR ((ll.cut l u).mono (dW (e3.s.free ht))))⟩
 ·cases q
end
end DL
namespace DL
open PySem PySem.Spec PyProof.Rows L2
variable [Mem]
section
variable {X:Cx}
noncomputable def tV (is:List Nat) (f:cb):cv->cb
 |[],δ=>some (.next δ)
 |d::ds,δ=>match d with
  |.tup es=>if es.length=is.length then(match f (qO is es δ)with
   |some (.next δ')=>tV is f ds δ'
   |some (.cont δ')=>tV is f ds δ'
   |some (.brk δ')=>some (.next δ')
   |some (.ret r)=>some (.ret r)
   |none=>none)else none
  |_=>none
noncomputable def vP (is:List Nat) (i:bZ) (f:cb):cb:=λδ=>(i δ).bind λds=>tV is f ds δ
omit [Mem] in
theorem BQ:∀(is:List Nat) {xs:List V}{σ:L2.St}{H:Hp}{Q Q':L2.St->Hp->Prop},As is xs σ H Q->(∀σ H,Q σ H->Q' σ H)->As is xs σ H Q'
 |[],_,_,_,_,_,h,m=>⟨h.1,m _ _ h.2⟩
 |i::is,_,_,_,_,_,h,m=>by
  obtain⟨v,vs,e,h'⟩:=h;exact⟨v,vs,e,BQ is h' m⟩
theorem IE {C0 H0:Hp}(is:List Nat) {es:List cF}{kt:Nat}{wy:Pos}{iter:cF}{body:List cG}{i:bZ}{f:cb}{pos:Pos}(hp:PassesOwn (model X.prog X.w) X.A X.env X.xe) (hc:X.calm=true) (hi:Io X (.Tuple es kt wy) iter i) (QH:Ms X es (As is)) (hb:zC X C0 H0 body f)
  (hn:(assignEach es X.env).length=is.length:=by rfl) (ma:(assignEach es X.env).findIdx? (·.1)=none:=by rfl) (hs:∀x,foldedSetIterable iter X.env x=pure x:=by intro _;rfl):PB X C0 H0 (.For (.Tuple es kt wy) iter body [] pos) (vP is i f):=λB pins s σ H Dn I h=>by
 have hg:=Ku (pos:=wy) (k:=kt) hc QH hn ma;obtain⟨C,δ,r,gd,q,k⟩:=h;unfold vP at q;cases hf:i δ with
 |none=>rw[hf]at q;cases q
 |some ds=>
  rw[hf]at q;simp only[ao]at q;have main:∀J C1 H1,Ev C H C1 H1->Wk J ds C1->∃W:Nat->Nat->L2.St->Hp->Prop,(∃m,W 0 m σ H1)/\∀i m σ H,W i m σ H->
    (J.stop i H/\Dn.nx σ H)\/(J.go i H/\∃N:L2.St->Hp->Prop,(∀σ' H',N σ' H'->∃m',m'<m/\W (i+1) m' σ' H')/\∀x H',J.JB i H x H'->L2.iN X.K is.length (As is) x σ H' λσ2 H2=>tS C1 C0 H0 f {Dn with nx:=N,ct:=N,bk:=Dn.nx} σ2 H2):=by
   intro J C1 H1 ev wk;have bs:dF B C1:=gd.b.trans ev.c;refine⟨λn m σ H=>∃C δ,m=ds.length-n/\n<=ds.length/\Gd C1 C0 H0 δ σ C H/\tV is f (ds.drop n) δ=some r,⟨ds.length,C1,δ,by simp,bM _,⟨dF.refl _,gd.ev.trans ev,gd.x.ev ev,gd.fr⟩,by simpa using q⟩,?_⟩
   rintro n m σ2 H2 ⟨C2,δ2,rfl,hn,g2,q2⟩
   have w:=wk n C2 H2 g2.b g2.x.sub;by_cases eP:n<ds.length
   ·have hd:ds[n]? =some ds[n]:=ah eP;obtain⟨go,yl⟩:=w.1 _ hd;rw[List.drop_eq_getElem_cons eP]at q2;refine .inr ⟨go,λσ' H'=>∃C' δ',Gd C1 C0 H0 δ' σ' C' H'/\tV is f (ds.drop (n+1)) δ'=some r,λσ' H' ⟨C',δ',g',q'⟩=>⟨ds.length-(n+1),by omega,C',δ',rfl,eP,g',q'⟩,λx H3 y=>?_⟩
    obtain⟨rfl,Pk⟩:=yl x H3 y;unfold tV at q2;split at q2
    case h_2=>cases q2
    rename_i Bm UO;rw[UO]at Pk;split at q2
    case isFalse=>cases q2
    rename_i hle;cases Pk with
    |@tup pa ws _ UP l=>
    refine⟨pa,ws,rfl,hO.of (g2.x.sub _ _ UP),by rw[l.length];exact hle,JU is l hle g2 λσ3 g3=>?_⟩
    show tS C1 C0 H0 f {Dn with nx:=_,ct:=_,bk:=Dn.nx} σ3 _
    cases Iq:f (qO is Bm δ2)with
    |none=>rw[Iq]at q2;cases q2
    |some rb=>
     rw[Iq]at q2;refine⟨C2,qO is Bm δ2,rb,g3,Iq,?_⟩;cases rb with
     |next δ'=>exact λσ' C' H' g'=>⟨C',δ',g',q2⟩
     |cont δ'=>exact λσ' C' H' g'=>⟨C',δ',g',q2⟩
     |brk δ'=>
      cases q2;exact λσ' C' H' g'=>k σ' C' H' ⟨bs.trans g'.b,g'.ev,g'.x,g'.fr⟩
     |ret d=>
      cases q2;exact k
   ·have e:n=ds.length:=by omega
    subst e;rw[List.drop_length]at q2;unfold tV at q2;cases q2;exact .inl ⟨w.2 (au _),k σ2 C2 H2 ⟨bs.trans g2.b,g2.ev,g2.x,g2.fr⟩⟩
  refine Es (tb:=λLr σ' H'=>∃C1,tS C1 C0 H0 f Lr σ' H') hp hc hi hg (λpins s σ H Lr I ⟨C1,h⟩=>hb C1 pins s σ H Lr I h) hs pins s σ H Dn I ?_
  refine⟨C,δ,ds,gd.x,hf,λJ C1 H1 ev wk=>?_⟩
  obtain⟨W,w0,st⟩:=main J C1 H1 ev wk;refine⟨W,w0,λi m σ H w=>?_⟩
  rcases st i m σ H w with z|⟨go,N,hN,hy⟩
  ·exact .inl z
  ·exact .inr ⟨go,N,hN,λx H' y=>let ⟨pa,ws,h1,h2,h3,h4⟩:=hy x H' y;⟨pa,ws,h1,h2,h3,BQ is h4 λ_ _ z=>⟨C1,z⟩⟩⟩
end
section
variable {X:Cx}{a b c e o:cF}{pos p p2:Pos}{f g h:cc}{C0 H0:Hp}
end
end DL
namespace DL
open PySem PySem.Spec PyProof.Rows L2
variable [Mem]
variable [Mem]
section
variable {X:Cx}{a b c e o:cF}{pos p p2:Pos}{f g h:cc}
theorem sk (ha:WO X a f) (hb:WO X b g):WD X (.BinOp a .Add b pos) (dA nc f g):=⟨IA ha.go hb.go⟩
end
variable [Mem]
section
variable {X:Cx}{a b c e o:cF}{pos p p2:Pos}{f g h:cc}
theorem LN {lo hi:Option cF}{fl fh:dD->Option (Option Int)}(he:WO X e f) (hl:WP X lo fl) (hh:WP X hi fh):WD X (.Subscript e (.Slice lo hi none p2) pos) (Dt f fl fh):=⟨LM he.go hl.go hh.go⟩
end
variable [Mem]
section
variable {X:Cx}
theorem IF {C0 H0:Hp}(is:List Nat) {es:List cF}{kt:Nat}{wy:Pos}{iter:cF}{body:List cG}{i:bZ}{f:cb}{pos:Pos}(hp:PassesOwn (model X.prog X.w) X.A X.env X.xe) (hc:X.calm=true) (hi:vM X (.Tuple es kt wy) iter i) (QH:Ms X es (As is)) (hb:sj X C0 H0 body f) (hn:(assignEach es X.env).length=is.length:=by rfl) (ma:(assignEach es X.env).findIdx? (·.1)=none:=by rfl) (hs:∀x,foldedSetIterable iter X.env x=pure x:=by intro _;rfl):WB X C0 H0 (.For (.Tuple es kt wy) iter body [] pos) (vP is i f):=⟨IE is hp hc hi.go QH hb.go hn ma hs⟩
end
section
variable {X:Cx}{a b c e o:cF}{pos p p2:Pos}{f g h:cc}{C0 H0:Hp}
end
end DL
namespace DL
open PySem PySem.Spec PyProof.Rows L2
section
variable [Mem] {X:Cx}{C0 H0:Hp}{st:cG}{pos:Pos}
end
theorem IG {P:cA}{w:cB}{K:W.Frag}{mg:ck}{base:Heap}{k:Nat}{f:cE}{fd:cz}{ps:List Str}:ef P w K mg base jt k f fd ps (pK λ_=>none):=
 ⟨(λvs H Q E ⟨_,_,_,_,_,q,_⟩=>by cases q),λA outer s H args us vs Q E _ _ _ _ ⟨_,_,_,_,_,q,_⟩=>by cases q⟩
section
variable {X:Cx}{e k o:cF}{es:List cF}{body rest:List cG}{p pos pos' p2:Pos}{x:Str}{a:cE}{M:jb}{C0 H0:Hp}{i:Nat}
end
theorem LO {P:cA}{w:cB}{K:W.Frag}{mg:ck}{base:Heap}{x qual:Str}{st:cG}{f:cE}{fd:cz}{N ps:List Str}{k:Nat}(F:mZ K x qual st f fd) (S:dw N ps (bt st)) {fb:cb}
  (jB:∀(fS:cx) (A:cC) (outer:List Env) (s:cy) (H:Hp) (E:XK),fR k (A.deeper (envOfC qual (bt st) s.heap.objs.size f fS))->∀C0 H0,@sj Mem.keep (oW jt P w K mg base N qual (bt st) f fS A outer s H E).Bp C0 H0 (dk st) fb):
  ef P w K mg base jt (k+1) f fd ps (pK (il N.length ps.length fb)):=JS F S λfS A outer s H E hr C0 H0=>@sj.go Mem.keep _ _ _ _ _ (jB fS A outer s H E hr C0 H0)
end DL
namespace DL
open PySem PySem.Spec PyProof.Rows L2
theorem Fo:bootBuiltins "any"=some (.builtin "any"):=by decide +kernel
section
variable {X:Cx}
theorem yn (hc:X.calm=true):hU X (.builtin "any") (λxs H Q=>∃(p:cE) (bs:List Bool),xs=[.ref p]/\oE X.K H p (bs.map V.bl)/\Q (.bl (bs.any id)) H):=by
 intro pins s σ H xs us Q I r h;obtain⟨p,bs,rfl,hq,q⟩:=h;obtain⟨u,rfl,r1⟩:=vals1 r;cases r1;obtain⟨di,rv,pl,hz⟩:=I.list hq;have eP:p<s.heap.objs.size:=by obtain⟨o,n,e,_⟩:=pl;exact az e
 have hlen:=rv.length;rw[ae]at hlen;have NP:∀(i:Nat) (v:cx),di.toArray[i]? =some v->v=.bool (bs.getD i false):=λi v hv=>by
  have HA:di[i]? =some v:=by simpa using hv
  have hi:i<di.length:=(List.getElem?_eq_some_iff.mp HA).1;have g1:(bs.map V.bl)[i]? =some (.bl (bs.getD i false)):=by
   rw[av,ah (by omega),ak,ah (by omega)];rfl
  obtain⟨w,h1,h2⟩:=rv.get g1;rw[HA]at h1;cases h1;exact h2
 refine call_any_walk (wpAny_pyIter_list pl.isList ⟨s.heap.objs.size,_,_,_,_,_,λi=>bs.getD i false,rfl,Walks.list (A:=X.A.in1) (I.ok.hd hc) s.heap.objs.size p (aD eP) di.toArray,⟨⟨_,ay _ rfl,rfl,rfl⟩,?_⟩,λi v s' Q' E' hv hQ=>?_,λh' tk kk=>?_⟩)
 ·obtain⟨o,n,e,h1,h2,h3⟩:=pl;exact⟨o,ag _ e,h1,n,h3⟩
 ·rw[NP i v hv];exact bR hQ
 ·have I1:L2.Inv X pins σ H {s with heap:=s.heap.push {cls:=.type "list_iterator",data:=.fields #[.ref p,.int 0 0]}}:=I.kept (t':=s.toks) λb o e=>ag _ e
  obtain⟨f0,f1,f2,f3,f4,f5⟩:=I.Eo (H':=H) (au _) (I.fC.fresh (au _));have I2:=I1.turned (t':=tk) (h':=h') (it:=s.heap.objs.size) (λb o hb e=>kk b o (by simpa using hb) e) f0 f1 f3 f4 f5
  refine⟨.bl (bs.any id),H,I2,?_,q⟩;show Value.bool _=Value.bool _
  congr 1
  rw[aq,<-hlen];clear NP hlen;rw[Bool.eq_iff_iff];simp only[bP,List.mem_range,id];constructor
  ·rintro⟨i,hi,h⟩
   rw[ak,ah hi]at h;exact⟨_,List.getElem_mem hi,h⟩
  ·rintro⟨b,hb,h⟩
   obtain⟨i,hi,e⟩:=List.getElem_of_mem hb;refine⟨i,hi,?_⟩;rw[ak,ah hi];show bs[i]=true;rw[e];exact h
noncomputable def Du:cg
 |[.lst ds]=>(lC ds).map λbs=>.bl (bs.any id)
 |_=>none
theorem JW (hc:X.calm=true):oG X (.builtin "any") Du:=by
 refine⟨_,yn hc,?_⟩;intro C H vs ds d Q s i q k;unfold Du at q;split at q
 ·rename_i es;cases hb:lC es with
  |none=>rw[hb]at q;cases q
  |some bs=>
   rw[hb]at q;cases q;letI:=Mem.keep
   obtain⟨v,rfl,j⟩:=i.one;obtain⟨p,xs,rfl,hq,l⟩:=j.list (K:=X.K) s;rw[tE hb]at l;cases l.Ac;exact⟨p,bs,rfl,hq,k _ C H (.refl s) (.bl _)⟩
 ·cases q
end
end DL
namespace L2
open PySem PySem.Spec PyProof.Rows
section
variable {prog:cA}{w:cB}{A:cC}{E:cj}{s:cy}
theorem yo {Q:cw->cy->Prop}{t:cE}{vs:cw}(ht:IsTup s.heap t vs.toArray)
  (hQ:Q vs {s with heap:=(s.heap.push (seqObj "list" #[] 0)).update s.heap.objs.size (Obj.mapSeq (·++vs.toArray))}) (hsz:vs.length<=sizeLine):
  wpAny (model prog w) A (collect (.ref t)) Q E s:=by
 obtain⟨o,ho,hc,n,hd⟩:=id ht;unfold collect;refine aa (wpAny_runValue (codeAny_builtin F.entry_proto_collect ?_));rw[bY F.plain_proto_collect _];show wpAny _ A.in1 (newList []>>=λl=>again (.builtin "list.__iadd__" ⟨[l,.ref t],[]⟩)) _ _ s
 refine aa (bS ?_);refine aj ⟨plainId_quiet F.plain_list_iadd _,codeAny_builtin F.entry_list_iadd ?_⟩;rw[bY F.plain_list_iadd _];show wpAny _ A.in1 (Builtin.List.listExtendWith (.ref s.heap.objs.size) (.ref t) (.ref s.heap.objs.size)) _ _ _;have hS:(s.heap.push {cls:=.type "list",data:=.seq ([]:cw).toArray}).get? s.heap.objs.size=some {cls:=.type "list",data:=.seq #[] 0}:=ay _ rfl;have UQ:=Heap.get?_update_self (Obj.mapSeq (·++vs.toArray)) hS rfl
 have N7:wpAny (model prog w) A (match Value.ref s.heap.objs.size with
   |Value.ref a=>do
    match(<-load a).data with
     |Data.seq xs _=>pure xs.toList
     |_=>unsupported "internal:collect"
   |_=>unsupported "internal:collect") Q E {s with heap:=(s.heap.push {cls:=.type "list",data:=.seq ([]:cw).toArray}).update s.heap.objs.size (Obj.mapSeq (·++vs.toArray))}:=by
  show wpAny _ A (load s.heap.objs.size>>=_) _ _ _;refine aa (wpAny_load UQ ?_);refine aj ?_;have e:((#[]:Array cx)++vs.toArray).toList=vs:=by simp
  show Q ((#[]:Array cx)++vs.toArray).toList _;rw[e];exact hQ
 refine bQ (wpAny_extend_seq (hsz:=by rw[aq];exact hsz) (A:=A) (R:=λr s'=>r=.ok (.ret (.ref s.heap.objs.size))/\s'={s with heap:=(s.heap.push {cls:=.type "list",data:=.seq ([]:cw).toArray}).update s.heap.objs.size (Obj.mapSeq (·++vs.toArray))})
  (s:={s with heap:=s.heap.push {cls:=.type "list",data:=.seq ([]:cw).toArray}}) _ t _ 0 (.inr rfl) hS (ag _ ho) hc hd ⟨rfl,rfl⟩) (λfin s' h=>?_) (λe s' h=>?_)
 ·cases fin with
  |done f=>
   obtain⟨e,rfl⟩:=h;cases e;exact N7
  |again c'=>exact⟨h.1,codeAny_mono h.2 λr Ea hr=>by obtain⟨rfl,rfl⟩:=hr;exact N7⟩
 ·exact absurd h.1 (by simp)
theorem w9 {t:cE}{vs:cw}{ns:cp}{Q:cj}(ht:IsTup s.heap t vs.toArray) (hI:IntsAre vs ns) (Ap:vs.length<64)
  (h:∀(out:Array cx) (xP:cp),IntsAre out.toList xP->xP.Perm ns->xP.Pairwise (·<= ·)->Q (.ref (s.heap.objs.size+1)) {s with heap:=sortedAll s.heap vs out}):
  wpAny (model prog w) A (call (.builtin "sorted") [.ref t]) Q E s:=by
 refine Calls.call_function_entry kind_sorted plain_sorted entry_sorted (args_sorted1 _) ?_;unfold Builtin.«sorted»;refine aa (m:=checkCount "sorted" 1 1 _) (aj ?_);refine aa (yo ht ?_ (by rw[bw];omega))
 refine aa (wpAny_newList ?_ (hsz:=by rw[bw];omega))
 have hsz:((s.heap.push (seqObj "list" #[] 0)).update s.heap.objs.size (Obj.mapSeq (·++vs.toArray))).objs.size=s.heap.objs.size+1:=by
  rw[Heap.size_update,size_push']
 have Bo:(((s.heap.push (seqObj "list" #[] 0)).update s.heap.objs.size (Obj.mapSeq (·++vs.toArray))).push (seqObj "list" vs.toArray 0)).get? (s.heap.objs.size+1)=some (seqObj "list" vs.toArray 0):=by
  rw[<-hsz];exact ay _ rfl
 show wpAny _ _ _ _ _ {s with heap:=((s.heap.push (seqObj "list" #[] 0)).update s.heap.objs.size (Obj.mapSeq (·++vs.toArray))).push (seqObj "list" vs.toArray 0)}
 rw[hsz];refine aa (bo (bN slot_list_sort ⟨_,Bo,rfl⟩ entry_list_sort (list_sort_tree Bo hI Ap λout xP a1 a2 a3=>⟨_,rfl,?_⟩) (args_list_sort _)))
 exact aj ⟨_,rfl,h out xP a1 a2 a3⟩
end
section
variable {X:Cx}
theorem pW:hU X (.builtin "sorted") (λxs H Q=>∃(p:cE) (ns:cp),xs=[.ref p]/\hO X.K H p (ns.map V.int)/\ns.length<64/\∀(l:cE) (ms:cp),H l=none->ms.Perm ns->ms.Pairwise (·<= ·)->Q (.ref l) (upd H l (.lst (ms.map V.int)))):=by
 intro pins s σ H xs us Q I r h;obtain⟨p,ns,rfl,hq,Ap,q⟩:=h;obtain⟨u,rfl,rx⟩:=vals1 r;cases rx;obtain⟨di,rv,pl,hz⟩:=I.tuple hq;have hi:IntsAre di ns:=intsAre_of rv;have hl:=hi.length;refine w9 pl hi (by omega) λout xP a1 a2 a3=>?_
 obtain⟨e,he⟩:=sortedAll_at s.heap di out;refine⟨.ref (s.heap.objs.size+1),_,I.laid (t':=s.toks) (o:=.lst (xP.map V.int)) (λb o z=>sortedAll_old z) (Nat.le_succ _) ?_,rfl,q _ xP (I.fC.fresh (Nat.le_succ _)) a2 a3⟩
 refine⟨?_,out.toList,e,nS a1,by simpa using he⟩
 have:=a2.length_eq;rw[ae];exact bg (je (by omega))
end
end L2
namespace DL
open PySem PySem.Spec PyProof.Rows L2
section
variable {X:Cx}
noncomputable def jE:cv->Option (cv)
 |[.tup ds]=>if ds.length<64 then(intsOf ds).map λns=>(sortI ns).map D.int else none
 |_=>none
theorem vQ (hu:X.A.units+64<cLine):tm X (.builtin "sorted") jE:=by
 refine⟨_,pW,?_⟩;intro C H vs ds d Q s i q k;unfold jE at q;split at q
 ·rename_i es;split at q
  ·rename_i Ap;cases hn:intsOf es with
   |none=>rw[hn]at q;cases q
   |some ns=>
    rw[hn]at q;cases q;letI:=Mem.keep
    obtain⟨v,rfl,j⟩:=i.one;obtain⟨p,xs,rfl,hq,l,_⟩:=j.tup (K:=X.K) s;have e:=gu hn;subst e;cases l.kR;rw[ae]at Ap;refine⟨p,ns,rfl,hq,Ap,λt ms ht pm pw=>?_⟩
    have e:ms=sortI ns:=fM (λa b h1 h2=>by omega) (pm.trans (sortI_perm ns).symm) pw (tK ns)
    subst e;exact k t _ C _ (.gi s ht) ht (s.free ht) cR (.ints _)
  ·cases q
 ·cases q
end
end DL
namespace DL
open PySem PySem.Spec PyProof.Rows L2
structure OC where
 cl:cE
 fG:Str
 fK:Str
 Mf:D->jb
structure pX where
 o:cE
 dx:cE
 a:cE
structure fP (Y:OC) (A:pX) (G:D) (C H:Hp) (xs:List (D×cE×cx)):Prop where
 h:∃fs gv,H A.o=some (.ins Y.cl A.dx fs)/\fs.lookup Y.fG=some gv/\fs.lookup Y.fK=some (.ref A.a)/\(∀m,m≠Y.fG->m≠Y.fK->fs.lookup m=none)/\Is C gv G
 c:C A.o=none
 m:dY A.a (Y.Mf G) C H xs
section
variable {Y:OC}{A:pX}{G:D}{C H C' H':Hp}{xs:List (D×cE×cx)}
theorem fP.N1 (m:fP Y A G C H xs) (e:m3 C H C' H'):fP Y A G C' H' xs where
 h:=let ⟨fs,gv,h1,h2,h3,h4,h5⟩:=m.h;⟨fs,gv,e.h _ _ h1,h2,h3,h4,h5.mono e.c⟩
 c:=by
  obtain⟨fs,gv,h1,_⟩:=m.h;cases q:C' A.o with
  |none=>rfl
  |some u=>
   rcases e.n A.o u q with z|z
   ·rw[m.c]at z;cases z
   ·rw[h1]at z;cases z
 m:=m.m.N1 e
theorem fP.Dp (m:fP Y A G C H xs) {b:cE}{o:HO}(hb:b≠A.o) (N8:b≠A.a):fP Y A G C (upd H b o) xs where
 h:=let ⟨fs,gv,h1,h2⟩:=m.h;⟨fs,gv,by rw[cK (Ne.symm hb)];exact h1,h2⟩
 c:=m.c
 m:=m.m.Dp N8
theorem fP.Dq (m:fP Y A G C H xs) {b:cE}{o:HO}(hb:b≠A.o) (N8:b≠A.a) (hc:C b=none):fP Y A G (upd C b o) H xs where
 h:=let ⟨fs,gv,h1,h2,h3,h4,h5⟩:=m.h;⟨fs,gv,h1,h2,h3,h4,h5.mono (dW hc)⟩
 c:=by rw[cK (Ne.symm hb)];exact m.c
 m:=m.m.Dq N8 hc
theorem fP.ne (m:fP Y A G C H xs) {b:cE}(h:∀u,H b=some u->zA u=false):b≠A.o/\b≠A.a:=by
 refine⟨λz=>?_,m.m.ne h⟩
 obtain⟨fs,gv,h1,_⟩:=m.h;subst z;have:=h _ h1;cases this
theorem fP.My (m:fP Y A G C H xs) {b:cE}(h:H b=none):b≠A.o/\b≠A.a:=by
 refine⟨λz=>?_,m.m.My h⟩
 obtain⟨fs,gv,h1,_⟩:=m.h;subst z;rw[h1]at h;cases h
theorem fP.JX (m:fP Y A G C H xs) {b:cE}{o:HO}(ho:H b=some o) (hx:zA o=false):b≠A.o/\b≠A.a:=m.ne λu q=>by rw[ho]at q;cases q;exact hx
theorem fP.oa (m:fP Y A G C H xs):A.o≠A.a:=λz=>by
 obtain⟨fs,gv,h1,_⟩:=m.h;have:=m.m.h;rw[<-z,h1]at this;cases this
end
@[reducible] noncomputable def dq (Y:OC) (A:pX) (G:D):Mem where
 cell:=some A.a
 face:=some A.o
 ok:=λC H=>∃xs,fP Y A G C H xs
 has:=λC H k=>∃xs,fP Y A G C H xs/\k∈xs.map (·.1)
 rel:=λC H C' H'=>((∃xs,fP Y A G C H xs)->∃xs,fP Y A G C' H' xs)/\∀k,(∃xs,fP Y A G C H xs/\k∈xs.map (·.1))->∃xs,fP Y A G C' H' xs/\k∈xs.map (·.1)
 of0:=λe=>⟨λ⟨xs,m⟩=>⟨xs,m.N1 e⟩,λk ⟨xs,m,hk⟩=>⟨xs,m.N1 e,hk⟩⟩
 trans:=λr1 r2=>⟨λh=>r2.1 (r1.1 h),λk h=>r2.2 k (r1.2 k h)⟩
 chg:=λ{_ _ _ _ b o} r hb=>⟨λ⟨xs,m⟩=>let ⟨ys,m'⟩:=r.1 ⟨xs,m⟩;⟨ys,m'.Dp (m.My hb).1 (m.My hb).2⟩,λk ⟨xs,m,hk⟩=>let ⟨ys,m',AD⟩:=r.2 k ⟨xs,m,hk⟩;⟨ys,m'.Dp (m.My hb).1 (m.My hb).2,AD⟩⟩
 give:=λ{_ _ _ H' b o} r hc ho hx=>⟨λh=>let ⟨ys,m'⟩:=r.1 h;⟨ys,m'.Dq (m'.JX ho hx).1 (m'.JX ho hx).2 hc⟩,λk h=>let ⟨ys,m',AD⟩:=r.2 k h;⟨ys,m'.Dq (m'.JX ho hx).1 (m'.JX ho hx).2 hc,AD⟩⟩
 Pd:=λr h=>r.1 h
 HZ:=λr _ h=>r.2 _ h
 NC:=λ⟨xs,m⟩ h=>⟨xs,m.Dp (m.ne h).1 (m.ne h).2⟩
 ES:=λ_ h ⟨xs,m,hk⟩=>⟨xs,m.Dp (m.ne h).1 (m.ne h).2,hk⟩
 Pe:=λ{_ _ b o} ⟨xs,m⟩ hc ho hx=>⟨xs,m.Dq (m.JX ho hx).1 (m.JX ho hx).2 hc⟩
 Ia:=λ{_ _ b o k} _ hc ho hx ⟨xs,m,hk⟩=>⟨xs,m.Dq (m.JX ho hx).1 (m.JX ho hx).2 hc,hk⟩
noncomputable def lF (G:D) (i:Nat):cc:=λδ=>match δ[i]? with
 |some (.memo _)=>some G
 |_=>none
structure kf (K:W.Frag) (Y:OC):Prop where
 cl:HC K Y.cl
 nG:mW K Y.cl Y.fG
 nK:mW K Y.cl Y.fK
section
variable {X:Cx}{Y:OC}{A:pX}{G:D}{C0 H0:Hp}{e k o:cF}{body:List cG}{pos pos' p p2 po:Pos}{i:Nat}
theorem IH (Z:kf X.K Y) (ho:PE X o (ij i)) (hb:attributeBase o Y.fG X.env (eval o X.env)=eval o X.env):@PD (dq Y A G) X (.Attribute o Y.fG po) (lF G i):=by
 letI:=dq Y A G
 refine(wz ho hb).imp λσ H Q ⟨C,δ,d,x,q,fin⟩=>?_
 unfold lF at q;split at q
 ·rename_i ks hi;cases q;obtain⟨a',h1,h2,⟨xs,m⟩,_⟩:=x.mem i ks hi;cases h1;obtain⟨fs,gv,g1,g2,g3,g4,g5⟩:=m.h;exact⟨.ref A.o,h2,A.o,Y.cl,A.dx,fs,gv,rfl,g1,Z.cl,Z.nG,g2,fin gv C H (.refl x.sub) g5⟩
 ·cases q
theorem LP {σ:L2.St}{C H:Hp}{δ:dD}{ks:cv}{Q:VK}(Z:kf X.K Y) (x:@Sx (dq Y A G) δ σ C H) (hi:δ[i]? =some (.memo ks)) (q:Q (.ref A.a) H):M6 X.K (ij i) Y.fK σ H Q:=by
 obtain⟨a',h1,h2,⟨xs,m⟩,_⟩:=@Sx.mem (dq Y A G) _ _ _ _ x i ks hi;cases h1;obtain⟨fs,gv,g1,g2,g3,g4,g5⟩:=m.h;exact⟨.ref A.o,h2,A.o,Y.cl,A.dx,fs,_,rfl,g1,Z.cl,Z.nK,g3,q⟩
theorem Fp (fs:List Nat) {fk:cc}{fb:cb}(hu:X.A.units+64<cLine) (Z:kf X.K Y) (hk:@PD (dq Y A G) X k fk) (ho:PE X o (ij i)) (hb:attributeBase o Y.fK X.env (eval o X.env)=eval o X.env) (QI:@zC (dq Y A G) X C0 H0 body fb) (hm:behindInMarks .NotIn (.Attribute o Y.fK po)=false):
  @PB (dq Y A G) X C0 H0 (.If (.Compare k [.NotIn] [.Attribute o Y.fK po] pos) body [] pos') (pV i fs fk fb):=λB=>by
 letI:=dq Y A G
 refine(Jy (Bu (w6 (a:=A.a) (M:=Y.Mf G) hu) hk (wz ho hb) hm) (QI B) Bq).imp λDn σ H ⟨C,δ,r,gd,q,fin⟩=>?_
 unfold pV at q;split at q
 ·rename_i ks ds δ2 hi N9 Iq;split at q
  ·rename_i hc;obtain⟨c1,c2,c3⟩:=hc;cases q;refine⟨C,δ,.tup ds,gd.x,N9,λv C1 H1 e1 i1=>?_⟩
   have g1:=gd.Df e1;obtain⟨a',h1,h2,⟨xs,m⟩,h4⟩:=g1.x.mem i ks hi;refine LP Z g1.x hi ⟨C1,ds,xs,e1.s,i1,c1,c2,rfl,m.m,_,rfl,?_⟩;cases hs:(atKey xs (.tup ds)).isSome with
   |true=>exact CQ (fin σ C1 H1 ((g1.BP hi ⟨xs,m,qQ.mp hs⟩).weak (ym fs δ i _ ks)))
   |false=>exact zW ⟨C1,δ,.next δ2,g1,Iq,λσ' C' H' g'=>fin σ' C' H' (g'.weak c3)⟩
  ·cases q
 ·cases q
theorem Dv {fk:cc}(hu:X.A.units+64<cLine) (Z:kf X.K Y) (ho:PE X o (ij i)) (hb:attributeBase o Y.fK X.env (eval o X.env)=eval o X.env) (hk:@PD (dq Y A G) X k fk) (hs:nR k):@PD (dq Y A G) X (.Subscript (.Attribute o Y.fK po) k pos) (nh (Y.Mf G) i fk):=by
 letI:=dq Y A G
 refine(JI (IB (a:=A.a) (M:=Y.Mf G) hu) (wz ho hb) hk hs).imp λσ H Q ⟨C,δ,d,x,q,fin⟩=>?_
 unfold nh at q;split at q
 ·rename_i ks ds hi N9;split at q
  ·rename_i hc;obtain⟨c1,c2,c3⟩:=hc;refine LP Z x hi ⟨C,δ,.tup ds,x,N9,λv C1 H1 e1 i1=>?_⟩
   obtain⟨a',h1,_,_,h4⟩:=(x.ev e1).mem i ks hi;obtain⟨xs,m,hx⟩:=h4 _ c3;refine⟨C1,ds,xs,e1.s,rfl,i1,c1,c2,m.m,hx,λw d' hw iw=>?_⟩
   rw[q]at hw;cases hw;exact fin w C1 H1 e1 iw
  ·cases q
 ·cases q
theorem AE {C H:Hp}{xs ys:List (D×cE×cx)}(s:dF C H) (m:fP Y A G C H xs) (m':dY A.a (Y.Mf G) C (upd H A.a (.ext (kW A.a ys))) ys) (hk:∀k,(∃zs,dY A.a (Y.Mf G) C H zs/\k∈zs.map (·.1))->k∈ys.map (·.1)):
  fP Y A G C (upd H A.a (.ext (kW A.a ys))) ys/\@Ev (dq Y A G) C H C (upd H A.a (.ext (kW A.a ys))):=by
 letI:=dq Y A G
 have m2:fP Y A G C (upd H A.a (.ext (kW A.a ys))) ys:=⟨let ⟨fs,gv,h1,h2⟩:=m.h;⟨fs,gv,by rw[cK m.oa];exact h1,h2⟩,m.c,m'⟩
 refine⟨m2,dF.refl _,λb o q h=>?_,λb o q h x=>?_,λb u q=>?_,λb u q=>.inl q,⟨λ_=>⟨ys,m2⟩,λk ⟨zs,mz,hz⟩=>⟨ys,m2,hk k ⟨zs,mz.m,hz⟩⟩⟩⟩
 ·have:b≠A.a:=λz=>by
   subst z;rcases h with h|h
   ·exact h rfl
   ·rw[m.m.h]at q;cases q;cases h
  rw[cK this];exact q
 ·cases h;exact⟨_,cR,rfl⟩
 ·rw[cK (cP q m.m.c)];exact s b u q
theorem Dw {fk fe:cc}(hu:X.A.units+64<cLine) (Z:kf X.K Y) (he:@PD (dq Y A G) X e fe) (ho:PE X o (ij i)) (hb:attributeBase o Y.fK X.env (eval o X.env)=eval o X.env) (hk:@PD (dq Y A G) X k fk)
  (ha:∀v,assign (.Subscript (.Attribute o Y.fK po) k p) X.env v=(do
   let ov <-holding [v] (eval (.Attribute o Y.fK po) X.env)
   let iv <-holding [v,ov] (eval k X.env)
   standAt p
   holding [v,ov,iv] (setItem ov iv v)
   release [v,ov,iv] []))
  (hs:swapsWithSole [.Subscript (.Attribute o Y.fK po) k p] e pos.line X.env=pure false) (hw:swappedStores [.Subscript (.Attribute o Y.fK po) k p] e X.env=pure none) (h1:(assignEach [.Subscript (.Attribute o Y.fK po) k p] X.env).map (·.2)=[assign (.Subscript (.Attribute o Y.fK po) k p) X.env]):
  @PB (dq Y A G) X C0 H0 (.Assign [.Subscript (.Attribute o Y.fK po) k p] e pos) (ni (Y.Mf G) i fk fe):=λB=>by
 letI:=dq Y A G
 refine(Kw he (Kv (wz ho hb) hk (Fm (a:=A.a) (M:=Y.Mf G) hu) ha) hs hw h1).imp λDn σ H ⟨C,δ,r,gd,q,fin⟩=>?_
 unfold ni at q;split at q
 ·rename_i ks ds d hi N9 Lu;split at q
  ·rename_i hc;cases q;refine⟨C,δ,d,gd.x,Lu,λv C1 H1 e1 i1=>?_⟩
   have g1:=gd.Df e1;refine LP Z g1.x hi ⟨C1,δ,.tup ds,g1.x,N9,λkv C2 H2 e2 i2=>?_⟩
   have g2:=g1.Df e2;obtain⟨a',z1,z2,⟨xs,m⟩,_⟩:=g2.x.mem i ks hi;refine⟨C2,ds,d,xs,e2.s,rfl,i2,i1.mono e2.c,hc,m.m,λys m' AD j0=>fin σ C2 _ ?_⟩
   obtain⟨m2,ev⟩:=AE e2.s m m' AD;exact(g2.Df ev).BP hi ⟨ys,m2,j0⟩
  ·cases q
 ·cases q
end
end DL
namespace DL
open PySem PySem.Spec PyProof.Rows L2
noncomputable def Ef (Y:OC) (g:cg):Sp:=λvs H Q _=>∃C G ds d A ws,dF C H/\vs=.ref A.o::ws/\IsL C ws ds/\(∃xs,fP Y A G C H xs)/\g (G::ds)=some d/\∀v C' H',@Ev (dq Y A G) C H C' H'->Is C' v d->Q v H'
noncomputable def kj (i:Nat) (G:D) (g:cg) (f:bZ):cc:=λδ=>match δ[i]? with
 |some (.memo _)=>(f δ).bind λds=>g (G::ds)
 |_=>none
noncomputable def pY (g:cg) (fg:cc) (fa:bZ):cc:=λδ=>(fg δ).bind λG=>(fa δ).bind λds=>g (G::ds)
section
variable {X:Cx}{Y:OC}{A:pX}{G:D}{C0 H0:Hp}{e o:cF}{es:List cF}{pos p po apos:Pos}{i k:Nat}{m x:Str}{f:cE}{fd:cz}{ps:List Str}{g:cg}{fa:bZ}
theorem Fq {pl:Sem Bool}(Z:kf X.K Y) (ho:PE X o (ij i)) (hm:Meth X.K Y.cl m f) (h1:m≠Y.fG) (h2:m≠Y.fK) (F:ef X.prog X.w X.K X.mg X.base jt k f fd ps (Ef Y g)) (hr:fR k X.A) (hb:Binds X.K fd ps []) (ha:@Ec (dq Y A G) X (e::es) fa)
  (ma:starEach (e::es) X.env=(false,eval e X.env)::starEach es X.env) (i9:(backTo pos (starEach es X.env)).any (·.1)=false)
  (ht:eval (.Call (.Attribute o m apos) (e::es) [] pos) X.env=(do
   let ov <-eval o X.env
   standAt apos.atName
   let (f,first) <-holding [ov] (getMethod ov m pl)
   callWith pos f first (backTo pos (starEach (e::es) X.env)) (backToKw pos (keywordEach [] X.env)))):
  @PD (dq Y A G) X (.Call (.Attribute o m apos) (e::es) [] pos) (kj i G g fa):=by
 letI:=dq Y A G
 refine(Bv ho Z.cl hm F hr hb .nil Bz ha ma i9 ht).imp λσ H Q ⟨C,δ,d,x,q,fin⟩=>?_
 unfold kj at q;split at q
 ·rename_i ks hi;cases hf:fa δ with
  |none=>rw[hf]at q;cases q
  |some ds=>
   rw[hf]at q;simp only[ao]at q;obtain⟨a',z1,z2,⟨xs,mm⟩,_⟩:=x.mem i ks hi;cases z1;obtain⟨fs,gv,g1,g2,g3,g4,g5⟩:=mm.h;refine⟨.ref A.o,z2,A.o,A.dx,fs,rfl,g1,g4 m h1 h2,C,δ,ds,x,hf,λvs C1 H1 e1 i1=>?_⟩
   obtain⟨_,_,_,ok,_⟩:=(x.ev e1).mem i ks hi;show Ef Y g (V.ref A.o::(vs++[])) H1 Q E0;rw[bC];exact⟨C1,G,ds,d,A,vs,e1.s,rfl,i1,ok,q,λv C2 H2 e2 i2=>fin v C2 H2 (e1.trans e2) i2⟩
 ·cases q
end
noncomputable def lG (n np:Nat) (fb:D->cb):cg
 |G::ds=>if ds.length+1=np/\0<np then(match fb G (startM n np 0 ds)with|some (.ret d)=>some d|some (.next _)=>some .fO|_=>none)else none
 |[]=>none
theorem LQ {P:cA}{w:cB}{K:W.Frag}{mg:ck}{base:Heap}{x qual:Str}{st:cG}{f:cE}{fd:cz}{N ps:List Str}{k:Nat}(Y:OC) (F:mZ K x qual st f fd) (S:dw N ps (bt st)) {fb:D->cb}
  (jB:∀(A:pX) (G:D) (fS:cx) (Ar:cC) (outer:List Env) (s:cy) (H:Hp) (E:XK),fR k (Ar.deeper (envOfC qual (bt st) s.heap.objs.size f fS))->∀C0 H0,@zC (dq Y A G) (oW jt P w K mg base N qual (bt st) f fS Ar outer s H E).Bp C0 H0 (dk st) (fb G)):
  ef P w K mg base jt (k+1) f fd ps (Ef Y (lG N.length ps.length fb)):=by
 refine F.ok S (λvs H Q E h=>?_) (λfS Ar outer s H vs Q E hr h=>?_)
 ·obtain⟨C,G,ds,d,A,ws,_,rfl,i,_,q,_⟩:=h;simp only[lG]at q;split at q
  ·rename_i hl;have h1:=i.length;rw[ax];omega
  ·cases q
 ·obtain⟨C,G,ds,d,A,ws,sub,rfl,i,ok,q,fin⟩:=h;letI:=dq Y A G
  refine⟨tS C C H (fb G),jB A G fS Ar outer s H E hr C H C,?_⟩;simp only[lG]at q;split at q
  case isFalse=>cases q
  rename_i hl;obtain⟨hl,EO⟩:=hl;have hN:ps.length<=N.length:=by have:=S.pre;rw[<-this,bK];omega
  have lv:(V.ref A.o::ws).length=ps.length:=by
   have h1:=i.length;rw[ax];omega
  have sg:∀n:Nat,n<(V.ref A.o::ws).length->(L2.start N (V.ref A.o::ws))[n]? =some (V.ref A.o::ws)[n]? :=λn hn=>by
   unfold L2.start;rw[aJ (by rw[ae];exact hn),av,ah hn];rfl
  have noOwn:∀n es,(startM N.length ps.length 0 ds)[n]? ≠some (Sl.own es):=λn es e=>by
   rw[o5 hl EO]at e;split at e
   ·cases hd:ds[n]? with
    |none=>rw[hd]at e;cases e
    |some d'=>rw[hd]at e;cases e
   ·split at e
    ·cases e
    ·split at e
     ·cases hd:ds[n-1]? with
      |none=>rw[hd]at e;cases e
      |some d'=>rw[hd]at e;cases e
     ·split at e<;>cases e
  have sx:Sx (startM N.length ps.length 0 ds) (L2.start N (V.ref A.o::ws)) C H:=by
   refine⟨sub,λn d e=>?_,λn es e=>absurd e (noOwn n es),λn m es fs a e=>absurd e (noOwn n es),?_,λn ks e=>?_⟩
   ·rw[o5 hl EO]at e;split at e
    ·rename_i h1;omega
    ·split at e
     ·cases e
     ·rename_i h1 h2;split at e
      ·rename_i h3;cases hd:ds[n-1]? with
       |none=>rw[hd]at e;cases e
       |some d'=>
        rw[hd]at e;cases e;obtain⟨v,g1,g2⟩:=i.get hd;refine⟨v,?_,g2⟩;rw[sg n (by omega)]
        obtain⟨n',rfl⟩:∃n',n=n'+1:=⟨n-1,by omega⟩
        rw[aK];exact congrArg some g1
      ·split at e<;>cases e
   ·unfold L2.start startM;simp only[aQ,ae,List.length_replicate,ax,bK,List.length_drop];have h1:=i.length;omega
   ·rw[o5 hl EO]at e;split at e
    ·rename_i h1;omega
    ·split at e
     ·rename_i h2;subst h2;cases e;exact⟨A.o,rfl,by rw[sg 0 (by omega)];rfl,ok,λk hk=>by cases hk⟩
     ·split at e
      ·cases hd:ds[n-1]? with
       |none=>rw[hd]at e;cases e
       |some d'=>rw[hd]at e;cases e
      ·split at e<;>cases e
  have gd:Gd C C H (startM N.length ps.length 0 ds) (L2.start N (V.ref A.o::ws)) C H:=⟨dF.refl _,.refl sub,sx,λn es a e _=>absurd e (noOwn n es)⟩
  split at q
  ·rename_i d' hf;cases q;exact⟨C,_,_,gd,hf,λv C' H' ev i'=>fin v C' H' ev i'⟩
  ·rename_i δ' hf;cases q;exact⟨C,_,_,gd,hf,λσ' C' H' g'=>fin .fO C' H' g'.ev .fO⟩
  ·cases q
noncomputable def tW (Y:OC) (H:Hp) (x dx p:cE) (gv:V):Hp:=upd (upd (upd H x (.ins Y.cl dx (me Y.fG gv []))) p (.ext (kW p []))) x (.ins Y.cl dx (me Y.fK (.ref p) (me Y.fG gv [])))
noncomputable def Fs (Y:OC):TS:=λDn σ H=>∃x dx gv,σ[0]? =some (some (.ref x))/\σ[1]? =some (some gv)/\H x=some (.ins Y.cl dx [])/\∀p,p≠x->H p=none->(p==sysModules)=false->Dn.nx σ (tW Y H x dx p gv)
noncomputable def xb (Y:OC):Sp:=λvs H Q _=>∃x dx gv,vs=[.ref x,gv]/\H x=some (.ins Y.cl dx [])/\∀p,p≠x->H p=none->(p==sysModules)=false->Q .fO (tW Y H x dx p gv)
section
variable {X:Cx}{Y:OC}{e0 e1 e2:cF}{p1 p2 p3 p4 p5:Pos}
theorem Ft (Z:kf X.K Y) (h0:PE X e0 (ij 0)) (h1:PE X e1 (ij 1)) (h2:PE X e2 (ij 0))
  (s1:swapsWith e1 (some (.Attribute e0 Y.fG p1)) p2.line X.env=pure false) (s2:swapsWith (.Dict [] [] p4) (some (.Attribute e2 Y.fK p3)) p5.line X.env=pure false):
  vv X [.Assign [.Attribute e0 Y.fG p1] e1 p2,.Assign [.Attribute e2 Y.fK p3] (.Dict [] [] p4) p5] (Fs Y):=λpins s σ H Dn I h=>by
 obtain⟨x,dx,gv,q0,q1,hx,fin⟩:=h;refine sM (Ex h0 h1 s1) (Br (Ex h2 (IC (pos:=p4)) s2)) pins s σ H Dn I ?_;refine⟨gv,q1,.ref x,q0,x,Y.cl,dx,[],rfl,hx,Z.cl,Z.nG,by decide,?_⟩
 intro p hp hs;have ja:p≠x:=λz=>by subst z;rw[cR]at hp;cases hp
 refine⟨.ref x,q0,x,Y.cl,dx,_,rfl,by rw[cK (Ne.symm ja),cR],Z.cl,Z.nK,by show(1:Nat)<1000;decide,?_⟩
 exact fin p ja (by rw[cK ja]at hp;exact hp) hs
end
theorem II {P:cA}{w:cB}{K:W.Frag}{mg:ck}{base:Heap}{x qual:Str}{st:cG}{f:cE}{fd:cz}{N:List Str}{p1 p2:Str}{k:Nat}(Y:OC) (F:mZ K x qual st f fd) (S:dw N [p1,p2] (bt st)) (hN:N.length=2)
  (jB:∀(fS:cx) (Ar:cC) (outer:List Env) (s:cy) (H:Hp) (E:XK),vv (oW jt P w K mg base N qual (bt st) f fS Ar outer s H E).Bp (dk st) (Fs Y)):
  ef P w K mg base jt (k+1) f fd [p1,p2] (xb Y):=by
 refine F.ok S (λvs H Q E h=>?_) (λfS Ar outer s H vs Q E hr h=>?_)
 ·obtain⟨x,dx,gv,rfl,_⟩:=h;rfl
 ·obtain⟨x,dx,gv,rfl,hx,fin⟩:=h;refine⟨Fs Y,jB fS Ar outer s H E,x,dx,gv,?_,?_,hx,fin⟩<;>rfl
noncomputable def Fu (Y:OC) (fg:cc):TE:=λσ H Q=>∃C δ G,@Sx Mem.keep δ σ C H/\fg δ=some G/\∀A C' H',m3 C H C' H'->H A.o=none->H A.a=none->fP Y A G C' H' []->Q (.ref A.o) H'
section
variable {X:Cx}{Y:OC}{A:pX}{G:D}{C0 H0:Hp}{e o:cF}{es:List cF}{pos p po apos:Pos}{i k:Nat}{m x:Str}{f:cE}{fd:cz}{ps:List Str}{g:cg}{fa:bZ}{fg:cc}{rest:List cG}
theorem IJ (Z:kf X.K Y) (QJ:Y.fK≠Y.fG) (M:Mk X.K Y.cl f) (F:ef X.prog X.w X.K X.mg X.base jt k f fd ps (xb Y)) (hr:fR (k+1) X.A) (hg:Gl X x) (hm:X.mg x=some (.ref Y.cl)) (hb:Binds X.K fd ps [])
  (ha:@PD Mem.keep X e fg) (ot:(x==("__debug__":Str))=false:=by decide) (he:starEach [e] X.env=(false,eval e X.env)::starEach [] X.env:=by exact eB rfl) (i9:(backTo pos (starEach [] X.env)).any (·.1)=false:=by exact eI rfl):
  PE X (.Call (.Name x p) [e] [] pos) (Fu Y fg):=by
 letI:=Mem.keep
 refine(HF M F hr hg hm hb .nil Bz (pC ha sQ he) ot he i9).imp λσ H Q ⟨C,δ,G,sx,q,fin⟩=>?_
 refine⟨C,δ,G,sx,q,λv C1 H1 e1 i1=>?_⟩
 intro x dx hx JY ja;refine⟨x,dx,v,rfl,cR,λp hp Pn zE=>⟨rfl,?_⟩⟩
 have e1:=e1.rn;have UR:p≠dx:=λz=>by
  subst z;rw[cK hp,cR]at Pn;cases Pn
 have Hm:H1 p=none:=by rw[cK hp,cK UR]at Pn;exact Pn
 have hH:∀b,b≠x->b≠p->b≠dx->tW Y (upd (upd H1 dx (.own x)) x (.ins Y.cl dx [])) x dx p v b=H1 b:=λb n1 n2 n3=>by
  unfold tW;rw[cK n1,cK n2,cK n1,cK n1,cK n3]
 have ev:m3 C1 H1 C1 (tW Y (upd (upd H1 dx (.own x)) x (.ins Y.cl dx [])) x dx p v):=by
  refine⟨dF.refl _,λb u q=>?_,λb u q=>?_,λb u q=>.inl q⟩
  ·rw[hH b (cP q hx) (cP q Hm) (cP q JY)];exact q
  ·have q':=e1.s b u q;rw[hH b (cP q' hx) (cP q' Hm) (cP q' JY)];exact q'
 refine fin ⟨x,dx,p⟩ C1 _ (e1.trans ev) (e1.h.free hx) (e1.h.free Hm) ⟨⟨_,v,cR,?_,?_,λm h1 h2=>?_,i1⟩,e1.s.free hx,AB (e1.s.free Hm) zE ?_⟩
 ·rw[gG,if_neg (Ne.symm QJ),gG,if_pos rfl]
 ·rw[gG,if_pos rfl]
 ·rw[gG,if_neg h2,gG,if_neg h1];rfl
 ·show tW Y _ x dx p v p=_;unfold tW;rw[cK hp,cR]
theorem IK {C H C1 H1 C2 H2:Hp}(e1:m3 C H C1 H1) (hn:H A.a=none) (e2:@Ev (dq Y A G) C1 H1 C2 H2):m3 C H C2 H2:=by
 letI:=dq Y A G
 refine⟨e1.c.trans e2.c,λb o q=>?_,e2.s,λb u q=>?_⟩
 ·have hb:b≠A.a:=λz=>by subst z;rw[hn]at q;cases q
  exact e2.h b o (e1.h b o q) (.inl λz=>hb (aS z).symm)
 ·rcases e2.n b u q with z|z
  ·exact e1.n b u z
  ·exact .inr (e1.h.free z)
theorem AF {pl:Sem Bool}(Z:kf X.K Y) (ho:PE X o (Fu Y fg)) (hm:Meth X.K Y.cl m f) (h1:m≠Y.fG) (h2:m≠Y.fK) (F:ef X.prog X.w X.K X.mg X.base jt k f fd ps (Ef Y g)) (hr:fR k X.A) (hb:Binds X.K fd ps []) (ha:@Ec Mem.keep X (e::es) fa)
  (ma:starEach (e::es) X.env=(false,eval e X.env)::starEach es X.env) (i9:(backTo pos (starEach es X.env)).any (·.1)=false)
  (ht:eval (.Call (.Attribute o m apos) (e::es) [] pos) X.env=(do
   let ov <-eval o X.env
   standAt apos.atName
   let (f,first) <-holding [ov] (getMethod ov m pl)
   callWith pos f first (backTo pos (starEach (e::es) X.env)) (backToKw pos (keywordEach [] X.env)))):
  @PD Mem.keep X (.Call (.Attribute o m apos) (e::es) [] pos) (pY g fg fa):=by
 letI:=Mem.keep
 refine(Bv ho Z.cl hm F hr hb .nil Bz ha ma i9 ht).imp λσ H Q ⟨C,δ,d,x,q,fin⟩=>?_
 unfold pY at q;cases hG:fg δ with
 |none=>rw[hG]at q;cases q
 |some G=>
  cases hf:fa δ with
  |none=>rw[hG,hf]at q;cases q
  |some ds=>
   rw[hG,hf]at q;simp only[ao]at q;refine⟨C,δ,G,x,hG,λA C1 H1 e1 n1 n2 mm=>?_⟩
   obtain⟨fs,gv,g1,g2,g3,g4,g5⟩:=mm.h;refine⟨A.o,A.dx,fs,rfl,g1,g4 m h1 h2,C1,δ,ds,x.ev e1.up,hf,λvs C2 H2 e2 i2=>?_⟩
   show Ef Y g (V.ref A.o::(vs++[])) H2 Q E0;rw[bC];have QK:=e2.rn;exact⟨C2,G,ds,d,A,vs,QK.s,rfl,i2,⟨[],mm.N1 QK⟩,q,λv C3 H3 e3 i3=>fin v C3 H3 (IK (e1.trans QK) n2 e3).up i3⟩
end
end DL
namespace DL
open PySem PySem.Spec PyProof.Rows L2
def jS (P:cA) (w:cB) (K:W.Frag) (mg:ck) (base:Heap) (k:Nat) (Y:OC) (m:Str) (g:cg):Prop:=
 ∃f fd ps,ef P w K mg base jt k f fd ps (Ef Y g)/\Meth K Y.cl m f/\Binds K fd ps []/\m≠Y.fG/\m≠Y.fK
theorem jS.mono {P:cA}{w:cB}{K:W.Frag}{mg:ck}{base:Heap}{k l:Nat}{Y:OC}{m:Str}{g:cg}(c:jS P w K mg base k Y m g) (h:k<=l):jS P w K mg base l Y m g:=
 let ⟨f,fd,ps,F,r⟩:=c;⟨f,fd,ps,F.mono h,r⟩
def qR (P:cA) (w:cB) (K:W.Frag) (mg:ck) (base:Heap) (k:Nat) (Y:OC) (x:Str):Prop:=
 ∃f fd ps,ef P w K mg base jt k f fd ps (xb Y)/\Mk K Y.cl f/\mg x=some (.ref Y.cl)/\Binds K fd ps []/\Y.fK≠Y.fG
theorem qR.mono {P:cA}{w:cB}{K:W.Frag}{mg:ck}{base:Heap}{k l:Nat}{Y:OC}{x:Str}(c:qR P w K mg base k Y x) (h:k<=l):qR P w K mg base l Y x:=
 let ⟨f,fd,ps,F,r⟩:=c;⟨f,fd,ps,F.mono h,r⟩
theorem yp {P:cA}{w:cB}{K:W.Frag}{mg:ck}{base:Heap}{k:Nat}{f:cE}{fd:cz}{ps:List Str}{Y:OC}:ef P w K mg base jt k f fd ps (Ef Y λ_=>none):=
 ⟨(λvs H Q E ⟨_,_,_,_,_,_,_,_,_,_,q,_⟩=>by cases q),λA outer s H args us vs Q E _ _ _ _ ⟨_,_,_,_,_,_,_,_,_,_,q,_⟩=>by cases q⟩
structure Oa (X:Cx) (Y:OC) (e:cF) (f:cc):Prop where
 go:PE X e (Fu Y f)
section
variable {X:Cx}{Y:OC}{A:pX}{G:D}{C0 H0:Hp}{e k o:cF}{es:List cF}{body rest:List cG}{pos pos' p p2 po apos:Pos}{i l:Nat}{m x:Str}{g:cg}{fa:bZ}{fg:cc}
theorem so (Z:kf X.K Y) (ho:PE X o (ij i)) (hb:attributeBase o Y.fG X.env (eval o X.env)=eval o X.env:=by rfl):@WD (dq Y A G) X (.Attribute o Y.fG po) (lF G i):=by
 letI:=dq Y A G
 exact⟨IH Z ho hb⟩
theorem Fv (fs:List Nat) {fk:cc}{fb:cb}(hu:X.A.units+64<cLine) (Z:kf X.K Y) (hk:@WD (dq Y A G) X k fk) (ho:PE X o (ij i)) (QI:@sj (dq Y A G) X C0 H0 body fb) (hb:attributeBase o Y.fK X.env (eval o X.env)=eval o X.env:=by rfl) (hm:behindInMarks .NotIn (.Attribute o Y.fK po)=false:=by first|exact sO _|rfl):
  @WB (dq Y A G) X C0 H0 (.If (.Compare k [.NotIn] [.Attribute o Y.fK po] pos) body [] pos') (pV i fs fk fb):=by
 letI:=dq Y A G
 exact⟨Fp fs hu Z hk.go ho hb QI.go hm⟩
theorem Dx {fk:cc}(hu:X.A.units+64<cLine) (Z:kf X.K Y) (ho:PE X o (ij i)) (hk:@WD (dq Y A G) X k fk) (hs:nR k) (hb:attributeBase o Y.fK X.env (eval o X.env)=eval o X.env:=by rfl):@WD (dq Y A G) X (.Subscript (.Attribute o Y.fK po) k pos) (nh (Y.Mf G) i fk):=by
 letI:=dq Y A G
 exact⟨Dv hu Z ho hb hk.go hs⟩
theorem Dy {fk fe:cc}(hu:X.A.units+64<cLine) (Z:kf X.K Y) (he:@WD (dq Y A G) X e fe) (ho:PE X o (ij i)) (hk:@WD (dq Y A G) X k fk) (hb:attributeBase o Y.fK X.env (eval o X.env)=eval o X.env:=by rfl)
  (ha:∀v,assign (.Subscript (.Attribute o Y.fK po) k p) X.env v=(do
   let ov <-holding [v] (eval (.Attribute o Y.fK po) X.env)
   let iv <-holding [v,ov] (eval k X.env)
   standAt p
   holding [v,ov,iv] (setItem ov iv v)
   release [v,ov,iv] []):=by intro _;rfl)
  (hs:swapsWithSole [.Subscript (.Attribute o Y.fK po) k p] e pos.line X.env=pure false:=by rfl) (hw:swappedStores [.Subscript (.Attribute o Y.fK po) k p] e X.env=pure none:=by rfl) (h1:(assignEach [.Subscript (.Attribute o Y.fK po) k p] X.env).map (·.2)=[assign (.Subscript (.Attribute o Y.fK po) k p) X.env]:=by rfl):
  @WB (dq Y A G) X C0 H0 (.Assign [.Subscript (.Attribute o Y.fK po) k p] e pos) (ni (Y.Mf G) i fk fe):=by
 letI:=dq Y A G
 exact⟨Dw hu Z he.go ho hb hk.go ha hs hw h1⟩
theorem pZ {pl:Sem Bool}(Z:kf X.K Y) (c:jS X.prog X.w X.K X.mg X.base l Y m g) (hr:fR l X.A) (ho:PE X o (ij i)) (ha:@Fg (dq Y A G) X (e::es) fa)
  (ma:starEach (e::es) X.env=(false,eval e X.env)::starEach es X.env:=by exact eB rfl) (i9:(backTo pos (starEach es X.env)).any (·.1)=false:=by exact eI rfl)
  (ht:eval (.Call (.Attribute o m apos) (e::es) [] pos) X.env=(do
   let ov <-eval o X.env
   standAt apos.atName
   let (f,first) <-holding [ov] (getMethod ov m pl)
   callWith pos f first (backTo pos (starEach (e::es) X.env)) (backToKw pos (keywordEach [] X.env))):=by rfl):
  @WD (dq Y A G) X (.Call (.Attribute o m apos) (e::es) [] pos) (kj i G g fa):=by
 obtain⟨f,fd,ps,F,hm,hb,h1,h2⟩:=c;letI:=dq Y A G
 exact⟨Fq Z ho hm h1 h2 F hr hb ha.go ma i9 ht⟩
theorem QL (Z:kf X.K Y) (c:qR X.prog X.w X.K X.mg X.base l Y x) (hr:fR (l+1) X.A) (hg:Gl X x) (ha:@WD Mem.keep X e fg) (ot:(x==("__debug__":Str))=false:=by decide) (he:starEach [e] X.env=(false,eval e X.env)::starEach [] X.env:=by exact eB rfl) (i9:(backTo pos (starEach [] X.env)).any (·.1)=false:=by exact eI rfl):
  Oa X Y (.Call (.Name x p) [e] [] pos) fg:=by
 obtain⟨f,fd,ps,F,M,hm,hb,QJ⟩:=c;exact⟨IJ Z QJ M F hr hg hm hb (@WD.go Mem.keep _ _ _ ha) ot he i9⟩
theorem AG {pl:Sem Bool}(Z:kf X.K Y) (c:jS X.prog X.w X.K X.mg X.base l Y m g) (hr:fR l X.A) (ho:Oa X Y o fg) (ha:@Fg Mem.keep X (e::es) fa)
  (ma:starEach (e::es) X.env=(false,eval e X.env)::starEach es X.env:=by exact eB rfl) (i9:(backTo pos (starEach es X.env)).any (·.1)=false:=by exact eI rfl)
  (ht:eval (.Call (.Attribute o m apos) (e::es) [] pos) X.env=(do
   let ov <-eval o X.env
   standAt apos.atName
   let (f,first) <-holding [ov] (getMethod ov m pl)
   callWith pos f first (backTo pos (starEach (e::es) X.env)) (backToKw pos (keywordEach [] X.env))):=by rfl):
  @WD Mem.keep X (.Call (.Attribute o m apos) (e::es) [] pos) (pY g fg fa):=by
 obtain⟨f,fd,ps,F,hm,hb,h1,h2⟩:=c;exact @WD.mk Mem.keep _ _ _ (AF Z ho.go hm h1 h2 F hr hb (@Fg.go Mem.keep _ _ _ ha) ma i9 ht)
end
theorem sq {P:cA}{w:cB}{K:W.Frag}{mg:ck}{base:Heap}{x qual:Str}{st:cG}{f:cE}{fd:cz}{N ps:List Str}{k:Nat}(Y:OC) (F:mZ K x qual st f fd) (S:dw N ps (bt st)) {fb:D->cb}
  (jB:∀(A:pX) (G:D) (fS:cx) (Ar:cC) (outer:List Env) (s:cy) (H:Hp) (E:XK),fR k (Ar.deeper (envOfC qual (bt st) s.heap.objs.size f fS))->∀C0 H0,@sj (dq Y A G) (oW jt P w K mg base N qual (bt st) f fS Ar outer s H E).Bp C0 H0 (dk st) (fb G)):
  ef P w K mg base jt (k+1) f fd ps (Ef Y (lG N.length ps.length fb)):=LQ Y F S λA G fS Ar outer s H E hr C0 H0=>@sj.go (dq Y A G) _ _ _ _ _ (jB A G fS Ar outer s H E hr C0 H0)
end DL
namespace DL
open PySem PySem.Spec PyProof.Rows L2
end DL
namespace DL
open PySem PySem.Spec PyProof.Rows L2
section
variable {K:W.Frag}{Ce Cf Cn ea:cE}{oe:Obj}
end
end DL
namespace DL
open PySem PySem.Spec PyProof.Rows L2
section
variable {P:cA}{w:cB}{K:W.Frag}{mg:ck}{base:Heap}{N:List Str}{qual:Str}{scope:Scope}{f:cE}{cd:cx}{A:cC}{outer:List Env}{s0:cy}{H0:Hp}{E:XK}{Ce:cE}
end
section
variable {X:Cx}{k:Nat}
end
end DL
namespace DL
open PySem PySem.Spec PyProof.Rows L2
section
variable {X:Cx}{k:Nat}
end
section
variable [Mem] {X:Cx}{E:XK}{Ce:cE}{C0 H0:Hp}{st:cG}{body rest:List cG}{c:cF}{pos:Pos}
end
end DL
namespace DL
open PySem PySem.Spec PyProof.Rows L2
section
variable [Mem] {X:Cx}{E:XK}{Ce Cf Cn:cE}{C0 H0:Hp}{k:Nat}
end
end DL
namespace DL
open PySem PySem.Spec PyProof.Rows L2
section
variable {X:Cx}{ea:cE}{oe:Obj}{pins:cm}{σ:L2.St}{H:Hp}{s:cy}
end
section
variable [Mem] {X:Cx}{ea Ce Cf Cn:cE}{oe:Obj}{n c:Str}{p p1 p2 pos:Pos}{j:Nat}{b:Bool}
end
end DL
namespace DL
open PySem PySem.Spec PyProof.Rows L2
section
variable [Mem] {X:Cx}{k:Nat}{f Ce Cf Cn:cE}{fd:cz}{ps:List Str}{g:cv->Option (Option D)}{fa:bZ}{x:Str}{p pos:Pos}{e:cF}{es:List cF}
end
end DL
namespace DL
open PySem PySem.Spec PyProof.Rows L2
section
variable [Mem] {X:Cx}{C0 H0:Hp}{k:Nat}{Ce Cf Cn:cE}{g:cv->Option (Option D)}{fa:bZ}{x n c y:Str}{p p2 fu US IL wy py:Pos}{e:cF}{es:List cF}{b0:cG}{Sr:List cG}{c0:D}{vc:V}
end
end DL
namespace HT
open PySem PySem.Spec PyProof.Rows
section
variable {prog:cA}{w:cB}{A:cC}{E:cj}{s:cy}
end
end HT
namespace DL
open PySem PySem.Spec PyProof.Rows L2
section
variable [Mem] {X:Cx}{e:cF}{pos p0 p1 p2:Pos}{k0:Nat}{f:cc}
end
end DL
namespace DL
open PySem PySem.Spec PyProof.Rows L2
section
variable [Mem] {X:Cx}
end
section
variable {X:Cx}
end
end DL
namespace DL
open PySem PySem.Spec PyProof.Rows L2
section
variable {X:Cx}
end
end DL
namespace DL
open PySem PySem.Spec PyProof.Rows L2
section
variable [Mem] {X:Cx}{e o:cF}{f:cc}{x:Str}{xs:List Str}{p p2 pos apos:Pos}
end
end DL
namespace DL
open PySem PySem.Spec PyProof.Rows L2
noncomputable def iS (f:cc):bZ:=λδ=>match f δ with
 |some (.lst ds)=>some ds
 |some (.tup ds)=>some ds
 |_=>none
noncomputable def Ob:cp->Int
 |[]=>0
 |a::r=>if r.isEmpty then a else(if a<Ob r then Ob r else a)
noncomputable def iO:cp->Int
 |[]=>0
 |a::r=>if r.isEmpty then a else(if iO r<a then iO r else a)
noncomputable def yq:cg
 |[.lst ds]=>(intsOf ds).bind λns=>if ns.isEmpty then none else some (.int (iO ns))
 |_=>none
theorem tX:∀(l:cp),l≠[]->iO l∈l/\∀x∈l,iO l<=x
 |[],h=>absurd rfl h
 |[a],_=>by simp[iO]
 |a::b::r,_=>by
  obtain⟨h1,h2⟩:=tX (b::r) (by simp)
  have e:iO (a::b::r)=(if iO (b::r)<a then iO (b::r)else a):=by rw[iO];simp
  rw[e];refine⟨?_,λx hx=>?_⟩
  ·by_cases h:iO (b::r)<a
   ·rw[if_pos h];exact ai _ h1
   ·rw[if_neg h];exact af
  ·rcases List.mem_cons.mp hx with rfl|q
   ·split<;>omega
   ·have:=h2 x q;split<;>omega
theorem tY:∀{ns:cp}{di:cw},Vals (ns.map V.int) di->∃xs:Array (Int×Tok),di.toArray=intItems xs/\xs.toList.map (·.1)=ns
 |[],_,.nil=>⟨#[],by simp[intItems],rfl⟩
 |n::ns,_,.cons r t=>by
  obtain⟨tk,rfl⟩:=r;obtain⟨xs,e1,e2⟩:=tY t;refine⟨((n,tk)::xs.toList).toArray,?_,by simpa using e2⟩
  have:intItems xs=(xs.toList.map λp=>Value.int p.1 p.2).toArray:=by cases xs;simp[intItems]
  rw[this]at e1;have e3:=congrArg Array.toList e1;simp only[]at e3;simp[intItems,e3]
section
variable {X:Cx}
theorem u3 (hc:X.calm=true):hU X (.builtin "min") (λxs H Q=>∃(p:cE) (ns:cp),xs=[.ref p]/\oE X.K H p (ns.map V.int)/\ns≠[]/\Q (.int (iO ns)) H):=by
 intro pins s σ H xs us Q I r h;obtain⟨p,ns,rfl,hq,ja,q⟩:=h;obtain⟨u,rfl,r1⟩:=vals1 r;cases r1;obtain⟨di,rv,pl,hz⟩:=I.list hq;obtain⟨ys,e1,e2⟩:=tY rv;have hl:=pl.isList;rw[e1]at hl;have hsz:0<ys.size:=by
  have:(ys.toList.map (·.1)).length=ns.length:=by rw[e2]
  rw[ae,aN]at this;cases ns with
  |nil=>exact absurd rfl ja
  |cons a r=>rw[ax]at this;omega
 refine min_intList (I.ok.hd hc) hl hsz λv h' tk hv k=>⟨_,H,I.kept k,?_,q⟩
 obtain⟨t,rfl⟩:=intItems_at hv;obtain⟨h1,h2⟩:=argBest_lt (numAt ys) (ys.size-1);generalize argBest (λi j=>decide (numAt ys i<numAt ys j)) (ys.size-1)=j at *
 have hn:numAt ys j∈ns:=by
  rw[numAt_eq,e2,ak];have hj:j<ns.length:=by rw[<-e2,ae,aN];omega
  rw[ah hj];exact List.getElem_mem hj
 obtain⟨m1,m2⟩:=tX ns ja;have YJ:=m2 _ hn;have Si:numAt ys j<=iO ns:=by
  obtain⟨i,hi,e⟩:=List.getElem_of_mem m1;have vK:i<ys.size:=by rw[<-e2,ae,aN]at hi;exact hi
  have:=h2 i (by omega)
  rw[numAt_eq ys i,e2,ak,ah hi]at this;simp only[Option.getD_some]at this;rw[e]at this;exact this
 exact⟨t,by rw[show numAt ys j=iO ns by omega]⟩
end
section
variable [Mem] {X:Cx}{e o tg a b:cF}{f g:cc}{pos apos:Pos}
theorem LR (hc:X.calm=true):oG X (.builtin "min") yq:=by
 refine⟨_,u3 hc,?_⟩;intro C H vs ds d Q s i q k;unfold yq at q;split at q
 ·rename_i es;cases hb:intsOf es with
  |none=>rw[hb]at q;cases q
  |some ns=>
   rw[hb]at q;simp only[ao]at q;split at q
   ·cases q
   ·rename_i ja;cases q;obtain⟨v,rfl,j⟩:=i.one;obtain⟨p,xs,rfl,hq,l⟩:=j.list (K:=X.K) s;rw[gu hb]at l;cases l.kR;exact⟨p,ns,rfl,hq,λz=>ja (by rw[z];rfl),k _ C H (.refl s) (.int _)⟩
 ·cases q
theorem BR (h:WD X e f):vM X tg e (iS f):=⟨λpins s σ H Q I ⟨C,δ,ds,x,q,k⟩=>by
 unfold iS at q;split at q
 ·rename_i es hf;exact yg h.go pins s σ H Q I ⟨C,δ,ds,x,by unfold iL;rw[hf];exact q,k⟩
 ·rename_i es hf;exact BG h.go pins s σ H Q I ⟨C,δ,ds,x,by unfold iT;rw[hf];exact q,k⟩
 ·cases q⟩
end
end DL
namespace LW
open PySem DL
open L2 (js oX)
noncomputable def p6:cb:=
  (eY (dA uW (dA uW (dA ow (dt 0) (dC (.int 48271))) (dt 1)) (dt 2)))
noncomputable def nk:cb:=
  p6
noncomputable def df:cg:=il 3 3 nk
noncomputable def kn:cb:=
  (lq 4 (dA iR (dt 1) (cM df (aX (cU 0) (aX (dC (.int 9973)) (aX (dA iR (dA qH (dt 2) (dt 1)) (dC (.int 1))) cL))))))
noncomputable def kr:cb:=
  (ir 5 (Af cL))
noncomputable def kx:cb:=
  (lq 7 (dA iR (dC (.int 1)) (cM df (aX (dA iR (dt 0) (dA ow (dC (.int 7)) (dt 6))) (aX (dC (.int 9949)) (aX (cM yi (aX (dC (.int 4)) (aX (dt 4) cL))) cL))))))
noncomputable def gH:cb:=
  (lq 7 (dC (.int 2)))
noncomputable def fX:cb:=
  (pq (m4 (qB (dA Lb (dA uW (dt 0) (dC (.int 3))) (dC (.int 0)))) (m4 (qB (dA o3 (dt 7) (dC (.int 1)))) (qB (dA Lb (dt 4) (dC (.int 1)))))) gH kO)
noncomputable def ky:cb:=
  (ir 8 (zD (aX (cU 4) cL)))
noncomputable def kz:cb:=
  (vL 9 10 8 (zD (aX (cU 7) cL)) (cM df (aX (dA iR (dA iR (dt 0) (dA ow (dC (.int 11)) (dt 6))) (dA ow (dC (.int 3)) (dt 10))) (aX (dC (.int 9941)) (aX (dA qH (dt 4) (dt 10)) cL)))))
noncomputable def kA:cb:=
  (uY 5 (cM iN (aX (dL (eQ fF (aX (dt 9) cL))) cL)))
noncomputable def gI:cb:=
  (pq (qB (dA yh (cM iN (aX (dL (eQ fF (aX (dt 9) cL))) cL)) (dt 5))) kA kO)
noncomputable def gn:cb:=
  (eR kx
   (eR fX
   (eR ky
   (eR kz
   (rq 9 gI)))))
noncomputable def jN:cb:=
  (oy 6 (zD (aX (cM df (aX (cU 0) (aX (dC (.int 9967)) (aX (dA iR (dt 3) (dC (.int 1))) cL)))) cL)) gn)
noncomputable def jO:cb:=
  (eY (fL (aX (cU 4) (aX (cM iN (aX (dL (eQ fF (aX (dt 5) cL))) cL)) cL))))
noncomputable def ju:cb:=
  (eR kn
  (eR kr
  (eR jN
  jO)))
noncomputable def de:cg:=il 11 4 ju
end LW
namespace LW
open PySem DL
open L2 (js oX)
noncomputable def lx (c p m:Int):Int:=c*48271%p%m
theorem sr {c p m:Int}(hm:0<m):0<=lx c p m:=Int.emod_nonneg _ (by omega)
theorem su {c p m:Int}(hm:0<m):lx c p m<m:=Int.emod_lt_of_pos _ hm
theorem BS {c p m:Int}(hp:0<p) (hm:0<m):df [.int c,.int p,.int m]=some (.int (lx c p m)):=by
 simp[df,nk,p6,il,eY,dA,dt,dC,ow,uW,EV,EX,Ae,hp,hm,lx]
theorem yr {j:Nat}{f:cb}(P:Nat->dD->Prop):∀(ds:cv) (n:Nat) (δ:dD),P n δ->
  (∀i δ d,ds[i]? =some d->P (n+i) δ->∃δ',f (δ.set j (.dat d))=some (.next δ')/\P (n+i+1) δ')->∃δ',iU j f ds δ=some (.next δ')/\P (n+ds.length) δ'
 |[],n,δ,h0,_=>⟨δ,rfl,h0⟩
 |d::ds,n,δ,h0,st=>by
  obtain⟨δ1,e1,h1⟩:=st 0 δ d rfl h0;obtain⟨δ2,e2,h2⟩:=yr P ds (n+1) δ1 h1 (λi δ d hd hp=>by
   have:=st (i+1) δ d (by simpa using hd) (by rw[show n+(i+1)=n+1+i by omega];exact hp)
   rw[show n+(i+1)+1=n+1+i+1 by omega]at this
   exact this)
  refine⟨δ2,?_,by rw[show n+(d::ds).length=n+1+ds.length by simp;omega];exact h2⟩
  unfold iU;rw[e1];exact e2
theorem o6 {α:Type}:∀(ls:List α) (i:Nat) (h:i<ls.length),(ls[i]::ls.eraseIdx i).Perm ls
 |a::l,0,_=>List.Perm.refl _
 |a::l,i+1,h=>by
  simp only[List.getElem_cons_succ,List.eraseIdx_cons_succ];exact(List.Perm.swap _ _ _).trans (List.Perm.cons _ (o6 l i (by simpa using h)))
theorem BU {j m:Nat}{f:cc}{δ:dD}:∀(ds ls:cv),ds.length<=ls.length->
  (∀k d lc,ds[k]? =some d->lc.length+k=ls.length->∃i:Int,f ((δ.set m (.own lc)).set j (.dat d))=some (.int i)/\0<=i/\i<lc.length)->
  ∃xs rest,wX j m f δ ls ds=some (xs,rest)/\(xs++rest).Perm ls/\xs.length=ds.length
 |[],ls,_,_=>⟨[],ls,rfl,List.Perm.refl _,rfl⟩
 |d::ds,ls,hl,h=>by
  obtain⟨i,e,h0,h1⟩:=h 0 d ls rfl rfl;have hi:i.toNat<ls.length:=by omega
  have le:(ls.eraseIdx i.toNat).length=ls.length-1:=List.length_eraseIdx_of_lt hi;obtain⟨xs,rest,e2,p,l⟩:=BU ds (ls.eraseIdx i.toNat) (by simp at hl;omega) (λk d lc hd hk=>h (k+1) d lc (by simpa using hd) (by omega))
  refine⟨ls[i.toNat]::xs,rest,?_,?_,by simp[l]⟩
  ·unfold wX;rw[e];simp only[if_pos h0,ah hi,e2,bB]
  ·rw[List.cons_append];refine(List.Perm.cons _ p).trans ?_;exact o6 _ _ hi
theorem jg:∀(n:Nat) (lo x:Int),x∈dP lo n↔lo<=x/\x<lo+n
 |0,lo,x=>by simp only[dP,bJ,false_iff];omega
 |n+1,lo,x=>by
  simp only[dP,List.mem_cons,jg n (lo+1) x];omega
theorem iA:∀(n:Nat) (lo:Int),(dP lo n).Pairwise (·< ·)
 |0,_=>.nil
 |n+1,lo=>by
  simp only[dP,List.pairwise_cons];exact⟨λx hx=>by rw[jg]at hx;omega,iA n (lo+1)⟩
end LW
namespace ST
open PySem SetTable
abbrev fc (l:List Nat):Prop:=l.Pairwise (·< ·)
theorem sv {l:List Nat}(h:fc l) {i k:Nat}(UT:i<k) (hk:k<l.length):l[i]'(by omega)<l[k]:=List.pairwise_iff_getElem.mp h i k (by omega) hk UT
theorem xc (xs:Array Nat) (j:Nat) (hr:fc xs.toList):∀(fuel lo hi:Nat),lo<=hi->hi<=xs.size->hi-lo<=fuel->(∀k (h:k<xs.size),k<lo->xs[k]<j)->(∀k (h:k<xs.size),hi<=k->j<=xs[k])->
  let r:=below.go xs j fuel lo hi
  r<=xs.size/\(∀k (h:k<xs.size),k<r->xs[k]<j)/\(∀k (h:k<xs.size),r<=k->j<=xs[k])
 |0,lo,hi,h1,h2,h3,h4,h5=>by
  have e:lo=hi:=by omega
  subst e;exact⟨h2,h4,h5⟩
 |fuel+1,lo,hi,h1,h2,h3,h4,h5=>by
  unfold below.go;by_cases eP:lo<hi
  ·simp only[if_pos eP];have Oc:(lo+hi)/2<xs.size:=by omega
   have hg:xs.getD ((lo+hi)/2) j=xs[(lo+hi)/2]:=by simp[Oc]
   rw[hg];by_cases hc:xs[(lo+hi)/2]<j
   ·rw[if_pos hc];refine xc xs j hr fuel ((lo+hi)/2+1) hi (by omega) h2 (by omega) (λk hk UU=>?_) h5
    by_cases QM:k=(lo+hi)/2
    ·subst QM;exact hc
    ·have:=sv hr (i:=k) (k:=(lo+hi)/2) (by omega) (by simpa using Oc)
     simp only[Array.getElem_toList]at this;omega
   ·rw[if_neg hc];refine xc xs j hr fuel lo ((lo+hi)/2) (by omega) (by omega) (by omega) h4 (λk hk UU=>?_)
    by_cases QM:k=(lo+hi)/2
    ·subst QM;omega
    ·have:=sv hr (i:=(lo+hi)/2) (k:=k) (by omega) (by simpa using hk)
     simp only[Array.getElem_toList]at this;omega
  ·simp only[if_neg eP];have e:lo=hi:=by omega
   subst e;exact⟨h2,h4,h5⟩
theorem mv (xs:Array Nat) (j:Nat) (hr:fc xs.toList):below xs j<=xs.size/\(∀k (h:k<xs.size),k<below xs j->xs[k]<j)/\(∀k (h:k<xs.size),below xs j<=k->j<=xs[k]):=
 xc xs j hr xs.size 0 xs.size (bM _) (au _) (by omega) (λk h hk=>by omega) (λk h hk=>by omega)
theorem Fw {xs:Array Nat}{j i:Nat}(hr:fc xs.toList) (h:xs[i]? =some j):below xs j=i:=by
 obtain⟨h1,h2,h3⟩:=mv xs j hr;obtain⟨hi,hv⟩:=Array.getElem?_eq_some_iff.mp h;by_cases eP:i<below xs j
 ·have:=h2 i hi eP;omega
 ·by_cases JK:below xs j<i
  ·have hb:below xs j<xs.size:=by omega
   have:=sv hr (i:=below xs j) (k:=i) JK (by simpa using hi)
   simp only[Array.getElem_toList]at this;have:=h3 (below xs j) hb (au _);omega
  ·omega
structure Tb (t:cD):Prop where
 rise:fc t.place.toList
 Od:t.dummies=#[]
theorem nX {t:cD}(h:Tb t) {j i:Nat}(hi:t.place[i]? =some j):t.slot j=.live i:=by
 unfold slot;rw[Fw h.rise hi];simp[hi]
theorem tZ {t:cD}(h:Tb t) {j:Nat}(hj:j∉t.place.toList):t.slot j=.empty:=by
 unfold slot;have h1:¬ (t.place[below t.place j]? ==some j)=true:=λz=>hj (by
  have z':t.place[below t.place j]? =some j:=by simpa using z
  exact Array.mem_toList_iff.mpr (Array.mem_of_getElem? z'))
 have h2:has t.dummies j=false:=by rw[h.Od];rfl
 simp only[if_neg h1,h2];rfl
theorem t4 {t:cD}(h:Tb t) (j:Nat):(∃i,t.slot j=.live i/\t.place[i]? =some j)\/(t.slot j=.empty/\j∉t.place.toList):=by
 by_cases hj:j∈t.place.toList
 ·obtain⟨i,hi⟩:=bp hj;have vK:t.place[i]? =some j:=by simpa using hi
  exact .inl ⟨i,nX h vK,vK⟩
 ·exact .inr ⟨tZ h hj,hj⟩
end ST
namespace ST
open PySem SetTable
noncomputable def it {α:Type}(f:α->α):Nat->α->α
 |0,a=>a
 |n+1,a=>it f n (f a)
theorem o7 {α:Type}(f:α->α):∀(m n:Nat) (a:α),it f (m+n) a=it f n (it f m a)
 |0,n,a=>by rw[Nat.zero_add];rfl
 |m+1,n,a=>by rw[show m+1+n=(m+n)+1 by omega];exact o7 f m n (f a)
theorem mw {α:Type}(f:α->α) (n:Nat) (a:α):it f (n+1) a=f (it f n a):=o7 f n 1 a
noncomputable def lp (mask i pt:Nat):Nat:=(i*5+1+pt/32)%(mask+1)
noncomputable def ff (mask:Nat) (p:Probe):Probe:={p with j:=lp mask p.i p.perturb,more:=runEnd mask (lp mask p.i p.perturb)-lp mask p.i p.perturb,i:=lp mask p.i p.perturb,perturb:=p.perturb/32}
noncomputable def iB (mask:Nat) (p:Probe):Probe:=if p.more>0 then {p with j:=p.j+1,more:=p.more-1}else ff mask p
theorem Fx (t:cD) (p:Probe):t.advance p=iB t.mask p:=by
 unfold SetTable.advance iB;split<;>rfl
theorem LS (mask i:Nat):runEnd mask i-i<=9:=by unfold runEnd;split<;>omega
theorem t5 (mask:Nat):∀(k:Nat) (p:Probe),k<=p.more->it (iB mask) k p={p with j:=p.j+k,more:=p.more-k}
 |0,p,_=>rfl
 |k+1,p,h=>by
  show it (iB mask) k (iB mask p)=_;have e:iB mask p={p with j:=p.j+1,more:=p.more-1}:=by unfold iB;rw[if_pos (by omega)]
  rw[e,t5 mask k _ (by show k<=p.more-1;omega)]
  show({p with j:=p.j+1+k,more:=p.more-1-k}:Probe)={p with j:=p.j+(k+1),more:=p.more-(k+1)}
  rw[show p.j+1+k=p.j+(k+1) by omega,show p.more-1-k=p.more-(k+1) by omega]
theorem rC (mask:Nat) (p:Probe):it (iB mask) (p.more+1) p=ff mask p:=by
 rw[mw,t5 mask p.more p (au _)];unfold iB;rw[if_neg (by show ¬ p.more-p.more>0;omega)]
 rfl
theorem blocks (mask:Nat):∀(n:Nat) (p:Probe),p.more<=9->∃k,k<=10*n/\it (iB mask) k p=it (ff mask) n p
 |0,p,_=>⟨0,au _,rfl⟩
 |n+1,p,h=>by
  obtain⟨k,h1,h2⟩:=blocks mask n (ff mask p) (LS mask _);refine⟨p.more+1+k,by omega,?_⟩
  rw[o7,rC];exact h2
theorem AH (mask:Nat):∀(n:Nat) (p:Probe),(it (ff mask) n p).perturb=p.perturb/32^n
 |0,p=>by show p.perturb=_;rw[Nat.pow_zero,Nat.div_one]
 |n+1,p=>by
  show(it (ff mask) n (ff mask p)).perturb=_;rw[AH mask n];show p.perturb/32/32^n=_;rw[Nat.div_div_eq_div_mul,Nat.pow_succ,Nat.mul_comm]
noncomputable def IM (mask i:Nat):Nat:=(i*5+1)%(mask+1)
theorem Fy (mask:Nat):∀(n:Nat) (p:Probe),p.perturb/32=0->(it (ff mask) n p).i=it (IM mask) n p.i
 |0,p,_=>rfl
 |n+1,p,h=>by
  show(it (ff mask) n (ff mask p)).i=it (IM mask) n (IM mask p.i);rw[Fy mask n _ (by show p.perturb/32/32=0;rw[h])]
  congr 1
  show lp mask p.i p.perturb=IM mask p.i;unfold lp IM;rw[h,Nat.add_zero]
theorem Oe:∀i:Fin 8,∀e:Fin 8,∃m:Fin 8,it (IM 7) m.val i.val=e.val:=by decide +kernel
theorem JZ:∀i:Fin 32,∀e:Fin 32,∃m:Fin 32,it (IM 31) m.val i.val=e.val:=by decide +kernel
theorem reach {mask:Nat}(hm:mask=7\/mask=31) {p:Probe}(h9:p.more<=9) (hp:p.perturb<2^64) {e:Nat}(he:e<=mask):∃k,k<10*turns mask/\(it (iB mask) k p).j=e:=by
 have key:∃m,m<=mask/\it (IM mask) m (it (ff mask) 12 p).i=e:=by
  have hi:(it (ff mask) 12 p).i<=mask:=by
   rw[mw];show lp mask _ _<=mask;unfold lp;have:=Nat.mod_lt ((it (ff mask) 11 p).i*5+1+(it (ff mask) 11 p).perturb/32) (show 0<mask+1 by omega)
   omega
  rcases hm with rfl|rfl
  ·obtain⟨m,hm⟩:=Oe ⟨(it (ff 7) 12 p).i,by omega⟩ ⟨e,by omega⟩
   exact⟨m.val,by omega,hm⟩
  ·obtain⟨m,hm⟩:=JZ ⟨(it (ff 31) 12 p).i,by omega⟩ ⟨e,by omega⟩
   exact⟨m.val,by omega,hm⟩
 obtain⟨m,h1,h2⟩:=key;obtain⟨k,h3,h4⟩:=blocks mask (12+m) p h9;refine⟨k,by unfold turns;omega,?_⟩
 rw[h4,o7];have h0:(it (ff mask) 12 p).perturb/32=0:=by
  rw[AH,Nat.div_div_eq_div_mul];apply Nat.div_eq_of_lt
  exact aw hp (by decide)
 have hj:∀(n:Nat) (q:Probe),q.j=q.i->(it (ff mask) n q).j=(it (ff mask) n q).i:=λn=>by
  cases n with
  |zero=>exact λq h=>h
  |succ n=>intro q _;rw[mw];rfl
 rw[hj m _ (by rw[mw];rfl),Fy mask m _ h0,h2]
end ST
namespace ST
open PySem SetTable
structure Pb (p:Probe):Prop where
 nine:p.more<=9
 IP:p.perturb<2^64
 dm:p.dummy=none
theorem Pb.iB {mask:Nat}{p:Probe}(h:Pb p):Pb (iB mask p):=by
 unfold ST.iB;split
 ·exact⟨by show p.more-1<=9;have:=h.nine;omega,h.IP,h.dm⟩
 ·exact⟨LS mask _,Nat.lt_of_le_of_lt (Nat.div_le_self _ _) h.IP,h.dm⟩
theorem BV (h:Int):bits h<2^64:=by
 unfold bits;have h1:=Int.emod_lt_of_pos h (show(0:Int)<2^64 by decide)
 have h2:=Int.emod_nonneg h (show(2^64:Int)≠0 by decide)
 omega
theorem Fz (t:cD) (h:Int):Pb (t.probeStart h):=⟨LS _ _,BV h,rfl⟩
theorem FA {t:cD}(ht:Tb t) {ha:Nat->Int}{h:Int}:∀(fuel:Nat) (p:Probe),Pb p->(∃k,k<fuel/\t.slot (it (iB t.mask) k p).j=.empty)->
  ∃k,(∀m,m<k->∃i,t.slot (it (iB t.mask) m p).j=.live i/\ha i≠h)/\
   ((t.slot (it (iB t.mask) k p).j=.empty/\probe.go t ha h fuel p=some (.empty (it (iB t.mask) k p).j none))\/
    ∃i,t.slot (it (iB t.mask) k p).j=.live i/\ha i=h/\probe.go t ha h fuel p=some (.candidate (it (iB t.mask) k p).j i (it (iB t.mask) (k+1) p)))
 |0,p,_,⟨k,hk,_⟩=>by omega
 |fuel+1,p,hp,⟨k,hk,he⟩=>by
  rcases t4 ht p.j with⟨i,hs,_⟩|⟨hs,_⟩
  ·by_cases hh:ha i=h
   ·refine⟨0,λm hm=>by omega,.inr ⟨i,hs,hh,?_⟩⟩
    unfold probe.go;rw[hs];show(if(ha i==h)=true then _ else _)=_
    rw[if_pos (beq_iff_eq.mpr hh),Fx];rfl
   ·have e:probe.go t ha h (fuel+1) p=probe.go t ha h fuel (iB t.mask p):=by
     conv=>lhs;unfold probe.go
     rw[hs];show(if(ha i==h)=true then _ else _)=_
     rw[if_neg (λz=>hh (beq_iff_eq.mp z)),Fx]
    have Po:k≠0:=λz=>by
     subst z;have Pp:t.slot p.j=.empty:=he;rw[hs]at Pp;cases Pp
    obtain⟨k',rfl⟩:∃k',k=k'+1:=⟨k-1,by omega⟩
    obtain⟨k2,h1,h2⟩:=FA ht fuel (iB t.mask p) hp.iB ⟨k',by omega,he⟩
    refine⟨k2+1,λm hm=>?_,?_⟩
    ·cases m with
     |zero=>exact⟨i,hs,hh⟩
     |succ m=>exact h1 m (by omega)
    ·rw[e];exact h2
  ·refine⟨0,λm hm=>by omega,.inl ⟨hs,?_⟩⟩
   unfold probe.go;rw[hs];show some (Met.empty p.j p.dummy)=_;rw[hp.dm];rfl
structure Wt (t:cD) (hs:cp):Prop where
 tb:Tb t
 mask:t.mask=7\/t.mask=31
 len:t.place.size=hs.length
 le:∀j∈t.place.toList,j<=t.mask
 room:t.place.size<t.mask+1
 way:∀(i:Nat) (h:Int),hs[i]? =some h->∃k,t.place[i]? =some (it (iB t.mask) k (t.probeStart h)).j/\∀m,m<k->(it (iB t.mask) m (t.probeStart h)).j∈t.place.toList
theorem Dz {n:Nat}:∀{l:List Nat},fc l->(∀j∈l,j<=n)->l.length<n+1->∃e,e<=n/\e∉l:=by
 intro l hr hle hlen;by_cases h:∀e,e<=n->e∈l
 ·exfalso;have:=bX (l₁:=List.range (n+1)) (l₂:=l) List.nodup_range λe he=>h e (by have:=List.mem_range.mp he;omega)
  rw[List.length_range]at this;omega
 ·simp only[Classical.not_forall]at h;obtain⟨e,he,hn⟩:=h;exact⟨e,he,hn⟩
end ST
namespace ST
open PySem SetTable
noncomputable def ins {α:Type}(l:List α) (p:Nat) (x:α):List α:=l.take p++x::l.drop p
theorem oM {α:Type}(xs:Array α) (p:Nat) (x:α):(insertAt xs p x).toList=ins xs.toList p x:=by
 unfold insertAt ins;simp[Array.toList_append,Array.toList_push,Array.toList_extract,List.extract_eq_drop_take];exact List.take_of_length_le (by simp)
theorem kQ {α:Type}{l:List α}{p:Nat}{x:α}(hp:p<=l.length) (i:Nat):(ins l p x)[i]? =if i<p then l[i]? else if i=p then some x else l[i-1]? :=by
 unfold ins;have hl:(l.take p).length=p:=by rw[bK];omega
 by_cases h:i<p
 ·rw[if_pos h,aJ (by omega),List.getElem?_take,if_pos h]
 ·rw[if_neg h,aP (by omega),hl]
  by_cases h2:i=p
  ·rw[if_pos h2,h2,Nat.sub_self];rfl
  ·rw[if_neg h2];obtain⟨d,hd⟩:∃d,i-p=d+1:=⟨i-p-1,by omega⟩
   rw[hd,aK,List.getElem?_drop]
   congr 1
   omega
theorem sA {α:Type}{l:List α}{p:Nat}{x y:α}:y∈ins l p x↔y=x\/y∈l:=by
 unfold ins;rw[List.mem_append,List.mem_cons];have:y∈l↔y∈l.take p\/y∈l.drop p:=by rw[<-List.mem_append,List.take_append_drop]
 rw[this];constructor
 ·rintro(h|h|h)
  ·exact .inr (.inl h)
  ·exact .inl h
  ·exact .inr (.inr h)
 ·rintro(h|h|h)
  ·exact .inr (.inl h)
  ·exact .inl h
  ·exact .inr (.inr h)
theorem kB {α:Type}{l:List α}{p:Nat}{x:α}(hp:p<=l.length):(ins l p x).length=l.length+1:=by
 unfold ins;simp only[aQ,bK,ax,List.length_drop];omega
theorem ins_map {α β:Type}(f:α->β) (l:List α) (p:Nat) (x:α):(ins l p x).map f=ins (l.map f) p (f x):=by
 unfold ins;simp[List.map_take,List.map_drop]
theorem FC {xs:Array Nat}{j:Nat}(hr:fc xs.toList) (hj:j∉xs.toList):fc (ins xs.toList (below xs j) j):=by
 obtain⟨h1,h2,h3⟩:=mv xs j hr;unfold ins;refine List.pairwise_append.mpr ⟨List.Pairwise.sublist (List.take_sublist _ _) hr,List.pairwise_cons.mpr ⟨λy hy=>?_,List.Pairwise.sublist (List.drop_sublist _ _) hr⟩,λa ha b hb=>?_⟩
 ·obtain⟨i,hi⟩:=bp hy;rw[List.getElem?_drop]at hi;have eP:below xs j+i<xs.size:=by have:=(List.getElem?_eq_some_iff.mp hi).1;simpa using this
  have uO:=h3 (below xs j+i) eP (by omega)
  have e:xs[below xs j+i]=y:=by have:=(List.getElem?_eq_some_iff.mp hi).2;simpa using this
  have ja:y≠j:=λz=>hj (z▸List.mem_of_mem_drop hy)
  omega
 ·have Ss:a<j:=by
   obtain⟨i,hi⟩:=bp ha;rw[List.getElem?_take]at hi;split at hi
   ·rename_i eP;have hl:i<xs.size:=by have:=(List.getElem?_eq_some_iff.mp hi).1;simpa using this
    have e:xs[i]=a:=by have:=(List.getElem?_eq_some_iff.mp hi).2;simpa using this
    have:=h2 i hl eP;omega
   ·cases hi
  have HH:j<=b:=by
   rcases List.mem_cons.mp hb with rfl|hb
   ·exact au _
   ·obtain⟨i,hi⟩:=bp hb;rw[List.getElem?_drop]at hi;have eP:below xs j+i<xs.size:=by have:=(List.getElem?_eq_some_iff.mp hi).1;simpa using this
    have:=h3 (below xs j+i) eP (by omega)
    have e:xs[below xs j+i]=b:=by have:=(List.getElem?_eq_some_iff.mp hi).2;simpa using this
    omega
  omega
structure Pm (mask:Nat) (p:Probe):Prop where
 pb:Pb p
 le:p.j+p.more<=mask
theorem FD {mask i:Nat}(h:i<=mask):i+(runEnd mask i-i)<=mask:=by unfold runEnd;split<;>omega
theorem Pm.iB {mask:Nat}{p:Probe}(h:Pm mask p):Pm mask (iB mask p):=by
 refine⟨h.pb.iB,?_⟩;unfold ST.iB;have:=h.le;split
 ·show p.j+1+(p.more-1)<=mask;omega
 ·show lp mask p.i p.perturb+(runEnd mask (lp mask p.i p.perturb)-lp mask p.i p.perturb)<=mask;exact FD (by unfold lp;have:=Nat.mod_lt (p.i*5+1+p.perturb/32) (show 0<mask+1 by omega);omega)
theorem Pm.it {mask:Nat}:∀(k:Nat) {p:Probe},Pm mask p->Pm mask (it (ST.iB mask) k p)
 |0,_,h=>h
 |k+1,_,h=>Pm.it k h.iB
theorem p7 (t:cD) (h:Int):Pm t.mask (t.probeStart h):=
 ⟨Fz t h,FD (by have:=Nat.mod_lt (bits h) (show 0<t.mask+1 by omega);show bits h%(t.mask+1)<=t.mask;omega)⟩
theorem Wt.put {t:cD}{hs:cp}(w:Wt t hs) {h:Int}{k:Nat}(he:(it (iB t.mask) k (t.probeStart h)).j∉t.place.toList) (hb:∀m,m<k->(it (iB t.mask) m (t.probeStart h)).j∈t.place.toList) (gZ:t.place.size+1<t.mask+1):
  Wt (t.put (it (iB t.mask) k (t.probeStart h)).j).1 (ins hs (t.put (it (iB t.mask) k (t.probeStart h)).j).2 h)/\(t.put (it (iB t.mask) k (t.probeStart h)).j).2<=hs.length/\(t.put (it (iB t.mask) k (t.probeStart h)).j).1.mask=t.mask/\(t.put (it (iB t.mask) k (t.probeStart h)).j).1.place.size=t.place.size+1:=by
 generalize hj:(it (iB t.mask) k (t.probeStart h)).j=j at he ⊢;have QN:j<=t.mask:=by rw[<-hj];have:=(Pm.it k (p7 t h)).le;omega
 obtain⟨b1,_,_⟩:=mv t.place j w.tb.rise;have hd:has t.dummies j=false:=by rw[w.tb.Od];rfl
 have e1:(t.put j).1.place.toList=ins t.place.toList (below t.place j) j:=oM _ _ _;have e2:(t.put j).2=below t.place j:=rfl;have e3:(t.put j).1.mask=t.mask:=rfl;have e4:∀h',(t.put j).1.probeStart h'=t.probeStart h':=λh'=>rfl
 have e5:(t.put j).1.dummies=#[]:=by show(if has t.dummies j=true then _ else t.dummies)=_;rw[hd];exact w.tb.Od
 have Su:below t.place j<=t.place.toList.length:=by simpa using b1
 have hsz:(t.put j).1.place.size=t.place.size+1:=by
  have:=congrArg List.length e1;rw[kB Su]at this
  simpa using this
 have QO:below t.place j<=hs.length:=by rw[<-w.len];exact b1
 refine⟨⟨⟨by rw[e1];exact FC w.tb.rise he,e5⟩,by rw[e3];exact w.mask,?_,?_,by rw[e3,hsz];exact gZ,?_⟩,by rw[e2];exact QO,e3,hsz⟩
 ·rw[hsz,e2,kB QO,w.len]
 ·intro y hy;rw[e1]at hy;rw[e3];rcases sA.mp hy with rfl|hy
  ·exact QN
  ·exact w.le y hy
 ·intro i h' hi;rw[e3,e4,e1];have hp:(t.put j).1.place[i]? =(ins t.place.toList (below t.place j) j)[i]? :=by rw[<-e1];simp
  rw[hp,kQ Su];rw[e2,kQ QO]at hi;by_cases c1:i<below t.place j
  ·rw[if_pos c1]at hi ⊢;obtain⟨k',h1,h2⟩:=w.way i h' hi;exact⟨k',by simpa using h1,λm hm=>sA.mpr (.inr (h2 m hm))⟩
  ·rw[if_neg c1]at hi ⊢;by_cases c2:i=below t.place j
   ·rw[if_pos c2]at hi ⊢;cases hi;exact⟨k,by rw[hj],λm hm=>sA.mpr (.inr (hb m hm))⟩
   ·rw[if_neg c2]at hi ⊢;obtain⟨k',h1,h2⟩:=w.way (i-1) h' hi;exact⟨k',by simpa using h1,λm hm=>sA.mpr (.inr (h2 m hm))⟩
theorem FE (led:Bool):Wt (fresh 0 0 led) []:=
 ⟨⟨List.Pairwise.nil,rfl⟩,.inl rfl,rfl,(λj hj=>by cases hj),(by show 0<8;decide),(λi h hi=>by cases hi)⟩
end ST
namespace ST
open PySem SetTable
noncomputable def fr (owner:Array (Option Nat)) (j:Nat):Bool:=(owner.getD j (some 0)).isNone
noncomputable def DA (mask i pt:Nat):Probe:={j:=i,more:=runEnd mask i-i,i:=i,perturb:=pt,dummy:=none}
theorem DB (mask i pt:Nat):ff mask (DA mask i pt)=DA mask (lp mask i pt) (pt/32):=rfl
theorem LU (mask i:Nat):i<=runEnd mask i:=by unfold runEnd;split<;>omega
theorem vR (mask:Nat) (owner:Array (Option Nat)):∀(fuel i pt:Nat),(∃n,n<fuel/\fr owner (it (ff mask) n (DA mask i pt)).j=true)->
  ∃k,layClean.free mask owner fuel i pt=some (it (iB mask) k (DA mask i pt)).j/\fr owner (it (iB mask) k (DA mask i pt)).j=true/\∀m,m<k->fr owner (it (iB mask) m (DA mask i pt)).j=false
 |0,i,pt,⟨n,hn,_⟩=>by omega
 |fuel+1,i,pt,⟨n,hn,hf⟩=>by
  unfold layClean.free;have uO:=LU mask i;have Pq:∀k,k<=runEnd mask i-i->(it (iB mask) k (DA mask i pt)).j=i+k:=λk hk=>by rw[t5 mask k _ hk];rfl
  cases J0:(List.range (runEnd mask i+1-i)).find? λk=>(owner.getD (i+k) (some 0)).isNone with
  |some k=>
   obtain⟨h1,h2,h3⟩:=List.find?_range_eq_some.mp J0;have hk:k<=runEnd mask i-i:=by have:=List.mem_range.mp h2;omega
   refine⟨k,by rw[Pq k hk],by rw[Pq k hk];exact h1,λm hm=>?_⟩
   rw[Pq m (by omega)]
   have:=h3 m hm;unfold fr;cases hx:(owner.getD (i+m) (some 0)).isNone with
   |false=>rfl
   |true=>rw[hx]at this;exact absurd this (by simp)
  |none=>
   have sT:∀k,k<=runEnd mask i-i->fr owner (i+k)=false:=λk hk=>by
    have:=List.find?_eq_none.mp J0 k (List.mem_range.mpr (by omega))
    unfold fr;cases hx:(owner.getD (i+k) (some 0)).isNone with
    |false=>rfl
    |true=>rw[hx]at this;exact absurd rfl this
   have YK:n≠0:=λz=>by
    subst z;have h0:fr owner i=true:=hf;rw[show i=i+0 from rfl,sT 0 (bM _)]at h0
    cases h0
   obtain⟨n',rfl⟩:∃n',n=n'+1:=⟨n-1,by omega⟩
   obtain⟨k,e1,e2,e3⟩:=vR mask owner fuel (lp mask i pt) (pt/32) ⟨n',by omega,hf⟩
   have ma:∀m,it (iB mask) (runEnd mask i-i+1+m) (DA mask i pt)=it (iB mask) m (DA mask (lp mask i pt) (pt/32)):=λm=>by
    rw[o7];have:=rC mask (DA mask i pt);rw[show(DA mask i pt).more=runEnd mask i-i from rfl]at this
    rw[this,DB]
   refine⟨runEnd mask i-i+1+k,?_,by rw[ma];exact e2,λm hm=>?_⟩
   ·rw[ma];exact e1
   ·by_cases vE:m<=runEnd mask i-i
    ·rw[Pq m vE];exact sT m vE
    ·obtain⟨m',rfl⟩:∃m',m=runEnd mask i-i+1+m':=⟨m-(runEnd mask i-i+1),by omega⟩
     rw[ma];exact e3 m' (by omega)
theorem LV {mask:Nat}(hm:mask=7\/mask=31) {p:Probe}(hp:p.perturb<2^64) {e:Nat}(he:e<=mask):∃n,n<turns mask/\(it (ff mask) n p).j=e:=by
 have key:∃m,m<=mask/\it (IM mask) m (it (ff mask) 12 p).i=e:=by
  have hi:(it (ff mask) 12 p).i<=mask:=by
   rw[mw];show lp mask _ _<=mask;unfold lp;have:=Nat.mod_lt ((it (ff mask) 11 p).i*5+1+(it (ff mask) 11 p).perturb/32) (show 0<mask+1 by omega)
   omega
  rcases hm with rfl|rfl
  ·obtain⟨m,hm⟩:=Oe ⟨(it (ff 7) 12 p).i,by omega⟩ ⟨e,by omega⟩
   exact⟨m.val,by omega,hm⟩
  ·obtain⟨m,hm⟩:=JZ ⟨(it (ff 31) 12 p).i,by omega⟩ ⟨e,by omega⟩
   exact⟨m.val,by omega,hm⟩
 obtain⟨m,h1,h2⟩:=key;refine⟨12+m,by unfold turns;omega,?_⟩
 rw[o7];have h0:(it (ff mask) 12 p).perturb/32=0:=by
  rw[AH,Nat.div_div_eq_div_mul];apply Nat.div_eq_of_lt
  exact aw hp (by decide)
 have hj:∀(n:Nat) (q:Probe),q.j=q.i->(it (ff mask) n q).j=(it (ff mask) n q).i:=λn=>by
  cases n with
  |zero=>exact λq h=>h
  |succ n=>intro q _;rw[mw];rfl
 rw[hj m _ (by rw[mw];rfl),Fy mask m _ h0,h2]
noncomputable def way (mask:Nat) (h:Int) (k:Nat):Nat:=(it (iB mask) k (DA mask (bits h%(mask+1)) (bits h))).j
structure Ow (mask:Nat) (owner:Array (Option Nat)) (hs:cp):Prop where
 size:owner.size=mask+1
 of:∀(j k:Nat),owner[j]? =some (some k)->∃h q,hs[k]? =some h/\j=way mask h q/\∀m,m<q->fr owner (way mask h m)=false
 has:∀k:Nat,k<hs.length->∃j:Nat,owner[j]? =some (some k)
 one:∀(j j' k:Nat),owner[j]? =some (some k)->owner[j']? =some (some k)->j=j'
theorem FF (mask:Nat) (h:Int) (k:Nat):way mask h k<=mask:=by
 have:=(Pm.it k (p7 {fresh 0 0 true with mask:=mask} h)).le
 exact aB (Nat.le_add_right _ _) this
theorem FG {owner:Array (Option Nat)}{j:Nat}(h:j<owner.size):fr owner j=true↔owner[j]? =some none:=by
 unfold fr;rw[aU h,show owner.getD j (some 0)=owner[j] by simp[h]]
 cases owner[j]<;>simp
theorem Ow.room {mask:Nat}{owner:Array (Option Nat)}{hs:cp}(o:Ow mask owner hs) (hl:hs.length<mask+1):∃e,e<=mask/\fr owner e=true:=by
 by_cases h:∀e,e<=mask->fr owner e=false
 ·exfalso;have own:∀e,e<=mask->∃k,owner[e]? =some (some k):=λe he=>by
   have eP:e<owner.size:=by rw[o.size];omega
   cases hx:owner[e]with
   |none=>
    have:=(FG eP).mpr (by rw[aU eP,hx])
    rw[h e he]at this;cases this
   |some k=>exact⟨k,by rw[aU eP,hx]⟩
  let f:Nat->Nat:=λe=>match owner[e]? with|some (some k)=>k|_=>0
  have hf:∀e,e<=mask->owner[e]? =some (some (f e)):=λe he=>by
   obtain⟨k,hk⟩:=own e he;show owner[e]? =some (some (match owner[e]? with|some (some k)=>k|_=>0))
   rw[hk]
  have nd:((List.range (mask+1)).map f).Nodup:=by
   refine List.pairwise_map.mpr (List.Pairwise.imp_of_mem (λ{a b} ha hb BH z=>?_) List.pairwise_lt_range)
   have Ss:=hf a (by have:=List.mem_range.mp ha;omega)
   have HH:=hf b (by have:=List.mem_range.mp hb;omega)
   rw[<-z]at HH;exact absurd (o.one a b _ Ss HH) (by omega)
  have:=bX (l₂:=List.range hs.length) nd λk hk=>by
   obtain⟨e,he,rfl⟩:=List.mem_map.mp hk;obtain⟨h',q,h1,_⟩:=o.of e _ (hf e (by have:=List.mem_range.mp he;omega))
   exact List.mem_range.mpr (List.getElem?_eq_some_iff.mp h1).1
  rw[ae,List.length_range,List.length_range]at this;omega
 ·simp only[Classical.not_forall]at h;obtain⟨e,he,hn⟩:=h;exact⟨e,he,by cases hx:fr owner e with|true=>rfl|false=>exact absurd hx hn⟩
theorem Ow.step {mask:Nat}{owner:Array (Option Nat)}{hs:cp}(hm:mask=7\/mask=31) (o:Ow mask owner hs) (hl:hs.length<mask+1) (h:Int):
  ∃j,layClean.free mask owner (turns mask) (bits h%(mask+1)) (bits h)=some j/\Ow mask (owner.setIfInBounds j (some hs.length)) (hs++[h]):=by
 obtain⟨e,he,Lu⟩:=o.room hl;obtain⟨n,hn,ja⟩:=LV hm (p:=DA mask (bits h%(mask+1)) (bits h)) (BV h) he;obtain⟨q,e1,e2,e3⟩:=vR mask owner (turns mask) (bits h%(mask+1)) (bits h) ⟨n,hn,by rw[ja];exact Lu⟩
 have LX:way mask h q<owner.size:=by rw[o.size];have:=FF mask h q;omega
 have EO:owner[way mask h q]? =some none:=(FG LX).mp e2;have get:∀j':Nat,(owner.setIfInBounds (way mask h q) (some hs.length))[j']? =if way mask h q=j' then some (some hs.length)else owner[j']? :=λj'=>by
  rw[Array.getElem?_setIfInBounds];by_cases hx:way mask h q=j'
  ·rw[if_pos hx,if_pos hx,if_pos (by first|exact LX|(rw[<-hx];exact LX))]
  ·rw[if_neg hx,if_neg hx]
 have Sv:∀j':Nat,fr owner j'=false->fr (owner.setIfInBounds (way mask h q) (some hs.length)) j'=false:=λj' hx=>by
  unfold fr at hx ⊢;rw[aT]at hx ⊢;rw[get j'];by_cases hy:way mask h q=j'
  ·rw[if_pos hy];rfl
  ·rw[if_neg hy];exact hx
 refine⟨way mask h q,e1,⟨by rw[Array.size_setIfInBounds];exact o.size,λj' k hk=>?_,λk hk=>?_,λj1 j2 k h1 h2=>?_⟩⟩
 ·rw[get j']at hk;by_cases hx:way mask h q=j'
  ·rw[if_pos hx]at hk;cases hk;exact⟨h,q,by simp,hx.symm,λm Mz=>Sv _ (e3 m Mz)⟩
  ·rw[if_neg hx]at hk;obtain⟨h',q',a1,a2,a3⟩:=o.of j' k hk;exact⟨h',q',by rw[aJ (List.getElem?_eq_some_iff.mp a1).1];exact a1,a2,λm Mz=>Sv _ (a3 m Mz)⟩
 ·rw[aQ,List.length_singleton]at hk;by_cases hx:k=hs.length
  ·exact⟨way mask h q,by rw[get,if_pos rfl,hx]⟩
  ·obtain⟨j',Ee⟩:=o.has k (by omega)
   refine⟨j',?_⟩;rw[get,if_neg (λz=>by rw[<-z,EO]at Ee;cases Ee)]
   exact Ee
 ·rw[get]at h1 h2;have old:∀j':Nat,owner[j']? =some (some hs.length)->False:=λj' Ee=>by
   obtain⟨h',q',a1,_⟩:=o.of j' _ Ee;exact absurd (List.getElem?_eq_some_iff.mp a1).1 (by omega)
  by_cases x1:way mask h q=j1
  ·by_cases x2:way mask h q=j2
   ·rw[<-x1,<-x2]
   ·rw[if_pos x1]at h1;rw[if_neg x2]at h2;cases h1;exact(old j2 h2).elim
  ·by_cases x2:way mask h q=j2
   ·rw[if_neg x1]at h1;rw[if_pos x2]at h2;cases h2;exact(old j1 h1).elim
   ·rw[if_neg x1]at h1;rw[if_neg x2]at h2;exact o.one j1 j2 k h1 h2
theorem LY (mask:Nat):Ow mask (Array.replicate (mask+1) none) []:=by
 have no:∀(j k:Nat),(Array.replicate (mask+1) (none:Option Nat))[j]? =some (some k)->False:=λj k h=>by
  rw[Array.getElem?_replicate]at h;split at h<;>cases h
 exact⟨by simp,λj k h=>(no j k h).elim,(λk h=>by cases h),λj j' k h _=>(no j k h).elim⟩
noncomputable def FH (mask:Nat) (acc:Option (Array (Option Nat)×Nat)) (h:Int):Option (Array (Option Nat)×Nat):=acc.bind λx=>(layClean.free mask x.1 (turns mask) (bits h%(mask+1)) (bits h)).bind λj=>some (x.1.setIfInBounds j (some x.2),x.2+1)
theorem yt {mask:Nat}(hm:mask=7\/mask=31):∀(rest dn:cp) (owner:Array (Option Nat)),Ow mask owner dn->(dn++rest).length<mask+2->∃xf,rest.foldl (FH mask) (some (owner,dn.length))=some (xf,(dn++rest).length)/\Ow mask xf (dn++rest)
 |[],dn,owner,o,_=>⟨owner,by rw[bC];rfl,by rw[bC];exact o⟩
 |h::rest,dn,owner,o,hl=>by
  rw[aQ,ax]at hl;obtain⟨j,e1,o1⟩:=o.step hm (by omega) h
  obtain⟨xf,e2,o2⟩:=yt hm rest (dn++[h]) _ o1 (by simp;omega)
  refine⟨xf,?_,by rw[show dn++h::rest=dn++[h]++rest by simp];exact o2⟩
  rw[show dn++h::rest=dn++[h]++rest by simp,<-e2]
  show rest.foldl (FH mask) (FH mask (some (owner,dn.length)) h)=_
  congr 1
  show(layClean.free mask owner (turns mask) (bits h%(mask+1)) (bits h)).bind _=_;rw[e1];simp
theorem yu {mask:Nat}(hm:mask=7\/mask=31) (hashes:Array Int) (hl:hashes.size<mask+2):∃owner,layClean mask hashes=some owner/\Ow mask owner hashes.toList:=by
 obtain⟨owner,e,o⟩:=yt hm hashes.toList [] _ (LY mask) (by simpa using hl)
 refine⟨owner,?_,o⟩;have:layClean mask hashes=(hashes.toList.foldl (FH mask) (some (Array.replicate (mask+1) none,0))).map (·.1):=by
  unfold layClean;rw[<-Array.foldl_toList];rfl
 rw[this];have e':hashes.toList.foldl (FH mask) (some (Array.replicate (mask+1) none,0))=some (owner,([]++hashes.toList).length):=e;rw[e'];rfl
end ST
namespace ST
open PySem SetTable
noncomputable def live (mask:Nat) (owner:Array (Option Nat)):List (Nat×Nat):=(List.range (mask+1)).filterMap λj=>(owner.getD j none).map (j, ·)
theorem kC {mask:Nat}{owner:Array (Option Nat)}{hs:cp}(o:Ow mask owner hs) {j k:Nat}:(j,k)∈live mask owner↔owner[j]? =some (some k):=by
 unfold live;rw[List.mem_filterMap];constructor
 ·rintro⟨j',Ee,e⟩
  cases hg:owner.getD j' none with
  |none=>rw[hg]at e;cases e
  |some k'=>
   rw[hg]at e;have e':(j',k')=(j,k):=aS e;cases e';rw[aT]at hg;cases hx:owner[j]? with
   |none=>rw[hx]at hg;cases hg
   |some y=>rw[hx]at hg;rw[show y=some k from hg]
 ·intro h;have eP:j<owner.size:=(Array.getElem?_eq_some_iff.mp h).1;rw[o.size]at eP;refine⟨j,List.mem_range.mpr eP,?_⟩;rw[aT,h];rfl
theorem AI (f:Nat->Option Nat):∀l:List Nat,(l.filterMap λj=>(f j).map (j, ·)).map (·.1)=l.filter λj=>(f j).isSome
 |[]=>rfl
 |a::l=>by
  rw[List.filterMap_cons,List.filter_cons];cases h:f a with
  |none=>simpa [h]using AI f l
  |some k=>simpa [h]using AI f l
theorem vS (mask:Nat) (owner:Array (Option Nat)):fc ((live mask owner).map (·.1)):=by
 unfold live;rw[AI (λj=>owner.getD j none)]
 exact List.Pairwise.filter _ List.pairwise_lt_range
theorem t6 {mask:Nat}{owner:Array (Option Nat)}{hs:cp}(o:Ow mask owner hs):((live mask owner).map (·.2)).Perm (List.range hs.length):=by
 have nd:((live mask owner).map (·.2)).Nodup:=by
  refine List.pairwise_map.mpr (List.Pairwise.imp_of_mem (λ{a b} ha hb BH z=>?_) (List.pairwise_map.mp (vS mask owner)))
  obtain⟨a1,a2⟩:=a;obtain⟨b1,b2⟩:=b;have h1:=(kC o).mp ha;have h2:=(kC o).mp hb;have z':a2=b2:=z;rw[z']at h1;have e:=o.one a1 b1 b2 h1 h2;have UW:a1<b1:=BH;omega
 refine(List.perm_ext_iff_of_nodup nd List.nodup_range).mpr λk=>?_
 rw[List.mem_map,List.mem_range];constructor
 ·rintro⟨⟨j,k'⟩,hm,rfl⟩
  obtain⟨h,q,h1,_⟩:=o.of j k' ((kC o).mp hm);exact(List.getElem?_eq_some_iff.mp h1).1
 ·intro hk;obtain⟨j,hj⟩:=o.has k hk;exact⟨(j,k),(kC o).mpr hj,rfl⟩
theorem IQ {mask:Nat}(hm:mask=7\/mask=31) (finger moves:Nat) (led plain:Bool) (hashes:Array Int) (hl:hashes.size<mask+1):
  ∃(t:cD) (order:List Nat),laid mask finger moves led plain hashes=some (t,order.toArray)/\order.Perm (List.range hashes.size)/\Wt t (order.map λk=>hashes.getD k 0)/\t.mask=mask/\t.led=led/\t.plain=plain/\t.moves=moves/\t.finger=finger:=by
 obtain⟨owner,e,o⟩:=yu hm hashes (by omega)
 refine⟨_,(live mask owner).map (·.2),by unfold laid;rw[e];rfl,by simpa using t6 o,⟨⟨vS mask owner,rfl⟩,hm,?_,λj hj=>?_,?_,λi h hi=>?_⟩,rfl,rfl,rfl,rfl,rfl⟩
 ·show((live mask owner).map (·.1)).toArray.size=_
  rw[aq,ae,ae,ae]
 ·obtain⟨⟨j',k⟩,BK,rfl⟩:=List.mem_map.mp (show j∈(live mask owner).map (·.1)from hj)
  have:=(Array.getElem?_eq_some_iff.mp ((kC o).mp BK)).1;rw[o.size]at this;show j'<=mask;omega
 ·have:=(t6 o).length_eq;show((live mask owner).map (·.1)).toArray.size<mask+1
  rw[ae,List.length_range]at this;rw[aq,ae,this]
  simpa using hl
 ·rw[av,av]at hi;cases hx:(live mask owner)[i]? with
  |none=>rw[hx]at hi;cases hi
  |some y=>
   obtain⟨j,k⟩:=y;rw[hx]at hi;have hy:hashes.getD k 0=h:=aS hi;have FJ:=(kC o).mp (bh hx);obtain⟨h',q,a1,a2,a3⟩:=o.of j k FJ;have hh:h'=h:=by
    rw[<-hy,aT];have UX:hashes[k]? =some h':=by simpa using a1
    rw[UX];rfl
   subst hh;refine⟨q,?_,λm Mz=>?_⟩
   ·show((live mask owner).map (·.1)).toArray[i]? =some (way mask h' q)
    rw[List.getElem?_toArray,av,hx,<-a2];rfl
   ·show way mask h' m∈(live mask owner).map (·.1)
    have eP:way mask h' m<owner.size:=by rw[o.size];have:=FF mask h' m;omega
    have:=a3 m Mz;cases hz:owner[way mask h' m]with
    |none=>
     have:=(FG eP).mpr (by rw[aU eP,hz])
     rw[a3 m Mz]at this;cases this
    |some k'=>
     exact List.mem_map.mpr ⟨(way mask h' m,k'),(kC o).mpr (by rw[aU eP,hz]),rfl⟩
theorem range_all {α:Type}:∀l:List α,(List.range l.length).filterMap (l[·]?)=l
 |[]=>rfl
 |a::l=>by
  rw[ax,List.range_succ_eq_map,List.filterMap_cons];show a::((List.range l.length).map Nat.succ).filterMap ((a::l)[·]?)=_
  rw[List.filterMap_map]
  congr 1
  exact range_all l
theorem reorder {α:Type}{es:Array α}{order:List Nat}(hp:order.Perm (List.range es.size)):(order.toArray.filterMap (es[·]?)).toList.Perm es.toList/\∀(f:α->Int),(order.toArray.filterMap (es[·]?)).toList.map f=order.map λk=>(es.map f).getD k 0:=by
 have e1:(order.toArray.filterMap (es[·]?)).toList=order.filterMap (es[·]?):=by simp
 have e2:(List.range es.size).filterMap (es[·]?)=es.toList:=by
  have:=range_all es.toList
  simpa using this
 refine⟨by rw[e1,<-e2];exact hp.filterMap _,λf=>?_⟩
 rw[e1,List.map_filterMap];have j0:∀k∈order,k<es.size:=λk hk=>List.mem_range.mp (hp.mem_iff.mp hk)
 clear hp e1 e2;induction order with
 |nil=>rfl
 |cons a r ih=>
  have ha:=j0 a af;rw[List.filterMap_cons,aE,<-ih λk hk=>j0 k (ai _ hk)]
  simp[ha]
end ST
namespace ST
open PySem PySem.Spec PyProof.Rows DL SetTable
structure El (P:cx->Prop) (h:Heap) (e:Int×cx) (d:D):Prop where
 ki:KI h e.2 d
 hash:e.1=dX d
 dep:dI d<=4
 ref:∃b,e.2=.ref b
 src:P e.2
def AJ (P:cx->Prop) (h:Heap) (es:List (Int×cx)) (ds:cv):Prop:=es.length=ds.length/\∀(i:Nat) (e:Int×cx),es[i]? =some e->∃d,ds[i]? =some d/\El P h e d
section
variable {prog:cA}{w:cB}{A:cC}{E:cj}{s:cy}
theorem BW (n:Nat):∀(A:cC) (s:cy) (v:cx) (d:D) (Q:Bool->cy->Prop),dI d<=n->KI s.heap v d->Q false s->wpAny (model prog w) A (ofAClassStatement n v) Q E s:=by
 induction n with
 |zero=>
  intro A s v d Q hn k h;cases k with
  |int i t=>unfold ofAClassStatement;exact aj h
  |tup h1 h2 h3 l=>unfold dI at hn;omega
 |succ n ih=>
  intro A s v d Q hn k h;cases k with
  |int i t=>unfold ofAClassStatement;exact aj h
  |@tup a o items m ds ho hc hd l=>
   have hT:s.TypeIs (.ref a) "tuple":=⟨o,ho,hc⟩;have xT:g7 ds<=n:=by unfold dI at hn;omega
   unfold ofAClassStatement;refine aa (wpAny_typeOf hT ?_);show wpAny _ _ (pure true>>=_) _ _ s;refine aa (aj ?_);simp only[bU,aH,bE];refine aa (wpAny_seqItems ho hd ?_);refine aa ?_;show wpAny _ _ (forIn items _ _) _ _ s;rw[<-Array.forIn_toList];refine wpAny_forIn_list _ (λrest r s'=>r.1=none/\s'=s/\∃es,(∀e∈es,dI e<=n)/\o4 s.heap rest es) _ ?_ ?_ _ _ ⟨rfl,rfl,ds,λe he=>aB (iV he) xT,l⟩
   ·rintro v rest r s' ⟨hr,rfl,es,he,hk⟩
    cases hk with
    |cons k1 k2=>
     refine aa (ih A s' v _ _ (he _ af) k1 ?_);simp only[aH,bE];exact aj ⟨rfl,rfl,_,λe h=>he e (ai _ h),k2⟩
   ·rintro⟨r1,r2⟩ s' ⟨hr,rfl,_⟩
    simp only at hr;subst hr;exact aj h
theorem IS {x:cx}{dx:D}(hx:KI s.heap x dx) (JY:dI dx<=4) (stored:cw) (ma:∀y∈stored,∃d,KI s.heap y d/\dI d<=4) {Q:Bool->cy->Prop}(h:Q false s):wpAny (model prog w) A (searchCouldBeSeen x stored) Q E s:=by
 unfold searchCouldBeSeen;refine aa ?_;refine wpAny_forIn_list _ (λrest r s'=>r.1=none/\s'=s/\∀y∈rest,∃d,KI s.heap y d/\dI d<=4) _ ?_ ?_ _ _ ⟨rfl,rfl,ma⟩
 ·rintro y rest r s' ⟨hr,rfl,hk⟩
  obtain⟨d,kd,hd⟩:=hk y af;have J1:∀z∈rest,∃d,KI s'.heap z d/\dI d<=4:=λz hz=>hk z (ai _ hz)
  have key:∀(b:Bool) (R:ForInStep (Option Bool×Unit)->cy->Prop),R (.yield (none,())) s'->wpAny (model prog w) A (if(b||carriedByValue x&&carriedByValue y)=true then pure (ForInStep.yield (none,()))else do
    let q <-eqIsQuiet 8 x
    if(!q)=true then pure (ForInStep.done (some true,()))else do
     let q <-eqIsQuiet 8 y
     if(!q)=true then pure (ForInStep.done (some true,()))else do
      let q <-ofAClassStatement 8 x
      if q=true then pure (ForInStep.done (some true,()))else do
       let q <-ofAClassStatement 8 y
       if q=true then pure (ForInStep.done (some true,()))else pure (ForInStep.yield (none,()))) R E s':=λb R hR=>by
   split
   ·exact aj hR
   ·refine aa (KI.quiet 8 A s' x dx _ (by omega) hx ?_)
    simp only[bU,aH,bE];refine aa (KI.quiet 8 A s' y d _ (by omega) kd ?_)
    simp only[bU,aH,bE];refine aa (BW 8 A s' x dx _ (by omega) hx ?_)
    simp only[aH,bE];refine aa (BW 8 A s' y d _ (by omega) kd ?_)
    simp only[aH,bE];exact aj hR
  split
  ·exact key _ _ ⟨rfl,rfl,J1⟩
  ·exact key _ _ ⟨rfl,rfl,J1⟩
 ·rintro⟨r1,r2⟩ s' ⟨hr,rfl,_⟩
  simp only at hr;subst hr;exact aj h
end
end ST
namespace ST
open PySem PySem.Spec PyProof.Rows DL SetTable
section
variable {prog:cA}{w:cB}{A:cC}{E:cj}{s:cy}
theorem Wt.QP {t:cD}{hs:cp}(W:Wt t hs):t.gaveWay=false:=by
 unfold gaveWay;rcases W.mask with h|h<;>rw[h]<;>rfl
theorem Wt.emp {t:cD}{hs:cp}(W:Wt t hs):∃e,e<=t.mask/\t.slot e=.empty:=by
 obtain⟨e,h1,h2⟩:=Dz (n:=t.mask) W.tb.rise W.le (by have:=W.room;simpa using this)
 exact⟨e,h1,tZ W.tb h2⟩
theorem DC {P:cx->Prop}{a xa:cE}{o:Obj}{es:Array (Int×cx)}{ep:Nat}{t:cD}{ds:cv}{dx:D}{Q:SetFound->cy->Prop}(ho:s.heap.get? a=some o) (hd:o.data=.set es ep t) (hf:t.fits es.size=true) (W:Wt t (es.toList.map (·.1)))
  (hE:AJ P s.heap es.toList ds) (hx:KI s.heap (.ref xa) dx) (JY:dI dx<=4) (hu:A.units+8<cLine)
  (Sw:dx∈ds->Q (.there none) s) (Pl:dx∉ds->∀k,(it (iB t.mask) k (t.probeStart (dX dx))).j∉t.place.toList->(∀m,m<k->(it (iB t.mask) m (t.probeStart (dX dx))).j∈t.place.toList)->Q (.free (it (iB t.mask) k (t.probeStart (dX dx))).j false) s):
  ∀(r fuel k0 K:Nat) (FK:Option Probe),FK.getD (t.probeStart (dX dx))=it (iB t.mask) k0 (t.probeStart (dX dx))->t.slot (it (iB t.mask) K (t.probeStart (dX dx))).j=.empty->k0<=K->K-k0<=r->r<fuel->
   (∀m,m<k0->∃i d,t.slot (it (iB t.mask) m (t.probeStart (dX dx))).j=.live i/\ds[i]? =some d/\d≠dx)->
   wpAny (model prog w) A (setSearchFrom a (.ref xa) (dX dx) true fuel FK) Q E s:=by
 intro r;induction r using Nat.strongRecOn with
 |_ r ih=>
  intro fuel k0 K FK ma hK hk hr Of Og;obtain⟨fuel,rfl⟩:∃f,fuel=f+1:=⟨fuel-1,by omega⟩
  unfold setSearchFrom;refine aa (wpAny_setState_of ho hd hf ?_);dsimp only;rw[W.QP];simp only[aH,bE];rw[ma];obtain⟨e0,QQ,LZ⟩:=W.emp;have BX:=Pm.it k0 (p7 t (dX dx));obtain⟨q,hq,UY⟩:=reach W.mask BX.pb.nine BX.pb.IP QQ;obtain⟨k,Oh,Oi⟩:=FA W.tb (ha:=λi=>(es[i]?.map (·.1)).getD 0) (h:=dX dx) (10*turns t.mask) _ BX.pb ⟨q,hq,by rw[UY];exact LZ⟩
  have UZ:∀m,it (iB t.mask) m (it (iB t.mask) k0 (t.probeStart (dX dx)))=it (iB t.mask) (k0+m) (t.probeStart (dX dx)):=λm=>(o7 _ _ _ _).symm
  simp only[UZ]at Oh Oi;have entry:∀i j,t.slot j=.live i->∃e d,es[i]? =some e/\ds[i]? =some d/\El P s.heap e d/\t.place[i]? =some j:=λi j hj=>by
   rcases t4 W.tb j with⟨i',h1,h2⟩|⟨h1,_⟩
   ·rw[hj]at h1;cases h1;have eP:i<es.size:=by
     have:=(Array.getElem?_eq_some_iff.mp h2).1;have hl:=W.len;simp at hl;omega
    obtain⟨d,h3,h4⟩:=hE.2 i es[i] (by simp[eP])
    exact⟨es[i],d,by simp[eP],h3,h4,h2⟩
   ·rw[hj]at h1;cases h1
  have other:∀m,m<k->∃i d,t.slot (it (iB t.mask) (k0+m) (t.probeStart (dX dx))).j=.live i/\ds[i]? =some d/\d≠dx:=λm hm=>by
   obtain⟨i,h1,h2⟩:=Oh m hm;obtain⟨e,d,h3,h4,h5,_⟩:=entry i _ h1;refine⟨i,d,h1,h4,λz=>h2 ?_⟩
   rw[h3];show e.1=_;rw[h5.hash,z]
  have FL:∀m,m<k0+k->∃i d,t.slot (it (iB t.mask) m (t.probeStart (dX dx))).j=.live i/\ds[i]? =some d/\d≠dx:=λm hm=>by
   by_cases Oj:m<k0
   ·exact Og m Oj
   ·obtain⟨m',rfl⟩:∃m',m=k0+m':=⟨m-k0,by omega⟩
    exact other m' (by omega)
  rcases Oi with⟨IT,e⟩|⟨i,FN,YL,e⟩
  ·
   have AK:dx∉ds:=λj0=>by
    obtain⟨i,hi⟩:=bp j0;have eP:i<es.toList.length:=by rw[hE.1];exact(List.getElem?_eq_some_iff.mp hi).1
    obtain⟨d,h1,h2⟩:=hE.2 i _ (ah eP);rw[hi]at h1;cases h1;obtain⟨ki,p1,p2⟩:=W.way i (dX dx) (by rw[av,ah eP];exact congrArg some h2.hash)
    have J2:(it (iB t.mask) (k0+k) (t.probeStart (dX dx))).j∉t.place.toList:=λz=>by
     obtain⟨i',vK⟩:=bp z;rw[nX W.tb (i:=i') (by simpa using vK)]at IT;cases IT
    rcases Nat.lt_trichotomy ki (k0+k)with IU|heq|JK
    ·obtain⟨i',d',q1,q2,q3⟩:=FL ki IU;rw[nX W.tb p1]at q1;cases q1;rw[hi]at q2;exact q3 (aS q2).symm
    ·subst heq;exact J2 (Array.mem_toList_iff.mpr (Array.mem_of_getElem? p1))
    ·exact J2 (p2 _ JK)
   have fin:=Pl AK (k0+k) (λz=>by
     obtain⟨i',vK⟩:=bp z;rw[nX W.tb (i:=i') (by simpa using vK)]at IT;cases IT) (λm hm=>by
     obtain⟨i,d,q1,_⟩:=FL m hm;obtain⟨_,_,_,_,_,q5⟩:=entry i _ q1;exact Array.mem_toList_iff.mpr (Array.mem_of_getElem? q5))
   split
   ·rename_i met hm;have z:=hm.symm.trans e;cases z;exact aj fin
   ·rename_i hm;exact(hm _ e).elim
  ·obtain⟨⟨hv,y⟩,d,h3,h4,h5,h6⟩:=entry i _ FN;obtain⟨b,U0⟩:=h5.ref;have Ol:y=.ref b:=U0;have U1:k0+k<K:=by
    rcases Nat.lt_trichotomy K (k0+k)with eP|heq|JK
    ·obtain⟨i',d',q1,_⟩:=FL K eP;rw[hK]at q1;cases q1
    ·subst heq;rw[hK]at FN;cases FN
    ·exact JK
   have J3:t.sameMemory t.moves t.mask=some true:=by unfold sameMemory;rw[if_pos (bO _)]
   have Om:dz d dx=decide (d=dx):=KI.dz h5.ki hx;split
   ·rename_i met hm;have z:=hm.symm.trans e;cases z;dsimp only;split
    ·refine aa (IS hx JY _ (λv hv=>?_) ?_)
     ·obtain⟨en,U2,rfl⟩:=List.mem_map.mp hv;have QR:en∈es.toList:=by
       have:=Array.mem_toList_iff.mp U2;exact Array.mem_toList_iff.mpr (Array.mem_filter.mp this).1
      obtain⟨i',vK⟩:=bp QR;obtain⟨d',_,h8⟩:=hE.2 i' en vK;exact⟨d',h8.ki,h8.dep⟩
     simp only[aH,bE];rw[h3];dsimp only;refine aa (bo ((KI.eq 4 A s y (.ref xa) d dx h5.dep (by omega) h5.ki hx) prog w _ _ ?_))
     refine aa (wpAny_setState_of ho hd hf ?_);dsimp only;rw[Om];by_cases IV:d=dx
     ·rw[aR IV];exact aj (Sw (IV▸bh h4))
     ·rw[aG IV,J3];simp only[Bool.and_false,aH,bE,if_true];rw[FN];dsimp only;rw[h3];dsimp only;rw[Ol];refine aa (wpAny_isSame_ref_self ?_);refine aa (aj ?_);simp only[if_true];exact ih (K-(k0+k+1)) (by omega) fuel (k0+k+1) K _ rfl hK (by omega) (au _) (by omega) λm vE=>by
       by_cases Oj:m<k0+k
       ·exact FL m Oj
       ·have:m=k0+k:=by omega
        subst this;exact⟨i,d,FN,h4,IV⟩
    ·rw[h3];dsimp only;refine aa (bo ((KI.eq 4 A s y (.ref xa) d dx h5.dep (by omega) h5.ki hx) prog w _ _ ?_))
     refine aa (wpAny_setState_of ho hd hf ?_);dsimp only;rw[Om];by_cases IV:d=dx
     ·rw[aR IV];exact aj (Sw (IV▸bh h4))
     ·rw[aG IV,J3];simp only[Bool.and_false,aH,bE,if_true];rw[FN];dsimp only;rw[h3];dsimp only;rw[Ol];refine aa (wpAny_isSame_ref_self ?_);refine aa (aj ?_);simp only[if_true];exact ih (K-(k0+k+1)) (by omega) fuel (k0+k+1) K _ rfl hK (by omega) (au _) (by omega) λm vE=>by
       by_cases Oj:m<k0+k
       ·exact FL m Oj
       ·have:m=k0+k:=by omega
        subst this;exact⟨i,d,FN,h4,IV⟩
   ·rename_i hm;exact(hm _ e).elim
end
end ST
namespace ST
open PySem PySem.Spec PyProof.Rows DL SetTable
mutual
theorem ki_set {h h':Heap}{x:cE}{ox:Obj}{es:Array (Int×cx)}{ep:Nat}{t:cD}(ho:h.get? x=some ox) (hd:ox.data=.set es ep t) (hs:Heap.SameBut x h h'):∀{v:cx}{d:D},KI h v d->KI h' v d
 |_,_,.int n t=>.int n t
 |_,_,@KI.tup _ a o items n ds h1 h2 h3 l=>by
  have ja:a≠x:=by
   rintro rfl
   rw[ho]at h1;cases h1;rw[hd]at h3;exact nomatch h3
  exact .tup ((hs.2 a ja).trans h1) h2 h3 (BY ho hd hs l)
theorem BY {h h':Heap}{x:cE}{ox:Obj}{es:Array (Int×cx)}{ep:Nat}{t:cD}(ho:h.get? x=some ox) (hd:ox.data=.set es ep t) (hs:Heap.SameBut x h h'):∀{vs:cw}{ds:cv},o4 h vs ds->o4 h' vs ds
 |_,_,.nil=>.nil
 |_,_,.cons h t=>.cons (ki_set ho hd hs h) (BY ho hd hs t)
end
theorem AJ.imp {P:cx->Prop}{h h':Heap}{es:List (Int×cx)}{ds:cv}(e:AJ P h es ds) (m:∀v d,KI h v d->KI h' v d):AJ P h' es ds:=
 ⟨e.1,λi x hx=>let ⟨d,h1,h2⟩:=e.2 i x hx;⟨d,h1,⟨m _ _ h2.ki,h2.hash,h2.dep,h2.ref,h2.src⟩⟩⟩
theorem AJ.ins {P:cx->Prop}{h:Heap}{es:List (Int×cx)}{ds:cv}(e:AJ P h es ds) {p:Nat}(hp:p<=es.length) {x:Int×cx}{d:D}(hx:El P h x d):AJ P h (ST.ins es p x) (ST.ins ds p d):=by
 have xg:p<=ds.length:=by rw[<-e.1];exact hp
 refine⟨by rw[kB hp,kB xg,e.1],λi y hy=>?_⟩
 rw[kQ hp]at hy;rw[kQ xg];by_cases c1:i<p
 ·rw[if_pos c1]at hy ⊢;exact e.2 i y hy
 ·rw[if_neg c1]at hy ⊢;by_cases c2:i=p
  ·rw[if_pos c2]at hy ⊢;cases hy;exact⟨d,rfl,hx⟩
  ·rw[if_neg c2]at hy ⊢;exact e.2 (i-1) y hy
theorem AL {α:Type}(l:List α):∀(order:List Nat),(∀k∈order,k<l.length)->∀i:Nat,(order.filterMap λk:Nat=>l[k]?)[i]? =(order[i]?).bind λk:Nat=>l[k]?
 |[],_,i=>by simp
 |a::r,h,i=>by
  have ha:=h a af;have e:l[a]? =some l[a]:=ah ha;rw[List.filterMap_cons,e];cases i with
  |zero=>simp[e]
  |succ i=>simpa using AL l r (λk hk=>h k (ai _ hk)) i
theorem AJ.reorder {P:cx->Prop}{h:Heap}{es:List (Int×cx)}{ds:cv}(e:AJ P h es ds) {order:List Nat}(hp:order.Perm (List.range es.length)):AJ P h (order.filterMap λk:Nat=>es[k]?) (order.filterMap λk:Nat=>ds[k]?)/\(order.filterMap λk:Nat=>ds[k]?).Perm ds:=by
 have j0:∀k∈order,k<es.length:=λk hk=>List.mem_range.mp (hp.mem_iff.mp hk)
 have Oo:∀k∈order,k<ds.length:=λk hk=>by rw[<-e.1];exact j0 k hk
 have Oq:∀{α:Type}(l:List α) (o:List Nat),(∀k∈o,k<l.length)->(o.filterMap λk:Nat=>l[k]?).length=o.length:=λl o=>by
  induction o with
  |nil=>intro _;rfl
  |cons a r ih=>
   intro hh;rw[List.filterMap_cons,ah (hh a af)];show(r.filterMap λk:Nat=>l[k]?).length+1=_
   rw[ih λk hk=>hh k (ai _ hk)];rfl
 refine⟨⟨by rw[Oq es order j0,Oq ds order Oo],λi x hx=>?_⟩,?_⟩
 ·rw[AL es order j0]at hx;rw[AL ds order Oo];cases hk:order[i]? with
  |none=>rw[hk]at hx;cases hx
  |some k=>rw[hk]at hx;exact e.2 k x hx
 ·have h1:=hp.filterMap (λk:Nat=>ds[k]?)
  rw[e.1,range_all]at h1;exact h1
section
variable {prog:cA}{w:cB}{A:cC}{E:cj}{s:cy}
theorem Ot (n:Nat):∀(A:cC) (s:cy) (v:cx) (d:D) (Q:Bool->cy->Prop),dI d<=n->KI s.heap v d->Q true s->wpAny (model prog w) A (hashByValue n v) Q E s:=by
 induction n with
 |zero=>
  intro A s v d Q hn k h;cases k with
  |int i t=>unfold hashByValue;exact aj h
  |tup h1 h2 h3 l=>unfold dI at hn;omega
 |succ n ih=>
  intro A s v d Q hn k h;cases k with
  |int i t=>unfold hashByValue;exact aj h
  |@tup a o items m ds ho hc hd l=>
   have hT:s.TypeIs (.ref a) "tuple":=⟨o,ho,hc⟩;have xT:g7 ds<=n:=by unfold dI at hn;omega
   unfold hashByValue;refine aa (wpAny_specialOf hT F.slot_tuple_hash.lookup ?_);dsimp only;refine aa (wpAny_seqItems ho hd ?_);refine aa ?_;show wpAny _ _ (forIn items _ _) _ _ s;rw[<-Array.forIn_toList];refine wpAny_forIn_list _ (λrest r s'=>r.1=none/\s'=s/\∃es,(∀e∈es,dI e<=n)/\o4 s.heap rest es) _ ?_ ?_ _ _ ⟨rfl,rfl,ds,λe he=>aB (iV he) xT,l⟩
   ·rintro v rest r s' ⟨hr,rfl,es,he,hk⟩
    cases hk with
    |cons k1 k2=>
     refine aa (ih A s' v _ _ (he _ af) k1 ?_);simp only[bU,aH,bE];exact aj ⟨rfl,rfl,_,λe h=>he e (ai _ h),k2⟩
   ·rintro⟨r1,r2⟩ s' ⟨hr,rfl,_⟩
    simp only at hr;subst hr;exact aj h
structure rU (P:cx->Prop) (ld:Bool) (h:Heap) (a:cE) (ds:cv):Prop where
 ex:∃(o:Obj) (es:Array (Int×cx)) (ep:Nat) (t:cD),h.get? a=some o/\o.ExactSet/\o.data=.set es ep t/\Wt t (es.toList.map (·.1))/\AJ P h es.toList ds/\t.place.size*5<t.mask*3/\t.plain=true/\t.led=ld
 nd:ds.Nodup
theorem Wt.fits {t:cD}{es:Array (Int×cx)}(W:Wt t (es.toList.map (·.1))):t.fits es.size=true:=by
 have h1:=W.len;have h2:=W.room;simp at h1;unfold SetTable.fits SetTable.fill;rw[W.tb.Od];simp only[Bool.and_eq_true,beq_iff_eq,decide_eq_true_eq,aq,List.length_nil];omega
theorem FO {α:Type}(l:List α) (p:Nat) (x:α):(ins l p x).Perm (x::l):=by
 unfold ins;refine List.perm_middle.trans (List.Perm.cons x ?_);rw[List.take_append_drop]
theorem L0 {P:cx->Prop}{ld:Bool}{a xa:cE}{ds:cv}{dx:D}{Q:Bool->cy->Prop}(S:rU P ld s.heap a ds) (hx:KI s.heap (.ref xa) dx) (JY:dI dx<=4) (hP:P (.ref xa)) (hu:A.units+8<cLine) (hn:ds.length<18)
  (h:∀h' BE,Heap.SameBut a s.heap h'->rU P ld h' a BE->BE.Perm (if dx∈ds then ds else dx::ds)->Q (!decide (dx∈ds)) {s with heap:=h'}):
  wpAny (model prog w) A (setAddHashed a (.ref xa) (dX dx)) Q E s:=by
 obtain⟨o,es,ep,t,ho,hex,hd,W,hE,gZ,i9,Ou⟩:=S.ex;have hf:=W.fits;have hlen:t.place.size=es.size:=by have:=W.len;simpa using this
 unfold setAddHashed setAddHashedIn;refine bo (aa (wpAny_setState_of ho hd hf ?_));dsimp only;have Ov:byScan (.ref xa) es=false:=rfl;rw[Ov];simp only[aH,bE];obtain⟨e0,QQ,LZ⟩:=W.emp;have BX:=p7 t (dX dx);obtain⟨K,O4,Qu⟩:=reach W.mask BX.pb.nine BX.pb.IP QQ;have U3:K<100000:=by
  rcases W.mask with hm|hm<;>(rw[hm]at O4;unfold turns at O4;omega)
 unfold setSearch;refine aa (DC ho hd hf W hE hx JY hu (λj0=>?_) (λAK k L1 J4=>?_) K 100000 0 K none rfl (by rw[Qu];exact LZ) (bM _) (by omega) U3 (λm hm=>by omega))
 ·have:=h s.heap ds (Heap.SameBut.refl a s.heap) S (by rw[if_pos j0])
  rw[aR j0]at this;exact aj this
 ·dsimp only;refine aa (wpAny_setState_of ho hd hf ?_);dsimp only;have U4:t.place.size+1<t.mask+1:=by omega
  obtain⟨W1,Hm,CW,IW⟩:=W.put L1 J4 U4;have FP:(t.put (it (iB t.mask) k (t.probeStart (dX dx))).j).1.plain=true:=i9;have IX:(t.put (it (iB t.mask) k (t.probeStart (dX dx))).j).1.led=ld:=Ou;generalize t.put (it (iB t.mask) k (t.probeStart (dX dx))).j=tp at W1 Hm CW IW FP IX;obtain⟨t1,p⟩:=tp;dsimp only at W1 Hm CW IW FP IX;rw[if_pos FP];refine aa (Ot 8 A s (.ref xa) dx _ (by omega) hx ?_)
  simp only[if_true];have Pr:p<=es.toList.length:=by simpa using Hm
  have QS:(insertAt es p (dX dx,Value.ref xa)).toList=ins es.toList p (dX dx,Value.ref xa):=oM _ _ _;have Sy:Wt t1 ((insertAt es p (dX dx,Value.ref xa)).toList.map (·.1)):=by rw[QS,ins_map];exact W1
  have Ox:(insertAt es p (dX dx,Value.ref xa)).size=es.size+1:=by
   rw[<-aN,QS,kB Pr,aN]
  have U5:ds.length=es.size:=by rw[<-hE.1,aN]
  refine aa (wpAny_storeSet_of ho hd ?_ (by rw[Ox];exact aB (by omega:es.size+1<=100) (by decide)))
  have QT:Heap.SameBut a s.heap (s.heap.update a (Obj.putSet (insertAt es p (dX dx,Value.ref xa)) t1)):=Heap.SameBut.update ..;have rA:(s.heap.update a (Obj.putSet (insertAt es p (dX dx,Value.ref xa)) t1)).get? a=some {o with data:=.set (insertAt es p (dX dx,Value.ref xa)) (ep+1) t1}:=by
   have:=Heap.get?_update_self (Obj.putSet (insertAt es p (dX dx,Value.ref xa)) t1) ho (by rw[putSet_of _ t1 hd];rfl)
   rw[putSet_of _ t1 hd]at this;exact this
  have Sz:∀v d,KI s.heap v d->KI (s.heap.update a (Obj.putSet (insertAt es p (dX dx,Value.ref xa)) t1)) v d:=λv d=>ki_set ho hd QT
  have SA:AJ P (s.heap.update a (Obj.putSet (insertAt es p (dX dx,Value.ref xa)) t1)) (insertAt es p (dX dx,Value.ref xa)).toList (ins ds p dx):=by
   rw[QS];exact(hE.imp Sz).ins Pr ⟨Sz _ _ hx,rfl,JY,⟨xa,rfl⟩,hP⟩
  have t7:(ins ds p dx).Perm (dx::ds):=FO ds p dx;have Hj:(ins ds p dx).Nodup:=t7.nodup_iff.mpr (List.nodup_cons.mpr ⟨AK,S.nd⟩);have J5:t1.fill=t1.place.size:=by unfold SetTable.fill;rw[W1.tb.Od];rfl
  have Oy:(!decide (dx∈ds))=true:=by rw[aG AK];rfl
  by_cases BZ:t1.tooFull=true
  ·
   have Of:t1.mask*3<=t1.place.size*5:=by
    have:decide (t1.fill*5 ≥ t1.mask*3)=true:=BZ;rw[J5]at this;have:=bL this;omega
   have SD:t.mask=7:=by
    rcases W.mask with hm|hm
    ·exact hm
    ·rw[CW,hm,IW]at Of;omega
   have h4:es.size=4:=by rw[CW,SD,IW]at Of;rw[SD]at gZ;omega
   generalize U6:insertAt es p (dX dx,Value.ref xa)=u4 at *;have L3:u4.size=5:=by rw[Ox,h4]
   obtain⟨t2,order,Oz,QU,W2,vE,OA,QV,_⟩:=IQ (mask:=31) (.inr rfl) t1.finger (t1.movedTo 31) t1.led t1.plain (u4.map (·.1)) (by simp[L3])
   have J6:order.Perm (List.range u4.size):=by simpa using QU
   obtain⟨rp,QW⟩:=reorder (es:=u4) J6;have hsz2:(order.toArray.filterMap (u4[·]?)).size=u4.size:=by
    have:=rp.length_eq
    simpa using this
   have SE:Wt t2 ((order.toArray.filterMap (u4[·]?)).toList.map (·.1)):=by rw[QW (·.1)];exact W2
   simp only[Bool.not_false,Bool.true_and,if_pos BZ];refine aa ?_;unfold setRelay;refine aa (wpAny_setState_of rA rfl Sy.fits ?_);dsimp only;have hw:sizeAbove (grown (es.size+1))=32:=by rw[h4];rfl
   have U7:t1.relaid (u4.map (·.1)) (grown (es.size+1))=some (t2,order.toArray):=by unfold relaid;rw[hw];exact Oz
   rw[hw,if_neg (by decide),U7]
   refine aa ?_;show wpAny _ _ (if((order.toArray.filterMap (u4[·]?)).size !=u4.size)=true then(unsupported "internal:set-table-lost-an-element">>=λ_=>pure (order.toArray.filterMap (u4[·]?),t2))else pure (order.toArray.filterMap (u4[·]?),t2)) _ _ _
   rw[if_neg (by rw[hsz2];simp)]
   refine aj ?_;dsimp only;refine wpAny_storeSet_of rA rfl ?_ (by rw[hsz2,L3];decide)
   have SF:Heap.SameBut a (s.heap.update a (Obj.putSet u4 t1)) ((s.heap.update a (Obj.putSet u4 t1)).update a (Obj.putSet (order.toArray.filterMap (u4[·]?)) t2)):=Heap.SameBut.update ..
   have rQ:((s.heap.update a (Obj.putSet u4 t1)).update a (Obj.putSet (order.toArray.filterMap (u4[·]?)) t2)).get? a=some {o with data:=.set (order.toArray.filterMap (u4[·]?)) (ep+1+1) t2}:=by
    have:=Heap.get?_update_self (Obj.putSet (order.toArray.filterMap (u4[·]?)) t2) rA (by rw[putSet_of _ t2 rfl];rfl)
    rw[putSet_of _ t2 rfl]at this;exact this
   have eq2:(order.toArray.filterMap (u4[·]?)).toList=order.filterMap λk:Nat=>u4.toList[k]? :=by simp
   obtain⟨SG,OB⟩:=(SA.imp (λv d=>ki_set rA rfl SF)).reorder (order:=order) (by simpa using J6)
   rw[<-eq2]at SG;have:=h _ _ (QT.trans SF) ⟨⟨_,_,_,t2,rQ,hex,rfl,SE,SG,by have h1:=SE.len;rw[ae,aN,hsz2,L3]at h1;rw[vE,h1];decide,by rw[QV];exact FP,by rw[OA];exact IX⟩,(OB.trans t7).nodup_iff.mpr (List.nodup_cons.mpr ⟨AK,S.nd⟩)⟩ (by rw[if_neg AK];exact OB.trans t7)
   rw[Oy]at this;exact aj this
  ·have Of:t1.place.size*5<t1.mask*3:=by
    have h0:¬ (decide (t1.fill*5 ≥ t1.mask*3)=true):=BZ;rw[J5]at h0
    simpa using h0
   simp only[Bool.not_false,Bool.true_and,if_neg BZ];have:=h _ (ins ds p dx) QT ⟨⟨_,_,_,t1,rA,hex,rfl,Sy,SA,Of,FP,IX⟩,Hj⟩ (by rw[if_neg AK];exact t7)
   rw[Oy]at this;exact aj this
end
end ST
namespace ST
open PySem PySem.Spec PyProof.Rows DL SetTable
def Tk (h h':Heap):Prop:=∀b o,h.get? b=some o->o.cls=.type "tuple"->h'.get? b=some o
theorem Tk.trans {h h1 h2:Heap}(a:Tk h h1) (b:Tk h1 h2):Tk h h2:=λx o e c=>b x o (a x o e c) c
mutual
theorem FQ {h h':Heap}(t:Tk h h'):∀{v:cx}{d:D},KI h v d->KI h' v d
 |_,_,.int n t=>.int n t
 |_,_,.tup h1 h2 h3 l=>.tup (t _ _ h1 h2) h2 h3 (FR t l)
theorem FR {h h':Heap}(t:Tk h h'):∀{vs:cw}{ds:cv},o4 h vs ds->o4 h' vs ds
 |_,_,.nil=>.nil
 |_,_,.cons h r=>.cons (FQ t h) (FR t r)
end
theorem rU.mono {P:cx->Prop}{ld:Bool}{h h':Heap}{a:cE}{ds:cv}(S:rU P ld h a ds) (hS:∀o,h.get? a=some o->h'.get? a=some o) (t:Tk h h'):rU P ld h' a ds:=by
 obtain⟨o,es,ep,tb,h1,h2,h3,h4,h5,h6,h7⟩:=S.ex;exact⟨⟨o,es,ep,tb,hS o h1,h2,h3,h4,h5.imp λv d=>FQ t,h6,h7⟩,S.nd⟩
theorem rU.tk {P:cx->Prop}{ld:Bool}{h h':Heap}{a:cE}{ds:cv}(S:rU P ld h a ds) (hs:Heap.SameBut a h h'):Tk h h':=λb o e c=>by
 obtain⟨o',es,ep,tb,h1,h2,_⟩:=S.ex;have ja:b≠a:=λz=>by
  subst z;rw[h1]at e;cases e;rw[h2.1]at c;exact absurd c (by decide)
 exact(hs.2 b ja).trans e
theorem AM {P:cx->Prop}{h:Heap}{a:cE}(led:Bool) (ho:h.get? a=some {cls:=.type "set",dict:=none,data:=.set #[] 0 (.fresh 0 0 led)}):rU P led h a []:=
 ⟨⟨_,#[],0,_,ho,⟨rfl,rfl,rfl⟩,rfl,FE led,⟨rfl,λi e he=>by simp at he⟩,by show 0*5<7*3;decide,rfl,rfl⟩,List.nodup_nil⟩
section
variable {prog:cA}{w:cB}{A:cC}{R:Result->cy->Prop}{I:cE}{fp wr:List cE}{G:Array GenState->Array GenState->Prop}{n:Nat}{P:Nat->cx->Prop}{St:Nat->cy->Prop}
theorem OD {Pv:cx->Prop}{ld:Bool}(W:WalksS prog w A.in1 I fp wr G n P St) (S:cE) (Pu:S∉fp) (val:Nat->D) (h0:Heap)
  (AN:∀i v,P i v->(∃xa,v=.ref xa)/\dI (val i)<=4/\KI h0 v (val i)/\Pv v) (hb:n<=18) (hu:A.units+9<cLine)
  (U8:∀i (s:cy) b o,St i s->b∈wr->s.heap.get? b=some o->o.cls≠.type "tuple"):
  ∀(k i:Nat) (s:cy),n-i=k->i<=n->St i s->Tk h0 s.heap->
   (∃ds,rU Pv ld s.heap S ds/\ds.length<=i/\∀d,d∈ds↔∃m,m<i/\val m=d)->
   (∀s',Moved (S::wr) G s s'->Tk h0 s'.heap->(∃ds,rU Pv ld s'.heap S ds/\ds.length<=n/\∀d,d∈ds↔∃m,m<n/\val m=d)->R (.ok (.ret .none)) s')->
   codeAny (model prog w) A (.builtin "set.update.loop" ⟨[.ref S,.ref I],[]⟩) R s:=by
 have SH:S∉wr:=λh=>Pu (W.sub _ h)
 have FT:∀b∈wr,b∈S::wr:=λb hb=>ai _ hb
 have Pw:∀{i:Nat}{s s':cy},St i s->Moved wr G s s'->Tk s.heap s'.heap:=λma hm b o e c=>hm.heap b o (λhb=>U8 _ _ b o ma hb e c) e
 intro k;induction k with
 |zero=>
  intro i s hk hi ma hT ⟨ds,hS,hl,yv⟩ hR;have j0:i=n:=by omega
  subst j0;refine codeAny_builtin PyProof.Rows.F.entry_set_update_loop ?_;rw[bY PyProof.Rows.F.plain_set_update_loop _];show wpAny _ A.in1 (pyNext (.ref I)>>=_) _ _ s;refine aa (W.done s _ _ ma λs' hm=>?_)
  show wpAny _ A.in1 (ret Value.none) _ _ s';exact aj (hR s' ⟨λb o hb e=>hm.heap b o (λz=>hb (FT b z)) e,hm.gens,hm.drawn,hm.os,hm.toks⟩ (hT.trans (Pw ma hm)) ⟨ds,hS.mono (λo e=>hm.heap S o SH e) (Pw ma hm),hl,yv⟩)
 |succ k ih=>
  intro i s hk hi ma hT ⟨ds,hS,hl,yv⟩ hR;have eP:i<n:=by omega
  refine codeAny_builtin PyProof.Rows.F.entry_set_update_loop ?_;rw[bY PyProof.Rows.F.plain_set_update_loop _];show wpAny _ A.in1 (pyNext (.ref I)>>=_) _ _ s;refine aa (W.item i s _ _ eP ma λv s' hP QX hm=>?_)
  obtain⟨⟨xa,rfl⟩,FU,U9,Va⟩:=AN i v hP;have SI:=hT.trans (Pw ma hm);have MA:=hS.mono (λo e=>hm.heap S o SH e) (Pw ma hm)
  show wpAny _ A.in1 (holding [Value.ref xa] (setAdd S (.ref xa))>>=_) _ _ s';refine aa (bo ?_);unfold setAdd;refine bo ?_;have OE:=FQ SI U9;refine aa (KI.hash 4 A.in1 s' (.ref xa) (val i) _ FU (by show A.units+1+4<cLine;omega) OE ?_)
  refine L0 (s:={s' with toks:=s'.toks+tN (val i)}) MA OE FU Va (by show A.units+1+8<cLine;omega) (by omega) λh' BE Hk Px BX=>?_
  have QY:Tk s'.heap h':=MA.tk Hk;refine aj ⟨plainId_quiet PyProof.Rows.F.plain_set_update_loop _,ih (i+1) _ (by omega) eP (W.frame _ s' _ _ QX (Nat.le_add_right _ _) λb hb o e=>?_) (SI.trans QY) ⟨BE,Px,?_,λd=>?_⟩ λEa QZ Vb Q0=>?_⟩
  ·rw[Hk.2 b (λh:b=S=>Pu (by rw[<-h];exact hb))];exact e
  ·have:=BX.length_eq;by_cases j0:val i∈ds
   ·rw[if_pos j0]at this;omega
   ·rw[if_neg j0,ax]at this;omega
  ·rw[BX.mem_iff];have base:=yv d;constructor
   ·intro hd;split at hd
    ·obtain⟨m,h1,h2⟩:=base.mp hd;exact⟨m,by omega,h2⟩
    ·rcases List.mem_cons.mp hd with rfl|hd
     ·exact⟨i,by omega,rfl⟩
     ·obtain⟨m,h1,h2⟩:=base.mp hd;exact⟨m,by omega,h2⟩
   ·rintro⟨m,h1,h2⟩
    by_cases Vc:m=i
    ·subst Vc;subst h2;split
     ·rename_i j0;exact j0
     ·exact af
    ·have:=base.mpr ⟨m,by omega,h2⟩
     split
     ·exact this
     ·exact ai _ this
  ·refine hR Ea (Moved.trans W.gtrans ?_ QZ) Vb Q0;refine⟨λb o hb e=>?_,hm.gens,hm.drawn,hm.os,?_⟩
   ·rw[Hk.2 b (λh:b=S=>hb (by rw[h];exact af))]
    exact hm.heap b o (λz=>hb (FT b z)) e
   ·exact aB hm.toks (Nat.le_add_right _ _)
end
end ST
namespace ST
open PySem PySem.Spec PyProof.Rows DL SetTable
noncomputable abbrev eh (led:Bool):Obj:={cls:=.type "set",dict:=none,data:=.set #[] 0 (.fresh 0 0 led)}
section
variable {prog:cA}{w:cB}{A:cC}{E:cj}{s:cy}
def Made (P:cx->Prop) (ld:Bool) (s:cy) (val:cv) (h':Heap):Prop:=(∃ds,rU P ld h' s.heap.objs.size ds/\∀d,d∈ds↔d∈val)/\∀b o,b<s.heap.objs.size->s.heap.get? b=some o->h'.get? b=some o
theorem DD {l:cE}{items:Array cx}{val:cv}{led:Bool}(hh:A.handled=none) (hu:A.units+20<cLine) (hl:s.heap.IsList l items) (hn:items.size=val.length)
  (hit:∀(i:Nat) (v:cx),items[i]? =some v->(∃xa,v=.ref xa)/\dI (val.getD i .fO)<=4/\KI s.heap v (val.getD i .fO)) (hb:items.size<=18) {Q:PySem.Fin->cy->Prop}
  (h:∀h' tk,Made (·∈items.toList) led s val h'->Q (.done (.ret .none)) {s with heap:=h',toks:=tk}):
  wpAny (model prog w) A (Builtin.«set.__init__» ⟨[.ref s.heap.objs.size,.ref l],[]⟩) Q E {s with heap:=s.heap.push (eh led)}:=by
 obtain⟨⟨Vd,OF,SJ,L4⟩,SK,sX,nl,SM⟩:=hl;simp only at sX SM;subst sX SM;have hS:(s.heap.push (eh led)).get? s.heap.objs.size=some (eh led):=ay _ rfl;have hT:Shared.TypeIs {s with heap:=s.heap.push (eh led)} (.ref s.heap.objs.size) "set":=⟨_,hS,rfl⟩
 have Q1:(s.heap.push (eh led)).get? l=some {cls:=.type "list",dict:=OF,data:=.seq items nl,slots:=L4}:=ag _ SK;have Ve:=PySem.F.sub_list_set;have Vf:=PySem.F.sub_list_frozenset;have ja:(Value.type "list"==Value.type "dict")=false:=by decide
 have Py:(s.heap.push (eh led)).IsList l items:=⟨_,Q1,rfl,nl,rfl⟩;unfold Builtin.«set.__init__» noKeywords Builtin.Frozenset.updateFrom;generalize Vg:pyIter=PI
 wp_walk
 subst Vg;refine wpAny_pyIter_list Py ?_;refine aa (wpAny_runValue ?_);have SN:l<s.heap.objs.size:=az SK;have Q2:(s.heap.push (eh led)).objs.size=s.heap.objs.size+1:=Heap.size_push ..;have L5:l≠(s.heap.push (eh led)).objs.size:=by rw[Q2];exact aD (Nat.lt_succ_of_lt SN)
 have Pu:s.heap.objs.size∉[(s.heap.push (eh led)).objs.size,l]:=by
  rw[Q2];simp only[List.mem_cons,bJ,or_false,not_or];exact⟨aD (Nat.lt_succ_self _),bx SN⟩
 have Vh:((s.heap.push (eh led)).push {cls:=.type "list_iterator",data:=.fields #[.ref l,.int 0 0]}).get? s.heap.objs.size=some (eh led):=ag _ hS;have W:=(Walks.list (prog:=prog) (w:=w) (A:=A.in1) hh (s.heap.push (eh led)).objs.size l L5 items).toS;refine OD (Pv:=(·∈items.toList)) W s.heap.objs.size Pu (λi=>val.getD i .fO) s.heap (λi v hv=>⟨(hit i v hv).1,(hit i v hv).2.1,(hit i v hv).2.2,Array.mem_toList_iff.mpr (Array.mem_of_getElem? hv)⟩) hb (by omega) (λi s' b o st Vi e c=>?_) (items.size-0) 0 _ (by omega) (bM _) ⟨⟨_,ay _ rfl,rfl,rfl⟩,Py.push _⟩ (λb o e _=>ag _ (ag _ e)) ⟨[],AM led Vh,au _,λd=>⟨(λz=>by cases z),λ⟨m,hm,_⟩=>by omega⟩⟩ (λs' hm SO ⟨ds,Vj,_,yv⟩=>?_)
 ·have HH:b=(s.heap.push (eh led)).objs.size:=by simpa using Vi
  obtain⟨o',e',c',_⟩:=st.1;subst HH;rw[e]at e';cases e';rw[c]at c';exact absurd c' (by decide)
 ·obtain⟨h',g',d',B0,M9⟩:=s';have eg:g'=s.gens:=hm.gens;have ed:d'=s.drawn:=hm.drawn;have eo:M9=s.os:=hm.os;subst eg ed eo;show wpAny _ _ _ _ _ _;refine aj ?_;show wpAny _ _ (ret Value.none) _ _ _;refine aj (h h' B0 ⟨⟨ds,Vj,λd=>(yv d).trans ⟨λ⟨m,CW,vE⟩=>?_,λhd=>?_⟩⟩,λb o hb e=>?_⟩)
  ·have:m<val.length:=by rw[<-hn];exact CW
   rw[<-vE];show val.getD m .fO∈val;rw[ak,ah this];exact List.getElem_mem this
  ·obtain⟨m,vE⟩:=bp hd;refine⟨m,by rw[hn];exact(List.getElem?_eq_some_iff.mp vE).1,?_⟩
   show val.getD m .fO=d;rw[ak,vE];rfl
  ·have Vk:b≠s.heap.objs.size:=aD hb;have N8:b≠(s.heap.push (eh led)).objs.size:=by rw[Q2];exact aD (Nat.lt_succ_of_lt hb)
   exact hm.heap b o (by simp only[List.mem_cons,bJ,or_false,not_or];exact⟨Vk,N8⟩) (ag _ (ag _ e))
end
end ST
namespace ST
open PySem PySem.Spec PyProof.Rows DL SetTable
section
variable {prog:cA}{w:cB}{A:cC}{E:cj}{s:cy}
theorem IY (a:cx) {Q₁:cj}
  (h:Q₁ (.ref s.heap.objs.size) {s with heap:=s.heap.push (eh (!w.params.followText "set-order"))}):
  codeAny (model prog w) A (.call (.builtin "set.__new__") ⟨[.type "set",a],[]⟩) (wants Q₁ E) s:=by
 refine codeAny_of_tree ?_;show wpAny _ A.in1 (checkBuiltinCall "set.__new__" ⟨[.type "set",a],[]⟩>>=λ_=>again (.builtin "set.__new__" ⟨[.type "set",a],[]⟩)) _ _ s
 refine aa (wpAny_of_eq (PySem.F.newCall_set_1 a) (aj ⟨plainId_quiet PySem.F.plain_set_new _,codeAny_builtin PySem.F.entry_set_new ?_⟩));rw[bY PySem.F.plain_set_new _];unfold Builtin.«set.__new__» Builtin.Frozenset.newClass;have FT:=sub_set_self;obtain⟨hp,g,d,tk,os⟩:=s;dsimp only
 wp_walk
 refine wpAny_askSetting (aj ?_);dsimp only;simp only[newObj];refine aa (wpAny_alloc (aj ?_));exact aj h
set_option maxHeartbeats 8000000 in
theorem u5 {x:cx}{Mk:Heap->Prop}{Q:cj}
  (OG:∀{Q:PySem.Fin->cy->Prop},(∀h' tk,Mk h'->Q (.done (.ret .none)) {s with heap:=h',toks:=tk})->wpAny (model prog w) A.in1.in1 (Builtin.«set.__init__» ⟨[.ref s.heap.objs.size,x],[]⟩) Q E {s with heap:=s.heap.push (eh (!w.params.followText "set-order"))})
  (h:∀h' tk,Mk h'->Q (.ref s.heap.objs.size) {s with heap:=h',toks:=tk}):
  wpAny (model prog w) A (call (.type "set") [x]) Q E s:=by
 obtain⟨c,tl,Vl⟩:=PySem.F.called_set.mro;have J7:=PySem.F.called_set.made;have FT:=PySem.F.called_set.sub;have h1:=PySem.F.called_set.notType;have h2:=PySem.F.called_set.canCreate;have SQ:=PySem.F.typeCall_set_1 x;refine wpAny_call (codeAny_of_tree ?_);show wpAny _ _ (callAny (.type "set") _) _ _ _;refine aj ⟨Code.quiet_builtin _ (by decide +kernel),codeAny_builtin PySem.F.entry_type_call ?_⟩
 rw[Around.under_plain (weight_type_call_type "set" [x] []) rfl]
 repeat (any_goals (first|assumption|wp_step))
 refine codeAny_mono (IY x (E:=E) (Q₁:=λobj s₁=>obj=.ref s.heap.objs.size/\s₁={s with heap:=s.heap.push (eh (!w.params.followText "set-order"))}) ⟨rfl,rfl⟩) λr s₁ hr=>?_
 cases r with
 |error e=>exact hr
 |ok fl=>
  cases fl with
  |ret obj=>
   obtain⟨rfl,rfl⟩:=hr;have hT:Shared.TypeIs {s with heap:=s.heap.push (eh (!w.params.followText "set-order"))} (.ref s.heap.objs.size) "set":=⟨_,ay _ rfl,rfl⟩
   have FN:=PySem.F.called_set.init.lookup;have YM:=PySem.F.called_set.init.bind (.ref s.heap.objs.size)
   repeat (any_goals (first|assumption|wp_step))
   refine codeAny_mono (codeAny_call_builtin (R:=wants (λr s₂=>r=.none/\∃h' tk,s₂={s with heap:=h',toks:=tk}/\Mk h') E) PySem.F.called_set.init.plain PySem.F.entry_set_init (check_set_init_1 hT ?_)) λr₂ s₂ Q3=>?_
   ·exact OG λh' tk hm=>⟨rfl,h',tk,rfl,hm⟩
   ·cases r₂ with
    |error e=>exact Q3
    |ok Vm=>
     cases Vm with
     |ret r=>
      obtain⟨rfl,h',tk,rfl,hm⟩:=Q3
      repeat (any_goals (first|assumption|wp_step))
      exact h _ _ hm
     |_=>exact Q3.elim
  |_=>exact hr.elim
theorem u6 {l:cE}{items:Array cx}{val:cv}{Q:cj}(hh:A.handled=none) (hu:A.units+40<cLine) (hl:s.heap.IsList l items) (hn:items.size=val.length)
  (hit:∀(i:Nat) (v:cx),items[i]? =some v->(∃xa,v=.ref xa)/\dI (val.getD i .fO)<=4/\KI s.heap v (val.getD i .fO)) (hb:items.size<=18)
  (h:∀h' tk,Made (·∈items.toList) (!w.params.followText "set-order") s val h'->Q (.ref s.heap.objs.size) {s with heap:=h',toks:=tk}):
  wpAny (model prog w) A (call (.type "set") [.ref l]) Q E s:=
 u5 (λhQ=>DD (s:=s) (A:=A.in1.in1) hh (by show A.units+1+1+20<cLine;omega) hl hn hit hb hQ) h
end
end ST
namespace ST
open PySem PySem.Spec PyProof.Rows DL SetTable
theorem gO:Slot "set_iterator" "__next__" "set_iterator.__next__":=
 .of (owner:="set_iterator") (n:="__next__") (by rw[typeLookup_type,builtinLookup_eq_fast];kernel_rfl) (by decide +kernel) (by decide +kernel) (by decide +kernel)
  (by first|exact .inl (by decide +kernel)|exact .inr (by decide +kernel)) (by rw[isSubtype_type];kernel_rfl)
theorem oN:entryFor table "set_iterator.__next__"=some Builtin.«set_iterator.__next__»:=entryFor_of_tree (by kernel_rfl)
theorem p8 (a:cx):argsOk "set_iterator.__next__" ⟨[a],[]⟩:=by
 unfold argsOk;kernel_rfl
theorem B1 {α:Type}(next:Nat->Nat):∀(fuel k:Nat) (left:List α) (out:Array α),left.length<=fuel->(pickOrder.go next fuel k left out).toList.Perm (out.toList++left)
 |0,k,left,out,h=>by
  have:left=[]:=List.length_eq_zero_iff.mp (by omega)
  subst this;unfold pickOrder.go;rw[bC]
 |fuel+1,k,left,out,h=>by
  unfold pickOrder.go;by_cases hl:left=[]
  ·subst hl;simp
  ·have IL:0<left.length:=List.length_pos_iff.mpr hl;have eP:next k%left.length<left.length:=Nat.mod_lt _ IL;rw[ah eP];dsimp only;refine(B1 next fuel (k+1) _ _ (by rw[List.length_eraseIdx];split<;>omega)).trans ?_
   rw[Array.toList_push,List.append_assoc];refine List.Perm.append_left _ ?_;exact(LW.o6 left _ eP)
theorem vT {α:Type}(next:Nat->Nat) (xs:Array α):(pickOrder next xs).toList.Perm xs.toList:=by
 have:=B1 next xs.size 0 xs.toList #[] (by simp)
 show(pickOrder.go next xs.size 0 xs.toList #[]).toList.Perm xs.toList
 simpa using this
noncomputable abbrev t8 (first:Int) (i:Nat) (S:cE) (n ep:Nat):Obj:={cls:=.type "set_iterator",data:=.fields #[rawInt first,rawInt i,.ref S,rawInt n,rawInt ep]}
noncomputable def fx (w:cB) (a:cE) (ep:Nat) (es:Array (Int×cx)):Array (Int×cx):=if w.params.followText "set-order" then pickOrder (w.params.setOrder a ep) es else es
noncomputable def AO (t:cD):Nat->Nat
 |0=>0
 |i+1=>t.place.getD i 0+1
noncomputable def jT (w:cB) (t:cD) (i:Nat):Nat:=if w.params.followText "set-order" then 0 else AO t i
theorem AQ {t:cD}(hr:fc t.place.toList) (i:Nat) (hi:i<=t.place.size):below t.place (AO t i)=i:=by
 obtain⟨h1,h2,h3⟩:=mv t.place (AO t i) hr;cases i with
 |zero=>
  show below t.place 0=0;by_cases hz:below t.place 0=0
  ·exact hz
  ·have IL:0<below t.place 0:=by omega
   have eP:0<t.place.size:=by have xQ:below t.place 0<=t.place.size:=h1;omega
   have:=h2 0 eP IL;have SR:t.place[0]<0:=this;omega
 |succ i=>
  have eP:i<t.place.size:=by omega
  have hg:t.place.getD i 0=t.place[i]:=by simp[eP]
  have Q4:AO t (i+1)=t.place[i]+1:=by show t.place.getD i 0+1=_;rw[hg]
  rw[Q4]at h1 h2 h3 ⊢;have lo:i<below t.place (t.place[i]+1):=by
   by_cases hc:below t.place (t.place[i]+1)<=i
   ·have:=h3 i eP hc;omega
   ·omega
  by_cases hc:below t.place (t.place[i]+1)=i+1
  ·exact hc
  ·have IU:i+1<t.place.size:=by omega
   have a1:=h2 (i+1) IU (by omega)
   have a2:=sv hr (i:=i) (k:=i+1) (by omega) (by simpa using IU)
   simp only[Array.getElem_toList]at a2;omega
section
variable {prog:cA}{w:cB}{A:cC}{E:cj}{s:cy}
theorem AR {a:cE}{o:Obj}{es:Array (Int×cx)}{ep:Nat}{t:cD}(ho:s.heap.get? a=some o) (hd:o.data=.set es ep t) (hf:t.fits es.size=true) (hr:fc t.place.toList) (i9:t.plain=true) (Ou:t.led= !w.params.followText "set-order")
  (i:Nat) (hi:i<=es.size) {Q:Option (cx×Nat)->cy->Prop}(h:Q ((fx w a ep es)[i]?.map λe=>(e.2,jT w t (i+1))) s):wpAny (model prog w) A (setNext a (jT w t i) i ep) Q E s:=by
 have hsz:t.place.size=es.size:=by
  simp only[SetTable.fits,Bool.and_eq_true,beq_iff_eq,decide_eq_true_eq]at hf;exact hf.1
 unfold setNext;refine aa (wpAny_setState_of ho hd hf ?_);dsimp only;unfold setsByText;refine aa (aa (wpAny_askSetting (aj ?_)));show wpAny _ _ (if w.params.followText "set-order"=true then _ else _) _ _ _
 cases hb:w.params.followText "set-order" with
 |true=>
  rw[if_pos rfl,if_neg (by simp)]
  unfold setWalk;refine aa (aa (wpAny_setState_of ho hd hf ?_));dsimp only;unfold setsByText;refine aa (aa (wpAny_askSetting (aj ?_)));show wpAny _ _ (if w.params.followText "set-order"=true then _ else _) _ _ _
  rw[hb,if_pos rfl];refine aa (wpAny_askSetting (aj ?_));refine aj ?_;have e1:jT w t i=jT w t (i+1):=by unfold jT;rw[hb];rfl
  unfold fx at h;rw[hb,if_pos rfl]at h;rw[e1];exact h
 |false=>
  rw[if_neg aZ,if_neg (λhc=>by
   have h2:(!t.plain&&decide (es.size>1))=true:=hc;rw[i9]at h2;cases h2)]
  refine aa ?_;show wpAny _ _ (if(!t.led&& !es.isEmpty)=true then unsupported "set:maker-not-led" else pure ()) _ _ _
  rw[if_neg (by rw[Ou,hb];simp)]
  refine aj ?_;refine aj ?_;have e1:jT w t i=AO t i:=by unfold jT;rw[hb];rfl
  rw[e1,AQ hr i (by omega)]
  unfold fx at h;rw[hb,if_neg aZ]at h;by_cases eP:i<es.size
  ·have g1:es[i]? =some es[i]:=by simp[eP]
   have g2:t.place[i]? =some t.place[i]:=by simp[hsz,eP]
   rw[g1]at h ⊢;rw[g2];have e2:jT w t (i+1)=t.place[i]+1:=by unfold jT AO;rw[hb];simp[hsz,eP]
   rw[e2]at h;exact h
  ·have g1:es[i]? =none:=by simp;omega
   rw[g1]at h ⊢;exact h
end
end ST
namespace ST
open PySem PySem.Spec PyProof.Rows DL SetTable
theorem p9:Slot "set_iterator" "__iter__" "set_iterator.__iter__":=
 .of (owner:="set_iterator") (n:="__iter__") (by rw[typeLookup_type,builtinLookup_eq_fast];kernel_rfl) (by decide +kernel) (by decide +kernel) (by decide +kernel)
  (by first|exact .inl (by decide +kernel)|exact .inr (by decide +kernel)) (by rw[isSubtype_type];kernel_rfl)
theorem xh (a:cx):argsOk "set_iterator.__iter__" ⟨[a],[]⟩:=by unfold argsOk;kernel_rfl
theorem u7:entryFor table "set_iterator.__iter__"=some Builtin.«dict_keyiterator.__iter__»:=
 entryFor_alias (id':="dict_keyiterator.__iter__") (by kernel_rfl) (by first|rfl|decide +kernel) (by decide +kernel) (by kernel_rfl)
theorem t9:entryFor table "set.__iter__"=some Builtin.«frozenset.__iter__»:=
 entryFor_alias (id':="frozenset.__iter__") (by kernel_rfl) rfl (by decide +kernel) (by kernel_rfl)
structure lH (w:cB) (h:Heap) (S:cE) (es:Array (Int×cx)) (ep:Nat) (t:cD):Prop where
 at_:∃o,h.get? S=some o/\o.ExactSet/\o.data=.set es ep t
 fits:t.fits es.size=true
 rise:fc t.place.toList
 plain:t.plain=true
 led:t.led= !w.params.followText "set-order"
section
variable {prog:cA}{w:cB}{A:cC}{E:cj}{s:cy}
theorem B2 {I S:cE}{es:Array (Int×cx)}{ep:Nat}{t:cD}{i:Nat}(hI:s.heap.get? I=some (t8 (jT w t i:Nat) i S es.size ep)) (hS:lH w s.heap S es ep t) (hi:i<=es.size)
  {Q:PySem.Fin->cy->Prop}(h1:∀e h',(fx w S ep es)[i]? =some e->h'.get? I=some (t8 (jT w t (i+1):Nat) (i+1) S es.size ep)->Heap.SameBut I s.heap h'->Q (.done (.ret e.2)) {s with heap:=h'})
  (h2:(fx w S ep es)[i]? =none->wpAny (model prog w) A (setField (.ref I) 2 .none>>=λ_=>newExc (.type "StopIteration") []>>=λe=>raiseNew e) Q E s):
  wpAny (model prog w) A (Builtin.«set_iterator.__next__» ⟨[.ref I],[]⟩) Q E s:=by
 obtain⟨o,ho,hex,hd⟩:=hS.at_;unfold Builtin.«set_iterator.__next__» slotArgs;simp only[List.isEmpty_nil,bU,aH,↓reduceIte,bind_assoc,List.length_nil,bne_self_eq_false];refine aa (aj ?_);refine aa (wpAny_fieldsOf hI rfl ?_);show wpAny (model prog w) A (setEntries S>>=_) Q E s;refine aa (wpAny_setEntries_of ho hd hS.fits ?_);have hsz:(((es.size:Nat):Int)!=((es.size:Nat):Int))=false:=by simp
 show wpAny _ _ (if(((es.size:Nat):Int)!=((es.size:Nat):Int))=true then _ else _) _ _ _
 rw[if_neg (by rw[hsz];exact aZ)]
 show wpAny _ _ (setNext S (((jT w t i:Nat):Int).toNat) (((i:Nat):Int).toNat) (((ep:Nat):Int).toNat)>>=_) _ _ _;rw[Int.toNat_natCast,Int.toNat_natCast,Int.toNat_natCast];refine aa (AR ho hd hS.fits hS.rise hS.plain hS.led i hi ?_);cases hx:(fx w S ep es)[i]? with
 |none=>exact h2 hx
 |some e=>
  dsimp only[bB];refine aa (wpAny_setField_rec hI (by simp) λha SS Q5=>?_)
  refine aa (wpAny_setField_rec SS (by simp) λhb Vn Hk=>?_)
  exact aj (h1 e hb hx Vn (Q5.trans Hk))
theorem lJ (w:cB) (S:cE) (ep:Nat) (es:Array (Int×cx)):(fx w S ep es).size=es.size:=by
 unfold fx;split
 ·have:=(vT (w.params.setOrder S ep) es).length_eq
  simpa using this
 ·rfl
theorem lH.mono {h h':Heap}{S:cE}{es:Array (Int×cx)}{ep:Nat}{t:cD}(a:lH w h S es ep t) (k:∀o,h.get? S=some o->h'.get? S=some o):lH w h' S es ep t:=
 ⟨let ⟨o,h1,h2⟩:=a.at_;⟨o,k o h1,h2⟩,a.fits,a.rise,a.plain,a.led⟩
theorem DE (hh:A.handled=none) (I S:cE) (ja:S≠I) (es:Array (Int×cx)) (ep:Nat) (t:cD):
  Walks prog w A I [I,S] [I] es.size (λi v=>∃e,(fx w S ep es)[i]? =some e/\v=e.2) (λi h=>h.get? I=some (t8 (jT w t i:Nat) i S es.size ep)/\lH w h S es ep t)where
 sub:=λb hb=>by simp at hb;simp[hb]
 frame:=λi h h' st hk=>⟨hk I (by simp) _ st.1,st.2.mono λo e=>hk S (by simp) o e⟩
 item:=λi s Q E hi st hQ=>by
  have hT:s.TypeIs (.ref I) "set_iterator":=⟨_,st.1,rfl⟩;unfold pyNext;refine aa (wpAny_attempt (wpAny_callSpecial?_slot (name:=Str.ofString "__next__") hT gO (bN gO hT oN ?_ (p8 _))));refine B2 st.1 st.2 (bg hi) (λe h' hx SU hs=>?_) λhn=>?_
  ·exact⟨_,rfl,aj (hQ e.2 h' s.toks ⟨e,hx,rfl⟩ ⟨SU,st.2.mono λo e=>(hs.2 S ja).trans e⟩ λb o hb e=>(hs.2 b (by simpa using hb)).trans e)⟩
  ·have:i<(fx w S ep es).size:=by rw[lJ];exact hi
   rw[aU this]at hn;cases hn
 done:=λs Q E st hQ=>by
  have hT:s.TypeIs (.ref I) "set_iterator":=⟨_,st.1,rfl⟩;unfold pyNext;refine aa (wpAny_attempt (wpAny_callSpecial?_slot (name:=Str.ofString "__next__") hT gO (bN gO hT oN ?_ (p8 _))));refine B2 st.1 st.2 (au _) (λe h' hx SU hs=>?_) λhn=>?_
  ·have:¬ es.size<(fx w S ep es).size:=by rw[lJ];omega
   rw[Array.getElem?_eq_none (by omega)]at hx;cases hx
  ·refine aa (wpAny_setField_rec st.1 (by simp) λha SS Q5=>?_)
   refine aa ?_;simp only[newExc,newTuple];refine aa (bS ?_ (by size_fits))
   refine aa (m:=firstArgMember _ _) (wpAny_of_eq (a:=Value.none) (by first|rfl|(simp only[firstArgMember];rfl)) ?_)
   refine bS ?_ (by size_fits)
   simp only[raiseNew];refine aa (wpAny_handled ?_)
   first|rw[show A.in1.handled=none from hh]|rw[hh]
   refine aa (aj (wpAny_throw ?_));refine aa (wpAny_isInstance (T:="StopIteration") (b:=true) ⟨_,ay _ rfl,rfl⟩ isSubtype_stop ?_);exact aj (hQ _ s.toks λb o hb e=>ag _ (ag _ ((Q5.2 b (by simpa using hb)).trans e)))
 self:=λi s Q E st hQ=>by
  have hT:s.TypeIs (.ref I) "set_iterator":=⟨_,st.1,rfl⟩;refine wpAny_pyIter_slot hT p9 (bN p9 hT u7 ?_ (xh _));show wpAny _ _ (ret (.ref I)) _ _ s;exact aj ⟨_,rfl,"set_iterator",_,hT,gO.lookup,hQ⟩
theorem FV {S:cE}{es:Array (Int×cx)}{ep:Nat}{t:cD}(hS:lH w s.heap S es ep t) {Q:cj}
  (h:Q (.ref s.heap.objs.size) {s with heap:=s.heap.push (t8 0 0 S es.size ep)}):wpAny (model prog w) A (pyIter (.ref S)) Q E s:=by
 obtain⟨o,ho,hex,hd⟩:=hS.at_;have hT:s.TypeIs (.ref S) "set":=⟨o,ho,hex.1⟩;refine wpAny_pyIter_slot hT PySem.F.slot_set_iter (bN PySem.F.slot_set_iter hT t9 ?_ (PySem.F.args_set_iter_1 _));unfold Builtin.«frozenset.__iter__» Builtin.Frozenset.slot0 slotArgs;simp only[List.isEmpty_nil,bU,aH,↓reduceIte,bind_assoc,List.length_nil,bne_self_eq_false];unfold Builtin.Frozenset.addrOf Builtin.Frozenset.sizeOf;refine aa (aj ?_);try dsimp only
 refine aa (aj ?_);refine aa (aa (wpAny_setEntries_of ho hd hS.fits (aj ?_)));unfold setDrawn;refine aa (aa (wpAny_setState_of ho hd hS.fits ?_));dsimp only;unfold setsByText;refine aa (aa (wpAny_askSetting (aj ?_)));refine aj ?_;rw[if_neg (λhc=>by
  have h2:(!w.params.followText "set-order"&&(!t.plain&&decide (es.size>1)))=true:=hc;rw[hS.plain,bU,Bool.false_and,Bool.and_false]at h2;cases h2)]
 refine aa (aj ?_);refine aa (wpAny_setEpoch_of ho hd hS.fits ?_);exact aa (bS (aj ⟨_,rfl,"set_iterator",_,⟨_,ay _ rfl,rfl⟩,gO.lookup,h⟩))
end
end ST
namespace ST
open PySem PySem.Spec PyProof.Rows DL SetTable
section
variable {prog:cA}{w:cB}{A:cC}{E:cj}{s:cy}
theorem L6 {α:Type}{M:Model}{c:Prop} [Decidable c] {x y:Sem α}{Q:α->cy->Prop}(hc:c) (h:wpAny M A x Q E s):wpAny M A (if c then x else y) Q E s:=by rw[if_pos hc];exact h
theorem FW {S:cE}{es:Array (Int×cx)}{ep:Nat}{t:cD}(hS:lH w s.heap S es ep t) {Q:Bool->cy->Prop}(h:Q false s):wpAny (model prog w) A (Builtin.List.listLengthHint (.ref S)) Q E s:=by
 obtain⟨o,ho,hex,hd⟩:=hS.at_;have hT:s.TypeIs (.ref S) "set":=⟨o,ho,hex.1⟩;unfold Builtin.List.listLengthHint;refine aa (wpAny_specialOf hT PySem.F.slot_set_len.lookup ?_);dsimp only;have Hh:splitId "set.__len__"=some ("set","__len__"):=by decide +kernel
 rw[Hh];dsimp only;refine aa (wpAny_isInstance hT sub_set_self ?_);simp only[bU,aH,bE];refine L6 (by decide +kernel) ?_
 refine aa (wpAny_typeOf hT ?_);exact aj h
theorem rD {S:cE}{es:Array (Int×cx)}{ep:Nat}{t:cD}{Q:cw->cy->Prop}(hh:A.handled=none) (hS:lH w s.heap S es ep t) (hn:es.size<=1000)
  (hQ:∀h' tk acc,(∀b o,s.heap.get? b=some o->h'.get? b=some o)->acc=(fx w S ep es).toList.map (·.2)->s.heap.objs.size<h'.objs.size->Q acc {s with heap:=h',toks:=tk}):wpAny (model prog w) A (collect (.ref S)) Q E s:=by
 obtain⟨o,ho,hex,hd⟩:=hS.at_;have IZ:S<s.heap.objs.size:=az ho;unfold collect;refine aa (wpAny_runValue (codeAny_builtin PySem.F.entry_proto_collect ?_));rw[bY PySem.F.plain_proto_collect _];show wpAny _ A.in1 (newList []>>=λl=>again (.builtin "list.__iadd__" ⟨[l,.ref S],[]⟩)) _ _ s
 refine aa (bS ?_);refine aj ⟨plainId_quiet PySem.F.plain_list_iadd _,codeAny_builtin PySem.F.entry_list_iadd ?_⟩;rw[bY PySem.F.plain_list_iadd _];generalize Q6:s.heap.push {cls:=.type "list",data:=.seq ([]:cw).toArray}=g1;have Pz:g1.objs.size=s.heap.objs.size+1:=by rw[<-Q6];exact Heap.size_push ..
 have k1:∀b o,s.heap.get? b=some o->g1.get? b=some o:=λb o e=>by rw[<-Q6];exact ag _ e
 have Vo:g1.get? s.heap.objs.size=some {cls:=.type "list",data:=.seq ([]:cw).toArray}:=by rw[<-Q6];exact ay _ rfl
 have SV:lH w g1 S es ep t:=hS.mono λo e=>k1 _ _ e
 have Vp:Shared.TypeIs {s with heap:=g1} (.ref S) "set":=⟨o,k1 _ _ ho,hex.1⟩
 show wpAny _ A.in1 (Builtin.List.listExtendWith (.ref s.heap.objs.size) (.ref S) (.ref s.heap.objs.size)) _ _ {s with heap:=g1}
 unfold Builtin.List.listExtendWith;refine aa (wpAny_typeOf Vp ?_);have h1:Builtin.List.listSameRef (.ref s.heap.objs.size) (.ref S)=false:=by simp[Builtin.List.listSameRef];exact bx IZ
 have h2:(Value.type "set"==Value.type "list")=false:=by decide
 have h3:(Value.type "set"==Value.type "tuple")=false:=by decide
 simp only[h1,h2,h3,Bool.or_false,aH,bE];refine aa (FV (s:={s with heap:=g1}) SV ?_)
 generalize SW:g1.push (t8 0 0 S es.size ep)=g2;have k2:∀b o,g1.get? b=some o->g2.get? b=some o:=λb o e=>by rw[<-SW];exact ag _ e
 have Vq:g2.get? g1.objs.size=some (t8 0 0 S es.size ep):=by rw[<-SW];exact ay _ rfl
 have Px:lH w g2 S es ep t:=SV.mono λo e=>k2 _ _ e
 refine aa (bo (FW (s:={s with heap:=g2}) Px ?_))
 show wpAny _ A.in1 (rule "list.extend.makes-room">>=λ_=>Builtin.List.listTouch (.ref s.heap.objs.size)>>=λ_=>
  again (.builtin "list.extend.loop" ⟨[.ref s.heap.objs.size,.ref g1.objs.size,.ref s.heap.objs.size],[]⟩)) _ _ {s with heap:=g2}
 refine aa (wpAny_rule ?_);refine aa ?_;show wpAny _ A.in1 (updateSeq s.heap.objs.size (·.push .none)>>=λ_=>updateSeq s.heap.objs.size (·.pop)) _ _ {s with heap:=g2}
 have SX:=k2 _ _ Vo;refine aa (wpAny_updateSeq SX rfl ?_);have SY:=Heap.get?_update_self (Obj.mapSeq (·.push Value.none)) SX rfl
 refine wpAny_updateSeq SY rfl ?_;have S0:=Heap.get?_update_self (Obj.mapSeq (·.pop)) SY rfl
 generalize Vr:(g2.update s.heap.objs.size (Obj.mapSeq (·.push Value.none))).update s.heap.objs.size (Obj.mapSeq (·.pop))=g3 at S0
 have Q7:∀b o,b≠s.heap.objs.size->g2.get? b=some o->g3.get? b=some o:=λb o hb e=>by
  rw[<-Vr];exact(bz _ _ (Ne.symm hb)).trans ((bz _ _ (Ne.symm hb)).trans e)
 have L5:S≠g1.objs.size:=by rw[Pz];exact aD (Nat.lt_succ_of_lt IZ)
 have W:=(DE (prog:=prog) (w:=w) (A:=A.in1) hh g1.objs.size S L5 es ep t).toS;have Vs:s.heap.objs.size∉[g1.objs.size,S]:=by
  rw[Pz];simp only[List.mem_cons,bJ,or_false,not_or];exact⟨aD (Nat.lt_succ_self _),bx IZ⟩
 have Q4:((jT w t 0:Nat):Int)=0:=by unfold jT AO;split<;>rfl
 refine aj ⟨plainId_quiet PySem.F.plain_extend_loop _,codeAny_extend_loopS W (aB hn (by decide)) _ Vs _ es.size 0 _ _ _ rfl (bM _) ⟨?_,?_⟩ S0 (ItemsOf.nil _) λs' jU c' hm PH ou=>?_⟩
 ·show g3.get? g1.objs.size=some (t8 (jT w t 0:Nat) 0 S es.size ep);rw[Q4];exact Q7 _ _ (by rw[Pz];exact bx (Nat.lt_succ_self _)) Vq
 ·exact Px.mono λo e=>Q7 _ _ (aD IZ) e
 ·obtain⟨h',g',d',B0,M9⟩:=s';have eg:g'=s.gens:=hm.gens;have ed:d'=s.drawn:=hm.drawn;have eo:M9=s.os:=hm.os;subst eg ed eo;show wpAny _ A (load s.heap.objs.size>>=_) _ _ _;refine aa (wpAny_load PH ?_);refine aj (hQ h' B0 jU.toList (λb o e=>?_) ?_ (az PH))
  ·have hb:b<s.heap.objs.size:=az e;refine hm.heap b o ?_ (Q7 b o (aD hb) (k2 b o (k1 b o e)));simp only[List.mem_cons,bJ,or_false,not_or];exact⟨aD hb,by rw[Pz];exact aD (Nat.lt_succ_of_lt hb)⟩
  ·refine List.ext_getElem? λj=>?_
   rw[av];have hsz:=ou.1;have YN:=lJ w S ep es;by_cases hj:j<es.size
   ·have S1:j<jU.size:=by omega
    have Qw:j<(fx w S ep es).size:=by omega
    obtain⟨e,he,hv⟩:=ou.2 j jU[j] (aU S1);have Pp:(fx w S ep es).toList[j]? =some e:=by simpa using he
    rw[Pp];show jU.toList[j]? =some e.2;rw[<-hv];simp[S1]
   ·have e1:jU.toList[j]? =none:=List.getElem?_eq_none (by rw[aN];omega)
    have e2:(fx w S ep es).toList[j]? =none:=List.getElem?_eq_none (by rw[aN];omega)
    rw[e1,e2];rfl
end
end ST
namespace ST
open PySem PySem.Spec PySem.W PyProof.Rows DL SetTable
section
variable {prog:cA}{w:cB}{A:cC}{E:cj}{s:cy}{h₀:Heap}{L:cE}{m:ck}{news:cm}{vs:cw}
theorem sortedS {S:cE}{es:Array (Int×cx)}{ep:Nat}{t:cD}{Q:cj}(F:Fr h₀ L s.heap m) (N:News h₀ L s.heap news) (hh:A.handled=none) (hS:lH w s.heap S es ep t) (OH:vs=(fx w S ep es).toList.map (·.2)) (h2:2<=vs.length) (Ap:vs.length<64)
  (h:∀D e1 h' tk,Fr h₀ L h' m->News h₀ L h' ((D,seqObj "list" #[] e1)::news)->(∀q∈news,q.1<D)->s.heap.objs.size<=D->
   wpAny (model prog w) A.in1.in1 (keyKind' vs.toArray) (λκ s'=>(kas_sort vs.length).kasWp (kas_ask prog w A.in1.in1 κ vs) (λp Ea=>KasFin h₀ L m D e1 (p.toList.map λi=>vs.getD i Value.none) (λs3=>Q (.ref D) s3) Ea) s') (λ_ _=>False) {s with heap:=h',toks:=tk}):
  wpAny (model prog w) A (call (.builtin "sorted") [.ref S]) Q E s:=by
 have hlen:es.size=vs.length:=by rw[OH,ae,aN,lJ]
 refine Calls.call_function_entry kind_sorted plain_sorted entry_sorted (args_sorted1 _) ?_;unfold Builtin.«sorted»;refine aa (m:=checkCount "sorted" 1 1 _) (aj ?_);refine aa (rD hh hS (by omega) λg tk acc keep ou hg=>?_)
 rw[<-OH]at ou;subst ou;refine aa (wpAny_newList ?_ (by rw[bw];omega))
 have Bo:(g.push (seqObj "list" acc.toArray 0)).get? g.objs.size=some (seqObj "list" acc.toArray 0):=ay _ rfl;have iz:∀b o,s.heap.get? b=some o->(g.push (seqObj "list" acc.toArray 0)).get? b=some o:=λb o q=>ag _ (keep b o q)
 have hL:L<s.heap.objs.size:=F.ns.lt;refine aa (bo (bN slot_list_sort ⟨_,Bo,rfl⟩ entry_list_sort ?body (args_list_sort _)))
 case body=>
  refine kat_list_sort (s:={s with heap:=g.push (seqObj "list" acc.toArray 0),toks:=tk}) (F.kept iz) (N.grown iz) Bo (bx (bH hL hg)) (Heap.get?_none_of_le (aB F.above (bg (bH hL hg))))
   (λp hp=>aD (bH (az (N p hp).1) hg)) h2 Ap λe1 h' F' N'=>?_
  refine bQ (h _ e1 h' tk F' N' (λq hq=>bH (az (N q hq).1) hg) (bg hg)) (λκ s' hk=>?_) λ_ _ x=>x
  rw[kat_ask_eq rfl]at hk ⊢;exact kas_wp_mono hk λp Ea AD=>AD.mono λs3 hq=>⟨_,rfl,aj ⟨_,rfl,hq⟩⟩
end
end ST
namespace ST
open PySem PySem.Spec PySem.W PyProof.Rows DL SetTable
def TI (h:Heap) (v:cx) (ns:cp):Prop:=∃(a:cE) (o:Obj) (ts:cw) (n:Nat),v=.ref a/\h.get? a=some o/\o.cls=.type "tuple"/\o.data=.seq ts.toArray n/\IntsAre ts ns
section
variable {prog:cA}{w:cB}{A:cC}{E:cj}{s:cy}
theorem B3:∀(vs:cw) {Q:List (Option cx)->cy->Prop},(∀v∈vs,∃ns,TI s.heap v ns)->(∀fs:List (Option cx),fs.length=vs.length->(∀f∈fs,∀v,f=some v->∃i t,v=Value.int i t)->Q fs s)->wpAny (model prog w) A (vs.mapM firstOfTuple') Q E s
 |[],_,_,h=>by rw[List.mapM_nil];exact aj (h [] rfl λf hf=>by cases hf)
 |v::vs,Q,t,h=>by
  obtain⟨ns,a,o,ts,n,rfl,ho,hc,hd,hi⟩:=t v af;rw[List.mapM_cons];refine aa ?_;rw[kas_first_eq];refine aa (Looks.here (show Looks (model prog w) s.heap (typeOf (.ref a)) o.cls from(Looks.ld ho).andThen .now) ?_)
  rw[hc,if_neg (by first|decide|simp)]
  refine aa (listItems_at ho hd (aj ?_));refine aa (B3 vs (Q:=λbs s'=>wpAny (model prog w) A (pure (ts.toArray[0]? ::bs)) Q E s') (λv hv=>t v (ai _ hv)) λfs hl hf=>aj (h _ (by simp[hl]) λf hm v hv=>?_))
  rcases List.mem_cons.mp hm with rfl|hm
  ·cases hi with
   |nil=>simp at hv
   |cons i t r=>
    simp at hv;exact⟨i,t,hv.symm⟩
  ·exact hf f hm v hv
theorem J8 {vs:cw}{Q:SortKind->cy->Prop}(t:∀v∈vs,∃ns,TI s.heap v ns) (h:∀κ,(κ=tuples' true\/κ=tuples' false)\/κ=general'\/κ=oneType'->Q κ s):wpAny (model prog w) A (keyKind' vs.toArray) Q E s:=by
 rw[kat_kind_eq,List.mapM_toArray,map_eq_pure_bind];refine aa (aa (B3 vs t λfs hl hf=>aj ?_))
 split
 ·refine aa (wpAny_rule ?_);have Vt:∃l:cw,(fs.toArray.filterMap id)=l.toArray/\∀v∈l,∃i t,v=Value.int i t:=by
   refine⟨fs.filterMap id,by simp,λv hv=>?_⟩
   obtain⟨f,hm,he⟩:=List.mem_filterMap.mp hv;exact hf f hm v he
  obtain⟨l,e1,e2⟩:=Vt;rw[e1,oneTypeOnly'_eq,List.mapM_toArray,map_eq_pure_bind];refine aa (aa (aa (kas_mapM (r:=Value.type "int") _ (λv hv Q' hq=>?_) (aj ?_))))
  ·obtain⟨i,t',rfl⟩:=e2 v hv;exact aj hq
  ·have fin:∀b,Q (tuples' b) s:=λb=>by cases b<;>exact h _ (.inl (by first|exact .inl rfl|exact .inr rfl))
   split
   ·exact aj (aj (fin _))
   ·exact aj (aj (fin _))
 ·split
  ·exact aj (h _ (.inr (.inl rfl)))
  ·rw[oneTypeOnly'_eq,List.mapM_toArray,map_eq_pure_bind];refine aa (aa (aa (kas_mapM (r:=Value.type "tuple") _ (λv hv Q' hq=>?_) (aj ?_))))
   ·obtain⟨ns,a,o,ts,n,rfl,ho,hc,hd,hi⟩:=t v hv;have:=Looks.here (M:=model prog w) (A:=A) (E:=E) (show Looks (model prog w) s.heap (typeOf (.ref a)) o.cls from(Looks.ld ho).andThen .now) (Q:=Q')
    rw[hc]at this;exact this hq
   ·split
    ·refine aj (aj ?_);split
     ·exact h _ (.inr (.inr rfl))
     ·exact h _ (.inr (.inl rfl))
    ·exact aj (aj (h _ (.inr (.inl rfl))))
theorem OI {x y:cx}{ns ms:cp}{κ:SortKind}{Q:Bool->cy->Prop}(hx:TI s.heap x ns) (hy:TI s.heap y ms) (hu:A.units+8<cLine) (hκ:(κ=tuples' true\/κ=tuples' false)\/κ=general'\/κ=oneType') (h:Q (HT.lexLt ns ms) s):
  wpAny (model prog w) A (keyLt' κ x y) Q E s:=by
 obtain⟨a,o,ts,n,rfl,ho,hc,hd,hi⟩:=hx;obtain⟨a',o',NS,n',rfl,jJ,lZ,Ju,vK⟩:=hy;have t1:IsTup s.heap a ts.toArray:=⟨o,ho,hc,n,hd⟩;have t2:IsTup s.heap a' NS.toArray:=⟨o',jJ,lZ,n',Ju⟩;rcases hκ with hκ|rfl|rfl
 ·have key:∀b,wpAny (model prog w) A (keyLt' (tuples' b) (.ref a) (.ref a')) Q (λ_ _=>False) s:=λb=>by
   refine W.kat_lt ho hd jJ Ju ?_;have s1:ts.toArray.size=ns.length:=by rw[aq,hi.length]
   have s2:NS.toArray.size=ms.length:=by rw[aq,vK.length]
   refine L2.m6 _ _ ns ms 0 _ (by simpa using hi) (by simpa using vK) (.inr trivial) ?_ h
   rw[s1,s2];by_cases h:ns.length<ms.length
   ·rw[if_pos h];exact aR h
   ·rw[if_neg h];exact aG h
  rcases hκ with rfl|rfl
  ·exact bQ (key true) (λ_ _ x=>x) λ_ _ x=>x.elim
  ·exact bQ (key false) (λ_ _ x=>x) λ_ _ x=>x.elim
 ·show wpAny (model prog w) A (oneLt' false (.ref a) (.ref a')) Q E s;refine kat_one _ _ (HT.sR t1 t2 (by simpa using hi) (by simpa using vK) (by omega) ?_)
  exact h
 ·rw[keyLt'_oneType,oneLt'_eq];simp only[if_true];refine aa (wpAny_cRoomFor (by omega) ?_)
  obtain⟨⟨cls,dd,data,sl⟩,rA,S2,n1,S3⟩:=t1;obtain⟨⟨KN,Hi,data2,EC⟩,rQ,rk,n2,hd2⟩:=t2;simp only at S2 S3 rk hd2;subst S2 S3 rk hd2;refine aa (wpAny_callSpecialIfBound?_slot ⟨_,rA,rfl⟩ PySem.F.slot_tuple_lt ?_);refine call_meets PySem.F.slot_tuple_lt ⟨_,rA,rfl⟩ PySem.F.entry_tuple_lt (PySem.F.args_tuple_lt_2 _ _) (HT.oF a a' ts.toArray NS.toArray n1 n2 dd Hi sl EC ns ms (by simpa using hi) (by simpa using vK)) ⟨rA,rQ,?_⟩
  exact bR h
end
end ST
namespace ST
open PySem PySem.Spec PySem.W PyProof.Rows DL SetTable L2
section
variable {prog:cA}{w:cB}{A:cC}{E:cj}{s:cy}
theorem AS {T:Heap}{a:cE}{vs:cw}{tk:Nat}{Q:cj}(o1:T.get? a=some (seqObj "list" vs.toArray 0)) (h2:vs.length<2)
  (h:∀h' c,h'.get? a=some (seqObj "list" vs.toArray c)->(∀b o,b≠a->T.get? b=some o->h'.get? b=some o)->Q .none {s with heap:=h',toks:=tk}):
  wpAny (model prog w) A (call (.builtin "list.sort") [.ref a]) Q E {s with heap:=T,toks:=tk}:=by
 have ha:a<T.objs.size:=az o1;refine bN slot_list_sort ⟨_,o1,rfl⟩ entry_list_sort ?_ (args_list_sort _);rw[list_sort_plain];refine aa (listItems_at o1 rfl (aa (listUpdate_at o1 rfl ?_ (hsz:=by rw[aq,bw];omega))))
 obtain⟨e1,rA⟩:∃e1,(T.update a (Obj.mapSeq λ_=>#[])).get? a=some (seqObj "list" #[] e1):=⟨_,get?_update_seq o1 (λ_=>#[])⟩
 refine aa (seqEpoch_at rA rfl (aa (wpAny_newTuple (aa (wpAny_newList (bo ?_))) (by show vs.length<=_;rw[bw];omega))))
 have LC:(((T.update a (Obj.mapSeq λ_=>#[])).push (seqObj "tuple" vs.toArray 0)).push (seqObj "list" #[] 0)).get? a=some (seqObj "list" #[] e1):=ag _ (ag _ rA)
 have S4:∀b o,b≠a->T.get? b=some o->(((T.update a (Obj.mapSeq λ_=>#[])).push (seqObj "tuple" vs.toArray 0)).push (seqObj "list" #[] 0)).get? b=some o:=λb o hb e=>ag _ (ag _ ((bz _ _ (Ne.symm hb)).trans e))
 show wpAny (model prog w) _ _ _ _ {s with heap:=((T.update a (Obj.mapSeq λ_=>#[])).push (seqObj "tuple" vs.toArray 0)).push (seqObj "list" #[] 0),toks:=tk}
 generalize ((T.update a (Obj.mapSeq λ_=>#[])).push (seqObj "tuple" vs.toArray 0)).push (seqObj "list" #[] 0)=U at LC S4
 dsimp only;have hsz:vs.toArray.size<2:=by rw[aq];exact h2
 rw[if_pos hsz,if_pos hsz];refine aa (aj ?_);rw[StateT.run_pure];refine aa (aj ?_);dsimp only;have Aq:(vs.toArray.zip vs.toArray).map (·.2)=vs.toArray:=by
  apply Array.toList_inj.mp
  rw[Array.toList_map,Array.toList_zip];exact tH vs
 rw[show(arrOf (SortSt.mk' general' (vs.toArray.zip vs.toArray) #[] 7 none))=vs.toArray.zip vs.toArray from rfl]at *
 refine aa (seqEpoch_at LC rfl (aa (listUpdate_at LC rfl ?_ (hsz2:=by rw[Aq,aq,bw];omega))))
 rw[Aq];simp only[bne_self_eq_false,aH,bE];obtain⟨c,hc⟩:∃c,(U.update a (Obj.mapSeq λ_=>vs.toArray)).get? a=some (seqObj "list" vs.toArray c):=⟨_,get?_update_seq LC (λ_=>vs.toArray)⟩
 exact aj ⟨_,rfl,h _ c hc λb o hb e=>(bz _ _ (Ne.symm hb)).trans (S4 b o hb e)⟩
theorem u9 {S:cE}{es:Array (Int×cx)}{ep:Nat}{t:cD}{vs:cw}{Q:cj}(hh:A.handled=none) (hS:lH w s.heap S es ep t) (OH:vs=(fx w S ep es).toList.map (·.2)) (h2:vs.length<2)
  (h:∀D h' c tk,h'.get? D=some (seqObj "list" vs.toArray c)->s.heap.objs.size<=D->(∀b o,s.heap.get? b=some o->h'.get? b=some o)->Q (.ref D) {s with heap:=h',toks:=tk}):
  wpAny (model prog w) A (call (.builtin "sorted") [.ref S]) Q E s:=by
 have hlen:es.size=vs.length:=by rw[OH,ae,aN,lJ]
 refine Calls.call_function_entry kind_sorted plain_sorted entry_sorted (args_sorted1 _) ?_;unfold Builtin.«sorted»;refine aa (m:=checkCount "sorted" 1 1 _) (aj ?_);refine aa (rD hh hS (by omega) λg tk acc keep ou hg=>?_)
 rw[<-OH]at ou;subst ou;refine aa (wpAny_newList ?_ (by rw[bw];omega))
 have Bo:(g.push (seqObj "list" acc.toArray 0)).get? g.objs.size=some (seqObj "list" acc.toArray 0):=ay _ rfl;refine aa (bo (AS (s:=s) (T:=g.push (seqObj "list" acc.toArray 0)) (tk:=tk) Bo h2 λh' c hD kp=>?_))
 refine aj ⟨_,rfl,h _ h' c tk hD (bg hg) λb o e=>kp b o ?_ (ag _ (keep b o e))⟩
 exact aD (bH (az e) hg)
end
end ST
namespace ST
open PySem PySem.Spec PySem.W PyProof.Rows DL SetTable L2
theorem yw {α β:Type}{R:α->cx->β->Prop}:∀(vs:cw),(∀v∈vs,∃a b,R a v b)->∃l:List (α×cx×β),vs=l.map (·.2.1)/\∀p∈l,R p.1 p.2.1 p.2.2
 |[],_=>⟨[],rfl,λp hp=>by cases hp⟩
 |v::vs,h=>by
  obtain⟨a,b,r⟩:=h v af;obtain⟨l,e,hl⟩:=yw vs λx hx=>h x (ai _ hx)
  refine⟨(a,v,b)::l,by rw[e];rfl,λp hp=>?_⟩
  rcases List.mem_cons.mp hp with rfl|hp
  ·exact r
  ·exact hl p hp
theorem yx {h:Heap}:∀{ts:cw}{ns:cp},IntsAre ts ns->o4 h ts (ns.map D.int)
 |_,_,.nil=>.nil
 |_,_,.cons n t r=>.cons (.int n t) (yx r)
theorem TI.ki {h:Heap}{v:cx}{ns:cp}(t:TI h v ns):KI h v (.tup (ns.map D.int)):=by
 obtain⟨a,o,ts,n,rfl,ho,hc,hd,hi⟩:=t;exact .tup ho hc hd (by simpa using yx hi)
noncomputable instance:Nonempty D:=⟨.fO⟩
noncomputable def keyOf (h:Heap) (v:cx):D:=Classical.epsilon (KI h v)
theorem yy {h:Heap}{v:cx}{d:D}(k:KI h v d):keyOf h v=d:=(Classical.epsilon_spec (p:=KI h v) ⟨d,k⟩).inj k
theorem AJ.keys {P:cx->Prop}{h:Heap}{es:List (Int×cx)}{ds:cv}(e:AJ P h es ds):ds=es.map λx=>keyOf h x.2:=by
 refine List.ext_getElem? λi=>?_
 rw[av];cases hx:es[i]? with
 |none=>
  have:es.length<=i:=List.getElem?_eq_none_iff.mp hx;rw[List.getElem?_eq_none (by rw[<-e.1];exact this)];rfl
 |some x=>
  obtain⟨d,h1,h2⟩:=e.2 i x hx;rw[h1];exact congrArg some (yy h2.ki).symm
section
variable {X:Cx}
theorem DF {P:cx->Prop}{R0:cE->cp->Prop}{pins:cm}{σ:L2.St}{H:Hp}{s:cy}(I:Inv X pins σ H s) {S:cE}{ds:cv}{es:Array (Int×cx)}{ep:Nat}(hE:AJ P s.heap es.toList ds)
  (Q8:∀v,P v->∃(b:cE) (ns:cp),v=.ref b/\hO X.K H b (ns.map V.int)/\R0 b ns):
  ∃l:List (cE×cp),(fx X.w S ep es).toList.map (·.2)=l.map (λp=>Value.ref p.1)/\(∀p∈l,(hO X.K H p.1 (p.2.map V.int)/\R0 p.1 p.2)/\TI s.heap (.ref p.1) p.2)/\(l.map λp=>D.tup (p.2.map D.int)).Perm ds:=by
 have t7:(fx X.w S ep es).toList.Perm es.toList:=by
  unfold fx;split
  ·exact vT _ es
  ·exact List.Perm.refl _
 obtain⟨l,e1,e2⟩:=yw (R:=λ(b:cE) v (ns:cp)=>v=.ref b/\(hO X.K H b (ns.map V.int)/\R0 b ns)/\TI s.heap v ns) ((fx X.w S ep es).toList.map (·.2)) λv hv=>by
  obtain⟨e,he,rfl⟩:=List.mem_map.mp hv;obtain⟨i,hi⟩:=bp (t7.mem_iff.mp he);obtain⟨d,_,h2⟩:=hE.2 i e hi;obtain⟨b,ns,h3,h4,Vu⟩:=Q8 _ h2.src;obtain⟨ts,r2,⟨o,ho,hc,n,hd⟩,_⟩:=I.tuple h4;exact⟨b,ns,h3,⟨h4,Vu⟩,b,o,ts,n,h3,ho,hc,hd,intsAre_of r2⟩
 refine⟨l.map λp=>(p.1,p.2.2),?_,λp hp=>?_,?_⟩
 ·rw[e1,aV];exact bT λp hp=>(e2 p hp).1
 ·obtain⟨q,hq,rfl⟩:=List.mem_map.mp hp;obtain⟨a1,a2,a3⟩:=e2 q hq;exact⟨a2,by rw[<-a1];exact a3⟩
 ·have h5:(((fx X.w S ep es).toList.map (·.2)).map (keyOf s.heap)).Perm ds:=by
   rw[aV,hE.keys];exact t7.map _
  rw[e1,aV]at h5;rw[aV];have h6:(l.map ((keyOf s.heap)∘λp=>p.2.1))=l.map ((λp:cE×cp=>D.tup (p.2.map D.int))∘λp=>(p.1,p.2.2)):=bT λp hp=>yy (e2 p hp).2.2.ki
  rw[<-h6];exact h5
theorem AU {P:cx->Prop}{R0:cE->cp->Prop}{pins:cm}{σ:L2.St}{H:Hp}{s:cy}(hc:X.calm=true) (hu:X.A.units+64<cLine) (I:Inv X pins σ H s) {S:cE}{ds:cv}(ma:rU P (!X.w.params.followText "set-order") s.heap S ds) (hn:ds.length<64)
  (Q8:∀v,P v->∃(b:cE) (ns:cp),v=.ref b/\hO X.K H b (ns.map V.int)/\R0 b ns) {Q:VK}
  (q:∀(D0:cE) (l:List (cE×cp)),H D0=none->(∀p∈l,R0 p.1 p.2)->(l.map (·.2)).Pairwise (λa b=>HT.lexLt b a=false)->(l.map λp=>D.tup (p.2.map D.int)).Perm ds->Q (.ref D0) (upd H D0 (.lst (l.map λp=>V.ref p.1)))):
  wpAny (model X.prog X.w) X.A (call (.builtin "sorted") [.ref S]) (EP X pins σ Q) X.xe s:=by
 obtain⟨o,es,ep,t,ho,hex,hd,W,hE,_,i9,Ou⟩:=ma.ex;have S5:lH X.w s.heap S es ep t:=⟨⟨o,ho,hex,hd⟩,W.fits,W.tb.rise,i9,Ou⟩;obtain⟨l,e1,e2,e3⟩:=DF (S:=S) (ep:=ep) I hE Q8;have hlen:l.length=ds.length:=by have:=e3.length_eq;rwa [ae]at this
 have hh:X.A.handled=none:=I.ok.hd hc;by_cases h2:2<=l.length
 ·obtain⟨m,F⟩:=I.fr;have N:News X.base X.env.locals s.heap (iQ X.base s.heap X.env.locals):=sI;have Q9:(l.map λp=>Value.ref p.1).length=l.length:=by rw[ae]
  refine sortedS (vs:=l.map λp=>Value.ref p.1) F N hh S5 e1.symm (by omega) (by omega) λD0 e0 h' tk F' N' eP uO=>?_
  have zZ:s.heap.get? D0=none:=Heap.get?_none_of_le uO;have rB:∀{h':Heap}{o1:Obj},Fr X.base X.env.locals h' m->News X.base X.env.locals h' ((D0,o1)::iQ X.base s.heap X.env.locals)->∀b o,b≠X.env.locals->s.heap.get? b=some o->h'.get? b=some o:=λ{h' o1} F' N' b o hb e=>by
   cases g:X.base.get? b with
   |some u=>
    have:=I.bk b u g;rw[e]at this;cases this;exact F'.keep b _ g
   |none=>exact(N' (b,o) (.tail _ (kP hb g e))).1
  have oJ:=rB F' N';have L7:∀p∈l,TI h' (.ref p.1) p.2:=λp hp=>by
   obtain⟨a,o,ts,n,ea,ho,hc,hd,hi⟩:=(e2 p hp).2;cases ea;refine⟨_,o,ts,n,rfl,oJ _ o (λz=>?_) ho,hc,hd,hi⟩
   obtain⟨oL,es,ep,hL,NQ,_⟩:=F.ns;rw[z,hL]at ho;cases ho;rw[NQ]at hd;cases hd
  refine J8 (s:={s with heap:=h',toks:=tk}) (λv hv=>?_) λκ hκ=>?_
  ·obtain⟨p,hp,rfl⟩:=List.mem_map.mp hv;exact⟨p.2,L7 p hp⟩
  rw[Q9];have js:∀i,i<l.length->(l.map λp=>Value.ref p.1).getD i Value.none=.ref (l.getD i (0,[])).1/\l.getD i (0,[])∈l:=λi hi=>by
   rw[ak,av,ak,ah hi];exact⟨rfl,List.getElem_mem hi⟩
  have cmp:∀i j (R:Bool->cy->Prop),i<l.length->j<l.length->R (HT.lexLt ((l.map (·.2)).getD i []) ((l.map (·.2)).getD j [])) {s with heap:=h',toks:=tk}->kas_ask X.prog X.w X.A.in1.in1 κ (l.map λp=>Value.ref p.1) i j R {s with heap:=h',toks:=tk}:=λi j R hi hj hR=>by
   show wpAny _ _ (keyLt' _ ((l.map λp=>Value.ref p.1).getD i Value.none) ((l.map λp=>Value.ref p.1).getD j Value.none)) _ _ _
   rw[(js i hi).1,(js j hj).1];have g:∀k,k<l.length->(l.map (·.2)).getD k []=(l.getD k (0,[])).2:=λk hk=>by
    rw[ak,av,ak,ah hk];rfl
   rw[g i hi,g j hj]at hR;exact OI (L7 _ (js i hi).2) (L7 _ (js j hj).2) (by show X.A.units+1+1+8<cLine;omega) hκ hR
  refine So.nT (n:=l.length) cmp _ (So.tG (by omega)) ?_
  obtain⟨s1,s2⟩:=So.tj (lt:=λi j=>HT.lexLt ((l.map (·.2)).getD i []) ((l.map (·.2)).getD j [])) (rank:=λi=>nU (l.map (·.2)) ((l.map (·.2)).getD i [])) (λi j=>jf (jL _ _) (jL _ _)) l.length (by omega)
  generalize So.gN _ (kas_sort l.length)=ar at s1 s2;have pm:ar.toList.Perm (List.range l.length):=by simpa using Array.perm_iff_toList_perm.mp s1
  have sz:ar.size=l.length:=by simpa using s1.size_eq
  have below:∀i∈ar.toList,i<l.length:=λi hi=>by simpa using pm.mem_iff.mp hi
  generalize gF:(ar.toList.map λi=>l.getD i (0,[]))=l'
  have lp:l'.Perm l:=by
   rw[<-gF];have:=pm.map λi=>l.getD i (0,[])
   have e:(List.range l.length).map (λi=>l.getD i (0,[]))=l:=kc l (0,[])
   rw[e]at this;exact this
  have outs:(ar.toList.map λi=>(l.map λp=>Value.ref p.1).getD i Value.none)=l'.map λp=>Value.ref p.1:=by
   rw[<-gF,aV];exact bT λi hi=>(js i (below i hi)).1
  rw[outs];refine⟨_,_,F',N',.head λp hp=>aD (eP p hp),λh2 c F2 N2=>?_⟩
  have hD:H D0=none:=I.fC.fresh uO;have iz:=rB F2 N2;have NT:h2.get? D0=some {cls:=.type "list",data:=.seq (l'.map λp=>Value.ref p.1).toArray c}:=(N2 _ (.head _)).1
  refine⟨.ref D0,upd H D0 (.lst (l'.map λp=>V.ref p.1)),?_,rfl,q D0 l' hD (λp hp=>(e2 p (lp.mem_iff.mp hp)).1.2) ?_ ((lp.map _).trans e3)⟩
  ·show Inv X pins σ _ {s with heap:=h2,gens:=s.gens,drawn:=s.drawn,toks:=tk}
   refine I.step (g':=s.gens) (d':=s.drawn) (t':=tk) (ch:=[]) (λ_ z=>nomatch z) (λb o h1 _ _ e _=>iz b o h1 e) (λb o h1 _ _ e _=>⟨o.slots,iz b o h1 e⟩) (λb o _ e hn=>?_) (λb o _ e=>?_) (λb xs e=>?_) (λb o xs e=>?_) (λb ps e=>⟨#[],?_⟩) (λm' hm=>?_) (λb u e=>?_) I.bare
   ·rw[cK (λz=>by rw[z,zZ]at e;cases e)];exact hn
   ·by_cases hb:b=X.env.locals
    ·obtain⟨o',_,_,e',_⟩:=F2.ns;exact⟨o',by rw[hb];exact e'⟩
    ·exact⟨o,iz b o hb e⟩
   ·rw[cK (cP e hD)];exact e
   ·rw[cK (cP e hD)];exact e
   ·rw[cK (cP e hD),e];simp
   ·rw[Ao hm F.ns];exact F2.ns
   ·by_cases hb:b=D0
    ·subst hb;rw[cR]at e;cases e;refine⟨by rw[ae,lp.length_eq];exact bg (je (by omega)),_,c,?_,NT⟩
     have aux:∀k:List (cE×cp),Vals (k.map λp=>V.ref p.1) (k.map λp=>Value.ref p.1):=λk=>by
      induction k with
      |nil=>exact .nil
      |cons p k ih=>exact .cons rfl ih
     exact aux l'
    ·rw[cK hb]at e;refine(I.fC b u e).wq (λk v hk z=>iz k v ?_ z) (λk z=>by rw[cK (cP z hD)];exact z) λk xs z=>by rw[cK (cP z hD)];exact z
     rcases hk with rfl|hk
     ·intro z;rw[z,I.free]at e;cases e
     ·intro z;rw[z,I.free]at hk;cases hk
  ·rw[<-gF,aV,List.pairwise_map,List.pairwise_iff_getElem];intro i j hi hj sU;have vK:i<ar.size:=by simpa using hi
   have Ee:j<ar.size:=by simpa using hj
   have le:=s2 i j (bg sU) (by omega)
   unfold So.kk at le;rw[aT,aT,aU vK,aU Ee]at le;simp only[Option.getD_some]at le;have g:∀k,k<l.length->(l.map (·.2)).getD k []=(l.getD k (0,[])).2:=λk hk=>by
    rw[ak,av,ak,ah hk];rfl
   have bi:ar[i]<l.length:=below _ (by simp)
   have bj:ar[j]<l.length:=below _ (by simp)
   have e:=jf (nss:=l.map (·.2)) (a:=(l.map (·.2)).getD (ar[j]) []) (b:=(l.map (·.2)).getD (ar[i]) []) (jL _ _) (jL _ _)
   simp only[Array.getElem_toList,Function.comp_apply];rw[<-g _ bi,<-g _ bj,e];exact aG (by omega)
 ·refine u9 (vs:=l.map λp=>Value.ref p.1) hh S5 e1.symm (by rw[ae];omega) λD0 h' c tk hD uO keep=>?_
  have HY:H D0=none:=I.fC.fresh uO;refine⟨.ref D0,_,I.laid (t':=tk) (o:=.lst (l.map λp=>V.ref p.1)) keep uO ⟨by rw[ae];exact aB (by omega:l.length<=100) (by decide),_,c,?_,hD⟩,rfl,q D0 l HY (λp hp=>(e2 p hp).1.2) ?_ e3⟩
  ·clear e1 e2 e3 hlen h2 hD;induction l with
   |nil=>exact .nil
   |cons p l ih=>exact .cons rfl ih
  ·match l,h2 with
   |[],_=>exact List.Pairwise.nil
   |[p],_=>simp
   |_::_::_,h2=>exact absurd (by simp) h2
end
end ST
namespace L2
open PySem PySem.Spec PyProof.Rows
section
variable {κ:Type} [DecidableEq κ]
noncomputable def oA (kvs:List (κ×V)) (k:κ):Option V:=(kvs.find? λkv=>decide (kv.1=k)).map (·.2)
noncomputable def putK (kvs:List (κ×V)) (k:κ) (v:V):List (κ×V):=
 if(kvs.any λkv=>decide (kv.1=k))=true then kvs.map (λkv=>if kv.1=k then(kv.1,v)else kv)else kvs++[(k,v)]
theorem nq {p:κ×V}{r:List (κ×V)}{k:κ}(e:p.1=k):oA (p::r) k=some p.2:=by simp[oA,List.find?_cons,e]
theorem nr {p:κ×V}{r:List (κ×V)}{k:κ}(e:¬ p.1=k):oA (p::r) k=oA r k:=by simp[oA,List.find?_cons,e]
theorem yz (k:κ):∀kvs:List (κ×V),(kvs.any λkv=>decide (kv.1=k))=(oA kvs k).isSome
 |[]=>rfl
 |p::r=>by
  rw[bG];by_cases e:p.1=k
  ·simp only[nq e,aR e,Bool.true_or,Option.isSome_some]
  ·rw[nr e,aG e,Bool.false_or];exact yz k r
theorem rE (kvs:List (κ×V)) (k:κ) (v:V):(putK kvs k v).length<=kvs.length+1:=by
 unfold putK;split
 ·rw[ae];omega
 ·rw[aQ,ax,List.length_nil];omega
theorem mT.DG {o:Option V}{u:Option cx}(r:mT o u):o.isSome=u.isSome:=by
 cases o with
 |none=>cases u with
  |none=>rfl
  |some _=>exact(show False from r).elim
 |some _=>cases u with
  |none=>exact(show False from r).elim
  |some _=>rfl
theorem mT.getD {o:Option V}{u:Option cx}{d:V}{d':cx}(r:mT o u) (rd:RelV d d'):RelV (o.getD d) (u.getD d'):=by
 cases o with
 |none=>cases u with
  |none=>exact rd
  |some _=>exact(show False from r).elim
 |some _=>cases u with
  |none=>exact(show False from r).elim
  |some _=>exact r
theorem KV.val {kvs:List (κ×V)}{vs:List (κ×cx)}(r:KV kvs vs) (k:κ):mT (oA kvs k) (valueAt vs k):=by
 unfold KV at r;induction r with
 |nil=>exact True.intro
 |@cons p q ps qs h t ih=>
  obtain⟨h1,h2⟩:=h;by_cases e:p.1=k
  ·have e':q.1=k:=h1.symm.trans e;have b:valueAt (q::qs) k=some q.2:=by simp[valueAt,List.find?_cons,e']
   rw[nq e,b];exact h2
  ·have e':¬ q.1=k:=λz=>e (h1.trans z)
   have b:valueAt (q::qs) k=valueAt qs k:=by simp[valueAt,List.find?_cons,e']
   rw[nr e,b];exact ih
theorem KV.any {kvs:List (κ×V)}{vs:List (κ×cx)}(r:KV kvs vs) (k:κ):(kvs.any λkv=>decide (kv.1=k))=vs.any λkv=>decide (kv.1=k):=by
 unfold KV at r;induction r with
 |nil=>rfl
 |cons h t ih=>rw[bG,bG,ih,h.1]
theorem KV.L8 {kvs:List (κ×V)}{vs:List (κ×cx)}(r:KV kvs vs) (k:κ) {y:V}{u:cx}(ry:RelV y u):
  KV (kvs.map λkv=>if kv.1=k then(kv.1,y)else kv) (vs.map λkv=>if kv.1=k then(kv.1,u)else kv):=by
 unfold KV at r ⊢;induction r with
 |nil=>exact .nil
 |@cons p q ps qs h t ih=>
  rw[aE,aE];refine .cons ?_ ih;obtain⟨h1,h2⟩:=h;by_cases e:p.1=k
  ·rw[if_pos e,if_pos (h1.symm.trans e)];exact⟨h1,ry⟩
  ·rw[if_neg e,if_neg (λz=>e (h1.trans z))];exact⟨h1,h2⟩
theorem KV.put {kvs:List (κ×V)}{vs:List (κ×cx)}(r:KV kvs vs) (k:κ) {y:V}{u:cx}(ry:RelV y u):KV (putK kvs k y) (stored vs k u):=by
 unfold putK stored;rw[r.any k];by_cases e:(vs.any λkv=>decide (kv.1=k))=true
 ·rw[if_pos e,if_pos e];exact r.L8 k ry
 ·rw[if_neg e,if_neg e];exact Paired.snoc r ⟨rfl,ry⟩
theorem KV.keys {kvs:List (κ×V)}{vs:List (κ×cx)}(r:KV kvs vs):kvs.map (·.1)=vs.map (·.1):=by
 unfold KV at r;induction r with
 |nil=>rfl
 |cons h t ih=>rw[aE,aE,ih,h.1]
theorem KV.length {kvs:List (κ×V)}{vs:List (κ×cx)}(r:KV kvs vs):kvs.length=vs.length:=Paired.length r
end
theorem B4 {P:cA}{w:cB}{k:Key}{u:cx}(r:RelV (kV k) u):(eG P w).is k u=true:=by
 cases k with
 |inl i=>obtain⟨t,e⟩:=(show ∃t,u=Value.int i t from r);subst e;exact xR P w i t
 |inr x=>obtain⟨t,e⟩:=(show ∃t,u=Value.str x t from r);subst e;exact xS P w x t
theorem vU {P:cA}{w:cB}:∀{ks:List Key}{us:cw},Vals (ks.map kV) us->ItemsAre (eG P w) ks us
 |[],_,r=>by rw[List.map_nil]at r;cases r;exact .nil
 |k::ks,_,r=>by
  rw[aE]at r;cases r with
  |cons h t=>exact .cons (B4 h) (vU t)
noncomputable abbrev KT (H:Hp):List (List Key×V)->List (List Key×cE×cx)->Prop:=Paired λp q=>p.1=q.1/\H q.2.1=some (.tup (p.1.map kV))/\RelV p.2 q.2.2
theorem KT.val {H:Hp}{kvs:List (List Key×V)}{xs:List (List Key×cE×cx)}(r:KT H kvs xs) (k:List Key):mT (oA kvs k) ((atKey xs k).map (·.2)):=by
 induction r with
 |nil=>exact True.intro
 |@cons p q ps qs h t ih=>
  obtain⟨h1,_,h2⟩:=h;by_cases e:p.1=k
  ·have e':q.1=k:=h1.symm.trans e;have b:atKey (q::qs) k=some q.2:=by simp[atKey,List.find?_cons,e']
   rw[nq e,b];exact h2
  ·have e':¬ q.1=k:=λz=>e (h1.trans z)
   have b:atKey (q::qs) k=atKey qs k:=by simp[atKey,List.find?_cons,e']
   rw[nr e,b];exact ih
theorem KT.L8 {H:Hp}{kvs:List (List Key×V)}{xs:List (List Key×cE×cx)}(r:KT H kvs xs) (k:List Key) {y:V}{u:cx}(ry:RelV y u):
  KT H (kvs.map λkv=>if kv.1=k then(kv.1,y)else kv) (xs.map (putAt k u)):=by
 induction r with
 |nil=>exact .nil
 |@cons p q ps qs h t ih=>
  rw[aE,aE];refine .cons ?_ ih;obtain⟨h1,h2,h3⟩:=h;unfold putAt;by_cases e:p.1=k
  ·rw[if_pos e,if_pos (h1.symm.trans e)];exact⟨h1,h2,ry⟩
  ·rw[if_neg e,if_neg (λz=>e (h1.trans z))];exact⟨h1,h2,h3⟩
theorem KT.put {H:Hp}{kvs:List (List Key×V)}{xs:List (List Key×cE×cx)}(r:KT H kvs xs) (k:List Key) {b:cE}{y:V}{u:cx}(hb:H b=some (.tup (k.map kV))) (ry:RelV y u):
  KT H (putK kvs k y) (storedH xs k b u):=by
 have e:(kvs.any λkv=>decide (kv.1=k))=(atKey xs k).isSome:=by
  rw[yz,(r.val k).DG,Option.isSome_map]
 unfold putK storedH;rw[e];by_cases q:(atKey xs k).isSome=true
 ·rw[if_pos q,if_pos q];exact r.L8 k ry
 ·rw[if_neg q,if_neg q];exact Paired.snoc r ⟨rfl,hb,ry⟩
theorem KT.keeps {H H':Hp}{kvs:List (List Key×V)}{xs:List (List Key×cE×cx)}(r:KT H kvs xs) (ht:∀b ys,H b=some (.tup ys)->H' b=some (.tup ys)):KT H' kvs xs:=
 Paired.Kj r λ_ _ z=>⟨z.1,ht _ _ z.2.1,z.2.2⟩
section
variable {P:cA}{w:cB}{H:Hp}{h:Heap}{a:cE}
theorem J9 {u:HO}(ok:oC P w H h) (e:Rd H a u):gA P w H h a u:=e.ok ok
theorem FX {kvs:List (Key×V)}(ok:oC P w H h) (e:Rd H a (.dK kvs)):kvs.length<=sizeLine/\(a==sysModules)=false/\∃vs,KV kvs vs/\h.DictOf (eG P w) a vs:=
 show gA P w H h a (.dK kvs)from J9 ok e
theorem Ka {kvs:List (Key×V)}(ok:oC P w H h) (e:H a=some (.dK kvs)):kvs.length<=sizeLine/\(a==sysModules)=false/\∃vs,KV kvs vs/\h.DictOf (eG P w) a vs:=FX ok (.inl e)
theorem AV {ks:List Key}(ok:oC P w H h) (e:H a=some (.tup (ks.map kV))):(tupleKind (eG P w)).is h ks a:=by
 obtain⟨_,di,r,o,h1,h2,n,h3⟩:=(show gA P w H h a (.tup (ks.map kV))from ok a _ e)
 exact⟨o,di.toArray,n,h1,h2,h3,by simpa using vU r⟩
theorem FY {kvs:List (List Key×V)}(ok:oC P w H h) (e:Rd H a (.dT kvs)):kvs.length<=sizeLine/\(a==sysModules)=false/\
  ∃xs,KT H kvs xs/\h.DictOfH (tupleKind (eG P w)) a xs:=by
 obtain⟨z,y,xs,r,o,es,ep,h1,h2,h3,h4,h5⟩:=(show gA P w H h a (.dT kvs)from J9 ok e)
 refine⟨z,y,xs,r,o,es,ep,h1,h2,h3,h4,λx hx=>?_,h5⟩
 have all:∀{l:List (List Key×V)}{m:List (List Key×cE×cx)},KT H l m->∀x∈m,(tupleKind (eG P w)).is h x.1 x.2.1:=by
  intro l m q;induction q with
  |nil=>intro x hx;exact nomatch hx
  |@cons p q ps qs hq t ih=>
   intro x hx;rcases List.mem_cons.mp hx with e|hx
   ·subst e;exact AV ok (by rw[<-hq.1];exact hq.2.1)
   ·exact ih x hx
 exact all r x hx
theorem OJ {kvs:List (List Key×V)}(ok:oC P w H h) (e:H a=some (.dT kvs)):kvs.length<=sizeLine/\(a==sysModules)=false/\
  ∃xs,KT H kvs xs/\h.DictOfH (tupleKind (eG P w)) a xs:=FY ok (.inl e)
end
def FZ (H:Hp) (a:cE) (y:V) (r:Option V):Prop:=
 (∃kvs k,Rd H a (.dK kvs)/\y=kV k/\r=oA kvs k)\/∃kvs k b,Rd H a (.dT kvs)/\y=.ref b/\H b=some (.tup (k.map kV))/\r=oA kvs k
def Ga (H:Hp) (a:cE) (y v:V) (H':Hp):Prop:=
 (∃kvs k,H a=some (.dK kvs)/\y=kV k/\kvs.length<sizeLine/\H'=upd H a (.dK (putK kvs k v)))\/
 ∃kvs k b,H a=some (.dT kvs)/\y=.ref b/\H b=some (.tup (k.map kV))/\kvs.length<sizeLine/\H'=upd H a (.dT (putK kvs k v))
theorem FZ.k {H:Hp}{a:cE}{kvs:List (Key×V)}{k:Key}(e:H a=some (.dK kvs)):FZ H a (kV k) (oA kvs k):=.inl ⟨kvs,k,.inl e,rfl,rfl⟩
theorem Ga.k {H:Hp}{a:cE}{kvs:List (Key×V)}{k:Key}{v:V}(e:H a=some (.dK kvs)) (hl:kvs.length<sizeLine):Ga H a (kV k) v (upd H a (.dK (putK kvs k v))):=.inl ⟨kvs,k,e,rfl,hl,rfl⟩
section
variable {X:Cx}{pins:cm}{σ:St}{H:Hp}{s:cy}{a:cE}{y v:V}{u r:cx}{o:Option V}{A:cC}{E:cj}
theorem Inv.big (I:Inv X pins σ H s):sysModules<s.heap.objs.size:=by
 have h:mainGlobals<s.heap.objs.size:=(I.mod.glob.keeps I.bk).lt;exact bH (by decide) h
theorem B5 {h':Heap}{t':Nat}{ob:HO}(I:Inv X pins σ H s) (mu:ME (H a)) (hs:Heap.SameBut a s.heap h') (he:∃q,h'.get? a=some q) (new:gA X.prog X.w (upd H a ob) h' a ob):
  Inv X pins σ (upd H a ob) {s with heap:=h',toks:=t'}:=
 I.write (x:=a) (e:=a) mu (.inl rfl) (λb q hb z=>(hs.2 b hb).trans z) he new
theorem L9 {P:cA}{w:cB}{H':Hp}{h':Heap}{kvs:List (Key×V)}{vs:List (Key×cx)}(z:kvs.length<=sizeLine) (hd:(a==sysModules)=false) (rel:KV kvs vs) (dd:h'.DictOf (eG P w) a vs):
  gA P w H' h' a (.dK kvs):=⟨z,hd,vs,rel,dd⟩
theorem DH {H':Hp}{Q:Unit->cy->Prop}(hu:A.units+1<cLine) (I:Inv X pins σ H s) (g:Ga H a y v H') (ry:RelV y u) (rv:RelV v r) (h:∀s',Inv X pins σ H' s'->Q () s'):
  wpAny (model X.prog X.w) A (setItem (.ref a) u r) Q E s:=by
 rcases g with⟨kvs,k,e,ey,l,eH⟩|⟨kvs,k,b,e,ey,eb,l,eH⟩
 ·subst ey eH;obtain⟨z,hd,vs,rel,dd⟩:=Ka I.fC e;have hz:vs.length<=sizeLine:=by rw[<-rel.length];exact z
  have hl:(putK kvs k v).length<=sizeLine:=by have:=rE kvs k v;omega
  refine wpAny_setItem_pairs (hsz:=hz) (B4 ry) dd λh' PJ hs=>h _ ?_
  have he:∃q,h'.get? a=some q:=let ⟨q,_,_,hq,_⟩:=PJ;⟨q,hq⟩;exact B5 I (by rw[e];exact True.intro) hs he (L9 hl hd (rel.put k rv) PJ)
 ·subst ey eH;cases (show u=Value.ref b from ry)
  obtain⟨z,hd,xs,rel,dd⟩:=OJ I.fC e;have hz:xs.length<=sizeLine:=by rw[<-Paired.length rel];exact z
  have hl:(putK kvs k v).length<=sizeLine:=by have:=rE kvs k v;omega
  refine wpAny_setItem_heap (hsz:=hz) (tupleKind_room_in1 hu) (AV I.fC eb) dd λh' PJ hs=>h _ ?_
  obtain⟨q,es,ep,hq,h2,h3,h4,_,h5⟩:=PJ;refine B5 I (by rw[e];exact True.intro) hs ⟨q,hq⟩ ⟨hl,hd,_,(rel.put k eb rv).keeps λc ys ec=>?_,q,es,ep,hq,h2,h3,h4,h5⟩
  rw[cK (MD ec e (λz=>nomatch z))]
  exact ec
end
section
variable {X:Cx}{pins:cm}{σ:St}{H:Hp}{s:cy}{a:cE}{kvs:List (Key×V)}{k:Key}{u:cx}{A:cC}{E:cj}
end
def Ra (i:cF):Prop:=∀ov iv,subscripted i false ov iv=operate [ov,iv] (getItem ov iv)
theorem Ja {prog:cA}{w:cB}{A:cC}{E:cj}{s:cy}{env:Env}{value slice:cF}{pos:Pos}{T id:String}{Q:cj}
  (hl:typeLookup (.type T) "__getitem__"=pure (some (.builtin id))) (hs:Ra slice)
  (h:wpAny (model prog w) A (eval value env) (λo s₁=>wpAny (model prog w) A (eval slice env) (λi s₂=>s₂.TypeIs o T/\wpAny (model prog w) A (getItem o i) Q E s₂) E s₁) E s):
  wpAny (model prog w) A (eval (.Subscript value slice pos) env) Q E s:=by
 refine Subscript_ (bQ h (λo s₁ h₁=>bQ h₁ (λi s₂ h₂=>?_) λ_ _ x=>x) λ_ _ x=>x)
 obtain⟨hT,h₂⟩:=h₂;unfold subscriptTail;refine aa ?_;rw[getitemInPython_of_ne hT.not_modules];refine aa (wpAny_specialOf hT hl ?_);have fin:wpAny (model prog w) A (subscripted slice false o i) (λr s₃=>wpAny (model prog w) A (letTemporaryGo value o r>>=λ_=>pure r) Q E s₃) E s₂:=by
  rw[hs o i];exact wpAny_operating (bQ h₂ (λr s₃ h₃=>aa (wpAny_letTemporaryGo (aj h₃))) λ_ _ x=>x)
 first
  |exact aj (aa fin)
  |exact aa (aj (aa fin))
  |exact aa fin
noncomputable def OK (td ty tv:TE):TS:=λD σ H=>tv σ H λv H1=>td σ H1 λx H2=>ty σ H2 λy H3=>∃a H4,x=.ref a/\Ga H3 a y v H4/\D.nx σ H4
section
variable {X:Cx}{o i e value:cF}{pos pos' wy:Pos}{td ty tv:TE}
theorem Jb (hu:X.A.units+1<cLine) (ho:PE X o td) (hi:PE X i ty) (hv:PE X value tv) (hs:swapsWith value (some (.Subscript o i pos')) pos.line X.env=pure false):
  PS X (.Assign [.Subscript o i pos'] value pos) (OK td ty tv):=by
 intro pins s σ H D I h;refine wpAny_Assign_Subscript (gM (hv pins s σ H _ I h) λr s1 ⟨v,H1,I1,rv,q1⟩=>gM (ho pins s1 σ H1 _ I1 q1) λu s2 ⟨x,H2,I2,rx,q2⟩=>gM (hi pins s2 σ H2 _ I2 q2) λiv s3 ⟨y,H3,I3,ry,a,H4,ex,g,q3⟩=>?_) hs
 subst ex;obtain rfl:u=Value.ref a:=rx;exact DH hu I3 g ry rv λs4 I4=>⟨σ,H4,I4,q3⟩
end
theorem Gb {P:cA}{w:cB}{H:Hp}(h:Heap) (hb:sysModules<h.objs.size):gA P w H (h.push {cls:=.type "dict",data:=.dict #[]}) h.objs.size (.dK []):=
 ⟨bM _,beq_eq_false_iff_ne.mpr (Ne.symm (aD hb)),[],.nil,Heap.DictOf.new h⟩
noncomputable def Ma:TE:=λ_ H Q=>∀p,H p=none->Q (.ref p) (upd H p (.dK []))
section
variable {X:Cx}{pos:Pos}
theorem Ge:PE X (.Dict [] [] pos) Ma:=λpins s σ H Q I h=>
 wpAny_Dict_empty ⟨.ref s.heap.objs.size,_,I.laid (a:=s.heap.objs.size) (o:=.dK []) (t':=s.toks) (λ_ _ q=>ag _ q) (au _) (Gb s.heap I.big),rfl,h _ (I.fC.fresh (au _))⟩
end
structure M2 (X:Cx) (o:cF) (m:Str) (apos:Pos) (e f:cF) (fu:Pos):Prop where
 base:attributeBase o m X.env (eval o X.env)=eval o X.env
 Vv:((backTo fu (starEach [e,f] X.env)).all (λx=> !x.1)&&(backToKw fu (keywordEach [] X.env)).all (λx=>x.1.isSome)
  &&decide (([e,f]:List cF).length+([]:List Keyword).length+(if([]:List Keyword).isEmpty then 0 else 1)<30))=true
 line:(apos.endLine==fu.line)=true
 trees:backTo fu (starEach [e,f] X.env)=[(false,eval e X.env),(false,eval f X.env)]
def S6 (H:Hp) (a:cE):Prop:=(∃kvs,Rd H a (.dK kvs))\/∃kvs,Rd H a (.dT kvs)
theorem Mb {X:Cx}{pins:cm}{σ:St}{H:Hp}{s:cy}{a:cE}(I:Inv X pins σ H s) (d:S6 H a):
  s.TypeIs (.ref a) "dict"/\(∀b,Value.ref a=.ref b->∃ob,s.heap.get? b=some ob/\ob.dict=none)/\(a==sysModules)=false:=by
 rcases d with⟨kvs,e⟩|⟨kvs,e⟩
 ·obtain⟨_,hd,vs,_,dd⟩:=FX I.fC e;refine⟨dd.typeIs,λb q=>?_,hd⟩
  cases q;obtain⟨ob,_,_,h1,h2,_⟩:=dd;exact⟨ob,h1,h2.2.1⟩
 ·obtain⟨_,hd,xs,_,dd⟩:=FY I.fC e;refine⟨dd.typeIs,λb q=>?_,hd⟩
  cases q;obtain⟨ob,_,_,h1,h2,_⟩:=dd;exact⟨ob,h1,h2.2.1⟩
section
variable {X:Cx}{pins:cm}{σ:St}{H:Hp}{s:cy}{a:cE}{y d:V}{u r:cx}{o:Option V}{A:cC}{E:cj}
theorem Mc {Q:cj}(hu:A.units+1<cLine) (I:Inv X pins σ H s) (g:FZ H a y o) (ry:RelV y u) (rd:RelV d r) (h:∀w' s',Inv X pins σ H s'->RelV (o.getD d) w'->Q w' s'):
  wpAny (model X.prog X.w) A (call (.builtin "dict.get") [.ref a,u,r]) Q E s:=by
 rcases g with⟨kvs,k,e,ey,l⟩|⟨kvs,k,b,e,ey,eb,l⟩
 ·subst ey;obtain⟨z,hd,vs,rel,dd⟩:=FX I.fC e;refine call_meetsIn PySem.F.slot_dict_get dd.typeIs PySem.F.entry_dict_get (PySem.F.args_dict_get_3 _ _ _) (meets_dict_get_default (eG X.prog X.w) a (B4 ry) hd r) ⟨_,dd.mapOf,h _ _ (I.tok _) ?_⟩;rw[l];exact(rel.val k).getD rd
 ·subst ey;cases (show u=Value.ref b from ry)
  obtain⟨z,hd,xs,rel,dd⟩:=FY I.fC e;refine call_meetsIn PySem.F.slot_dict_get dd.typeIs PySem.F.entry_dict_get (PySem.F.args_dict_get_3 _ _ _) (meetsH_dict_get_default (tupleKind (eG X.prog X.w)) a b hd r) ⟨tupleKind_room_in1 hu,k,xs,AV I.fC eb,dd,h _ _ (I.tok _) ?_⟩;rw[l];exact(rel.val k).getD rd
end
noncomputable def Md (td ty tx:TE):TE:=λσ H Q=>td σ H λx H1=>∃a,x=.ref a/\S6 H1 a/\ty σ H1 λy H2=>tx σ H2 λz H3=>∃o,FZ H3 a y o/\Q (o.getD z) H3
section
variable {X:Cx}{o e f:cF}{apos fu:Pos}{td ty tx:TE}
theorem Gf (hu:X.A.units+1<cLine) (ho:PE X o td) (he:PE X e ty) (hf:PE X f tx) (m:M2 X o "get" apos e f fu):PE X (.Call (.Attribute o "get" apos) [e,f] [] fu) (Md td ty tx):=by
 intro pins s σ H Q I h;refine wpAny_Call_method m.base m.Vv m.line PySem.F.plainAttrs_dict PySem.F.slot_dict_get PySem.F.type_dict_get (gM (ho pins s σ H _ I h) λu s1 ⟨x,H1,I1,rx,a,ex,d,q1⟩=>?_)
 subst ex;obtain rfl:u=Value.ref a:=rx;obtain⟨t1,t2,_⟩:=Mb I1 d;refine⟨t1,t2,?_⟩;rw[m.trees];refine Calls.callWith_builtin rfl (Calls.evalArgs_plain (Calls.spliced_cons (gM (he pins s1 σ H1 _ I1 q1) λiv s2 ⟨y,H2,I2,ry,q2⟩=>
  Calls.spliced_cons (gM (hf pins s2 σ H2 _ I2 q2) λfv s3 ⟨z,H3,I3,rz,ov,g,q3⟩=>Calls.spliced_nil ?_))))
 exact Mc hu I3 g ry rz λw' s4 I4 HQ=>⟨_,H3,I4,HQ,q3⟩
end
section
variable {X:Cx}{pins:cm}{σ:St}{H:Hp}{s:cy}{a:cE}{kvs:List (Key×V)}{A:cC}{E:cj}
end
section
variable {X:Cx}{pins:cm}{σ:St}{H:Hp}{s:cy}{a:cE}{y:V}{u:cx}{A:cC}{E:cj}
end
end L2
namespace L2
open PySem PySem.Spec PyProof.Rows
noncomputable abbrev kD:Scope:={kind:=.function,names:=[(Str.ofString "point",.local),(Str.ofString "uses",.free)],isGenerator:=false,isCoroutine:=false,more:=[]}
noncomputable abbrev jW (p:Pos):Arguments:={posonlyargs:=[],args:=[{arg:="point",annotation:=none,pos:=p}],vararg:=none,kwonlyargs:=[],kw_defaults:=[],kwarg:=none,defaults:=[]}
noncomputable abbrev ie (pu pp pS pU xi pT:Pos):cF:=.Tuple [.UnaryOp .USub (.Subscript (.Name "uses" pu) (.Name "point" pp) pS) pU,.Name "point" xi] 0 pT
section
variable {prog:cA}{w:cB}{A:cC}{E:cj}{s:cy}{f c' a cell:cE}{qual:Str}{pm va:cx}{pa pu pp pS pU xi pT:Pos}{vs:List (Key×cx)}{p n:Int}{t tn:Tok}
theorem yA {Q:cj}(gZ:A.depth<recursionLimit)
  (hf:s.heap.get? f=some (W.kla_obj "<lambda>" qual (jW pa) (ie pu pp pS pU xi pT) kD [(Str.ofString "uses",cell)] pm c' va))
  (uS:s.heap.CodeRec (.ref c') qual) (K1:s.heap.NoLimit) (pA:s.heap.IsCell cell (some (.ref a))) (dd:s.heap.DictOf (eG prog w) a vs) (hv:valueAt vs (.inl p)=some (.int n tn))
  (h:∀T h' tk MB,h'.get? T=some {cls:=.type "tuple",data:=.seq #[.int (-n) MB,.int p t]}->(∀b o,s.heap.get? b=some o->h'.get? b=some o)->s.heap.objs.size<=T->Q (.ref T) {s with heap:=h',toks:=tk}):
  wpAny (model prog w) A (call (.ref f) [.int p t]) Q E s:=by
 refine wpAny_call (W.kla_callFunE gZ hf rfl rfl rfl rfl uS ?_);have hb:bindArgs (W.kla_fn "<lambda>" qual (jW pa) (ie pu pp pS pU xi pT) kD [(Str.ofString "uses",cell)] pm (.ref c') va) ⟨[.int p t],[]⟩=pure [(Str.ofString "point",.int p t)]:=rfl;rw[hb];refine aj (wpAny_newFunctionEnv (show ∀x∈kD.names,x.2≠.cell by decide) (by intro x hx;simp at hx;subst hx;rfl) (λh₁ HU Hk=>⟨K1.fresh _ Hk,?_⟩) rfl)
 have Rb:∀b o,s.heap.get? b=some o->h₁.get? b=some o:=λb o e=>Hk.extBut b o (aD (az e)) (ag _ e)
 have hsz:s.heap.objs.size<=h₁.objs.size:=bg HU.lt;refine W.kla_codeExpr ?_;generalize hL:s.heap.objs.size=L at *;show wpAny (model prog w) (A.deeper (W.envX qual kD L f (.ref c') [(Str.ofString "uses",cell)])) (eval (ie pu pp pS pU xi pT) (W.envX qual kD L f (.ref c') [(Str.ofString "uses",cell)])) _ _ {s with heap:=h₁,toks:=s.toks+1}
 generalize hA:A.deeper (W.envX qual kD L f (.ref c') [(Str.ofString "uses",cell)])=A';generalize s.toks+1=YO;refine wpAny_Tuple_spliced ?_;refine Calls.spliced_cons (UnaryOp_ (Ja PySem.F.slot_dict_getitem.lookup (λ_ _=>rfl) ?_))
 have S7:h₁.DictOf (eG prog w) a vs:=by obtain⟨o,es,ep,e,r⟩:=dd;exact⟨o,es,ep,Rb _ _ e,r⟩
 refine wpAny_Name (wpAny_loadName_free rfl rfl rfl (pA.keeps Rb) ?_) (by decide)
 refine wpAny_Name (wpAny_loadName_local rfl rfl HU rfl ?_) (by decide)
 refine⟨S7.mapOf.typeIs,wpAny_getItem_of (k:=Sum.inl p) (B4 (k:=Sum.inl p) (u:=.int p t) ⟨t,rfl⟩) S7.mapOf hv ?_⟩;refine neg_int ?_;refine Calls.spliced_cons (wpAny_Name (wpAny_loadName_local rfl rfl HU rfl ?_) (by decide))
 refine Calls.spliced_nil ⟨by show(2:Nat)<=_;decide,?_⟩
 refine h _ _ _ _ (ay _ rfl) (λb o e=>ag _ (Rb b o e)) ?_
 exact hsz
end
end L2
namespace L2
open PySem PySem.Spec PySem.W PySem.Calls PyProof.Rows
section
variable {prog:cA}{w:cB}{A:cC}{E:cj}{s:cy}{K:Type} [DecidableEq K] {knd:KeyKind prog w K}{d:cE}{kvs:List (K×cx)}{ep:Nat}
theorem qa {Q:cw->cy->Prop}(hh:A.handled=none) (lo:(d==sysModules)=false) (hm:s.heap.DictAt knd d kvs ep) (hn:kvs.length<=sizeLine)
  (hQ:∀h' tk (acc:cw),(∀b o,s.heap.get? b=some o->h'.get? b=some o)->acc.length=kvs.length->(∀(j:Nat) v,acc[j]? =some v->∃k x,kvs[j]? =some (k,x)/\knd.is k v=true)->s.heap.objs.size<h'.objs.size->Q acc {s with heap:=h',toks:=tk}):wpAny (model prog w) A (collect (.ref d)) Q E s:=by
 unfold collect;refine aa (wpAny_runValue (codeAny_builtin PySem.F.entry_proto_collect ?_));rw[bY PySem.F.plain_proto_collect _];show wpAny _ A.in1 (newList []>>=λl=>again (.builtin "list.__iadd__" ⟨[l,.ref d],[]⟩)) _ _ s
 refine aa (bS ?_);refine aj ⟨plainId_quiet PySem.F.plain_list_iadd _,codeAny_builtin PySem.F.entry_list_iadd ?_⟩;rw[bY PySem.F.plain_list_iadd _];have hS:(s.heap.push {cls:=.type "list",data:=.seq ([]:cw).toArray}).get? s.heap.objs.size=some {cls:=.type "list",data:=.seq #[]}:=ay _ rfl;have eP:=hm.lt_size;show wpAny _ A.in1 (Builtin.List.listExtendWith (.ref s.heap.objs.size) (.ref d) (.ref s.heap.objs.size)) _ _ _;have key:=kdl_extend (A:=A) (s:={s with heap:=s.heap.push {cls:=.type "list",data:=.seq ([]:cw).toArray}}) (R:=λr s'=>∃h' tk jU c',r=.ok (.ret (.ref s.heap.objs.size))/\s'={s with heap:=h',toks:=tk}/\(∀b o,b≠s.heap.objs.size->(s.heap.push {cls:=.type "list",data:=.seq ([]:cw).toArray}).get? b=some o->h'.get? b=some o)/\h'.get? s.heap.objs.size=some {cls:=.type "list",dict:=none,data:=.seq jU c',slots:=#[]}/\ItemsOf (λi v=>∃k x,kvs[i]? =some (k,x)/\knd.is k v=true) jU kvs.length)
  (kdl_dict (knd:=knd) (kvs:=kvs) (ep:=ep) lo) hh (hm.push _) s.heap.objs.size (bx eP) (bx eP) (.ref s.heap.objs.size) 0 hS (λh' tk jU c' hk MA ou=>⟨h',tk,jU,c',rfl,rfl,hk,MA,ou⟩) hn
 have fin:∀(h':Heap) tk jU c',(∀b o,b≠s.heap.objs.size->(s.heap.push {cls:=.type "list",data:=.seq ([]:cw).toArray}).get? b=some o->h'.get? b=some o)->h'.get? s.heap.objs.size=some {cls:=.type "list",dict:=none,data:=.seq jU c',slots:=#[]}->ItemsOf (λi v=>∃k x,kvs[i]? =some (k,x)/\knd.is k v=true) jU kvs.length->Q jU.toList {s with heap:=h',toks:=tk}:=λh' tk jU c' hk MA ou=>
  hQ h' tk jU.toList (λb o e=>hk b o (aD (az e)) (ag _ e)) (by rw[aN];exact ou.1) (λj v e=>ou.2 j v (by rw[<-Array.getElem?_toList];exact e)) (az MA)
 refine bQ key (λr s' hr=>?_) λe s' hr=>?_
 ·cases r with
  |done f=>
   obtain⟨h',tk,jU,c',e1,e2,e3,e4,e5⟩:=hr;cases e1;subst e2;exact aa (wpAny_load e4 (aj (fin h' tk jU c' e3 e4 e5)))
  |again c=>
   refine⟨hr.1,codeAny_mono hr.2 λr s' hr=>?_⟩
   obtain⟨h',tk,jU,c',e1,e2,e3,e4,e5⟩:=hr;cases e1;subst e2;exact aa (wpAny_load e4 (aj (fin h' tk jU c' e3 e4 e5)))
 ·obtain⟨h',tk,jU,c',e1,_⟩:=hr;cases e1
end
end L2
namespace L2
open PySem PySem.Spec PySem.W PySem.Calls PyProof.Rows
section
variable {prog:cA}{w:cB}{A:cC}{E:cj}{s:cy}{K:Type} [DecidableEq K] {knd:KeyKind prog w K}{d:cE}{kvs:List (K×cx)}{ep:Nat}
 {h₀:Heap}{L:cE}{m:ck}{news:cm}{f:cE}
theorem Jc {Q:cj}(F:Fr h₀ L s.heap m) (N:News h₀ L s.heap news) (hh:A.handled=none) (lo:(d==sysModules)=false) (hm:s.heap.DictAt knd d kvs ep) (h2:2<=kvs.length) (Ap:kvs.length<64)
  (h:∀(vs:cw) D kS e1 h' tk,vs.length=kvs.length->(∀(j:Nat) v,vs[j]? =some v->∃k x,kvs[j]? =some (k,x)/\knd.is k v=true)->Fr h₀ L h' m->News h₀ L h' ((kS,seqObj "list" #[] 0)::(D,seqObj "list" #[] e1)::news)->D<kS->(∀q∈news,q.1<D)->s.heap.objs.size<=D->
   KatKeys prog w A.in1.in1 h₀ L m kS (.ref f) (λks e s'=>wpAny (model prog w) A.in1.in1 (keyKind' (List.toArray ks)) (λκ Ea=>(kas_sort vs.length).kasWp (kas_ask prog w A.in1.in1 κ ks) (λp s3=>KatFin h₀ L m kS D ks e e1 (p.toList.map λi=>vs.getD i Value.none) (λs4=>Q (.ref D) s4) s3) Ea) (λ_ _=>False) s') vs [] 0 {s with heap:=h',toks:=tk}):
  wpAny (model prog w) A (call (.builtin "sorted") [.ref d] [(Str.ofString "key",.ref f)]) Q E s:=by
 refine call_function_entry_kw kind_sorted plain_sorted entry_sorted (ksk_s1 _ _) ?_;unfold Builtin.«sorted»;refine aa (m:=checkCount "sorted" 1 1 _) (aj ?_);refine aa (qa hh lo hm (by rw[bw];omega) λg tk vs keep hl hv hg=>?_)
 refine aa (wpAny_newList ?_ (by rw[bw];omega))
 have Bo:(g.push (seqObj "list" vs.toArray 0)).get? g.objs.size=some (seqObj "list" vs.toArray 0):=ay _ rfl;have iz:∀b o,s.heap.get? b=some o->(g.push (seqObj "list" vs.toArray 0)).get? b=some o:=λb o q=>ag _ (keep b o q)
 have hL:L<s.heap.objs.size:=F.ns.lt;refine aa (bo (wpAny_call_entry_kw slot_list_sort ⟨_,Bo,rfl⟩ entry_list_sort ?body (ksk_l1 _ _)))
 case body=>
  show wpAny (model prog w) A.in1.in1 (Builtin.«list.sort» ⟨[.ref g.objs.size],[(Str.ofString "key",.ref f)]⟩) _ _ _;rw[ksk_t1];refine kat_keyed (b:=false) (s:={s with heap:=g.push (seqObj "list" vs.toArray 0),toks:=tk}) (F.kept iz) (N.grown iz) Bo (bx (bH hL hg)) (Heap.get?_none_of_le (aB F.above (bg (bH hL hg))))
   (λp hp=>aD (bH (az (N p hp).1) hg)) (by omega) (by omega) λkS e1 h' F' N' l0 l1=>?_
  refine kat_keys_mono (h vs g.objs.size kS e1 h' tk hl hv F' N' l0 (λq hq=>bH (az (N q hq).1) hg) (bg hg)) λks e s' gF hd=>?_
  have yB:ks.length=vs.length:=by simpa using gF
  refine bQ hd (λκ Ea hk=>?_) λ_ _ x=>x
  have er:∀{α:Type}(l:List α),katRev false l=l:=λ_=>rfl
  rw[er,er,kat_ask_eq yB];rw[kat_ask_eq yB]at hk;refine kas_wp_mono hk λp s3 AD=>?_
  rw[er];exact AD.mono λs4 hq=>⟨_,rfl,aj ⟨_,rfl,hq⟩⟩
end
end L2
namespace L2
open PySem PySem.Spec PySem.W PySem.Calls PyProof.Rows
section
variable {prog:cA}{w:cB}{A:cC}{E:cj}{s:cy}{f:cE}
theorem DI {T:Heap}{a:cE}{v:cx}{tk:Nat}{Q:cj}(o1:T.get? a=some (seqObj "list" #[v] 0))
  (Gg:∀g:Heap,(∀b o,b≠a->T.get? b=some o->g.get? b=some o)->wpAny (model prog w) A.in1 (call (.ref f) [v]) (λ_ s'=>∃h' B0,s'={s with heap:=h',toks:=B0}/\∀b o,g.get? b=some o->h'.get? b=some o) (λ_ _=>False) {s with heap:=g,toks:=tk})
  (h:∀h' c B0,h'.get? a=some (seqObj "list" #[v] c)->(∀b o,b≠a->T.get? b=some o->h'.get? b=some o)->Q .none {s with heap:=h',toks:=B0}):
  wpAny (model prog w) A (call (.builtin "list.sort") [.ref a] [(Str.ofString "key",.ref f)]) Q E {s with heap:=T,toks:=tk}:=by
 have ha:a<T.objs.size:=az o1;refine wpAny_call_entry_kw slot_list_sort ⟨_,o1,rfl⟩ entry_list_sort ?_ (ksk_l1 _ _);show wpAny (model prog w) A.in1 (Builtin.«list.sort» ⟨[.ref a],[(Str.ofString "key",.ref f)]⟩) _ _ _;rw[ksk_t1];unfold ksk_tree;refine aa (listItems_at o1 rfl (aa (listUpdate_at o1 rfl ?_ (hsz:=by show(1:Nat)<=_;rw[bw];decide) (hsz2:=bM _))))
 obtain⟨e1,rA⟩:∃e1,(T.update a (Obj.mapSeq λ_=>#[])).get? a=some (seqObj "list" #[] e1):=⟨_,get?_update_seq o1 (λ_=>#[])⟩
 refine aa (seqEpoch_at rA rfl (aa (wpAny_newTuple (aa (wpAny_newList (bo ?_))) (by show(1:Nat)<=_;rw[bw];decide))))
 have S8:∀b o,b≠a->T.get? b=some o->(((T.update a (Obj.mapSeq λ_=>#[])).push (seqObj "tuple" #[v] 0)).push (seqObj "list" #[] 0)).get? b=some o:=λb o hb e=>ag _ (ag _ ((bz _ _ (Ne.symm hb)).trans e))
 have oa:(((T.update a (Obj.mapSeq λ_=>#[])).push (seqObj "tuple" #[v] 0)).push (seqObj "list" #[] 0)).get? a=some (seqObj "list" #[] e1):=ag _ (ag _ rA)
 have ok:(((T.update a (Obj.mapSeq λ_=>#[])).push (seqObj "tuple" #[v] 0)).push (seqObj "list" #[] 0)).get? ((T.update a (Obj.mapSeq λ_=>#[])).push (seqObj "tuple" #[v] 0)).objs.size=some (seqObj "list" #[] 0):=ay _ rfl
 have S9:a≠((T.update a (Obj.mapSeq λ_=>#[])).push (seqObj "tuple" #[v] 0)).objs.size:=by rw[size_push',Heap.size_update];exact aD (Nat.lt_succ_of_lt ha)
 have Ta:T.objs.size<=((T.update a (Obj.mapSeq λ_=>#[])).push (seqObj "tuple" #[v] 0)).objs.size:=by rw[size_push',Heap.size_update];exact Nat.le_succ _
 show wpAny (model prog w) A.in1 (ksk_rest a (.ref f) false #[v] e1 (.ref ((T.update a (Obj.mapSeq λ_=>#[])).push (seqObj "tuple" #[v] 0)).objs.size)) _ _ {s with heap:=((T.update a (Obj.mapSeq λ_=>#[])).push (seqObj "tuple" #[v] 0)).push (seqObj "list" #[] 0),toks:=tk}
 generalize ((T.update a (Obj.mapSeq λ_=>#[])).push (seqObj "tuple" #[v] 0)).objs.size=kS at *
 generalize (((T.update a (Obj.mapSeq λ_=>#[])).push (seqObj "tuple" #[v] 0)).push (seqObj "list" #[] 0))=U at *
 unfold ksk_rest;refine aa (wpAny_rule ?_);rw[show(#[v]:Array cx)=[v].toArray from rfl,List.forIn_toArray,List.forIn_cons]
 refine aa (aa (aa (wpAny_attempt (bQ (Gg U S8) (λk s' hk=>?_) λ_ _ x=>x.elim))))
 obtain⟨g,B0,rfl,kg⟩:=hk;dsimp only;have qb:=kg _ _ ok;refine aa (listUpdate_at qb rfl (aj ?_) (hsz:=bM _) (hsz2:=by show(1:Nat)<=_;rw[bw];decide))
 dsimp only;rw[List.forIn_nil];refine aj ?_;obtain⟨c1,Rc⟩:∃c,(g.update kS (Obj.mapSeq (·.push k))).get? kS=some (seqObj "list" #[k] c):=⟨_,get?_update_seq qb (·.push k)⟩
 have Tc:(g.update kS (Obj.mapSeq (·.push k))).get? a=some (seqObj "list" #[] e1):=(bz _ _ (Ne.symm S9)).trans (kg _ _ oa)
 have Td:∀b o,b≠a->T.get? b=some o->(g.update kS (Obj.mapSeq (·.push k))).get? b=some o:=λb o hb e=>(bz _ _ (bx (aw (az e) Ta))).trans (kg _ _ (S8 b o hb e))
 show wpAny (model prog w) A.in1 (Builtin.List.listItems (.ref kS)>>=λkeys=>ksk_end a false #[v] e1 (.ref kS) keys) _ _ {s with heap:=g.update kS (Obj.mapSeq (·.push k)),toks:=B0}
 generalize g.update kS (Obj.mapSeq (·.push k))=G at Rc Tc Td
 refine aa (listItems_at Rc rfl ?_);unfold ksk_end;dsimp only;have hsz:(#[v]:Array cx).size<2:=by show(1:Nat)<2;decide
 rw[if_pos hsz,if_pos hsz];simp only[aH,bE];refine aa (aj ?_);rw[StateT.run_pure];refine aa (aj ?_);unfold ksk_tail;dsimp only;have Aq:((#[k]:Array cx).zip #[v]).map (·.2)=#[v]:=by apply Array.toList_inj.mp;simp
 rw[show(arrOf (SortSt.mk' general' ((#[k]:Array cx).zip #[v]) #[] 7 none))=(#[k]:Array cx).zip #[v]from rfl,Aq]
 refine aa (listUpdate_at Rc rfl ?_ (hsz:=by show(1:Nat)<=_;rw[bw];decide) (hsz2:=bM _))
 refine aa (wpAny_letGo ?_);have Rf:(G.update kS (Obj.mapSeq λ_=>(#[]:Array cx))).get? a=some (seqObj "list" #[] e1):=(bz _ _ (Ne.symm S9)).trans Tc
 have Vw:∀b o,b≠a->T.get? b=some o->(G.update kS (Obj.mapSeq λ_=>(#[]:Array cx))).get? b=some o:=λb o hb e=>(bz _ _ (bx (aw (az e) Ta))).trans (Td b o hb e)
 refine aa (seqEpoch_at Rf rfl (aa (listUpdate_at Rf rfl ?_ (hsz:=bM _) (hsz2:=by show(1:Nat)<=_;rw[bw];decide))))
 simp only[bne_self_eq_false,aH,bE];obtain⟨c,hc⟩:∃c,((G.update kS (Obj.mapSeq λ_=>(#[]:Array cx))).update a (Obj.mapSeq λ_=>#[v])).get? a=some (seqObj "list" #[v] c):=⟨_,get?_update_seq Rf (λ_=>#[v])⟩
 exact aj ⟨_,rfl,h _ c B0 hc λb o hb e=>(bz _ _ (Ne.symm hb)).trans (Vw b o hb e)⟩
variable {K:Type} [DecidableEq K] {knd:KeyKind prog w K}{d:cE}{kvs:List (K×cx)}{ep:Nat}
theorem Gh {Q:cj}(hh:A.handled=none) (lo:(d==sysModules)=false) (hm:s.heap.DictAt knd d kvs ep) (h1:kvs.length=1)
  (Gg:∀(g:Heap) tk v,(∃k x,kvs[0]? =some (k,x)/\knd.is k v=true)->(∀b o,s.heap.get? b=some o->g.get? b=some o)->wpAny (model prog w) A.in1.in1 (call (.ref f) [v]) (λ_ s'=>∃h' B0,s'={s with heap:=h',toks:=B0}/\∀b o,g.get? b=some o->h'.get? b=some o) (λ_ _=>False) {s with heap:=g,toks:=tk})
  (h:∀D v h' c tk,(∃k x,kvs[0]? =some (k,x)/\knd.is k v=true)->h'.get? D=some (seqObj "list" #[v] c)->s.heap.objs.size<=D->(∀b o,s.heap.get? b=some o->h'.get? b=some o)->Q (.ref D) {s with heap:=h',toks:=tk}):
  wpAny (model prog w) A (call (.builtin "sorted") [.ref d] [(Str.ofString "key",.ref f)]) Q E s:=by
 refine call_function_entry_kw kind_sorted plain_sorted entry_sorted (ksk_s1 _ _) ?_;unfold Builtin.«sorted»;refine aa (m:=checkCount "sorted" 1 1 _) (aj ?_);refine aa (qa hh lo hm (by rw[h1,bw];decide) λg tk vs keep hl hv hg=>?_)
 rw[h1]at hl;obtain⟨v,rfl⟩:∃v,vs=[v]:=by
  match vs,hl with
  |[v],_=>exact⟨v,rfl⟩
 have kv:=hv 0 v rfl;refine aa (wpAny_newList ?_ (by show(1:Nat)<=_;rw[bw];decide))
 have Bo:(g.push (seqObj "list" #[v] 0)).get? g.objs.size=some (seqObj "list" #[v] 0):=ay _ rfl;refine aa (bo (DI (A:=A.in1) (s:=s) (T:=g.push (seqObj "list" #[v] 0)) (tk:=tk) Bo (λg' kp=>Gg g' tk v kv λb o e=>kp b o (aD (bH (az e) hg)) (ag _ (keep b o e))) λh' c B0 hD kp=>?_))
 refine aj ⟨_,rfl,h _ v h' c B0 kv hD (bg hg) λb o e=>kp b o ?_ (ag _ (keep b o e))⟩
 exact aD (bH (az e) hg)
end
end L2
namespace L2
open PySem PySem.Spec PySem.W PySem.Calls PyProof.Rows
theorem qc {i j:Int}{t u:Tok}{c:cx}:∀(l:cw),TriplesOk l->TriplesOk (l++[.int i t,.int j u,c])
 |[],_=>trivial
 |.int _ _::.int _ _::_::rest,h=>qc rest h
theorem qS {p q:Pos}(h1:p.line=q.line) (h2:p.col=q.col):∀l:cw,codeAmong p l=codeAmong q l:=λl=>by
 have key:∀(n:Nat) (l:cw),l.length<=n->codeAmong p l=codeAmong q l:=λn=>by
  induction n with
  |zero=>intro l hl;cases l with|nil=>rfl|cons _ _=>simp at hl
  |succ n ih=>
   intro l hl;unfold codeAmong;split
   ·rename_i line _ col _ c rest;rw[h1,h2,ih rest (by simp only[ax]at hl;omega)]
   ·rfl
 exact key l.length l (au _)
theorem Gi {p q:Pos}{x y:Str}{m n:Array cx}(h:uP p x++m=uP q y++n):p.line=q.line/\p.col=q.col/\x=y:=by
 have h0:=congrArg (λa:Array cx=>a.toList) h
 simp only[uP,Array.toList_append,List.cons_append,List.nil_append]at h0;injection h0 with a1 h1
 injection h1 with a2 h2
 injection h2 with a3 _
 injection a1 with b1 _
 injection a2 with b2 _
 injection a3 with b3 _
 exact⟨Int.ofNat.inj b1,Int.ofNat.inj b2,b3⟩
theorem qd {env:Env}{cell:cE}(h:env.cells.lookup (Str.ofString "uses")=some cell):closureFor kD env=pure [(Str.ofString "uses",cell)]:=by
 unfold closureFor;simp only[kD,List.forIn_cons,List.forIn_nil];have ec:cellOf env (Str.ofString "uses")=pure cell:=by unfold cellOf;rw[h]
 rw[ec];rfl
section
variable {X:Cx}{pins:cm}{σ:St}{H:Hp}{s:cy}{x:Str}{rV:Pos}{qual:Str}{c Pt cell:cE}{pa pu pp pS pU xi pT:Pos}
structure Vx (X:Cx) (pins:cm) (σ:St) (H H2:Hp) (s2:cy) (f c' cell:cE) (qual:Str) (pa:Pos) (body:cF):Prop where
 inv:Inv X pins σ H2 s2
 new:H2=H\/∃u,H c'=none/\H2=upd H c' u
 fn:∃pm va,s2.heap.get? f=some (kla_obj "<lambda>" qual (jW pa) body kD [(Str.ofString "uses",cell)] pm c' va)
 cd:s2.heap.CodeRec (.ref c') qual
 fl:f≠X.env.locals
theorem Gj {Q:cj}{E:cj}(I:Inv X pins σ H s) (hT:(x,rV,qual)∈rO) (ht:tabIn X.K x=some (c,Pt)) (hq:X.env.qual++Str.ofString "<lambda>"=qual) (vV:X.env.code=.ref c) (sX:X.env.cells.lookup (Str.ofString "uses")=some cell)
  (h:∀H2 s2 f c',Vx X pins σ H H2 s2 f c' cell qual pa (ie pu pp pS pU xi pT)->Q (.ref f) s2):
  wpAny (model X.prog X.w) X.A (eval (.Lambda (jW pa) (ie pu pp pS pU xi pT) kD rV) X.env) Q E s:=by
 obtain⟨⟨more,hP⟩,hC,hB⟩:=(I.ok.tb.un I.base) x c Pt rV qual hT ht;obtain⟨qs,e,tr,pos,Te,OL,eq,r⟩:=(show vq H s.heap Pt (uP rV qual++more)from I.fC Pt _ hP)
 obtain⟨z1,z2,z3⟩:=Gi eq;subst z3;have Tf:CodeHd s.heap c Pt:=hC.keeps I.bk;have Tg:s.heap.BuiltinsAt X.mg Pt:=let ⟨bm,ob,b1,b2,b3,b4,b5,b6⟩:=hB;⟨bm,ob,b1,b2,b3,b4,I.bk _ _ b5,b6⟩;have hG:s.heap.Ns mainGlobals X.mg:=I.mod.glob.keeps I.bk;have Vy:mainGlobals≠Pt:=λz=>by
  obtain⟨og,es,ep,eg,hd,_⟩:=hG;rw[z,e]at eg;cases eg;cases hd
 refine kla_eval rfl ?_;rw[hq];have Th:X.env.locals<s.heap.objs.size:=I.lt;rcases r with hn|⟨c',oc,vs,t,hf,q2,q3,q4⟩
 ·have Ti:codeAmong rV qs.toList=none:=by rw[qS z1 z2];exact hn
  refine kla_makeFunction (qd sX) I.ok.glob hG vV Tf e tr Ti Vy Tg λc' va h' tk hx uO eP EJ O6=>?_
  obtain⟨c2,oc,vs,t,ec,Mq,hd,hv⟩:=id EJ;cases ec;have hH:H c'=none:=I.fC.fresh uO;generalize Tj:kla_obj "<lambda>" qual (jW pa) (ie pu pp pS pU xi pT) kD [(Str.ofString "uses",cell)] ((X.mg "__name__").getD .none) c' va=fo;have keep:∀b o,b≠Pt->s.heap.get? b=some o->(h'.push fo).get? b=some o:=λb o hb q=>ag _ (hx b o hb q)
  have nP:∀{b:cE},H b=none->b≠Pt:=λ{b} q z=>by rw[z,hP]at q;cases q
  refine h (upd H c' (.zy oc (.own 0))) _ _ c' ⟨?_,.inr ⟨_,hH,rfl⟩,⟨_,va,by rw[Tj];exact ay _ (by rw[<-Tj];rfl)⟩,⟨c',oc,vs,t,rfl,ag _ Mq,hd,hv⟩,bx (bH (aw Th uO) eP)⟩
  refine I.un (h':=h'.push fo) (t':=tk) ⟨λb o q n _ _=>keep b o (nP n) q,λb o q n _ _=>⟨o.slots,keep b o (nP n) q⟩,λb o q n _=>?_,λb o q _=>?_,λb xs q=>(cK (cP q hH)).trans q,λb o u q=>(cK (cP q hH)).trans q,λb ps q=>⟨#[],by rw[cK (cP q hH),q];simp⟩⟩ ?_
  ·rw[cK (aD (aw (az q) uO))];exact n
  ·by_cases hb:b=Pt
   ·subst hb;exact⟨_,ag _ O6⟩
   ·exact⟨o,keep b o hb q⟩
  ·intro b u q;by_cases hb:b=c'
   ·subst hb;rw[cR]at q;cases q;exact⟨ag _ Mq,oc,ag _ Mq⟩
   ·rw[cK hb]at q;by_cases Tn:b=Pt
    ·subst Tn;rw[hP]at q;cases q;refine⟨_,ag _ O6,?_,pos,qual,OL,eq,.inr ⟨c',oc,vs,t,?_,cR,hd,hv⟩⟩
     ·rw[Array.toList_append];exact qc _ tr
     ·rw[Array.toList_append,<-qS z1 z2];exact codeAmong_snoc _ tr Ti
    ·refine(I.fC b u q).wq (λk v hk z=>keep k v ?_ z) (λk z=>(cK (cP z hH)).trans z) (λk xs z=>(cK (cP z hH)).trans z) λk ob u' z=>(cK (cP z hH)).trans z
     rcases hk with rfl|hk
     ·exact Tn
     ·intro z;rw[z,hP]at hk;cases hk
 ·have Vz:codeAmong rV qs.toList=some (.ref c'):=by rw[qS z1 z2];exact hf
  refine kla_makeFunctionHit (qd sX) I.ok.glob hG vV Tf e tr Vz Tg λva h' tk hk hsz=>?_
  obtain⟨e1,_⟩:=I.fC c' _ q2;refine h H _ _ c' ⟨I.kept (t':=tk) λb o q=>ag _ (hk b o q),.inl rfl,⟨_,va,ay _ rfl⟩,⟨c',oc,vs,t,rfl,ag _ (hk _ _ e1),q3,q4⟩,bx (aw Th hsz)⟩
end
end L2
namespace ST
open PySem PySem.Spec PySem.W PyProof.Rows DL L2
noncomputable def sC (kvs:List (Int×Int)):List (Key×V):=kvs.map λkv=>(.inl kv.1,.int kv.2)
noncomputable def gp (kvs:List (Int×Int)):cn:=kvs.map λkv=>[-kv.2,kv.1]
structure vW (P:cA) (w:cB) (h:Heap) (f cell a:cE) (qual:Str) (pa:Pos) (body:cF) (AW:List (Key×cx)):Prop where
 fn:∃pm c' va,h.get? f=some (kla_obj "<lambda>" qual (jW pa) body kD [(Str.ofString "uses",cell)] pm c' va)/\h.CodeRec (.ref c') qual
 lim:h.NoLimit
 cell:h.IsCell cell (some (.ref a))
 dict:h.DictOf (eG P w) a AW
theorem vW.keeps {P:cA}{w:cB}{h h':Heap}{f cell a:cE}{qual:Str}{pa:Pos}{body:cF}{AW:List (Key×cx)}(l:vW P w h f cell a qual pa body AW) (k:∀b o,h.get? b=some o->h'.get? b=some o):vW P w h' f cell a qual pa body AW where
 fn:=let ⟨pm,c',va,e,c2,oc,vs,t,z,e2,r⟩:=l.fn;⟨pm,c',va,k _ _ e,c2,oc,vs,t,z,k _ _ e2,r⟩
 lim:=l.lim.keeps k
 cell:=l.cell.keeps k
 dict:=let ⟨o,es,ep,e,r⟩:=l.dict;⟨o,es,ep,k _ _ e,r⟩
noncomputable def qT:cm->cn->Prop:=Paired λp ns=>∃x y t u,p.2={cls:=.type "tuple",data:=.seq #[.int x t,.int y u]}/\ns=[x,y]
theorem qT.snoc:∀{l:cm}{nss:cn}{p:cE×Obj}{ns:cp},qT l nss->(∃x y t u,p.2={cls:=.type "tuple",data:=.seq #[.int x t,.int y u]}/\ns=[x,y])->qT (l++[p]) (nss++[ns])
 |_,_,_,_,.nil,h=>.cons h .nil
 |_,_,_,_,.cons r t,h=>.cons r (qT.snoc t h)
theorem qT.get:∀{l:cm}{nss:cn},qT l nss->∀(i:Nat) (ns:cp),nss[i]? =some ns->∃p,l[i]? =some p/\∃x y t u,p.2={cls:=.type "tuple",data:=.seq #[.int x t,.int y u]}/\ns=[x,y]
 |_,_,.nil,i,ns,h=>by simp at h
 |p::l,n::nss,.cons r t,0,ns,h=>by simp at h;subst h;exact⟨p,rfl,r⟩
 |p::l,n::nss,.cons r t,i+1,ns,h=>qT.get t i ns (by simpa using h)
theorem qT.length {l:cm}{nss:cn}(t:qT l nss):l.length=nss.length:=Paired.length t
section
variable {P:cA}{w:cB}{A:cC}{s:cy}{f cell a kS D:cE}{qual:Str}{pa pu pp pS pU xi pT:Pos}{AW:List (Key×cx)}{h₀:Heap}{L:cE}{m:ck}{news:cm}{e1:Nat}{kvs:List (Int×Int)}
theorem yC {Fin:cw->Nat->cy->Prop}(gZ:A.depth<recursionLimit) (Rg:D<kS) (To:∀q∈news,q.1<D)
  (stays:∀h' o1 o2 eW,Fr h₀ L h' m->News h₀ L h' ((kS,o1)::(D,o2)::(eW++news))->vW P w h' f cell a qual pa (ie pu pp pS pU xi pT) AW)
  (AN:∀kv∈kvs,∃tn,valueAt AW (.inl kv.1)=some (.int kv.2 tn))
  (fin:∀eW e h' tk,qT eW (gp kvs)->Fr h₀ L h' m->News h₀ L h' ((kS,seqObj "list" (List.toArray (eW.map λp=>Value.ref p.1)) e)::(D,seqObj "list" #[] e1)::(eW++news))->(∀p∈eW,kS<p.1)->Fin (eW.map λp=>Value.ref p.1) e {s with heap:=h',toks:=tk}):
  ∀(r done:List (Int×Int)) (vs:cw) (eW:cm) (e:Nat) (h':Heap) (tk:Nat),done++r=kvs->IntsAre vs (r.map (·.1))->qT eW (gp done)->Fr h₀ L h' m->
   News h₀ L h' ((kS,seqObj "list" (List.toArray (eW.map λp=>Value.ref p.1)) e)::(D,seqObj "list" #[] e1)::(eW++news))->(∀p∈eW,kS<p.1)->
   KatKeys P w A h₀ L m kS (.ref f) Fin vs (eW.map λp=>Value.ref p.1) e {s with heap:=h',toks:=tk}
 |[],done,vs,eW,e,h',tk,hd,hv,ht,F,N,hk=>by
  cases hv;rw[bC]at hd;subst hd;exact fin eW e h' tk ht F N hk
 |kv::r,done,vs,eW,e,h',tk,hd,hv,ht,F,N,hk=>by
  cases hv with
  |cons n t hv=>
   have la:=stays h' _ _ eW F N;obtain⟨pm,c',va,hf,hc⟩:=la.fn;obtain⟨tn,Gk⟩:=AN kv (by rw[<-hd];simp)
   refine KatKeys.cons (yA (s:={s with heap:=h',toks:=tk}) gZ hf hc la.lim la.cell la.dict Gk λT h2 PK MB hT ext uO=>?_)
   have VA:kS<h'.objs.size:=az (N _ (.head _)).1;have hL:L<h'.objs.size:=F.ns.lt;have SO:kS<T:=aw VA uO;have N2:News h₀ L h2 ((kS,seqObj "list" (List.toArray (eW.map λp=>Value.ref p.1)) e)::(D,seqObj "list" #[] e1)::((eW++[(T,{cls:=.type "tuple",data:=.seq #[.int (-kv.2) MB,.int kv.1 t]})])++news)):=λp hp=>by
    have old:∀q∈((kS,seqObj "list" (List.toArray (eW.map λp=>Value.ref p.1)) e)::(D,seqObj "list" #[] e1)::(eW++news)),h2.get? q.1=some q.2/\q.1≠L/\h₀.get? q.1=none:=λq hq=>⟨ext _ _ (N q hq).1,(N q hq).2⟩
    rcases List.mem_cons.mp hp with rfl|hp
    ·exact old _ (.head _)
    rcases List.mem_cons.mp hp with rfl|hp
    ·exact old _ (.tail _ (.head _))
    rcases List.mem_append.mp hp with hp|hp
    ·rcases List.mem_append.mp hp with hp|hp
     ·exact old _ (.tail _ (.tail _ (bD _ hp)))
     ·rw[bu]at hp;subst hp;exact⟨hT,bx (aw hL uO),Heap.get?_none_of_le (aB F.above (bg (aw hL uO)))⟩
    ·exact old _ (.tail _ (.tail _ (aL _ hp)))
   have J4:∀p∈eW++[((T,{cls:=.type "tuple",data:=.seq #[.int (-kv.2) MB,.int kv.1 t]}):cE×Obj)],kS<p.1:=λp hp=>by
    rcases List.mem_append.mp hp with hp|hp
    ·exact hk p hp
    ·rw[bu]at hp;subst hp;exact SO
   refine⟨_,_,F.keeps ext,N2,.head λp hp=>?_,λh3 c3 F3 N3=>?_⟩
   ·rcases List.mem_cons.mp hp with rfl|hp
    ·exact aD Rg
    ·rcases List.mem_append.mp hp with hp|hp
     ·exact bx (J4 p hp)
     ·exact aD (bH (To p hp) Rg)
   ·have em:(eW.map λp=>Value.ref p.1)++[Value.ref T]=(eW++[((T,{cls:=.type "tuple",data:=.seq #[.int (-kv.2) MB,.int kv.1 t]}):cE×Obj)]).map λp=>Value.ref p.1:=by simp
    rw[em]at N3;show KatKeys P w A h₀ L m kS (.ref f) Fin _ ((eW.map λp=>Value.ref p.1)++[Value.ref T]) c3 {s with heap:=h3,toks:=PK}
    rw[em];refine yC gZ Rg To stays AN fin r (done++[kv]) _ _ c3 h3 PK (by rw[<-hd];simp) hv ?_ F3 N3 J4
    show qT _ (gp (done++[kv]));unfold gp;rw[List.map_append];exact qT.snoc ht ⟨_,_,_,_,rfl,rfl⟩
end
end ST
namespace ST
open PySem PySem.Spec PySem.W PyProof.Rows DL L2
theorem ua {κ:Type} [DecidableEq κ]:∀{kvs:List (κ×V)}{k:κ}{v:V},(kvs.map (·.1)).Nodup->(k,v)∈kvs->oA kvs k=some v
 |[],_,_,_,h=>by cases h
 |p::r,k,v,nd,h=>by
  rw[aE,List.nodup_cons]at nd;rcases List.mem_cons.mp h with rfl|h
  ·exact nq rfl
  ·rw[nr λz=>nd.1 (by rw[z];exact List.mem_map_of_mem (f:=(·.1)) h)]
   exact ua nd.2 h
theorem ub {α β:Type}{R:α->β->Prop}:∀{l:List α}{m:List β},Paired R l m->∀(i:Nat) (b:β),m[i]? =some b->∃a,l[i]? =some a/\R a b
 |_,_,.nil,i,b,h=>by simp at h
 |a::l,c::m,.cons r t,0,b,h=>by simp at h;subst h;exact⟨a,rfl,r⟩
 |a::l,c::m,.cons r t,i+1,b,h=>ub t i b (by simpa using h)
theorem rF:∀{vs:cw}{ns:cp},vs.length=ns.length->(∀(j:Nat) v,vs[j]? =some v->∃t,v=.int (ns.getD j 0) t)->IntsAre vs ns
 |[],[],_,_=>.nil
 |v::vs,n::ns,hl,h=>by
  obtain⟨t,e⟩:=h 0 v rfl;have e':v=.int n t:=by simpa using e
  subst e';exact .cons n t (rF (by simpa using hl) λj u hu=>by simpa using h (j+1) u (by simpa using hu))
 |[],_::_,hl,_=>by simp at hl
 |_::_,[],hl,_=>by simp at hl
theorem uc:∀{vs:cw}{ns:cp},IntsAre vs ns->∀i,i<ns.length->∃t,vs.getD i Value.none=.int (ns.getD i 0) t
 |_,_,.nil,i,h=>by simp at h
 |_,_,.cons n t r,0,h=>⟨t,rfl⟩
 |_,_,.cons n t r,i+1,h=>uc r i (by simpa using h)
section
variable {X:Cx}{pins:cm}{σ:L2.St}{H:Hp}{s:cy}{f cell a:cE}{qual:Str}{pa pu pp pS pU xi pT:Pos}{kvs:List (Int×Int)}
theorem yD (hc:X.calm=true) (hu:X.A.units+64<cLine) (gZ:X.A.in1.in1.depth<recursionLimit) (I:Inv X pins σ H s) (hH:H a=some (.dK (sC kvs)))
  (Jx:∃pm c' va,s.heap.get? f=some (kla_obj "<lambda>" qual (jW pa) (ie pu pp pS pU xi pT) kD [(Str.ofString "uses",cell)] pm c' va)/\s.heap.CodeRec (.ref c') qual) (pA:s.heap.IsCell cell (some (.ref a)))
  (h1:1<=kvs.length) (Ap:kvs.length<64) {Q:VK}
  (q:∀(D0:cE) (l:cn),H D0=none->l.Perm (gp kvs)->l.Pairwise (λa b=>HT.lexLt b a=false)->Q (.ref D0) (upd H D0 (.lst (l.map λns=>V.int (ns.getD 1 0))))):
  wpAny (model X.prog X.w) X.A (call (.builtin "sorted") [.ref a] [(Str.ofString "key",.ref f)]) (EP X pins σ Q) X.xe s:=by
 obtain⟨z,lo,AW,rel,dd⟩:=Ka I.fC hH;obtain⟨o,es,ep,ho,hex,hd,Kb,Gn,Hj⟩:=id dd;have Tp:s.heap.DictAt (eG X.prog X.w) a AW ep:=⟨o,es,ho,hex,hd,Kb,Gn,Hj⟩;have hlen:AW.length=kvs.length:=by rw[<-rel.length];unfold sC;rw[ae]
 have hh:X.A.handled=none:=I.ok.hd hc;have la:vW X.prog X.w s.heap f cell a qual pa (ie pu pp pS pU xi pT) AW:=⟨Jx,I.nolimit,pA,dd⟩;have AN:∀kv∈kvs,∃tn,valueAt AW (.inl kv.1)=some (.int kv.2 tn):=λkv OM=>by
  have e:oA (sC kvs) (.inl kv.1)=some (.int kv.2):=ua (by rw[rel.keys];exact Hj) (List.mem_map.mpr ⟨kv,OM,rfl⟩)
  obtain⟨u,hw,tn,eu⟩:=mT.some_of (v:=.int kv.2) (o:=valueAt AW (.inl kv.1)) (by rw[<-e];exact rel.val _)
  exact⟨tn,by rw[hw,eu]⟩
 have isInt:∀(j:Nat) v k x,AW[j]? =some (k,x)->(eG X.prog X.w).is k v=true->∃t,v=.int ((kvs.map (·.1)).getD j 0) t:=λj v k x hk hv=>by
  obtain⟨p,hp,e1,_⟩:=ub rel j (k,x) hk;unfold sC at hp;rw[av]at hp;cases Rh:kvs[j]? with
  |none=>rw[Rh]at hp;cases hp
  |some kv=>
   rw[Rh]at hp;cases hp;have VB:(Sum.inl kv.1:Key)=k:=e1;subst VB;obtain⟨t,e⟩:=Value.isInt_shape (k:=kv.1) (v:=v) hv;exact⟨t,by rw[e,ak,av,Rh];rfl⟩
 have Me:(gp kvs).length=kvs.length:=by unfold gp;rw[ae]
 have Kc:∀i,i<kvs.length->∃kv,kvs[i]? =some kv/\(gp kvs)[i]? =some [-kv.2,kv.1]/\(gp kvs).getD i []=[-kv.2,kv.1]/\(kvs.map (·.1)).getD i 0=kv.1:=λi hi=>by
  refine⟨kvs[i],ah hi,?_,?_,?_⟩
  ·unfold gp;rw[av,ah hi];rfl
  ·unfold gp;rw[ak,av,ah hi];rfl
  ·rw[ak,av,ah hi];rfl
 by_cases h2:2<=kvs.length
 ·obtain⟨m,F⟩:=I.fr;have N:News X.base X.env.locals s.heap (iQ X.base s.heap X.env.locals):=sI;refine Jc F N hh lo Tp (by omega) (by omega) λvs D0 kS e1 h' tk hl hv F' N' l0 l1 uO=>?_
  have zZ:s.heap.get? D0=none:=Heap.get?_none_of_le uO;have rB:∀{h':Heap}{o1 o2:Obj}{eW:cm},Fr X.base X.env.locals h' m->News X.base X.env.locals h' ((kS,o1)::(D0,o2)::(eW++iQ X.base s.heap X.env.locals))->∀b o,b≠X.env.locals->s.heap.get? b=some o->h'.get? b=some o:=λ{h' o1 o2 eW} F' N' b o hb e=>by
   cases g:X.base.get? b with
   |some u=>
    have:=I.bk b u g;rw[e]at this;cases this;exact F'.keep b _ g
   |none=>exact(N' (b,o) (.tail _ (.tail _ (aL _ (kP hb g e))))).1
  have Ri:∀{b:cE}{o:Obj},s.heap.get? b=some o->(∀es ep,o.data≠.dict es ep)->b≠X.env.locals:=λ{b o} e nd zb=>by
   obtain⟨oL,es,ep,hL,NQ,_⟩:=F.ns;rw[zb,hL]at e;cases e;exact nd _ _ NQ
  have stays:∀h' o1 o2 eW,Fr X.base X.env.locals h' m->News X.base X.env.locals h' ((kS,o1)::(D0,o2)::(eW++iQ X.base s.heap X.env.locals))->vW X.prog X.w h' f cell a qual pa (ie pu pp pS pU xi pT) AW:=λh' o1 o2 eW F' N'=>by
   have oJ:=rB F' N';obtain⟨pm,c',va,e,c2,oc,VC,t,zc,e2,r1,r2⟩:=Jx;refine⟨⟨pm,c',va,oJ _ _ (Ri e λ_ _ z=>by cases z) e,c2,oc,VC,t,zc,oJ _ _ (Ri e2 λ_ _ z=>by rw[r1]at z;cases z) e2,r1,r2⟩,I.ok.mod.nolimit.keeps F'.keep,?_,⟨o,es,ep,oJ _ _ (λzz=>by rw[zz,I.free]at hH;cases hH) ho,hex,hd,Kb,Gn,Hj⟩⟩
   obtain⟨Tq,e3,e4⟩:=pA;exact⟨Tq,oJ _ _ (Ri e3 λ_ _ z=>by rw[e4]at z;cases z) e3,e4⟩
  have hints:IntsAre vs (kvs.map (·.1)):=rF (by rw[ae];omega) λj v hj=>by
   obtain⟨k,x,hk,HA⟩:=hv j v hj;exact isInt j v k x hk HA
  refine yC (s:=s) (kvs:=kvs) (news:=iQ X.base s.heap X.env.locals) (e1:=e1) gZ l0 l1 stays AN (λeW e h' tk ht F' N' hk=>?_) kvs [] vs [] 0 h' tk rfl hints .nil F' N' (λp hp=>by cases hp)
  have tl:eW.length=kvs.length:=by rw[ht.length,Me]
  have tJ:∀i,i<kvs.length->∃p,eW[i]? =some p/\(eW.map λp=>Value.ref p.1).getD i Value.none=.ref p.1/\TI h' (.ref p.1) ((gp kvs).getD i []):=λi hi=>by
   obtain⟨kv,_,ek,Rj,_⟩:=Kc i hi;obtain⟨p,hp,x,y,t,u,ep,VD⟩:=ht.get i _ ek;refine⟨p,hp,by rw[ak,av,hp];rfl,p.1,p.2,[.int x t,.int y u],0,rfl,(N' p (.tail _ (.tail _ (bD _ (bh hp))))).1,by rw[ep],by rw[ep],?_⟩
   rw[Rj,VD];exact .cons x t (.cons y u .nil)
  refine J8 (s:={s with heap:=h',toks:=tk}) (λv hv=>?_) λκ hκ=>?_
  ·obtain⟨p,hp,rfl⟩:=List.mem_map.mp hv;obtain⟨i,hi⟩:=bp hp;have VE:i<kvs.length:=by rw[<-tl];exact(List.getElem?_eq_some_iff.mp hi).1
   obtain⟨p',xg,_,ti⟩:=tJ i VE;rw[hi]at xg;cases xg;exact⟨_,ti⟩
  rw[show vs.length=kvs.length by omega]
  have cmp:∀i j (R:Bool->cy->Prop),i<kvs.length->j<kvs.length->R (HT.lexLt ((gp kvs).getD i []) ((gp kvs).getD j [])) {s with heap:=h',toks:=tk}->kas_ask X.prog X.w X.A.in1.in1 κ (eW.map λp=>Value.ref p.1) i j R {s with heap:=h',toks:=tk}:=λi j R hi hj hR=>by
   obtain⟨p,_,ep,tp⟩:=tJ i hi;obtain⟨p',_,Kn,VF⟩:=tJ j hj;show wpAny _ _ (keyLt' _ ((eW.map λp=>Value.ref p.1).getD i Value.none) ((eW.map λp=>Value.ref p.1).getD j Value.none)) _ _ _
   rw[ep,Kn];exact OI tp VF (by show X.A.units+1+1+8<cLine;omega) hκ hR
  refine So.nT (n:=kvs.length) cmp _ (So.tG (by omega)) ?_
  obtain⟨s1,s2⟩:=So.tj (lt:=λi j=>HT.lexLt ((gp kvs).getD i []) ((gp kvs).getD j [])) (rank:=λi=>nU (gp kvs) ((gp kvs).getD i [])) (λi j=>jf (jL _ _) (jL _ _)) kvs.length (by omega)
  generalize So.gN _ (kas_sort kvs.length)=ar at s1 s2;have pm:ar.toList.Perm (List.range kvs.length):=by simpa using Array.perm_iff_toList_perm.mp s1
  have below:∀i∈ar.toList,i<kvs.length:=λi hi=>by simpa using pm.mem_iff.mp hi
  generalize gF:(ar.toList.map λi=>(gp kvs).getD i [])=l'
  have lp:l'.Perm (gp kvs):=by
   rw[<-gF];have:=pm.map λi=>(gp kvs).getD i []
   have e:(List.range kvs.length).map (λi=>(gp kvs).getD i [])=gp kvs:=by rw[<-Me];exact kc (gp kvs) []
   rw[e]at this;exact this
  refine⟨_,_,F',N',.head λp hp=>?_,λh2 c F2 N2=>⟨_,_,F2,N2,.tail (bx l0) (.head λp hp=>?_),λh3 c3 F3 N3=>?_⟩⟩
  ·rcases List.mem_cons.mp hp with rfl|hp
   ·exact aD l0
   ·rcases List.mem_append.mp hp with hp|hp
    ·exact bx (hk p hp)
    ·exact aD (bH (l1 p hp) l0)
  ·rcases List.mem_append.mp hp with hp|hp
   ·exact bx (bH l0 (hk p hp))
   ·exact aD (l1 p hp)
  have hD:H D0=none:=I.fC.fresh uO;have iz:=rB F3 N3;have NT:h3.get? D0=some {cls:=.type "list",data:=.seq (List.toArray (ar.toList.map λi=>vs.getD i Value.none)) c3}:=(N3 _ (.tail _ (.head _))).1
  refine⟨.ref D0,upd H D0 (.lst (l'.map λns=>V.int (ns.getD 1 0))),?_,rfl,q D0 l' hD lp ?_⟩
  ·show Inv X pins σ _ {s with heap:=h3,gens:=s.gens,drawn:=s.drawn,toks:=tk}
   refine I.step (g':=s.gens) (d':=s.drawn) (t':=tk) (ch:=[]) (λ_ z=>nomatch z) (λb o h1 _ _ e _=>iz b o h1 e) (λb o h1 _ _ e _=>⟨o.slots,iz b o h1 e⟩) (λb o _ e hn=>?_) (λb o _ e=>?_) (λb xs e=>?_) (λb o xs e=>?_) (λb ps e=>⟨#[],?_⟩) (λm' hm=>?_) (λb u e=>?_) I.bare
   ·rw[cK (λz=>by rw[z,zZ]at e;cases e)];exact hn
   ·by_cases hb:b=X.env.locals
    ·obtain⟨o',_,_,e',_⟩:=F3.ns;exact⟨o',by rw[hb];exact e'⟩
    ·exact⟨o,iz b o hb e⟩
   ·rw[cK (cP e hD)];exact e
   ·rw[cK (cP e hD)];exact e
   ·rw[cK (cP e hD),e];simp
   ·rw[Ao hm F.ns];exact F3.ns
   ·by_cases hb:b=D0
    ·subst hb;rw[cR]at e;cases e;refine⟨by rw[ae,lp.length_eq,Me];exact bg (je (by omega)),_,c3,?_,NT⟩
     rw[<-gF,aV];have aux:∀k:List Nat,(∀i∈k,i<kvs.length)->Vals (k.map ((λns:cp=>V.int (ns.getD 1 0))∘λi=>(gp kvs).getD i [])) (k.map λi=>vs.getD i Value.none):=λk=>by
      induction k with
      |nil=>intro _;exact .nil
      |cons i k ih=>
       intro hb;obtain⟨kv,_,_,Rj,VG⟩:=Kc i (hb i af);obtain⟨t,et⟩:=uc hints i (by rw[ae];exact hb i af)
       refine .cons ?_ (ih λj hj=>hb j (ai _ hj))
       have ev:((λns:cp=>V.int (ns.getD 1 0))∘λi=>(gp kvs).getD i []) i=V.int kv.1:=by
        show V.int (((gp kvs).getD i []).getD 1 0)=_;rw[Rj];rfl
       have rv:RelV (V.int kv.1) (vs.getD i Value.none):=by rw[et,VG];exact⟨t,rfl⟩
       rw[<-ev]at rv;exact rv
     exact aux ar.toList below
    ·rw[cK hb]at e;refine(I.fC b u e).wq (λk v hk z=>iz k v ?_ z) (λk z=>by rw[cK (cP z hD)];exact z) λk xs z=>by rw[cK (cP z hD)];exact z
     rcases hk with rfl|hk
     ·intro z;rw[z,I.free]at e;cases e
     ·intro z;rw[z,I.free]at hk;cases hk
  ·rw[<-gF,List.pairwise_map,List.pairwise_iff_getElem];intro i j hi hj sU;have sz:ar.size=kvs.length:=by simpa using s1.size_eq
   have vK:i<ar.size:=by simpa using hi
   have Ee:j<ar.size:=by simpa using hj
   have le:=s2 i j (bg sU) (by omega)
   unfold So.kk at le;rw[aT,aT,aU vK,aU Ee]at le;simp only[Option.getD_some]at le;have e:=jf (nss:=gp kvs) (a:=(gp kvs).getD (ar[j]) []) (b:=(gp kvs).getD (ar[i]) []) (jL _ _) (jL _ _);simp only[Array.getElem_toList];rw[e];exact aG (by omega)
 ·have L1:kvs.length=1:=by omega
  obtain⟨kv,rfl⟩:∃kv,kvs=[kv]:=by
   match kvs,L1 with
   |[kv],_=>exact⟨kv,rfl⟩
  refine Gh hh lo Tp (by omega) (λg tk v hk ext=>?_) λD0 v h' c tk hk hD uO keep=>?_
  ·obtain⟨k,x,Po,hv⟩:=hk;obtain⟨t,rfl⟩:=isInt 0 v k x Po hv;have lg:=la.keeps ext;obtain⟨pm,c',va,hf,lZ⟩:=lg.fn;obtain⟨tn,Gk⟩:=AN kv (by simp)
   exact yA (s:={s with heap:=g,toks:=tk}) (p:=kv.1) gZ hf lZ lg.lim lg.cell lg.dict Gk λT h2 PK MB hT e2 uO=>⟨h2,PK,rfl,e2⟩
  ·obtain⟨k,x,Po,hv⟩:=hk;obtain⟨t,rfl⟩:=isInt 0 v k x Po hv;have HY:H D0=none:=I.fC.fresh uO;exact⟨.ref D0,_,I.laid (t':=tk) (o:=.lst ([[-kv.2,kv.1]].map λns=>V.int (ns.getD 1 0))) keep uO ⟨by show(1:Nat)<=_;decide,[.int kv.1 t],c,.cons ⟨t,rfl⟩ .nil,hD⟩,rfl,q D0 [[-kv.2,kv.1]] HY (List.Perm.refl _) (by simp)⟩
end
end ST
namespace DL
open PySem PySem.Spec PyProof.Rows L2
open ST (sC gp)
noncomputable def jP (kvs:List (Int×Int)):D:=.lst (kvs.map λkv=>.tup [.int kv.1,.int kv.2])
noncomputable def pairD:D->Option (Int×Int)
 |.tup [.int a,.int b]=>some (a,b)
 |_=>none
noncomputable def tabs:cv->Option (List (Int×Int))
 |[]=>some []
 |d::r=>(pairD d).bind λp=>(tabs r).map λl=>p::l
noncomputable def xj:D->Option (List (Int×Int))
 |.lst ds=>tabs ds
 |_=>none
theorem yE:∀kvs:List (Int×Int),tabs (kvs.map λkv=>D.tup [.int kv.1,.int kv.2])=some kvs
 |[]=>rfl
 |kv::r=>by
  show(pairD (.tup [.int kv.1,.int kv.2])).bind _=_;rw[show pairD (.tup [.int kv.1,.int kv.2])=some kv from rfl]
  simp only[ao];rw[yE r];rfl
theorem xk (kvs:List (Int×Int)):xj (jP kvs)=some kvs:=yE kvs
theorem yF {a b:List (Int×Int)}(h:jP a=jP b):a=b:=by
 have:=congrArg xj h;rw[xk,xk]at this;exact aS this
theorem Gp {d:D}{p:Int×Int}(h:pairD d=some p):d=.tup [.int p.1,.int p.2]:=by
 unfold pairD at h;split at h
 ·cases h;rfl
 ·cases h
theorem B6:∀{ds:cv}{kvs:List (Int×Int)},tabs ds=some kvs->ds=kvs.map λkv=>D.tup [.int kv.1,.int kv.2]
 |[],_,h=>by cases h;rfl
 |d::r,kvs,h=>by
  unfold tabs at h;cases h1:pairD d with
  |none=>rw[h1]at h;cases h
  |some p=>
   rw[h1]at h;simp only[ao]at h;cases h2:tabs r with
   |none=>rw[h2]at h;cases h
   |some l=>rw[h2]at h;cases h;rw[B6 h2,Gp h1];rfl
theorem B7 {k:D}{kvs:List (Int×Int)}(h:xj k=some kvs):k=jP kvs:=by
 cases k with
 |lst ds=>exact congrArg D.lst (B6 h)
 |_=>cases h
@[reducible] noncomputable def dZ (a:cE):Mem where
 cell:=some a
 face:=some a
 ok:=λC H=>C a=none/\∃kvs,H a=some (.dK kvs)
 has:=λ_ H k=>∀kvs,k=jP kvs->H a=some (.dK (sC kvs))
 rel:=λC H C' H'=>(C a=none/\∃kvs,H a=some (.dK kvs))->C' a=none/\∀u,H a=some u->H' a=some u
 of0:=λ{C H C' H'} e ⟨hc,kvs,hk⟩=>⟨by
  cases q:C' a with
  |none=>rfl
  |some u=>rcases e.n a u q with z|z<;>simp_all,λu q=>e.h a u q⟩
 trans:=λ{C H C' H' C2 H2} r1 r2 ⟨hc,kvs,hk⟩=>by
  obtain⟨a1,a2⟩:=r1 ⟨hc,kvs,hk⟩;obtain⟨b1,b2⟩:=r2 ⟨a1,kvs,a2 _ hk⟩;exact⟨b1,λu q=>b2 u (a2 u q)⟩
 chg:=λ{C H C' H' b o} r hn ⟨hc,kvs,hk⟩=>by
  obtain⟨a1,a2⟩:=r ⟨hc,kvs,hk⟩;exact⟨a1,λu q=>by rw[cK (cP q hn)];exact a2 u q⟩
 give:=λ{C H C' H' b o} r VH hb hx ⟨hc,kvs,hk⟩=>by
  obtain⟨a1,a2⟩:=r ⟨hc,kvs,hk⟩;have ja:a≠b:=λz=>by
   have:=a2 _ hk;rw[z,hb]at this;cases this;cases hx
  exact⟨by rw[cK ja];exact a1,a2⟩
 Pd:=λr ⟨hc,kvs,hk⟩=>⟨(r ⟨hc,kvs,hk⟩).1,kvs,(r ⟨hc,kvs,hk⟩).2 _ hk⟩
 HZ:=λr h hh kvs e=>(r h).2 _ (hh kvs e)
 NC:=λ{C H b o} ⟨hc,kvs,hk⟩ hb=>⟨hc,kvs,by rw[cK (λz=>by subst z;have:=hb _ hk;cases this)];exact hk⟩
 ES:=λ{C H b o k} ⟨hc,Rk,hk⟩ hb hh kvs e=>by rw[cK (λz=>by subst z;have:=hb _ hk;cases this)];exact hh kvs e
 Pe:=λ{C H b o} ⟨hc,kvs,hk⟩ VH hb hx=>⟨by rw[cK (λz=>by subst z;rw[hk]at hb;cases hb;cases hx)];exact hc,kvs,hk⟩
 Ia:=λ_ _ _ _ hh=>hh
noncomputable def sD (i:Nat) (fr:cb):cb:=λδ=>if noOwn δ=true/\i<δ.length then(fr (δ.set i (.memo [jP []]))).bind (Fn i)else none
section
variable {X:Cx}{e:cF}{es:List cF}{p pos pos':Pos}{x:Str}{a:cE}{C0 H0:Hp}{rest:List cG}
theorem B8 {C H C1 H1 C2 H2:Hp}(e1:m3 C H C1 H1) (hn:H a=none) (e2:@Ev (dZ a) C1 H1 C2 H2):m3 C H C2 H2:=by
 letI:=dZ a
 refine⟨e1.c.trans e2.c,λb o q=>?_,e2.s,λb u q=>?_⟩
 ·have hb:b≠a:=λz=>by subst z;rw[hn]at q;cases q
  exact e2.h b o (e1.h b o q) (.inl λz=>hb (aS z).symm)
 ·rcases e2.n b u q with z|z
  ·exact e1.n b u z
  ·exact .inr (e1.h.free z)
theorem xl {B C0 H0 C H C2 H2:Hp}{δ δ':dD}{σ σ':L2.St}{i:Nat}(g:@Gd Mem.keep B C0 H0 δ σ C H) (hn:H a=none) (g2:@Gd (dZ a) B C H δ' σ' C2 H2) (hm:nj (δ'.set i .no)=true):
  @Gd Mem.keep B C0 H0 (δ'.set i .no) σ' C2 H2:=by
 have e1:m3 C0 H0 C H:=(@Gd.ev Mem.keep _ _ _ _ _ _ _ g).rn;have e2:m3 C0 H0 C2 H2:=B8 e1 (e1.h.free hn) (@Gd.ev (dZ a) _ _ _ _ _ _ _ g2);have x2:=@Gd.x (dZ a) _ _ _ _ _ _ _ g2;have own:∀{k:Nat}{ds:cv},(δ'.set i Sl.no)[k]? =some (.own ds)->δ'[k]? =some (.own ds):=λ{k ds} q=>by
  rcases getElem?_set_cases q with⟨_,z⟩|⟨_,z⟩
  ·cases z
  ·exact z
 letI:=Mem.keep
 refine⟨@Gd.b (dZ a) _ _ _ _ _ _ _ g2,e2.up,⟨e2.s,λk d q=>?_,λk ds q=>@Sx.own (dZ a) _ _ _ _ x2 k ds (own q),λk l ds es b q1 q2=>@Sx.wK (dZ a) _ _ _ _ x2 k l ds es b (own q1) (own q2),by rw[List.length_set];exact @Sx.len (dZ a) _ _ _ _ x2,λk ks q=>(vO hm q).elim⟩,λk ds b q1 q2=>?_⟩
 ·rcases getElem?_set_cases q with⟨_,z⟩|⟨_,z⟩
  ·cases z
  ·exact @Sx.dat (dZ a) _ _ _ _ x2 k d z
 ·exact e1.h.free (@Gd.fr (dZ a) _ _ _ _ _ _ _ g2 k ds b (own q1) q2)
theorem AX (i:Nat) {y:Str}{py pd:Pos}{fr:cb}(hN:X.N.Nodup)
  (hr:∀(a:cE) (C1 H1:Hp),H1 a=none->@zC (dZ a) X C1 H1 rest fr) (hi:X.N[i]? =some y:=by rfl) (hx:Loc X.env.scope y:=by first|exact Or.inl rfl|exact Or.inr rfl) (hs:swapsWith (.Dict [] [] pd) (some (.Name y py)) pos.line X.env=pure false:=by rfl) (hf:X.fn y=true\/X.env.scope.names.lookup y=some .local:=by first|exact .inl rfl|exact .inr rfl):
  @zC Mem.keep X C0 H0 (.Assign [.Name y py] (.Dict [] [] pd) pos::rest) (sD i fr):=λB=>by
 have ex:vv X rest (λDn σ H=>∃(a:cE) (C1 H1:Hp),H1 a=none/\@tS (dZ a) B C1 H1 fr Dn σ H):=λpins s σ H Dn I ⟨a,C1,H1,hn,q⟩=>hr a C1 H1 hn B pins s σ H Dn I q
 refine(sM (zI hN hi hx (Ge (pos:=pd)) hs hf) ex).imp λDn σ H ⟨C,δ,r,gd,q,fin⟩=>?_
 unfold sD at q;split at q
 case isFalse=>cases q
 rename_i hc;obtain⟨FJ,hlen⟩:=hc;cases HY:fr (δ.set i (.memo [jP []]))with
 |none=>rw[HY]at q;cases q
 |some r'=>
  rw[HY]at q;simp only[ao]at q;intro t ht;have x0:=@Gd.x Mem.keep _ _ _ _ _ _ _ gd;have sub:=@Sx.sub Mem.keep _ _ _ _ x0;have SQ:C t=none:=sub.free ht;have Rl:dF C (upd H t (.dK [])):=sub.trans (dW ht);have e1:m3 C0 H0 C H:=(@Gd.ev Mem.keep _ _ _ _ _ _ _ gd).rn;have e0:m3 C H C (upd H t (.dK [])):=.gi sub ht;have g1:@Gd (dZ t) B C H (δ.set i (.memo [jP []])) (σ.set i (some (.ref t))) C (upd H t (.dK [])):=by
   letI:=dZ t
   have hl:=@Sx.len Mem.keep _ _ _ _ x0;refine⟨@Gd.b Mem.keep _ _ _ _ _ _ _ gd,e0.up,⟨Rl,λk d z=>?_,λk ds z=>?_,λk l ds es b z=>?_,by simp[hl],λk ks z=>?_⟩,λk ds b z=>?_⟩
   ·rcases getElem?_set_cases z with⟨_,z⟩|⟨hk,z⟩
    ·cases z
    ·obtain⟨v,h1,h2⟩:=@Sx.dat Mem.keep _ _ _ _ x0 k d z;exact⟨v,by rw[aF (Ne.symm hk)];exact h1,h2⟩
   ·rcases getElem?_set_cases z with⟨_,z⟩|⟨hk,z⟩
    ·cases z
    ·exact(tU FJ z).elim
   ·rcases getElem?_set_cases z with⟨_,z⟩|⟨hk,z⟩
    ·cases z
    ·exact(tU FJ z).elim
   ·rcases getElem?_set_cases z with⟨rfl,z'⟩|⟨hk,z⟩
    ·cases z';refine⟨t,rfl,by rw[bc (by rw[<-hl];exact hlen)],⟨SQ,[],cR⟩,λk hk kvs e=>?_⟩
     rw[bu]at hk;subst hk;have:=yF e;subst this;exact cR
    ·obtain⟨b,h1,_⟩:=@Sx.mem Mem.keep _ _ _ _ x0 k ks z;cases h1
   ·rcases getElem?_set_cases z with⟨_,z⟩|⟨hk,z⟩
    ·cases z
    ·exact(tU FJ z).elim
  refine⟨t,C,H,ht,C,_,r',g1,HY,?_⟩;cases r' with
  |next δ'=>
   simp only[Fn]at q;split at q
   ·rename_i hm;cases q;exact λσ' C2 H2 g2=>fin σ' C2 H2 (xl gd ht g2 hm)
   ·cases q
  |ret d=>
   cases q;exact λv C2 H2 ev iv=>fin v C2 H2 (@m3.up _ _ _ _ Mem.keep (B8 e1 (e1.h.free ht) ev)) iv
  |brk δ'=>
   simp only[Fn]at q;split at q
   ·rename_i hm;cases q;exact λσ' C2 H2 g2=>fin σ' C2 H2 (xl gd ht g2 hm)
   ·cases q
  |cont δ'=>
   simp only[Fn]at q;split at q
   ·rename_i hm;cases q;exact λσ' C2 H2 g2=>fin σ' C2 H2 (xl gd ht g2 hm)
   ·cases q
theorem AY (i:Nat) {y:Str}{py pd:Pos}{fr:cb}(hN:X.N.Nodup)
  (hr:∀(a:cE) (C1 H1:Hp),H1 a=none->@sj (dZ a) X C1 H1 rest fr) (hi:X.N[i]? =some y:=by rfl) (hx:Loc X.env.scope y:=by first|exact Or.inl rfl|exact Or.inr rfl) (hs:swapsWith (.Dict [] [] pd) (some (.Name y py)) pos.line X.env=pure false:=by rfl) (hf:X.fn y=true\/X.env.scope.names.lookup y=some .local:=by first|exact .inl rfl|exact .inr rfl):
  @sj Mem.keep X C0 H0 (.Assign [.Name y py] (.Dict [] [] pd) pos::rest) (sD i fr):=
 @sj.mk Mem.keep _ _ _ _ _ (AX i hN (λa C1 H1 hn=>@sj.go (dZ a) _ _ _ _ _ (hr a C1 H1 hn)) hi hx hs hf)
end
end DL
namespace DL
open PySem PySem.Spec PyProof.Rows L2
open ST (sC gp)
noncomputable def AZ (kvs:List (Int×Int)) (p:Int):Int:=((kvs.find? λkv=>decide (kv.1=p)).map (·.2)).getD 0
noncomputable def lK (kvs:List (Int×Int)) (p:Int):List (Int×Int):=
 if(kvs.any λkv=>decide (kv.1=p))=true then kvs.map (λkv=>if kv.1=p then(kv.1,AZ kvs p+1)else kv)else kvs++[(p,AZ kvs p+1)]
theorem Mg (a b:Int):decide ((Sum.inl a:Key)=Sum.inl b)=decide (a=b):=by
 by_cases h:a=b
 ·subst h;simp
 ·rw[aG h,aG (λz=>h (Sum.inl.inj z))]
theorem B9 (p:Int):∀kvs:List (Int×Int),oA (sC kvs) (.inl p)=((kvs.find? λkv=>decide (kv.1=p)).map (·.2)).map V.int
 |[]=>rfl
 |kv::r=>by
  have ih:=B9 p r;unfold sC at ih ⊢;rw[aE,List.find?_cons];by_cases h:kv.1=p
  ·rw[nq (by show(Sum.inl kv.1:Key)=_;rw[h]),aR h];rfl
  ·rw[nr (λz=>h (Sum.inl.inj z)),aG h,ih]
theorem Jd (kvs:List (Int×Int)) (p:Int):(oA (sC kvs) (.inl p)).getD (.int 0)=.int (AZ kvs p):=by
 rw[B9];unfold AZ;cases (kvs.find? λkv=>decide (kv.1=p))<;>rfl
theorem Je (kvs:List (Int×Int)) (p:Int):putK (sC kvs) (.inl p) (.int (AZ kvs p+1))=sC (lK kvs p):=by
 have ha:((sC kvs).any λkv=>decide (kv.1=(Sum.inl p:Key)))=kvs.any λkv=>decide (kv.1=p):=by
  unfold sC;rw[List.any_map]
  congr 1
  funext kv
  exact Mg kv.1 p
 unfold putK lK;rw[ha];split
 ·unfold sC;rw[aV,aV];refine bT λkv _=>?_
  simp only[Function.comp_apply];by_cases h:kv.1=p
  ·rw[if_pos (by rw[h]),if_pos h]
  ·rw[if_neg (λz=>h (Sum.inl.inj z)),if_neg h]
 ·unfold sC;rw[List.map_append];rfl
noncomputable def sE (i:Nat) (f:cc):cb:=λδ=>match δ[i]?,f δ with
 |some (.memo [k]),some (.int p)=>(xj k).bind λkvs=>if kvs.length<1000/\nj (δ.set i .no)=true then some (.next (δ.set i (.memo [jP (lK kvs p)])))else none
 |_,_=>none
section
variable {X:Cx}{o1 o2 k1 k2 e:cF}{p pos pos' apos fu pb pz PL kp:Pos}{a:cE}{C0 H0:Hp}{i j j2:Nat}{f:cc}
theorem DJ (hn:H0 a=none) (hu:X.A.units+64<cLine) (rA:PE X o1 (ij i)) (L1:@PD (dZ a) X k1 f) (m:M2 X o1 "get" apos k1 (.Constant (.int 0) j pz) fu) (rQ:PE X o2 (ij i)) (J4:@PD (dZ a) X k2 f)
  (hs:swapsWith (.BinOp (.Call (.Attribute o1 "get" apos) [k1,.Constant (.int 0) j pz] [] fu) .Add (.Constant (.int 1) j2 PL) pb) (some (.Subscript o2 k2 pos')) pos.line X.env=pure false:=by rfl):
  @PB (dZ a) X C0 H0 (.Assign [.Subscript o2 k2 pos'] (.BinOp (.Call (.Attribute o1 "get" apos) [k1,.Constant (.int 0) j pz] [] fu) .Add (.Constant (.int 1) j2 PL) pb) pos) (sE i f):=λB=>by
 letI:=dZ a
 refine(Jb (by omega) rQ J4 (JE Et (Gf (by omega) rA L1 zH m) zH) hs).imp λDn σ H ⟨C,δ,r,gd,q,fin⟩=>?_
 unfold sE at q;split at q
 case h_2=>cases q
 rename_i k p' hi hf;cases hk:xj k with
 |none=>rw[hk]at q;cases q
 |some kvs=>
  rw[hk]at q;simp only[ao]at q;split at q
  case isFalse=>cases q
  rename_i hc;cases q;have ek:=B7 hk;have at_:∀{C' H':Hp},Gd B C0 H0 δ σ C' H'->σ[i]? =some (some (.ref a))/\C' a=none/\H' a=some (.dK (sC kvs)):=λ{C' H'} g=>by
   obtain⟨a',z1,z2,z3,z4⟩:=g.x.mem i [k] hi;cases z1;exact⟨z2,z3.1,z4 k (by simp) kvs ek⟩
  have lt:kvs.length<sizeLine:=aw hc.1 (by decide)
  have lt':(sC kvs).length<sizeLine:=by unfold sC;rw[ae];exact lt
  refine⟨.ref a,(at_ gd).1,a,rfl,.inl ⟨_,.inl (at_ gd).2.2⟩,C,δ,.int p',gd.x,hf,λv1 C1 H1 e1 i1=>?_⟩
  have g1:=gd.Df e1;have VI:v1=.int p':=by cases i1;rfl
  subst VI;refine⟨oA (sC kvs) (.inl p'),FZ.k (k:=.inl p') (at_ g1).2.2,?_⟩;refine⟨AZ kvs p',1,Jd kvs p',rfl,?_⟩;refine⟨.ref a,(at_ g1).1,C1,δ,.int p',g1.x,hf,λv2 C2 H2 e2 i2=>?_⟩
  have g2:=g1.Df e2;have VJ:v2=.int p':=by cases i2;rfl
  subst VJ;refine⟨a,upd H2 a (.dK (putK (sC kvs) (.inl p') (.int (AZ kvs p'+1)))),rfl,Ga.k (k:=.inl p') (at_ g2).2.2 lt',?_⟩;rw[Je];have hC:=(at_ g2).2.1;have hH:=(at_ g2).2.2;have xs:=g2.x;refine fin σ C2 _ ⟨g2.b,g2.ev.BD hn hC _,⟨λb u z=>?_,λn d z=>?_,λn ds z=>?_,λn l ds es b z1 z2=>?_,by rw[List.length_set];exact xs.len,λn ks z=>?_⟩,λn ds b z1 z2=>?_⟩
  ·rw[cK (λzz=>by rw[zz,hC]at z;cases z)];exact xs.sub b u z
  ·rcases getElem?_set_cases z with⟨_,z⟩|⟨_,z⟩
   ·cases z
   ·exact xs.dat n d z
  ·rcases getElem?_set_cases z with⟨_,z⟩|⟨_,z⟩
   ·cases z
   ·obtain⟨b,ys,y1,y2,y3,y4⟩:=xs.own n ds z;exact⟨b,ys,y1,y2,by rw[cK (λzz=>by rw[zz,hH]at y3;cases y3)];exact y3,y4⟩
  ·rcases getElem?_set_cases z1 with⟨_,z1⟩|⟨_,z1⟩
   ·cases z1
   rcases getElem?_set_cases z2 with⟨_,z2⟩|⟨_,z2⟩
   ·cases z2
   exact xs.wK n l ds es b z1 z2
  ·rcases getElem?_set_cases z with⟨rfl,z'⟩|⟨ja,z'⟩
   ·cases z';refine⟨a,rfl,(at_ g2).1,⟨hC,_,cR⟩,λk' AD Rk e'=>?_⟩
    rw[bu]at AD;subst AD;have:=yF e';subst this;exact cR
   ·exact(vO hc.2 (i:=n) (ds:=ks) (by rw[aF (Ne.symm ja)];exact z')).elim
  ·rcases getElem?_set_cases z1 with⟨_,z1⟩|⟨_,z1⟩
   ·cases z1
   ·exact g2.fr n ds b z1 z2
theorem DK (hn:H0 a=none) (hu:X.A.units+64<cLine) (rA:PE X o1 (ij i)) (L1:@WD (dZ a) X k1 f) (rQ:PE X o2 (ij i)) (J4:@WD (dZ a) X k2 f) (m:M2 X o1 "get" apos k1 (.Constant (.int 0) j pz) fu:=by exact⟨rfl,rfl,rfl,rfl⟩)
  (hs:swapsWith (.BinOp (.Call (.Attribute o1 "get" apos) [k1,.Constant (.int 0) j pz] [] fu) .Add (.Constant (.int 1) j2 PL) pb) (some (.Subscript o2 k2 pos')) pos.line X.env=pure false:=by rfl):
  @WB (dZ a) X C0 H0 (.Assign [.Subscript o2 k2 pos'] (.BinOp (.Call (.Attribute o1 "get" apos) [k1,.Constant (.int 0) j pz] [] fu) .Add (.Constant (.int 1) j2 PL) pb) pos) (sE i f):=by
 letI:=dZ a
 exact⟨DJ hn hu rA L1.go m rQ J4.go hs⟩
noncomputable def nY (i:Nat):bZ:=λδ=>match δ[i]? with
 |some (.memo [k])=>(xj k).bind λkvs=>if 1<=kvs.length/\kvs.length<64 then some ((fV (gp kvs)).map λns=>.int (ns.getD 1 0))else none
 |_=>none
theorem yG {x qual:Str}{c Pt:cE}{rV pa pu pp pS pU xi pT:Pos}(hc:X.calm=true) (hu:X.A.units+64<cLine) (gZ:X.A.depth+5<recursionLimit) (hg:Gl X "sorted") (hm:X.mg "sorted"=none) (hN:X.N[i]? =some (Str.ofString "uses")) (hk:X.env.kindOf (Str.ofString "uses")=some .cell)
  (hT:(x,rV,qual)∈rO) (ht:W.tabIn X.K x=some (c,Pt)) (hq:X.env.qual++Str.ofString "<lambda>"=qual) (vV:X.env.code=.ref c) (rA:PE X o1 (ij i))
  (he:backTo pos (starEach [o1] X.env)=(false,eval o1 X.env)::backTo pos (starEach [] X.env)):
  @PF (dZ a) X (.Call (.Name "sorted" p) [o1] [⟨some "key",.Lambda (jW pa) (ie pu pp pS pU xi pT) kD rV,kp⟩] pos) (nY i):=by
 letI:=dZ a
 intro pins s σ H Q I ⟨C,δ,ds,sx,q,k⟩;unfold nY at q;split at q
 case h_2=>cases q
 rename_i k' hi;cases OM:xj k' with
 |none=>rw[OM]at q;cases q
 |some kvs=>
  rw[OM]at q;simp only[ao]at q;split at q
  case isFalse=>cases q
  rename_i hlen;cases q;obtain⟨a',z1,z2,z3,z4⟩:=sx.mem i [k'] hi;cases z1;have hH:H a=some (.dK (sC kvs)):=z4 k' (by simp) kvs (B7 OM)
  obtain⟨cell,sX⟩:=I.ok.has (Str.ofString "uses") (.inl hk);refine wpAny_Call_Name_kw (oV I hg hm iu ?_);refine callWith_kw ?_ he (by rw[he];rfl) rfl rfl
  rw[he];refine Calls.spliced_cons (gM (rA pins s σ H (λy H'=>y=.ref a/\H'=H) I ⟨.ref a,z2,rfl,rfl⟩) λu s1 ⟨y,H1,I1,r1,e1,e2⟩=>?_)
  subst e1 e2;obtain rfl:u=Value.ref a:=r1;refine Calls.spliced_nil ?_;refine kws_cons (Gj I1 hT ht hq vV sX λH2 s2 f c' L=>kws_nil ?_)
  have Ny:H2 a=some (.dK (sC kvs)):=by
   rcases L.new with e|⟨u,hn,e⟩
   ·rw[e];exact hH
   ·rw[e,cK (cP hH hn)];exact hH
  have pA:s2.heap.IsCell cell (some (.ref a)):=by
   obtain⟨m,hn,hl⟩:=L.inv.loc;obtain⟨u,r,lk⟩:=hl i (Str.ofString "uses") (.ref a) hN z2 (.inr (.inl hk));obtain rfl:u=Value.ref a:=r;rcases lk with⟨AD,_⟩|⟨_,c2,rk,Mr⟩
   ·rw[hk]at AD;cases AD
   ·rw[sX]at rk;cases rk;exact Mr
  obtain⟨pm,va,Jx⟩:=L.fn;refine ST.yD hc hu (by show X.A.depth<_;omega) L.inv Ny ⟨pm,c',va,Jx,L.cd⟩ pA hlen.1 hlen.2 λD0 l hD lp pw=>?_
  have el:l=fV (gp kvs):=fM (λa b h1 h2=>HT.gf h2 h1) (lp.trans (ez _).symm) pw (pP _)
  have PM:m3 C H1 C H2:=by
   rcases L.new with e|⟨u,hn,e⟩
   ·rw[e];exact .refl sx.sub
   ·rw[e];exact .gi sx.sub hn
  have VL:H1 D0=none:=PM.h.free hD;have hv:l.map (λns=>V.int (ns.getD 1 0))=(l.map λns=>ns.getD 1 0).map V.int:=by rw[aV];rfl
  have hd:(fV (gp kvs)).map (λns=>D.int (ns.getD 1 0))=(l.map λns=>ns.getD 1 0).map D.int:=by rw[<-el,aV];rfl
  rw[hv];rw[hd]at k;exact k D0 _ C _ (PM.trans (.gi PM.s hD)).up VL (PM.s.free hD) cR (.ints _)
theorem yH {x qual:Str}{c Pt:cE}{rV pa pu pp pS pU xi pT:Pos}(hc:X.calm=true) (hu:X.A.units+64<cLine) (gZ:X.A.depth+5<recursionLimit) (hg:Gl X "sorted") (hm:X.mg "sorted"=none) (hN:X.N[i]? =some (Str.ofString "uses")) (hk:X.env.kindOf (Str.ofString "uses")=some .cell)
  (hT:(x,rV,qual)∈rO) (ht:W.tabIn X.K x=some (c,Pt)) (hq:X.env.qual++Str.ofString "<lambda>"=qual) (vV:X.env.code=.ref c) (rA:PE X o1 (ij i))
  (he:backTo pos (starEach [o1] X.env)=(false,eval o1 X.env)::backTo pos (starEach [] X.env):=by rfl):
  @WF (dZ a) X (.Call (.Name "sorted" p) [o1] [⟨some "key",.Lambda (jW pa) (ie pu pp pS pU xi pT) kD rV,kp⟩] pos) (nY i):=by
 letI:=dZ a
 exact⟨yG hc hu gZ hg hm hN hk hT ht hq vV rA he⟩
end
end DL
namespace DL
open PySem PySem.Spec PyProof.Rows L2
theorem _root_.L2.fR.VM {k:Nat}{A:cC}(r:fR k A):A.depth+5<recursionLimit:=by have:=r.dp;omega
theorem Gq {K:W.Frag}{x:Str}{f c P:cE}{fd:cz}{oc:cx}{od:cq}{sl:cu}(a:W.nsIn K mainGlobals x=some (some (.ref f))) (l:K.lookup f=some ⟨oc,od,.func fd,sl⟩) (h:W.tabIn K x=some (c,P)):fd.code=.ref c:=by
 unfold W.tabIn at h;rw[a]at h;simp only[l]at h;split at h
 ·rename_i c' hc;split at h
  ·split at h
   ·cases h;exact hc
   ·cases h
  ·cases h
 ·cases h
theorem Jf {P:cA}{w:cB}{K:W.Frag}{mg:ck}{base:Heap}{x qual:Str}{st:cG}{f:cE}{fd:cz}{N ps:List Str}{k:Nat}(F:mZ K x qual st f fd) (S:dw N ps (bt st)) {fb:cb}
  (jB:∀(A:cC) (outer:List Env) (s:cy) (H:Hp) (E:XK),fR k (A.deeper (envOfC qual (bt st) s.heap.objs.size f fd.code))->∀C0 H0,@sj Mem.keep (oW jt P w K mg base N qual (bt st) f fd.code A outer s H E).Bp C0 H0 (dk st) fb):
  ef P w K mg base jt (k+1) f fd ps (pK (il N.length ps.length fb)):=by
 have key:∀fS,fd.code=fS->∀(A:cC) (outer:List Env) (s:cy) (H:Hp) (E:XK),fR k (A.deeper (envOfC qual (bt st) s.heap.objs.size f fS))->∀C0 H0,@sj Mem.keep (oW jt P w K mg base N qual (bt st) f fS A outer s H E).Bp C0 H0 (dk st) fb:=λfS e=>by
  subst e;exact jB
 obtain⟨oc,od,kV,doc,pm,an,fS,ct,HG,rfl,lk,uS⟩:=id F.ex;have key:=key fS rfl;letI:Mem:=Mem.keep
 refine JG lk uS S (λvs H Q E h=>?_) λA outer s H vs Q E hr h=>?_
 ·obtain⟨C,ds,d,_,i,q,_⟩:=h;unfold il at q;split at q
  ·rename_i hl;rw[i.length];exact hl
  ·cases q
 ·have F':∃t,vv (oW jt P w K mg base N qual (bt st) f fS A outer s H E).Bp (dk st) t/\t {nx:=λ_ H'=>Q .fO H',rt:=Q} (start N vs) H:=by
   obtain⟨C,ds,d,sub,i,q,k⟩:=h;refine⟨tS C C H fb,@sj.go Mem.keep _ _ _ _ _ (key A outer s H E hr C H) C,?_⟩;unfold il at q;split at q
   case isFalse=>cases q
   rename_i hl;have hN:ps.length<=N.length:=by have:=S.pre;rw[<-this,bK];omega
   have sx:Sx (ds.map Sl.dat++List.replicate (N.length-ps.length) Sl.no) (L2.start N vs) C H:=by
    have lv:=i.length;refine⟨sub,λn d e=>?_,λn es e=>?_,λn m es fs a e=>?_,?_,λn ks e=>?_⟩
    ·by_cases hn:n<ds.length
     ·rw[aJ (by simpa using hn),av]at e
      cases hd:ds[n]? with
      |none=>rw[hd]at e;cases e
      |some d'=>
       rw[hd]at e;cases e;obtain⟨v,h1,h2⟩:=i.get hd;refine⟨v,?_,h2⟩;unfold L2.start;rw[aJ (by rw[ae,lv];exact hn),av,h1];rfl
     ·rw[aP (by rw[ae];omega),bf]at e
      split at e<;>cases e
    ·by_cases hn:n<ds.length
     ·rw[aJ (by simpa using hn),av]at e
      cases hd:ds[n]? with
      |none=>rw[hd]at e;cases e
      |some d'=>rw[hd]at e;cases e
     ·rw[aP (by rw[ae];omega),bf]at e
      split at e<;>cases e
    ·by_cases hn:n<ds.length
     ·rw[aJ (by simpa using hn),av]at e
      cases hd:ds[n]? with
      |none=>rw[hd]at e;cases e
      |some d'=>rw[hd]at e;cases e
     ·rw[aP (by rw[ae];omega),bf]at e
      split at e<;>cases e
    ·unfold L2.start;simp only[aQ,ae,List.length_replicate];omega
    ·by_cases hn:n<ds.length
     ·rw[aJ (by simpa using hn),av]at e
      cases hd:ds[n]? with
      |none=>rw[hd]at e;cases e
      |some d'=>rw[hd]at e;cases e
     ·rw[aP (by rw[ae];omega),bf]at e
      split at e<;>cases e
   have gd:Gd C C H (ds.map Sl.dat++List.replicate (N.length-ps.length) Sl.no) (L2.start N vs) C H:=⟨dF.refl _,.refl sub,sx,λn es a e _=>by
    obtain⟨a',xs,h1,h2,h3,_⟩:=sx.own n es e;exfalso;by_cases hn:n<ds.length
    ·rw[aJ (by simpa using hn),av]at e
     cases hd:ds[n]? with
     |none=>rw[hd]at e;cases e
     |some d'=>rw[hd]at e;cases e
    ·rw[aP (by rw[ae];omega),bf]at e
     split at e<;>cases e⟩
   split at q
   ·rename_i d' hf;cases q;exact⟨C,_,_,gd,hf,λv C' H' ev i'=>k v C' H' ev.rn i'⟩
   ·rename_i δ' hf;cases q;exact⟨C,_,_,gd,hf,λσ' C' H' g'=>k .fO C' H' g'.ev.rn .fO⟩
   ·cases q
  obtain⟨t,ht,q⟩:=F';exact⟨t,ht.Bp,q⟩
end DL
namespace DL
open PySem PySem.Spec PyProof.Rows L2
noncomputable def nt (f:cc):bZ:=λδ=>match f δ with
 |some (.lst ds)=>if ds.length<=18 then(kb ds).map λnss=>(fV nss.eraseDups).map tupI else none
 |_=>none
theorem yI {a b:cp}(h:tupI a=tupI b):a=b:=by
 have h':a.map D.int=b.map D.int:=by injection h
 have:=congrArg (List.map λd=>match d with|D.int i=>i|_=>0) h'
 simpa [aV,Function.comp_def]using this
theorem kE:∀(n:Nat) (l:cn),l.length<=n->l.eraseDups.Nodup
 |0,l,h=>by
  have:l=[]:=List.length_eq_zero_iff.mp (by omega)
  subst this;exact List.nodup_nil
 |n+1,[],_=>List.nodup_nil
 |n+1,a::l,h=>by
  rw[List.eraseDups_cons];have hl:=aW (λb=> !b==a) l
  refine List.nodup_cons.mpr ⟨λhm=>?_,kE n _ (by simp at h;omega)⟩
  have:=List.mem_filter.mp (List.mem_eraseDups.mp hm);simp at this
section
variable [Mem] {X:Cx}{e:cF}{f:cc}{p p2 pos fu:Pos}
theorem A0 (hc:X.calm=true) (hu:X.A.units+64<cLine) (Rm:Gl X "sorted") (CW:X.mg "sorted"=none) (Rn:Gl X "set") (vE:X.mg "set"=none) (ha:PO X e f)
  (IW:starEach [.Call (.Name "set" p2) [e] [] fu] X.env=(false,eval (.Call (.Name "set" p2) [e] [] fu) X.env)::starEach [] X.env:=by exact eB rfl) (KG:starEach [e] X.env=(false,eval e X.env)::starEach [] X.env:=by exact eB rfl):
  PF X (.Call (.Name "sorted" p) [.Call (.Name "set" p2) [e] [] fu] [] pos) (nt f):=by
 intro pins s σ H Q I ⟨C,δ,ds,x,q,k⟩;unfold nt at q;split at q
 case h_2=>cases q
 rename_i VN hf;split at q
 case isFalse=>cases q
 rename_i VO;cases hn:kb VN with
 |none=>rw[hn]at q;cases q
 |some nss=>
  rw[hn]at q;cases q;have ee:=qN hn;subst ee;refine wpAny_Call_Name_kw (oV I Rm CW iu ?_);refine PyProof.Rows.callWith_builtin1 ?_ IW rfl;rw[IW];show wpAny _ _ (spliced ((false,eval (.Call (.Name "set" p2) [e] [] fu) X.env)::backTo pos (starEach [] X.env))) _ _ s;refine Calls.spliced_cons ?_;refine wpAny_Call_Name_kw (oV I Rn vE PyProof.Rows.boot_set ?_);refine PyProof.Rows.callWith_type1 (gM ((pC ha sQ KG) fu pins s σ H (λvs H1=>∃v C1,vs=[v]/\Ev C H C1 H1/\qz C1 H1 v (.lst (nss.map tupI))) I ⟨C,δ,_,x,hf,λv C1 H1 ev iv=>⟨v,C1,rfl,ev,iv⟩⟩) λus s1 ⟨vs,H1,I1,r1,v,C1,e1,ev,iv⟩=>?_) KG rfl
  subst e1;obtain⟨u,rfl,ru⟩:=r1.one;obtain⟨a,xs,rfl,hq,hl⟩:=iv.list (K:=X.K) ev.s;cases ru;obtain⟨di,rv,pl,hz⟩:=I1.list hq;have VP:xs.length=nss.length:=by rw[hl.length,ae]
  have FN:di.length=nss.length:=by rw[<-rv.length,VP]
  rw[ae]at VO;have itemAt:∀(i:Nat) (w:cx),di[i]? =some w->∃(b:cE) (ns:cp),nss[i]? =some ns/\w=.ref b/\hO X.K H1 b (ns.map V.int)/\Is C1 (.ref b) (tupI ns)/\ST.TI s1.heap w ns:=λi w hw=>by
   have hi:i<nss.length:=by rw[<-FN];exact(List.getElem?_eq_some_iff.mp hw).1
   have xT:nss[i]? =some nss[i]:=ah hi;obtain⟨v,hv,VQ⟩:=hl.get (i:=i) (d:=tupI nss[i]) (by rw[av,xT];rfl)
   obtain⟨w',MC,HQ⟩:=rv.get hv;rw[hw]at MC;cases MC;cases VQ with
   |@tup b ys _ hb l=>
    have ey:=l.kR;subst ey;cases HQ;have Tr:hO X.K H1 b (nss[i].map V.int):=hO.of (ev.s _ _ hb);obtain⟨ts,r2,⟨o,ho,lZ,n,hd⟩,_⟩:=I1.tuple Tr;exact⟨b,nss[i],xT,rfl,Tr,.tup hb l,b,o,ts,n,rfl,ho,lZ,hd,intsAre_of r2⟩
  have hh:X.A.handled=none:=I1.ok.hd hc;refine ST.u6 (val:=nss.map tupI) hh (by omega) pl.isList (by rw[aq,ae];exact FN) (λi w hw=>?_) (by rw[aq];omega) λh' tk J7=>?_
  ·obtain⟨b,ns,h1,h2,h3,h4,h5⟩:=itemAt i w (by simpa using hw)
   have eg:(nss.map tupI).getD i .fO=tupI ns:=by rw[ak,av,h1];rfl
   rw[eg];refine⟨⟨b,h2⟩,?_,h5.ki⟩;unfold tupI dI;have:∀l:cp,g7 (l.map D.int)=0:=λl=>by
    induction l with
    |nil=>unfold g7;rfl
    |cons a l ih=>rw[aE];unfold g7 dI;rw[ih];rfl
   rw[this];decide
  ·obtain⟨⟨BE,ma,yv⟩,keep⟩:=J7;have I2:Inv X pins σ H1 {s1 with heap:=h',toks:=tk}:=I1.kept (t':=tk) λb o eo=>keep b o (az eo) eo
   have FT:BE.length<=nss.length:=by
    have:=bX (l₂:=nss.map tupI) ma.nd λd hd=>(yv d).mp hd
    rwa [ae]at this
   refine Calls.spliced_nil ?_;refine ST.AU (s:={s1 with heap:=h',toks:=tk}) (R0:=λb ns=>Is C1 (.ref b) (tupI ns)) hc hu I2 ma (by omega) (λw hw=>?_) λD0 l hD hR VR BX=>?_
   ·obtain⟨i,hi⟩:=bp (show w∈di by simpa using hw)
    obtain⟨b,ns,_,h2,h3,h4,_⟩:=itemAt i w hi;exact⟨b,ns,h2,h3,h4⟩
   ·have VS:(l.map (·.2)).Nodup:=by
     have h1:((l.map (·.2)).map tupI).Nodup:=by rw[aV];exact BX.nodup_iff.mpr ma.nd
     exact(List.pairwise_map.mp h1).imp λja z=>ja (by rw[z])
    have Ts:(l.map (·.2)).Perm nss.eraseDups:=by
     refine(List.perm_ext_iff_of_nodup VS (kE _ nss (au _))).mpr λns=>?_
     rw[List.mem_eraseDups];have h1:tupI ns∈BE↔ns∈l.map (·.2):=by
      rw[<-BX.mem_iff,List.mem_map,List.mem_map];constructor
      ·rintro⟨p',xg,e'⟩;exact⟨p',xg,yI e'⟩
      ·rintro⟨p',xg,rfl⟩;exact⟨p',xg,rfl⟩
     rw[<-h1,yv,List.mem_map];constructor
     ·rintro⟨m',BK,e'⟩;rw[<-yI e'];exact BK
     ·intro BK;exact⟨ns,BK,rfl⟩
    have es:l.map (·.2)=fV nss.eraseDups:=fM (λa b h1 h2=>HT.gf h2 h1) (Ts.trans (ez _).symm) VR (pP _)
    refine k D0 _ C1 _ (ev.trans (.gi ev.s hD)) (ev.free hD) (ev.s.free hD) cR ?_;show IsL C1 _ ((fV nss.eraseDups).map tupI);rw[<-es,aV];have aux:∀l:List (cE×cp),(∀p∈l,Is C1 (.ref p.1) (tupI p.2))->IsL C1 (l.map λp=>V.ref p.1) (l.map (tupI∘λp=>p.2)):=λl=>by
     induction l with
     |nil=>intro _;exact .nil
     |cons p l ih=>intro h;exact .cons (h p af) (ih λq hq=>h q (ai _ hq))
    exact aux l hR
theorem A2 (hc:X.calm=true) (hu:X.A.units+64<cLine) (Rm:Gl X "sorted") (CW:X.mg "sorted"=none) (Rn:Gl X "set") (vE:X.mg "set"=none) (ha:WO X e f)
  (IW:starEach [.Call (.Name "set" p2) [e] [] fu] X.env=(false,eval (.Call (.Name "set" p2) [e] [] fu) X.env)::starEach [] X.env:=by exact eB rfl) (KG:starEach [e] X.env=(false,eval e X.env)::starEach [] X.env:=by exact eB rfl):
  WF X (.Call (.Name "sorted" p) [.Call (.Name "set" p2) [e] [] fu] [] pos) (nt f):=⟨A0 hc hu Rm CW Rn vE ha.go IW KG⟩
end
end DL
namespace LW
open PySem DL
open L2 (js oX)
theorem xm {xs rest:cv}{ns:cp}(p:(xs++rest).Perm (ns.map D.int)):∃ms rs:cp,xs=ms.map D.int/\rest=rs.map D.int/\(ms++rs).Perm ns:=by
 have all:∀x∈xs++rest,∃i,x=D.int i:=λx hx=>by
  have:=p.mem_iff.mp hx;obtain⟨i,_,e⟩:=List.mem_map.mp this;exact⟨i,e.symm⟩
 have ex:∀l:cv,(∀x∈l,∃i,x=D.int i)->∃ms:cp,l=ms.map D.int:=by
  intro l;induction l with
  |nil=>intro _;exact⟨[],rfl⟩
  |cons a l ih=>
   intro h;obtain⟨i,rfl⟩:=h a af;obtain⟨ms,rfl⟩:=ih λx hx=>h x (ai _ hx)
   exact⟨i::ms,rfl⟩
 obtain⟨ms,e1⟩:=ex xs λx hx=>all x (bD _ hx)
 obtain⟨rs,e2⟩:=ex rest λx hx=>all x (aL _ hx)
 refine⟨ms,rs,e1,e2,?_⟩;subst e1 e2
 let g:D->Int:=λd=>match d with|.int i=>i|_=>0
 have hg:∀l:cp,(l.map D.int).map g=l:=λl=>by rw[aV];exact List.map_id _
 have q:=p.map g;rw[hg,List.map_append,hg,hg]at q;exact q
structure o8 (many:Int) (l:cp):Prop where
 ne:l≠[]
 four:l.length<=4
 rise:l.Pairwise (·< ·)
 ON:∀p∈l,0<=p/\p<many
theorem jh {ns:cp}(h:ns.Nodup):(sortI ns).Pairwise (·< ·):=by
 have h1:=tK ns;have h2:(sortI ns).Nodup:=(sortI_perm ns).nodup_iff.mpr h;have:=List.Pairwise.and h1 h2;exact this.imp λ{a b} ⟨x,y⟩=>by omega
theorem xn {ns:cp}(h:ns.length<64):fF [.lst (ns.map D.int)]=some ((sortI ns).map D.int):=by
 simp only[fF,ae,if_pos h,ip]
theorem vX:∀(a b:cp),jK (a.map D.int) (b.map D.int)=decide (a=b)
 |[],[]=>by unfold jK;simp
 |[],_::_=>by unfold jK;simp
 |_::_,[]=>by unfold jK;simp
 |x::a,y::b=>by
  show jK (.int x::a.map D.int) (.int y::b.map D.int)=_;unfold jK dz;rw[vX a b];by_cases h1:x=y<;>by_cases h2:a=b<;>simp[h1,h2]
theorem yJ (a b:cp):dz (tupI a) (tupI b)=decide (a=b):=by
 unfold tupI;unfold dz;exact vX a b
theorem qU (a:cp) (nss:cn):memD (tupI a) (nss.map tupI)=decide (a∈nss):=by
 unfold memD;rw[List.any_map];induction nss with
 |nil=>simp
 |cons b r ih=>
  rw[bG,ih];simp only[Function.comp_apply,yJ];by_cases h1:b=a
  ·simp[h1]
  ·have:¬ a=b:=λz=>h1 z.symm
   simp[h1,this]
theorem nZ:∀ns:cp,g7 (ns.map D.int)=0
 |[]=>by unfold g7;rfl
 |n::r=>by
  show g7 (.int n::r.map D.int)=0;unfold g7 dI;rw[nZ r];rfl
theorem yK (ns:cp):dI (tupI ns)=1:=by
 unfold tupI dI;rw[nZ]
theorem lL:∀nss:cn,g7 (nss.map tupI)<=1
 |[]=>by show g7 []<=1;unfold g7;omega
 |n::r=>by
  show g7 (tupI n::r.map tupI)<=1;unfold g7;rw[yK];have:=lL r;omega
structure gk (least most mx many:Int) (ls:cn):Prop where
 lo:least<=many
 hi:many<=most
 num:(ls.length:Int)<=mx
 rise:ls.Pairwise (λa b=>HT.lexLt a b=true)
 line:∀l∈ls,o8 many l
noncomputable def A3 (ls:cn):D:=.tup (ls.map tupI)
noncomputable def eE (many:Int) (ls:cn):D:=.tup [.int many,A3 ls]
theorem ud {nss:cn}(h:nss≠[]):intsOf (nss.map tupI)=none:=by
 cases nss with
 |nil=>exact absurd rfl h
 |cons a r=>rfl
theorem qe {nss:cn}(h:nss.length<64) (ja:∀l∈nss,l≠[]):fF [.lst (nss.map tupI)]=some ((fV nss).map tupI):=by
 cases nss with
 |nil=>
  simp[fF,intsOf,sortI,fV]
 |cons a r=>
  simp only[fF,ae,if_pos h,ud (List.cons_ne_nil a r),tL,ao];rw[if_pos];rw[List.all_eq_true];intro x hx;have:=ja x hx;cases x with
  |nil=>exact absurd rfl this
  |cons _ _=>rfl
theorem o9 {nss:cn}(h:nss.Nodup):(fV nss).Pairwise (λa b=>HT.lexLt a b=true):=by
 have h1:=pP nss;have h2:(fV nss).Nodup:=(ez nss).nodup_iff.mpr h;have:=List.Pairwise.and h1 h2;refine this.imp λ{a b} ⟨x,y⟩=>?_
 cases e:HT.lexLt a b with
 |true=>rfl
 |false=>exact absurd (HT.gf e x) y
theorem eF {n np:Nat}{f:cb}{ds:cv}{d:D}(hl:ds.length=np) (h:f (ds.map Sl.dat++List.replicate (n-np) Sl.no)=some (.ret d)):il n np f ds=some d:=by
 unfold il;rw[if_pos hl,h]
theorem cT {f g:cb}{δ δ':dD}(h:f δ=some (.next δ')):eR f g δ=g δ':=by unfold eR;rw[h]
theorem VT {c least most lines many k:Int}{fd:cv}{x7 x8 x9:Sl}(hm:1<=many):∃z:Int,1<=z/\z<=4/\z<=many/\kx [cH c,cH least,cH most,cH lines,cH many,.own fd,cH k,x7,x8,x9,.no]=
   some (.next [cH c,cH least,cH most,cH lines,cH many,.own fd,cH k,cH z,x8,x9,.no]):=by
 have h4:0<(if many<4 then many else 4):=by split<;>omega
 have a1:=sr (c:=c+7*k) (p:=9949) h4;have a2:=su (c:=c+7*k) (p:=9949) h4;refine⟨1+lx (c+7*k) 9949 (if many<4 then many else 4),by omega,?_,?_,?_⟩
 ·have:(if many<4 then many else 4)<=4:=by split<;>omega
  omega
 ·have:(if many<4 then many else 4)<=many:=by split<;>omega
  omega
 ·simp[kx,lq,dA,cM,aX,cL,dC,dt,iR,ow,oI,EV,EX,yi,BS (p:=9949) (by omega) h4]
theorem VU {c least most lines many k z:Int}{fd:cv}{x8 x9:Sl}(h1:1<=z) (h4:z<=4) (hm:z<=many):∃y:Int,1<=y/\y<=4/\y<=many/\fX [cH c,cH least,cH most,cH lines,cH many,.own fd,cH k,cH z,x8,x9,.no]=
   some (.next [cH c,cH least,cH most,cH lines,cH many,.own fd,cH k,cH y,x8,x9,.no]):=by
 by_cases h:0<c%3/\z=1/\1<many
 ·refine⟨2,by omega,by omega,by omega,?_⟩
  obtain⟨a,rfl,b⟩:=h;simp[fX,gH,pq,lq,m4,qB,dA,dC,dt,Lb,uW,oI,EV,Ae,o3,dI,dz,a,b]
 ·refine⟨z,h1,h4,hm,?_⟩;by_cases a:0<c%3
  ·by_cases b:z=1
   ·have d:¬ 1<many:=λd=>h ⟨a,b,d⟩
    simp[fX,gH,pq,kO,m4,qB,dA,dC,dt,Lb,uW,oI,EV,Ae,o3,dI,dz,a,b,d]
   ·have b':(z==1)=false:=by simpa using b
    simp[fX,gH,pq,kO,m4,qB,dA,dC,dt,Lb,uW,oI,EV,Ae,o3,dI,dz,a,b']
  ·simp[fX,gH,pq,kO,m4,qB,dA,dC,dt,Lb,uW,oI,EV,Ae,o3,dI,dz,a]
theorem VV {c least most lines many k z:Int}{fd:cv}{x8 x9:Sl}(h1:1<=many) (hm:many<=60):ky [cH c,cH least,cH most,cH lines,cH many,.own fd,cH k,cH z,x8,x9,.no]=
   some (.next [cH c,cH least,cH most,cH lines,cH many,.own fd,cH k,cH z,.own ((dP 0 many.toNat).map D.int),x9,.no]):=by
 have a:many<1000000:=by omega
 have b: -1000000<many:=by omega
 simp[ky,ir,zD,aX,cL,cU,a,b]
theorem VW {c least most lines many k z:Int}{fd:cv}{x9:Sl}(h1:1<=many) (hm:many<=60) (z1:1<=z) (z2:z<=many):∃ms rs:cp,(ms++rs).Perm (dP 0 many.toNat)/\(ms.length:Int)=z/\
  kz [cH c,cH least,cH most,cH lines,cH many,.own fd,cH k,cH z,.own ((dP 0 many.toNat).map D.int),x9,.no]=
   some (.next [cH c,cH least,cH most,cH lines,cH many,.own fd,cH k,cH z,.own (rs.map D.int),.own (ms.map D.int),.no]):=by
 have hl:((dP 0 many.toNat).map D.int).length=many.toNat:=by rw[ae,eC]
 have yB:((dP 0 z.toNat).map D.int).length=z.toNat:=by rw[ae,eC]
 obtain⟨xs,rest,e,p,l⟩:=BU (j:=10) (m:=8) (f:=cM df (aX (dA iR (dA iR (dt 0) (dA ow (dC (.int 11)) (dt 6))) (dA ow (dC (.int 3)) (dt 10))) (aX (dC (.int 9941)) (aX (dA qH (dt 4) (dt 10)) cL))))
  (δ:=[cH c,cH least,cH most,cH lines,cH many,.own fd,cH k,cH z,.own ((dP 0 many.toNat).map D.int),x9,.no])
  ((dP 0 z.toNat).map D.int) ((dP 0 many.toNat).map D.int) (by omega) (λi d lc hd hk=>by
   rw[av,mh]at hd;split at hd
   ·rename_i hi;cases hd;have hp:0<many-(0+(i:Int)):=by omega
    refine⟨lx (c+11*k+3*(0+(i:Int))) 9941 (many-(0+(i:Int))),?_,sr hp,?_⟩
    ·have xg:0<many-(i:Int):=by omega
     simp[cM,aX,cL,dA,dt,dC,iR,qH,ow,oI,EV,EX,BS (p:=9941) (by omega) xg]
    ·have:=su (c:=c+11*k+3*(0+(i:Int))) (p:=9941) hp;omega
   ·cases hd)
 obtain⟨ms,rs,rfl,rfl,q⟩:=xm p;refine⟨ms,rs,q,?_,?_⟩
 ·rw[ae]at l;omega
 ·have a:many.toNat<1000000:=by omega
  have b:z<1000000:=by omega
  have b': -1000000<z:=by omega
  have b2:z.toNat<1000000:=by omega
  simp only[kz,vL,aK,aM,hl,if_pos a,zD,aX,cL,cU,ao,bB,if_pos (And.intro b b'),yB,if_pos b2,e];rfl
theorem VX {c least most lines many k z:Int}{found:cn}{x8:Sl}{ms:cp}(hz:ms.length<64) (hd:found.length<1000000):gI [cH c,cH least,cH most,cH lines,cH many,.own (found.map tupI),cH k,cH z,x8,.dat (.lst (ms.map D.int)),.no]=
   some (.next [cH c,cH least,cH most,cH lines,cH many,.own ((if sortI ms∈found then found else found++[sortI ms]).map tupI),cH k,cH z,x8,.dat (.lst (ms.map D.int)),.no]):=by
 have FU:g7 (found.map tupI)<=30:=aB (lL _) (by decide)
 have e1:∀x5,(cM iN (aX (dL (eQ fF (aX (dt 9) cL))) cL)) [cH c,cH least,cH most,cH lines,cH many,x5,cH k,cH z,x8,.dat (.lst (ms.map D.int)),.no]=some (tupI (sortI ms)):=λx5=>by
  simp[cM,eQ,aX,cL,dt,dL,xn hz,iN,tupI]
 by_cases h:sortI ms∈found
 ·simp only[gI,kA,pq,qB,dA,e1,dt,aK,aM,ao,yh,oH,if_pos FU,qU,if_pos h,aR h,bU,kO]
 ·simp only[gI,kA,pq,qB,dA,e1,dt,aK,aM,ao,yh,oH,if_pos FU,qU,if_neg h,aG h,Bool.not_false,uY,ae,if_pos hd,List.map_append,aE,List.map_nil];rfl
theorem A4 {c least most lines many k:Int}{found:cn}{x7 x8 x9:Sl}(hm:1<=many) (vE:many<=60) (Hj:found.Nodup) (hl:∀l∈found,o8 many l) (hlen:found.length<60):
  ∃(xo:cn) (y7 y8 y9:Sl),gn [cH c,cH least,cH most,cH lines,cH many,.own (found.map tupI),cH k,x7,x8,x9,.no]=
   some (.next [cH c,cH least,cH most,cH lines,cH many,.own (xo.map tupI),cH k,y7,y8,y9,.no])/\xo.Nodup/\(∀l∈xo,o8 many l)/\xo.length<=found.length+1:=by
 obtain⟨z,z1,z2,z3,e3⟩:=VT (c:=c) (least:=least) (most:=most) (lines:=lines) (k:=k) (fd:=found.map tupI) (x7:=x7) (x8:=x8) (x9:=x9) hm;obtain⟨y,y1,y2,y3,e5⟩:=VU (c:=c) (least:=least) (most:=most) (lines:=lines) (k:=k) (fd:=found.map tupI) (x8:=x8) (x9:=x9) z1 z2 z3;obtain⟨ms,rs,p,l,e7⟩:=VW (c:=c) (least:=least) (most:=most) (lines:=lines) (k:=k) (fd:=found.map tupI) (x9:=x9) hm vE y1 y3;have nd:(ms++rs).Nodup:=p.nodup_iff.mpr ((iA _ _).imp λ{a b} h=>by omega)
 have VY:ms.Nodup:=(List.nodup_append.mp nd).1;have sp:=sortI_perm ms;have ok:o8 many (sortI ms):=by
  refine⟨λz=>?_,?_,jh VY,λx hx=>?_⟩
  ·have:=sp.length_eq;rw[z]at this;simp only[List.length_nil]at this;omega
  ·have:=sp.length_eq;omega
  ·have h1:x∈ms++rs:=bD _ (sp.mem_iff.mp hx);have h2:=(jg _ _ _).mp (p.mem_iff.mp h1);omega
 refine⟨if sortI ms∈found then found else found++[sortI ms],cH y,.own (rs.map D.int),.dat (.lst (ms.map D.int)),?_,?_,?_,?_⟩
 ·unfold gn;rw[cT e3,cT e5,cT (VV hm vE),cT e7];show gI (tu 9 _)=_;have eg:tu 9 [cH c,cH least,cH most,cH lines,cH many,.own (found.map tupI),cH k,cH y,.own (rs.map D.int),.own (ms.map D.int),.no]=[cH c,cH least,cH most,cH lines,cH many,.own (found.map tupI),cH k,cH y,.own (rs.map D.int),.dat (.lst (ms.map D.int)),.no]:=rfl;rw[eg];exact VX (by omega) (by omega)
 ·split
  ·exact Hj
  ·rename_i h;rw[List.nodup_append];exact⟨Hj,(by simp),λa ha b hb=>by rw[bu]at hb;subst hb;intro z;subst z;exact h ha⟩
 ·split
  ·exact hl
  ·intro l gF;rcases List.mem_append.mp gF with h|h
   ·exact hl l h
   ·rw[bu]at h;subst h;exact ok
 ·split
  ·omega
  ·simp
theorem Ca {c least most lines:Int}(h1:1<=least) (h2:least<=most) (h3:most<=60) (h4:0<=lines) (h5:lines<=50):
  ∃many ls,de [.int c,.int least,.int most,.int lines]=some (eE many ls)/\gk least most lines many ls:=by
 have hp:0<most-least+1:=by omega
 have hq:0<lines+1:=by omega
 have a1:=sr (c:=c) (p:=9973) hp;have a2:=su (c:=c) (p:=9973) hp;have b1:=sr (c:=c) (p:=9967) hq;have b2:=su (c:=c) (p:=9967) hq;obtain⟨δ',e,found,y6,y7,y8,y9,hδ,nd,hl,hn⟩:=yr (j:=6) (f:=gn) (λn δ=>∃(found:cn) (y6 y7 y8 y9:Sl),δ=[cH c,cH least,cH most,cH lines,cH (least+lx c 9973 (most-least+1)),.own (found.map tupI),y6,y7,y8,y9,.no]/\found.Nodup/\(∀l∈found,o8 (least+lx c 9973 (most-least+1)) l)/\found.length<=n)
  ((dP 0 (lx c 9967 (lines+1)).toNat).map D.int) 0 [cH c,cH least,cH most,cH lines,cH (least+lx c 9973 (most-least+1)),.own [],.no,.no,.no,.no,.no] ⟨[],.no,.no,.no,.no,rfl,List.nodup_nil,(λ_ h=>nomatch h),au _⟩
  (λi δ d hd ⟨found,y6,y7,y8,y9,hδ,nd,hl,hn⟩=>by
   have hi:=(List.getElem?_eq_some_iff.mp hd).1;rw[ae,eC]at hi;rw[av,mh,if_pos hi]at hd;cases hd;subst hδ;obtain⟨f',z7,z8,z9,e,q1,q2,q3⟩:=A4 (c:=c) (least:=least) (most:=most) (lines:=lines) (k:=0+(i:Int)) (x7:=y7) (x8:=y8) (x9:=y9) (many:=least+lx c 9973 (most-least+1)) (by omega) (by omega) nd hl (by omega)
   exact⟨_,e,f',_,z7,z8,z9,rfl,q1,q2,by omega⟩)
 subst hδ;rw[ae,eC]at hn;refine⟨least+lx c 9973 (most-least+1),fV found,?_,⟨by omega,by omega,?_,o9 nd,λl h=>hl l ((ez found).mem_iff.mp h)⟩⟩
 ·have e1:kn [cH c,cH least,cH most,cH lines,.no,.no,.no,.no,.no,.no,.no]=some (.next [cH c,cH least,cH most,cH lines,cH (least+lx c 9973 (most-least+1)),.no,.no,.no,.no,.no,.no]):=by
   simp[kn,lq,dA,cM,aX,cL,dC,dt,cU,iR,qH,oI,BS (p:=9973) (by omega) hp]
  have e2:kr [cH c,cH least,cH most,cH lines,cH (least+lx c 9973 (most-least+1)),.no,.no,.no,.no,.no,.no]=some (.next [cH c,cH least,cH most,cH lines,cH (least+lx c 9973 (most-least+1)),.own [],.no,.no,.no,.no,.no]):=by
   simp[kr,ir,Af,cL]
  have c1:lx c 9967 (lines+1)<1000000:=by omega
  have c2: -1000000<lx c 9967 (lines+1):=by omega
  have PN:jN [cH c,cH least,cH most,cH lines,cH (least+lx c 9973 (most-least+1)),.own [],.no,.no,.no,.no,.no]=some (.next [cH c,cH least,cH most,cH lines,cH (least+lx c 9973 (most-least+1)),.own (found.map tupI),y6,y7,y8,y9,.no]):=by
   rw[<-e];simp[jN,oy,zD,dA,cM,aX,cL,dC,dt,cU,iR,oI,BS (p:=9967) (by omega) hq,c1,c2]
  refine eF rfl ?_;show ju [cH c,cH least,cH most,cH lines,.no,.no,.no,.no,.no,.no,.no]=_;unfold ju;rw[cT e1,cT e2,cT PN];have hs:=qe (nss:=found) (by omega) (λl h=>(hl l h).ne)
  have z:(jO [cH c,cH least,cH most,cH lines,cH (least+lx c 9973 (most-least+1)),.own (found.map tupI),y6,y7,y8,y9,.no])=some (.ret (eE (least+lx c 9973 (most-least+1)) (fV found))):=by
   simp[jO,eY,fL,cM,eQ,aX,cL,cU,dt,dL,hs,iN,eE,A3]
  exact z
 ·have:=(ez found).length_eq;omega
end LW
namespace LW
open PySem DL
open L2 (js oX)
theorem yL {α:Type}(l:List α) (q:α->Bool):Fc [.lst (l.map λx=>D.bl (q x))]=some (.bl (l.all q)):=by
 have:(l.map λx=>D.bl (q x))=(l.map q).map D.bl:=by rw[aV];rfl
 rw[this];show(lC ((l.map q).map D.bl)).map _=_;rw[Dj];simp[List.all_map]
theorem Jg {α:Type}(l:List α) (i:Nat) (h:i<l.length):js l (i:Int)=l[i]? :=by
 unfold js oX;rw[if_pos (by omega),if_pos (by omega)]
 simp
end LW
namespace GP
open PySem DL
open L2 (js oX)
noncomputable def vY (many:Int) (ls:cn) (f b g:Int):D:=.tup [.tup [.int many,.tup (ls.map tupI)],.int f,.int b,.int g]
noncomputable def kX (m l:cp):Bool:=l.all λp=>decide (p∈m)
noncomputable def g9 (y l:cp):Bool:=l.any λp=>decide (p∈y)
noncomputable def yM (ls:cn) (m y:cp):Option Int:=
 if ls.any (kX m)then some 0 else if ls.all (g9 y)then some 1 else none
theorem yN (p:Int) (m:cp):memD (.int p) (m.map D.int)=decide (p∈m):=by
 unfold memD;rw[List.any_map];induction m with
 |nil=>simp
 |cons b r ih=>
  rw[bG,ih];have:(Function.comp (λe=>dz e (D.int p)) D.int) b=decide (p=b):=by
   show dz (.int b) (.int p)=_;unfold dz;by_cases h:b=p
   ·simp[h]
   ·have h2:¬ p=b:=λz=>h z.symm
    simp[h,h2]
  rw[this];by_cases h1:p=b<;>simp[h1]
theorem Jh (p:Int) (m:cp):Am (.int p) (tupI m)=some (.bl (decide (p∈m))):=by
 unfold Am tupI oH;simp only[ao,LW.nZ,yN];rfl
theorem Gr (p:Int) (m:cp):yh (.int p) (tupI m)=some (.bl (!decide (p∈m))):=by
 unfold yh tupI oH;simp only[ao,LW.nZ,yN];rfl
noncomputable def dS (m y:cp) (w:Int) (c:cp):cp×cp:=if w=0 then(sortI (m++c),y)else(m,sortI (y++c))
theorem qf {ns:cp}(h:ns.length<64):jE [tupI ns]=some ((sortI ns).map D.int):=by
 simp only[jE,tupI,ae,if_pos h,ip,bB]
theorem vZ {a b:cp}(h:a.length+b.length<64):nc (tupI a) (tupI b)=some (tupI (a++b)):=by
 have:a.length+b.length<=1000000:=by omega
 simp[nc,tupI,this]
noncomputable def behind (c:cp) (p:Int):Bool:=match c.getLast? with|none=>true|some q=>decide (q<p)
noncomputable def Mh (some:cp) (c:cp):cn:=(some.filter (behind c)).map λp=>c++[p]
noncomputable def Kd (some:cp) (cs:cn):cn:=cs.flatMap (Mh some)
noncomputable def yO (some:cp):Nat->cn
 |0=>[[]]
 |k+1=>Kd some (yO some k)
noncomputable def mP (many:Int) (m y:cp):cp:=(dP 0 many.toNat).filter λp=> !decide (p∈m++y)
noncomputable def ue (b g w:Int) (free:cp):Nat:=(if(free.length:Int)<(if w=0 then b else g)then(free.length:Int)else(if w=0 then b else g)).toNat
noncomputable def xp (many b g:Int) (m y:cp) (w:Int):cn:=yO (mP many m y) (ue b g w (mP many m y))
theorem DM (many:Int) (m y:cp):(mP many m y).length<=many.toNat:=by
 unfold mP;have:=aW (λp=> !decide (p∈m++y)) (dP 0 many.toNat)
 rwa [eC]at this
abbrev fc (l:cp):Prop:=l.Pairwise (·< ·)
theorem lM:∀{a b:cp},fc a->fc b->(∀p,p∈a↔p∈b)->a=b
 |[],[],_,_,_=>rfl
 |[],y::b,_,_,h=>absurd ((h y).mpr af) (by simp)
 |x::a,[],_,_,h=>absurd ((h x).mp af) (by simp)
 |x::a,y::b,ha,hb,h=>by
  obtain⟨a1,a2⟩:=List.pairwise_cons.mp ha;obtain⟨b1,b2⟩:=List.pairwise_cons.mp hb;have e:x=y:=by
   have h1:=(h x).mp af;have h2:=(h y).mpr af;rcases List.mem_cons.mp h1 with z|z
   ·exact z
   ·rcases List.mem_cons.mp h2 with u|u
    ·exact u.symm
    ·have:=b1 x z;have:=a1 y u;omega
  subst e;rw[lM a2 b2 λp=>?_]
  constructor
  ·intro hp;have:=a1 p hp;rcases List.mem_cons.mp ((h p).mp (ai _ hp))with z|z
   ·omega
   ·exact z
  ·intro hp;have:=b1 p hp;rcases List.mem_cons.mp ((h p).mpr (ai _ hp))with z|z
   ·omega
   ·exact z
noncomputable def code (l:cp):Nat->Nat
 |0=>0
 |k+1=>2*code l k+(if(k:Int)∈l then 1 else 0)
theorem qg (l:cp):∀k,code l k<2^k
 |0=>by simp[code]
 |k+1=>by
  have:=qg l k;unfold code;rw[Nat.pow_succ];split<;>omega
theorem code_inj {a b:cp}:∀k,code a k=code b k->∀i:Nat,i<k->((i:Int)∈a↔(i:Int)∈b)
 |0,_,i,h=>absurd h (by omega)
 |k+1,e,i,h=>by
  unfold code at e;have e1:code a k=code b k:=by split at e<;>split at e<;>omega
  by_cases hi:i=k
  ·subst hi;by_cases h1:(i:Int)∈a<;>by_cases h2:(i:Int)∈b<;>simp[h1,h2]at e ⊢<;>omega
  ·exact code_inj k e1 i (by omega)
structure dR (many:Int) (m y:cp):Prop where
 rm:fc m
 ry:fc y
 im:∀p∈m,0<=p/\p<many
 iy:∀p∈y,0<=p/\p<many
 dj:∀p∈m,p∉y
theorem yP {many:Int}(hm:many<=9) {a b:cp}(ra:fc a) (rb:fc b) (ia:∀p∈a,0<=p/\p<many) (ib:∀p∈b,0<=p/\p<many) (e:code a 9=code b 9):a=b:=by
 refine lM ra rb λp=>?_
 by_cases h:0<=p/\p<9
 ·obtain⟨n,rfl⟩:∃n:Nat,p=(n:Int):=⟨p.toNat,by omega⟩
  exact code_inj 9 e n (by omega)
 ·constructor
  ·intro hp;have:=ia p hp;omega
  ·intro hp;have:=ib p hp;omega
theorem iq {l:cp}(h:fc l):l.Nodup:=h.imp λ{a b} h=>by omega
theorem iA (n:Nat) (lo:Int):fc (dP lo n):=LW.iA n lo
theorem yQ {many:Int}{l:cp}(r:fc l) (i:∀p∈l,0<=p/\p<many):l.length<=many.toNat:=by
 have:l.length<=(dP 0 many.toNat).length:=(iq r).length_le_of_subset λp hp=>(LW.jg _ _ _).mpr (by have:=i p hp;omega)
 rwa [eC]at this
theorem dr {many:Int}{m y:cp}{p:Int}:p∈mP many m y↔(0<=p/\p<many)/\p∉m/\p∉y:=by
 unfold mP;rw[List.mem_filter,LW.jg];simp only[List.mem_append,not_or,Bool.not_eq_true',decide_eq_false_iff_not];constructor
 ·rintro⟨h1,h2⟩;exact⟨by omega,h2⟩
 ·rintro⟨h1,h2⟩;exact⟨by omega,h2⟩
theorem my (many:Int) (m y:cp):fc (mP many m y):=List.Pairwise.filter _ (iA _ _)
theorem qV {s:cp}(hs:fc s):∀(k:Nat) (c:cp),c∈yO s k↔c.length=k/\fc c/\∀p∈c,p∈s
 |0,c=>by
  simp only[yO,bu];constructor
  ·rintro rfl;exact⟨rfl,List.Pairwise.nil,by simp⟩
  ·rintro⟨h,_⟩;exact List.length_eq_zero_iff.mp h
 |k+1,c=>by
  unfold yO Kd;rw[List.mem_flatMap];constructor
  ·rintro⟨b,hb,hc⟩
   obtain⟨l,r,i⟩:=(qV hs k b).mp hb;unfold Mh at hc;obtain⟨p,hp,rfl⟩:=List.mem_map.mp hc;obtain⟨Hm,Pr⟩:=List.mem_filter.mp hp;refine⟨by simp[l],?_,?_⟩
   ·refine List.pairwise_append.mpr ⟨r,List.pairwise_singleton _ _,λa ha q hq=>?_⟩
    rw[bu]at hq;subst hq;rcases List.eq_nil_or_concat b with rfl|⟨l',z,rfl⟩
    ·simp at ha
    ·have hz:z<q:=by simpa [behind]using Pr
     rw[List.concat_eq_append]at ha r;rcases List.mem_append.mp ha with u|u
     ·have:=(List.pairwise_append.mp r).2.2 a u z (by simp);omega
     ·rw[bu]at u;omega
   ·intro q hq;rcases List.mem_append.mp hq with u|u
    ·exact i q u
    ·rw[bu]at u;subst u;exact Hm
  ·rintro⟨l,r,i⟩
   rcases List.eq_nil_or_concat c with rfl|⟨b,z,rfl⟩
   ·simp at l
   ·rw[List.concat_eq_append]at l r i ⊢;obtain⟨r1,_,r3⟩:=List.pairwise_append.mp r;refine⟨b,(qV hs k b).mpr ⟨by simpa using l,r1,λp hp=>i p (bD _ hp)⟩,?_⟩
    unfold Mh;refine List.mem_map.mpr ⟨z,List.mem_filter.mpr ⟨i z (by simp),?_⟩,rfl⟩
    unfold behind;cases hq:b.getLast? with
    |none=>rfl
    |some q=>
     have:q∈b:=List.mem_of_getLast? hq
     simpa using r3 q this z (by simp)
theorem fN {many b g:Int}{m y:cp}{w:Int}{c:cp}:c∈xp many b g m y w↔c.length=ue b g w (mP many m y)/\fc c/\∀p∈c,p∈mP many m y:=qV (my many m y) _ c
theorem bW {l:cp}{p:Int}:p∈sortI l↔p∈l:=(sortI_perm l).mem_iff
theorem n4 {a c:cp}(ra:fc a) (rc:fc c) (d:∀p∈c,p∉a):fc (sortI (a++c)):=by
 refine LW.jh ?_;refine List.nodup_append.mpr ⟨iq ra,iq rc,λp hp q hq e=>?_⟩
 subst e;exact d p hq hp
theorem fi {many b g:Int}{m y:cp}{w:Int}{c:cp}(h:dR many m y) (hc:c∈xp many b g m y w):dR many (dS m y w c).1 (dS m y w c).2:=by
 obtain⟨_,rc,ic⟩:=fN.mp hc;unfold dS;split
 ·refine⟨n4 h.rm rc λp hp=>(dr.mp (ic p hp)).2.1,h.ry,λp hp=>?_,h.iy,λp hp=>?_⟩
  ·rcases List.mem_append.mp (bW.mp hp)with u|u
   ·exact h.im p u
   ·exact(dr.mp (ic p u)).1
  ·rcases List.mem_append.mp (bW.mp hp)with u|u
   ·exact h.dj p u
   ·exact(dr.mp (ic p u)).2.2
 ·refine⟨h.rm,n4 h.ry rc λp hp=>(dr.mp (ic p hp)).2.2,h.im,λp hp=>?_,λp hp hq=>?_⟩
  ·rcases List.mem_append.mp (bW.mp hp)with u|u
   ·exact h.iy p u
   ·exact(dr.mp (ic p u)).1
  ·rcases List.mem_append.mp (bW.mp hq)with u|u
   ·exact h.dj p hp u
   ·exact(dr.mp (ic p u)).2.1 hp
end GP
namespace GP
open PySem DL
open L2 (js oX)
theorem any_congr {α:Type}{f g:α->Bool}:∀{l:List α},(∀a∈l,f a=g a)->l.any f=l.any g
 |[],_=>rfl
 |a::l,h=>by rw[bG,bG,h a af,any_congr λb hb=>h b (ai _ hb)]
structure Gm where
 many:Int
 ls:cn
 b:Int
 g:Int
structure Gm.Ok (G:Gm):Prop where
 m0:0<=G.many
 m9:G.many<=9
 li:∀l∈G.ls,∀p∈l,0<=p/\p<G.many
 ll:∀l∈G.ls,l.length<1000000
 b1:1<=G.b
 b3:G.b<=4
 g1:1<=G.g
 g3:G.g<=4
noncomputable def Gm.hJ (G:Gm) (m y:cp) (w:Int):cn:=xp G.many G.b G.g m y w
noncomputable def Gm.free (G:Gm) (m y:cp):cp:=mP G.many m y
noncomputable def Gm.over (G:Gm) (m y:cp):Option Int:=yM G.ls m y
noncomputable def Gm.rW (G:Gm):Nat->cp->cp->Int->Int
 |0,m,y,w=>match G.over m y with|some i=>i|none=>1-w
 |n+1,m,y,w=>match G.over m y with
  |some i=>i
  |none=>if(G.hJ m y w).any (λc=>G.rW n (dS m y w c).1 (dS m y w c).2 (1-w)==w)then w else 1-w
theorem jF {G:Gm}{m y c:cp}{w:Int}(h:dR G.many m y) (hc:c∈G.hJ m y w):(G.free (dS m y w c).1 (dS m y w c).2).length+c.length<=(G.free m y).length:=by
 obtain⟨_,rc,ic⟩:=fN.mp hc;rw[<-aQ];have mp:∀p,(p∈(dS m y w c).1\/p∈(dS m y w c).2)↔(p∈m\/p∈y\/p∈c):=by
  intro p;unfold dS;split<;>simp only[bW,List.mem_append]
  ·constructor
   ·rintro((a|a)|a)<;>simp[a]
   ·rintro(a|a|a)<;>simp[a]
 refine bX ?_ λp hp=>?_
 ·refine List.nodup_append.mpr ⟨iq (my _ _ _),iq rc,λp hp q hq e=>?_⟩
  subst e;have:=dr.mp hp;rcases(mp p).mpr (.inr (.inr hq))with u|u
  ·exact this.2.1 u
  ·exact this.2.2 u
 ·rcases List.mem_append.mp hp with u|u
  ·have:=dr.mp u;refine dr.mpr ⟨this.1,λz=>?_,λz=>?_⟩
   ·rcases(mp p).mpr (.inl z)with u|u
    ·exact this.2.1 u
    ·exact this.2.2 u
   ·rcases(mp p).mpr (.inr (.inl z))with u|u
    ·exact this.2.1 u
    ·exact this.2.2 u
  ·exact ic p u
theorem lN {G:Gm}(hG:G.Ok) {m y:cp}(h:G.free m y=[]):G.over m y≠none:=by
 unfold Gm.over yM;split
 ·simp
 ·rename_i h1;rw[if_pos ?_]; · simp
  rw[List.all_eq_true];intro l hl;unfold g9;rw[bP];have h2:¬ kX m l=true:=λz=>h1 (bP.mpr ⟨l,hl,z⟩)
  unfold kX at h2;rw[List.all_eq_true]at h2;have:∃p∈l,p∉m:=by
   apply bV
   intro hn;apply h2
   intro p hp;simp only[decide_eq_true_eq];apply bV
   intro z;exact hn ⟨p,hp,z⟩
  obtain⟨p,hp,BX⟩:=this;refine⟨p,hp,?_⟩;simp only[decide_eq_true_eq];apply bV
  intro z;have:p∈G.free m y:=dr.mpr ⟨hG.li l hl p hp,BX,z⟩;rw[h]at this;simp at this
theorem Cb {G:Gm}{m y:cp}{i:Int}(h:G.over m y=some i):i=0\/i=1:=by
 unfold Gm.over yM at h;split at h
 ·cases h;exact .inl rfl
 ·split at h
  ·cases h;exact .inr rfl
  ·cases h
theorem iC {G:Gm}(hG:G.Ok) {m y c:cp}{w:Int}(ho:G.over m y=none) (hc:c∈G.hJ m y w):1<=c.length:=by
 obtain⟨l,_,_⟩:=fN.mp hc;have hf:G.free m y≠[]:=λz=>lN hG z ho
 have h1:1<=(mP G.many m y).length:=by
  cases h:mP G.many m y with
  |nil=>exact absurd h hf
  |cons a r=>simp
 rw[l];unfold ue;have:=hG.b1;have:=hG.g1;split<;>split<;>omega
theorem v3 {G:Gm}(hG:G.Ok):∀(n:Nat) (m y:cp) (w:Int),dR G.many m y->(G.free m y).length<=n->G.rW n m y w=G.rW (n+1) m y w
 |0,m,y,w,h,hn=>by
  have h0:G.free m y=[]:=List.length_eq_zero_iff.mp (by omega)
  unfold Gm.rW;cases ho:G.over m y with
  |some i=>rfl
  |none=>exact absurd ho (lN hG h0)
 |n+1,m,y,w,h,hn=>by
  rw[Gm.rW,Gm.rW];cases ho:G.over m y with
  |some i=>rfl
  |none=>
   have:(G.hJ m y w).any (λc=>G.rW n (dS m y w c).1 (dS m y w c).2 (1-w)==w)=(G.hJ m y w).any (λc=>G.rW (n+1) (dS m y w c).1 (dS m y w c).2 (1-w)==w):=
    any_congr λc hc=>by
     have:=jF h hc;have:=iC hG ho hc;rw[v3 hG n _ _ (1-w) (fi h hc) (by omega)]
   simp only[this]
noncomputable def Gm.dO (G:Gm) (m y:cp) (w:Int):Int:=G.rW 9 m y w
theorem sF {G:Gm}(hG:G.Ok) (m y:cp):(G.free m y).length<=9:=by
 have:=DM G.many m y;have:=hG.m9;unfold Gm.free;omega
theorem xq {G:Gm}(hG:G.Ok) {m y:cp}{w:Int}(h:dR G.many m y):G.dO m y w=(match G.over m y with
  |some i=>i
  |none=>if(G.hJ m y w).any (λc=>G.dO (dS m y w c).1 (dS m y w c).2 (1-w)==w)then w else 1-w):=by
 unfold Gm.dO;rw[v3 hG 9 m y w h (sF hG m y),Gm.rW]
theorem jQ {G:Gm}(hG:G.Ok) {m y:cp}{w:Int}(h:dR G.many m y) (hw:w=0\/w=1):G.dO m y w=0\/G.dO m y w=1:=by
 rw[xq hG h];cases ho:G.over m y with
 |some i=>exact Cb ho
 |none=>simp only;split<;>omega
noncomputable def A5 (m y:cp) (w:Int):D:=.tup [tupI m,tupI y,.int w]
noncomputable def v5:D->Option (cp×cp×Int)
 |.tup [.tup a,.tup b,.int w]=>match intsOf a,intsOf b with|some m,some y=>some (m,y,w)|_,_=>none
 |_=>none
theorem n5 (m y:cp) (w:Int):v5 (A5 m y w)=some (m,y,w):=by
 show(match intsOf (m.map D.int),intsOf (y.map D.int)with|some m,some y=>some (m,y,w)|_,_=>none)=_
 rw[ip,ip]
theorem Gs {k:D}{m y:cp}{w:Int}(h:v5 k=some (m,y,w)):k=A5 m y w:=by
 unfold v5 at h;split at h
 ·rename_i a b w';split at h
  ·rename_i m' y' e1 e2;cases h;rw[gu e1,gu e2];rfl
  ·cases h
 ·cases h
noncomputable def A6 (k:D):Nat:=match v5 k with|some (m,y,w)=>code m 9*1024+code y 9*2+w.toNat|none=>0
open Classical in
noncomputable def Gm.W (G:Gm) (k:D):Option D:=match v5 k with
 |some (m,y,w)=>if dR G.many m y/\(w=0\/w=1)then some (.int (G.dO m y w))else none
 |none=>none
theorem A7 {G:Gm}{k d:D}(h:G.W k=some d):∃m y w,k=A5 m y w/\dR G.many m y/\(w=0\/w=1)/\d=.int (G.dO m y w):=by
 unfold Gm.W at h;split at h
 ·rename_i m y w e;split at h
  ·rename_i hh;cases h;exact⟨m,y,w,Gs e,hh.1,hh.2,rfl⟩
  ·cases h
 ·cases h
theorem Gu {G:Gm}{m y:cp}{w:Int}(h:dR G.many m y) (hw:w=0\/w=1):G.W (A5 m y w)=some (.int (G.dO m y w)):=by
 unfold Gm.W;rw[n5];simp only;rw[if_pos ⟨h,hw⟩]
theorem uf (m y:cp) (w:Int):A6 (A5 m y w)=code m 9*1024+code y 9*2+w.toNat:=by unfold A6;rw[n5]
theorem OO {G:Gm}(hG:G.Ok) (k k' d d':D) (h:G.W k=some d) (h':G.W k'=some d') (e:A6 k=A6 k'):k=k':=by
 obtain⟨m,y,w,rfl,p,hw,rfl⟩:=A7 h;obtain⟨m',y',w',rfl,p',MC,rfl⟩:=A7 h';rw[uf,uf]at e;have a1:=qg y 9;have a2:=qg y' 9;have e1:w=w':=by rcases hw with rfl|rfl<;>rcases MC with rfl|rfl<;>simp at e ⊢<;>omega
 subst e1;have e2:code y 9=code y' 9:=by rcases hw with rfl|rfl<;>simp at e<;>omega
 have e3:code m 9=code m' 9:=by omega
 rw[yP hG.m9 p.rm p'.rm p.im p'.im e3,yP hG.m9 p.ry p'.ry p.iy p'.iy e2]
theorem ug:∀l:cp,lE (l.map D.int)=true
 |[]=>by unfold lE;rfl
 |a::l=>by
  show lE (.int a::l.map D.int)=true;unfold lE ng;rw[ug l];rfl
theorem Ro {G:Gm}(k d:D) (h:G.W k=some d):A6 k<524288:=by
 obtain⟨m,y,w,rfl,p,hw,rfl⟩:=A7 h;rw[uf];have a1:=qg y 9;have a2:=qg m 9;rcases hw with rfl|rfl<;>simp<;>omega
noncomputable def yR:jb:=⟨λ_=>none,λ_=>0,0,by decide,(λ_ _ h=>by cases h),(λ_ _ _ _ h=>by cases h),(λ_ _ h=>by cases h)⟩
noncomputable def linesOf:cv->Option (cn)
 |[]=>some []
 |.tup ds::r=>match intsOf ds,linesOf r with|some l,some ls=>some (l::ls)|_,_=>none
 |_=>none
theorem nu:∀ls:cn,linesOf (ls.map tupI)=some ls
 |[]=>rfl
 |l::ls=>by
  show(match intsOf (l.map D.int),linesOf (ls.map tupI)with|some l,some ls=>some (l::ls)|_,_=>none)=_
  rw[ip,nu ls]
noncomputable def Gv:D->Option Gm
 |.tup [.tup [.int many,.tup ls],.int _,.int b,.int g]=>(linesOf ls).map λls=>⟨many,ls,b,g⟩
 |_=>none
theorem xr (many:Int) (ls:cn) (f b g:Int):Gv (vY many ls f b g)=some ⟨many,ls,b,g⟩:=by
 show(linesOf (ls.map tupI)).map _=_;rw[nu];rfl
end GP
namespace GP
open PySem DL
theorem fill:∀(F:cp) (P:Int->Bool) (k:Nat),F.countP P<=k->k<=F.length->∃c:cp,c.Sublist F/\c.length=k/\∀x∈F,P x=true->x∈c
 |[],P,k,_,h2=>⟨[],List.Sublist.refl _,by simp at h2;simp[h2],by simp⟩
 |x::F,P,k,h1,h2=>by
  rw[List.countP_cons]at h1;rw[ax]at h2;by_cases hx:P x=true
  ·rw[if_pos hx]at h1;obtain⟨c,s,l,i⟩:=fill F P (k-1) (by omega) (by omega)
   refine⟨x::c,s.cons_cons x,by rw[ax];omega,λz hz pz=>?_⟩
   rcases List.mem_cons.mp hz with rfl|u
   ·exact af
   ·exact ai _ (i z u pz)
  ·rw[if_neg hx]at h1;by_cases hk:k<=F.length
   ·obtain⟨c,s,l,i⟩:=fill F P k (by omega) hk
    refine⟨c,s.cons x,l,λz hz pz=>?_⟩
    rcases List.mem_cons.mp hz with rfl|u
    ·exact absurd pz hx
    ·exact i z u pz
   ·exact⟨x::F,List.Sublist.refl _,by rw[ax];omega,λz hz _=>hz⟩
theorem fj {G:Gm}{m y A:cp}{w:Int}(ha:A.length<=(if w=0 then G.b else G.g).toNat):∃c∈G.hJ m y w,∀p∈G.free m y,p∈A->p∈c:=by
 have hc:(G.free m y).countP (λp=>decide (p∈A))<=A.length:=by
  rw[List.countP_eq_length_filter];exact bX ((iq (my _ _ _)).sublist List.filter_sublist) λp hp=>by
   have:=(List.mem_filter.mp hp).2
   simpa using this
 have rk:(G.free m y).countP (λp=>decide (p∈A))<=(G.free m y).length:=List.countP_le_length
 obtain⟨c,s,l,i⟩:=fill (G.free m y) (λp=>decide (p∈A)) (ue G.b G.g w (G.free m y)) (by unfold ue;split<;>omega) (by unfold ue;split<;>omega)
 exact⟨c,fN.mpr ⟨l,(my _ _ _).sublist s,λp hp=>s.subset hp⟩,λp hp hA=>i p hp (by simpa using hA)⟩
theorem iD {G:Gm}(hG:G.Ok) {m y c:cp}{w:Int}(hc:c∈G.hJ m y w):c.length<=(if w=0 then G.b else G.g).toNat:=by
 obtain⟨l,_,_⟩:=fN.mp hc;rw[l];unfold ue;have:=hG.b1;have:=hG.g1;split<;>split<;>omega
theorem jc {G:Gm}{m y:cp}:G.over m y=some 0↔∃l∈G.ls,∀p∈l,p∈m:=by
 unfold Gm.over yM;have e:G.ls.any (kX m)=true↔∃l∈G.ls,∀p∈l,p∈m:=by
  rw[bP];simp only[kX,List.all_eq_true,decide_eq_true_eq]
 constructor
 ·intro h;split at h
  ·rename_i h1;exact e.mp h1
  ·split at h<;>simp at h
 ·intro h;rw[if_pos (e.mpr h)]
theorem lO {G:Gm}{m y:cp}(h0:¬ ∃l∈G.ls,∀p∈l,p∈m):G.over m y=some 1↔∀l∈G.ls,∃p∈l,p∈y:=by
 have h1:¬ G.ls.any (kX m)=true:=by
  intro h;rw[bP]at h;simp only[kX,List.all_eq_true,decide_eq_true_eq]at h;exact h0 h
 unfold Gm.over yM;rw[if_neg h1];have e:G.ls.all (g9 y)=true↔∀l∈G.ls,∃p∈l,p∈y:=by
  rw[List.all_eq_true];simp only[g9,bP,decide_eq_true_eq]
 constructor
 ·intro h;split at h
  ·rename_i h2;exact e.mp h2
  ·simp at h
 ·intro h;rw[if_pos (e.mpr h)]
theorem dU (G:Gm) (m y:cp):G.over m y=some 0\/G.over m y=some 1\/G.over m y=none:=by
 cases h:G.over m y with
 |none=>exact .inr (.inr rfl)
 |some i=>rcases Cb h with rfl|rfl<;>simp
theorem rG {G:Gm}(hG:G.Ok) {m y:cp}(h:dR G.many m y) (ho:G.over m y=none):G.dO m y 0=0↔∃c∈G.hJ m y 0,G.dO (dS m y 0 c).1 (dS m y 0 c).2 1=0:=by
 rw[xq hG h,ho];simp only;have e:(G.hJ m y 0).any (λc=>G.dO (dS m y 0 c).1 (dS m y 0 c).2 (1-0)==0)=true↔∃c∈G.hJ m y 0,G.dO (dS m y 0 c).1 (dS m y 0 c).2 1=0:=by
  rw[bP];simp only[beq_iff_eq];rfl
 constructor
 ·intro h1;split at h1
  ·rename_i h2;exact e.mp h2
  ·omega
 ·intro h1;rw[if_pos (e.mpr h1)]
theorem qh {G:Gm}(hG:G.Ok) {m y:cp}(h:dR G.many m y) (ho:G.over m y=none):G.dO m y 1=0↔∀c∈G.hJ m y 1,G.dO (dS m y 1 c).1 (dS m y 1 c).2 0=0:=by
 rw[xq hG h,ho];simp only;have e:(G.hJ m y 1).any (λc=>G.dO (dS m y 1 c).1 (dS m y 1 c).2 (1-1)==1)=true↔∃c∈G.hJ m y 1,G.dO (dS m y 1 c).1 (dS m y 1 c).2 0=1:=by
  rw[bP];simp only[beq_iff_eq];rfl
 constructor
 ·intro h1 c hc;rcases jQ (w:=0) hG (fi h hc) (.inl rfl)with z|z
  ·exact z
  ·rw[if_pos (e.mpr ⟨c,hc,z⟩)]at h1;omega
 ·intro h1;rw[if_neg]
  ·rfl
  ·intro z;obtain⟨c,hc,u⟩:=e.mp z;have:=h1 c hc;omega
theorem dH {G:Gm}(hG:G.Ok) {m y:cp}{w i:Int}(h:dR G.many m y) (ho:G.over m y=some i):G.dO m y w=i:=by
 rw[xq hG h,ho]
theorem DN (m y c:cp):dS m y 0 c=(sortI (m++c),y):=rfl
theorem DO (m y c:cp):dS m y 1 c=(m,sortI (y++c)):=rfl
structure Gm.Rp (G G':Gm) (π:Int->Int):Prop where
 pr:∀p,0<=p/\p<G.many->0<=π p/\π p<G'.many
 inj:∀p q,0<=p/\p<G.many->0<=q/\q<G.many->π p=π q->p=q
 b:G.b<=G'.b
 g:G'.g<=G.g
 ls:∀l∈G.ls,∃l'∈G'.ls,∀q∈l',∃p∈l,π p=q
noncomputable def back (G:Gm) (π:Int->Int) (c:cp):cp:=(dP 0 G.many.toNat).filter λp=>decide (π p∈c)
theorem back_mem {G:Gm}{π:Int->Int}{c:cp}{p:Int}:p∈back G π c↔(0<=p/\p<G.many)/\π p∈c:=by
 unfold back;rw[List.mem_filter,LW.jg,decide_eq_true_eq];constructor
 ·rintro⟨h1,h2⟩;exact⟨by omega,h2⟩
 ·rintro⟨h1,h2⟩;exact⟨by omega,h2⟩
theorem v7 {π:Int->Int}:∀{l:cp},l.Nodup->(∀p∈l,∀q∈l,π p=π q->p=q)->(l.map π).Nodup
 |[],_,_=>List.nodup_nil
 |a::l,h,i=>by
  obtain⟨h1,h2⟩:=List.nodup_cons.mp h;rw[aE,List.nodup_cons];refine⟨λz=>?_,v7 h2 λp hp q hq=>i p (ai _ hp) q (ai _ hq)⟩
  obtain⟨q,hq,e⟩:=List.mem_map.mp z;have:=i q (ai _ hq) a af e;subst this;exact h1 hq
theorem Gw {G:Gm}{π:Int->Int}{c:cp}(inj:∀p q,0<=p/\p<G.many->0<=q/\q<G.many->π p=π q->p=q):(back G π c).length<=c.length:=by
 have nd:(back G π c).Nodup:=(iq (iA _ _)).sublist List.filter_sublist;have:=bX (v7 nd λp hp q hq e=>inj p q (back_mem.mp hp).1 (back_mem.mp hq).1 e) (l₂:=c) λq hq=>by
  obtain⟨p,hp,rfl⟩:=List.mem_map.mp hq;exact(back_mem.mp hp).2
 rwa [ae]at this
structure Gm.Le (G G':Gm):Prop where
 many:G.many=G'.many
 b:G.b<=G'.b
 g:G'.g<=G.g
 ls:∀l∈G.ls,∃l'∈G'.ls,∀p∈l',p∈l
theorem Gm.Le.refl (G:Gm):G.Le G:=⟨rfl,Int.le_refl _,Int.le_refl _,λl h=>⟨l,h,λ_ h=>h⟩⟩
theorem Gx {G G':Gm}{π:Int->Int}(hG:G.Ok) (uh:G'.Ok) (le:G.Rp G' π):∀(n:Nat) (m y m' y':cp) (w:Int),dR G.many m y->dR G'.many m' y'->(∀p∈m,π p∈m')->(∀p,0<=p/\p<G.many->π p∈y'->p∈y)->(w=0\/w=1)->(G'.free m' y').length<=n->
  G.dO m y w=0->G'.dO m' y' w=0:=by
 intro n;induction n with
 |zero=>
  intro m y m' y' w h h' sm sy hw hn oB;have h0:G'.free m' y'=[]:=List.length_eq_zero_iff.mp (by omega)
  have hf:=lN uh h0;have k0:(∃l∈G.ls,∀p∈l,p∈m)->∃l∈G'.ls,∀p∈l,p∈m':=λ⟨l,hl,hp⟩=>by
   obtain⟨l',gF,s⟩:=le.ls l hl;refine⟨l',gF,λq hq=>?_⟩
   obtain⟨p,xg,rfl⟩:=s q hq;exact sm _ (hp _ xg)
  rcases dU G' m' y' with jJ|jJ|jJ
  ·exact dH uh h' jJ
  ·exfalso;have Eg:¬ ∃l∈G'.ls,∀p∈l,p∈m':=λz=>by rw[jc.mpr z]at jJ;simp at jJ
   have a:=(lO Eg).mp jJ;have n0:¬ ∃l∈G.ls,∀p∈l,p∈m:=λz=>Eg (k0 z)
   have:G.over m y=some 1:=(lO n0).mpr λl hl=>by
    obtain⟨l',gF,s⟩:=le.ls l hl;obtain⟨p,hp,hy⟩:=a l' gF;obtain⟨r,hr,rfl⟩:=s p hp;exact⟨r,hr,sy r (hG.li l hl r hr) hy⟩
   rw[dH hG h this]at oB;omega
  ·exact absurd jJ hf
 |succ n ih=>
  intro m y m' y' w h h' sm sy hw hn oB;have k0:(∃l∈G.ls,∀p∈l,p∈m)->∃l∈G'.ls,∀p∈l,p∈m':=λ⟨l,hl,hp⟩=>by
   obtain⟨l',gF,s⟩:=le.ls l hl;refine⟨l',gF,λq hq=>?_⟩
   obtain⟨p,xg,rfl⟩:=s q hq;exact sm _ (hp _ xg)
  rcases dU G' m' y' with jJ|jJ|jJ
  ·exact dH uh h' jJ
  ·exfalso;have Eg:¬ ∃l∈G'.ls,∀p∈l,p∈m':=λz=>by rw[jc.mpr z]at jJ;simp at jJ
   have a:=(lO Eg).mp jJ;have n0:¬ ∃l∈G.ls,∀p∈l,p∈m:=λz=>Eg (k0 z)
   have:G.over m y=some 1:=(lO n0).mpr λl hl=>by
    obtain⟨l',gF,s⟩:=le.ls l hl;obtain⟨p,hp,hy⟩:=a l' gF;obtain⟨r,hr,rfl⟩:=s p hp;exact⟨r,hr,sy r (hG.li l hl r hr) hy⟩
   rw[dH hG h this]at oB;omega
  ·have Eg:¬ ∃l∈G'.ls,∀p∈l,p∈m':=λz=>by rw[jc.mpr z]at jJ;simp at jJ
   rcases dU G m y with ho|ho|ho
   ·exact absurd (k0 (jc.mp ho)) Eg
   ·rw[dH hG h ho]at oB;omega
   ·rcases hw with rfl|rfl
    ·obtain⟨c,hc,wc⟩:=(rG hG h ho).mp oB;have hl:=iD hG hc;rw[if_pos rfl]at hl;obtain⟨c',lZ,j0⟩:=fj (G:=G') (m:=m') (y:=y') (A:=c.map π) (w:=0) (by rw[if_pos rfl,ae];have:=le.b;omega)
     refine(rG uh h' jJ).mpr ⟨c',lZ,?_⟩;have f1:=jF h' lZ;have f2:=iC uh jJ lZ;refine ih _ _ _ _ 1 (fi h hc) (fi h' lZ) ?_ ?_ (.inr rfl) (by omega) wc
     ·intro p hp;rw[DN]at hp ⊢;rcases List.mem_append.mp (bW.mp hp)with u|u
      ·exact bW.mpr (bD _ (sm p u))
      ·by_cases BK:π p∈m'
       ·exact bW.mpr (bD _ BK)
       ·refine bW.mpr (aL _ (j0 _ ?_ (List.mem_map.mpr ⟨p,u,rfl⟩)));have fr:=dr.mp ((fN.mp hc).2.2 p u);exact dr.mpr ⟨le.pr p fr.1,BK,λz=>fr.2.2 (sy _ fr.1 z)⟩
     ·exact λp hp=>sy p hp
    ·refine(qh uh h' jJ).mpr λc' lZ=>?_
     have hl:=iD uh lZ;rw[if_neg (by omega)]at hl
     obtain⟨c,hc,j0⟩:=fj (G:=G) (m:=m) (y:=y) (A:=back G π c') (w:=1) (by rw[if_neg (by omega)];have:=le.g;have:=Gw (c:=c') le.inj;omega)
     have wc:=(qh hG h ho).mp oB c hc;have f1:=jF h' lZ;have f2:=iC uh jJ lZ;refine ih _ _ _ _ 0 (fi h hc) (fi h' lZ) ?_ ?_ (.inl rfl) (by omega) wc
     ·exact λp hp=>sm p hp
     ·intro p pr hp;rw[DO]at hp ⊢;rcases List.mem_append.mp (bW.mp hp)with u|u
      ·exact bW.mpr (bD _ (sy p pr u))
      ·by_cases hy:p∈y
       ·exact bW.mpr (bD _ hy)
       ·refine bW.mpr (aL _ (j0 _ ?_ (back_mem.mpr ⟨pr,u⟩)));have fr:=dr.mp ((fN.mp lZ).2.2 _ u);exact dr.mpr ⟨pr,λz=>fr.2.1 (sm _ z),hy⟩
theorem mono {G G':Gm}(hG:G.Ok) (uh:G'.Ok) (le:G.Le G') {m y m' y':cp}{w:Int}(h:dR G.many m y) (h':dR G'.many m' y') (sm:∀p∈m,p∈m') (sy:∀p∈y',p∈y) (hw:w=0\/w=1):G.dO m y w=0->G'.dO m' y' w=0:=
 Gx (π:=id) hG uh ⟨λp h=>le.many▸h,λp q _ _ e=>e,le.b,le.g,λl hl=>(le.ls l hl).imp λl' h=>⟨h.1,λq hq=>⟨q,h.2 q hq,rfl⟩⟩⟩ _ m y m' y' w h h' sm (λp _=>sy p) hw (au _)
theorem Ji {G:Gm}(hG:G.Ok) {m y:cp}(h:dR G.many m y) (oB:G.dO m y 1=0):G.dO m y 0=0:=by
 rcases dU G m y with ho|ho|ho
 ·exact dH hG h ho
 ·rw[dH hG h ho]at oB;omega
 ·obtain⟨c,hc,_⟩:=fj (G:=G) (m:=m) (y:=y) (A:=[]) (w:=1) (by simp)
  have:=(qh hG h ho).mp oB c hc;exact mono hG hG (Gm.Le.refl G) (fi h hc) h (λp hp=>hp) (λp hp=>bW.mpr (bD _ hp)) (.inl rfl) this
end GP
namespace GP
open PySem DL
theorem DP {G:Gm}(hG:G.Ok) {m y:cp}{w:Int}(h:dR G.many m y) (hw:w=0\/w=1):¬ G.dO m y w=0↔G.dO m y w=1:=by
 have:=jQ hG h hw;omega
theorem Gy {G:Gm}(hG:G.Ok) (hb:G.b=1) {m y:cp}(h:dR G.many m y) {p:Int}(pr:0<=p/\p<G.many) (py:p∉y) (hw:G.dO m y 0=1):
  ∃m',dR G.many m' y/\(∀r∈m,r∈m')/\p∈m'/\G.dO m' y 1=1:=by
 by_cases pm:p∈m
 ·refine⟨m,h,λ_ z=>z,pm,?_⟩
  refine(DP hG h (.inr rfl)).mp λz=>?_
  have:=Ji hG h z;omega
 ·obtain⟨c,hc,j0⟩:=fj (G:=G) (m:=m) (y:=y) (A:=[p]) (w:=0) (by rw[if_pos rfl,hb];simp)
  have pc:=j0 p (dr.mpr ⟨pr,pm,py⟩) (by simp)
  have ok:=fi h hc;refine⟨(dS m y 0 c).1,ok,λr z=>bW.mpr (bD _ z),bW.mpr (aL _ pc),?_⟩
  refine(DP hG ok (.inr rfl)).mp λz=>?_
  rcases dU G m y with ho|ho|ho
  ·rw[dH hG h ho]at hw;omega
  ·have n0:¬ ∃l∈G.ls,∀p∈l,p∈m:=λz=>by rw[jc.mpr z]at ho;simp at ho
   have a:=(lO n0).mp ho;have n1:¬ ∃l∈G.ls,∀p∈l,p∈(dS m y 0 c).1:=λ⟨l,hl,hp⟩=>by
    obtain⟨q,hq,hy⟩:=a l hl;exact ok.dj q (hp q hq) hy
   have:=dH (w:=1) hG ok ((lO n1).mpr a);have z':G.dO (dS m y 0 c).1 (dS m y 0 c).2 1=0:=z;omega
  ·have:=(rG hG h ho).mpr ⟨c,hc,z⟩;omega
theorem Gz {G:Gm}(hG:G.Ok) (hg:G.g=1) {m y:cp}(h:dR G.many m y) (hw:G.dO m y 1=1):
  ∃A y':cp,A.length<=1/\(∀p∈A,(0<=p/\p<G.many)/\p∉m)/\dR G.many m y'/\(∀r∈y',r∈y\/r∈A)/\G.dO m y' 0=1:=by
 rcases dU G m y with ho|ho|ho
 ·rw[dH hG h ho]at hw;omega
 ·exact⟨[],y,by simp,by simp,h,λr z=>.inl z,dH hG h ho⟩
 ·have:¬ G.dO m y 1=0:=by omega
  rw[qh hG h ho]at this;have:∃c∈G.hJ m y 1,¬ G.dO (dS m y 1 c).1 (dS m y 1 c).2 0=0:=by
   apply bV
   intro hn;apply this
   intro c hc;apply bV
   intro z;exact hn ⟨c,hc,z⟩
  obtain⟨c,hc,z⟩:=this;have ok:=fi h hc;have hl:=iD hG hc;rw[if_neg (by omega),hg]at hl
  refine⟨c,(dS m y 1 c).2,by simpa using hl,λp hp=>?_,ok,λr hr=>List.mem_append.mp (bW.mp hr),(DP hG ok (.inl rfl)).mp z⟩
  have:=dr.mp ((fN.mp hc).2.2 p hp);exact⟨this.1,this.2.1⟩
structure Rq (G1 G2 H:Gm) (σ1 σ2:Int->Int):Prop where
 r1:∀p,0<=p/\p<G1.many->0<=σ1 p/\σ1 p<H.many
 r2:∀p,0<=p/\p<G2.many->0<=σ2 p/\σ2 p<H.many
 i1:∀p q,0<=p/\p<G1.many->0<=q/\q<G1.many->σ1 p=σ1 q->p=q
 i2:∀p q,0<=p/\p<G2.many->0<=q/\q<G2.many->σ2 p=σ2 q->p=q
 dj:∀p q,0<=p/\p<G1.many->0<=q/\q<G2.many->σ1 p≠σ2 q
 VZ:∀q,0<=q/\q<H.many->(∃p,(0<=p/\p<G1.many)/\σ1 p=q)\/(∃p,(0<=p/\p<G2.many)/\σ2 p=q)
 ls:∀l∈H.ls,(∃k∈G1.ls,∀p∈k,σ1 p∈l)\/(∃k∈G2.ls,∀p∈k,σ2 p∈l)
 b1:G1.b=1
 g1:G1.g=1
 b2:G2.b=1
 g2:G2.g=1
 hb:H.b=1
 hg:H.g=1
structure Parts (G1 G2:Gm) (σ1 σ2:Int->Int) (m1 y1 m2 y2 M Y:cp):Prop where
 p1:dR G1.many m1 y1
 p2:dR G2.many m2 y2
 a1:∀p,0<=p/\p<G1.many->σ1 p∈M->p∈m1
 a2:∀p,0<=p/\p<G2.many->σ2 p∈M->p∈m2
 c1:∀p∈y1,σ1 p∈Y
 c2:∀p∈y2,σ2 p∈Y
theorem qi {G1 G2 H:Gm}{σ1 σ2:Int->Int}(h1:G1.Ok) (h2:G2.Ok) (T:Rq G1 G2 H σ1 σ2) {m1 y1 m2 y2 M Y:cp}{w1 w2:Int}(S:Parts G1 G2 σ1 σ2 m1 y1 m2 y2 M Y) (e1:G1.dO m1 y1 w1=1) (e2:G2.dO m2 y2 w2=1):¬ H.over M Y=some 0:=by
 intro ho;obtain⟨l,hl,hp⟩:=jc.mp ho;rcases T.ls l hl with⟨k,hk,s⟩|⟨k,hk,s⟩
 ·have:=dH (w:=w1) h1 S.p1 (jc.mpr ⟨k,hk,λp z=>S.a1 p (h1.li k hk p z) (hp _ (s p z))⟩)
  omega
 ·have:=dH (w:=w2) h2 S.p2 (jc.mpr ⟨k,hk,λp z=>S.a2 p (h2.li k hk p z) (hp _ (s p z))⟩)
  omega
theorem GA {G1 G2 H:Gm}{σ1 σ2:Int->Int}(h1:G1.Ok) (h2:G2.Ok) (hH:H.Ok) (T:Rq G1 G2 H σ1 σ2):∀(n:Nat) (m1 y1 m2 y2 M Y:cp),Parts G1 G2 σ1 σ2 m1 y1 m2 y2 M Y->dR H.many M Y->(H.free M Y).length<=n->
  (G1.dO m1 y1 0=1->G2.dO m2 y2 0=1->H.dO M Y 0=1)/\(G1.dO m1 y1 1=1->G2.dO m2 y2 0=1->H.dO M Y 1=1)/\(G1.dO m1 y1 0=1->G2.dO m2 y2 1=1->H.dO M Y 1=1):=by
 intro n;induction n with
 |zero=>
  intro m1 y1 m2 y2 M Y S P hn;have h0:H.free M Y=[]:=List.length_eq_zero_iff.mp (by omega)
  have hf:=lN hH h0;have key:∀w1 w2 w,G1.dO m1 y1 w1=1->G2.dO m2 y2 w2=1->H.dO M Y w=1:=λw1 w2 w e1 e2=>by
   rcases dU H M Y with ho|ho|ho
   ·exact absurd ho (qi h1 h2 T S e1 e2)
   ·exact dH hH P ho
   ·exact absurd ho hf
  exact⟨key _ _ _,key _ _ _,key _ _ _⟩
 |succ n ih=>
  intro m1 y1 m2 y2 M Y S P hn;refine⟨λe1 e2=>?_,λe1 e2=>?_,λe1 e2=>?_⟩
  ·rcases dU H M Y with ho|ho|ho
   ·exact absurd ho (qi h1 h2 T S e1 e2)
   ·exact dH hH P ho
   ·refine(DP hH P (.inl rfl)).mp λz=>?_
    obtain⟨c,hc,zc⟩:=(rG hH P ho).mp z;have f1:=jF P hc;have f2:=iC hH ho hc;have f3:=iD hH hc;rw[if_pos rfl,T.hb]at f3;obtain⟨q,rfl⟩:∃q,c=[q]:=by
     match c,f2,f3 with
     |[q],_,_=>exact⟨q,rfl⟩
     |[],a,_=>simp at a
     |_::_::_,_,a=>simp at a
    have ok:=fi P hc;have fr:=dr.mp ((fN.mp hc).2.2 q (by simp))
    rcases T.VZ q fr.1 with⟨p,pr,rfl⟩|⟨p,pr,rfl⟩
    ·obtain⟨m',o',s',pm,w'⟩:=Gy h1 T.b1 S.p1 pr (λu=>fr.2.2 (S.c1 p u)) e1
     have:=(ih m' y1 m2 y2 (dS M Y 0 [σ1 p]).1 (dS M Y 0 [σ1 p]).2 ⟨o',S.p2,λr rr hr=>?_,λr rr hr=>?_,S.c1,S.c2⟩ ok (by omega)).2.1 w' e2
     ·omega
     ·rcases List.mem_append.mp (bW.mp hr)with u|u
      ·exact s' r (S.a1 r rr u)
      ·rw[bu]at u;rw[T.i1 r p rr pr u];exact pm
     ·rcases List.mem_append.mp (bW.mp hr)with u|u
      ·exact S.a2 r rr u
      ·rw[bu]at u;exact absurd u.symm (T.dj p r pr rr)
    ·obtain⟨m',o',s',pm,w'⟩:=Gy h2 T.b2 S.p2 pr (λu=>fr.2.2 (S.c2 p u)) e2
     have:=(ih m1 y1 m' y2 (dS M Y 0 [σ2 p]).1 (dS M Y 0 [σ2 p]).2 ⟨S.p1,o',λr rr hr=>?_,λr rr hr=>?_,S.c1,S.c2⟩ ok (by omega)).2.2 e1 w'
     ·omega
     ·rcases List.mem_append.mp (bW.mp hr)with u|u
      ·exact S.a1 r rr u
      ·rw[bu]at u;exact absurd u (T.dj r p rr pr)
     ·rcases List.mem_append.mp (bW.mp hr)with u|u
      ·exact s' r (S.a2 r rr u)
      ·rw[bu]at u;rw[T.i2 r p rr pr u];exact pm
  ·rcases dU H M Y with ho|ho|ho
   ·exact absurd ho (qi h1 h2 T S e1 e2)
   ·exact dH hH P ho
   ·obtain⟨A,y',la,ia,o',s',w'⟩:=Gz h1 T.g1 S.p1 e1;obtain⟨c,hc,j0⟩:=fj (G:=H) (m:=M) (y:=Y) (A:=A.map σ1) (w:=1) (by rw[if_neg (by omega),T.hg,ae];simpa using la)
    refine(DP hH P (.inr rfl)).mp λz=>?_
    have zc:=(qh hH P ho).mp z c hc;have f1:=jF P hc;have f2:=iC hH ho hc;have ok:=fi P hc;have:=(ih m1 y' m2 y2 (dS M Y 1 c).1 (dS M Y 1 c).2 ⟨o',S.p2,S.a1,S.a2,λr hr=>?_,λr hr=>?_⟩ ok (by omega)).1 w' e2
    ·omega
    ·rcases s' r hr with u|u
     ·exact bW.mpr (bD _ (S.c1 r u))
     ·have ra:=ia r u;by_cases hy:σ1 r∈Y
      ·exact bW.mpr (bD _ hy)
      ·exact bW.mpr (aL _ (j0 _ (dr.mpr ⟨T.r1 r ra.1,λv=>ra.2 (S.a1 r ra.1 v),hy⟩) (List.mem_map.mpr ⟨r,u,rfl⟩)))
    ·exact bW.mpr (bD _ (S.c2 r hr))
  ·rcases dU H M Y with ho|ho|ho
   ·exact absurd ho (qi h1 h2 T S e1 e2)
   ·exact dH hH P ho
   ·obtain⟨A,y',la,ia,o',s',w'⟩:=Gz h2 T.g2 S.p2 e2;obtain⟨c,hc,j0⟩:=fj (G:=H) (m:=M) (y:=Y) (A:=A.map σ2) (w:=1) (by rw[if_neg (by omega),T.hg,ae];simpa using la)
    refine(DP hH P (.inr rfl)).mp λz=>?_
    have zc:=(qh hH P ho).mp z c hc;have f1:=jF P hc;have f2:=iC hH ho hc;have ok:=fi P hc;have:=(ih m1 y1 m2 y' (dS M Y 1 c).1 (dS M Y 1 c).2 ⟨S.p1,o',S.a1,S.a2,λr hr=>?_,λr hr=>?_⟩ ok (by omega)).1 e1 w'
    ·omega
    ·exact bW.mpr (bD _ (S.c1 r hr))
    ·rcases s' r hr with u|u
     ·exact bW.mpr (bD _ (S.c2 r u))
     ·have ra:=ia r u;by_cases hy:σ2 r∈Y
      ·exact bW.mpr (bD _ hy)
      ·exact bW.mpr (aL _ (j0 _ (dr.mpr ⟨T.r2 r ra.1,λv=>ra.2 (S.a2 r ra.1 v),hy⟩) (List.mem_map.mpr ⟨r,u,rfl⟩)))
end GP
namespace GP
open PySem DL
open L2 (js oX)
noncomputable def comb:Nat->cp->cn
 |0,_=>[[]]
 |_+1,[]=>[]
 |k+1,p::r=>(comb k r).map (p:: ·)++comb (k+1) r
theorem qj:∀(k:Nat) (s c:cp),c∈comb k s->c.length=k/\∀p∈c,p∈s
 |0,s,c,h=>by simp[comb]at h;subst h;simp
 |k+1,[],c,h=>by simp[comb]at h
 |k+1,q::r,c,h=>by
  simp only[comb,List.mem_append,List.mem_map]at h;rcases h with⟨d,hd,rfl⟩|h
  ·obtain⟨h1,h2⟩:=qj k r d hd;refine⟨by simp[h1],λp hp=>?_⟩
   rcases List.mem_cons.mp hp with rfl|hp
   ·exact af
   ·exact ai _ (h2 p hp)
  ·obtain⟨h1,h2⟩:=qj (k+1) r c h;exact⟨h1,λp hp=>ai _ (h2 p hp)⟩
theorem kF:∀(k:Nat) (s:cp),s.length<k->comb k s=[]
 |0,s,h=>by omega
 |k+1,[],_=>rfl
 |k+1,p::r,h=>by
  simp only[ax]at h;simp[comb,kF k r (by omega),kF (k+1) r (by omega)]
theorem ui:∀(s:cp),comb s.length s=[s]
 |[]=>rfl
 |p::r=>by simp[comb,ui r,kF (r.length+1) r (by omega)]
theorem nv {α β:Type}{f g:α->List β}:∀{l:List α},(∀a∈l,f a=g a)->l.flatMap f=l.flatMap g
 |[],_=>rfl
 |a::l,h=>by rw[List.flatMap_cons,List.flatMap_cons,h a af,nv λb hb=>h b (ai _ hb)]
noncomputable def pe (c:Nat) (ps:cp):cn:=if ps.length<=c then[ps]else comb c ps
theorem yS {c:Nat}{ps:cp}(h:c<=ps.length):pe c ps=comb c ps:=by
 unfold pe;split
 ·have:c=ps.length:=by omega
  rw[this,ui]
 ·rfl
noncomputable def uj (c:Nat) (ps:cp) (k:Nat):cn:=match ps[k]? with
 |some p=>(comb c (ps.drop (k+1))).map (p:: ·)
 |none=>[]
theorem v8:∀(c:Nat) (ps:cp),(List.range (ps.length-c)).flatMap (uj c ps)=comb (c+1) ps
 |c,[]=>by simp[comb]
 |c,p::r=>by
  by_cases h:c<=r.length
  ·have e:(p::r).length-c=(r.length-c)+1:=by simp;omega
   rw[e,List.range_succ_eq_map,List.flatMap_cons,List.flatMap_map];show uj c (p::r) 0++_=(comb c r).map (p:: ·)++comb (c+1) r
   congr 1
   rw[<-v8 c r];exact nv λk _=>rfl
  ·have e:(p::r).length-c=0:=by simp;omega
   rw[e,kF (c+1) (p::r) (by simp;omega)]
   rfl
theorem n6:∀(c:Nat) (ps:cp),(comb c ps).length<=2^ps.length
 |0,ps=>by simp[comb];exact Nat.one_le_two_pow
 |c+1,[]=>by simp[comb]
 |c+1,p::r=>by
  have h1:=n6 c r;have h2:=n6 (c+1) r;simp only[comb,aQ,ae,ax,Nat.pow_succ];omega
theorem GB {c:Nat}{ps:cp}:(pe c ps).length<=2^ps.length:=by
 unfold pe;split
 ·simp;exact Nat.one_le_two_pow
 ·exact n6 c ps
end GP
namespace GP
open PySem DL
def Mi (G:Gm) (m y:cp) (G':Gm) (m' y':cp):Prop:=
 ∀l∈G.ls,(∀p∈l,p∉y)->∃l'∈G'.ls,(∀p∈l',p∉y')/\∀p∈l',p∉m'->p∈l/\p∉m
theorem Mi.jc {G G':Gm}{m y m' y':cp}(h:dR G.many m y) (d:Mi G m y G' m' y') (z:∃l∈G.ls,∀p∈l,p∈m):∃l∈G'.ls,∀p∈l,p∈m':=by
 obtain⟨l,hl,hp⟩:=z;obtain⟨l',gF,_,s⟩:=d l hl λp q=>h.dj p (hp p q)
 refine⟨l',gF,λp q=>?_⟩
 by_cases hm:p∈m'
 ·exact hm
 ·exact absurd (hp p (s p q hm).1) (s p q hm).2
theorem Mi.lO {G G':Gm}{m y m' y':cp}(h:dR G.many m y) (d:Mi G m y G' m' y') (jJ:G'.over m' y'=some 1):G.over m y=some 1:=by
 have Eg:¬ ∃l∈G'.ls,∀p∈l,p∈m':=λz=>by rw[GP.jc.mpr z]at jJ;simp at jJ
 have a:=(GP.lO Eg).mp jJ;refine(GP.lO λz=>Eg (d.jc h z)).mpr λl hl=>?_
 by_cases hy:∃p∈l,p∈y
 ·exact hy
 ·obtain⟨l',gF,o,_⟩:=d l hl λp q u=>hy ⟨p,q,u⟩
  obtain⟨p,q,u⟩:=a l' gF;exact absurd u (o p q)
theorem n8 {G G':Gm}(hG:G.Ok) (uh:G'.Ok) (em:G.many=G'.many) (eb:G.b=G'.b) (eg:G.g=G'.g):∀(n:Nat) (m y m' y':cp) (w:Int),dR G.many m y->dR G'.many m' y'->Mi G m y G' m' y'->(w=0\/w=1)->(G'.free m' y').length<=n->
  G.dO m y w=0->G'.dO m' y' w=0:=by
 intro n;induction n with
 |zero=>
  intro m y m' y' w h h' d hw hn oB;have h0:G'.free m' y'=[]:=List.length_eq_zero_iff.mp (by omega)
  rcases dU G' m' y' with jJ|jJ|jJ
  ·exact dH uh h' jJ
  ·rw[dH hG h (d.lO h jJ)]at oB;omega
  ·exact absurd jJ (lN uh h0)
 |succ n ih=>
  intro m y m' y' w h h' d hw hn oB;rcases dU G' m' y' with jJ|jJ|jJ
  ·exact dH uh h' jJ
  ·rw[dH hG h (d.lO h jJ)]at oB;omega
  ·have Eg:¬ ∃l∈G'.ls,∀p∈l,p∈m':=λz=>by rw[GP.jc.mpr z]at jJ;simp at jJ
   rcases dU G m y with ho|ho|ho
   ·exact absurd (d.jc h (GP.jc.mp ho)) Eg
   ·rw[dH hG h ho]at oB;omega
   ·rcases hw with rfl|rfl
    ·obtain⟨c,hc,wc⟩:=(rG hG h ho).mp oB;have hl:=iD hG hc;rw[if_pos rfl]at hl;obtain⟨c',lZ,j0⟩:=fj (G:=G') (m:=m') (y:=y') (A:=c) (w:=0) (by rw[if_pos rfl];omega)
     refine(rG uh h' jJ).mpr ⟨c',lZ,?_⟩;have f1:=jF h' lZ;have f2:=iC uh jJ lZ;refine ih _ _ _ _ 1 (fi h hc) (fi h' lZ) ?_ (.inr rfl) (by omega) wc
     intro l gF Eh;rw[DN]at Eh ⊢;rw[DN];obtain⟨l',yB,o,s⟩:=d l gF Eh;refine⟨l',yB,o,λp hp hm=>?_⟩
     have nm:p∉m':=λz=>hm (bW.mpr (bD _ z))
     obtain⟨s1,s2⟩:=s p hp nm;refine⟨s1,λz=>?_⟩
     rcases List.mem_append.mp (bW.mp z)with u|u
     ·exact s2 u
     ·exact hm (bW.mpr (aL _ (j0 p (dr.mpr ⟨em▸hG.li l gF p s1,nm,o p hp⟩) u)))
    ·refine(qh uh h' jJ).mpr λc' lZ=>?_
     have hl:=iD uh lZ;rw[if_neg (by omega)]at hl
     obtain⟨c,hc,j0⟩:=fj (G:=G) (m:=m) (y:=y) (A:=c') (w:=1) (by rw[if_neg (by omega)];omega)
     have wc:=(qh hG h ho).mp oB c hc;have f1:=jF h' lZ;have f2:=iC uh jJ lZ;refine ih _ _ _ _ 0 (fi h hc) (fi h' lZ) ?_ (.inl rfl) (by omega) wc
     intro l gF Eh;rw[DO]at Eh ⊢;rw[DO];have hy:∀p∈l,p∉y:=λp q z=>Eh p q (bW.mpr (bD _ z))
     obtain⟨l',yB,o,s⟩:=d l gF hy;refine⟨l',yB,λp hp z=>?_,s⟩
     rcases List.mem_append.mp (bW.mp z)with u|u
     ·exact o p hp u
     ·have fr:=dr.mp ((fN.mp lZ).2.2 p u);obtain⟨s1,s2⟩:=s p hp fr.2.1;exact Eh p s1 (bW.mpr (aL _ (j0 p (dr.mpr ⟨hG.li l gF p s1,s2,hy p s1⟩) u)))
theorem Mj {G G':Gm}(hG:G.Ok) (uh:G'.Ok) (em:G.many=G'.many) (eb:G.b=G'.b) (eg:G.g=G'.g) {m y m' y':cp}{w:Int}(h:dR G.many m y) (h':dR G'.many m' y') (hw:w=0\/w=1) (d:Mi G m y G' m' y') (d':Mi G' m' y' G m y):G.dO m y w=G'.dO m' y' w:=by
 have a:=n8 hG uh em eb eg _ m y m' y' w h h' d hw (au _);have b:=n8 uh hG em.symm eb.symm eg.symm _ m' y' m y w h' h d' hw (au _);rcases jQ hG h hw with z|z
 ·rw[z,a z]
 ·rcases jQ uh h' hw with u|u
  ·rw[b u]at z;omega
  ·rw[z,u]
theorem qW:∀(k:Nat) (ps c:cp),c.Sublist ps->c.length=k->c∈comb k ps
 |0,ps,c,_,h=>by
  have:c=[]:=List.length_eq_zero_iff.mp h;subst this;cases ps<;>simp[comb]
 |k+1,[],c,s,h=>by
  have:=s.length_le;simp at this;subst this;simp at h
 |k+1,p::r,c,s,h=>by
  simp only[comb,List.mem_append,List.mem_map];cases s with
  |cons _ s=>exact .inr (qW (k+1) r c s h)
  |cons_cons _ s=>
   rename_i c';exact .inl ⟨c',qW k r c' s (by simpa using h),rfl⟩
theorem yT {k:Nat}{ps A:cp}(hA:ps.countP (λp=>decide (p∈A))<=k):∃c∈pe k ps,∀p∈ps,p∈A->p∈c:=by
 unfold pe;by_cases h:ps.length<=k
 ·rw[if_pos h];exact⟨ps,by simp,λp hp _=>hp⟩
 ·rw[if_neg h];obtain⟨c,s,l,i⟩:=fill ps (λp=>decide (p∈A)) k hA (by omega)
  exact⟨c,qW k ps c s l,λp hp ha=>i p hp (by simpa using ha)⟩
theorem mB {k:Nat}{ps c:cp}(h:c∈pe k ps):(∀p∈c,p∈ps)/\c.length<=k/\(c.length=k\/∀p∈ps,p∈c):=by
 unfold pe at h;split at h
 ·simp at h;subst h;exact⟨λp hp=>hp,by omega,.inr λp hp=>hp⟩
 ·obtain⟨h1,h2⟩:=qj k ps c h;exact⟨h2,by omega,.inl h1⟩
noncomputable def Gm.at (G:Gm) (L:cn):Gm:={G with ls:=L}
structure Jj (G:Gm) (L:cn):Prop where
 li:∀l∈L,∀p∈l,0<=p/\p<G.many
 ll:∀l∈L,l.length<1000000
theorem Gm.Ok.at {G:Gm}(hG:G.Ok) {L:cn}(h:Jj G L):(G.at L).Ok:=⟨hG.m0,hG.m9,h.li,h.ll,hG.b1,hG.b3,hG.g1,hG.g3⟩
theorem fQ (many:Int):dR many [] []:=⟨List.Pairwise.nil,List.Pairwise.nil,(λp h=>by cases h),(λp h=>by cases h),λp h=>by cases h⟩
theorem quick {G:Gm}(hG:G.Ok) {m y l:cp}(h:dR G.many m y) (hl:l∈G.ls) (hy:∀p∈l,p∉y) (hb:l.length<=G.b.toNat):G.dO m y 0=0:=by
 rcases dU G m y with ho|ho|ho
 ·exact dH hG h ho
 ·exfalso;have n0:¬ ∃l∈G.ls,∀p∈l,p∈m:=λz=>by rw[jc.mpr z]at ho;simp at ho
  obtain⟨p,hp,u⟩:=(lO n0).mp ho l hl;exact hy p hp u
 ·obtain⟨c,hc,j0⟩:=fj (G:=G) (m:=m) (y:=y) (A:=l) (w:=0) (by rw[if_pos rfl];exact hb)
  refine(rG hG h ho).mpr ⟨c,hc,dH hG (fi h hc) (jc.mpr ⟨l,hl,λp hp=>?_⟩)⟩
  rw[DN];by_cases hm:p∈m
  ·exact bW.mpr (bD _ hm)
  ·exact bW.mpr (aL _ (j0 p (dr.mpr ⟨hG.li l hl p hp,hm,hy p hp⟩) hp))
theorem v9 {G:Gm}{L:cn}(h1:L≠[]) (h2:[]∉L):(G.at L).over [] []=none:=by
 have n0:¬ ∃l∈(G.at L).ls,∀p∈l,p∈([]:cp):=λ⟨l,hl,hp⟩=>by
  cases l with
  |nil=>exact h2 hl
  |cons a r=>exact absurd (hp a af) (by simp)
 rcases dU (G.at L) [] []with ho|ho|ho
 ·exact absurd (jc.mp ho) n0
 ·cases L with
  |nil=>exact absurd rfl h1
  |cons a r=>
   obtain⟨p,_,u⟩:=(lO n0).mp ho a af;cases u
 ·exact ho
section
variable {G:Gm}(hG:G.Ok) {L:cn}(hL:Jj G L) (h1:L≠[]) (h2:[]∉L) {ps:cp}(nd:ps.Nodup) (zE:∀p,p∈ps↔∃l∈L,p∈l)
include hG hL zE
theorem ny {c:cp}(hc:∀p∈c,p∈ps) (hn:c.Nodup):dR G.many (sortI c) []/\dR G.many [] (sortI c):=by
 have r:fc (sortI c):=LW.jh hn;have i:∀p∈sortI c,0<=p/\p<G.many:=λp hp=>by
  obtain⟨l,hl,xg⟩:=(zE p).mp (hc p (bW.mp hp));exact hL.li l hl p xg
 exact⟨⟨r,List.Pairwise.nil,i,(λp h=>by cases h),λp _ h=>by cases h⟩,⟨List.Pairwise.nil,r,(λp h=>by cases h),i,λp h=>by cases h⟩⟩
include nd in
theorem count_le {c:cp}:ps.countP (λp=>decide (p∈c))<=c.length:=by
 rw[List.countP_eq_length_filter];exact bX (nd.sublist List.filter_sublist) λp hp=>by
  have:=(List.mem_filter.mp hp).2
  simpa using this
theorem lP {k:Nat}{c:cp}(nd:ps.Nodup) (h:c∈pe k ps):c.Nodup:=by
 unfold pe at h;split at h
 ·simp at h;subst h;exact nd
 ·have:∀(k:Nat) (ps c:cp),c∈comb k ps->c.Sublist ps:=by
   intro k ps;induction ps generalizing k with
   |nil=>intro c h;cases k<;>simp[comb]at h;subst h;exact List.Sublist.refl _
   |cons p r ih=>
    intro c h;cases k with
    |zero=>simp[comb]at h;subst h;exact List.nil_sublist _
    |succ k=>
     simp only[comb,List.mem_append,List.mem_map]at h;rcases h with⟨d,hd,rfl⟩|h
     ·exact(ih k d hd).cons_cons p
     ·exact(ih (k+1) c h).cons p
  exact nd.sublist (this k ps c h)
include h1 h2 nd in
theorem GC:(G.at L).dO [] [] 0=0↔∃c∈pe G.b.toNat ps,(G.at L).dO (sortI c) [] 1=0:=by
 have hA:=hG.at hL;have p0:dR (G.at L).many [] []:=fQ _;rw[rG hA p0 (v9 h1 h2)];constructor
 ·rintro⟨c,hc,wc⟩
  have hl:=iD hA hc;rw[if_pos rfl]at hl;have cnt:=count_le hG hL nd zE (c:=c);obtain⟨d,hd,j0⟩:=yT (k:=G.b.toNat) (ps:=ps) (A:=c) (aB cnt hl);have pd:=(ny hG hL zE (mB hd).1 (lP hG hL zE nd hd)).1;refine⟨d,hd,n8 hA hA rfl rfl rfl _ _ _ _ _ 1 (fi p0 hc) pd ?_ (.inr rfl) (au _) wc⟩;intro l gF Eh;refine⟨l,gF,(λp hp z=>by cases z),λp hp hm=>⟨hp,λz=>?_⟩⟩
  rw[DN]at z;rcases List.mem_append.mp (bW.mp z)with u|u
  ·cases u
  ·exact hm (bW.mpr (j0 p ((zE p).mpr ⟨l,gF,hp⟩) u))
 ·rintro⟨d,hd,wd⟩
  have pd:=(ny hG hL zE (mB hd).1 (lP hG hL zE nd hd)).1;obtain⟨c,hc,j0⟩:=fj (G:=G.at L) (m:=[]) (y:=[]) (A:=d) (w:=0) (by rw[if_pos rfl];exact(mB hd).2.1)
  refine⟨c,hc,n8 hA hA rfl rfl rfl _ _ _ _ _ 1 pd (fi p0 hc) ?_ (.inr rfl) (au _) wd⟩;intro l gF Eh;refine⟨l,gF,(λp hp z=>by cases z),λp hp hm=>⟨hp,λz=>?_⟩⟩
  refine hm ?_;rw[DN];exact bW.mpr (aL _ (j0 p (dr.mpr ⟨hL.li l gF p hp,by simp,by simp⟩) (bW.mp z)))
include h1 h2 nd in
theorem GD:(G.at L).dO [] [] 1=1↔∃c∈pe G.g.toNat ps,(∀l∈L,l.length<=G.b.toNat->∃p∈l,p∈c)/\(G.at L).dO [] (sortI c) 0=1:=by
 have hA:=hG.at hL;have p0:dR (G.at L).many [] []:=fQ _;have w1:(G.at L).dO [] [] 1=1↔∃c∈(G.at L).hJ [] [] 1,(G.at L).dO (dS [] [] 1 c).1 (dS [] [] 1 c).2 0=1:=by
  have e:=qh hA p0 (v9 h1 h2);constructor
  ·intro z;apply bV
   intro n;have:(G.at L).dO [] [] 1=0:=e.mpr λc hc=>by
    rcases jQ (w:=0) hA (fi p0 hc) (.inl rfl)with u|u
    ·exact u
    ·exact absurd ⟨c,hc,u⟩ n
   omega
  ·rintro⟨c,hc,u⟩
   rcases jQ (w:=1) hA p0 (.inr rfl)with z|z
   ·have:=e.mp z c hc;omega
   ·exact z
 rw[w1];constructor
 ·rintro⟨c,hc,wc⟩
  have hl:=iD hA hc;rw[if_neg (by omega)]at hl
  have cnt:=count_le hG hL nd zE (c:=c);obtain⟨d,hd,j0⟩:=yT (k:=G.g.toNat) (ps:=ps) (A:=c) (aB cnt hl);have pd:=(ny hG hL zE (mB hd).1 (lP hG hL zE nd hd)).2;have wd:(G.at L).dO [] (sortI d) 0=1:=by
   rcases jQ (w:=0) hA pd (.inl rfl)with u|u
   ·exfalso;have:=n8 hA hA rfl rfl rfl _ _ _ _ _ 0 pd (fi p0 hc) (λl gF Eh=>⟨l,gF,λp hp z=>by
     rw[DO]at z;rcases List.mem_append.mp (bW.mp z)with v|v
     ·cases v
     ·exact Eh p hp (bW.mpr (j0 p ((zE p).mpr ⟨l,gF,hp⟩) v)),λp hp _=>⟨hp,by simp⟩⟩) (.inl rfl) (au _) u
    omega
   ·exact u
  refine⟨d,hd,λl gF hb=>?_,wd⟩
  apply bV
  intro n;have:=quick hA pd gF (λp hp z=>n ⟨p,hp,bW.mp z⟩) hb
  omega
 ·rintro⟨d,hd,_,wd⟩
  have pd:=(ny hG hL zE (mB hd).1 (lP hG hL zE nd hd)).2;obtain⟨c,hc,j0⟩:=fj (G:=G.at L) (m:=[]) (y:=[]) (A:=d) (w:=1) (by rw[if_neg (by omega)];exact(mB hd).2.1)
  refine⟨c,hc,?_⟩;rcases jQ (w:=0) hA (fi p0 hc) (.inl rfl)with u|u
  ·exfalso;have:=n8 hA hA rfl rfl rfl _ _ _ _ _ 0 (fi p0 hc) pd (λl gF Eh=>⟨l,gF,λp hp z=>by
    refine Eh p hp ?_;rw[DO];exact bW.mpr (aL _ (j0 p (dr.mpr ⟨hL.li l gF p hp,bJ,bJ⟩) (bW.mp z))),λp hp _=>⟨hp,by rw[DO];exact bJ⟩⟩) (.inl rfl) (au _) u
   omega
  ·exact u
end
theorem DQ {G:Gm}(hG:G.Ok) {L L':cn}(hL:Jj G L) (PH:Jj G L') {m y:cp}{w:Int}(h:dR G.many m y) (hw:w=0\/w=1)
  (d:∀l∈L,(∀p∈l,p∉y)->∃l'∈L',∀p∈l',p∈l/\p∉m) (d':∀l'∈L',∃l∈L,(∀p∈l,p∉y)/\∀p∈l,p∉m->p∈l'):
  (G.at L).dO m y w=(G.at L').dO [] [] w:=
 Mj (hG.at hL) (hG.at PH) rfl rfl rfl h (fQ _) hw
  (λl hl ho=>(d l hl ho).imp λl' q=>⟨q.1,(λp _ z=>by cases z),λp hp _=>q.2 p hp⟩)
  (λl' gF _=>(d' l' gF).imp λl q=>⟨q.1,q.2.1,λp hp hm=>⟨q.2.2 p hp hm,by simp⟩⟩)
end GP
namespace GP
open PySem DL
noncomputable def rH (m l:cp):cp:=l.filter λp=> !decide (p∈m)
noncomputable def eO (L:cn) (m y:cp):cn:=(L.filter λl=> !g9 y l).map (rH m)
noncomputable def GF (l:cp) (ls:cn):Bool:=ls.any λo=>(!decide (o=l))&&kX l o
noncomputable def Jk (ls:cn):cn:=ls.filter λl=> !GF l ls
noncomputable def gg (L:cn) (m y:cp):cn:=Jk (fV (eO L m y).eraseDups)
theorem eK {m l:cp}{p:Int}:p∈rH m l↔p∈l/\p∉m:=by
 unfold rH;rw[List.mem_filter];simp
theorem mC {m l:cp}(h:fc l):fc (rH m l):=List.Pairwise.filter _ h
theorem yU {y l:cp}:g9 y l=false↔∀p∈l,p∉y:=by
 unfold g9;rw[List.any_eq_false];simp
theorem Cc {m l:cp}:kX m l=true↔∀p∈l,p∈m:=by
 unfold kX;rw[List.all_eq_true];simp
theorem fm {L:cn}{m y f:cp}:f∈eO L m y↔∃l∈L,(∀p∈l,p∉y)/\f=rH m l:=by
 unfold eO;rw[List.mem_map];constructor
 ·rintro⟨l,hl,rfl⟩
  obtain⟨h1,h2⟩:=List.mem_filter.mp hl;exact⟨l,h1,yU.mp (by simpa using h2),rfl⟩
 ·rintro⟨l,hl,hy,rfl⟩
  exact⟨l,List.mem_filter.mpr ⟨hl,by rw[yU.mpr hy];rfl⟩,rfl⟩
theorem GG {l:cp}{ls:cn}:GF l ls=false↔∀o∈ls,(∀p∈o,p∈l)->o=l:=by
 unfold GF;rw[List.any_eq_false];constructor
 ·intro h o ho hs;have:=h o ho;rw[Cc.mpr hs]at this
  simpa using this
 ·intro h o ho;by_cases hs:∀p∈o,p∈l
  ·simp[h o ho hs]
  ·have:kX l o=false:=by
    cases q:kX l o with
    |false=>rfl
    |true=>exact absurd (Cc.mp q) hs
   simp[this]
theorem Cd {ls:cn}{f:cp}:f∈fV ls.eraseDups↔f∈ls:=(ez _).mem_iff.trans List.mem_eraseDups
theorem gJ {L:cn}{m y f:cp}:f∈gg L m y↔f∈eO L m y/\∀o∈eO L m y,(∀p∈o,p∈f)->o=f:=by
 unfold gg Jk;rw[List.mem_filter,Cd];constructor
 ·rintro⟨h1,h2⟩
  exact⟨h1,λo ho=>GG.mp (by simpa using h2) o (Cd.mpr ho)⟩
 ·rintro⟨h1,h2⟩
  exact⟨h1,by rw[GG.mpr λo ho=>h2 o (Cd.mp ho)];rfl⟩
theorem kE {α:Type} [BEq α] [LawfulBEq α]:∀(n:Nat) (l:List α),l.length<=n->l.eraseDups.Nodup
 |_,[],_=>by simp
 |0,_::_,h=>by simp at h
 |n+1,a::l,h=>by
  rw[List.eraseDups_cons,List.nodup_cons];refine⟨λz=>?_,kE n _ (aB (aW _ _) (by simpa using h))⟩
  have:=(List.mem_filter.mp (List.mem_eraseDups.mp z)).2;simp at this
theorem yV (L:cn) (m y:cp):(gg L m y).Pairwise (λa b=>HT.lexLt a b=true):=List.Pairwise.filter _ (LW.o9 (kE _ _ (au _)))
theorem Jl (a:cp):HT.lexLt a a=false:=by
 induction a with
 |nil=>rfl
 |cons x r ih=>rw[HT.ik];simp[ih]
theorem qX {l:cn}(h:l.Pairwise λa b=>HT.lexLt a b=true):l.Nodup:=h.imp λ{a b} h z=>by subst z;rw[Jl]at h;cases h
theorem lex_asymm:∀{a b:cp},HT.lexLt a b=true->HT.lexLt b a=false
 |[],[],h=>by cases h
 |[],_::_,_=>rfl
 |_::_,[],h=>by cases h
 |x::a,y::b,h=>by
  rw[HT.ik]at h ⊢;by_cases e:x=y
  ·rw[if_pos e]at h;rw[if_pos e.symm];exact lex_asymm h
  ·rw[if_neg e]at h;rw[if_neg (Ne.symm e)];have:=bL h;exact aG (by omega)
theorem Cg {l k:cn}(h1:l.Pairwise λa b=>HT.lexLt a b=true) (h2:k.Pairwise λa b=>HT.lexLt a b=true) (h:∀a,a∈l↔a∈k):l=k:=
 fM (R:=λa b=>HT.lexLt b a=false) (λa b x y=>HT.gf y x) ((List.perm_ext_iff_of_nodup (qX h1) (qX h2)).mpr h) (h1.imp λh=>lex_asymm h) (h2.imp λh=>lex_asymm h)
theorem yW {a b:cp}(ra:fc a) (rb:fc b) (s:∀p∈a,p∈b) (ne:a≠b):a.length<b.length:=by
 have e:a=b.filter λp=>decide (p∈a):=lM ra (List.Pairwise.filter _ rb) λp=>by
  rw[List.mem_filter];exact⟨λh=>⟨s p h,aR h⟩,λh=>bL h.2⟩
 have le:(b.filter λp=>decide (p∈a)).length<=b.length:=aW _ _
 rcases Nat.lt_or_ge a.length b.length with h|h
 ·exact h
 ·have h2:(b.filter λp=>decide (p∈a)).length=b.length:=by rw[<-e]at le ⊢;omega
  have h3:=List.length_filter_eq_length_iff.mp h2;exact absurd (lM ra rb λp=>⟨s p,λhp=>bL (h3 p hp)⟩) ne
theorem lQ {L:cn}{m y f:cp}(hL:∀l∈L,fc l) (h:f∈eO L m y):fc f:=by
 obtain⟨l,hl,_,rfl⟩:=fm.mp h;exact mC (hL l hl)
theorem pf {L:cn}{m y:cp}(hL:∀l∈L,fc l):∀(n:Nat) (f:cp),f.length<=n->f∈eO L m y->∃k∈gg L m y,∀p∈k,p∈f
 |n,f,hn,hf=>by
  by_cases h:∀o∈eO L m y,(∀p∈o,p∈f)->o=f
  ·exact⟨f,gJ.mpr ⟨hf,h⟩,λp hp=>hp⟩
  ·have:∃o∈eO L m y,(∀p∈o,p∈f)/\o≠f:=by
    refine bV λz=>h λo ho hs=>?_
    exact bV λz2=>z ⟨o,ho,hs,z2⟩
   obtain⟨o,ho,hs,ne⟩:=this;have lt:=yW (lQ hL ho) (lQ hL hf) hs ne;cases n with
   |zero=>omega
   |succ n=>
    obtain⟨k,hk,V0⟩:=pf hL n o (by omega) ho
    exact⟨k,hk,λp hp=>hs p (V0 p hp)⟩
theorem DR {L:cn}{m y:cp}(hL:∀l∈L,fc l):∀l∈gg L m y,fc l:=λl hl=>lQ hL (gJ.mp hl).1
theorem yX {G:Gm}{L:cn}{m y:cp}(hL:Jj G L):Jj G (gg L m y):=by
 constructor
 ·intro l hl p hp;obtain⟨k,hk,_,rfl⟩:=fm.mp (gJ.mp hl).1;exact hL.li k hk p (eK.mp hp).1
 ·intro l hl;obtain⟨k,hk,_,rfl⟩:=fm.mp (gJ.mp hl).1;exact Nat.lt_of_le_of_lt (aW _ _) (hL.ll k hk)
theorem uk {G:Gm}(hG:G.Ok) {L:cn}(hL:Jj G L) (hr:∀l∈L,fc l) {m y:cp}{w:Int}(h:dR G.many m y) (hw:w=0\/w=1):(G.at L).dO m y w=(G.at (gg L m y)).dO [] [] w:=by
 refine DQ hG hL (yX hL) h hw (λl hl hy=>?_) λl' gF=>?_
 ·obtain⟨k,hk,hs⟩:=pf (m:=m) (y:=y) hr _ _ (au _) (fm.mpr ⟨l,hl,hy,rfl⟩);exact⟨k,hk,λp hp=>eK.mp (hs p hp)⟩
 ·obtain⟨l,hl,hy,rfl⟩:=fm.mp (gJ.mp gF).1;exact⟨l,hl,hy,λp hp hm=>eK.mpr ⟨hp,hm⟩⟩
theorem wa {L:cn}(hr:∀l∈L,fc l) {m y m' y' M Y:cp}(hM:∀p,p∈M↔p∈m\/p∈m') (hY:∀p,p∈Y↔p∈y\/p∈y') (hd:∀p∈y',p∉m):gg (gg L m y) m' y'=gg L M Y:=by
 have ba:∀b∈eO (gg L m y) m' y',b∈eO L M Y:=λb hb=>by
  obtain⟨k,hk,OP,rfl⟩:=fm.mp hb;obtain⟨l,hl,PR,rfl⟩:=fm.mp (gJ.mp hk).1;refine fm.mpr ⟨l,hl,λp hp z=>?_,?_⟩
  ·rcases(hY p).mp z with z|z
   ·exact PR p hp z
   ·exact OP p (eK.mpr ⟨hp,hd p z⟩) z
  ·refine lM (mC (mC (hr l hl))) (mC (hr l hl)) λp=>?_
   rw[eK,eK,eK,hM];constructor
   ·rintro⟨⟨h1,h2⟩,h3⟩;exact⟨h1,λz=>z.elim h2 h3⟩
   ·rintro⟨h1,h2⟩;exact⟨⟨h1,λz=>h2 (.inl z)⟩,λz=>h2 (.inr z)⟩
 have ab:∀a∈eO L M Y,∃b∈eO (gg L m y) m' y',∀p∈b,p∈a:=λa ha=>by
  obtain⟨l,hl,PR,rfl⟩:=fm.mp ha;obtain⟨k,hk,hs⟩:=pf (m:=m) (y:=y) hr _ _ (au _) (fm.mpr ⟨l,hl,λp hp z=>PR p hp ((hY p).mpr (.inl z)),rfl⟩)
  refine⟨rH m' k,fm.mpr ⟨k,hk,λp hp z=>PR p (eK.mp (hs p hp)).1 ((hY p).mpr (.inr z)),rfl⟩,λp hp=>?_⟩
  obtain⟨h1,h2⟩:=eK.mp hp;obtain⟨h3,h4⟩:=eK.mp (hs p h1);exact eK.mpr ⟨h3,λz=>((hM p).mp z).elim h4 h2⟩
 refine Cg (yV _ _ _) (yV _ _ _) λf=>?_
 rw[gJ,gJ];constructor
 ·rintro⟨h1,h2⟩
  refine⟨ba f h1,λo ho hs=>?_⟩
  obtain⟨b,hb,Tt⟩:=ab o ho;have e:=h2 b hb λp hp=>hs p (Tt p hp)
  subst e;exact lM (lQ hr ho) (lQ hr (ba b h1)) λp=>⟨hs p,Tt p⟩
 ·rintro⟨h1,h2⟩
  obtain⟨b,hb,V1⟩:=ab f h1;have e:=h2 b (ba b hb) V1;subst e;exact⟨hb,λo ho hs=>h2 o (ba o ho) hs⟩
def GH (G:Gm) (L:cn):Prop:=∃m y,dR G.many m y/\L=gg G.ls m y
noncomputable def rX (L:cn) (w:Int):D:=.tup [.tup (L.map tupI),.int w]
noncomputable def um:D->Option (cn×Int)
 |.tup [.tup a,.int w]=>(linesOf a).map λL=>(L,w)
 |_=>none
theorem uq (L:cn) (w:Int):um (rX L w)=some (L,w):=by
 show(linesOf (L.map tupI)).map _=_;rw[nu];rfl
theorem ur:∀{ds:cv}{ls:cn},linesOf ds=some ls->ds=ls.map tupI
 |[],_,h=>by cases h;rfl
 |.tup a::r,ls,h=>by
  unfold linesOf at h;cases h1:intsOf a with
  |none=>rw[h1]at h;cases h
  |some l=>
   cases h2:linesOf r with
   |none=>rw[h1,h2]at h;cases h
   |some Jm=>rw[h1,h2]at h;cases h;rw[ur h2,gu h1];rfl
theorem DS {k:D}{L:cn}{w:Int}(h:um k=some (L,w)):k=rX L w:=by
 unfold um at h;split at h
 ·rename_i a w';cases h1:linesOf a with
  |none=>rw[h1]at h;cases h
  |some ls=>rw[h1]at h;cases h;rw[ur h1];rfl
 ·cases h
open Classical in
noncomputable def Gm.WS (G:Gm) (k:D):Option D:=match um k with
 |some (L,w)=>if GH G L/\(w=0\/w=1)then some (.int ((G.at L).dO [] [] w))else none
 |none=>none
theorem sG {G:Gm}{k d:D}(h:G.WS k=some d):∃L w,k=rX L w/\GH G L/\(w=0\/w=1)/\d=.int ((G.at L).dO [] [] w):=by
 unfold Gm.WS at h;split at h
 ·rename_i L w e;split at h
  ·rename_i hh;cases h;exact⟨L,w,DS e,hh.1,hh.2,rfl⟩
  ·cases h
 ·cases h
theorem GI {G:Gm}{L:cn}{w:Int}(h:GH G L) (hw:w=0\/w=1):G.WS (rX L w)=some (.int ((G.at L).dO [] [] w)):=by
 unfold Gm.WS;rw[uq];simp only;rw[if_pos ⟨h,hw⟩]
open Classical in
noncomputable def posOf (G:Gm) (L:cn):cp×cp:=if h:GH G L then(h.choose,h.choose_spec.choose)else([],[])
theorem nz {G:Gm}{L:cn}(h:GH G L):dR G.many (posOf G L).1 (posOf G L).2/\L=gg G.ls (posOf G L).1 (posOf G L).2:=by
 unfold posOf;rw[dif_pos h];exact h.choose_spec.choose_spec
noncomputable def Ml (G:Gm) (k:D):Nat:=match um k with|some (L,w)=>A6 (A5 (posOf G L).1 (posOf G L).2 w)|none=>0
theorem uu (G:Gm) (L:cn) (w:Int):Ml G (rX L w)=A6 (A5 (posOf G L).1 (posOf G L).2 w):=by unfold Ml;rw[uq]
theorem Ci (L:cn) (w:Int):ng (rX L w)=true/\dI (rX L w)<=4:=by
 have kl:∀L:cn,lE (L.map tupI)=true:=λL=>by
  induction L with
  |nil=>unfold lE;rfl
  |cons l r ih=>
   show lE (tupI l::r.map tupI)=true;unfold lE;rw[ih];have:ng (tupI l)=true:=by unfold tupI ng;exact ug l
   rw[this];rfl
 constructor
 ·unfold rX;simp[ng,lE,kl]
 ·have:=LW.lL L;unfold rX;simp only[dI,g7];omega
noncomputable def GJ (G:Gm) (hG:G.Ok):jb:=⟨G.WS,Ml G,524288,by decide,λk d h=>by
  obtain⟨L,w,rfl,hs,hw,_⟩:=sG h;rw[uu];exact Ro _ _ (Gu (nz hs).1 hw),λk k' d d' h h' e=>by
  obtain⟨L,w,rfl,hs,hw,_⟩:=sG h;obtain⟨L',w',rfl,EN,MC,_⟩:=sG h';rw[uu,uu]at e;have:=OO hG _ _ _ _ (Gu (nz hs).1 hw) (Gu (nz EN).1 MC) e;have e2:=congrArg v5 this;rw[n5,n5]at e2;injection e2 with e3
  injection e3 with e4 e5
  injection e5 with e6 e7
  rw[(nz hs).2,(nz EN).2,e4,e6,e7],λk d h=>by
  obtain⟨L,w,rfl,_⟩:=sG h;exact Ci L w⟩
open Classical in
noncomputable def GK (d:D):jb:=match Gv d with
 |some G=>if h:G.Ok then GJ G h else yR
 |none=>yR
theorem A8 {G:Gm}(hG:G.Ok) (f:Int):GK (vY G.many G.ls f G.b G.g)=GJ G hG:=by
 unfold GK;rw[xr];simp only;rw[dif_pos hG]
end GP
namespace PC
open PySem DL LW
noncomputable def nA:cb:=
  (eY (cM Fc (aX (dL (eS (iT (cU 1)) 2 j9 (dA Am (dt 2) (dt 0)))) cL)))
noncomputable def uv:cb:=
  nA
noncomputable def lR:cg:=il 3 2 uv
noncomputable def mD:cb:=
  (eY (cM Du (aX (dL (eS (iT (cU 1)) 2 j9 (dA Am (dt 2) (dt 0)))) cL)))
noncomputable def rJ:cb:=
  mD
noncomputable def gK:cg:=il 3 2 rJ
noncomputable def vb:cb:=
  (eY (NI (qB (dA o3 (dt 1) (dC (.int 0)))) (dA mi (dt 0) (dC (.int 2))) (dA mi (dt 0) (dC (.int 3)))))
noncomputable def qk:cb:=
  vb
noncomputable def dM:cg:=il 2 2 qk
noncomputable def yY (cZ:cg):cb:=
  (eY (fL (aX (cU 0) cL)))
noncomputable def jG (cZ:cg):cb:=
  (pq (qB (dA Qx (dt 1) (cM lB (aX (dt 0) cL)))) (yY cZ) kO)
noncomputable def yZ (cZ:cg):cb:=
  (eY (fL (aX (fL cL) cL)))
noncomputable def nB (cZ:cg):cb:=
  (pq (qB (dA o3 (dt 1) (dC (.int 0)))) (yZ cZ) kO)
noncomputable def rK (cZ:cg):cb:=
  (ir 2 (Af cL))
noncomputable def nC (cZ:cg):cb:=
  (uY 2 (dA nc (fL (aX (dA mi (dt 0) (dt 3)) cL)) (dt 4)))
noncomputable def iX (cZ:cg):cb:=
  (nC cZ)
noncomputable def nD (cZ:cg):cb:=
  (oy 4 (iT (cM cZ (aX (Dt (dt 0) (Di (dA iR (dt 3) (dC (.int 1)))) NN) (aX (dA qH (dt 1) (dC (.int 1))) cL)))) (iX cZ))
noncomputable def iY (cZ:cg):cb:=
  (nD cZ)
noncomputable def nE (cZ:cg):cb:=
  (oy 3 (zD (aX (dA iR (dA qH (cM lB (aX (dt 0) cL)) (dt 1)) (dC (.int 1))) cL)) (iY cZ))
noncomputable def za (cZ:cg):cb:=
  (eY (cM iN (aX (dt 2) cL)))
noncomputable def kG (cZ:cg):cb:=
  (eR (jG cZ)
  (eR (nB cZ)
  (eR (rK cZ)
  (eR (nE cZ)
  (za cZ)))))
noncomputable def eL:Nat->cg
 |0=>λ_=>none
 |n+1=>il 5 2 (kG (eL n))
noncomputable def A9:cb:=
  (eY (fL (aX (cM iN (aX (dL (eQ jE (aX (dA nc (dt 0) (dt 3)) cL))) cL)) (aX (cU 1) cL))))
noncomputable def Ba:cb:=
  (pq (qB (dA o3 (dt 2) (dC (.int 0)))) A9 kO)
noncomputable def Bb:cb:=
  (eY (fL (aX (cU 0) (aX (cM iN (aX (dL (eQ jE (aX (dA nc (dt 1) (dt 3)) cL))) cL)) cL))))
noncomputable def wb:cb:=
  (eR Ba
  Bb)
noncomputable def nF:cg:=il 4 4 wb
noncomputable def mE:cb:=
  (eY (fL (aX (cM iN (aX (dL (eQ jE (aX (dA nc (dt 0) (dt 3)) cL))) cL)) (aX (cU 1) cL))))
noncomputable def mF:cb:=
  (pq (qB (dA o3 (dt 2) (dC (.int 0)))) mE kO)
noncomputable def ql:cb:=
  (eY (fL (aX (cU 0) (aX (cM iN (aX (dL (eQ jE (aX (dA nc (dt 1) (dt 3)) cL))) cL)) cL))))
noncomputable def kY:cb:=
  (eR mF
  ql)
noncomputable def Bc:cg:=il 4 4 kY
end PC
namespace PC
open PySem DL GP
open LW (df de)
open L2 (js oX)
theorem OQ {m y c:cp}{w:Int}(h1:m.length+c.length<64) (h2:y.length+c.length<64):
  Bc [tupI m,tupI y,.int w,tupI c]=some (.tup [tupI (dS m y w c).1,tupI (dS m y w c).2]):=by
 refine LW.eF rfl ?_;show kY [cJ m,cJ y,cH w,cJ c]=_;have k1:=qf (ns:=m++c) (by simpa using h1)
 have k2:=qf (ns:=y++c) (by simpa using h2)
 unfold dS;have j1:=vZ h1;have j2:=vZ h2;by_cases h:w=0
 ·subst h;simp[kY,mE,mF,eR,pq,eY,qB,dA,dt,dC,o3,dI,dz,fL,aX,cL,cU,cM,dL,eQ,j1,k1,iN];rfl
 ·have hw:(w==0)=false:=by simpa using h
  simp[kY,mE,mF,ql,eR,pq,kO,hw,eY,qB,dA,dt,dC,o3,dI,dz,fL,aX,cL,cU,cM,dL,eQ,j2,k2,iN,h];rfl
end PC
namespace PC
open PySem DL GP
open LW (df de)
open L2 (js oX)
end PC
namespace PC
open PySem DL GP
open LW (df de)
open L2 (js oX)
end PC
namespace PC
open PySem DL GP
open LW (df de)
open L2 (js oX)
theorem jH {α:Type}{j:Nat}{f:cc}{δ:dD}{φ ψ:α->D}:∀(l:List α),(∀a∈l,f (δ.set j (.dat (φ a)))=some (ψ a))->j8 j j9 f δ (l.map φ)=some (l.map ψ)
 |[],_=>rfl
 |a::l,h=>by
  rw[aE];unfold j8;have e:j9 (δ.set j (.dat (φ a)))=some true:=rfl;simp only[e,h a af,ao,jH l λx hx=>h x (ai _ hx),bB,aE]
theorem mG {F:cg}{f:bZ}{δ:dD}{ds:cv}(h:f δ=some ds):cM F (aX (dL f) cL) δ=F [.lst ds]:=by
 simp only[cM,aX,dL,cL,h,bB,ao]
theorem jR {o:D->D->Option D}{f g:cc}{δ:dD}{x y:D}(hf:f δ=some x) (hg:g δ=some y):dA o f g δ=o x y:=by
 unfold dA;rw[hf,hg];rfl
theorem oO {f:cc}{δ:dD}{x:D}(hf:f δ=some x):aX f cL δ=some [x]:=by
 unfold aX cL;rw[hf];rfl
theorem kH {f:cc}{g:bZ}{δ:dD}{x:D}{r:cv}(hf:f δ=some x) (hg:g δ=some r):aX f g δ=some (x::r):=by
 unfold aX;rw[hf,hg];rfl
theorem dE {F:cg}{f:bZ}{δ:dD}{ds:cv}(hf:f δ=some ds):cM F f δ=F ds:=by
 unfold cM;rw[hf];rfl
theorem gP {f:cc}{δ:dD}{d:D}(hf:f δ=some d):eY f δ=some (.ret d):=by
 unfold eY;rw[hf];rfl
theorem jX {i:Nat}{f:cc}{δ:dD}{d:D}(hf:f δ=some d):lq i f δ=some (.next (δ.set i (.dat d))):=by
 unfold lq;rw[hf];rfl
theorem zd {q:cf}{f g:cb}{δ:dD}(h:q δ=some true):pq q f g δ=f δ:=by unfold pq;rw[h]
theorem oP {q:cf}{f g:cb}{δ:dD}(h:q δ=some false):pq q f g δ=g δ:=by unfold pq;rw[h]
theorem Cj {q:cf}{δ:dD}{b:Bool}(h:q δ=some b):yf q δ=some (!b):=by unfold yf;rw[h];rfl
theorem kJ {f g:cb}{δ:dD}{d:D}(h:f δ=some (.ret d)):eR f g δ=some (.ret d):=by unfold eR;rw[h]
theorem jd {f:cc}{δ:dD}{b:Bool}(h:f δ=some (.bl b)):qB f δ=some b:=by
 unfold qB;rw[h]
theorem ze {α:Type}(l:List α) (q:α->Bool):Du [.lst (l.map λx=>D.bl (q x))]=some (.bl (l.any q)):=by
 have:lC (l.map λx=>D.bl (q x))=some (l.map q):=by
  induction l with
  |nil=>rfl
  |cons a l ih=>simp[lC,ih]
 simp[Du,this,List.any_map]
theorem Ck (i:Int) (m:cp):Am (.int i) (tupI m)=some (.bl (decide (i∈m))):=Jh i m
theorem DT {m l:cp}(hl:l.length<1000000):lR [tupI m,tupI l]=some (.bl (kX m l)):=by
 refine LW.eF rfl ?_;show nA [cJ m,cJ l,.no]=_;have key:j8 2 j9 (dA Am (dt 2) (dt 0)) [cJ m,cJ l,.no] (l.map D.int)=some (l.map λi=>D.bl (decide (i∈m))):=jH l λi _=>Ck i m
 have gF:(l.map D.int).length<1000000:=by simpa using hl
 have e:eS (iT (cU 1)) 2 j9 (dA Am (dt 2) (dt 0)) [cJ m,cJ l,.no]=some (l.map λi=>D.bl (decide (i∈m))):=by
  show(if(l.map D.int).length<1000000 then _ else _)=_
  rw[if_pos gF,key]
 unfold nA eY cM aX dL;rw[e];simp only[bB,ao,cL];rw[LW.yL l (λi=>decide (i∈m))]
 rfl
theorem uw {m l:cp}(hl:l.length<1000000):gK [tupI m,tupI l]=some (.bl (g9 m l)):=by
 refine LW.eF rfl ?_;show mD [cJ m,cJ l,.no]=_;have key:j8 2 j9 (dA Am (dt 2) (dt 0)) [cJ m,cJ l,.no] (l.map D.int)=some (l.map λi=>D.bl (decide (i∈m))):=jH l λi _=>Ck i m
 have gF:(l.map D.int).length<1000000:=by simpa using hl
 have e:eS (iT (cU 1)) 2 j9 (dA Am (dt 2) (dt 0)) [cJ m,cJ l,.no]=some (l.map λi=>D.bl (decide (i∈m))):=by
  show(if(l.map D.int).length<1000000 then _ else _)=_
  rw[if_pos gF,key]
 unfold mD eY cM aX dL;rw[e];simp only[bB,ao,cL];rw[ze l (λi=>decide (i∈m))]
 rfl
theorem OR {many:Int}{ls:cn}{f b g w:Int}(hw:w=0\/w=1):dM [vY many ls f b g,.int w]=some (.int (if w=0 then b else g)):=by
 rcases hw with rfl|rfl<;>rfl
theorem GL {m y c:cp}{w:Int}(h1:m.length+c.length<64) (h2:y.length+c.length<64):
  nF [tupI m,tupI y,.int w,tupI c]=some (.tup [tupI (dS m y w c).1,tupI (dS m y w c).2]):=OQ h1 h2
theorem Cm {rc:cg}{ps:cp}{C:Sl}{k:Int}{p:Int}(hp:js ps k=some p):∀(cs acc:cn) (x:Sl),(∀c∈cs,c.length<1000)->acc.length+cs.length<1000000->
  ∃x',iU 4 (iX rc) (cs.map tupI) [cJ ps,C,.own (acc.map tupI),cH k,x]=some (.next [cJ ps,C,.own ((acc++cs.map (p:: ·)).map tupI),cH k,x'])
 |[],acc,x,_,_=>⟨x,by simp[iU]⟩
 |c::cs,acc,x,hc,ha=>by
  simp only[ax]at ha;have hx:mi (tupI ps) (.int k)=some (.int p):=by
   show js (ps.map D.int) k=_;have:js (ps.map D.int) k=(js ps k).map D.int:=by
    unfold js oX;simp only[ae];split
    ·split
     ·simp
     ·rfl
    ·split
     ·simp
     ·rfl
   rw[this,hp];rfl
  have e1:dA nc (fL (aX (dA mi (dt 0) (dt 3)) cL)) (dt 4) [cJ ps,C,.own (acc.map tupI),cH k,cJ c]=some (tupI (p::c)):=by
   have e0:fL (aX (dA mi (dt 0) (dt 3)) cL) [cJ ps,C,.own (acc.map tupI),cH k,cJ c]=some (tupI [p]):=by
    have:dA mi (dt 0) (dt 3) [cJ ps,C,.own (acc.map tupI),cH k,cJ c]=some (.int p):=hx;unfold fL aX;rw[this];rfl
   have:nc (tupI [p]) (tupI c)=some (tupI ([p]++c)):=by
    have h1:=hc c af;have:1+c.length<=1000000:=by omega
    simp[nc,tupI,this]
   exact(jR e0 rfl).trans this
  have e2:nC rc [cJ ps,C,.own (acc.map tupI),cH k,cJ c]=some (.next [cJ ps,C,.own ((acc++[p::c]).map tupI),cH k,cJ c]):=by
   unfold nC uY;have hl:(acc.map tupI).length<1000000:=by rw[ae];omega
   simp only[aK,aM];rw[e1];simp only[ao,if_pos hl,List.set_cons_succ,List.set_cons_zero,List.map_append,aE,List.map_nil]
  obtain⟨x',ih⟩:=Cm (rc:=rc) (C:=C) hp cs (acc++[p::c]) (cJ c) (λd hd=>hc d (ai _ hd)) (by rw[aQ];simp;omega)
  refine⟨x',?_⟩;simp only[aE,iU,List.set_cons_succ,List.set_cons_zero];unfold iX at ih ⊢;rw[e2];simp only;rw[ih];simp
theorem GN (ps:cp) (k:Nat) (h:k<ps.length):cutD (ps.map D.int) (some ((k:Int)+1)) none=(ps.drop (k+1)).map D.int:=by
 unfold cutD;have e1:HT.iP (ps.map D.int).length 0 (some ((k:Int)+1))=k+1:=by
  unfold HT.iP;simp only[ae];split<;>omega
 have e2:HT.iP (ps.map D.int).length (ps.map D.int).length none=ps.length:=by simp[HT.iP]
 rw[e1,e2,List.take_of_length_le (by simp),List.map_drop]
end PC
namespace PC
open PySem DL GP
open LW (df de)
open L2 (js oX)
theorem qm:∀(n:Nat) (lo:Int),dP lo n=(List.range n).map λ(k:Nat)=>lo+(k:Int)
 |0,_=>rfl
 |n+1,lo=>by
  rw[List.range_succ_eq_map,aE,aV];show lo::dP (lo+1) n=_;rw[qm n (lo+1)];simp only[Int.ofNat_zero,Int.add_zero,List.cons.injEq];refine⟨by simp,bT λk _=>?_⟩
  simp only[Function.comp];omega
theorem zf {rc:cg}{ps:cp}{c:Nat}(hz:ps.length<=12):∀(ks:List Nat) (acc:cn) (x3 x4:Sl),
  (∀k∈ks,k<ps.length/\rc [tupI (ps.drop (k+1)),.int (c:Int)]=some (.tup ((comb c (ps.drop (k+1))).map tupI)))->acc.length+ks.length*4096<1000000->
  ∃V2 V3,iU 3 (iY rc) (ks.map λ(k:Nat)=>D.int (k:Int)) [cJ ps,cH ((c:Int)+1),.own (acc.map tupI),x3,x4]=
   some (.next [cJ ps,cH ((c:Int)+1),.own ((acc++ks.flatMap (uj c ps)).map tupI),V2,V3])
 |[],acc,x3,x4,_,_=>⟨x3,x4,by simp[iU]⟩
 |k::ks,acc,x3,x4,h,ha=>by
  obtain⟨hk,hr⟩:=h k af;simp only[ax]at ha;have hp:ps[k]? =some ps[k]:=ah hk;have V4:js ps (k:Int)=some ps[k]:=by rw[LW.Jg ps k hk,hp]
  have hm:(comb c (ps.drop (k+1))).length<=4096:=by
   refine aB (n6 c _) ?_;have:(ps.drop (k+1)).length<=12:=by rw[List.length_drop];omega
   exact aB (Nat.pow_le_pow_right (by omega) this) (by decide)
  have et:uj c ps k=(comb c (ps.drop (k+1))).map (ps[k]:: ·):=by unfold uj;rw[hp]
  obtain⟨x',e⟩:=Cm (rc:=rc) (C:=cH ((c:Int)+1)) V4 (comb c (ps.drop (k+1))) acc x4 (λd hd=>by
   have h1:=(qj c _ d hd).1;have h2:c<=(ps.drop (k+1)).length:=by
    rcases Nat.lt_or_ge (ps.drop (k+1)).length c with z|z
    ·rw[kF c _ z]at hd;cases hd
    ·exact z
   rw[List.length_drop]at h2;omega) (by omega)
  have e7:nD rc [cJ ps,cH ((c:Int)+1),.own (acc.map tupI),cH (k:Int),x4]=some (.next [cJ ps,cH ((c:Int)+1),.own ((acc++uj c ps k).map tupI),cH (k:Int),x']):=by
   have i1:Dt (dt 0) (Di (dA iR (dt 3) (dC (.int 1)))) NN [cJ ps,cH ((c:Int)+1),.own (acc.map tupI),cH (k:Int),x4]=some (tupI (ps.drop (k+1))):=by
    show some (D.tup (cutD (ps.map D.int) (some ((k:Int)+1)) none))=_;rw[GN ps k hk];rfl
   have i2:dA qH (dt 1) (dC (.int 1)) [cJ ps,cH ((c:Int)+1),.own (acc.map tupI),cH (k:Int),x4]=some (.int (c:Int)):=by
    show some (D.int ((c:Int)+1-1))=_
    congr 2;omega
   have i3:iT (cM rc (aX (Dt (dt 0) (Di (dA iR (dt 3) (dC (.int 1)))) NN) (aX (dA qH (dt 1) (dC (.int 1))) cL))) [cJ ps,cH ((c:Int)+1),.own (acc.map tupI),cH (k:Int),x4]=some ((comb c (ps.drop (k+1))).map tupI):=by
    unfold iT;rw[dE (kH i1 (oO i2)),hr]
   unfold nD oy;rw[i3];show iU 4 (iX rc) _ _=_;rw[e,et]
  obtain⟨y3,y4,ih⟩:=zf (rc:=rc) hz ks (acc++uj c ps k) (cH (k:Int)) x' (λj hj=>h j (ai _ hj)) (by rw[aQ,et,ae];omega)
  refine⟨y3,y4,?_⟩;simp only[aE,iU,List.set_cons_succ,List.set_cons_zero];unfold iY at ih ⊢;rw[e7];simp only;rw[ih];simp[List.append_assoc]
theorem we:∀(n c:Nat) (ps:cp),c<n->ps.length<=12->eL n [tupI ps,.int (c:Int)]=some (.tup ((pe c ps).map tupI))
 |0,c,ps,h,_=>by omega
 |n+1,c,ps,h,hz=>by
  unfold eL;refine LW.eF rfl ?_;show kG (eL n) [cJ ps,cH (c:Int),.no,.no,.no]=_;have q2:qB (dA Qx (dt 1) (cM lB (aX (dt 0) cL))) [cJ ps,cH (c:Int),.no,.no,.no]=some (decide (ps.length<=c)):=by
   have:cM lB (aX (dt 0) cL) [cJ ps,cH (c:Int),.no,.no,.no]=some (.int (ps.length:Int)):=by
    show some (D.int ((ps.map D.int).length:Int))=_;rw[ae]
   refine jd ((jR rfl this).trans ?_);show some (D.bl (decide ((ps.length:Int)<=(c:Int))))=_
   congr 2
   exact decide_eq_decide.mpr (by omega)
  unfold kG;by_cases h1:ps.length<=c
  ·have e2:jG (eL n) [cJ ps,cH (c:Int),.no,.no,.no]=some (.ret (.tup [tupI ps])):=by
    unfold jG;rw[zd (by rw[q2,aR h1])]
    rfl
   rw[kJ e2];unfold pe;rw[if_pos h1];rfl
  ·have e2:jG (eL n) [cJ ps,cH (c:Int),.no,.no,.no]=some (.next [cJ ps,cH (c:Int),.no,.no,.no]):=by
    unfold jG;rw[oP (by rw[q2,aG h1])]
    rfl
   rw[LW.cT e2,yS (by omega)]
   cases c with
   |zero=>cases ps<;>rfl
   |succ c=>
    have e4:nB (eL n) [cJ ps,cH ((c+1:Nat):Int),.no,.no,.no]=some (.next [cJ ps,cH ((c:Int)+1),.no,.no,.no]):=by
     unfold nB;have:qB (dA o3 (dt 1) (dC (.int 0))) [cJ ps,cH ((c+1:Nat):Int),.no,.no,.no]=some false:=by
      refine jd ((jR rfl rfl).trans ?_);show o3 (.int ((c+1:Nat):Int)) (.int 0)=_;have:dz (.int ((c+1:Nat):Int)) (.int 0)=false:=by
       simp[dz];omega
      unfold o3;rw[this];rfl
     rw[oP this];rfl
    have e5:rK (eL n) [cJ ps,cH ((c:Int)+1),.no,.no,.no]=some (.next [cJ ps,cH ((c:Int)+1),.own (([]:cn).map tupI),.no,.no]):=rfl;rw[LW.cT e4,LW.cT e5];obtain⟨x3,x4,e⟩:=zf (rc:=eL n) (ps:=ps) (c:=c) hz (List.range (ps.length-c)) [] .no .no (λk hk=>by
     have:=List.mem_range.mp hk;refine⟨by omega,?_⟩
     rw[we n c (ps.drop (k+1)) (by omega) (by rw[List.length_drop];omega),yS (by rw[List.length_drop];omega)]) (by simp;omega)
    have it:zD (aX (dA iR (dA qH (cM lB (aX (dt 0) cL)) (dt 1)) (dC (.int 1))) cL) [cJ ps,cH ((c:Int)+1),.own (([]:cn).map tupI),.no,.no]=some ((List.range (ps.length-c)).map λ(k:Nat)=>D.int (k:Int)):=by
     have:aX (dA iR (dA qH (cM lB (aX (dt 0) cL)) (dt 1)) (dC (.int 1))) cL [cJ ps,cH ((c:Int)+1),.own (([]:cn).map tupI),.no,.no]=some [.int ((ps.length:Int)-((c:Int)+1)+1)]:=by
      show some [D.int (((ps.map D.int).length:Int)-((c:Int)+1)+1)]=_;rw[ae]
     unfold zD;rw[this];show(if _ then some ((dP 0 ((ps.length:Int)-((c:Int)+1)+1).toNat).map D.int)else none)=_
     rw[if_pos ⟨by omega,by omega⟩,show((ps.length:Int)-((c:Int)+1)+1).toNat=ps.length-c by omega,qm,aV]
     congr 1
     refine bT λk _=>?_
     simp
    have e8:nE (eL n) [cJ ps,cH ((c:Int)+1),.own (([]:cn).map tupI),.no,.no]=some (.next [cJ ps,cH ((c:Int)+1),.own ((comb (c+1) ps).map tupI),x3,x4]):=by
     unfold nE oy;rw[it];show iU 3 (iY (eL n)) _ _=_;rw[e,List.nil_append,v8]
    rw[LW.cT e8];rfl
end PC
namespace PW
open PySem DL
noncomputable def PU:D->jb:=λd=>GP.GK d
end PW
namespace PW
open PySem DL GP PC
open LW (df de)
open L2 (js oX)
noncomputable def ux:cb:=
  (eY (NI (qB (dA o3 (dt 0) (dC (.int 0)))) (dC (.int 1)) (dC (.int 0))))
noncomputable def oQ:cb:=
  ux
noncomputable def fJ:cg:=il 1 1 oQ
noncomputable def oR:cb:=
  (eY (cM iN (aX (dL (eS (iT (cU 0)) 2 (qB (dA yh (dt 2) (dt 1))) (cU 2))) cL)))
noncomputable def jY:cb:=
  oR
noncomputable def iE:cg:=il 3 2 jY
noncomputable def mQ:cb:=
  (eY (cM Du (aX (dL (eS (iS (cU 1)) 2 j9 (Dc (dA Hl (dt 2) (dt 0)) (cM lR (aX (cU 0) (aX (cU 2) cL)))))) cL)))
noncomputable def iZ:cb:=
  mQ
noncomputable def hW:cg:=il 3 2 iZ
noncomputable def uy:cb:=
  (eY (cM Fc (aX (dL (eS (iL (dt 1)) 2 j9 (cM gK (aX (cU 0) (aX (cU 2) cL))))) cL)))
noncomputable def n9:cb:=
  uy
noncomputable def nH:cg:=il 3 2 n9
noncomputable def qo:cb:=
  (sE 1 (cU 3))
noncomputable def fq:cb:=
  qo
noncomputable def kZ:cb:=
  (oy 3 (iT (cU 2)) fq)
noncomputable def eA:cb:=
  kZ
noncomputable def i0:cb:=
  (oy 2 (iT (cU 0)) eA)
noncomputable def lb:cb:=
  (eY (cM iN (aX (dL (nY 1)) cL)))
noncomputable def ft:cb:=
  (eR i0
  lb)
noncomputable def ji:cb:=
  (sD 1 ft)
noncomputable def fz:cg:=il 4 1 ji
noncomputable def nI:cb:=
  (ir 3 (eS (iS (cU 0)) 5 (yf (qB (cM gK (aX (cU 2) (aX (cU 5) cL))))) (cM iE (aX (cU 5) (aX (cU 1) cL)))))
noncomputable def kK:cb:=
  (ir 4 (nt (dt 3)))
noncomputable def i4:cb:=
  (eY (cM iN (aX (dL (eS (iL (dt 4)) 5 (yf (qB (cM hW (aX (cU 5) (aX (cU 4) cL))))) (cU 5))) cL)))
noncomputable def jv:cb:=
  (eR nI
  (rq 3 (eR kK
  (rq 4 i4))))
noncomputable def eD:cg:=il 6 3 jv
noncomputable def jj (G:D):cb:=
  (lq 3 (cM (eL 5) (aX (cM fz (aX (cU 1) cL)) (aX (cM dM (aX (lF G 0) (aX (cU 2) cL))) cL))))
noncomputable def qY (G:D):cb:=
  (eY (cU 3))
noncomputable def jk (G:D):cb:=
  (pq (qB (dA o3 (dt 2) (dC (.int 0)))) (qY G) kO)
noncomputable def lS (G:D):cb:=
  (ir 4 (eS (iT (cU 1)) 5 (qB (dA La (cM lB (aX (dt 5) cL)) (cM dM (aX (lF G 0) (aX (dC (.int 0)) cL))))) (cU 5)))
noncomputable def jl (G:D):cb:=
  (eY (cM iN (aX (dL (eS (iT (cU 3)) 6 (qB (cM nH (aX (cU 6) (aX (cU 4) cL)))) (cU 6))) cL)))
noncomputable def gq (G:D):cb:=
  (eR (jj G)
  (eR (jk G)
  (eR (lS G)
  (rq 4 (jl G)))))
noncomputable def fY:cg:=lG 7 3 gq
noncomputable def mH (G:D) (cW:cg):cb:=
  (lq 3 (cM yq (aX (dL (eS (iT (cU 1)) 6 j9 (cM lB (aX (dt 6) cL)))) cL)))
noncomputable def xt (G:D) (cW:cg):cb:=
  (eY (dC (.int 0)))
noncomputable def i6 (G:D) (cW:cg):cb:=
  (pq (m4 (qB (dA o3 (dt 2) (dC (.int 0)))) (qB (dA La (dt 3) (cM dM (aX (lF G 0) (aX (dC (.int 0)) cL)))))) (xt G cW) kO)
noncomputable def mI (G:D) (cW:cg):cb:=
  (lq 5 (cM nF (aX (fL cL) (aX (fL cL) (aX (cU 2) (aX (cU 4) cL))))))
noncomputable def xu (G:D) (cW:cg):cb:=
  (eY (cU 2))
noncomputable def qp (G:D) (cW:cg):cb:=
  (pq (qB (dA o3 (kj 0 G cW (aX (cM eD (aX (cU 1) (aX (dA mi (dt 5) (dC (.int 0))) (aX (dA mi (dt 5) (dC (.int 1))) cL)))) (aX (cM fJ (aX (cU 2) cL)) cL))) (dt 2))) (xu G cW) kO)
noncomputable def eT (G:D) (cW:cg):cb:=
  (eR (mI G cW)
  (qp G cW))
noncomputable def mJ (G:D) (cW:cg):cb:=
  (oy 4 (iT (kj 0 G fY (aX (cU 1) (aX (cU 2) cL)))) (eT G cW))
noncomputable def qq (G:D) (cW:cg):cb:=
  (eY (cM fJ (aX (cU 2) cL)))
noncomputable def iF (G:D) (cW:cg):cb:=
  (eR (mH G cW)
  (eR (i6 G cW)
  (eR (mJ G cW)
  (qq G cW))))
noncomputable def vd (G:D) (dv:cg):cb:=
  (eY (dC (.int 1)))
noncomputable def jw (G:D) (dv:cg):cb:=
  (pq (qB (dA o3 (cM lB (aX (dt 1) cL)) (dC (.int 0)))) (vd G dv) kO)
noncomputable def ve (G:D) (dv:cg):cb:=
  (eY (dC (.int 0)))
noncomputable def hX (G:D) (dv:cg):cb:=
  (pq (qB (dA Am (fL cL) (dt 1))) (ve G dv) kO)
noncomputable def ly (G:D) (dv:cg):cb:=
  (ni (PU G) 0 (fL (aX (cU 1) (aX (cU 2) cL))) (kj 0 G dv (aX (cU 1) (aX (cU 2) cL))))
noncomputable def lz (G:D) (dv:cg):cb:=
  (pV 0 [] (fL (aX (cU 1) (aX (cU 2) cL))) (ly G dv))
noncomputable def oS (G:D) (dv:cg):cb:=
  (eY (nh (PU G) 0 (fL (aX (cU 1) (aX (cU 2) cL)))))
noncomputable def gQ (G:D) (dv:cg):cb:=
  (eR (jw G dv)
  (eR (hX G dv)
  (eR (lz G dv)
  (oS G dv))))
mutual
noncomputable def kL:Nat->cg
 |0=>λ_=>none
 |n+1=>lG 7 3 (λG=>iF G (gh n))
noncomputable def gh:Nat->cg
 |0=>λ_=>none
 |n+1=>lG 3 3 (λG=>gQ G (kL n))
end
noncomputable def oT (G:D):cb:=
  (eY (kj 0 G (gh 24) (aX (cM eD (aX (dA mi (dA mi (lF G 0) (dC (.int 0))) (dC (.int 1))) (aX (cU 1) (aX (cU 2) cL)))) (aX (cU 3) cL))))
noncomputable def i7 (G:D):cb:=
  (oT G)
noncomputable def lh:cg:=lG 4 4 i7
noncomputable def mR:cb:=
  (eY (pY lh (cU 0) (aX (cU 1) (aX (cU 2) (aX (cU 3) cL)))))
noncomputable def i8:cb:=
  mR
noncomputable def gw:cg:=il 4 4 i8
noncomputable def uz:cb:=
  (eY (cM gw (aX (cU 0) (aX (fL cL) (aX (fL cL) (aX (dA mi (dt 0) (dC (.int 1))) cL))))))
noncomputable def oh:cb:=
  uz
noncomputable def fZ:cg:=il 1 1 oh
end PW
namespace PC
open PySem DL GP
open L2 (js oX)
theorem lT {j:Nat}{f:cb}{d:D}{ds:cv}{δ δ':dD}(h:f (δ.set j (.dat d))=some (.next δ')):iU j f (d::ds) δ=iU j f ds δ':=by simp only[iU,h]
theorem GO {j:Nat}{f:cb}{d r:D}{ds:cv}{δ:dD}(h:f (δ.set j (.dat d))=some (.ret r)):iU j f (d::ds) δ=some (.ret r):=by simp only[iU,h]
theorem qr {j:Nat}{i:bZ}{f:cb}{δ:dD}{ds:cv}{r:Option R}(h:i δ=some ds) (h2:iU j f ds δ=r):oy j i f δ=r:=by
 unfold oy;rw[h];exact h2
theorem lU {α:Type}{j:Nat}{t:cf}{f:cc}{δ:dD}{φ ψ:α->D}{p:α->Bool}:∀(l:List α),(∀a∈l,t (δ.set j (.dat (φ a)))=some (p a))->(∀a∈l,p a=true->f (δ.set j (.dat (φ a)))=some (ψ a))->j8 j t f δ (l.map φ)=some ((l.filter p).map ψ)
 |[],_,_=>rfl
 |a::r,h1,h2=>by
  have ih:=lU r (λb hb=>h1 b (ai _ hb)) λb hb=>h2 b (ai _ hb)
  show j8 j t f δ (φ a::r.map φ)=_;unfold j8;rw[h1 a af,List.filter_cons];cases hp:p a with
  |true=>
   simp only[if_true];rw[h2 a af hp,ih];rfl
  |false=>simpa using ih
theorem jx {j:Nat}{i:bZ}{t:cf}{f:cc}{δ:dD}{ds:cv}{r:Option (cv)}(h:i δ=some ds) (hl:ds.length<1000000) (h2:j8 j t f δ ds=r):eS i j t f δ=r:=by
 unfold eS;rw[h];simp only[ao,if_pos hl];exact h2
theorem nJ {i:Nat}{f:bZ}{δ:dD}{ds:cv}(h:f δ=some ds):ir i f δ=some (.next (δ.set i (.own ds))):=by
 unfold ir;rw[h];rfl
theorem uA {x:D}(h:dI x<=30):Hl x x=some (.bl false):=by
 unfold Hl;rw[if_pos h,m5];rfl
theorem xv {f g:cf}{δ:dD}{r:Option Bool}(h1:f δ=some true) (h2:g δ=r):m4 f g δ=r:=by
 unfold m4;rw[h1];exact h2
theorem Bd {f g:cf}{δ:dD}(h1:f δ=some false):m4 f g δ=some false:=by
 unfold m4;rw[h1]
theorem GQ (a b:cp):Hl (tupI a) (tupI b)=some (.bl (!decide (a=b))):=by
 unfold Hl;rw[if_pos (by rw[LW.yK];omega),LW.yJ]
theorem qt (a b:Int):o3 (.int a) (.int b)=some (.bl (decide (a=b))):=by
 have:o3 (.int a) (.int b)=some (.bl (a==b)):=rfl;rw[this]
 congr 2
theorem GR (a:cp) (L:cn):Am (tupI a) (.tup (L.map tupI))=some (.bl (decide (a∈L))):=by
 show(if g7 (L.map tupI)<=30 then some (D.bl (memD (tupI a) (L.map tupI)))else none)=_
 have:=LW.lL L;rw[if_pos (by omega),LW.qU]
end PC
namespace PW
open PySem DL GP PC
open LW (df de)
open L2 (js oX)
open ST (gp sC)
theorem Co {w:Int}(hw:w=0\/w=1):fJ [.int w]=some (.int (1-w)):=by
 refine LW.eF rfl ?_;rcases hw with rfl|rfl<;>rfl
theorem zg {l m:cp}(hl:l.length<1000000):iE [tupI l,tupI m]=some (tupI (rH m l)):=by
 refine LW.eF rfl ?_;show jY [cJ l,cJ m,.no]=_;unfold jY oR;refine gP ((mG (ds:=(rH m l).map D.int) ?_).trans rfl);exact jx (ds:=l.map D.int) rfl (by simpa using hl) (lU l (λi _=>jd ((jR rfl rfl).trans (Gr i m))) λi _ _=>rfl)
theorem Jn {f g:cc}{δ:dD}{a b:Bool}(hf:f δ=some (.bl a)) (hg:g δ=some (.bl b)):Dc f g δ=some (.bl (a&&b)):=by
 unfold Dc;rw[hf];cases a
 ·rfl
 ·simpa using hg
theorem vf {l:cp}{L:cn}{S:D}(hS:S=.tup (L.map tupI)\/S=.lst (L.map tupI)) (hn:L.length<1000000) (hl:∀o∈L,o.length<1000000):hW [tupI l,S]=some (.bl (GF l L)):=by
 refine LW.eF rfl ?_;show iZ [cJ l,.dat S,.no]=_;unfold iZ mQ GF;have it:iS (cU 1) [cJ l,.dat S,.no]=some (L.map tupI):=by rcases hS with rfl|rfl<;>rfl
 refine gP ((mG (ds:=L.map λo=>D.bl ((!decide (o=l))&&kX l o)) ?_).trans (ze L _))
 exact jx it (by simpa using hn) (jH L λo ho=>Jn ((jR rfl rfl).trans (GQ o l)) ((dE rfl).trans (DT (hl o ho))))
theorem GS {c:cp}{L:cn}(hn:L.length<1000000) (hl:∀o∈L,o.length<1000000):nH [tupI c,.lst (L.map tupI)]=some (.bl (L.all λl=>g9 c l)):=by
 refine LW.eF rfl ?_;show n9 [cJ c,.dat (.lst (L.map tupI)),.no]=_;unfold n9 uy;refine gP ((mG (ds:=L.map λo=>D.bl (g9 c o)) ?_).trans (LW.yL L _))
 exact jx (ds:=L.map tupI) rfl (by simpa using hn) (jH L λo ho=>(dE rfl).trans (uw (hl o ho)))
theorem uB {α:Type} [BEq α] [LawfulBEq α]:∀(n:Nat) (l:List α),l.length<=n->l.eraseDups.length<=l.length
 |_,[],_=>by simp
 |0,_::_,h=>by simp at h
 |n+1,a::l,h=>by
  rw[List.eraseDups_cons,ax,ax];have h1:=aW (λb=> !b==a) l
  have h2:=uB n (l.filter λb=> !b==a) (aB h1 (by simpa using h))
  omega
theorem GU {L:cn}{S:D}{m y:cp}(hS:S=.tup (L.map tupI)\/S=.lst (L.map tupI)) (hn:L.length<=18) (hl:∀o∈L,o.length<1000000):eD [S,tupI m,tupI y]=some (.tup ((gg L m y).map tupI)):=by
 refine LW.eF rfl ?_;show jv [.dat S,cJ m,cJ y,.no,.no,.no]=_;have it:iS (cU 0) [.dat S,cJ m,cJ y,.no,.no,.no]=some (L.map tupI):=by rcases hS with rfl|rfl<;>rfl
 have k1:eS (iS (cU 0)) 5 (yf (qB (cM gK (aX (cU 2) (aX (cU 5) cL))))) (cM iE (aX (cU 5) (aX (cU 1) cL))) [.dat S,cJ m,cJ y,.no,.no,.no]=some ((eO L m y).map tupI):=by
  unfold eO;rw[aV];exact jx it (by rw[ae];omega) (lU L (λl gF=>Cj (jd ((dE rfl).trans (uw (hl l gF))))) λl gF _=>(dE rfl).trans (zg (hl l gF)))
 have e1:nI [.dat S,cJ m,cJ y,.no,.no,.no]=some (.next [.dat S,cJ m,cJ y,.own ((eO L m y).map tupI),.no,.no]):=nJ k1;have Mt:(eO L m y).length<=18:=by unfold eO;rw[ae];exact aB (aW _ _) hn
 have V5:∀o∈eO L m y,o.length<1000000:=λo ho=>by
  obtain⟨l,gF,_,rfl⟩:=fm.mp ho;exact Nat.lt_of_le_of_lt (aW _ _) (hl l gF)
 have V6:∀o∈fV (eO L m y).eraseDups,o.length<1000000:=λo ho=>V5 o (Cd.mp ho)
 have Tu:(fV (eO L m y).eraseDups).length<1000000:=by
  rw[(ez _).length_eq];exact Nat.lt_of_le_of_lt (uB _ _ (au _)) (by omega)
 have k2:nt (dt 3) [.dat S,cJ m,cJ y,.dat (.lst ((eO L m y).map tupI)),.no,.no]=some ((fV (eO L m y).eraseDups).map tupI):=by
  show(if((eO L m y).map tupI).length<=18 then(kb ((eO L m y).map tupI)).map _ else none)=_
  rw[if_pos (by rw[ae];exact Mt),tL];rfl
 have e2:kK [.dat S,cJ m,cJ y,.dat (.lst ((eO L m y).map tupI)),.no,.no]=some (.next [.dat S,cJ m,cJ y,.dat (.lst ((eO L m y).map tupI)),.own ((fV (eO L m y).eraseDups).map tupI),.no]):=nJ k2;unfold jv;rw[LW.cT e1];show(eR kK (rq 4 i4)) [.dat S,cJ m,cJ y,.dat (.lst ((eO L m y).map tupI)),.no,.no]=_;rw[LW.cT e2];show i4 [.dat S,cJ m,cJ y,.dat (.lst ((eO L m y).map tupI)),.dat (.lst ((fV (eO L m y).eraseDups).map tupI)),.no]=_;unfold i4;refine gP ((mG (ds:=(gg L m y).map tupI) ?_).trans rfl);unfold gg Jk;exact jx (ds:=(fV (eO L m y).eraseDups).map tupI) rfl (by rw[ae];exact Tu) (lU _ (λl gF=>Cj (jd ((dE rfl).trans (vf (.inr rfl) Tu V6)))) λl _ _=>rfl)
noncomputable def rY (kvs:List (Int×Int)) (L:cn):List (Int×Int):=L.foldl (λk l=>l.foldl lK k) kvs
noncomputable def dQ (L:cn):cp:=(fV (gp (rY [] L))).map λns=>ns.getD 1 0
theorem GV (kvs:List (Int×Int)) (p:Int):(lK kvs p).map (·.1)=if p∈kvs.map (·.1)then kvs.map (·.1)else kvs.map (·.1)++[p]:=by
 have ha:(kvs.any λkv=>decide (kv.1=p))=decide (p∈kvs.map (·.1)):=by
  rw[Bool.eq_iff_iff];simp[bP]
 unfold lK;rw[ha];by_cases h:p∈kvs.map (·.1)
 ·rw[if_pos (aR h),if_pos h,aV];refine bT λkv _=>?_
  simp only[Function.comp_apply];split<;>rfl
 ·rw[if_neg (by rw[aG h];simp),if_neg h,List.map_append];rfl
theorem Cp (kvs:List (Int×Int)) (p:Int):(lK kvs p).length<=kvs.length+1:=by
 unfold lK;split
 ·rw[ae];omega
 ·simp
theorem wg:∀(l:cp) (kvs:List (Int×Int)),(kvs.map (·.1)).Nodup->((l.foldl lK kvs).map (·.1)).Nodup/\∀p,p∈(l.foldl lK kvs).map (·.1)↔p∈kvs.map (·.1)\/p∈l
 |[],kvs,h=>⟨h,λp=>by simp⟩
 |q::l,kvs,h=>by
  have e:=GV kvs q;have hn:((lK kvs q).map (·.1)).Nodup:=by
   rw[e];split
   ·exact h
   ·rename_i hq;rw[List.nodup_append];exact⟨h,by simp,λa ha b hb=>by simp at hb;subst hb;intro z;subst z;exact hq ha⟩
  obtain⟨h1,h2⟩:=wg l (lK kvs q) hn;refine⟨h1,λp=>(h2 p).trans ?_⟩
  rw[e];by_cases hq:q∈kvs.map (·.1)
  ·rw[if_pos hq,List.mem_cons];constructor
   ·rintro(z|z)
    ·exact .inl z
    ·exact .inr (.inr z)
   ·rintro(z|rfl|z)
    ·exact .inl z
    ·exact .inl hq
    ·exact .inr z
  ·rw[if_neg hq];simp only[List.mem_append,List.mem_cons,bJ,or_false];constructor
   ·rintro((z|z)|z)
    ·exact .inl z
    ·exact .inr (.inl z)
    ·exact .inr (.inr z)
   ·rintro(z|z|z)
    ·exact .inl (.inl z)
    ·exact .inl (.inr z)
    ·exact .inr z
theorem uC:∀(L:cn) (kvs:List (Int×Int)),(kvs.map (·.1)).Nodup->((rY kvs L).map (·.1)).Nodup/\∀p,p∈(rY kvs L).map (·.1)↔p∈kvs.map (·.1)\/∃l∈L,p∈l
 |[],kvs,h=>⟨h,λp=>by simp[rY]⟩
 |l::L,kvs,h=>by
  obtain⟨h1,h2⟩:=wg l kvs h;obtain⟨h3,h4⟩:=uC L (l.foldl lK kvs) h1;refine⟨h3,λp=>(h4 p).trans ?_⟩
  rw[h2];constructor
  ·rintro((z|z)|⟨k,hk,z⟩)
   ·exact .inl z
   ·exact .inr ⟨l,af,z⟩
   ·exact .inr ⟨k,ai _ hk,z⟩
  ·rintro(z|⟨k,hk,z⟩)
   ·exact .inl (.inl z)
   ·rcases List.mem_cons.mp hk with rfl|hk
    ·exact .inl (.inr z)
    ·exact .inr ⟨k,hk,z⟩
theorem qZ (L:cn):(dQ L).Perm ((rY [] L).map (·.1)):=by
 unfold dQ;refine((ez _).map _).trans ?_;unfold gp;rw[aV];exact List.Perm.refl _
theorem jm (L:cn):(dQ L).Nodup:=(qZ L).nodup_iff.mpr (uC L [] (by simp)).1
theorem gL (L:cn) (p:Int):p∈dQ L↔∃l∈L,p∈l:=by
 rw[(qZ L).mem_iff,(uC L [] (by simp)).2]
 simp
theorem uD {L:cn}{many:Int}(h9:many<=9) (h:∀l∈L,∀p∈l,0<=p/\p<many):(dQ L).length<=9:=by
 have r:fc (sortI (dQ L)):=LW.jh (jm L);have:=yQ (many:=many) r λp hp=>by
  obtain⟨l,hl,xg⟩:=(gL L p).mp (bW.mp hp);exact h l hl p xg
 rw[(sortI_perm _).length_eq]at this;omega
theorem zh {Ls:D}{x2:Sl}:∀(l:cp) (kvs:List (Int×Int)) (x3:Sl),kvs.length+l.length<=1000->(∀ks,x2≠.memo ks)->(∀ks,x3≠.memo ks)->∃y3,(∀ks,y3≠.memo ks)/\
  iU 3 fq (l.map D.int) [.dat Ls,.memo [jP kvs],x2,x3]=some (.next [.dat Ls,.memo [jP (l.foldl lK kvs)],x2,y3])
 |[],kvs,x3,_,_,h3=>⟨x3,h3,rfl⟩
 |p::l,kvs,x3,hk,h2,h3=>by
  simp only[ax]at hk;have nm:nj [.dat Ls,.no,x2,cH p]=true:=by
   cases x2 with
   |memo ks=>exact absurd rfl (h2 ks)
   |_=>rfl
  have e:fq [.dat Ls,.memo [jP kvs],x2,cH p]=some (.next [.dat Ls,.memo [jP (lK kvs p)],x2,cH p]):=by
   show(xj (jP kvs)).bind _=_;rw[xk];show(if kvs.length<1000/\nj [.dat Ls,.no,x2,cH p]=true then _ else _)=_
   rw[if_pos ⟨by omega,nm⟩]
   rfl
  have:=Cp kvs p;obtain⟨y3,hy,ih⟩:=zh (Ls:=Ls) (x2:=x2) l (lK kvs p) (cH p) (by omega) h2 (λks z=>by cases z)
  refine⟨y3,hy,?_⟩;rw[aE,lT (j:=3) (f:=fq) (d:=.int p) (δ:=[.dat Ls,.memo [jP kvs],x2,x3]) e,ih];rfl
theorem wj:∀(l:cp) (kvs:List (Int×Int)),(l.foldl lK kvs).length<=kvs.length+l.length
 |[],_=>by simp
 |p::l,kvs=>by
  have:=Cp kvs p;have:=wj l (lK kvs p);simp only[List.foldl_cons,ax];omega
theorem zi {Ls:D}:∀(L:cn) (kvs:List (Int×Int)) (x2 x3:Sl),kvs.length+(L.map (·.length)).sum<=1000->(∀ks,x3≠.memo ks)->∃y2 y3,
  iU 2 eA (L.map tupI) [.dat Ls,.memo [jP kvs],x2,x3]=some (.next [.dat Ls,.memo [jP (rY kvs L)],y2,y3])
 |[],kvs,x2,x3,_,_=>⟨x2,x3,rfl⟩
 |l::L,kvs,x2,x3,hk,h3=>by
  simp only[aE,List.sum_cons]at hk;obtain⟨y3,hy,e⟩:=zh (Ls:=Ls) (x2:=cJ l) l kvs x3 (by omega) (λks z=>by cases z) h3
  have e2:eA [.dat Ls,.memo [jP kvs],cJ l,x3]=some (.next [.dat Ls,.memo [jP (l.foldl lK kvs)],cJ l,y3]):=by
   unfold eA kZ;exact qr (ds:=l.map D.int) rfl e
  have:=wj l kvs;obtain⟨z2,z3,ih⟩:=zi (Ls:=Ls) L (l.foldl lK kvs) (cJ l) y3 (by omega) hy
  refine⟨z2,z3,?_⟩;rw[aE,lT (j:=2) (f:=eA) (d:=tupI l) (δ:=[.dat Ls,.memo [jP kvs],x2,x3]) e2,ih];rfl
theorem GW {L:cn}{many:Int}(h9:many<=9) (h:∀l∈L,∀p∈l,0<=p/\p<many) (hs:(L.map (·.length)).sum<=1000) (ja:∃l∈L,l≠[]):fz [.tup (L.map tupI)]=some (tupI (dQ L)):=by
 refine LW.eF rfl ?_;show ji [.dat (.tup (L.map tupI)),.no,.no,.no]=_;obtain⟨y2,y3,e⟩:=zi (Ls:=.tup (L.map tupI)) L [] .no .no (by simpa using hs) (λks z=>by cases z)
 have e3:i0 [.dat (.tup (L.map tupI)),.memo [jP []],.no,.no]=some (.next [.dat (.tup (L.map tupI)),.memo [jP (rY [] L)],y2,y3]):=by
  unfold i0;exact qr (ds:=L.map tupI) rfl e
 have YQ:=uD h9 h;have eP:(rY [] L).length=(dQ L).length:=by rw[(qZ L).length_eq,ae]
 have h1:1<=(rY [] L).length:=by
  rw[eP];obtain⟨l,hl,yB⟩:=ja;cases l with
  |nil=>exact absurd rfl yB
  |cons p r=>
   have:=(gL L p).mpr ⟨_,hl,af⟩;exact List.length_pos_of_mem this
 have e4:ft [.dat (.tup (L.map tupI)),.memo [jP []],.no,.no]=some (.ret (tupI (dQ L))):=by
  unfold ft;rw[LW.cT e3];unfold lb;refine gP ((mG (ds:=(dQ L).map D.int) ?_).trans rfl);show(xj (jP (rY [] L))).bind _=_;rw[xk];show(if 1<=(rY [] L).length/\(rY [] L).length<64 then _ else _)=_
  rw[if_pos ⟨h1,by omega⟩]
  unfold dQ;rw[aV];rfl
 show(if noOwn [.dat (.tup (L.map tupI)),.no,.no,.no]=true/\1<4 then(ft [.dat (.tup (L.map tupI)),.memo [jP []],.no,.no]).bind (Fn 1)else none)=_
 rw[if_pos ⟨rfl,by decide⟩,e4]
 rfl
end PW
namespace PW
open PySem DL GP PC
open LW (df de)
open L2 (js oX)
noncomputable def dG (G:Gm) (f:Int):D:=vY G.many G.ls f G.b G.g
section
variable {G:Gm}{f w:Int}{m y:cp}{rc:cg}{ks:cv}
end
end PW
namespace PW
open PySem DL GP PC
open LW (df de)
open L2 (js oX)
theorem oi {n np:Nat}{fb:D->cb}{G:D}{ds:cv}{d:D}(hl:ds.length+1=np) (h:fb G (startM n np 0 ds)=some (.ret d)):lG n np fb (G::ds)=some d:=by
 show(if ds.length+1=np/\0<np then _ else _)=_
 rw[if_pos ⟨hl,by omega⟩,h]
structure kM (G:Gm):Prop where
 ok:G.Ok
 Hn:G.ls.length<=18
 rise:∀l∈G.ls,fc l
structure SL (G:Gm) (L:cn):Prop where
 s:GH G L
 lo:Jj G L
 rise:∀l∈L,fc l
 Hn:L.length<=18
 nine:∀l∈L,l.length<=9
 sum:(L.map (·.length)).sum<=1000
theorem GX {k:Nat}:∀(L:cn),(∀l∈L,l.length<=k)->(L.map (·.length)).sum<=L.length*k
 |[],_=>by simp
 |l::L,h=>by
  have:=GX L λx hx=>h x (ai _ hx)
  have:=h l af;simp only[aE,List.sum_cons,ax,Nat.add_mul,Nat.one_mul];omega
theorem kM.lo {G:Gm}(h:kM G):Jj G G.ls:=⟨h.ok.li,h.ok.ll⟩
theorem kM.sl {G:Gm}(h:kM G) {L:cn}(s:GH G L):SL G L:=by
 obtain⟨m,y,p,rfl⟩:=s;have r:=DR (m:=m) (y:=y) h.rise;have lo:=yX (m:=m) (y:=y) h.lo;have n:(gg G.ls m y).length<=18:=by
  unfold gg Jk;refine aB (aW _ _) ?_;rw[(ez _).length_eq];refine aB (uB _ _ (au _)) ?_;unfold eO;rw[ae];exact aB (aW _ _) h.Hn
 have nine:∀l∈gg G.ls m y,l.length<=9:=λl hl=>by
  have:=yQ (r l hl) (lo.li l hl);have:=h.ok.m9;omega
 have:=GX _ nine;exact⟨⟨m,y,p,rfl⟩,lo,r,n,nine,by omega⟩
noncomputable def fy (G:Gm) (L:cn) (w:Int):cn:=
 if w=0 then pe G.b.toNat (dQ L)else(pe G.g.toNat (dQ L)).filter λc=>(L.filter λl=>decide ((l.length:Int)<=G.b)).all λl=>g9 c l
section
variable {G:Gm}{L:cn}{f w:Int}
theorem Jo (hG:G.Ok) (sl:SL G L) (ja:∃l∈L,l≠[]) (hw:w=0\/w=1):fY [dG G f,.tup (L.map tupI),.int w]=some (.tup ((fy G L w).map tupI)):=by
 have b1:=hG.b1;have b3:=hG.b3;have g1:=hG.g1;have g3:=hG.g3;have Hn:=sl.Hn;refine oi rfl ?_;show gq (dG G f) [.memo [],.dat (.tup (L.map tupI)),cH w,.no,.no,.no,.no]=_;have hu:=uD hG.m9 sl.lo.li;have ea:∀v:Int,(v=0\/v=1)->dM [dG G f,.int v]=some (.int (((if v=0 then G.b else G.g).toNat:Nat):Int)):=λv hv=>by
  rw[show dG G f=vY G.many G.ls f G.b G.g from rfl,OR hv]
  congr 2
  rcases hv with rfl|rfl<;>simp<;>omega
 have e1:jj (dG G f) [.memo [],.dat (.tup (L.map tupI)),cH w,.no,.no,.no,.no]=some (.next [.memo [],.dat (.tup (L.map tupI)),cH w,.dat (.tup ((pe (if w=0 then G.b else G.g).toNat (dQ L)).map tupI)),.no,.no,.no]):=by
  have k1:cM fz (aX (cU 1) cL) [.memo [],.dat (.tup (L.map tupI)),cH w,.no,.no,.no,.no]=some (tupI (dQ L)):=(dE rfl).trans (GW hG.m9 sl.lo.li sl.sum ja);have k2:cM dM (aX (lF (dG G f) 0) (aX (cU 2) cL)) [.memo [],.dat (.tup (L.map tupI)),cH w,.no,.no,.no,.no]=some (.int (((if w=0 then G.b else G.g).toNat:Nat):Int)):=(dE rfl).trans (ea w hw)
  unfold jj;rw[jX ((dE (kH k1 (oO k2))).trans (we 5 _ _ (by split<;>omega) (by omega)))]
  rfl
 unfold gq;rw[LW.cT e1];have Rr:∀k:Nat,(pe k (dQ L)).length<1000000:=λk=>by
  have h1:=GB (c:=k) (ps:=dQ L);have h2:2^(dQ L).length<=2^9:=Nat.pow_le_pow_right (by decide) hu
  have:(2:Nat)^9=512:=by decide
  omega
 rcases hw with rfl|rfl
 ·have e3:jk (dG G f) [.memo [],.dat (.tup (L.map tupI)),cH 0,.dat (.tup ((pe (if(0:Int)=0 then G.b else G.g).toNat (dQ L)).map tupI)),.no,.no,.no]=some (.ret (.tup ((fy G L 0).map tupI))):=rfl
  rw[kJ e3]
 ·have e3:jk (dG G f) [.memo [],.dat (.tup (L.map tupI)),cH 1,.dat (.tup ((pe (if(1:Int)=0 then G.b else G.g).toNat (dQ L)).map tupI)),.no,.no,.no]=some (.next [.memo [],.dat (.tup (L.map tupI)),cH 1,.dat (.tup ((pe (if(1:Int)=0 then G.b else G.g).toNat (dQ L)).map tupI)),.no,.no,.no]):=rfl
  rw[LW.cT e3];have k4:eS (iT (cU 1)) 5 (qB (dA La (cM lB (aX (dt 5) cL)) (cM dM (aX (lF (dG G f) 0) (aX (dC (.int 0)) cL))))) (cU 5) [.memo [],.dat (.tup (L.map tupI)),cH 1,.dat (.tup ((pe (if(1:Int)=0 then G.b else G.g).toNat (dQ L)).map tupI)),.no,.no,.no]=some ((L.filter λl=>decide ((l.length:Int)<=G.b)).map tupI):=by
   refine jx (ds:=L.map tupI) rfl (by rw[ae];omega) (lU L (λl _=>?_) λl _ _=>rfl)
   have kl:cM lB (aX (dt 5) cL) [.memo [],.dat (.tup (L.map tupI)),cH 1,.dat (.tup ((pe (if(1:Int)=0 then G.b else G.g).toNat (dQ L)).map tupI)),.no,cJ l,.no]=some (.int (l.length:Int)):=by
    show some (D.int ((l.map D.int).length:Int))=_;rw[ae]
   have ka:cM dM (aX (lF (dG G f) 0) (aX (dC (.int 0)) cL)) [.memo [],.dat (.tup (L.map tupI)),cH 1,.dat (.tup ((pe (if(1:Int)=0 then G.b else G.g).toNat (dQ L)).map tupI)),.no,cJ l,.no]=some (.int G.b):=by
    refine(dE rfl).trans ((ea 0 (.inl rfl)).trans ?_)
    congr 2
    simp;omega
   exact jd ((jR (o:=La) kl ka).trans rfl)
  have e4:lS (dG G f) [.memo [],.dat (.tup (L.map tupI)),cH 1,.dat (.tup ((pe (if(1:Int)=0 then G.b else G.g).toNat (dQ L)).map tupI)),.no,.no,.no]=some (.next [.memo [],.dat (.tup (L.map tupI)),cH 1,.dat (.tup ((pe (if(1:Int)=0 then G.b else G.g).toNat (dQ L)).map tupI)),.own ((L.filter λl=>decide ((l.length:Int)<=G.b)).map tupI),.no,.no]):=nJ k4
  rw[LW.cT e4];show jl (dG G f) [.memo [],.dat (.tup (L.map tupI)),cH 1,.dat (.tup ((pe (if(1:Int)=0 then G.b else G.g).toNat (dQ L)).map tupI)),.dat (.lst ((L.filter λl=>decide ((l.length:Int)<=G.b)).map tupI)),.no,.no]=_
  unfold jl;refine gP ((mG (ds:=(fy G L 1).map tupI) ?_).trans rfl);have hf:(L.filter λl=>decide ((l.length:Int)<=G.b)).length<1000000:=Nat.lt_of_le_of_lt (aW _ _) (by omega)
  refine jx (ds:=(pe (if(1:Int)=0 then G.b else G.g).toNat (dQ L)).map tupI) rfl (by rw[ae];exact Rr _) ?_
  exact lU _ (λc _=>jd ((dE rfl).trans (GS hf λo ho=>by have:=sl.nine o (List.mem_filter.mp ho).1;omega))) λc _ _=>rfl
noncomputable def g0 (L:cn) (w:Int) (c:cp):cn:=if w=0 then gg L (sortI c) []else gg L [] (sortI c)
theorem DU {c:cp}(h:c∈fy G L w):∃k,(k=G.b.toNat\/k=G.g.toNat)/\c∈pe k (dQ L):=by
 unfold fy at h;split at h
 ·exact⟨_,.inl rfl,h⟩
 ·exact⟨_,.inr rfl,(List.mem_filter.mp h).1⟩
theorem kN (hG:G.Ok) (sl:SL G L) (ja:∃l∈L,l≠[]) {c:cp}(h:c∈fy G L w):c.Nodup/\(∀p∈c,p∈dQ L)/\c.length<=4/\c≠[]:=by
 have b1:=hG.b1;have b3:=hG.b3;have g1:=hG.g1;have g3:=hG.g3;obtain⟨k,hk,hc⟩:=DU h;obtain⟨h1,h2,h3⟩:=mB hc;refine⟨lP hG sl.lo (gL L) (jm L) hc,h1,by omega,λz=>?_⟩
 subst z;rcases h3 with z|z
 ·simp at z;omega
 ·obtain⟨l,hl,yB⟩:=ja;cases l with
  |nil=>exact yB rfl
  |cons p r=>
   have:=z p ((gL L p).mpr ⟨_,hl,af⟩);cases this
theorem zj (hF:kM G) (sl:SL G L) {c:cp}(hc:∀p∈c,p∈dQ L) (hn:c.Nodup):GH G (g0 L w c):=by
 obtain⟨m,y,p,e⟩:=sl.s;have sX:∀q∈c,(0<=q/\q<G.many)/\q∉m/\q∉y:=λq hq=>by
  obtain⟨l,hl,Tv⟩:=(gL L q).mp (hc q hq);refine⟨sl.lo.li l hl q Tv,?_⟩;rw[e]at hl;obtain⟨k,hk,OP,rfl⟩:=fm.mp (gJ.mp hl).1;obtain⟨h1,h2⟩:=eK.mp Tv;exact⟨h2,OP q h1⟩
 have rs:fc (sortI c):=LW.jh hn;unfold g0;split
 ·refine⟨sortI (m++sortI c),y,⟨n4 p.rm rs λq hq=>(sX q (bW.mp hq)).2.1,p.ry,λq hq=>?_,p.iy,λq hq=>?_⟩,?_⟩
  ·rcases List.mem_append.mp (bW.mp hq)with z|z
   ·exact p.im q z
   ·exact(sX q (bW.mp z)).1
  ·rcases List.mem_append.mp (bW.mp hq)with z|z
   ·exact p.dj q z
   ·exact(sX q (bW.mp z)).2.2
  ·rw[e];exact wa hF.rise (λq=>by rw[bW,List.mem_append]) (λq=>by simp) (λq hq=>by cases hq)
 ·refine⟨m,sortI (y++sortI c),⟨p.rm,n4 p.ry rs λq hq=>(sX q (bW.mp hq)).2.2,p.im,λq hq=>?_,λq hq z=>?_⟩,?_⟩
  ·rcases List.mem_append.mp (bW.mp hq)with z|z
   ·exact p.iy q z
   ·exact(sX q (bW.mp z)).1
  ·rcases List.mem_append.mp (bW.mp z)with z|z
   ·exact p.dj q hq z
   ·exact(sX q (bW.mp z)).2.1 hq
  ·rw[e];exact wa hF.rise (λq=>by simp) (λq=>by rw[bW,List.mem_append]) (λq hq=>(sX q (bW.mp hq)).2.1)
theorem Be (sl:SL G L) {c:cp}(hc:∀p∈c,p∈dQ L) (ja:c≠[]):(dQ (g0 L w c)).length<(dQ L).length:=by
 have sub:∀p∈dQ (g0 L w c),p∈dQ L/\p∉c:=λp hp=>by
  obtain⟨l,hl,i9⟩:=(gL _ p).mp hp;unfold g0 at hl;split at hl
  ·obtain⟨k,hk,_,rfl⟩:=fm.mp (gJ.mp hl).1;obtain⟨h1,h2⟩:=eK.mp i9;exact⟨(gL _ p).mpr ⟨k,hk,h1⟩,λz=>h2 (bW.mpr z)⟩
  ·obtain⟨k,hk,OP,rfl⟩:=fm.mp (gJ.mp hl).1;obtain⟨h1,h2⟩:=eK.mp i9;exact⟨(gL _ p).mpr ⟨k,hk,h1⟩,λz=>OP p h1 (bW.mpr z)⟩
 obtain⟨q,r,rfl⟩:∃q r,c=q::r:=by
  cases c with
  |nil=>exact absurd rfl ja
  |cons q r=>exact⟨q,r,rfl⟩
 have ra:fc (sortI (dQ (g0 L w (q::r)))):=LW.jh (jm _);have rb:fc (sortI (dQ L)):=LW.jh (jm _);have:=yW ra rb (λp hp=>bW.mpr (sub p (bW.mp hp)).1) λz=>by
  have h1:q∈sortI (dQ (g0 L w (q::r))):=by rw[z];exact bW.mpr (hc q af)
  exact(sub q (bW.mp h1)).2 af
 rwa [(sortI_perm _).length_eq,(sortI_perm _).length_eq]at this
theorem qu (hF:kM G) (sl:SL G L) {c:cp}(hc:∀p∈c,p∈dQ L) (hn:c.Nodup) {v:Int}(hv:v=0\/v=1):
  (G.at (g0 L w c)).dO [] [] v=if w=0 then(G.at L).dO (sortI c) [] v else(G.at L).dO [] (sortI c) v:=by
 obtain⟨p1,p2⟩:=ny hF.ok sl.lo (gL L) hc hn;unfold g0;split
 ·exact(uk hF.ok sl.lo sl.rise p1 hv).symm
 ·exact(uk hF.ok sl.lo sl.rise p2 hv).symm
end
end PW
namespace PW
open PySem DL GP PC
open LW (df de)
open L2 (js oX)
theorem Bf {ns:cp}(h:ns≠[]):yq [.lst (ns.map D.int)]=some (.int (iO ns)):=by
 show(intsOf (ns.map D.int)).bind _=_;rw[ip];cases ns with
 |nil=>exact absurd rfl h
 |cons a r=>rfl
section
variable {G:Gm}{L:cn}{f w:Int}
theorem held_eq (c:cp) (hw:w=0\/w=1):gg L (dS [] [] w c).1 (dS [] [] w c).2=g0 L w c:=by
 rcases hw with rfl|rfl<;>rfl
theorem Mm (sl:SL G L) (hw:w=0\/w=1) {c:cp}(hc:c.length<=4) {rc:cg}{x3 x5 x6:Sl}{v:Int}(hv:v=0\/v=1)
  (hr:rc [dG G f,.tup ((g0 L w c).map tupI),.int (1-w)]=some (.int v)):∃y5,
  eT (dG G f) rc [.memo [],.dat (.tup (L.map tupI)),cH w,x3,cJ c,x5,x6]=(if v=w then some (.ret (.int w))else some (.next [.memo [],.dat (.tup (L.map tupI)),cH w,x3,cJ c,y5,x6])):=by
 have Hn:=sl.Hn;have e4:mI (dG G f) rc [.memo [],.dat (.tup (L.map tupI)),cH w,x3,cJ c,x5,x6]=some (.next [.memo [],.dat (.tup (L.map tupI)),cH w,x3,cJ c,.dat (.tup [tupI (dS [] [] w c).1,tupI (dS [] [] w c).2]),x6]):=by
  unfold mI;rw[jX ((dE rfl).trans (GL (m:=[]) (y:=[]) (c:=c) (w:=w) (by simp;omega) (by simp;omega)))]
  rfl
 refine⟨.dat (.tup [tupI (dS [] [] w c).1,tupI (dS [] [] w c).2]),?_⟩;unfold eT;rw[LW.cT e4];have ko:cM eD (aX (cU 1) (aX (dA mi (dt 5) (dC (.int 0))) (aX (dA mi (dt 5) (dC (.int 1))) cL))) [.memo [],.dat (.tup (L.map tupI)),cH w,x3,cJ c,.dat (.tup [tupI (dS [] [] w c).1,tupI (dS [] [] w c).2]),x6]=some (.tup ((g0 L w c).map tupI)):=by
  rw[<-held_eq c hw];exact(dE rfl).trans (GU (.inl rfl) Hn sl.lo.ll)
 have kh:cM fJ (aX (cU 2) cL) [.memo [],.dat (.tup (L.map tupI)),cH w,x3,cJ c,.dat (.tup [tupI (dS [] [] w c).1,tupI (dS [] [] w c).2]),x6]=some (.int (1-w)):=(dE rfl).trans (Co hw);have km:kj 0 (dG G f) rc (aX (cM eD (aX (cU 1) (aX (dA mi (dt 5) (dC (.int 0))) (aX (dA mi (dt 5) (dC (.int 1))) cL)))) (aX (cM fJ (aX (cU 2) cL)) cL)) [.memo [],.dat (.tup (L.map tupI)),cH w,x3,cJ c,.dat (.tup [tupI (dS [] [] w c).1,tupI (dS [] [] w c).2]),x6]=some (.int v):=by
  show(aX _ _ _).bind _=_;rw[kH ko (oO kh)];exact hr
 have kq:=jd ((jR (o:=o3) (g:=dt 2) (y:=.int w) km rfl).trans (qt v w));unfold qp;by_cases e:v=w
 ·rw[zd (by rw[kq,aR e]),if_pos e]
  rfl
 ·rw[oP (by rw[kq,aG e]),if_neg e]
  rfl
theorem GY (sl:SL G L) (hw:w=0\/w=1) {rc:cg}{x3 x6:Sl}(val:cp->Int):∀(cs:cn) (x4 x5:Sl),(∀c∈cs,c.length<=4)->(∀c∈cs,val c=0\/val c=1)->(∀c∈cs,rc [dG G f,.tup ((g0 L w c).map tupI),.int (1-w)]=some (.int (val c)))->∃y4 y5,
  iU 4 (eT (dG G f) rc) (cs.map tupI) [.memo [],.dat (.tup (L.map tupI)),cH w,x3,x4,x5,x6]=(if(cs.any λc=>val c==w)=true then some (.ret (.int w))else some (.next [.memo [],.dat (.tup (L.map tupI)),cH w,x3,y4,y5,x6]))
 |[],x4,x5,_,_,_=>⟨x4,x5,rfl⟩
 |c::cs,x4,x5,h4,OS,hr=>by
  obtain⟨z5,e⟩:=Mm (f:=f) sl hw (h4 c af) (rc:=rc) (x3:=x3) (x5:=x5) (x6:=x6) (OS c af) (hr c af);obtain⟨y4,y5,ih⟩:=GY sl hw (rc:=rc) (x3:=x3) (x6:=x6) val cs (cJ c) z5 (λa h=>h4 a (ai _ h)) (λa h=>OS a (ai _ h)) (λa h=>hr a (ai _ h))
  refine⟨y4,y5,?_⟩;rw[aE,bG];by_cases hv:val c=w
  ·rw[if_pos hv]at e;rw[GO (j:=4) (f:=eT (dG G f) rc) (d:=tupI c) (δ:=[.memo [],.dat (.tup (L.map tupI)),cH w,x3,x4,x5,x6]) e,if_pos (by simp[hv])]
  ·rw[if_neg hv]at e;rw[lT (j:=4) (f:=eT (dG G f) rc) (d:=tupI c) (δ:=[.memo [],.dat (.tup (L.map tupI)),cH w,x3,x4,x5,x6]) e,ih];have:(val c==w)=false:=by simpa using hv
   rw[this,Bool.false_or]
theorem Jp (hF:kM G) (sl:SL G L) (h1:L≠[]) (h2:[]∉L) (hw:w=0\/w=1):(G.at L).dO [] [] w=if((fy G L w).any λc=>(G.at (g0 L w c)).dO [] [] (1-w)==w)=true then w else 1-w:=by
 have hG:=hF.ok;have ja:∃l∈L,l≠[]:=by
  cases L with
  |nil=>exact absurd rfl h1
  |cons l r=>exact⟨l,af,λz=>h2 (by rw[<-z];exact af)⟩
 have OS:=jQ (w:=w) (hG.at sl.lo) (fQ (G.at L).many) hw;have key:(((fy G L w).any λc=>(G.at (g0 L w c)).dO [] [] (1-w)==w)=true)↔(G.at L).dO [] [] w=w:=by
  rw[bP];rcases hw with rfl|rfl
  ·rw[GC hG sl.lo h1 h2 (jm L) (gL L)];constructor
   ·rintro⟨c,hc,e⟩
    have co:=kN hG sl ja hc;refine⟨c,by simpa [fy]using hc,?_⟩
    have:=qu (w:=0) hF sl co.2.1 co.1 (v:=1) (.inr rfl);rw[if_pos rfl]at this;rw[<-this]
    simpa using e
   ·rintro⟨c,hc,e⟩
    have lZ:c∈fy G L 0:=by simpa [fy]using hc
    have co:=kN hG sl ja lZ;refine⟨c,lZ,?_⟩;have:=qu (w:=0) hF sl co.2.1 co.1 (v:=1) (.inr rfl);rw[if_pos rfl,e]at this
    simpa using this
  ·rw[GD hG sl.lo h1 h2 (jm L) (gL L)];have sp:∀c,((L.filter λl=>decide ((l.length:Int)<=G.b)).all λl=>g9 c l)=true↔∀l∈L,l.length<=G.b.toNat->∃p∈l,p∈c:=λc=>by
    have b1:=hG.b1;rw[List.all_eq_true];constructor
    ·intro h l hl hb;have:=h l (List.mem_filter.mpr ⟨hl,aR (by omega)⟩)
     unfold g9 at this;rw[bP]at this;obtain⟨p,hp,hq⟩:=this;exact⟨p,hp,bL hq⟩
    ·intro h l hl;obtain⟨Py,yB⟩:=List.mem_filter.mp hl;have YR:=bL yB;obtain⟨p,hp,hq⟩:=h l Py (by omega)
     unfold g9;rw[bP];exact⟨p,hp,aR hq⟩
   constructor
   ·rintro⟨c,hc,e⟩
    have co:=kN hG sl ja hc;have rk:c∈(pe G.g.toNat (dQ L)).filter λc=>(L.filter λl=>decide ((l.length:Int)<=G.b)).all λl=>g9 c l:=by simpa [fy]using hc
    obtain⟨c1,c2⟩:=List.mem_filter.mp rk;refine⟨c,c1,(sp c).mp c2,?_⟩;have:=qu (w:=1) hF sl co.2.1 co.1 (v:=0) (.inl rfl);rw[if_neg (by decide)]at this
    rw[<-this]
    simpa using e
   ·rintro⟨c,c1,c2,e⟩
    have lZ:c∈fy G L 1:=by
     have:c∈(pe G.g.toNat (dQ L)).filter λc=>(L.filter λl=>decide ((l.length:Int)<=G.b)).all λl=>g9 c l:=List.mem_filter.mpr ⟨c1,(sp c).mpr c2⟩
     simpa [fy]using this
    have co:=kN hG sl ja lZ;refine⟨c,lZ,?_⟩;have:=qu (w:=1) hF sl co.2.1 co.1 (v:=0) (.inl rfl);rw[if_neg (by decide),e]at this
    simpa using this
 by_cases hk:((fy G L w).any λc=>(G.at (g0 L w c)).dO [] [] (1-w)==w)=true
 ·rw[if_pos hk];exact key.mp hk
 ·rw[if_neg hk];have Tw:(G.at L).dO [] [] w≠w:=λz=>hk (key.mpr z)
  rcases hw with rfl|rfl
  ·rcases OS with h|h
   ·exact absurd h Tw
   ·rw[h];rfl
  ·rcases OS with h|h
   ·rw[h];rfl
   ·exact absurd h Tw
theorem Bg (hF:kM G) (sl:SL G L) (h1:L≠[]) (h2:[]∉L) (hw:w=0\/w=1) {rc:cg}
  (hr:∀c∈fy G L w,rc [dG G f,.tup ((g0 L w c).map tupI),.int (1-w)]=some (.int ((G.at (g0 L w c)).dO [] [] (1-w)))):
  iF (dG G f) rc [.memo [],.dat (.tup (L.map tupI)),cH w,.no,.no,.no,.no]=some (.ret (.int ((G.at L).dO [] [] w))):=by
 have hG:=hF.ok;have b1:=hG.b1;have Hn:=sl.Hn;have ja:∃l∈L,l≠[]:=by
  cases L with
  |nil=>exact absurd rfl h1
  |cons l r=>exact⟨l,af,λz=>h2 (by rw[<-z];exact af)⟩
 have e1:mH (dG G f) rc [.memo [],.dat (.tup (L.map tupI)),cH w,.no,.no,.no,.no]=some (.next [.memo [],.dat (.tup (L.map tupI)),cH w,cH (iO (L.map λl=>(l.length:Int))),.no,.no,.no]):=by
  have k:eS (iT (cU 1)) 6 j9 (cM lB (aX (dt 6) cL)) [.memo [],.dat (.tup (L.map tupI)),cH w,.no,.no,.no,.no]=some ((L.map λl=>(l.length:Int)).map D.int):=by
   rw[aV];refine jx (ds:=L.map tupI) rfl (by rw[ae];omega) (jH L λl _=>?_)
   show some (D.int ((l.map D.int).length:Int))=_;rw[ae];rfl
  have kl:cM yq (aX (dL (eS (iT (cU 1)) 6 j9 (cM lB (aX (dt 6) cL)))) cL) [.memo [],.dat (.tup (L.map tupI)),cH w,.no,.no,.no,.no]=some (.int (iO (L.map λl=>(l.length:Int)))):=(mG k).trans (Bf (by simpa using h1))
  unfold mH;rw[jX kl];rfl
 unfold iF;rw[LW.cT e1];have ka:cM dM (aX (lF (dG G f) 0) (aX (dC (.int 0)) cL)) [.memo [],.dat (.tup (L.map tupI)),cH w,cH (iO (L.map λl=>(l.length:Int))),.no,.no,.no]=some (.int G.b):=
  (dE rfl).trans ((show dM [vY G.many G.ls f G.b G.g,.int 0]=_ from OR (.inl rfl)).trans rfl)
 have q1:qB (dA o3 (dt 2) (dC (.int 0))) [.memo [],.dat (.tup (L.map tupI)),cH w,cH (iO (L.map λl=>(l.length:Int))),.no,.no,.no]=some (decide (w=0)):=jd ((jR rfl rfl).trans (qt w 0))
 have q2:qB (dA La (dt 3) (cM dM (aX (lF (dG G f) 0) (aX (dC (.int 0)) cL)))) [.memo [],.dat (.tup (L.map tupI)),cH w,cH (iO (L.map λl=>(l.length:Int))),.no,.no,.no]=some (decide (iO (L.map λl=>(l.length:Int))<=G.b)):=jd ((jR (o:=La) rfl ka).trans rfl)
 obtain⟨m1,m2⟩:=tX (L.map λl=>(l.length:Int)) (by simpa using h1)
 by_cases hq:w=0/\iO (L.map λl=>(l.length:Int))<=G.b
 ·obtain⟨rfl,hb⟩:=hq;have e3:i6 (dG G f) rc [.memo [],.dat (.tup (L.map tupI)),cH 0,cH (iO (L.map λl=>(l.length:Int))),.no,.no,.no]=some (.ret (.int 0)):=by
   unfold i6;rw[zd (xv (q1.trans (by simp)) (q2.trans (by rw[aR hb])))]
   rfl
  rw[kJ e3];obtain⟨l,hl,e⟩:=List.mem_map.mp m1;have:(G.at L).dO [] [] 0=0:=quick (hG.at sl.lo) (fQ _) (l:=l) hl (λp _ z=>by cases z) (by show l.length<=G.b.toNat;omega)
  rw[this]
 ·have e3:i6 (dG G f) rc [.memo [],.dat (.tup (L.map tupI)),cH w,cH (iO (L.map λl=>(l.length:Int))),.no,.no,.no]=some (.next [.memo [],.dat (.tup (L.map tupI)),cH w,cH (iO (L.map λl=>(l.length:Int))),.no,.no,.no]):=by
   unfold i6;rw[oP (by
    by_cases h0:w=0
    ·exact xv (q1.trans (by rw[aR h0])) (q2.trans (by rw[aG λz=>hq ⟨h0,z⟩]))
    ·exact Bd (q1.trans (by rw[aG h0])))]
   rfl
  rw[LW.cT e3];have kt:iT (kj 0 (dG G f) fY (aX (cU 1) (aX (cU 2) cL))) [.memo [],.dat (.tup (L.map tupI)),cH w,cH (iO (L.map λl=>(l.length:Int))),.no,.no,.no]=some ((fy G L w).map tupI):=by
   have:kj 0 (dG G f) fY (aX (cU 1) (aX (cU 2) cL)) [.memo [],.dat (.tup (L.map tupI)),cH w,cH (iO (L.map λl=>(l.length:Int))),.no,.no,.no]=some (.tup ((fy G L w).map tupI)):=Jo (f:=f) hG sl ja hw
   unfold iT;rw[this]
  have V7:∀c∈fy G L w,(G.at (g0 L w c)).dO [] [] (1-w)=0\/(G.at (g0 L w c)).dO [] [] (1-w)=1:=λc hc=>by
   have co:=kN hG sl ja hc;have sn:=hF.sl (zj (w:=w) hF sl co.2.1 co.1);exact jQ (hG.at sn.lo) (fQ _) (by omega)
  obtain⟨y4,y5,e⟩:=GY (f:=f) sl hw (rc:=rc) (x3:=cH (iO (L.map λl=>(l.length:Int)))) (x6:=.no) (λc=>(G.at (g0 L w c)).dO [] [] (1-w)) (fy G L w) .no .no (λc hc=>(kN hG sl ja hc).2.2.1) V7 hr
  have e7:=(show mJ (dG G f) rc [.memo [],.dat (.tup (L.map tupI)),cH w,cH (iO (L.map λl=>(l.length:Int))),.no,.no,.no]=iU 4 (eT (dG G f) rc) ((fy G L w).map tupI) [.memo [],.dat (.tup (L.map tupI)),cH w,cH (iO (L.map λl=>(l.length:Int))),.no,.no,.no] by
   unfold mJ;exact qr kt rfl).trans e
  rw[Jp hF sl h1 h2 hw];by_cases ha:((fy G L w).any λc=>(G.at (g0 L w c)).dO [] [] (1-w)==w)=true
  ·rw[if_pos ha]at e7 ⊢;rw[kJ e7]
  ·rw[if_neg ha]at e7 ⊢;rw[LW.cT e7];unfold qq;exact gP ((dE rfl).trans (Co hw))
end
end PW
namespace PW
open PySem DL GP PC
open LW (df de)
open L2 (js oX)
section
variable {G:Gm}{L:cn}{f w:Int}
theorem GZ:(G.at []).dO [] [] w=1:=by
 have ho:(G.at []).over [] []=some 1:=rfl;unfold Gm.dO Gm.rW;rw[ho]
theorem DV (h:[]∈L):(G.at L).dO [] [] w=0:=by
 have ho:(G.at L).over [] []=some 0:=jc.mpr ⟨[],h,λp hp=>by cases hp⟩
 unfold Gm.dO Gm.rW;rw[ho]
theorem zk (hF:kM G) (sl:SL G L) (hw:w=0\/w=1) {rc:cg}
  (hr:L≠[]->[]∉L->rc [dG G f,.tup (L.map tupI),.int w]=some (.int ((G.at L).dO [] [] w))):
  gQ (dG G f) rc [.memo [],.dat (.tup (L.map tupI)),cH w]=some (.ret (.int ((G.at L).dO [] [] w))):=by
 have hG:=hF.ok;unfold gQ;have q2:qB (dA o3 (cM lB (aX (dt 1) cL)) (dC (.int 0))) [.memo [],.dat (.tup (L.map tupI)),cH w]=some (decide (((L.length:Nat):Int)=0)):=by
  have k:cM lB (aX (dt 1) cL) [.memo [],.dat (.tup (L.map tupI)),cH w]=some (.int ((L.length:Nat):Int)):=by
   show some (D.int ((L.map tupI).length:Int))=_;rw[ae]
  exact jd ((jR (o:=o3) (g:=dC (.int 0)) (y:=.int 0) k rfl).trans (qt _ 0))
 by_cases h1:L=[]
 ·subst h1;have e2:jw (dG G f) rc [.memo [],.dat (.tup (([]:cn).map tupI)),cH w]=some (.ret (.int 1)):=rfl;rw[kJ e2,GZ]
 ·have e2:jw (dG G f) rc [.memo [],.dat (.tup (L.map tupI)),cH w]=some (.next [.memo [],.dat (.tup (L.map tupI)),cH w]):=by
   unfold jw;rw[oP (q2.trans (by
    rw[aG];intro z;apply h1
    exact List.eq_nil_of_length_eq_zero (by omega)))]
   rfl
  rw[LW.cT e2];have q4:qB (dA Am (fL cL) (dt 1)) [.memo [],.dat (.tup (L.map tupI)),cH w]=some (decide ([]∈L)):=jd ((jR (o:=Am) (x:=tupI []) (y:=.tup (L.map tupI)) rfl rfl).trans (GR [] L));by_cases h2:[]∈L
  ·have e4:hX (dG G f) rc [.memo [],.dat (.tup (L.map tupI)),cH w]=some (.ret (.int 0)):=by
    unfold hX;rw[zd (q4.trans (by rw[aR h2]))]
    rfl
   rw[kJ e4,DV h2]
  ·have e4:hX (dG G f) rc [.memo [],.dat (.tup (L.map tupI)),cH w]=some (.next [.memo [],.dat (.tup (L.map tupI)),cH w]):=by
    unfold hX;rw[oP (q4.trans (by rw[aG h2]))]
    rfl
   rw[LW.cT e4];have hM:PU (dG G f)=GJ G hG:=A8 hG f;have k:∀ks,fL (aX (cU 1) (aX (cU 2) cL)) [.memo ks,.dat (.tup (L.map tupI)),cH w]=some (rX L w):=λks=>rfl
   have V8:=hr h1 h2;have km:kj 0 (dG G f) rc (aX (cU 1) (aX (cU 2) cL)) [.memo [],.dat (.tup (L.map tupI)),cH w]=some (.int ((G.at L).dO [] [] w)):=V8;have e5:ly (dG G f) rc [.memo [],.dat (.tup (L.map tupI)),cH w]=some (.next [.memo [rX L w],.dat (.tup (L.map tupI)),cH w]):=by
    unfold ly ni;rw[k,km,hM];exact if_pos (GI sl.s hw)
   have ko:=Ci L w;have e6:lz (dG G f) rc [.memo [],.dat (.tup (L.map tupI)),cH w]=some (.next [.memo [rX L w],.dat (.tup (L.map tupI)),cH w]):=by
    unfold lz pV;rw[k,e5];refine if_pos ⟨ko.1,ko.2,rfl,λi s hs=>?_⟩
    match i,hs with
    |0,hs=>exact .inr (.inl hs)
    |1,hs=>exact .inr (.inl hs)
    |2,hs=>exact .inr (.inl hs)
    |(i+3),hs=>cases hs
   rw[LW.cT e6];unfold oS;refine gP ?_;unfold nh;rw[k,hM];exact(if_pos ⟨ko.1,ko.2,bu.mpr rfl⟩).trans (GI sl.s hw)
theorem rL (hF:kM G):∀(n:Nat),(∀L w,GH G L->(w=0\/w=1)->L≠[]->[]∉L->2*(dQ L).length+2<=n->kL n [dG G f,.tup (L.map tupI),.int w]=some (.int ((G.at L).dO [] [] w)))/\
  (∀L w,GH G L->(w=0\/w=1)->2*(dQ L).length+3<=n->gh n [dG G f,.tup (L.map tupI),.int w]=some (.int ((G.at L).dO [] [] w)))
 |0=>⟨λ_ _ _ _ _ _ h=>by omega,λ_ _ _ _ h=>by omega⟩
 |n+1=>by
  obtain⟨V9,Wa⟩:=rL hF n;refine⟨λL w s hw h1 h2 hn=>?_,λL w s hw hn=>?_⟩
  ·have sl:=hF.sl s;have ja:∃l∈L,l≠[]:=by
    cases L with
    |nil=>exact absurd rfl h1
    |cons l r=>exact⟨l,af,λz=>h2 (by rw[<-z];exact af)⟩
   unfold kL;refine oi rfl ?_;show iF (dG G f) (gh n) [.memo [],.dat (.tup (L.map tupI)),cH w,.no,.no,.no,.no]=_;refine Bg hF sl h1 h2 hw λc hc=>?_
   have co:=kN hF.ok sl ja hc;have fw:=Be (w:=w) sl co.2.1 co.2.2.2;exact Wa _ _ (zj hF sl co.2.1 co.1) (by omega) (by omega)
  ·have sl:=hF.sl s;unfold gh;refine oi rfl ?_;show gQ (dG G f) (kL n) [.memo [],.dat (.tup (L.map tupI)),cH w]=_;exact zk hF sl hw λh1 h2=>V9 L w s hw h1 h2 (by omega)
theorem zl (hF:kM G) {m y:cp}(p:dR G.many m y) (hw:w=0\/w=1):lh [dG G f,tupI m,tupI y,.int w]=some (.int (G.dO m y w)):=by
 have hG:=hF.ok;have s:GH G (gg G.ls m y):=⟨m,y,p,rfl⟩;have sl:=hF.sl s;have hu:=uD hG.m9 sl.lo.li;refine oi rfl ?_;show i7 (dG G f) [.memo [],cJ m,cJ y,cH w]=_;have ko:cM eD (aX (dA mi (dA mi (lF (dG G f) 0) (dC (.int 0))) (dC (.int 1))) (aX (cU 1) (aX (cU 2) cL))) [.memo [],cJ m,cJ y,cH w]=some (.tup ((gg G.ls m y).map tupI)):=(dE rfl).trans (GU (.inl rfl) hF.Hn hG.ll);unfold i7 oT;refine gP ?_;show(aX _ _ _).bind _=_;rw[kH ko rfl];show gh 24 [dG G f,.tup ((gg G.ls m y).map tupI),.int w]=_;rw[(rL (f:=f) hF 24).2 _ w s hw (by omega),<-uk hG hF.lo hF.rise p hw]
 rfl
theorem vg (hF:kM G) {m y:cp}(p:dR G.many m y) (hw:w=0\/w=1):gw [dG G f,tupI m,tupI y,.int w]=some (.int (G.dO m y w)):=by
 refine LW.eF rfl ?_;show i8 [.dat (dG G f),cJ m,cJ y,cH w]=_;unfold i8 mR;exact gP (zl hF p hw)
theorem DW (hF:kM G) (hf:f=0\/f=1):fZ [dG G f]=some (.int (G.dO [] [] f)):=by
 refine LW.eF rfl ?_;show oh [.dat (dG G f)]=_;unfold oh uz;exact gP ((dE (F:=gw) (ds:=[dG G f,tupI [],tupI [],.int f]) rfl).trans (vg hF (fQ _) hf))
end
end PW
namespace lY
open PySem DL GP PC PW
open LW (df de)
open L2 (js oX)
noncomputable def ph:cb:=
  (ir 2 (eS (iT (dA mi (dt 1) (dC (.int 1)))) 3 j9 (cM iN (aX (dL (eS (iT (cU 3)) 4 j9 (dA iR (dt 4) (dA mi (dt 0) (dC (.int 0)))))) cL))))
noncomputable def pj:cb:=
  (eY (fL (aX (dA iR (dA mi (dt 0) (dC (.int 0))) (dA mi (dt 1) (dC (.int 0)))) (aX (dA nc (dA mi (dt 0) (dC (.int 1))) (cM iN (aX (dt 2) cL))) cL))))
noncomputable def oj:cb:=
  (eR ph
  (rq 2 pj))
noncomputable def nL:cg:=il 5 2 oj
noncomputable def oU:cb:=
  (eY (dA mi (dt 0) (dt 1)))
noncomputable def jy:cb:=
  (pq (qB (dA Pj (dt 1) (cM lB (aX (dt 0) cL)))) oU kO)
noncomputable def vh:cb:=
  (eY (dC (.int 0)))
noncomputable def gR:cb:=
  (eR jy
  vh)
noncomputable def iG:cg:=il 2 2 gR
noncomputable def xw:cb:=
  (lq 2 (cM de (aX (cM iG (aX (cU 0) (aX (dA ow (dC (.int 2)) (dt 1)) cL))) (aX (dC (.int 1)) (aX (dC (.int 3)) (aX (dC (.int 4)) cL))))))
noncomputable def xx:cb:=
  (lq 3 (cM de (aX (cM iG (aX (cU 0) (aX (dA iR (dA ow (dC (.int 2)) (dt 1)) (dC (.int 1))) cL))) (aX (dC (.int 1)) (aX (dC (.int 3)) (aX (dC (.int 4)) cL))))))
noncomputable def xy:cb:=
  (lq 4 (cM nL (aX (cU 2) (aX (cU 3) cL))))
noncomputable def xA:cb:=
  (ir 5 (eQ E8 (aX (dA mi (dt 2) (dC (.int 1))) cL)))
noncomputable def Cq:cb:=
  (uY 5 (cM iN (aX (dL (eS (iT (cU 6)) 11 j9 (dA iR (dt 11) (dA mi (dt 2) (dC (.int 0)))))) cL)))
noncomputable def nM:cb:=
  Cq
noncomputable def xB:cb:=
  (oy 6 (iT (dA mi (dt 3) (dC (.int 1)))) nM)
noncomputable def Jq:cb:=
  (eY (dC (.bl false)))
noncomputable def xC:cb:=
  (pq (qB (dA Hl (dt 4) (fL (aX (dA iR (dA mi (dt 2) (dC (.int 0))) (dA mi (dt 3) (dC (.int 0)))) (aX (cM iN (aX (dL (eQ fF (aX (dt 5) cL))) cL)) cL))))) Jq kO)
noncomputable def xD:cb:=
  (lq 7 (cM fZ (aX (fL (aX (cU 4) (aX (dC (.int 0)) (aX (dC (.int 1)) (aX (dC (.int 1)) cL))))) cL)))
noncomputable def uE:cb:=
  (lq 8 (cM yi (aX (cM fZ (aX (fL (aX (cU 2) (aX (dC (.int 0)) (aX (dC (.int 1)) (aX (dC (.int 1)) cL))))) cL)) (aX (cM fZ (aX (fL (aX (cU 3) (aX (dC (.int 0)) (aX (dC (.int 1)) (aX (dC (.int 1)) cL))))) cL)) cL))))
noncomputable def G0:cb:=
  (eY (dC (.bl false)))
noncomputable def uF:cb:=
  (pq (qB (dA Hl (dt 7) (dt 8))) G0 kO)
noncomputable def uG:cb:=
  (lq 7 (cM fZ (aX (fL (aX (cU 4) (aX (dC (.int 1)) (aX (dC (.int 1)) (aX (dC (.int 1)) cL))))) cL)))
noncomputable def G3:cb:=
  (eY (dC (.bl false)))
noncomputable def zm:cb:=
  (pq (m4 (qB (dA o3 (cM fZ (aX (fL (aX (cU 9) (aX (dC (.int 1)) (aX (dC (.int 1)) (aX (dC (.int 1)) cL))))) cL)) (dC (.int 1)))) (m4 (qB (dA o3 (cM fZ (aX (fL (aX (cU 10) (aX (dC (.int 0)) (aX (dC (.int 1)) (aX (dC (.int 1)) cL))))) cL)) (dC (.int 1)))) (qB (dA Hl (dt 7) (dC (.int 1)))))) G3 kO)
noncomputable def qv:cb:=
  zm
noncomputable def uH:cb:=
  (vP [9,10] (iL (dL (Af (aX (fL (aX (cU 2) (aX (cU 3) cL))) (aX (fL (aX (cU 3) (aX (cU 2) cL))) cL))))) qv)
noncomputable def lV:cb:=
  (eR xw
  (eR xx
  (eR xy
  (eR xA
  (eR xB
  (eR xC
  (eR xD
  (eR uE
  (eR uF
  (eR uG
  uH))))))))))
noncomputable def uI:cb:=
  (oy 1 (zD (aX (dC (.int 3)) cL)) lV)
noncomputable def G4:cb:=
  (eY (dC (.bl true)))
noncomputable def xE:cb:=
  (eR uI
  G4)
noncomputable def Cr:cg:=il 12 1 xE
end lY
namespace lY
open PySem DL GP PC PW
open LW (df de)
open L2 (js oX)
noncomputable def sh (a:Int) (l:cp):cp:=l.map λp=>p+a
theorem jz {o:D->D->Option D}{f g:cc}{δ:dD}{x y:D}{r:Option D}(hf:f δ=some x) (hg:g δ=some y) (h:o x y=r):dA o f g δ=r:=(jR hf hg).trans h
theorem Ct {j k:Nat}{g:cc}{δ:dD}{a:Int}{l:cp}(hl:l.length<1000000) (hj:cU j δ=some (tupI l)) (hg:∀p:Int,g (δ.set k (cH p))=some (.int a)) (hk:∀p:Int,dt k (δ.set k (cH p))=some (.int p)):
  cM iN (aX (dL (eS (iT (cU j)) k j9 (dA iR (dt k) g))) cL) δ=some (tupI (sh a l)):=by
 have it:iT (cU j) δ=some (l.map D.int):=by unfold iT;rw[hj];rfl
 rw[mG (ds:=l.map λp=>D.int (p+a)) (jx it (by rw[ae];exact hl) (jH _ λp _=>jz (hk p) (hg p) rfl))]
 unfold sh tupI;rw[aV];rfl
noncomputable def cV (m1:Int) (ls1 ls2:cn):cn:=ls1++ls2.map (sh m1)
theorem G5 {m1 m2:Int}{ls1 ls2:cn}(h1:ls1.length<1000) (h2:ls2.length<1000) (hl:∀l∈ls2,l.length<1000000):
  nL [LW.eE m1 ls1,LW.eE m2 ls2]=some (LW.eE (m1+m2) (cV m1 ls1 ls2)):=by
 refine LW.eF rfl ?_;show oj [.dat (LW.eE m1 ls1),.dat (LW.eE m2 ls2),.no,.no,.no]=_;have e1:ph [.dat (LW.eE m1 ls1),.dat (LW.eE m2 ls2),.no,.no,.no]=some (.next [.dat (LW.eE m1 ls1),.dat (LW.eE m2 ls2),.own ((ls2.map (sh m1)).map tupI),.no,.no]):=by
  have it:iT (dA mi (dt 1) (dC (.int 1))) [.dat (LW.eE m1 ls1),.dat (LW.eE m2 ls2),.no,.no,.no]=some (ls2.map tupI):=rfl;unfold ph;refine(nJ (jx it (by rw[ae];omega) (jH (ψ:=λl=>tupI (sh m1 l)) _ λl hm=>?_))).trans ?_
  ·exact Ct (hl l hm) rfl (λp=>rfl) (λp=>rfl)
  ·rw[aV];rfl
 unfold oj;rw[LW.cT e1];show pj [.dat (LW.eE m1 ls1),.dat (LW.eE m2 ls2),.dat (.lst ((ls2.map (sh m1)).map tupI)),.no,.no]=_;unfold pj;refine gP ?_;have ea:dA nc (dA mi (dt 0) (dC (.int 1))) (cM iN (aX (dt 2) cL)) [.dat (LW.eE m1 ls1),.dat (LW.eE m2 ls2),.dat (.lst ((ls2.map (sh m1)).map tupI)),.no,.no]=some (.tup ((cV m1 ls1 ls2).map tupI)):=by
  refine jz (x:=.tup (ls1.map tupI)) (y:=.tup ((ls2.map (sh m1)).map tupI)) rfl rfl ?_;unfold nc cV;simp only;rw[if_pos (by rw[ae,ae,ae];omega),List.map_append]
 unfold fL;rw[kH (x:=.int (m1+m2)) rfl (oO ea)];rfl
theorem G6 {ns:cp}{k:Int}(hk:0<=k):∃c:Int,iG [.lst (ns.map D.int),.int k]=some (.int c):=by
 have q:qB (dA Pj (dt 1) (cM lB (aX (dt 0) cL))) [.dat (.lst (ns.map D.int)),cH k]=some (decide (k<(ns.length:Int))):=by
  have:cM lB (aX (dt 0) cL) [.dat (.lst (ns.map D.int)),cH k]=some (.int (ns.length:Int)):=by
   show some (D.int ((ns.map D.int).length:Int))=_;rw[ae]
  exact jd (jz (x:=.int k) rfl this rfl)
 by_cases h:k<(ns.length:Int)
 ·have eP:k.toNat<ns.length:=by omega
  have ei:mi (.lst (ns.map D.int)) (.int k)=some (.int (ns[k.toNat])):=by
   show js (ns.map D.int) k=_;unfold js oX;simp only[ae];rw[if_pos hk,if_pos h];simp[ah eP]
  refine⟨ns[k.toNat],LW.eF rfl ?_⟩;show gR [.dat (.lst (ns.map D.int)),cH k]=_;unfold gR;refine kJ ?_;unfold jy;rw[zd (q.trans (by rw[aR h]))]
  unfold oU;exact gP (jz (x:=.lst (ns.map D.int)) (y:=.int k) rfl rfl ei)
 ·refine⟨0,LW.eF rfl ?_⟩;show gR [.dat (.lst (ns.map D.int)),cH k]=_;have e2:jy [.dat (.lst (ns.map D.int)),cH k]=some (.next [.dat (.lst (ns.map D.int)),cH k]):=by
   unfold jy;rw[oP (q.trans (by rw[aG h]))]
   rfl
  unfold gR;rw[LW.cT e2];rfl
end lY
namespace lY
open PySem DL GP PC PW
open LW (df de)
open L2 (js oX)
theorem wm {is:List Nat}{f:cb}{es ds:cv}{δ δ':dD}(hl:es.length=is.length) (h:f (qO is es δ)=some (.next δ')):tV is f (.tup es::ds) δ=tV is f ds δ':=by
 simp only[tV,hl,if_true,h]
theorem G7 {is:List Nat}{i:bZ}{f:cb}{δ:dD}{ds:cv}{r:Option R}(h:i δ=some ds) (h2:tV is f ds δ=r):vP is i f δ=r:=by
 unfold vP;rw[h];exact h2
theorem G8 (a:Int):∀x y:cp,HT.lexLt (sh a x) (sh a y)=HT.lexLt x y
 |[],[]=>rfl
 |[],_::_=>rfl
 |_::_,[]=>rfl
 |p::x,q::y=>by
  have ih:=G8 a x y;show HT.lexLt ((p+a)::sh a x) ((q+a)::sh a y)=_;unfold HT.lexLt;rw[ih];have h1:(p+a<q+a)=(p<q):=propext (by omega)
  have h2:(p+a=q+a)=(p=q):=propext (by omega)
  simp[h1,h2]
section
variable {m1 m2:Int}{ls1 ls2:cn}
theorem DX (rZ:LW.gk 1 3 4 m1 ls1) (qb:LW.gk 1 3 4 m2 ls2):(cV m1 ls1 ls2).Pairwise (λa b=>HT.lexLt a b=true):=by
 unfold cV;refine List.pairwise_append.mpr ⟨rZ.rise,?_,?_⟩
 ·refine List.pairwise_map.mpr (qb.rise.imp λ{a b} h=>?_)
  rw[G8];exact h
 ·intro a ha b hb;obtain⟨l,hl,rfl⟩:=List.mem_map.mp hb;have A:=rZ.line a ha;have B:=qb.line l hl;cases a with
  |nil=>exact absurd rfl A.ne
  |cons p x=>
   cases l with
   |nil=>exact absurd rfl B.ne
   |cons q y=>
    have hp:=A.ON p af;have hq:=B.ON q af;show HT.lexLt (p::x) ((q+m1)::sh m1 y)=true;have:p<q+m1:=by omega
    simp[HT.lexLt,this];exact .inl (by omega)
theorem DY (rZ:LW.gk 1 3 4 m1 ls1) (qb:LW.gk 1 3 4 m2 ls2):fV (cV m1 ls1 ls2)=cV m1 ls1 ls2:=by
 have r:=DX rZ qb;exact Cg (LW.o9 (qX r)) r λa=>(ez _).mem_iff
theorem Bh {many:Int}{ls:cn}(h0:0<=many) (h9:many<=9) (hn:ls.length<=18) (hl:∀l∈ls,LW.o8 many l):kM ⟨many,ls,1,1⟩:=
 ⟨⟨h0,h9,λl h=>(hl l h).ON,λl h=>by have:=(hl l h).four;omega,Int.le_refl 1,by show(1:Int)<=4;decide,Int.le_refl 1,by show(1:Int)<=4;decide⟩,hn,λl h=>(hl l h).rise⟩
theorem DZ (rZ:LW.gk 1 3 4 m1 ls1) (qb:LW.gk 1 3 4 m2 ls2):∀l∈cV m1 ls1 ls2,LW.o8 (m1+m2) l:=by
 have a1:=rZ.lo;have a2:=qb.lo;intro l h;rcases List.mem_append.mp h with h|h
 ·have A:=rZ.line l h;exact⟨A.ne,A.four,A.rise,λp hp=>by have:=A.ON p hp;omega⟩
 ·obtain⟨k,hk,rfl⟩:=List.mem_map.mp h;have B:=qb.line k hk;refine⟨?_,?_,?_,?_⟩
  ·intro z;exact B.ne (List.map_eq_nil_iff.mp z)
  ·unfold sh;rw[ae];exact B.four
  ·exact List.pairwise_map.mpr (B.rise.imp λ{a b} h=>by omega)
  ·intro p hp;obtain⟨q,hq,rfl⟩:=List.mem_map.mp hp;have:=B.ON q hq;omega
noncomputable abbrev gm (m:Int) (ls:cn):Gm:=⟨m,ls,1,1⟩
theorem two (rZ:LW.gk 1 3 4 m1 ls1) (qb:LW.gk 1 3 4 m2 ls2):Rq (gm m1 ls1) (gm m2 ls2) (gm (m1+m2) (cV m1 ls1 ls2)) (λp=>p) (λp=>p+m1):=by
 have a1:=rZ.lo;have a2:=qb.lo;refine⟨?_,?_,?_,?_,?_,?_,?_,rfl,rfl,rfl,rfl,rfl,rfl⟩
 ·intro p h;show 0<=p/\p<m1+m2;have:0<=p/\p<m1:=h;omega
 ·intro p h;show 0<=p+m1/\p+m1<m1+m2;have:0<=p/\p<m2:=h;omega
 ·intro p q _ _ e;exact e
 ·intro p q _ _ e;have:p+m1=q+m1:=e;omega
 ·intro p q h _ e;have:0<=p/\p<m1:=h;have e':p=q+m1:=e;rename_i hq;have:0<=q/\q<m2:=hq;omega
 ·intro q h;have hq:0<=q/\q<m1+m2:=h;by_cases z:q<m1
  ·exact .inl ⟨q,⟨hq.1,z⟩,rfl⟩
  ·refine .inr ⟨q-m1,⟨by omega,by show q-m1<m2;omega⟩,?_⟩
   show q-m1+m1=q;omega
 ·intro l h;rcases List.mem_append.mp h with h|h
  ·exact .inl ⟨l,h,λp hp=>hp⟩
  ·obtain⟨k,hk,rfl⟩:=List.mem_map.mp h;exact .inr ⟨k,hk,λp hp=>List.mem_map.mpr ⟨p,hp,rfl⟩⟩
theorem Rt (rZ:LW.gk 1 3 4 m1 ls1) (qb:LW.gk 1 3 4 m2 ls2):(gm m1 ls1).Rp (gm (m1+m2) (cV m1 ls1 ls2)) (λp=>p):=by
 have T:=two rZ qb;exact⟨T.r1,T.i1,Int.le_refl _,Int.le_refl _,λl h=>⟨l,List.mem_append.mpr (.inl h),λq hq=>⟨q,hq,rfl⟩⟩⟩
theorem Ru (rZ:LW.gk 1 3 4 m1 ls1) (qb:LW.gk 1 3 4 m2 ls2):(gm m2 ls2).Rp (gm (m1+m2) (cV m1 ls1 ls2)) (λp=>p+m1):=by
 have T:=two rZ qb;exact⟨T.r2,T.i2,Int.le_refl _,Int.le_refl _,λl h=>⟨sh m1 l,List.mem_append.mpr (.inr (List.mem_map.mpr ⟨l,h,rfl⟩)),λq hq=>List.mem_map.mp hq⟩⟩
structure Rv (G1 G2 H:Gm):Prop where
 w0:H.dO [] [] 0=(if G2.dO [] [] 0<G1.dO [] [] 0 then G2.dO [] [] 0 else G1.dO [] [] 0)
 l:G1.dO [] [] 1=1->G2.dO [] [] 0=1->H.dO [] [] 1=1
 r:G2.dO [] [] 1=1->G1.dO [] [] 0=1->H.dO [] [] 1=1
theorem Rw (rZ:LW.gk 1 3 4 m1 ls1) (qb:LW.gk 1 3 4 m2 ls2) (f1:kM (gm m1 ls1)) (f2:kM (gm m2 ls2)) (fH:kM (gm (m1+m2) (cV m1 ls1 ls2))):Rv (gm m1 ls1) (gm m2 ls2) (gm (m1+m2) (cV m1 ls1 ls2)):=by
 have T:=two rZ qb;have S:Parts (gm m1 ls1) (gm m2 ls2) (λp=>p) (λp=>p+m1) [] [] [] [] [] []:=⟨fQ _,fQ _,(λ_ _ h=>by cases h),(λ_ _ h=>by cases h),(λ_ h=>by cases h),(λ_ h=>by cases h)⟩
 obtain⟨b0,bl,br⟩:=GA f1.ok f2.ok fH.ok T 9 [] [] [] [] [] [] S (fQ _) (sF fH.ok _ _);have z1:(gm m1 ls1).dO [] [] 0=0->(gm (m1+m2) (cV m1 ls1 ls2)).dO [] [] 0=0:=λh=>Gx f1.ok fH.ok (Rt rZ qb) 9 [] [] [] [] 0 (fQ _) (fQ _) (λ_ h=>by cases h) (λ_ _ h=>by cases h) (.inl rfl) (sF fH.ok _ _) h
 have z2:(gm m2 ls2).dO [] [] 0=0->(gm (m1+m2) (cV m1 ls1 ls2)).dO [] [] 0=0:=λh=>Gx f2.ok fH.ok (Ru rZ qb) 9 [] [] [] [] 0 (fQ _) (fQ _) (λ_ h=>by cases h) (λ_ _ h=>by cases h) (.inl rfl) (sF fH.ok _ _) h
 refine⟨?_,bl,λh1 h2=>br h2 h1⟩
 rcases jQ f1.ok (fQ _) (w:=0) (.inl rfl)with e1|e1<;>rcases jQ f2.ok (fQ _) (w:=0) (.inl rfl)with e2|e2
 ·rw[z1 e1,e1,e2];rfl
 ·rw[z1 e1,e1,e2];rfl
 ·rw[z2 e2,e1,e2];rfl
 ·rw[b0 e1 e2,e1,e2];rfl
end
end lY
namespace lY
open PySem DL GP PC PW
open LW (df de)
open L2 (js oX)
section
variable {S k:Sl}{m1 m2:Int}{ls1 ls2:cn}
noncomputable abbrev fD (m:Int) (ls:cn):Sl:=.dat (LW.eE m ls)
theorem Cu {x4 x7 x8 x9 x10:Sl}:∀(ks acc:cn) (x6 nN:Sl),(∀l∈ks,l.length<1000000)->acc.length+ks.length<1000000->∃y6 y11,
  iU 6 nM (ks.map tupI) [S,k,fD m1 ls1,fD m2 ls2,x4,.own (acc.map tupI),x6,x7,x8,x9,x10,nN]=some (.next [S,k,fD m1 ls1,fD m2 ls2,x4,.own ((acc++ks.map (sh m1)).map tupI),y6,x7,x8,x9,x10,y11])
 |[],acc,x6,nN,_,_=>⟨x6,nN,by rw[List.map_nil,List.map_nil,bC];rfl⟩
 |l::ks,acc,x6,nN,hl,hn=>by
  have xT:acc.length+(ks.length+1)<1000000:=hn;have e:nM [S,k,fD m1 ls1,fD m2 ls2,x4,.own (acc.map tupI),cJ l,x7,x8,x9,x10,nN]=some (.next [S,k,fD m1 ls1,fD m2 ls2,x4,.own ((acc++[sh m1 l]).map tupI),cJ l,x7,x8,x9,x10,nN]):=by
   have es:=Ct (j:=6) (k:=11) (g:=dA mi (dt 2) (dC (.int 0))) (δ:=[S,k,fD m1 ls1,fD m2 ls2,x4,.own (acc.map tupI),cJ l,x7,x8,x9,x10,nN]) (a:=m1) (hl l af) rfl (λp=>rfl) (λp=>rfl)
   unfold nM Cq uY;simp only[aK,aM];rw[es];simp only[ao];rw[ae,if_pos (by omega),List.map_append]
   rfl
  obtain⟨a,b,ih⟩:=Cu (x4:=x4) (x7:=x7) (x8:=x8) (x9:=x9) (x10:=x10) ks (acc++[sh m1 l]) (cJ l) nN (λk h=>hl k (ai _ h)) (by rw[aQ];simp;omega)
  refine⟨a,b,?_⟩;rw[aE,lT (j:=6) (δ:=[S,k,fD m1 ls1,fD m2 ls2,x4,.own (acc.map tupI),x6,x7,x8,x9,x10,nN]) e,ih,List.append_assoc];rfl
theorem D1 {f:bZ}{δ:dD}{m:Int}{ls:cn}{w:Int}(hF:kM (gm m ls)) (hw:w=0\/w=1) (h:f δ=some [dG (gm m ls) w]):cM fZ f δ=some (.int ((gm m ls).dO [] [] w)):=by
 rw[dE h];exact DW hF hw
theorem Ke {m m' M:Int}{ls Jm L:cn}{x2 x3 x4 x5 x6 x8 nN:Sl}(f1:kM (gm m ls)) (f2:kM (gm m' Jm)) (h:(gm m ls).dO [] [] 1=1->(gm m' Jm).dO [] [] 0=1->(gm M L).dO [] [] 1=1):
  qv [S,k,x2,x3,x4,x5,x6,cH ((gm M L).dO [] [] 1),x8,fD m ls,fD m' Jm,nN]=some (.next [S,k,x2,x3,x4,x5,x6,cH ((gm M L).dO [] [] 1),x8,fD m ls,fD m' Jm,nN]):=by
 have q1:qB (dA o3 (cM fZ (aX (fL (aX (cU 9) (aX (dC (.int 1)) (aX (dC (.int 1)) (aX (dC (.int 1)) cL))))) cL)) (dC (.int 1))) [S,k,x2,x3,x4,x5,x6,cH ((gm M L).dO [] [] 1),x8,fD m ls,fD m' Jm,nN]=some (decide ((gm m ls).dO [] [] 1=1)):=jd (jz (D1 f1 (.inr rfl) rfl) (y:=.int 1) rfl (qt _ 1));have q2:qB (dA o3 (cM fZ (aX (fL (aX (cU 10) (aX (dC (.int 0)) (aX (dC (.int 1)) (aX (dC (.int 1)) cL))))) cL)) (dC (.int 1))) [S,k,x2,x3,x4,x5,x6,cH ((gm M L).dO [] [] 1),x8,fD m ls,fD m' Jm,nN]=some (decide ((gm m' Jm).dO [] [] 0=1)):=jd (jz (D1 f2 (.inl rfl) rfl) (y:=.int 1) rfl (qt _ 1));unfold qv zm;refine(oP ?_).trans rfl;by_cases c1:(gm m ls).dO [] [] 1=1
 ·refine xv (q1.trans (by rw[aR c1])) ?_
  by_cases c2:(gm m' Jm).dO [] [] 0=1
  ·refine xv (q2.trans (by rw[aR c2])) ?_
   refine jd (jz (x:=.int ((gm M L).dO [] [] 1)) (y:=.int 1) rfl rfl ?_);rw[h c1 c2];exact uA (by simp[dI])
  ·exact Bd (q2.trans (by rw[aG c2]))
 ·exact Bd (q1.trans (by rw[aG c1]))
end
theorem G9 {ns:cp}{k:Int}(hk:k=0\/k=1\/k=2) (x2 x3 x4 x5 x6 x7 x8 x9 x10 nN:Sl):∃y2 y3 y4 y5 y6 y7 y8 y9 y10 y11,
  lV [.dat (.lst (ns.map D.int)),cH k,x2,x3,x4,x5,x6,x7,x8,x9,x10,nN]=some (.next [.dat (.lst (ns.map D.int)),cH k,y2,y3,y4,y5,y6,y7,y8,y9,y10,y11]):=by
 obtain⟨c1,Wb⟩:=G6 (ns:=ns) (k:=2*k) (by omega)
 obtain⟨c2,Pa⟩:=G6 (ns:=ns) (k:=2*k+1) (by omega)
 obtain⟨m1,ls1,Wc,rZ⟩:=LW.Ca (c:=c1) (least:=1) (most:=3) (lines:=4) (by omega) (by omega) (by omega) (by omega) (by omega)
 obtain⟨m2,ls2,Wd,qb⟩:=LW.Ca (c:=c2) (least:=1) (most:=3) (lines:=4) (by omega) (by omega) (by omega) (by omega) (by omega)
 have a1:=rZ.lo;have b1:=rZ.hi;have n1:=rZ.num;have a2:=qb.lo;have b2:=qb.hi;have n2:=qb.num;have len:(cV m1 ls1 ls2).length=ls1.length+ls2.length:=by unfold cV;rw[aQ,ae]
 have yB:∀l∈ls2,l.length<1000000:=λl h=>by have:=(qb.line l h).four;omega
 have bl:=DZ rZ qb;have f1:kM (gm m1 ls1):=Bh (by omega) (by omega) (by omega) rZ.line
 have f2:kM (gm m2 ls2):=Bh (by omega) (by omega) (by omega) qb.line
 have fH:kM (gm (m1+m2) (cV m1 ls1 ls2)):=Bh (by omega) (by omega) (by omega) bl
 have W:=Rw rZ qb f1 f2 fH;generalize hS:(Sl.dat (.lst (ns.map D.int)))=S;have e1:xw [S,cH k,x2,x3,x4,x5,x6,x7,x8,x9,x10,nN]=some (.next [S,cH k,fD m1 ls1,x3,x4,x5,x6,x7,x8,x9,x10,nN]):=by
  subst hS;have em:dA ow (dC (.int 2)) (dt 1) [.dat (.lst (ns.map D.int)),cH k,x2,x3,x4,x5,x6,x7,x8,x9,x10,nN]=some (.int (2*k)):=by rcases hk with rfl|rfl|rfl<;>rfl
  unfold xw;exact jX ((dE (kH ((dE (kH (x:=.lst (ns.map D.int)) rfl (oO em))).trans Wb) (kH (x:=.int 1) rfl (kH (x:=.int 3) rfl (oO (x:=.int 4) rfl))))).trans Wc)
 have e2:xx [S,cH k,fD m1 ls1,x3,x4,x5,x6,x7,x8,x9,x10,nN]=some (.next [S,cH k,fD m1 ls1,fD m2 ls2,x4,x5,x6,x7,x8,x9,x10,nN]):=by
  subst hS;have em:dA ow (dC (.int 2)) (dt 1) [.dat (.lst (ns.map D.int)),cH k,fD m1 ls1,x3,x4,x5,x6,x7,x8,x9,x10,nN]=some (.int (2*k)):=by rcases hk with rfl|rfl|rfl<;>rfl
  have ea:dA iR (dA ow (dC (.int 2)) (dt 1)) (dC (.int 1)) [.dat (.lst (ns.map D.int)),cH k,fD m1 ls1,x3,x4,x5,x6,x7,x8,x9,x10,nN]=some (.int (2*k+1)):=jz em (y:=.int 1) rfl rfl;unfold xx;exact jX ((dE (kH ((dE (kH (x:=.lst (ns.map D.int)) rfl (oO ea))).trans Pa) (kH (x:=.int 1) rfl (kH (x:=.int 3) rfl (oO (x:=.int 4) rfl))))).trans Wd)
 have e3:xy [S,cH k,fD m1 ls1,fD m2 ls2,x4,x5,x6,x7,x8,x9,x10,nN]=some (.next [S,cH k,fD m1 ls1,fD m2 ls2,fD (m1+m2) (cV m1 ls1 ls2),x5,x6,x7,x8,x9,x10,nN]):=by
  unfold xy;exact jX ((dE rfl).trans (G5 (by omega) (by omega) yB))
 have e4:xA [S,cH k,fD m1 ls1,fD m2 ls2,fD (m1+m2) (cV m1 ls1 ls2),x5,x6,x7,x8,x9,x10,nN]=some (.next [S,cH k,fD m1 ls1,fD m2 ls2,fD (m1+m2) (cV m1 ls1 ls2),.own (ls1.map tupI),x6,x7,x8,x9,x10,nN]):=by
  unfold xA;exact nJ rfl
 obtain⟨y6,y11,e6⟩:=Cu (S:=S) (k:=cH k) (m1:=m1) (m2:=m2) (ls1:=ls1) (ls2:=ls2) (x4:=fD (m1+m2) (cV m1 ls1 ls2)) (x7:=x7) (x8:=x8) (x9:=x9) (x10:=x10) ls2 ls1 x6 nN yB (by omega)
 have We:xB [S,cH k,fD m1 ls1,fD m2 ls2,fD (m1+m2) (cV m1 ls1 ls2),.own (ls1.map tupI),x6,x7,x8,x9,x10,nN]=some (.next [S,cH k,fD m1 ls1,fD m2 ls2,fD (m1+m2) (cV m1 ls1 ls2),.own ((cV m1 ls1 ls2).map tupI),y6,x7,x8,x9,x10,y11]):=by
  unfold xB;exact qr rfl e6
 have e8:xC [S,cH k,fD m1 ls1,fD m2 ls2,fD (m1+m2) (cV m1 ls1 ls2),.own ((cV m1 ls1 ls2).map tupI),y6,x7,x8,x9,x10,y11]=some (.next [S,cH k,fD m1 ls1,fD m2 ls2,fD (m1+m2) (cV m1 ls1 ls2),.own ((cV m1 ls1 ls2).map tupI),y6,x7,x8,x9,x10,y11]):=by
  have es:eQ fF (aX (dt 5) cL) [S,cH k,fD m1 ls1,fD m2 ls2,fD (m1+m2) (cV m1 ls1 ls2),.own ((cV m1 ls1 ls2).map tupI),y6,x7,x8,x9,x10,y11]=some ((cV m1 ls1 ls2).map tupI):=by
   have:eQ fF (aX (dt 5) cL) [S,cH k,fD m1 ls1,fD m2 ls2,fD (m1+m2) (cV m1 ls1 ls2),.own ((cV m1 ls1 ls2).map tupI),y6,x7,x8,x9,x10,y11]=fF [.lst ((cV m1 ls1 ls2).map tupI)]:=rfl;rw[this,LW.qe (by omega) (λl h=>(bl l h).ne),DY rZ qb]
  have et:cM iN (aX (dL (eQ fF (aX (dt 5) cL))) cL) [S,cH k,fD m1 ls1,fD m2 ls2,fD (m1+m2) (cV m1 ls1 ls2),.own ((cV m1 ls1 ls2).map tupI),y6,x7,x8,x9,x10,y11]=some (.tup ((cV m1 ls1 ls2).map tupI)):=(mG es).trans rfl;have ed:fL (aX (dA iR (dA mi (dt 2) (dC (.int 0))) (dA mi (dt 3) (dC (.int 0)))) (aX (cM iN (aX (dL (eQ fF (aX (dt 5) cL))) cL)) cL)) [S,cH k,fD m1 ls1,fD m2 ls2,fD (m1+m2) (cV m1 ls1 ls2),.own ((cV m1 ls1 ls2).map tupI),y6,x7,x8,x9,x10,y11]=some (LW.eE (m1+m2) (cV m1 ls1 ls2)):=by
   unfold fL;rw[kH (x:=.int (m1+m2)) rfl (oO et)];rfl
  unfold xC;refine(oP (jd (jz (x:=LW.eE (m1+m2) (cV m1 ls1 ls2)) rfl ed (uA ?_)))).trans rfl;have:=LW.lL (cV m1 ls1 ls2);unfold LW.eE LW.A3;simp only[dI,g7];omega
 have e9:xD [S,cH k,fD m1 ls1,fD m2 ls2,fD (m1+m2) (cV m1 ls1 ls2),.own ((cV m1 ls1 ls2).map tupI),y6,x7,x8,x9,x10,y11]=some (.next [S,cH k,fD m1 ls1,fD m2 ls2,fD (m1+m2) (cV m1 ls1 ls2),.own ((cV m1 ls1 ls2).map tupI),y6,cH ((gm (m1+m2) (cV m1 ls1 ls2)).dO [] [] 0),x8,x9,x10,y11]):=by
  unfold xD;exact jX (D1 fH (.inl rfl) rfl)
 have PN:uE [S,cH k,fD m1 ls1,fD m2 ls2,fD (m1+m2) (cV m1 ls1 ls2),.own ((cV m1 ls1 ls2).map tupI),y6,cH ((gm (m1+m2) (cV m1 ls1 ls2)).dO [] [] 0),x8,x9,x10,y11]=some (.next [S,cH k,fD m1 ls1,fD m2 ls2,fD (m1+m2) (cV m1 ls1 ls2),.own ((cV m1 ls1 ls2).map tupI),y6,cH ((gm (m1+m2) (cV m1 ls1 ls2)).dO [] [] 0),cH ((gm (m1+m2) (cV m1 ls1 ls2)).dO [] [] 0),x9,x10,y11]):=by
  unfold uE;refine jX ((dE (kH (D1 f1 (.inl rfl) rfl) (oO (D1 f2 (.inl rfl) rfl)))).trans ?_);rw[W.w0];rfl
 have Tx:uF [S,cH k,fD m1 ls1,fD m2 ls2,fD (m1+m2) (cV m1 ls1 ls2),.own ((cV m1 ls1 ls2).map tupI),y6,cH ((gm (m1+m2) (cV m1 ls1 ls2)).dO [] [] 0),cH ((gm (m1+m2) (cV m1 ls1 ls2)).dO [] [] 0),x9,x10,y11]=some (.next [S,cH k,fD m1 ls1,fD m2 ls2,fD (m1+m2) (cV m1 ls1 ls2),.own ((cV m1 ls1 ls2).map tupI),y6,cH ((gm (m1+m2) (cV m1 ls1 ls2)).dO [] [] 0),cH ((gm (m1+m2) (cV m1 ls1 ls2)).dO [] [] 0),x9,x10,y11]):=by
  unfold uF;exact(oP (jd (jz (x:=.int ((gm (m1+m2) (cV m1 ls1 ls2)).dO [] [] 0)) (y:=.int ((gm (m1+m2) (cV m1 ls1 ls2)).dO [] [] 0)) rfl rfl (uA (by simp[dI]))))).trans rfl
 generalize hd:cH ((gm (m1+m2) (cV m1 ls1 ls2)).dO [] [] 0)=d0 at e9 PN Tx;have Wf:uG [S,cH k,fD m1 ls1,fD m2 ls2,fD (m1+m2) (cV m1 ls1 ls2),.own ((cV m1 ls1 ls2).map tupI),y6,d0,d0,x9,x10,y11]=some (.next [S,cH k,fD m1 ls1,fD m2 ls2,fD (m1+m2) (cV m1 ls1 ls2),.own ((cV m1 ls1 ls2).map tupI),y6,cH ((gm (m1+m2) (cV m1 ls1 ls2)).dO [] [] 1),d0,x9,x10,y11]):=by
  unfold uG;exact jX (D1 fH (.inr rfl) rfl)
 have Wg:uH [S,cH k,fD m1 ls1,fD m2 ls2,fD (m1+m2) (cV m1 ls1 ls2),.own ((cV m1 ls1 ls2).map tupI),y6,cH ((gm (m1+m2) (cV m1 ls1 ls2)).dO [] [] 1),d0,x9,x10,y11]=some (.next [S,cH k,fD m1 ls1,fD m2 ls2,fD (m1+m2) (cV m1 ls1 ls2),.own ((cV m1 ls1 ls2).map tupI),y6,cH ((gm (m1+m2) (cV m1 ls1 ls2)).dO [] [] 1),d0,fD m2 ls2,fD m1 ls1,y11]):=by
  unfold uH;refine G7 (ds:=[.tup [LW.eE m1 ls1,LW.eE m2 ls2],.tup [LW.eE m2 ls2,LW.eE m1 ls1]]) rfl ?_;refine(wm rfl (Ke f1 f2 W.l)).trans ?_;exact(wm rfl (Ke f2 f1 W.r)).trans rfl
 refine⟨fD m1 ls1,fD m2 ls2,fD (m1+m2) (cV m1 ls1 ls2),.own ((cV m1 ls1 ls2).map tupI),y6,cH ((gm (m1+m2) (cV m1 ls1 ls2)).dO [] [] 1),d0,fD m2 ls2,fD m1 ls1,y11,?_⟩;unfold lV;rw[LW.cT e1,LW.cT e2,LW.cT e3,LW.cT e4,LW.cT We,LW.cT e8,LW.cT e9,LW.cT PN,LW.cT Tx,LW.cT Wf,Wg]
theorem zo {ns:cp}:∀(cs:cp) (x1 x2 x3 x4 x5 x6 x7 x8 x9 x10 nN:Sl),(∀c∈cs,c=0\/c=1\/c=2)->∃δ,iU 1 lV (cs.map D.int) [.dat (.lst (ns.map D.int)),x1,x2,x3,x4,x5,x6,x7,x8,x9,x10,nN]=some (.next δ)
 |[],x1,x2,x3,x4,x5,x6,x7,x8,x9,x10,nN,_=>⟨_,rfl⟩
 |c::cs,x1,x2,x3,x4,x5,x6,x7,x8,x9,x10,nN,h=>by
  obtain⟨a2,a3,a4,a5,a6,a7,a8,a9,a10,a11,e⟩:=G9 (ns:=ns) (h c af) x2 x3 x4 x5 x6 x7 x8 x9 x10 nN;obtain⟨δ,ih⟩:=zo (ns:=ns) cs (cH c) a2 a3 a4 a5 a6 a7 a8 a9 a10 a11 λv hv=>h v (ai _ hv)
  refine⟨δ,?_⟩;rw[aE,lT (j:=1) (f:=lV) (d:=.int c) (δ:=[.dat (.lst (ns.map D.int)),x1,x2,x3,x4,x5,x6,x7,x8,x9,x10,nN]) e,ih]
theorem Jr (ns:cp) (_:ns.length<=63):Cr [.lst (ns.map D.int)]=some (.bl true):=by
 refine LW.eF rfl ?_;show xE [.dat (.lst (ns.map D.int)),.no,.no,.no,.no,.no,.no,.no,.no,.no,.no,.no]=_;obtain⟨δ,e⟩:=zo (ns:=ns) [0,1,2] .no .no .no .no .no .no .no .no .no .no .no (by intro c hc;simpa using hc)
 have Wh:uI [.dat (.lst (ns.map D.int)),.no,.no,.no,.no,.no,.no,.no,.no,.no,.no,.no]=some (.next δ):=by
  unfold uI;exact qr rfl e
 unfold xE;rw[LW.cT Wh];rfl
end lY
namespace lY
open PySem PySem.Spec PyProof.Rows L2 DL LW PC PW
noncomputable def top (i:Nat):cG:=PySem.Challenge.pw_fieldclaim_k11_whole_fields_beside_one_a.main.body.getD i (.Pass ⟨0,0,0,0⟩)
noncomputable abbrev jn:cG:=top 7
theorem uJ:dw ["points","line","point"] ["points","line"] (bt jn):={}
noncomputable abbrev iH:cG:=top 8
theorem rM:dw ["points","line","point"] ["points","line"] (bt iH):={}
noncomputable abbrev gS:cG:=top 5
theorem xF:dw ["game","whose"] ["game","whose"] (bt gS):={}
noncomputable abbrev gx:cG:=top 6
theorem vi:dw ["hand"] ["hand"] (bt gx):={}
noncomputable abbrev jo:cG:=top 9
theorem mK:dw ["points","count","told","k","rest"] ["points","count"] (bt jo):={}
noncomputable abbrev j3:cG:=top 4
theorem D2:dw ["mine","yours","whose","claim"] ["mine","yours","whose","claim"] (bt j3):={}
noncomputable abbrev gT:cG:=top 15
theorem qw:dw ["line","mine","point"] ["line","mine"] (bt gT):={}
noncomputable abbrev gb:cG:=top 16
theorem nO:dw ["line","lines","other"] ["line","lines"] (bt gb):={}
noncomputable abbrev j4:cG:=top 17
theorem wo:dw ["points","lines","line"] ["points","lines"] (bt j4):={}
noncomputable abbrev eV:cG:=top 18
theorem gU:dw ["lines","uses","line","point"] ["lines"] (bt eV):={}
noncomputable abbrev gy:cG:=top 14
theorem jA:dw ["lines","mine","yours","needed","unlike","line"] ["lines","mine","yours"] (bt gy):={}
noncomputable abbrev fA:cG:=inClass (top 13) 5
theorem gr:dw ["self","lines","whose","tried","pressing","line","claim"] ["self","lines","whose"] (bt fA):={}
noncomputable abbrev iJ:cG:=inClass (top 13) 4
theorem jI:dw ["self","lines","whose","shortest","claim","held","line"] ["self","lines","whose"] (bt iJ):={}
noncomputable abbrev gW:cG:=inClass (top 13) 3
theorem xG:dw ["self","lines","whose"] ["self","lines","whose"] (bt gW):={}
noncomputable abbrev gX:cG:=inClass (top 13) 1
theorem xH:dw ["self","mine","yours","whose"] ["self","mine","yours","whose"] (bt gX):={}
noncomputable abbrev gc:cG:=top 12
theorem uK:dw ["game","mine","yours","whose"] ["game","mine","yours","whose"] (bt gc):={}
noncomputable abbrev j5:cG:=top 11
theorem D3:dw ["game"] ["game"] (bt j5):={}
noncomputable abbrev j6:cG:=top 20
theorem rf:dw ["one","other","moved","line","point"] ["one","other"] (bt j6):={}
noncomputable abbrev gY:cG:=top 22
theorem xI:dw ["_law_script","_law_k"] ["_law_script","_law_k"] (bt gY):={}
noncomputable abbrev iK:cG:=top 23
theorem zp:dw ["_law_cell_here","_law_prime","_law_many"] ["_law_cell_here","_law_prime","_law_many"] (bt iK):={}
noncomputable abbrev gz:cG:=top 24
theorem eU:dw ["_law_cell_here","_law_least","_law_most","_law_lines","_law_many","_law_found","_law_k","_law_size","_law_left","_law_line","_law_n"] ["_law_cell_here","_law_least","_law_most","_law_lines"] (bt gz):={}
noncomputable abbrev mL:cG:=top 27
theorem jq:dw ["_law_script","_law_k","_law_one","_law_other","_law_both","_law_lines","_law_line","_law_told","_law_due","_law_mine","_law_yours","_law_point"] ["_law_script"] (bt mL):={}
structure Bt (mg:ck):Prop where
 all:mg "all"=none
 any:mg "any"=none
 len:mg "len"=none
 list:mg "list"=none
 min:mg "min"=none
 range:mg "range"=none
 set:mg "set"=none
 sorted:mg "sorted"=none
 tuple:mg "tuple"=none
 dB:∃t,mg "BUILDER"=some (.int 0 t)
 oq:∃t,mg "GUARD"=some (.int 1 t)
noncomputable abbrev iM:cG:=inClass (top 13) 0
theorem zq:dw ["self","game"] ["self","game"] (bt iM):={}
noncomputable abbrev dc (Cs:cE):OC:=⟨Cs,"game","known",PU⟩
section
variable {P:cA}{w:cB}{K:W.Frag}{mg:ck}{base:Heap}
theorem Bi {f:cE}{fd:cz}(F:mZ K "has_all" "has_all" jn f fd) (M0:Bt mg):ef P w K mg base jt (1) f fd ["points","line"] (pK lR):=by
 refine g8 F uJ (λm fS A outer s H E hr C0 H0=>?_)
 have hu:=hr.units;unfold uv;exact(cX (dN (fW (JT rfl) (by rfl) M0.all Fb (da (WD.o (WF.d (mn 2 rfl ⟨rfl,rfl,rfl,uJ.nd⟩ (vM.weak (gD (cQ 1))) (λ_ _ _ _ _=>(Aw (Lz hu) (cN 2) (cN 0)))))) du))))
theorem zr {f:cE}{fd:cz}(F:mZ K "has_some" "has_some" iH f fd) (M0:Bt mg):ef P w K mg base jt (1) f fd ["points","line"] (pK gK):=by
 refine g8 F rM (λm fS A outer s H E hr C0 H0=>?_)
 have hu:=hr.units;unfold rJ;exact(cX (dN (fW (JW rfl) (by rfl) M0.any Fo (da (WD.o (WF.d (mn 2 rfl ⟨rfl,rfl,rfl,rM.nd⟩ (vM.weak (gD (cQ 1))) (λ_ _ _ _ _=>(Aw (Lz hu) (cN 2) (cN 0)))))) du))))
theorem xJ {f:cE}{fd:cz}(F:mZ K "at_a_time" "at_a_time" gS f fd) (M0:Bt mg):ef P w K mg base jt (1) f fd ["game","whose"] (pK dM):=by
 obtain⟨lW,dB⟩:=M0.dB;refine g8 F xF (λm fS A outer s H E hr C0 H0=>?_)
 have hu:=hr.units;unfold qk;exact(cX (dN (yk (eZ (tw hu) (cN 1) (WD.o (hZ (by rfl) dB))) (gj (cN 0) (WD.o cS) (λ_ _=>rfl)) (gj (cN 0) (WD.o cS) (λ_ _=>rfl)))))
theorem vj {f:cE}{fd:cz}(F:mZ K "other_hand" "other_hand" gx f fd) (M0:Bt mg):ef P w K mg base jt (1) f fd ["hand"] (pK fJ):=by
 obtain⟨lW,dB⟩:=M0.dB;obtain⟨Js,oq⟩:=M0.oq;refine g8 F vi (λm fS A outer s H E hr C0 H0=>?_)
 have hu:=hr.units;unfold oQ;exact(cX (dN (yk (eZ (tw hu) (cN 0) (WD.o (hZ (by rfl) dB))) (hZ (by rfl) oq) (hZ (by rfl) dB))))
theorem Bj {f:cE}{fd:cz}{n:Nat}(F:mZ K "choices" "choices" jo f fd) (M0:Bt mg) {cZ:cg}(rg:kT P w K mg base (0+n) "choices" cZ):ef P w K mg base jt (0+n+1) f fd ["points","count"] (pK (il 5 2 (kG cZ))):=by
 refine g8 F mK (λm fS A outer s H E hr C0 H0=>?_)
 have hu:=hr.units;unfold kG;exact(cY (kU (eZ (Qy) (cN 1) (WD.o (fW vH (by rfl) M0.len qJ (da (cN 0) du)))) (cX (dN (eN (aY (cQ 0) cO)))) gC)
  (cY (kU (eZ (tw hu) (cN 1) (WD.o cS)) (cX (dN (eN (aY (eN cO) cO)))) gC)
  (cY (nV 2 mK.nd (Ay cO))
  (cY (m8 (f:=(iY cZ)) bA rfl (ml (by rfl) M0.range (aY (iW (WD.o (wZ (WD.o (fW vH (by rfl) M0.len qJ (da (cN 0) du))) (cN 1))) (WD.o cS)) cO)) (jr (i:=3) mK.nd rfl (by first|exact Or.inl rfl|exact Or.inr rfl)) (cX (m8 (f:=(iX cZ)) bA rfl (gD (dh rg hr (by rfl) (aY (LN (cN 0) (LH (WD.o (iW (cN 3) (WD.o cS)))) NZ) (aY (wZ (cN 1) (WD.o cS)) cO)))) (jr (i:=4) mK.nd rfl (by first|exact Or.inl rfl|exact Or.inr rfl)) (cX (AA (pv 2) (sk (WD.o (eN (aY (gj (cN 0) (cN 3) (λ_ _=>rfl)) cO))) (cN 4)))))))
  (cX (dN (eJ gB (by rfl) M0.tuple fE (da (cN 2) du))))))))
theorem D4 {f:cE}{fd:cz}(F:mZ K "behind" "behind" j3 f fd) (M0:Bt mg):ef P w K mg base jt (1) f fd ["mine","yours","whose","claim"] (pK nF):=by
 obtain⟨lW,dB⟩:=M0.dB;refine g8 F D2 (λm fS A outer s H E hr C0 H0=>?_)
 have hu:=hr.units;unfold wb;exact(cY (kU (eZ (tw hu) (cN 2) (WD.o (hZ (by rfl) dB))) (cX (dN (eN (aY (eJ gB (by rfl) M0.tuple fE (da (WD.o (WF.d (lD (vQ hu) (by rfl) M0.sorted iu (da (WD.o (sk (cN 0) (cN 3))) du)))) du)) (aY (cQ 1) cO))))) gC)
  (cX (dN (eN (aY (cQ 0) (aY (eJ gB (by rfl) M0.tuple fE (da (WD.o (WF.d (lD (vQ hu) (by rfl) M0.sorted iu (da (WD.o (sk (cN 1) (cN 3))) du)))) du)) cO))))))
theorem xK {f:cE}{fd:cz}(F:mZ K "free_part" "free_part" gT f fd) (M0:Bt mg):ef P w K mg base jt (1) f fd ["line","mine"] (pK iE):=by
 refine g8 F qw (λm fS A outer s H E hr C0 H0=>?_)
 have hu:=hr.units;unfold jY;exact(cX (dN (eJ gB (by rfl) M0.tuple fE (da (WD.o (WF.d (nW 2 rfl ⟨rfl,rfl,rfl,qw.nd⟩ (vM.weak (gD (cQ 0))) (λ_ _ _ _ _=>(eZ (BI hu) (cN 2) (cN 1))) (λ_ _ _ _ _=>(cQ 2))))) du))))
theorem uL {f:cE}{fd:cz}(F:mZ K "has_another" "has_another" gb f fd) (M0:Bt mg) (D5:kT P w K mg base 1 "has_all" lR):ef P w K mg base jt (2) f fd ["line","lines"] (pK hW):=by
 refine g8 F nO (λm fS A outer s H E hr C0 H0=>?_)
 have hu:=hr.units;unfold iZ;exact(cX (dN (fW (JW rfl) (by rfl) M0.any Fo (da (WD.o (WF.d (mn 2 rfl ⟨rfl,rfl,rfl,nO.nd⟩ (vM.weak (BR (cQ 1))) (λ_ _ _ _ _=>(LJ (Aw (Iu hu) (cN 2) (cN 0)) (LI (dh D5 hr (by rfl) (aY (cQ 0) (aY (cQ 2) cO))))))))) du))))
theorem D6 {f:cE}{fd:cz}(F:mZ K "spoils" "spoils" j4 f fd) (M0:Bt mg) (pk:kT P w K mg base 1 "has_some" gK):ef P w K mg base jt (2) f fd ["points","lines"] (pK nH):=by
 refine g8 F wo (λm fS A outer s H E hr C0 H0=>?_)
 have hu:=hr.units;unfold n9;exact(cX (dN (fW (JT rfl) (by rfl) M0.all Fb (da (WD.o (WF.d (mn 2 rfl ⟨rfl,rfl,rfl,wo.nd⟩ (BO (cN 1)) (λ_ _ _ _ _=>(dh pk hr (by rfl) (aY (cQ 0) (aY (cQ 2) cO))))))) du))))
theorem rh {f:cE}{fd:cz}(F:mZ K "points_by_use" "points_by_use" eV f fd) (M0:Bt mg) {ct Pt:cE}(ht:W.tabIn K "points_by_use"=some (ct,Pt)) (uS:fd.code=.ref ct):ef P w K mg base jt (1) f fd ["lines"] (pK fz):=by
 refine Jf F gU (λA outer s H E hr C0 H0=>?_)
 letI:=Mem.keep
 have gZ:=hr.VM;have hu:=hr.units;unfold ji;exact(AY 1 gU.nd (λa C1 H1 hn=>by letI:=dZ a;unfold ft;exact(cY (m8 (f:=eA) bA rfl (gD (cQ 0)) (jr (i:=2) gU.nd rfl (by first|exact Or.inl rfl|exact Or.inr rfl)) (cX (m8 (f:=fq) bA rfl (gD (cQ 2)) (jr (i:=3) gU.nd rfl (by first|exact Or.inl rfl|exact Or.inr rfl)) (cX (DK hn hu (pv 1) (cQ 3) (pv 1) (cQ 3))))))
  (cX (dN (eJ gB (by rfl) M0.tuple fE (da (WD.o (WF.d (yH (x:="points_by_use") rfl hu gZ (by rfl) M0.sorted rfl rfl (by first|exact af|simp[rO]) ht (show(Str.ofString "points_by_use"++Str.ofString ".<locals>.")++Str.ofString "<lambda>"=Str.ofString "points_by_use.<locals>.<lambda>" by decide +kernel) uS (pv 1)))) du)))))))
theorem vk {f:cE}{fd:cz}(F:mZ K "open_lines" "open_lines" gy f fd) (M0:Bt mg) (zt:kT P w K mg base 2 "free_part" iE) (vm:kT P w K mg base 2 "has_another" hW) (pk:kT P w K mg base 2 "has_some" gK):ef P w K mg base jt (3) f fd ["lines","mine","yours"] (pK eD):=by
 refine g8 F jA (λm fS A outer s H E hr C0 H0=>?_)
 have hu:=hr.units;unfold jv;exact(cY (w4 3 5 rfl ⟨rfl,rfl,rfl,jA.nd⟩ (vM.weak (BR (cQ 0))) (λ_ _ _ _ _=>(Fh (Ax (dh pk hr (by rfl) (aY (cQ 2) (aY (cQ 5) cO)))))) (λ_ _ _ _ _=>(dh zt hr (by rfl) (aY (cQ 5) (aY (cQ 1) cO)))))
  (m7 3 (cY (nV 4 jA.nd (A2 rfl hu (by rfl) M0.sorted (by rfl) M0.set (cN 3)))
  (m7 4 (cX (dN (eJ gB (by rfl) M0.tuple fE (da (WD.o (WF.d (nW 5 rfl ⟨rfl,rfl,rfl,jA.nd⟩ (BO (cN 4)) (λ_ _ _ _ _=>(Fh (Ax (dh vm hr (by rfl) (aY (cQ 5) (aY (cQ 4) cO)))))) (λ_ _ _ _ _=>(cQ 5))))) du))))))))
theorem r0 {f:cE}{fd:cz}(F:mZ K "worth_trying" "Search.worth_trying" fA f fd) (M0:Bt mg) {Cs:cE}(Z:kf K (dc Cs)) (lj:kT P w K mg base 6 "at_a_time" dM) (rg:kT P w K mg base 6 "choices" (eL 5)) (r6:kT P w K mg base 6 "points_by_use" fz) (Ha:kT P w K mg base 6 "spoils" nH):ef P w K mg base jt (7) f fd ["self","lines","whose"] (Ef (dc Cs) (lG 7 3 gq)):=by
 obtain⟨lW,dB⟩:=M0.dB;refine sq (dc Cs) F gr (λA G fS Ar outer s H E hr C0 H0=>?_)
 letI:=dq (dc Cs) A G
 have hu:=hr.units;unfold gq;exact(cY (jM 3 gr.nd (dh rg hr (by rfl) (aY (dh r6 hr (by rfl) (aY (cQ 1) cO)) (aY (dh lj hr (by rfl) (aY (so (Y:=dc Cs) Z (pv 0)) (aY (cQ 2) cO))) cO))))
  (cY (kU (eZ (tw hu) (cN 2) (WD.o (hZ (by rfl) dB))) (cX (dN (cQ 3))) gC)
  (cY (nV 4 gr.nd (nW 5 rfl ⟨rfl,rfl,rfl,gr.nd⟩ (vM.weak (gD (cQ 1))) (λ_ _ _ _ _=>(eZ (NG) (WD.o (fW vH (by rfl) M0.len qJ (da (cN 5) du))) (WD.o (dh lj hr (by rfl) (aY (so (Y:=dc Cs) Z (pv 0)) (aY (hZ (by rfl) dB) cO)))))) (λ_ _ _ _ _=>(cQ 5))))
  (m7 4 (cX (dN (eJ gB (by rfl) M0.tuple fE (da (WD.o (WF.d (nW 6 rfl ⟨rfl,rfl,rfl,gr.nd⟩ (vM.weak (gD (cQ 3))) (λ_ _ _ _ _=>(Ax (dh Ha hr (by rfl) (aY (cQ 6) (aY (cQ 4) cO))))) (λ_ _ _ _ _=>(cQ 6))))) du))))))))
theorem zu {f:cE}{fd:cz}{n:Nat}(F:mZ K "searched" "Search.searched" iJ f fd) (M0:Bt mg) {Cs:cE}(Z:kf K (dc Cs)) {cW:cg}(lj:kT P w K mg base (7+n) "at_a_time" dM) (Hb:kT P w K mg base (7+n) "behind" nF) (mM:kT P w K mg base (7+n) "open_lines" eD) (qx:kT P w K mg base (7+n) "other_hand" fJ) (nQ:jS P w K mg base (7+n) (dc Cs) "winner_of" cW) (uM:jS P w K mg base (7+n) (dc Cs) "worth_trying" fY):ef P w K mg base jt (7+n+1) f fd ["self","lines","whose"] (Ef (dc Cs) (lG 7 3 (λG=>iF G cW))):=by
 obtain⟨lW,dB⟩:=M0.dB;refine sq (dc Cs) F jI (λA G fS Ar outer s H E hr C0 H0=>?_)
 letI:=dq (dc Cs) A G
 have hu:=hr.units;unfold iF;exact(cY (jM 3 jI.nd (fW (LR rfl) (by rfl) M0.min An (da (WD.o (WF.d (mn 6 rfl ⟨rfl,rfl,rfl,jI.nd⟩ (vM.weak (gD (cQ 1))) (λ_ _ _ _ _=>(fW vH (by rfl) M0.len qJ (da (cN 6) du)))))) du)))
  (cY (kU (JV.pt (pR (eZ (tw hu) (cN 2) (WD.o (hZ (by rfl) dB))) (tM (eZ (NG) (cN 3) (WD.o (dh lj hr (by rfl) (aY (so (Y:=dc Cs) Z (pv 0)) (aY (hZ (by rfl) dB) cO)))))))) (cX (dN (hZ (by rfl) dB))) gC)
  (cY (m8 (f:=(eT G cW)) bA rfl (gD (pZ Z uM hr (pv 0) (aY (cQ 1) (aY (cQ 2) cO)))) (jr (i:=4) jI.nd rfl (by first|exact Or.inl rfl|exact Or.inr rfl)) (cY (jM 5 jI.nd (dh Hb hr (by rfl) (aY (eN cO) (aY (eN cO) (aY (cQ 2) (aY (cQ 4) cO))))))
  (cX (kU (eZ (tw hu) (WD.o (pZ Z nQ hr (pv 0) (aY (dh mM hr (by rfl) (aY (cQ 1) (aY (gj (cN 5) (WD.o cS) (λ_ _=>rfl)) (aY (gj (cN 5) (WD.o cS) (λ_ _=>rfl)) cO)))) (aY (dh qx hr (by rfl) (aY (cQ 2) cO)) cO)))) (cN 2)) (cX (dN (cQ 2))) gC))))
  (cX (dN (dh qx hr (by rfl) (aY (cQ 2) cO)))))))
theorem xM {f:cE}{fd:cz}{n:Nat}(F:mZ K "winner_of" "Search.winner_of" gW f fd) (M0:Bt mg) {Cs:cE}(Z:kf K (dc Cs)) {dv:cg}(Bk:jS P w K mg base (7+n) (dc Cs) "searched" dv):ef P w K mg base jt (7+n+1) f fd ["self","lines","whose"] (Ef (dc Cs) (lG 3 3 (λG=>gQ G dv))):=by
 obtain⟨lW,dB⟩:=M0.dB;obtain⟨Js,oq⟩:=M0.oq;refine sq (dc Cs) F xG (λA G fS Ar outer s H E hr C0 H0=>?_)
 letI:=dq (dc Cs) A G
 have hu:=hr.units;unfold gQ;exact(cY (kU (eZ (tw hu) (WD.o (fW vH (by rfl) M0.len qJ (da (cN 1) du))) (WD.o cS)) (cX (dN (hZ (by rfl) oq))) gC)
  (cY (kU (eZ (Lz hu) (WD.o (eN cO)) (cN 1)) (cX (dN (hZ (by rfl) dB))) gC)
  (cY (Fv [] hu Z (eN (aY (cQ 1) (aY (cQ 2) cO))) (pv 0) (cX (Dy hu Z (pZ Z Bk hr (pv 0) (aY (cQ 1) (aY (cQ 2) cO))) (pv 0) (eN (aY (cQ 1) (aY (cQ 2) cO))))))
  (cX (dN (Dx hu Z (pv 0) (eN (aY (cQ 1) (aY (cQ 2) cO))) (λ_ _=>rfl)))))))
theorem xN {f:cE}{fd:cz}(F:mZ K "winner_at" "Search.winner_at" gX f fd) (M0:Bt mg) {Cs:cE}(Z:kf K (dc Cs)) (mM:kT P w K mg base 32 "open_lines" eD) (nQ:jS P w K mg base 32 (dc Cs) "winner_of" (gh 24)):ef P w K mg base jt (33) f fd ["self","mine","yours","whose"] (Ef (dc Cs) (lG 4 4 i7)):=by
 refine sq (dc Cs) F xH (λA G fS Ar outer s H E hr C0 H0=>?_)
 letI:=dq (dc Cs) A G
 have hu:=hr.units;unfold i7;exact(cX (dN (pZ Z nQ hr (pv 0) (aY (dh mM hr (by rfl) (aY (gj (WD.o (gj (WD.o (so (Y:=dc Cs) Z (pv 0))) (WD.o cS) (λ_ _=>rfl))) (WD.o cS) (λ_ _=>rfl)) (aY (cQ 1) (aY (cQ 2) cO)))) (aY (cQ 3) cO)))))
theorem uN {f:cE}{fd:cz}(F:mZ K "winner_from" "winner_from" gc f fd) (M0:Bt mg) {Cs:cE}(Z:kf K (dc Cs)) (Hc:qR P w K mg base 32 (dc Cs) "Search") (zv:jS P w K mg base 33 (dc Cs) "winner_at" lh):ef P w K mg base jt (34) f fd ["game","mine","yours","whose"] (pK gw):=by
 refine LO F uK (λfS A outer s H E hr C0 H0=>?_)
 letI:=Mem.keep
 have hu:=hr.units;unfold i8;exact(cX (dN (AG Z zv hr (QL Z Hc hr (by rfl) (cQ 0)) (aY (cQ 1) (aY (cQ 2) (aY (cQ 3) cO))))))
theorem D7 {f:cE}{fd:cz}(F:mZ K "winner" "winner" j5 f fd) (M0:Bt mg) (vn:kT P w K mg base 34 "winner_from" gw):ef P w K mg base jt (35) f fd ["game"] (pK fZ):=by
 refine g8 F D3 (λm fS A outer s H E hr C0 H0=>?_)
 have hu:=hr.units;unfold oh;exact(cX (dN (dh vn hr (by rfl) (aY (cQ 0) (aY (eN cO) (aY (eN cO) (aY (gj (cN 0) (WD.o cS) (λ_ _=>rfl)) cO)))))))
theorem D8 {f:cE}{fd:cz}(F:mZ K "beside" "beside" j6 f fd) (M0:Bt mg):ef P w K mg base jt (1) f fd ["one","other"] (pK nL):=by
 refine g8 F rf (λm fS A outer s H E hr C0 H0=>?_)
 have hu:=hr.units;unfold oj;exact(cY (Az 2 3 rfl ⟨rfl,rfl,rfl,rf.nd⟩ (vM.weak (gD (gj (cN 1) (WD.o cS) (λ_ _=>rfl)))) (λ_ _ _ _ _=>(eJ gB (by rfl) M0.tuple fE (da (WD.o (WF.d (mn 4 rfl ⟨rfl,rfl,rfl,rf.nd⟩ (vM.weak (gD (cQ 3))) (λ_ _ _ _ _=>(iW (cN 4) (WD.o (gj (cN 0) (WD.o cS) (λ_ _=>rfl)))))))) du))))
  (m7 2 (cX (dN (eN (aY (iW (WD.o (gj (cN 0) (WD.o cS) (λ_ _=>rfl))) (WD.o (gj (cN 1) (WD.o cS) (λ_ _=>rfl)))) (aY (sk (WD.o (gj (cN 0) (WD.o cS) (λ_ _=>rfl))) (WD.o (eJ gB (by rfl) M0.tuple fE (da (cN 2) du)))) cO)))))))
theorem xO {f:cE}{fd:cz}(F:mZ K "_law_cell" "_law_cell" gY f fd) (M0:Bt mg):ef P w K mg base jt (1) f fd ["_law_script","_law_k"] (pK iG):=by
 refine g8 F xI (λm fS A outer s H E hr C0 H0=>?_)
 have hu:=hr.units;unfold gR;exact(cY (kU (eZ (NM hu) (cN 1) (WD.o (fW vH (by rfl) M0.len qJ (da (cN 0) du)))) (cX (dN (gj (cN 0) (cN 1) (λ_ _=>rfl)))) gC)
  (cX (dN cS)))
theorem zw {f:cE}{fd:cz}(F:mZ K "_law_mix" "_law_mix" iK f fd) (M0:Bt mg):ef P w K mg base jt (1) f fd ["_law_cell_here","_law_prime","_law_many"] (pK df):=by
 refine g8 F zp (λm fS A outer s H E hr C0 H0=>?_)
 have hu:=hr.units;unfold nk;exact(cX (dN (Av (WD.o (Av (WD.o (qP (cN 0) (WD.o cS))) (cN 1))) (cN 2))))
theorem vo {f:cE}{fd:cz}(F:mZ K "_law_field" "_law_field" gz f fd) (M0:Bt mg) (mN:kT P w K mg base 1 "_law_mix" df):ef P w K mg base jt (2) f fd ["_law_cell_here","_law_least","_law_most","_law_lines"] (pK de):=by
 refine g8 F eU (λm fS A outer s H E hr C0 H0=>?_)
 have hu:=hr.units;unfold ju;exact(cY (jM 4 eU.nd (iW (cN 1) (WD.o (dh mN hr (by rfl) (aY (cQ 0) (aY cS (aY (iW (WD.o (wZ (cN 2) (cN 1))) (WD.o cS)) cO)))))))
  (cY (nV 5 eU.nd (Ay cO))
  (cY (m8 (f:=gn) bA rfl (ml (by rfl) M0.range (aY (dh mN hr (by rfl) (aY (cQ 0) (aY cS (aY (iW (cN 3) (WD.o cS)) cO)))) cO)) (jr (i:=6) eU.nd rfl (by first|exact Or.inl rfl|exact Or.inr rfl)) (cY (jM 7 eU.nd (iW (WD.o cS) (WD.o (dh mN hr (by rfl) (aY (iW (cN 0) (WD.o (qP (WD.o cS) (cN 6)))) (aY cS (aY (fW (E9 rfl) (by rfl) M0.min An (da (WD.o cS) (da (cN 4) du))) cO)))))))
  (cY (kU (JV.pt (pR (eZ (NH) (WD.o (Av (cN 0) (WD.o cS))) (WD.o cS)) (pR (eZ (tw hu) (cN 7) (WD.o cS)) (tM (eZ (NH) (cN 4) (WD.o cS)))))) (cX (jM 7 eU.nd cS)) gC)
  (cY (nV 8 eU.nd (w5 rfl (by rfl) M0.list (by rfl) M0.range (aY (cQ 4) cO)))
  (cY (Iy 9 10 8 rfl (by decide) ⟨rfl,rfl,rfl,eU.nd⟩ (ml (by rfl) M0.range (aY (cQ 7) cO)) (λ_ _ _ _ _=>pv 8) (λ_ _ _ _ _=>(dh mN hr (by rfl) (aY (iW (WD.o (iW (cN 0) (WD.o (qP (WD.o cS) (cN 6))))) (WD.o (qP (WD.o cS) (cN 10)))) (aY cS (aY (wZ (cN 4) (cN 10)) cO))))))
  (m7 9 (cX (kU (eZ (BI hu) (WD.o (eJ gB (by rfl) M0.tuple fE (da (WD.o (WF.d (lD (pQ hu) (by rfl) M0.sorted iu (da (cN 9) du)))) du))) (cN 5)) (cX (AA (pv 5) (eJ gB (by rfl) M0.tuple fE (da (WD.o (WF.d (lD (pQ hu) (by rfl) M0.sorted iu (da (cN 9) du)))) du)))) gC))))))))
  (cX (dN (eN (aY (cQ 4) (aY (eJ gB (by rfl) M0.tuple fE (da (WD.o (WF.d (lD (pQ hu) (by rfl) M0.sorted iu (da (cN 5) du)))) du)) cO))))))))
theorem Mn {f:cE}{fd:cz}(F:mZ K "law" "law" mL f fd) (M0:Bt mg) (rN:kT P w K mg base 35 "_law_cell" iG) (qy:kT P w K mg base 35 "_law_field" de) (Hd:kT P w K mg base 35 "beside" nL) (lX:kT P w K mg base 35 "winner" fZ):ef P w K mg base jt (36) f fd ["_law_script"] (pK Cr):=by
 refine g8 F jq (λm fS A outer s H E hr C0 H0=>?_)
 have hu:=hr.units;unfold xE;exact(cY (m8 (f:=lV) bA rfl (ml (by rfl) M0.range (aY cS cO)) (jr (i:=1) jq.nd rfl (by first|exact Or.inl rfl|exact Or.inr rfl)) (cY (jM 2 jq.nd (dh qy hr (by rfl) (aY (dh rN hr (by rfl) (aY (cQ 0) (aY (qP (WD.o cS) (cN 1)) cO))) (aY cS (aY cS (aY cS cO))))))
  (cY (jM 3 jq.nd (dh qy hr (by rfl) (aY (dh rN hr (by rfl) (aY (cQ 0) (aY (iW (WD.o (qP (WD.o cS) (cN 1))) (WD.o cS)) cO))) (aY cS (aY cS (aY cS cO))))))
  (cY (jM 4 jq.nd (dh Hd hr (by rfl) (aY (cQ 2) (aY (cQ 3) cO))))
  (cY (nV 5 jq.nd (Dm LA (by rfl) M0.list BJ (da (WD.o (gj (cN 2) (WD.o cS) (λ_ _=>rfl))) du)))
  (cY (m8 (f:=nM) bA rfl (gD (gj (cN 3) (WD.o cS) (λ_ _=>rfl))) (jr (i:=6) jq.nd rfl (by first|exact Or.inl rfl|exact Or.inr rfl)) (cX (AA (pv 5) (by exact(eJ gB (by rfl) M0.tuple fE (da (WD.o (WF.d (mn 11 rfl ⟨rfl,rfl,rfl,jq.nd⟩ (vM.weak (gD (cQ 6))) (λ_ _ _ _ _=>(iW (cN 11) (WD.o (gj (cN 2) (WD.o cS) (λ_ _=>rfl)))))))) du))))))
  (cY (kU (eZ (Iu hu) (cN 4) (WD.o (eN (aY (iW (WD.o (gj (cN 2) (WD.o cS) (λ_ _=>rfl))) (WD.o (gj (cN 3) (WD.o cS) (λ_ _=>rfl)))) (aY (eJ gB (by rfl) M0.tuple fE (da (WD.o (WF.d (lD (pQ hu) (by rfl) M0.sorted iu (da (cN 5) du)))) du)) cO))))) (cX (dN BN)) gC)
  (cY (jM 7 jq.nd (dh lX hr (by rfl) (aY (eN (aY (cQ 4) (aY cS (aY cS (aY cS cO))))) cO)))
  (cY (jM 8 jq.nd (fW (E9 rfl) (by rfl) M0.min An (da (WD.o (dh lX hr (by rfl) (aY (eN (aY (cQ 2) (aY cS (aY cS (aY cS cO))))) cO))) (da (WD.o (dh lX hr (by rfl) (aY (eN (aY (cQ 3) (aY cS (aY cS (aY cS cO))))) cO))) du))))
  (cY (kU (eZ (Iu hu) (cN 7) (cN 8)) (cX (dN BN)) gC)
  (cY (jM 7 jq.nd (dh lX hr (by rfl) (aY (eN (aY (cQ 4) (aY cS (aY cS (aY cS cO))))) cO)))
  (cX (IF [9,10] (f:=qv) bA rfl (Fj (WF.d (Ay (aY (eN (aY (cQ 2) (aY (cQ 3) cO))) (aY (eN (aY (cQ 3) (aY (cQ 2) cO))) cO))))) (xU (jr (i:=9) jq.nd rfl (by first|exact Or.inl rfl|exact Or.inr rfl)) (xU (jr (i:=10) jq.nd rfl (by first|exact Or.inl rfl|exact Or.inr rfl)) Hv)) (cX (kU (JV.pt (pR (eZ (tw hu) (WD.o (dh lX hr (by rfl) (aY (eN (aY (cQ 9) (aY cS (aY cS (aY cS cO))))) cO))) (WD.o cS)) (pR (eZ (tw hu) (WD.o (dh lX hr (by rfl) (aY (eN (aY (cQ 10) (aY cS (aY cS (aY cS cO))))) cO))) (WD.o cS)) (tM (eZ (Iu hu) (cN 7) (WD.o cS)))))) (cX (dN BN)) gC)))))))))))))))
  (cX (dN BN)))
theorem zx {f:cE}{fd:cz}{Cs:cE}(F:mZ K "__init__" "Search.__init__" iM f fd) (Z:kf K (dc Cs)):ef P w K mg base jt 1 f fd ["self","game"] (xb (dc Cs)):=II (dc Cs) F zq rfl (λfS Ar outer s H E=>Ft Z (pv 0) (pv 1) (pv 0) rfl rfl)
end
theorem all_mk {l:W.OpenLaw}{w:cB}{K:W.Frag}{h:Heap}{mg:ck}(X:K.In h) (G:h.Ns mainGlobals mg) (Wi:mg "law"=some (.ref fa))
  {Cs:cE}(aC:W.nsIn K mainGlobals "Search"=some (some (.ref Cs)))
  (pgC:W.plainGet K Cs Str.empty=true)
  (hdC:W.hasDictIn K Cs=true)
  (poC:W.plainOver K Cs=true)
  (saC:W.findIn K (.ref Cs) "__setattr__"=some (some (.builtin "object.__setattr__")))
  (mkC:W.makesIn K Cs=true)
  (kcC:W.keepIn K (.ref Cs)=true)
  (nGC:W.findIn K (.ref Cs) "game"=some none)
  (nKC:W.findIn K (.ref Cs) "known"=some none)
  (aI:W.findIn K (.ref Cs) "__init__"=some (some (.ref fI))) (iI:W.isFn K (.ref fI)=true) (lI:K.lookup fI=some ⟨YS,YT,.func (W.fnOf "__init__" "Search.__init__" (dJ iM) (dk iM) (bt iM) .none YU YV YW YX Wj YY),YZ⟩) (cI:W.codeIn K Wj "Search.__init__"=true) (kI:W.keepIn K (.ref fI)=true)
  (a0:W.nsIn K mainGlobals "has_all"=some (some (.ref f0))) (l0:K.lookup f0=some ⟨Y0,Y1,.func (W.fnOf "has_all" "has_all" (dJ jn) (dk jn) (bt jn) .none Y2 Y3 Y4 Y5 Wl Y6),Y7⟩) (c0:W.codeIn K Wl "has_all"=true) (k0:W.keepIn K (.ref f0)=true)
  (a1:W.nsIn K mainGlobals "has_some"=some (some (.ref f1))) (l1:K.lookup f1=some ⟨Y8,Y9,.func (W.fnOf "has_some" "has_some" (dJ iH) (dk iH) (bt iH) .none Za Zb Zc Zd Wm Ze),Zf⟩) (c1:W.codeIn K Wm "has_some"=true) (k1:W.keepIn K (.ref f1)=true)
  (a2:W.nsIn K mainGlobals "at_a_time"=some (some (.ref f2))) (l2:K.lookup f2=some ⟨Tq,Zg,.func (W.fnOf "at_a_time" "at_a_time" (dJ gS) (dk gS) (bt gS) .none Zh Zi Ts Zj Wn Zk),EC⟩) (c2:W.codeIn K Wn "at_a_time"=true) (k2:W.keepIn K (.ref f2)=true)
  (a3:W.nsIn K mainGlobals "other_hand"=some (some (.ref f3))) (l3:K.lookup f3=some ⟨Zl,Zm,.func (W.fnOf "other_hand" "other_hand" (dJ gx) (dk gx) (bt gx) .none Zn Zo Zp Zq Wo Zr),Zs⟩) (c3:W.codeIn K Wo "other_hand"=true) (k3:W.keepIn K (.ref f3)=true)
  (a4:W.nsIn K mainGlobals "choices"=some (some (.ref f4))) (l4:K.lookup f4=some ⟨Zt,Zu,.func (W.fnOf "choices" "choices" (dJ jo) (dk jo) (bt jo) .none Zv Zw Zx Zy Wq Zz),ZA⟩) (c4:W.codeIn K Wq "choices"=true) (k4:W.keepIn K (.ref f4)=true)
  (a5:W.nsIn K mainGlobals "behind"=some (some (.ref f5))) (l5:K.lookup f5=some ⟨ZC,ZD,.func (W.fnOf "behind" "behind" (dJ j3) (dk j3) (bt j3) .none ZE ZF ZG ZH Wr ZI),ZJ⟩) (c5:W.codeIn K Wr "behind"=true) (k5:W.keepIn K (.ref f5)=true)
  (a6:W.nsIn K mainGlobals "free_part"=some (some (.ref f6))) (l6:K.lookup f6=some ⟨ZK,ZL,.func (W.fnOf "free_part" "free_part" (dJ gT) (dk gT) (bt gT) .none ZM ZN ZO ZP Ws ZQ),ZR⟩) (c6:W.codeIn K Ws "free_part"=true) (k6:W.keepIn K (.ref f6)=true)
  (a7:W.nsIn K mainGlobals "has_another"=some (some (.ref f7))) (l7:K.lookup f7=some ⟨ZS,ZT,.func (W.fnOf "has_another" "has_another" (dJ gb) (dk gb) (bt gb) .none ZU ZV ZW ZX Wu ZY),ZZ⟩) (c7:W.codeIn K Wu "has_another"=true) (k7:W.keepIn K (.ref f7)=true)
  (a8:W.nsIn K mainGlobals "spoils"=some (some (.ref f8))) (l8:K.lookup f8=some ⟨Z0,Z1,.func (W.fnOf "spoils" "spoils" (dJ j4) (dk j4) (bt j4) .none Z2 Z3 Z4 Z5 Wv Z6),Z7⟩) (c8:W.codeIn K Wv "spoils"=true) (k8:W.keepIn K (.ref f8)=true)
  (a9:W.nsIn K mainGlobals "points_by_use"=some (some (.ref f9))) (l9:K.lookup f9=some ⟨Z8,Z9,.func (W.fnOf "points_by_use" "points_by_use" (dJ eV) (dk eV) (bt eV) .none kV9 dc9 pm9 an9 Ww ct9),sl9⟩) (c9:W.codeIn K Ww "points_by_use"=true) (k9:W.keepIn K (.ref f9)=true)
  (a10:W.nsIn K mainGlobals "open_lines"=some (some (.ref Tz))) (l10:K.lookup Tz=some ⟨Wx,Wy,.func (W.fnOf "open_lines" "open_lines" (dJ gy) (dk gy) (bt gy) .none Wz WA WC WE Rx WG),WH⟩) (c10:W.codeIn K Rx "open_lines"=true) (k10:W.keepIn K (.ref Tz)=true)
  (a11:W.findIn K (.ref Cs) "worth_trying"=some (some (.ref Ry))) (i11:W.isFn K (.ref Ry)=true) (l11:K.lookup Ry=some ⟨WI,WJ,.func (W.fnOf "worth_trying" "Search.worth_trying" (dJ fA) (dk fA) (bt fA) .none WK WL WM WN Rz WR),WT⟩) (c11:W.codeIn K Rz "Search.worth_trying"=true) (k11:W.keepIn K (.ref Ry)=true)
  (a12:W.findIn K (.ref Cs) "searched"=some (some (.ref RA))) (i12:W.isFn K (.ref RA)=true) (l12:K.lookup RA=some ⟨WU,WV,.func (W.fnOf "searched" "Search.searched" (dJ iJ) (dk iJ) (bt iJ) .none WW WX WY WZ RB W0),W3⟩) (c12:W.codeIn K RB "Search.searched"=true) (k12:W.keepIn K (.ref RA)=true)
  (a13:W.findIn K (.ref Cs) "winner_of"=some (some (.ref RC))) (i13:W.isFn K (.ref RC)=true) (l13:K.lookup RC=some ⟨W4,W5,.func (W.fnOf "winner_of" "Search.winner_of" (dJ gW) (dk gW) (bt gW) .none W6 W7 W8 W9 RD Xa),Xb⟩) (c13:W.codeIn K RD "Search.winner_of"=true) (k13:W.keepIn K (.ref RC)=true)
  (a14:W.findIn K (.ref Cs) "winner_at"=some (some (.ref RE))) (i14:W.isFn K (.ref RE)=true) (l14:K.lookup RE=some ⟨Xc,Xd,.func (W.fnOf "winner_at" "Search.winner_at" (dJ gX) (dk gX) (bt gX) .none Xe Xf Xg Xh RF Xi),Xj⟩) (c14:W.codeIn K RF "Search.winner_at"=true) (k14:W.keepIn K (.ref RE)=true)
  (a15:W.nsIn K mainGlobals "winner_from"=some (some (.ref TB))) (l15:K.lookup TB=some ⟨Xk,Xl,.func (W.fnOf "winner_from" "winner_from" (dJ gc) (dk gc) (bt gc) .none Xm Xn Xo Xp RG Xq),Xr⟩) (c15:W.codeIn K RG "winner_from"=true) (k15:W.keepIn K (.ref TB)=true)
  (a16:W.nsIn K mainGlobals "winner"=some (some (.ref TC))) (l16:K.lookup TC=some ⟨Xs,Xu,.func (W.fnOf "winner" "winner" (dJ j5) (dk j5) (bt j5) .none Xv Xw Xx Xy RH Xz),XA⟩) (c16:W.codeIn K RH "winner"=true) (k16:W.keepIn K (.ref TC)=true)
  (a17:W.nsIn K mainGlobals "beside"=some (some (.ref TF))) (l17:K.lookup TF=some ⟨XB,XC,.func (W.fnOf "beside" "beside" (dJ j6) (dk j6) (bt j6) .none XD XE XF XG RI XH),XI⟩) (c17:W.codeIn K RI "beside"=true) (k17:W.keepIn K (.ref TF)=true)
  (a18:W.nsIn K mainGlobals "_law_cell"=some (some (.ref TH))) (l18:K.lookup TH=some ⟨XJ,XM,.func (W.fnOf "_law_cell" "_law_cell" (dJ gY) (dk gY) (bt gY) .none XN XO XQ XR RJ XS),XT⟩) (c18:W.codeIn K RJ "_law_cell"=true) (k18:W.keepIn K (.ref TH)=true)
  (a19:W.nsIn K mainGlobals "_law_mix"=some (some (.ref TJ))) (l19:K.lookup TJ=some ⟨XU,XW,.func (W.fnOf "_law_mix" "_law_mix" (dJ iK) (dk iK) (bt iK) .none XX XY XZ X0 RK X1),X2⟩) (c19:W.codeIn K RK "_law_mix"=true) (k19:W.keepIn K (.ref TJ)=true)
  (a20:W.nsIn K mainGlobals "_law_field"=some (some (.ref TK))) (l20:K.lookup TK=some ⟨X3,X4,.func (W.fnOf "_law_field" "_law_field" (dJ gz) (dk gz) (bt gz) .none X5 X6 X7 X8 RL X9),Yb⟩) (c20:W.codeIn K RL "_law_field"=true) (k20:W.keepIn K (.ref TK)=true)
  (a21:W.nsIn K mainGlobals "law"=some (some (.ref TL))) (l21:K.lookup TL=some ⟨Yc,Yd,.func (W.fnOf "law" "law" (dJ mL) (dk mL) (bt mL) .none RM RN RO RP OT RQ),Ye⟩) (c21:W.codeIn K OT "law"=true) (k21:W.keepIn K (.ref TL)=true)
  (z0:W.nsIn K mainGlobals "all"=some none)
  (z1:W.nsIn K mainGlobals "any"=some none)
  (z2:W.nsIn K mainGlobals "len"=some none)
  (z3:W.nsIn K mainGlobals "list"=some none)
  (z4:W.nsIn K mainGlobals "min"=some none)
  (z5:W.nsIn K mainGlobals "range"=some none)
  (z6:W.nsIn K mainGlobals "set"=some none)
  (z7:W.nsIn K mainGlobals "sorted"=some none)
  (z8:W.nsIn K mainGlobals "tuple"=some none)
  {t0:Tok}(y0:W.nsIn K mainGlobals "BUILDER"=some (some (.int 0 t0)))
  {t1:Tok}(y1:W.nsIn K mainGlobals "GUARD"=some (some (.int 1 t1)))
  (tq:(W.tabIn K "points_by_use").isSome=true)
  :∃fd:cz,(∀(s:cy) (v:cx),BindsTo s fd ⟨[v],[]⟩ [("_law_script",v)])/\∀base:Heap,K.In base->base.Ns mainGlobals mg->ef l.prog w K mg base jt 65 fa fd ["_law_script"] (pK Cr):=by
 have e:=Wi.symm.trans (aO X G a21);cases e;have F0:=eX (st:=jn) l0 c0 k0;have b0:=F0.binds (ps:=["points","line"]) λ_ _ _ _ _ _ us hl=>match us,hl with|[_,_],_=>rfl
 have F1:=eX (st:=iH) l1 c1 k1;have b1:=F1.binds (ps:=["points","line"]) λ_ _ _ _ _ _ us hl=>match us,hl with|[_,_],_=>rfl
 have F2:=eX (st:=gS) l2 c2 k2;have b2:=F2.binds (ps:=["game","whose"]) λ_ _ _ _ _ _ us hl=>match us,hl with|[_,_],_=>rfl
 have F3:=eX (st:=gx) l3 c3 k3;have b3:=F3.binds (ps:=["hand"]) λ_ _ _ _ _ _ us hl=>match us,hl with|[_],_=>rfl
 have F4:=eX (st:=jo) l4 c4 k4;have b4:=F4.binds (ps:=["points","count"]) λ_ _ _ _ _ _ us hl=>match us,hl with|[_,_],_=>rfl
 have F5:=eX (st:=j3) l5 c5 k5;have b5:=F5.binds (ps:=["mine","yours","whose","claim"]) λ_ _ _ _ _ _ us hl=>match us,hl with|[_,_,_,_],_=>rfl
 have F6:=eX (st:=gT) l6 c6 k6;have b6:=F6.binds (ps:=["line","mine"]) λ_ _ _ _ _ _ us hl=>match us,hl with|[_,_],_=>rfl
 have F7:=eX (st:=gb) l7 c7 k7;have b7:=F7.binds (ps:=["line","lines"]) λ_ _ _ _ _ _ us hl=>match us,hl with|[_,_],_=>rfl
 have F8:=eX (st:=j4) l8 c8 k8;have b8:=F8.binds (ps:=["points","lines"]) λ_ _ _ _ _ _ us hl=>match us,hl with|[_,_],_=>rfl
 have F9:=eX (st:=eV) l9 c9 k9;have b9:=F9.binds (ps:=["lines"]) λ_ _ _ _ _ _ us hl=>match us,hl with|[_],_=>rfl
 have TM:=eX (st:=gy) l10 c10 k10;have Yg:=TM.binds (ps:=["lines","mine","yours"]) λ_ _ _ _ _ _ us hl=>match us,hl with|[_,_,_],_=>rfl
 have TN:=eX (st:=fA) l11 c11 k11;have Yh:=TN.binds (ps:=["self","lines","whose"]) λ_ _ _ _ _ _ us hl=>match us,hl with|[_,_,_],_=>rfl
 have TQ:=eX (st:=iJ) l12 c12 k12;have TR:=TQ.binds (ps:=["self","lines","whose"]) λ_ _ _ _ _ _ us hl=>match us,hl with|[_,_,_],_=>rfl
 have TU:=eX (st:=gW) l13 c13 k13;have TV:=TU.binds (ps:=["self","lines","whose"]) λ_ _ _ _ _ _ us hl=>match us,hl with|[_,_,_],_=>rfl
 have TX:=eX (st:=gX) l14 c14 k14;have Yi:=TX.binds (ps:=["self","mine","yours","whose"]) λ_ _ _ _ _ _ us hl=>match us,hl with|[_,_,_,_],_=>rfl
 have TY:=eX (st:=gc) l15 c15 k15;have Yj:=TY.binds (ps:=["game","mine","yours","whose"]) λ_ _ _ _ _ _ us hl=>match us,hl with|[_,_,_,_],_=>rfl
 have TZ:=eX (st:=j5) l16 c16 k16;have Yk:=TZ.binds (ps:=["game"]) λ_ _ _ _ _ _ us hl=>match us,hl with|[_],_=>rfl
 have T1:=eX (st:=j6) l17 c17 k17;have Yl:=T1.binds (ps:=["one","other"]) λ_ _ _ _ _ _ us hl=>match us,hl with|[_,_],_=>rfl
 have T2:=eX (st:=gY) l18 c18 k18;have Ym:=T2.binds (ps:=["_law_script","_law_k"]) λ_ _ _ _ _ _ us hl=>match us,hl with|[_,_],_=>rfl
 have T3:=eX (st:=iK) l19 c19 k19;have Yn:=T3.binds (ps:=["_law_cell_here","_law_prime","_law_many"]) λ_ _ _ _ _ _ us hl=>match us,hl with|[_,_,_],_=>rfl
 have T4:=eX (st:=gz) l20 c20 k20;have Yo:=T4.binds (ps:=["_law_cell_here","_law_least","_law_most","_law_lines"]) λ_ _ _ _ _ _ us hl=>match us,hl with|[_,_,_,_],_=>rfl
 have Yp:=eX (st:=mL) l21 c21 k21;have M0:Bt mg:=⟨bF X G z0,bF X G z1,bF X G z2,bF X G z3,bF X G z4,bF X G z5,bF X G z6,bF X G z7,bF X G z8,⟨_,aO X G y0⟩,⟨_,aO X G y1⟩⟩;refine⟨W.fnOf "law" "law" (dJ mL) (dk mL) (bt mL) .none RM RN RO RP OT RQ,λs v=>.of_eq rfl,λbase _ _=>?_⟩
 have Z:kf K (dc Cs):=⟨⟨pgC,hdC,poC,saC⟩,nGC,nKC⟩;have FI:=eX (st:=iM) lI cI kI;have bI:=FI.binds (ps:=["self","game"]) λ_ _ _ _ _ _ us hl=>match us,hl with|[_,_],_=>rfl
 have He:qR l.prog w K mg base 1 (dc Cs) "Search":=⟨_,_,_,zx FI Z,⟨mkC,aI,iI,kcC⟩,aO X G aC,bI,(show Str.ofString "known"≠Str.ofString "game" by decide +kernel)⟩
 obtain⟨⟨ctq,Ptq⟩,T5⟩:=Option.isSome_iff_exists.mp tq;have Yq:=Gq a9 l9 T5;have C0:kT l.prog w K mg base 1 "has_all" lR:=⟨_,_,_,Bi F0 M0,aO X G a0,k0,b0⟩;have C1:kT l.prog w K mg base 1 "has_some" gK:=⟨_,_,_,zr F1 M0,aO X G a1,k1,b1⟩;have C2:kT l.prog w K mg base 1 "at_a_time" dM:=⟨_,_,_,xJ F2 M0,aO X G a2,k2,b2⟩;have C3:kT l.prog w K mg base 1 "other_hand" fJ:=⟨_,_,_,vj F3 M0,aO X G a3,k3,b3⟩;have CR:∀n:Nat,(kT l.prog w K mg base (1+n) "choices" (eL n)):=by
  intro n;induction n with
  |zero=>exact⟨_,_,_,IG,aO X G a4,k4,b4⟩
  |succ n ih=>
   exact⟨_,_,_,(Bj (n:=1+n) F4 M0 (kT.mono ih (by omega))).mono (by omega),aO X G a4,k4,b4⟩
 have C4:=(CR 5);clear CR;have C5:kT l.prog w K mg base 1 "behind" nF:=⟨_,_,_,D4 F5 M0,aO X G a5,k5,b5⟩;have C6:kT l.prog w K mg base 1 "free_part" iE:=⟨_,_,_,xK F6 M0,aO X G a6,k6,b6⟩;have C7:kT l.prog w K mg base 2 "has_another" hW:=⟨_,_,_,uL F7 M0 (C0.mono (by decide)),aO X G a7,k7,b7⟩
 have C8:kT l.prog w K mg base 2 "spoils" nH:=⟨_,_,_,D6 F8 M0 (C1.mono (by decide)),aO X G a8,k8,b8⟩
 have C9:kT l.prog w K mg base 1 "points_by_use" fz:=⟨_,_,_,rh F9 M0 T5 Yq,aO X G a9,k9,b9⟩;have T6:kT l.prog w K mg base 3 "open_lines" eD:=⟨_,_,_,vk TM M0 (C6.mono (by decide)) (C7.mono (by decide)) (C1.mono (by decide)),aO X G a10,k10,Yg⟩
 have Yr:jS l.prog w K mg base 7 (dc Cs) "worth_trying" fY:=⟨_,_,_,r0 TN M0 Z (C2.mono (by decide)) (C4.mono (by decide)) (C9.mono (by decide)) (C8.mono (by decide)),⟨a11,i11,k11⟩,Yh,(show Str.ofString "worth_trying"≠Str.ofString "game" by decide +kernel),(show Str.ofString "worth_trying"≠Str.ofString "known" by decide +kernel)⟩
 have CR:∀n:Nat,(jS l.prog w K mg base (8+n) (dc Cs) "searched" (kL n))/\(jS l.prog w K mg base (8+n) (dc Cs) "winner_of" (gh n)):=by
  intro n;induction n with
  |zero=>exact⟨⟨_,_,_,yp,⟨a12,i12,k12⟩,TR,(show Str.ofString "searched"≠Str.ofString "game" by decide +kernel),(show Str.ofString "searched"≠Str.ofString "known" by decide +kernel)⟩,⟨_,_,_,yp,⟨a13,i13,k13⟩,TV,(show Str.ofString "winner_of"≠Str.ofString "game" by decide +kernel),(show Str.ofString "winner_of"≠Str.ofString "known" by decide +kernel)⟩⟩
  |succ n ih=>
   exact⟨⟨_,_,_,(zu (n:=1+n) TQ M0 Z (C2.mono (by omega)) (C5.mono (by omega)) (T6.mono (by omega)) (C3.mono (by omega)) (jS.mono ih.2 (by omega)) (Yr.mono (by omega))).mono (by omega),⟨a12,i12,k12⟩,TR,(show Str.ofString "searched"≠Str.ofString "game" by decide +kernel),(show Str.ofString "searched"≠Str.ofString "known" by decide +kernel)⟩,⟨_,_,_,(xM (n:=1+n) TU M0 Z (jS.mono ih.1 (by omega))).mono (by omega),⟨a13,i13,k13⟩,TV,(show Str.ofString "winner_of"≠Str.ofString "game" by decide +kernel),(show Str.ofString "winner_of"≠Str.ofString "known" by decide +kernel)⟩⟩
 have C12:=(CR 24).1;have Ys:=(CR 24).2;clear CR;have Yt:jS l.prog w K mg base 33 (dc Cs) "winner_at" lh:=⟨_,_,_,xN TX M0 Z (T6.mono (by decide)) (Ys.mono (by decide)),⟨a14,i14,k14⟩,Yi,(show Str.ofString "winner_at"≠Str.ofString "game" by decide +kernel),(show Str.ofString "winner_at"≠Str.ofString "known" by decide +kernel)⟩
 have Yu:kT l.prog w K mg base 34 "winner_from" gw:=⟨_,_,_,uN TY M0 Z (He.mono (by decide)) (Yt.mono (by decide)),aO X G a15,k15,Yj⟩
 have Yv:kT l.prog w K mg base 35 "winner" fZ:=⟨_,_,_,D7 TZ M0 (Yu.mono (by decide)),aO X G a16,k16,Yk⟩
 have Yw:kT l.prog w K mg base 1 "beside" nL:=⟨_,_,_,D8 T1 M0,aO X G a17,k17,Yl⟩;have Yx:kT l.prog w K mg base 1 "_law_cell" iG:=⟨_,_,_,xO T2 M0,aO X G a18,k18,Ym⟩;have Yy:kT l.prog w K mg base 1 "_law_mix" df:=⟨_,_,_,zw T3 M0,aO X G a19,k19,Yn⟩;have Yz:kT l.prog w K mg base 2 "_law_field" de:=⟨_,_,_,vo T4 M0 (Yy.mono (by decide)),aO X G a20,k20,Yo⟩
 exact(Mn Yp M0 (Yx.mono (by decide)) (Yz.mono (by decide)) (Yw.mono (by decide)) (Yv.mono (by decide))).mono (by decide)
end lY
noncomputable def lY.view:PySem.Program:={PySem.Challenge.pw_fieldclaim_k11_whole_fields_beside_one_a with main:={PySem.Challenge.pw_fieldclaim_k11_whole_fields_beside_one_a.main with body:=[lY.top 0,lY.top 2,lY.top 3,lY.top 4,lY.top 5,lY.top 6,lY.top 7,lY.top 8,lY.top 9,lY.top 11,lY.top 12,lY.top 13,lY.top 14,lY.top 15,lY.top 16,lY.top 17,lY.top 18,lY.top 20,lY.top 22,lY.top 23,lY.top 24,lY.top 25,lY.top 26,lY.top 27]}}
open PySem PySem.W PyProof.Rows
local macro_rules|`(tactic|o_head $H)=>do let hl:=Lean.mkIdent `hl;let hw:=Lean.mkIdent `hw;let hc:=Lean.mkIdent `hc;`(tactic|(refine holds_open (q:=lY.view) (loose:=[]) (Xt:=λs=>xlAt lY.view [] s&&recOk (RowW.records (OpenRow.toRowW (OpenLaw.row PySem.Challenge.rw_fieldclaim_k11_whole_fields_beside_one_a))) s) (XP:=XL lY.view []) (Yf:=Hook.obs $H) (Ya:=Hook.val $H) (YP:=Hook.says $H) (N:=2212) ?$hl (Hook.of $H) (Hook.keeps $H) (λs e=>xl_of s (Bool.and_eq_true_iff.mp e).1) XL.keeps (by rfl) (by rfl) (by rfl) (λs e=>recFacts_of (Bool.and_eq_true_iff.mp e).2) (by rfl) (by first|assumption|decide +kernel) (by decide +kernel) ⟨rfl,rfl,rfl,rfl,rfl,by decide +kernel⟩ ?$hw ?$hc;(case $hl:ident=>intro w;kernel_rfl)))
set_option maxRecDepth 100000 in
set_option maxHeartbeats 0 in
theorem PySem.Challenge.cw_fieldclaim_k11_whole_fields_beside_one_a_holds : PySem.Challenge.rw_fieldclaim_k11_whole_fields_beside_one_a.Holds := by
 w_on;o_law;k_head;(case hw=>w_witness2)
 k_fill
 refine DL.NY (l:=PySem.Challenge.rw_fieldclaim_k11_whole_fields_beside_one_a) (x:="_law_script") (g:=lY.Cr) rfl rfl (λw h Y=>by first|exact PySem.W.kIn_of Y|exact PySem.W.km_in_of Y) lY.Jr ?R ?F
 case R=>intro t ht;simp only[L2.rO,bu]at ht;subst ht;kernel_rfl
 case F=>
  intro w mg fa h KX G Nr;refine⟨?z,?t,?r⟩
  case z=>kernel_rfl
  case t=>kernel_rfl
  case r=>
   refine' lY.all_mk KX G Nr ?aC ?pgC ?hdC ?poC ?saC ?mkC ?kcC ?nGC ?nKC ?aI ?iI ?lI ?cI ?kI ?a0 ?l0 ?c0 ?k0 ?a1 ?l1 ?c1 ?k1 ?a2 ?l2 ?c2 ?k2 ?a3 ?l3 ?c3 ?k3 ?a4 ?l4 ?c4 ?k4 ?a5 ?l5 ?c5 ?k5 ?a6 ?l6 ?c6 ?k6 ?a7 ?l7 ?c7 ?k7 ?a8 ?l8 ?c8 ?k8 ?a9 ?l9 ?c9 ?k9 ?a10 ?l10 ?c10 ?k10 ?a11 ?i11 ?l11 ?c11 ?k11 ?a12 ?i12 ?l12 ?c12 ?k12 ?a13 ?i13 ?l13 ?c13 ?k13 ?a14 ?i14 ?l14 ?c14 ?k14 ?a15 ?l15 ?c15 ?k15 ?a16 ?l16 ?c16 ?k16 ?a17 ?l17 ?c17 ?k17 ?a18 ?l18 ?c18 ?k18 ?a19 ?l19 ?c19 ?k19 ?a20 ?l20 ?c20 ?k20 ?a21 ?l21 ?c21 ?k21 ?z0 ?z1 ?z2 ?z3 ?z4 ?z5 ?z6 ?z7 ?z8 ?y0 ?y1 ?tq
   (case aC=>k_is)
   (case pgC=>k_is)
   (case hdC=>k_is)
   (case poC=>k_is)
   (case saC=>k_is)
   (case mkC=>k_is)
   (case kcC=>k_is)
   (case nGC=>k_is)
   (case nKC=>k_is)
   (case aI=>k_is)
   (case iI=>k_is)
   (case lI=>k_is)
   (case cI=>k_is)
   (case kI=>k_is)
   (case tq=>kernel_rfl)
   (case a0=>k_is);(case l0=>k_is);(case c0=>k_is);(case k0=>k_is)
   (case a1=>k_is);(case l1=>k_is);(case c1=>k_is);(case k1=>k_is)
   (case a2=>k_is);(case l2=>k_is);(case c2=>k_is);(case k2=>k_is)
   (case a3=>k_is);(case l3=>k_is);(case c3=>k_is);(case k3=>k_is)
   (case a4=>k_is);(case l4=>k_is);(case c4=>k_is);(case k4=>k_is)
   (case a5=>k_is);(case l5=>k_is);(case c5=>k_is);(case k5=>k_is)
   (case a6=>k_is);(case l6=>k_is);(case c6=>k_is);(case k6=>k_is)
   (case a7=>k_is);(case l7=>k_is);(case c7=>k_is);(case k7=>k_is)
   (case a8=>k_is);(case l8=>k_is);(case c8=>k_is);(case k8=>k_is)
   (case a9=>k_is);(case l9=>k_is);(case c9=>k_is);(case k9=>k_is)
   (case a10=>k_is);(case l10=>k_is);(case c10=>k_is);(case k10=>k_is)
   (case a11=>k_is);(case i11=>k_is);(case l11=>k_is);(case c11=>k_is);(case k11=>k_is)
   (case a12=>k_is);(case i12=>k_is);(case l12=>k_is);(case c12=>k_is);(case k12=>k_is)
   (case a13=>k_is);(case i13=>k_is);(case l13=>k_is);(case c13=>k_is);(case k13=>k_is)
   (case a14=>k_is);(case i14=>k_is);(case l14=>k_is);(case c14=>k_is);(case k14=>k_is)
   (case a15=>k_is);(case l15=>k_is);(case c15=>k_is);(case k15=>k_is)
   (case a16=>k_is);(case l16=>k_is);(case c16=>k_is);(case k16=>k_is)
   (case a17=>k_is);(case l17=>k_is);(case c17=>k_is);(case k17=>k_is)
   (case a18=>k_is);(case l18=>k_is);(case c18=>k_is);(case k18=>k_is)
   (case a19=>k_is);(case l19=>k_is);(case c19=>k_is);(case k19=>k_is)
   (case a20=>k_is);(case l20=>k_is);(case c20=>k_is);(case k20=>k_is)
   (case a21=>k_is);(case l21=>k_is);(case c21=>k_is);(case k21=>k_is)
   (case z0=>k_is)
   (case z1=>k_is)
   (case z2=>k_is)
   (case z3=>k_is)
   (case z4=>k_is)
   (case z5=>k_is)
   (case z6=>k_is)
   (case z7=>k_is)
   (case z8=>k_is)
   (case y0=>k_is)
   (case y1=>k_is)
