import PyProof.Rows.All
import Wide.All
import OpenK.AllK
import Wide.FinOn
import Lean
import PyProof.EqAt
import PyProof.EqKinds
import PyProof.TupleCall
import KE.KSortTup
import KE.KLam
import KE.KTryMore
import PyProof.NsDelKeeps
import PyProof.RulesAs
import PyProof.Rows.SumAny
import PySem.SetTable
import KE.KDictList
import PySem.Challenge.RW_fieldclaim_k04_whole_who_has_its_way
set_option Elab.async false
set_option linter.all false
set_option maxRecDepth 100000
set_option maxHeartbeats 4000000
theorem aa:type_of% @PySem.wpAny_bind:=@PySem.wpAny_bind
theorem ae.{i4,IG}:type_of% @List.length_map.{i4,IG}:=@List.length_map
theorem af.{i4}:type_of% @List.mem_cons_self.{i4}:=@List.mem_cons_self
theorem ag:type_of% @PySem.Heap.get?_push_of_some:=@PySem.Heap.get?_push_of_some
theorem ah.{i4}:type_of% @List.getElem?_eq_getElem.{i4}:=@List.getElem?_eq_getElem
theorem ai.{i4}:type_of% @List.mem_cons_of_mem.{i4}:=@List.mem_cons_of_mem
theorem aj:type_of% @PySem.wpAny_pure:=@PySem.wpAny_pure
theorem ak.{i4}:type_of% @List.getD_eq_getElem?_getD.{i4}:=@List.getD_eq_getElem?_getD
theorem ao.{i4,IG}:type_of% @Option.bind_some.{i4,IG}:=@Option.bind_some
theorem aq.{u}:type_of% @List.size_toArray.{u}:=@List.size_toArray
theorem au:type_of% @Nat.le_refl:=@Nat.le_refl
theorem av.{i4,IG}:type_of% @List.getElem?_map.{i4,IG}:=@List.getElem?_map
theorem aw:type_of% @Nat.lt_of_lt_of_le:=@Nat.lt_of_lt_of_le
theorem ax.{u}:type_of% @List.length_cons.{u}:=@List.length_cons
theorem az:type_of% @PySem.Heap.get?_push_size:=@PySem.Heap.get?_push_size
theorem aB:type_of% @PySem.Heap.lt_size:=@PySem.Heap.lt_size
theorem aD:type_of% @Nat.le_trans:=@Nat.le_trans
theorem aE:type_of% @Nat.ne_of_lt:=@Nat.ne_of_lt
theorem aF.{u,v}:type_of% @List.map_cons.{u,v}:=@List.map_cons
theorem aG.{i4}:type_of% @List.getElem?_set_ne.{i4}:=@List.getElem?_set_ne
theorem aH:type_of% @decide_eq_false:=@decide_eq_false
theorem aJ:type_of% @Bool.false_eq_true:=@Bool.false_eq_true
theorem aK.{i4}:type_of% @List.getElem?_append_left.{i4}:=@List.getElem?_append_left
theorem aL.{i4}:type_of% @List.getElem?_cons_succ.{i4}:=@List.getElem?_cons_succ
theorem aM.{u}:type_of% @List.mem_append_right.{u}:=@List.mem_append_right
theorem aN.{i4}:type_of% @List.getElem?_cons_zero.{i4}:=@List.getElem?_cons_zero
theorem aO.{i4}:type_of% @Array.length_toList.{i4}:=@Array.length_toList
theorem aP:type_of% @PySem.W.mg_of:=@PySem.W.mg_of
theorem aQ.{i4}:type_of% @List.getElem?_append_right.{i4}:=@List.getElem?_append_right
theorem aR.{u}:type_of% @List.length_append.{u}:=@List.length_append
theorem aS:type_of% @decide_eq_true:=@decide_eq_true
theorem aT.{u}:type_of% @Option.some.inj.{u}:=@Option.some.inj
theorem aU.{i4}:type_of% @Array.getD_eq_getD_getElem?.{i4}:=@Array.getD_eq_getD_getElem?
theorem aV.{i4}:type_of% @Array.getElem?_eq_getElem.{i4}:=@Array.getElem?_eq_getElem
theorem aW.{i4,IG,ZM}:type_of% @List.map_map.{i4,IG,ZM}:=@List.map_map
theorem aX.{i4}:type_of% @List.length_filter_le.{i4}:=@List.length_filter_le
theorem aY.{i4}:type_of% @List.set_cons_zero.{i4}:=@List.set_cons_zero
theorem aZ.{i4}:type_of% @List.set_cons_succ.{i4}:=@List.set_cons_succ
theorem bc:type_of% @Bool.false_ne_true:=@Bool.false_ne_true
theorem bf.{i4}:type_of% @List.getElem?_set_self.{i4}:=@List.getElem?_set_self
theorem bg.{i4}:type_of% @List.getElem?_replicate.{i4}:=@List.getElem?_replicate
theorem bh:type_of% @Nat.le_of_lt:=@Nat.le_of_lt
theorem bo.{i4}:type_of% @List.mem_of_getElem?.{i4}:=@List.mem_of_getElem?
theorem bp:type_of% @PySem.wpAny_holding:=@PySem.wpAny_holding
theorem bq.{i4}:type_of% @List.getElem?_of_mem.{i4}:=@List.getElem?_of_mem
theorem br.{u,i4}:type_of% @List.lookup_cons.{u,i4}:=@List.lookup_cons
theorem bu.{i4}:type_of% @List.filter_cons.{i4}:=@List.filter_cons
theorem bw.{i4}:type_of% @List.mem_singleton.{i4}:=@List.mem_singleton
theorem bx:type_of% @PySem.sizeLine_eq:=@PySem.sizeLine_eq
theorem bz:type_of% @Nat.ne_of_gt:=@Nat.ne_of_gt
theorem bA:type_of% @PySem.Heap.get?_update_other:=@PySem.Heap.get?_update_other
theorem bB:type_of% @PySem.PassesOwn.never:=@PySem.PassesOwn.never
theorem bC.{i4,IG}:type_of% @Option.map_some.{i4,IG}:=@Option.map_some
theorem bD.{u}:type_of% @List.append_nil.{u}:=@List.append_nil
theorem bE.{u}:type_of% @List.mem_append_left.{u}:=@List.mem_append_left
theorem bF.{i4}:type_of% @if_false.{i4}:=@if_false
theorem bG:type_of% @PySem.W.mg_none_of:=@PySem.W.mg_none_of
theorem bH.{i4}:type_of% @List.any_cons.{i4}:=@List.any_cons
theorem bJ:type_of% @Nat.lt_trans:=@Nat.lt_trans
theorem bK.{i4}:type_of% @List.not_mem_nil.{i4}:=@List.not_mem_nil
theorem bL.{i4}:type_of% @List.length_take.{i4}:=@List.length_take
theorem bM:type_of% @of_decide_eq_true:=@of_decide_eq_true
theorem bN:type_of% @Nat.zero_le:=@Nat.zero_le
theorem bO:type_of% @PySem.wpAny_call_entry:=@PySem.wpAny_call_entry
theorem bP.{i4}:type_of% @beq_self_eq_true.{i4}:=@beq_self_eq_true
theorem bQ.{i4}:type_of% @List.any_eq_true.{i4}:=@List.any_eq_true
theorem bR:type_of% @PySem.wpAny_mono:=@PySem.wpAny_mono
theorem bS:type_of% @PySem.wpAny_truthy_bool:=@PySem.wpAny_truthy_bool
theorem bT:type_of% @PySem.wpAny_newObj_type:=@PySem.wpAny_newObj_type
theorem bU.{i4,IG}:type_of% @List.map_congr_left.{i4,IG}:=@List.map_congr_left
theorem bV:type_of% @Bool.not_true:=@Bool.not_true
theorem bW:type_of% @Classical.byContradiction:=@Classical.byContradiction
theorem bX:type_of% @PySem.W.kia_one:=@PySem.W.kia_one
theorem bY.{i4}:type_of% @List.Nodup.length_le_of_subset.{i4}:=@List.Nodup.length_le_of_subset
theorem bZ:type_of% @PySem.Around.under_plainId:=@PySem.Around.under_plainId
abbrev cp:=List (List Int)
abbrev cq:=List Int
abbrev ck:=PySem.Value->PySem.Shared->Prop
abbrev cm:=PySem.Str->Option PySem.Value
abbrev cn:=List (PySem.Addr×PySem.Obj)
abbrev cu:=Option PySem.Addr
abbrev cv:=Array (Option PySem.Value)
abbrev cx:=List PySem.Value
abbrev cy:=PySem.Value
abbrev cz:=PySem.Shared
abbrev cA:=PySem.FuncData
abbrev cB:=PySem.Program
abbrev cC:=PySem.World
abbrev cD:=PySem.Around
abbrev cE:=PySem.SetTable
abbrev cF:=PySem.Addr
abbrev cG:=PySem.Expr
abbrev cH:=PySem.Stmt
noncomputable section
namespace L2
open PySem
def vK:List (Str×Pos×Str):=[(Str.ofString "points_by_use",⟨101,34,101,69⟩,Str.ofString "points_by_use.<locals>.<lambda>")]
end L2
namespace L2
open PySem PySem.Spec PyProof.Rows
abbrev Key:=Sum Int Str
def zt:Key->cy->Bool
 |.inl k,v=>Value.isInt k v
 |.inr x,v=>Value.isStrOf x v
def U9 (w:cC):Key->Int
 |.inl k=>hashInt k
 |.inr x=>hashStr w x
theorem gy:∀{k:Key}{v:cy},zt k v=true->(∃i t,k=Sum.inl i/\v=Value.int i t)\/(∃x t,k=Sum.inr x/\v=Value.str x t)
 |.inl i,v,h=>by
  obtain⟨t,e⟩:=Value.isInt_shape (k:=i) (v:=v) h;exact .inl ⟨i,t,rfl,e⟩
 |.inr x,v,h=>by
  obtain⟨t,e⟩:=Value.isStrOf_shape (x:=x) (v:=v) h;exact .inr ⟨x,t,rfl,e⟩
theorem GS (i:Int) (t:Tok):zt (.inl i) (.int i t)=true:=by simp[zt,Value.isInt]
theorem GU (x:Str) (t:Tok):zt (.inr x) (.str x t)=true:=by simp[zt,Value.isStrOf]
theorem OK (a b:Int):decide ((Sum.inl a:Key)=Sum.inl b)=(a==b):=by
 by_cases e:a=b
 ·subst e;simp
 ·have h:¬ (Sum.inl a:Key)=Sum.inl b:=λq=>e (Sum.inl.inj q)
  rw[aH h];exact(beq_eq_false_iff_ne.mpr e).symm
theorem OL (a b:Str):decide ((Sum.inr a:Key)=Sum.inr b)=decide (a=b):=by
 by_cases e:a=b
 ·subst e;simp
 ·have h:¬ (Sum.inr a:Key)=Sum.inr b:=λq=>e (Sum.inr.inj q)
  rw[aH h,aH e]
theorem OM (a:Int) (b:Str):decide ((Sum.inl a:Key)=Sum.inr b)=false:=aH (λq=>nomatch q)
theorem ON (a:Str) (b:Int):decide ((Sum.inr a:Key)=Sum.inl b)=false:=aH (λq=>nomatch q)
def fy (prog:cB) (w:cC):PySem.KeyKind prog w Key where
 is:=zt
 hash:=U9 w
 inj:=λv a b ha hb=>by
  rcases gy ha with⟨i,t,rfl,rfl⟩|⟨x,t,rfl,rfl⟩
  ·rcases gy hb with⟨j,u,rfl,e⟩|⟨y,u,rfl,e⟩
   ·injection e with e1 _;rw[e1]
   ·exact nomatch e
  ·rcases gy hb with⟨j,u,rfl,e⟩|⟨y,u,rfl,e⟩
   ·exact nomatch e
   ·injection e with e1 _;rw[e1]
 byValue:=λk v h=>by
  rcases gy h with⟨i,t,rfl,rfl⟩|⟨x,t,rfl,rfl⟩<;>rfl
 pyHash:=λhv h=>by
  rcases gy hv with⟨i,t,rfl,rfl⟩|⟨x,t,rfl,rfl⟩
  ·exact wpAny_pyHash_int h
  ·exact wpAny_pyHash_str h
 eqBool:=λhu hv h=>by
  rcases gy hu with⟨i,t,rfl,rfl⟩|⟨x,t,rfl,rfl⟩
  ·rcases gy hv with⟨j,u,rfl,rfl⟩|⟨y,u,rfl,rfl⟩
   ·rw[OK]at h;exact wpAny_eqBool_int h
   ·rw[OM]at h;exact SeqAt.EqAt.int_str i t y u _ _ _ _ h
  ·rcases gy hv with⟨j,u,rfl,rfl⟩|⟨y,u,rfl,rfl⟩
   ·rw[ON]at h;exact SeqAt.EqAt.str_int x t j u _ _ _ _ h
   ·rw[OL]at h;exact wpAny_eqBool_str h
 «strs»:=λk x t v h=>by
  rcases gy h with⟨i,u,rfl,e⟩|⟨y,u,rfl,e⟩
  ·exact nomatch e
  ·injection e with e1 _
   subst e1;cases v<;>rfl
theorem BI (prog:cB) (w:cC) (i:Int) (t:Tok):(fy prog w).is (.inl i) (.int i t)=true:=GS i t
theorem BJ (prog:cB) (w:cC) (x:Str) (t:Tok):(fy prog w).is (.inr x) (.str x t)=true:=GU x t
end L2
namespace L2
open PySem PySem.Spec PyProof.Rows
inductive V where
 |eD|bl (b:Bool)|int (i:Int)|str (x:Str)|Rp (b:Array UInt8)|OO (b:UInt64)|ref (a:cF)|ty (n:String)
 deriving DecidableEq
def RelV:V->cy->Prop
 |.eD,u=>u=Value.none
 |.bl b,u=>u=Value.bool b
 |.int i,u=>∃t,u=Value.int i t
 |.str x,u=>∃t,u=Value.str x t
 |.Rp b,u=>∃t,u=Value.bytes b t
 |.OO b,u=>∃t,u=Value.float b t
 |.ref a,u=>u=Value.ref a
 |.ty n,u=>u=Value.type n
abbrev Vals:List V->cx->Prop:=Paired RelV
theorem Vals.length {xs:List V}{us:cx}(r:Vals xs us):xs.length=us.length:=Paired.length r
theorem Vals.get:∀{xs:List V}{us:cx}{i:Nat}{x:V},Vals xs us->xs[i]? =some x->∃u,us[i]? =some u/\RelV x u
 |_,_,_,_,.nil,e=>by simp at e
 |_,_,0,_,.cons r _,e=>by simp at e;subst e;exact⟨_,rfl,r⟩
 |_,_,i+1,x,.cons _ t,e=>by
  obtain⟨u,h1,h2⟩:=Vals.get (i:=i) (x:=x) t (by simpa using e)
  exact⟨u,by simpa using h1,h2⟩
theorem Vals.append:∀{xs ys:List V}{us ws:cx},Vals xs us->Vals ys ws->Vals (xs++ys) (us++ws)
 |_,_,_,_,.nil,s=>s
 |_,_,_,_,.cons r t,s=>.cons r (Vals.append t s)
theorem Vals.take:∀{xs:List V}{us:cx}(n:Nat),Vals xs us->Vals (xs.take n) (us.take n)
 |_,_,0,_=>.nil
 |_,_,_+1,.nil=>.nil
 |_,_,n+1,.cons r t=>.cons r (Vals.take n t)
theorem Vals.drop:∀{xs:List V}{us:cx}(n:Nat),Vals xs us->Vals (xs.drop n) (us.drop n)
 |_,_,0,r=>r
 |_,_,_+1,.nil=>.nil
 |_,_,n+1,.cons _ t=>Vals.drop n t
def qh:Option V->Option cy->Prop
 |some v,some u=>RelV v u
 |none,none=>True
 |_,_=>False
def KV {κ:Type}:List (κ×V)->List (κ×cy)->Prop:=Paired λ(p:κ×V) (q:κ×cy)=>p.1=q.1/\RelV p.2 q.2
def kV:Key->V
 |.inl i=>.int i
 |.inr x=>.str x
inductive HO where
 |lst (xs:List V)
 |tup (xs:List V)
 |dK (kvs:List (Key×V))|dT (kvs:List (List Key×V))
 |set (S:Int->Bool) (n:Nat)
 |ins (C dx:cF) (fs:List (Str×V))
 |own (x:cF)
 |xd (fs:List (Str×V))
 |met (f x:cF)
 |NP (lo hi:Int)
 |yD (o:Obj) (u:HO)
 |DJ (ps:Array cy)
 |ext (φ:Heap->Prop)
abbrev Hp:=cF->Option HO
def upd (H:Hp) (a:cF) (o:HO):Hp:=λb=>if b=a then some o else H b
theorem dc {H:Hp}{a:cF}{o:HO}:upd H a o a=some o:=by unfold upd;rw[if_pos rfl]
theorem cV {H:Hp}{a b:cF}{o:HO}(h:b≠a):upd H a o b=H b:=by unfold upd;rw[if_neg h]
theorem RJ {H:Hp}{a b:cF}{o u:HO}(h:H a=some o) (h':H b=some u) (d:o≠u):a≠b:=by
 intro e;subst e;rw[h]at h';exact d (aT h')
theorem cY {H:Hp}{a b:cF}{o:HO}(h:H a=some o) (h':H b=none):a≠b:=by
 intro e;subst e;rw[h]at h';cases h'
def yE (pos:Pos) (qual:Str):Array cy:=#[.int pos.line 0,.int pos.col 0,.str qual 0]
def zu (H:Hp) (h:Heap) (a:cF) (ps:Array cy):Prop:=
 ∃qs:Array cy,h.get? a=some {cls:=.none,data:=.fields qs}/\TriplesOk qs.toList/\∃pos qual more,ps=yE pos qual++more/\
  (codeAmong pos qs.toList=none\/∃c oc vs t,codeAmong pos qs.toList=some (.ref c)/\H c=some (.yD oc (.own 0))/\oc.data=.fields vs/\vs[1]? =some (.str qual t))
def GV (K:W.Frag) (mg:cm) (base:Heap) (H:Hp):Prop:=∀x c Pt pos qual,(x,pos,qual)∈vK->W.tabIn K x=some (c,Pt)->(∃more,H Pt=some (.DJ (yE pos qual++more)))/\W.CodeHd base c Pt/\base.BuiltinsAt mg Pt
section
variable (P:cB) (w:cC)
def gF (H:Hp) (h:Heap) (a:cF):HO->Prop
 |.lst xs=>xs.length<=sizeLine/\∃(dF:cx) (n:Nat),Vals xs dF/\h.get? a=some {cls:=.type "list",data:=.seq dF.toArray n}
 |.tup xs=>xs.length<=sizeLine/\∃dF:cx,Vals xs dF/\IsTup h a dF.toArray
 |.dK kvs=>kvs.length<=sizeLine/\(a==sysModules)=false/\∃vs,KV kvs vs/\h.DictOf (fy P w) a vs
 |.dT kvs=>kvs.length<=sizeLine/\(a==sysModules)=false/\∃xs:List (List Key×cF×cy),
   Paired (λ(p:List Key×V) (q:List Key×cF×cy)=>p.1=q.1/\H q.2.1=some (.tup (p.1.map kV))/\RelV p.2 q.2.2) kvs xs/\
   ∃o es ep,h.get? a=some o/\o.ExactDict/\o.data=.dict es ep/\es.toList=xs.map (entryOfKey (tupleKind (fy P w)))/\(xs.map (·.1)).Nodup
 |.set S n=>h.SetOf (intKind P w) a S n
 |.ins C dx fs=>H dx=some (.own a)/\fs.length<=1000/\dx≠a/\h.get? a=some (W.instObj C dx)/\
   ∃mA,h.Ns1 dx mA/\(∀f,qh (fs.lookup f) (mA f))/\PySem.Within mA (fs.map (·.1))
 |.own _=>∃o,h.get? a=some o
 |.xd fs=>∃mA,h.Ns1 a mA/\∀f,qh (fs.lookup f) (mA f)
 |.NP lo hi=>∃t u v,h.get? a=some {cls:=.type "range",data:=.fields #[.int lo t,.int hi u,.int 1 v]}
 |.yD o u=>h.get? a=some o/\gF H h a u
 |.DJ ps=>zu H h a ps
 |.met f x=>h.get? a=some (W.methodObj (.ref f) (.ref x))
 |.ext φ=>φ h/\(∃o,h.get? a=some o)/\∀h1 h2:Heap,φ h1->(∀o,h1.get? a=some o->h2.get? a=some o)->φ h2
def sd (H:Hp) (h:Heap):Prop:=∀a o,H a=some o->gF P w H h a o
end
section
variable {P:cB}{w:cC}{H H':Hp}{h h':Heap}{a:cF}{o:HO}
theorem gF.lt (x:gF P w H h a o):a<h.objs.size:=by
 cases o with
 |lst xs=>obtain⟨_,_,_,_,e⟩:=x;exact aB e
 |tup xs=>obtain⟨_,_,_,p⟩:=x;exact p.lt
 |dK kvs=>obtain⟨_,_,_,_,o,_,_,e,_⟩:=x;exact aB e
 |dT kvs=>obtain⟨_,_,_,_,o,_,_,e,_⟩:=x;exact aB e
 |set S n=>obtain⟨o,_,_,_,e,_⟩:=x;exact aB e
 |ins C dx fs=>obtain⟨_,_,_,e,_⟩:=x;exact aB e
 |own y=>obtain⟨_,e⟩:=x;exact aB e
 |xd fs=>obtain⟨_,⟨_,_,_,e,_⟩,_⟩:=x;exact aB e
 |NP lo hi=>obtain⟨_,_,_,e⟩:=x;exact aB e
 |yD ob u=>obtain⟨e,_⟩:=x;exact aB e
 |DJ ps=>obtain⟨_,e,_⟩:=(show zu H h a ps from x);exact aB e
 |met f y=>exact aB (show h.get? a=some _ from x)
 |ext φ=>obtain⟨_,⟨_,e⟩,_⟩:=x;exact aB e
theorem Paired.OP {α β:Type}{F G:α->β->Prop}:∀{l₁:List α}{l₂:List β},Paired F l₁ l₂->(∀a b,F a b->G a b)->Paired G l₁ l₂
 |_,_,.nil,_=>.nil
 |_,_,.cons r t,f=>.cons (f _ _ r) (Paired.OP t f)
theorem gF.An (x:gF P w H h a o) (k:∀b u,(b=a\/H b=some (.own a))->h.get? b=some u->h'.get? b=some u)
  (ho:∀b,H b=some (.own a)->H' b=some (.own a)) (ht:∀b xs,H b=some (.tup xs)->H' b=some (.tup xs)) (hz:∀b ob u,H b=some (.yD ob u)->H' b=some (.yD ob u):=by intro b ob u q;first|exact q|exact(cV (cY q (by assumption))).trans q):gF P w H' h' a o:=by
 induction o with
 |lst xs=>obtain⟨z,dF,n,r,e⟩:=x;exact⟨z,dF,n,r,k _ _ (.inl rfl) e⟩
 |tup xs=>obtain⟨z,dF,r,ob,e,c⟩:=x;exact⟨z,dF,r,ob,k _ _ (.inl rfl) e,c⟩
 |dK kvs=>obtain⟨z,y,vs,r,ob,es,ep,e,c⟩:=x;exact⟨z,y,vs,r,ob,es,ep,k _ _ (.inl rfl) e,c⟩
 |dT kvs=>
  obtain⟨z,y,xs,r,ob,es,ep,e,c⟩:=x;exact⟨z,y,xs,Paired.OP r λp q z=>⟨z.1,ht _ _ z.2.1,z.2.2⟩,ob,es,ep,k _ _ (.inl rfl) e,c⟩
 |set S n=>obtain⟨ob,es,ep,t,e,c⟩:=x;exact⟨ob,es,ep,t,k _ _ (.inl rfl) e,c⟩
 |ins C dx fs=>
  obtain⟨d,z,ne,e,mA,⟨od,es,ep,e2,c⟩,r⟩:=x;exact⟨ho _ d,z,ne,k _ _ (.inl rfl) e,mA,⟨od,es,ep,k _ _ (.inr d) e2,c⟩,r⟩
 |own y=>obtain⟨ob,e⟩:=x;exact⟨ob,k _ _ (.inl rfl) e⟩
 |xd fs=>obtain⟨mA,⟨od,es,ep,e,c⟩,r⟩:=x;exact⟨mA,⟨od,es,ep,k _ _ (.inl rfl) e,c⟩,r⟩
 |NP lo hi=>obtain⟨t,u,v,e⟩:=x;exact⟨t,u,v,k _ _ (.inl rfl) e⟩
 |yD ob u ih=>obtain⟨e,q⟩:=x;exact⟨k _ _ (.inl rfl) e,ih q⟩
 |DJ ps=>
  obtain⟨qs,e,tr,pos,qual,more,eq,r⟩:=(show zu H h a ps from x)
  exact⟨qs,k _ _ (.inl rfl) e,tr,pos,qual,more,eq,r.imp id λ⟨c,oc,vs,tt,q1,q2,q3⟩=>⟨c,oc,vs,tt,q1,hz _ _ _ q2,q3⟩⟩
 |met f y=>
  have e:h.get? a=some (W.methodObj (.ref f) (.ref y)):=x;show h'.get? a=some (W.methodObj (.ref f) (.ref y));exact k a _ (.inl rfl) e
 |ext φ=>obtain⟨p,⟨o,e⟩,st⟩:=x;exact⟨st _ _ p λo q=>k _ _ (.inl rfl) q,⟨o,k _ _ (.inl rfl) e⟩,st⟩
theorem sd.lt (x:sd P w H h) (e:H a=some o):a<h.objs.size:=(x a o e).lt
theorem sd.fresh (x:sd P w H h) (e:h.objs.size<=a):H a=none:=by
 cases q:H a with
 |none=>rfl
 |some u=>exact absurd (aw (x.lt q) e) (Nat.lt_irrefl _)
theorem sd.kept (x:sd P w H h) (k:∀b u,h.get? b=some u->h'.get? b=some u):sd P w H h':=λa o e=>
 (x a o e).An (λb u _ q=>k b u q) (λ_ q=>q) λ_ _ q=>q
theorem sd.laid (x:sd P w H h) (k:∀b u,h.get? b=some u->h'.get? b=some u) (hp:h.objs.size<=a) (new:gF P w (upd H a o) h' a o):sd P w (upd H a o) h':=λb u e=>by
 have hn:=x.fresh hp;by_cases hb:b=a
 ·subst hb;rw[dc]at e;cases e;exact new
 ·rw[cV hb]at e;exact(x b u e).An (λc v _ q=>k c v q) (λc q=>by rw[cV (cY q hn)];exact q) λc xs q=>by rw[cV (cY q hn)];exact q
end
def Rd (H:Hp) (a:cF) (u:HO):Prop:=H a=some u\/∃o,H a=some (.yD o u)
theorem Rd.ok {P:cB}{w:cC}{H:Hp}{h:Heap}{a:cF}{u:HO}(r:Rd H a u) (x:sd P w H h):gF P w H h a u:=by
 rcases r with r|⟨o,r⟩
 ·exact x a u r
 ·obtain⟨_,q⟩:=x a _ r;exact q
def RK:Option HO->Prop
 |some (.lst _)=>True
 |some (.dK _)=>True
 |some (.dT _)=>True
 |some (.set _ _)=>True
 |some (.ins _ _ _)=>True
 |some (.ext _)=>True
 |_=>False
section
variable {P:cB}{w:cC}{H:Hp}{h h':Heap}{x e:cF}{o':HO}
theorem sd.write (ok:sd P w H h) (mu:RK (H x)) (he:e=x\/H e=some (.own x)) (k:∀b u,b≠e->h.get? b=some u->h'.get? b=some u) (Rq:∃u,h'.get? e=some u)
  (new:gF P w (upd H x o') h' x o'):sd P w (upd H x o') h':=λb u q=>by
 have RL:∀c y,H c=some (.own y)->c≠x:=λc y r z=>by subst z;rw[r]at mu;exact mu
 have Va:∀c xs,H c=some (.tup xs)->c≠x:=λc xs r z=>by subst z;rw[r]at mu;exact mu
 by_cases hb:b=x
 ·subst hb;rw[dc]at q;cases q;exact new
 ·rw[cV hb]at q;by_cases OQ:b=e
  ·have q':H b=some (.own x):=by
    rcases he with z|z
    ·exact absurd (OQ.trans z) hb
    ·rw[OQ];exact z
   rw[q]at q';cases q';obtain⟨v,hv⟩:=Rq;exact⟨v,by rw[OQ];exact hv⟩
  ·refine(ok b u q).An (λc v hc r=>k c v ?_ r) (λc r=>by rw[cV (RL c b r)];exact r) (λc xs r=>by rw[cV (Va c xs r)];exact r) λc ob' u' r=>(cV (λz=>by subst z;rw[r]at mu;exact mu)).trans r
   rcases hc with rfl|hc
   ·exact OQ
   ·rintro rfl
    rcases he with z|z
    ·exact RL c b hc z
    ·rw[hc]at z;cases z;exact hb rfl
end
structure Un (fs ex:List cF) (H H':Hp) (h h':Heap):Prop where
 keep:∀b o,h.get? b=some o->H b=none->b∉fs->b∉ex->h'.get? b=some o
 slot:∀b o,h.get? b=some o->H b=none->b∈fs->b∉ex->∃sl,h'.get? b=some {o with slots:=sl}
 free:∀b o,h.get? b=some o->H b=none->b∉ex->H' b=none
 there:∀b o,h.get? b=some o->b∉ex->∃o',h'.get? b=some o'
 fY:∀b xs,H b=some (.tup xs)->H' b=some (.tup xs)
 Ao:∀b o u,H b=some (.yD o u)->H' b=some (.yD o u)
 yF:∀b ps,H b=some (.DJ ps)->∃more,H' b=some (.DJ (ps++more))
section
variable {fs ZN ex ex':List cF}{H H1 H2:Hp}{h h1 h2 h':Heap}{a x e:cF}{o:HO}
theorem Un.any (u:Un fs ex H H1 h h1) {b:cF}{ob:Obj}(q:h.get? b=some ob) (n:H b=none) (hx:b∉ex):∃sl,h1.get? b=some {ob with slots:=sl}:=by
 by_cases hb:b∈fs
 ·exact u.slot b ob q n hb hx
 ·exact⟨ob.slots,u.keep b ob q n hb hx⟩
theorem Un.kept (k:∀b u,h.get? b=some u->h'.get? b=some u):Un fs ex H H h h':=
 ⟨λb ob q _ _ _=>k b ob q,λb ob q _ _ _=>⟨ob.slots,k b ob q⟩,λ_ _ _ n _=>n,λb ob q _=>⟨ob,k b ob q⟩,λ_ _ q=>q,λ_ _ _ q=>q,λ_ ps q=>⟨#[],by rw[q];simp⟩⟩
theorem Un.refl:Un fs ex H H h h:=Un.kept λ_ _ q=>q
theorem Un.laid (k:∀b u,h.get? b=some u->h'.get? b=some u) (hp:h.objs.size<=a) (hn:H a=none):Un fs ex H (upd H a o) h h' where
 keep:=λb u q _ _ _=>k b u q
 slot:=λb u q _ _ _=>⟨u.slots,k b u q⟩
 free:=λb u q n _=>by rw[cV (aE (aw (aB q) hp))];exact n
 there:=λb u q _=>⟨u,k b u q⟩
 fY:=λb xs q=>by rw[cV (cY q hn)];exact q
 Ao:=λb u xs q=>by rw[cV (cY q hn)];exact q
 yF:=λb ps q=>⟨#[],by rw[cV (cY q hn),q];simp⟩
theorem Un.write (mu:RK (H x)) (he:e=x\/H e=some (.own x)) (k:∀b u,b≠e->h.get? b=some u->h'.get? b=some u) (Rq:∃u,h'.get? e=some u):Un fs ex H (upd H x o) h h':=by
 have hx:∀b,H b=none->b≠x:=λb n z=>by subst z;rw[n]at mu;exact mu
 have hb:∀b,H b=none->b≠e:=λb n z=>by
  subst z;rcases he with r|r
  ·exact hx b n r
  ·rw[n]at r;cases r
 have hm:∀b u,H b=some u->¬ RK (some u)->b≠x:=λb u q nm z=>by subst z;rw[q]at mu;exact nm mu
 refine⟨λb u q n _ _=>k b u (hb b n) q,λb u q n _ _=>⟨u.slots,k b u (hb b n) q⟩,λb u q n _=>by rw[cV (hx b n)];exact n,λb u q _=>?_,
  λb xs q=>by rw[cV (hm b _ q λz=>z)];exact q,λb u xs q=>by rw[cV (hm b _ q λz=>z)];exact q,λb ps q=>⟨#[],by rw[cV (hm b _ q λz=>z),q];simp⟩⟩
 by_cases OQ:b=e
 ·subst OQ;exact Rq
 ·exact⟨u,k b u OQ q⟩
end
def Ur (h:Heap) (H:Hp):List cF:=(List.range h.objs.size).filter λa=>(H a).isSome
def yG (h:Heap) (H:Hp):Heap:=W.hideAll h (Ur h H)
theorem GW (h:Heap) (H:Hp):(yG h H).objs.size=h.objs.size:=W.hideAll_size _ _
theorem IH {h:Heap}{H:Hp}{b:cF}{o:Obj}(e:h.get? b=some o) (n:H b=none):(yG h H).get? b=some o:=
 W.hideAll_get _ e λhm=>by
  have q:(H b).isSome=true:=(List.mem_filter.mp hm).2;rw[n]at q;simp at q
theorem LV {h:Heap}{H:Hp}{b:cF}{o:Obj}(e:(yG h H).get? b=some o):h.get? b=some o/\H b=none:=by
 have e':h.get? b=some o:=W.of_hideAll (Ur h H) e;refine⟨e',?_⟩;cases q:H b with
 |none=>rfl
 |some x=>
  have hm:b∈Ur h H:=List.mem_filter.mpr ⟨List.mem_range.mpr (aB e'),by simp[q]⟩
  have z:(yG h H).get? b=none:=W.hideAll_none (Ur h H) hm;rw[z]at e;cases e
def j0 (g h:Heap) (L:cF):cn:=(List.range h.objs.size).filterMap λa=>if a=L\/(g.get? a).isSome=true then none else(h.get? a).map λo=>(a,o)
theorem nL {g h:Heap}{L a:cF}{o:Obj}(h1:a≠L) (h2:g.get? a=none) (h3:h.get? a=some o):(a,o)∈j0 g h L:=
 List.mem_filterMap.mpr ⟨a,List.mem_range.mpr (aB h3),by simp[h1,h2,h3]⟩
theorem wB {g h:Heap}{L:cF}{p:cF×Obj}(hp:p∈j0 g h L):p.1≠L/\g.get? p.1=none/\h.get? p.1=some p.2:=by
 obtain⟨b,_,e⟩:=List.mem_filterMap.mp hp;split at e
 ·cases e
 ·rename_i hn;cases q:h.get? b with
  |none=>rw[q]at e;simp at e
  |some u=>
   rw[q]at e;simp only[bC,Option.some.injEq]at e;subst e;refine⟨λz=>hn (.inl z),?_,q⟩
   show g.get? b=none;cases r:g.get? b with
   |none=>rfl
   |some v=>exact(hn (.inr (by simp[r]))).elim
theorem wC {g h:Heap}{L:cF}:News g L h (j0 g h L):=λp hp=>let ⟨a,b,c⟩:=wB hp;⟨c,a,b⟩
end L2
namespace L2
open PySem PySem.Spec PyProof.Rows
structure Mod (K:W.Frag) (mg:cm) (base:Heap):Prop where
 RM:K.In base
 glob:base.Ns mainGlobals mg
 blt:∃mb,base.Ns builtinsNs mb/\∀x:Str,x≠"__name__"->mb x=bootBuiltins x
 nolimit:base.NoLimit
structure Cx where
 prog:cB
 w:cC
 K:W.Frag
 mg:cm
 base:Heap
 A:cD
 N:List Str
 s₀:cz
 H₀:Hp
 env:Env
 outer:List Env
 stack:List Env
 ex:List cF
 fn:Str->Bool
 calm:Bool
 pn:cn
 xe:ck
def Iw (l:List Env):List cF:=l.filterMap (·.frame)
abbrev Cx.fs (X:Cx):List cF:=Iw X.outer
def Rr (sc:Scope) (x:Str):Prop:=sc.names.lookup x=some .local\/sc.names.lookup x=some .cell\/sc.names.lookup x=some .free
def Loc (sc:Scope) (x:Str):Prop:=sc.names.lookup x=some .local\/sc.names.lookup x=some .cell
def Look (env:Env) (h:Heap) (m:cm) (x:Str) (u:cy):Prop:=
 (env.kindOf x=some .local/\m x=some u)\/((env.kindOf x=some .cell\/env.kindOf x=some .free)/\∃c,env.cells.lookup x=some c/\h.IsCell c (some u))
structure Cx.Ok (X:Cx):Prop where
 mod:Mod X.K X.mg X.base
 kind:X.env.scope.kind=.function
 glob:X.env.globals=mainGlobals
 blt:X.env.builtins=builtinsNs
 above:X.s₀.heap.objs.size<=X.env.locals
 inj:∀x y c,X.env.cells.lookup x=some c->X.env.cells.lookup y=some c->x=y
 has:∀x,(X.env.kindOf x=some .cell\/X.env.kindOf x=some .free)->∃c,X.env.cells.lookup x=some c
 RN:∀x c,X.fn x=true->X.env.cells.lookup x=some c->X.s₀.heap.objs.size<=c
 hd:X.calm=true->X.A.handled=none
 frames:X.A.frames=some X.stack
 Us:X.stack=X.outer\/(X.stack=X.env::X.outer/\X.env.frame=some X.env.locals)
 Xr:∀b∈X.ex,b≠X.env.locals/\∀x c,X.env.cells.lookup x=some c->c≠b
 bs:∀b o,X.base.get? b=some o->X.s₀.heap.get? b=some o/\X.H₀ b=none
 LL:X.base.objs.size<=X.s₀.heap.objs.size
 II:∀b o,X.base.get? b=some o->b∉X.ex
 LX:∀b∈X.ex,b∉X.fs
 vL:X.s₀.heap.FunFrames X.base X.outer
 OR:∀b∈X.fs,X.H₀ b=none
 tb:GV X.K X.mg X.base X.H₀
structure Inv (X:Cx) (pins:cn) (σ:List (Option V)) (H:Hp) (s:cz):Prop where
 ok:X.Ok
 os:s.os=X.s₀.os
 bare:AllBare s.gens
 base:Un X.fs X.ex X.H₀ H X.s₀.heap s.heap
 loc:∃m,s.heap.Ns X.env.locals m/\∀(i:Nat) (x:Str) (v:V),X.N[i]? =some x->σ[i]? =some (some v)->Rr X.env.scope x->∃u,RelV v u/\Look X.env s.heap m x u
 cell:∀x c,X.env.cells.lookup x=some c->∃v,s.heap.IsCell c v
 free:H X.env.locals=none
 qi:∀x c,X.env.cells.lookup x=some c->H c=none
 pin:∀p∈X.pn++pins,s.heap.get? p.1=some p.2/\H p.1=none/\p.1≠X.env.locals/\p.1∉X.fs/\∀v,p.2.data≠.cell v
 fX:sd X.prog X.w H s.heap
 len:σ.length=X.N.length
section
variable {X:Cx}{pins:cn}{σ:List (Option V)}{H H':Hp}{s:cz}{h':Heap}
theorem Cx.Ok.Vb (ok:X.Ok) {b:cF}{o:Obj}(e:X.base.get? b=some o):b∉X.fs:=λhb=>by
 have:=(ok.vL.mem hb).1;rw[e]at this;cases this
theorem Inv.bs (I:Inv X pins σ H s):∀b o,X.base.get? b=some o->s.heap.get? b=some o/\H b=none:=λb o e=>
 ⟨I.base.keep b o (I.ok.bs b o e).1 (I.ok.bs b o e).2 (I.ok.Vb e) (I.ok.II b o e),I.base.free b o (I.ok.bs b o e).1 (I.ok.bs b o e).2 (I.ok.II b o e)⟩
theorem Inv.bk (I:Inv X pins σ H s):∀b o,X.base.get? b=some o->s.heap.get? b=some o:=λb o e=>(I.bs b o e).1
theorem Inv.mod (I:Inv X pins σ H s):Mod X.K X.mg X.base:=I.ok.mod
theorem Inv.v8 (I:Inv X pins σ H s):X.K.In s.heap:=I.ok.mod.RM.keeps I.bk
theorem Inv.nolimit (I:Inv X pins σ H s):s.heap.NoLimit:=I.ok.mod.nolimit.keeps I.bk
theorem Inv.fr (I:Inv X pins σ H s):∃m,Fr X.base X.env.locals s.heap m:=
 let ⟨m,hn,_⟩:=I.loc
 ⟨m,hn,I.bk,aD I.ok.LL I.ok.above⟩
theorem Inv.lt (I:Inv X pins σ H s):X.env.locals<s.heap.objs.size:=let ⟨_,hn,_⟩:=I.loc;hn.lt
theorem Inv.sz (I:Inv X pins σ H s):X.s₀.heap.objs.size<=s.heap.objs.size:=aD I.ok.above (bh I.lt)
theorem Inv.Vc (I:Inv X pins σ H s) {a:cF}(h:s.heap.objs.size<=a):a∉X.fs:=λhb=>by
 obtain⟨_,o,ho,_⟩:=I.ok.vL.mem hb;exact absurd (aw (aB ho) (aD I.sz h)) (Nat.lt_irrefl _)
theorem Inv.OS (I:Inv X pins σ H s):∀x c,X.env.cells.lookup x=some c->c≠X.env.locals:=λx c e z=>by
 obtain⟨v,o,ho,hd⟩:=I.cell x c e;obtain⟨m,⟨o',es,ep,sI,NQ,_⟩,_⟩:=I.loc;rw[z,sI]at ho;cases ho;rw[NQ]at hd;cases hd
theorem Inv.vL (I:Inv X pins σ H s):s.heap.FunFrames X.base X.outer:=by
 have all:∀(l:List Env),(∀b∈Iw l,b∈X.fs)->X.s₀.heap.FunFrames X.base l->s.heap.FunFrames X.base l:=by
  intro l;induction l with
  |nil=>intro _ _;trivial
  |cons env r ih=>
   intro hs hl;obtain⟨hk,⟨L,o,hf,hn,ho,hd⟩,hr⟩:=hl;have hL:L∈X.fs:=hs L (by unfold Iw;rw[List.filterMap_cons,hf];exact af)
   obtain⟨sl,e⟩:=I.base.slot L o ho (I.ok.OR L hL) hL λz=>I.ok.LX L z hL
   exact⟨hk,⟨L,_,hf,hn,e,hd⟩,ih (λb hb=>hs b (by unfold Iw;rw[List.filterMap_cons,hf];exact ai _ hb)) hr⟩
 exact all X.outer (λ_ hb=>hb) I.ok.vL
theorem Inv.stack (I:Inv X pins σ H s):s.heap.FunFrames X.base X.stack:=by
 rcases I.ok.Us with e|⟨e,hf⟩
 ·rw[e];exact I.vL
 ·rw[e];obtain⟨m,hn,_⟩:=I.loc;refine .cons (by rw[I.ok.kind];decide) hf hn ?_ I.vL
  exact Heap.get?_none_of_le (aD I.ok.LL I.ok.above)
theorem Inv.Ap (I:Inv X pins σ H s):∀b∈Iw X.stack,b∈X.env.locals::X.fs:=λb hb=>by
 rcases I.ok.Us with e|⟨e,hf⟩
 ·rw[e]at hb;exact ai _ hb
 ·rw[e]at hb;unfold Iw at hb;rw[List.filterMap_cons,hf]at hb;exact hb
theorem Inv.Fp (I:Inv X pins σ H s):∀b∈Iw X.stack,H b=none:=λb hb=>by
 rcases List.mem_cons.mp (I.Ap b hb)with e|hb
 ·rw[e];exact I.free
 ·obtain⟨_,o,ho,_⟩:=I.ok.vL.mem hb;exact I.base.free b o ho (I.ok.OR b hb) λz=>I.ok.LX b z hb
theorem Inv.step {g':Array GenState}{t':Nat}{d':Drawn}{ch:List cF}(I:Inv X pins σ H s)
  (LM:∀b∈ch,(b∈X.ex\/X.s₀.heap.objs.size<=b)/\b≠X.env.locals/\(∀x c,X.env.cells.lookup x=some c->c≠b)/\∀p∈X.pn++pins,p.1≠b)
  (keep:∀b o,b≠X.env.locals->b∉X.fs->b∉ch->s.heap.get? b=some o->H b=none->h'.get? b=some o)
  (slot:∀b o,b≠X.env.locals->b∈X.fs->b∉ch->s.heap.get? b=some o->H b=none->∃sl,h'.get? b=some {o with slots:=sl}) (free:∀b o,b∉ch->s.heap.get? b=some o->H b=none->H' b=none)
  (there:∀b o,b∉ch->s.heap.get? b=some o->∃o',h'.get? b=some o')
  (fY:∀b xs,H b=some (.tup xs)->H' b=some (.tup xs)) (Ao:∀b o u,H b=some (.yD o u)->H' b=some (.yD o u)) (yF:∀b ps,H b=some (.DJ ps)->∃more,H' b=some (.DJ (ps++more)))
  (ns:∀m,s.heap.Ns X.env.locals m->h'.Ns X.env.locals m) (fX:sd X.prog X.w H' h') (hg:AllBare g'):
  Inv X pins σ H' {s with heap:=h',gens:=g',drawn:=d',toks:=t'}:=by
 have Xs:∀b o,X.s₀.heap.get? b=some o->b≠X.env.locals:=λb o e=>aE (aw (aB e) I.ok.above)
 have Ut:∀b o,X.s₀.heap.get? b=some o->b∉X.ex->b∉ch:=λb o e hx hb=>by
  rcases(LM b hb).1 with z|z
  ·exact hx z
  ·exact absurd (aw (aB e) z) (Nat.lt_irrefl _)
 have cellK:∀x c,X.env.cells.lookup x=some c->∀v,s.heap.IsCell c v->h'.IsCell c v:=λx c e v ⟨o,ho,hd⟩=>by
  have RO:c∉ch:=λz=>(LM c z).2.2.1 x c e rfl
  by_cases hc:c∈X.fs
  ·obtain⟨sl,q⟩:=slot c o (I.OS x c e) hc RO ho (I.qi x c e);exact⟨_,q,hd⟩
  ·exact⟨o,keep c o (I.OS x c e) hc RO ho (I.qi x c e),hd⟩
 refine⟨I.ok,I.os,hg,⟨λb o e n hb hx=>?_,λb o e n hb hx=>?_,λb o e n hx=>?_,λb o e hx=>?_,λb xs e=>fY b xs (I.base.fY b xs e),λb o xs e=>Ao b o xs (I.base.Ao b o xs e),λb ps e=>?_⟩,?_,λx c e=>?_,?_,λx c e=>?_,λp hp=>?_,fX,I.len⟩
 ·exact keep b o (Xs b o e) hb (Ut b o e hx) (I.base.keep b o e n hb hx) (I.base.free b o e n hx)
 ·obtain⟨sl,e1⟩:=I.base.slot b o e n hb hx;obtain⟨ZO,e2⟩:=slot b _ (Xs b o e) hb (Ut b o e hx) e1 (I.base.free b o e n hx);exact⟨ZO,e2⟩
 ·obtain⟨o',e1⟩:=I.base.there b o e hx;exact free b o' (Ut b o e hx) e1 (I.base.free b o e n hx)
 ·obtain⟨o',e1⟩:=I.base.there b o e hx;exact there b o' (Ut b o e hx) e1
 ·obtain⟨m1,e1⟩:=I.base.yF b ps e;obtain⟨m2,e2⟩:=yF b _ e1;exact⟨m1++m2,by rw[e2,Array.append_assoc]⟩
 ·obtain⟨m,hn,hl⟩:=I.loc;refine⟨m,ns m hn,λi x v e1 e2 e3=>?_⟩
  obtain⟨u,r,l⟩:=hl i x v e1 e2 e3;refine⟨u,r,?_⟩;rcases l with l|⟨k,c,e,z⟩
  ·exact .inl l
  ·exact .inr ⟨k,c,e,cellK x c e _ z⟩
 ·obtain⟨v,z⟩:=I.cell x c e;exact⟨v,cellK x c e v z⟩
 ·obtain⟨m,⟨o,_,_,ho,_⟩,_⟩:=I.loc;exact free _ o (λz=>(LM _ z).2.1 rfl) ho I.free
 ·obtain⟨v,o,ho,hd⟩:=I.cell x c e;exact free c o (λz=>(LM c z).2.2.1 x c e rfl) ho (I.qi x c e)
 ·obtain⟨e,n,ne,nf,d⟩:=I.pin p hp;have RO:p.1∉ch:=λz=>(LM p.1 z).2.2.2 p hp rfl
  exact⟨keep p.1 p.2 ne nf RO e n,free p.1 p.2 RO e n,ne,nf,d⟩
theorem Inv.un {t':Nat}(I:Inv X pins σ H s) (u:Un X.fs [] H H' s.heap h') (fX:sd X.prog X.w H' h'):Inv X pins σ H' {s with heap:=h',toks:=t'}:=by
 obtain⟨m,⟨o,es,ep,ho,r⟩,_⟩:=id I.loc;obtain⟨sl,hL⟩:=u.any ho I.free (by simp)
 exact I.step (g':=s.gens) (d':=s.drawn) (ch:=[]) (λ_ z=>nomatch z) (λb o _ hb _ e n=>u.keep b o e n hb (by simp)) (λb o _ hb _ e n=>u.slot b o e n hb (by simp)) (λb o _ e n=>u.free b o e n (by simp)) (λb o _ e=>u.there b o e (by simp)) u.fY u.Ao u.yF (λm' hm=>by
  obtain⟨o',Fq,OT,sI,r'⟩:=hm;rw[ho]at sI;cases sI;exact⟨_,Fq,OT,hL,r'⟩) fX I.bare
theorem Inv.call {g':Array GenState}{t':Nat}{d':Drawn}{ch:List cF}(I:Inv X pins σ H s) (u:Un (Iw X.stack) ch H H' s.heap h') (fX:sd X.prog X.w H' h') (hg:AllBare g')
  (LM:∀b∈ch,(b∈X.ex\/X.s₀.heap.objs.size<=b)/\b≠X.env.locals/\(∀x c,X.env.cells.lookup x=some c->c≠b)/\∀p∈X.pn++pins,p.1≠b):
  Inv X pins σ H' {s with heap:=h',gens:=g',drawn:=d',toks:=t'}:=by
 obtain⟨m,⟨o,es,ep,ho,r⟩,_⟩:=id I.loc;obtain⟨sl,hL⟩:=u.any ho I.free λz=>(LM _ z).2.1 rfl
 exact I.step (ch:=ch) LM (λb o hL hb hc e n=>u.keep b o e n (λz=>(List.mem_cons.mp (I.Ap b z)).elim hL hb) hc) (λb o _ _ hc e n=>u.any e n hc) (λb o hc e n=>u.free b o e n hc) (λb o hc e=>u.there b o e hc) u.fY u.Ao u.yF (λm' hm=>by
  obtain⟨o',Fq,OT,sI,r'⟩:=hm;rw[ho]at sI;cases sI;exact⟨_,Fq,OT,hL,r'⟩) fX hg
theorem Inv.turned {t':Nat}{it:cF}(I:Inv X pins σ H s) (k:∀b o,b≠it->s.heap.get? b=some o->h'.get? b=some o) (hn:H it=none) (hL:it≠X.env.locals)
  (h1:it∈X.ex\/X.s₀.heap.objs.size<=it) (h2:∀x c,X.env.cells.lookup x=some c->c≠it) (h3:∀p∈X.pn++pins,p.1≠it):Inv X pins σ H {s with heap:=h',toks:=t'}:=by
 have Xu:∀b u,H b=some u->b≠it:=λb u e z=>by rw[z,hn]at e;cases e
 refine I.step (g':=s.gens) (d':=s.drawn) (ch:=[it]) (λb hb=>?_) (λb o _ _ hc e _=>k b o (λz=>hc (by simp[z])) e) (λb o _ _ hc e _=>⟨o.slots,k b o (λz=>hc (by simp[z])) e⟩) (λ_ _ _ _ n=>n)
  (λb o hc e=>⟨o,k b o (λz=>hc (by simp[z])) e⟩) (λ_ _ e=>e) (λ_ _ _ e=>e) (λb ps e=>⟨#[],by rw[e];simp⟩) (λm hm=>?_) (λb u e=>?_) I.bare
 ·have e:b=it:=by simpa using hb
  subst e;exact⟨h1,hL,h2,h3⟩
 ·obtain⟨o,es,ep,ho,r⟩:=hm;exact⟨o,es,ep,k _ o (Ne.symm hL) ho,r⟩
 ·refine(I.fX b u e).An (λc v hc q=>k c v ?_ q) (λ_ q=>q) λ_ _ q=>q
  rcases hc with z|z
  ·rw[z];exact Xu b u e
  ·exact Xu c _ z
theorem Inv.tok (I:Inv X pins σ H s) (t:Nat):Inv X pins σ H {s with toks:=t}:=I.un (h':=s.heap) (t':=t) Un.refl I.fX
theorem Inv.kept {t':Nat}(I:Inv X pins σ H s) (k:∀b u,s.heap.get? b=some u->h'.get? b=some u):Inv X pins σ H {s with heap:=h',toks:=t'}:=I.un (Un.kept k) (I.fX.kept k)
theorem Inv.laid {a:cF}{o:HO}{t':Nat}(I:Inv X pins σ H s) (k:∀b u,s.heap.get? b=some u->h'.get? b=some u) (hp:s.heap.objs.size<=a) (new:gF X.prog X.w (upd H a o) h' a o):
  Inv X pins σ (upd H a o) {s with heap:=h',toks:=t'}:=I.un (Un.laid k hp (I.fX.fresh hp)) (I.fX.laid k hp new)
theorem Inv.write {x e:cF}{o:HO}{t':Nat}(I:Inv X pins σ H s) (mu:RK (H x)) (he:e=x\/H e=some (.own x)) (k:∀b u,b≠e->s.heap.get? b=some u->h'.get? b=some u) (Rq:∃u,h'.get? e=some u)
  (new:gF X.prog X.w (upd H x o) h' x o):Inv X pins σ (upd H x o) {s with heap:=h',toks:=t'}:=I.un (Un.write mu he k Rq) (I.fX.write mu he k Rq new)
theorem Inv.weak {σ':List (Option V)}(I:Inv X pins σ H s) (hl:σ'.length=σ.length) (w:∀(i:Nat) v,σ'[i]? =some (some v)->σ[i]? =some (some v)):Inv X pins σ' H s:=
 ⟨I.ok,I.os,I.bare,I.base,let ⟨m,hn,jk⟩:=I.loc;⟨m,hn,λi x v e1 e2 e3=>jk i x v e1 (w i v e2) e3⟩,I.cell,I.free,I.qi,I.pin,I.fX,hl.trans I.len⟩
theorem Inv.Fs {NR:cn}(I:Inv X pins σ H s) (h:∀p∈NR,s.heap.get? p.1=some p.2/\H p.1=none/\p.1≠X.env.locals/\p.1∉X.fs/\∀v,p.2.data≠.cell v):Inv X NR σ H s:=
 ⟨I.ok,I.os,I.bare,I.base,I.loc,I.cell,I.free,I.qi,λp hp=>(List.mem_append.mp hp).elim (λz=>I.pin p (bE _ z)) (h p),I.fX,I.len⟩
theorem wD {N:List Str}(hN:N.Nodup) {i j:Nat}{x:Str}(a:N[i]? =some x) (b:N[j]? =some x):i=j:=by
 obtain⟨h1,e1⟩:=List.getElem?_eq_some_iff.mp a;obtain⟨h2,e2⟩:=List.getElem?_eq_some_iff.mp b;exact(List.getElem_inj hN).mp (e1.trans e2.symm)
theorem zv {M:Model}{A:cD}{E:ck}{i:Nat}{x:Str}{v:V}{u:cy}{Q:Unit->cz->Prop}(I:Inv X pins σ H s) (hN:X.N.Nodup) (hi:X.N[i]? =some x) (hx:Loc X.env.scope x) (r:RelV v u)
  (h:∀s',Inv X pins (σ.set i (some v)) H s'->(∃a,Heap.SameBut a s.heap s'.heap/\(a=X.env.locals\/X.env.cells.lookup x=some a))->Q () s') (hf:X.fn x=true\/X.env.scope.names.lookup x=some .local:=by first|exact .inl rfl|exact .inr rfl|assumption):wpAny M A (storeName X.env x u) Q E s:=by
 obtain⟨m,hn,hl⟩:=id I.loc;have Vd:(X.env.scope.kind==.class||(X.env.scope.kind==.module&&X.env.locals !=X.env.globals))=false:=by rw[I.ok.kind];rfl
 have hiσ:i<σ.length:=by rw[I.len];exact(List.getElem?_eq_some_iff.mp hi).1
 have OS:=I.OS;have tracked:∀{a:cF}{h':Heap},(∃o,s.heap.get? a=some o/\H a=none)->Heap.SameBut a s.heap h'->sd X.prog X.w H h':=λ{a h'} ha hs b ob e=>by
  obtain⟨_,_,NS⟩:=ha;refine(I.fX b ob e).An (λc w' hc q=>(hs.2 c ?_).trans q) (λ_ q=>q) λ_ _ q=>q
  rintro rfl
  rcases hc with rfl|hc
  ·rw[NS]at e;cases e
  ·rw[NS]at hc;cases hc
 rcases hx with hk|hk
 ·refine wpAny_storeName_local hk hn (λh' Aq hs=>?_) Vd
  obtain⟨oL,_,_,Ft,_⟩:=id hn;refine h _ ⟨I.ok,I.os,I.bare,⟨λb o e n hb hx=>?_,λb o e n hb hx=>?_,I.base.free,λb o e hx=>?_,I.base.fY,I.base.Ao,I.base.yF⟩,⟨_,Aq,λj y v' e1 e2 e3=>?_⟩,λy c e=>?_,I.free,I.qi,λp hp=>?_,tracked ⟨oL,Ft,I.free⟩ hs,by simpa using I.len⟩ ⟨_,hs,.inl rfl⟩
  ·exact(hs.2 b (aE (aw (aB e) I.ok.above))).trans (I.base.keep b o e n hb hx)
  ·obtain⟨sl,e1⟩:=I.base.slot b o e n hb hx;exact⟨sl,(hs.2 b (aE (aw (aB e) I.ok.above))).trans e1⟩
  ·obtain⟨o',e1⟩:=I.base.there b o e hx;exact⟨o',(hs.2 b (aE (aw (aB e) I.ok.above))).trans e1⟩
  ·by_cases hj:j=i
   ·subst hj;rw[hi]at e1;cases e1;rw[bf hiσ]at e2;cases e2;exact⟨u,r,.inl ⟨hk,by simp⟩⟩
   ·rw[aG (Ne.symm hj)]at e2;obtain⟨u',r',q⟩:=hl j y v' e1 e2 e3;refine⟨u',r',?_⟩;rcases q with⟨k,e⟩|⟨k,c,e,z⟩
    ·refine .inl ⟨k,?_⟩;have:y≠x:=λe=>hj (wD hN e1 (e▸hi))
     simp[this,e]
    ·exact .inr ⟨k,c,e,z.sameBut hs (OS y c e)⟩
  ·obtain⟨w',z⟩:=I.cell y c e;exact⟨w',z.sameBut hs (OS y c e)⟩
  ·obtain⟨e,n,ne,nf,d⟩:=I.pin p hp;exact⟨(hs.2 p.1 ne).trans e,n,ne,nf,d⟩
 ·have NT:X.fn x=true:=by
   rcases hf with z|z
   ·exact z
   ·rw[z]at hk;cases hk
  obtain⟨c,hc⟩:=I.ok.has x (.inl hk);obtain⟨w',z⟩:=I.cell x c hc;refine wpAny_storeName_cell I.ok.kind hk hc z (λh' uG hs=>?_)
  obtain⟨oc,Rt,Ve⟩:=id z;refine h {s with heap:=h'} ⟨I.ok,I.os,I.bare,⟨λb o e n hb hx=>?_,λb o e n hb hx=>?_,I.base.free,λb o e hx=>?_,I.base.fY,I.base.Ao,I.base.yF⟩,⟨m,hn.sameBut hs (Ne.symm (OS x c hc)),λj y v' e1 e2 e3=>?_⟩,λy c' e=>?_,I.free,I.qi,λp hp=>?_,tracked ⟨oc,Rt,I.qi x c hc⟩ hs,by simpa using I.len⟩ ⟨c,hs,.inr hc⟩
  ·exact(hs.2 b (aE (aw (aB e) (I.ok.RN x c NT hc)))).trans (I.base.keep b o e n hb hx)
  ·obtain⟨sl,e1⟩:=I.base.slot b o e n hb hx;exact⟨sl,(hs.2 b (aE (aw (aB e) (I.ok.RN x c NT hc)))).trans e1⟩
  ·obtain⟨o',e1⟩:=I.base.there b o e hx;exact⟨o',(hs.2 b (aE (aw (aB e) (I.ok.RN x c NT hc)))).trans e1⟩
  ·by_cases hj:j=i
   ·subst hj;rw[hi]at e1;cases e1;rw[bf hiσ]at e2;cases e2;exact⟨u,r,.inr ⟨.inl hk,c,hc,uG⟩⟩
   ·rw[aG (Ne.symm hj)]at e2;obtain⟨u',r',q⟩:=hl j y v' e1 e2 e3;refine⟨u',r',?_⟩;rcases q with q|⟨k,c',e,z'⟩
    ·exact .inl q
    ·refine .inr ⟨k,c',e,z'.sameBut hs ?_⟩
     rintro rfl
     exact hj (wD hN e1 (I.ok.inj _ _ _ e hc▸hi))
  ·by_cases Ru:c'=c
   ·subst Ru;exact⟨_,uG⟩
   ·obtain⟨w2,z2⟩:=I.cell y c' e;exact⟨w2,z2.sameBut hs Ru⟩
  ·obtain⟨e,n,ne,nf,d⟩:=I.pin p hp;refine⟨(hs.2 p.1 ?_).trans e,n,ne,nf,d⟩;intro q;rw[q,Rt]at e;have q':oc=p.2:=aT e;exact d w' (by rw[<-q'];exact Ve)
theorem wF {M:Model}{A:cD}{E:ck}{i:Nat}{x:Str}{v:V}{u:cy}{Q:Unit->cz->Prop}(I:Inv X pins σ H s) (hN:X.N.Nodup) (hi:X.N[i]? =some x) (hx:Loc X.env.scope x) (r:RelV v u)
  (h:∀s',Inv X pins (σ.set i (some v)) H s'->Q () s') (hf:X.fn x=true\/X.env.scope.names.lookup x=some .local:=by first|exact .inl rfl|exact .inr rfl|assumption):wpAny M A (storeName X.env x u) Q E s:=
 zv I hN hi hx r (λs' I' _=>h s' I') hf
theorem Inv.RP {s':cz}{ch:List cF}(I:Inv X pins σ H s) (ho:s'.os=s.os) (u:Un (Iw X.stack) ch H H' s.heap s'.heap) (fX:sd X.prog X.w H' s'.heap) (hg:AllBare s'.gens)
  (LM:∀b∈ch,(b∈X.ex\/X.s₀.heap.objs.size<=b)/\b≠X.env.locals/\(∀x c,X.env.cells.lookup x=some c->c≠b)/\∀p∈X.pn++pins,p.1≠b):Inv X pins σ H' s':=by
 obtain⟨h',g',d',t',o'⟩:=s';have e:o'=s.os:=ho;subst e;exact I.call (g':=g') (t':=t') (d':=d') u fX hg LM
end
abbrev XK:=cy->cu->Hp->Prop
abbrev St:=List (Option V)
abbrev VK:=V->Hp->Prop
abbrev TE:=St->Hp->VK->Prop
abbrev TT:=St->Hp->(Bool->Hp->Prop)->Prop
abbrev TA:=St->Hp->(List V->Hp->Prop)->Prop
structure Ends where
 nx:St->Hp->Prop
 rt:VK
 bk:St->Hp->Prop:=λ_ _=>False
 ct:St->Hp->Prop:=λ_ _=>False
abbrev TS:=Ends->St->Hp->Prop
def EP (X:Cx) (pins:cn) (σ:St) (Q:VK) (u:cy) (s':cz):Prop:=∃v H',Inv X pins σ H' s'/\RelV v u/\Q v H'
def TP (X:Cx) (pins:cn) (σ:St) (Q:Bool->Hp->Prop) (b:Bool) (s':cz):Prop:=∃H',Inv X pins σ H' s'/\Q b H'
def AP (X:Cx) (pins:cn) (σ:St) (Q:List V->Hp->Prop) (us:cx) (s':cz):Prop:=∃vs H',Inv X pins σ H' s'/\Vals vs us/\Q vs H'
def SP (X:Cx) (pins:cn) (D:Ends) (f:Flow) (s':cz):Prop:=
 match f with
 |.next=>∃σ' H',Inv X pins σ' H' s'/\D.nx σ' H'
 |.brk=>∃σ' H',Inv X pins σ' H' s'/\D.bk σ' H'
 |.cont=>∃σ' H',Inv X pins σ' H' s'/\D.ct σ' H'
 |.ret u=>∃v σ' H',Inv X pins σ' H' s'/\RelV v u/\D.rt v H'
def PE (X:Cx) (e:cG) (t:TE):Prop:=
 ∀(pins:cn) (s:cz) (σ:St) (H:Hp) (Q:VK),Inv X pins σ H s->t σ H Q->wpAny (model X.prog X.w) X.A (eval e X.env) (EP X pins σ Q) X.xe s
def PT (X:Cx) (e:cG) (t:TT):Prop:=
 ∀(pins:cn) (s:cz) (σ:St) (H:Hp) (Q:Bool->Hp->Prop),Inv X pins σ H s->t σ H Q->wpAny (model X.prog X.w) X.A (isTrue e X.env (eval e X.env)) (TP X pins σ Q) X.xe s
def PW (X:Cx) (e:cG) (t:TT):Prop:=
 ∀(whole:Sem cy) (pins:cn) (s:cz) (σ:St) (H:Hp) (Q:Bool->Hp->Prop),Inv X pins σ H s->t σ H Q->wpAny (model X.prog X.w) X.A (isTrue e X.env whole) (TP X pins σ Q) X.xe s
theorem PW.pt {X:Cx}{e:cG}{t:TT}(h:PW X e t):PT X e t:=h _
def PA (X:Cx) (es:List cG) (t:TA):Prop:=
 ∀(pos:Pos) (pins:cn) (s:cz) (σ:St) (H:Hp) (Q:List V->Hp->Prop),Inv X pins σ H s->t σ H Q->wpAny (model X.prog X.w) X.A (spliced (backTo pos (starEach es X.env))) (AP X pins σ Q) X.xe s
def PS (X:Cx) (st:cH) (t:TS):Prop:=
 ∀(pins:cn) (s:cz) (σ:St) (H:Hp) (D:Ends),Inv X pins σ H s->t D σ H->wpAny (model X.prog X.w) X.A (exec st X.env) (SP X pins D) X.xe s
def yA (X:Cx) (st:List cH) (t:TS):Prop:=
 ∀(pins:cn) (s:cz) (σ:St) (H:Hp) (D:Ends),Inv X pins σ H s->t D σ H->wpAny (model X.prog X.w) X.A (execs st X.env) (SP X pins D) X.xe s
theorem iu {α:Type}{t:Sem α}{Q Q':α->cz->Prop}{M:Model}{A:cD}{E:ck}{s:cz}(h:wpAny M A t Q E s) (hQ:∀a s,Q a s->Q' a s):wpAny M A t Q' E s:=bR h hQ λ_ _ x=>x
end L2
namespace L2
open PySem PySem.Spec PyProof.Rows
section
variable {X:Cx}
def gI (i:Nat):TE:=λσ H Q=>∃v,σ[i]? =some (some v)/\Q v H
def tC (v:V):TE:=λ_ H Q=>Q v H
theorem DK {i:Nat}{x:Str}{pos:Pos}(hN:X.N[i]? =some x) (hv:Rr X.env.scope x) (hd:(x==("__debug__":Str))=false:=by decide) (yH:(x==("__classdict__":Str))=false:=by decide):PE X (.Name x pos) (gI i):=by
 intro pins s σ H Q I h;obtain⟨v,e,h⟩:=h;obtain⟨m,hn,hl⟩:=I.loc;obtain⟨u,r,l⟩:=hl i x v hN e hv;have fin:EP X pins σ Q u s:=⟨v,H,I,r,h⟩;rcases l with⟨hk,hm⟩|⟨hk,c,hc,sZ⟩
 ·exact wpAny_Name (wpAny_loadName_local I.ok.kind hk hn hm fin) hd
 ·rcases hk with hk|hk
  ·exact wpAny_Name (wpAny_loadName_cell I.ok.kind hk hc sZ fin) hd
  ·exact wpAny_Name (wpAny_loadName_free I.ok.kind hk hc sZ fin yH) hd
theorem DM {i j pos}:PE X (.Constant (.int i) j pos) (tC (.int i)):=λ_ _ _ H _ I h=>wpAny_Constant_int ⟨.int i,H,I.tok _,⟨_,rfl⟩,h⟩
theorem RQ {b j pos}:PE X (.Constant (.bool b) j pos) (tC (.bl b)):=λ_ _ _ H _ I h=>Constant_bool ⟨.bl b,H,I,rfl,h⟩
theorem OU {j pos}:PE X (.Constant .none j pos) (tC .eD):=λ_ _ _ H _ I h=>Constant_none ⟨.eD,H,I,rfl,h⟩
def Gl (X:Cx) (x:Str):Prop:=X.env.kindOf x=some .globalImplicit
theorem As {E:ck}{pins:cn}{s:cz}{σ:St}{H:Hp}{x:Str}{u:cy}{pos:Pos}{Q:ck}(I:Inv X pins σ H s) (hg:Gl X x) (hm:X.mg x=some u) (h:Q u s)
  (hd:(x==("__debug__":Str))=false:=by decide):wpAny (model X.prog X.w) X.A (eval (.Name x pos) X.env) Q E s:=
 Calls.Name_function_global I.ok.kind hg (Calls.loadGlobal_global (by rw[I.ok.glob];exact I.mod.glob.keeps I.bk) hm h) hd
theorem qj {E:ck}{pins:cn}{s:cz}{σ:St}{H:Hp}{x:Str}{u:cy}{pos:Pos}{Q:ck}(I:Inv X pins σ H s) (hg:Gl X x) (hm:X.mg x=none) (hv:bootBuiltins x=some u) (h:Q u s)
  (hn:x≠"__name__":=by decide) (hd:(x==("__debug__":Str))=false:=by decide):wpAny (model X.prog X.w) X.A (eval (.Name x pos) X.env) Q E s:=by
 obtain⟨mb,h1,h2⟩:=I.mod.blt;exact Calls.Name_function_global I.ok.kind hg (Calls.loadGlobal_builtin (by rw[I.ok.glob];exact I.mod.glob.keeps I.bk) hm (by rw[I.ok.blt];exact h1.keeps I.bk) ((h2 x hn).trans hv) h) hd
theorem LY {x:Str}{v:V}{u:cy}{pos:Pos}(hg:Gl X x) (hm:X.mg x=some u) (r:RelV v u) (hd:(x==("__debug__":Str))=false:=by decide):PE X (.Name x pos) (tC v):=
 λ_ _ _ H _ I h=>As I hg hm ⟨v,H,I,r,h⟩ hd
theorem LZ {x:Str}{v:V}{u:cy}{pos:Pos}(hg:Gl X x) (hm:X.mg x=none) (hv:bootBuiltins x=some u) (r:RelV v u) (hn:x≠"__name__":=by decide) (hd:(x==("__debug__":Str))=false:=by decide):PE X (.Name x pos) (tC v):=
 λ_ _ _ H _ I h=>qj I hg hm hv ⟨v,H,I,r,h⟩ hn hd
variable {a b:cG}{ta tb:TE}{pos:Pos}
def PC (X:Cx) (op:CmpOp) (a b:cG) (t:TE):Prop:=
 ∀(pins:cn) (s:cz) (σ:St) (H:Hp) (Q:VK),Inv X pins σ H s->t σ H Q->
  wpAny (model X.prog X.w) X.A (eval a X.env) (λv s₁=>wpAny (model X.prog X.w) X.A (eval b X.env) (λu s₂=>wpAny (model X.prog X.w) X.A (compareOp op v u) (EP X pins σ Q) X.xe s₂) X.xe s₁) X.xe s
def tB (t:TE):TT:=λσ H Q=>t σ H λx H1=>∃c,x=.bl c/\Q c H1
theorem OV {e:cG}{t:TE}(h:PE X e t) (he:∀whole,isTrue e X.env whole=(do let v <-whole;standAt e.pos;holding [v] (truthy v)):=by intro _;rfl):PT X e (tB t):=by
 intro pins s σ H Q I hw;refine isTrue_plain (iu (h pins s σ H _ I hw) λv s1 ⟨x,H1,I1,r1,q1⟩=>?_) (he _)
 obtain⟨d,rfl,q⟩:=q1;cases r1;exact bS ⟨H1,I1,q⟩
variable {tA Uu:TT}{rest:List cG}
def RS (t u:TT):TT:=λσ H Q=>t σ H λc H1=>if c=true then u σ H1 Q else Q false H1
def Xv (t u:TT):TT:=λσ H Q=>t σ H λc H1=>if c=true then Q true H1 else u σ H1 Q
def Vf (t:TT):TT:=λσ H Q=>t σ H λc H1=>Q (!c) H1
theorem L0 (ha:PT X a tA):PW X (.BoolOp .And [a] pos) tA:=by
 intro wh pins s σ H Q I h;refine isTrue_and (iu (ha pins s σ H Q I h) λc s1 e=>?_)
 cases c with
 |true=>exact isTrue_and_nil e
 |false=>exact e
theorem OW (ha:PT X a tA):PW X (.BoolOp .Or [a] pos) tA:=by
 intro wh pins s σ H Q I h;refine isTrue_or (iu (ha pins s σ H Q I h) λc s1 e=>?_)
 cases c with
 |false=>exact isTrue_or_nil e
 |true=>exact e
theorem OX (ha:PT X a tA) (hb:PW X (.BoolOp .And (b::rest) pos) Uu):PW X (.BoolOp .And (a::b::rest) pos) (RS tA Uu):=by
 intro wh pins s σ H Q I h;refine isTrue_and (iu (ha pins s σ H _ I h) λc s1 ⟨H1,I1,q1⟩=>?_)
 cases c with
 |true=>exact hb wh pins s1 σ H1 Q I1 q1
 |false=>exact⟨H1,I1,q1⟩
theorem RT (ha:PT X a tA) (hb:PW X (.BoolOp .Or (b::rest) pos) Uu):PW X (.BoolOp .Or (a::b::rest) pos) (Xv tA Uu):=by
 intro wh pins s σ H Q I h;refine isTrue_or (iu (ha pins s σ H _ I h) λc s1 ⟨H1,I1,q1⟩=>?_)
 cases c with
 |true=>exact⟨H1,I1,q1⟩
 |false=>exact hb wh pins s1 σ H1 Q I1 q1
theorem OY (ha:PT X a tA):PT X (.UnaryOp .Not a pos) (Vf tA):=by
 intro pins s σ H Q I h;exact isTrue_not (ha pins s σ H (λc H1=>Q (!c) H1) I h)
def RU (ta tb:TE):TE:=λσ H Q=>ta σ H λx H1=>∃c,x=.bl c/\if c=true then tb σ H1 Q else Q (.bl false) H1
def RV (ta:TE):TE:=λσ H Q=>ta σ H λx H1=>∃c,x=.bl c/\Q (.bl (!c)) H1
theorem OZ {op} {t:TE}(h:PE X a t):PE X (.BoolOp op [a] pos) t:=λpins s σ H Q I hw=>BoolOp_one (h pins s σ H Q I hw)
theorem O0 (ha:PE X a ta) (hb:PE X (.BoolOp .And (b::rest) pos) tb):PE X (.BoolOp .And (a::b::rest) pos) (RU ta tb):=by
 intro pins s σ H Q I h;refine BoolOp_and (iu (ha pins s σ H _ I h) λv s1 ⟨x,H1,I1,r1,q1⟩=>?_)
 obtain⟨c,rfl,q1⟩:=q1;cases r1;refine bS ?_;cases c with
 |true=>exact hb pins s1 σ H1 Q I1 q1
 |false=>exact⟨.bl false,H1,I1,rfl,q1⟩
theorem O1 (ha:PE X a ta):PE X (.UnaryOp .Not a pos) (RV ta):=by
 intro pins s σ H Q I h;refine UnaryOp_ (iu (ha pins s σ H _ I h) λv s1 ⟨x,H1,I1,r1,q1⟩=>?_)
 obtain⟨c,rfl,q1⟩:=q1;cases r1;exact not_of (bS ⟨.bl (!c),H1,I1,rfl,q1⟩)
def ZP (t:TT) (ta tb:TE):TE:=λσ H Q=>t σ H λc H1=>if c=true then ta σ H1 Q else tb σ H1 Q
theorem IJ {c:cG}(hc:PT X c tA) (ha:PE X a ta) (hb:PE X b tb):PE X (.IfExp c a b pos) (ZP tA ta tb):=by
 intro pins s σ H Q I h;refine wpAny_IfExp (iu (hc pins s σ H _ I h) λd s1 ⟨H1,I1,q1⟩=>?_)
 cases d with
 |true=>exact ha pins s1 σ H1 Q I1 q1
 |false=>exact hb pins s1 σ H1 Q I1 q1
end
end L2
namespace L2
open PySem PySem.Spec PyProof.Rows
def qk (K:W.Frag) (H:Hp) (a:cF) (xs:List V):Prop:=
 Rd H a (.lst xs)\/
  ∃(o:Obj) (dF:Array cy) (n:Nat),K.lookup a=some o/\o.cls=.type "list"/\o.dict=none/\o.data=.seq dF n/\dF.size<=sizeLine/\Vals xs dF.toList
def jr (K:W.Frag) (H:Hp) (a:cF) (xs:List V):Prop:=
 Rd H a (.tup xs)\/
  ∃(o:Obj) (dF:Array cy) (n:Nat),K.lookup a=some o/\o.cls=.type "tuple"/\o.data=.seq dF n/\dF.size<=sizeLine/\Vals xs dF.toList
def Vg:cy->Option V
 |.none=>some .eD
 |.bool b=>some (.bl b)
 |.int i _=>some (.int i)
 |.str x _=>some (.str x)
 |.bytes b _=>some (.Rp b)
 |.float b _=>some (.OO b)
 |.ref a=>some (.ref a)
 |.type n=>some (.ty n)
 |_=>none
theorem RelV.abs {x:V}{u:cy}(r:RelV x u):Vg u=some x:=by
 cases x with
 |eD=>cases r;rfl
 |bl _=>cases r;rfl
 |int _=>obtain⟨t,rfl⟩:=r;rfl
 |str _=>obtain⟨t,rfl⟩:=r;rfl
 |Rp _=>obtain⟨t,rfl⟩:=r;rfl
 |OO _=>obtain⟨t,rfl⟩:=r;rfl
 |ref _=>cases r;rfl
 |ty _=>cases r;rfl
theorem RelV.inj {x y:V}{u:cy}(r:RelV x u) (q:RelV y u):x=y:=aT (r.abs.symm.trans q.abs)
theorem Vals.inj:∀{xs ys:List V}{us:cx},Vals xs us->Vals ys us->xs=ys
 |_,_,_,.nil,.nil=>rfl
 |_,_,_,.cons r t,.cons r' t'=>by rw[r.inj r',Vals.inj t t']
section
variable {X:Cx}{pins:cn}{σ:St}{H:Hp}{s:cz}{a:cF}{xs ys:List V}
theorem qk.of {K:W.Frag}(h:H a=some (.lst xs)):qk K H a xs:=.inl (.inl h)
theorem jr.of {K:W.Frag}(h:H a=some (.tup xs)):jr K H a xs:=.inl (.inl h)
theorem Inv.list (I:Inv X pins σ H s) (h:qk X.K H a xs):∃dF:cx,Vals xs dF/\PlainL s.heap a dF.toArray/\xs.length<=sizeLine:=by
 rcases h with h|⟨o,dF,n,hk,hc,hd,hs,hz,r⟩
 ·obtain⟨z,dF,n,r,e⟩:=h.ok I.fX;exact⟨dF,r,⟨_,n,e,rfl,rfl,rfl⟩,z⟩
 ·refine⟨dF.toList,r,⟨o,n,I.v8 a o hk,hc,hd,by simpa using hs⟩,?_⟩
  have e:=r.length;simp only[aO]at e;omega
theorem Inv.tuple (I:Inv X pins σ H s) (h:jr X.K H a xs):∃dF:cx,Vals xs dF/\IsTup s.heap a dF.toArray/\xs.length<=sizeLine:=by
 rcases h with h|⟨o,dF,n,hk,hc,hs,hz,r⟩
 ·obtain⟨z,dF,r,p⟩:=h.ok I.fX;exact⟨dF,r,p,z⟩
 ·refine⟨dF.toList,r,⟨o,I.v8 a o hk,hc,n,by simpa using hs⟩,?_⟩
  have e:=r.length;simp only[aO]at e;omega
theorem Inv.IK (I:Inv X pins σ H s) (h:qk X.K H a xs) (h':qk X.K H a ys):xs=ys:=by
 obtain⟨dF,r,⟨o,n,e,_,_,d⟩,_⟩:=I.list h;obtain⟨its',r',⟨o',n',e',_,_,d'⟩,_⟩:=I.list h';rw[e]at e';cases e';rw[d]at d';injection d' with d1 _
 have:dF=its':=by simpa using congrArg Array.toList d1
 subst this;exact r.inj r'
theorem Inv.GX (I:Inv X pins σ H s) (h:jr X.K H a xs) (h':jr X.K H a ys):xs=ys:=by
 obtain⟨dF,r,⟨o,e,_,n,d⟩,_⟩:=I.tuple h;obtain⟨its',r',⟨o',e',_,n',d'⟩,_⟩:=I.tuple h';rw[e]at e';cases e';rw[d]at d';injection d' with d1 _
 have:dF=its':=by simpa using congrArg Array.toList d1
 subst this;exact r.inj r'
end
abbrev Cx.yI (X:Cx) (E:ck):Cx:={X with xe:=E}
abbrev Cx.DE (X:Cx):Cx:=X.yI λ_ _=>False
theorem Cx.Ok.yI {X:Cx}(ok:X.Ok) (E:ck):(X.yI E).Ok:=
 ⟨ok.mod,ok.kind,ok.glob,ok.blt,ok.above,ok.inj,ok.has,ok.RN,ok.hd,ok.frames,ok.Us,ok.Xr,ok.bs,ok.LL,ok.II,ok.LX,ok.vL,ok.OR,ok.tb⟩
theorem Cx.Ok.ql {X:Cx}{E:ck}(ok:(X.yI E).Ok):X.Ok:=
 ⟨ok.mod,ok.kind,ok.glob,ok.blt,ok.above,ok.inj,ok.has,ok.RN,ok.hd,ok.frames,ok.Us,ok.Xr,ok.bs,ok.LL,ok.II,ok.LX,ok.vL,ok.OR,ok.tb⟩
section
variable {X:Cx}{pins:cn}{σ:St}{H:Hp}{s:cz}{E:ck}
theorem Inv.yI (I:Inv X pins σ H s) (E:ck):Inv (X.yI E) pins σ H s:=⟨I.ok.yI E,I.os,I.bare,I.base,I.loc,I.cell,I.free,I.qi,I.pin,I.fX,I.len⟩
theorem Inv.ql (I:Inv (X.yI E) pins σ H s):Inv X pins σ H s:=⟨I.ok.ql,I.os,I.bare,I.base,I.loc,I.cell,I.free,I.qi,I.pin,I.fX,I.len⟩
theorem SP.ql {D:Ends}{f:Flow}{s':cz}(h:SP (X.yI E) pins D f s'):SP X pins D f s':=by
 cases f with
 |next=>obtain⟨σ',H',I,q⟩:=h;exact⟨σ',H',I.ql,q⟩
 |brk=>obtain⟨σ',H',I,q⟩:=h;exact⟨σ',H',I.ql,q⟩
 |cont=>obtain⟨σ',H',I,q⟩:=h;exact⟨σ',H',I.ql,q⟩
 |ret u=>obtain⟨v,σ',H',I,r,q⟩:=h;exact⟨v,σ',H',I.ql,r,q⟩
theorem yA.DE {st:List cH}{t:TS}(h:yA X.DE st t):yA X st t:=λpins s σ H D I hw=>
 bR (h pins s σ H D (I.yI _) hw) (λ_ _ q=>q.ql) λ_ _ z=>False.elim z
end
section
variable {X:Cx}{st:cH}{rest:List cH}{t u:TS}{e:cG}{te:TE}{pos:Pos}
def RW:TS:=λD σ H=>D.nx σ H
def Vh (t u:TS):TS:=λD σ H=>t {D with nx:=u D} σ H
theorem Au:yA X [] RW:=λ_ _ σ H _ I h=>wpAny_execs_nil ⟨σ,H,I,h⟩
theorem qm (h1:PS X st t) (h2:yA X rest u):yA X (st::rest) (Vh t u):=by
 intro pins s σ H D I h;refine wpAny_execs_cons (iu (h1 pins s σ H {D with nx:=u D} I h) λf s1 q=>?_)
 cases f with
 |next=>
  obtain⟨σ',H',I',q⟩:=q;exact h2 pins s1 σ' H' D I' q
 |ret v=>exact q
 |brk=>exact q
 |cont=>exact q
theorem Fu (h1:PS X st t):yA X [st] t:=by
 intro pins s σ H D I h;refine wpAny_execs_cons (iu (h1 pins s σ H D I h) λf s1 q=>?_)
 cases f with
 |next=>exact wpAny_execs_nil q
 |ret v=>exact q
 |brk=>exact q
 |cont=>exact q
theorem Inv.quiet {pins:cn}{σ:St}{H:Hp}{s:cz}(I:Inv X pins σ H s):interactive X.env=false:=by simp[interactive,I.ok.kind]
def RX (te:TE):TS:=λD σ H=>te σ H λ_ H1=>D.nx σ H1
theorem Fv (he:PE X e te) (hs:swapsWith e none pos.line X.env=pure false:=by rfl):PS X (.Expr e pos) (RX te):=by
 intro pins s σ H D I h;exact wpAny_Expr_any (iu (he pins s σ H _ I h) λv s1 ⟨x,H1,I1,r1,q1⟩=>⟨σ,H1,I1,q1⟩) I.quiet hs
def Vi (te:TE):TS:=λD σ H=>te σ H D.rt
theorem O2 (he:PE X e te):PS X (.Return (some e) pos) (Vi te):=by
 intro pins s σ H D I h;exact wpAny_Return_some (iu (he pins s σ H _ I h) λv s1 ⟨x,H1,I1,r1,q1⟩=>⟨x,σ,H1,I1,r1,q1⟩)
def Vj (c:TT) (t u:TS):TS:=λD σ H=>c σ H λb H1=>if b=true then t D σ H1 else u D σ H1
theorem IL {c:cG}{a b:List cH}{tc:TT}(hc:PT X c tc) (ha:yA X a t) (hb:yA X b u):PS X (.If c a b pos) (Vj tc t u):=by
 intro pins s σ H D I h;refine wpAny_If (iu (hc pins s σ H _ I h) λd s1 ⟨H1,I1,q1⟩=>?_)
 cases d with
 |true=>exact ha pins s1 σ H1 D I1 q1
 |false=>exact hb pins s1 σ H1 D I1 q1
end
abbrev TG:=V->St->Hp->(St->Hp->Prop)->Prop
abbrev NU:=List V->St->Hp->(St->Hp->Prop)->Prop
def PG (X:Cx) (target:cG) (t:TG):Prop:=
 ∀(pins:cn) (s:cz) (σ:St) (H:Hp) (v:V) (u:cy) (Q:St->Hp->Prop),Inv X pins σ H s->RelV v u->t v σ H Q->
  wpAny (model X.prog X.w) X.A (assign target X.env u) (λ_ s'=>∃σ' H',Inv X pins σ' H' s'/\Q σ' H') X.xe s
def NV (X:Cx) (ts:List cG) (t:NU):Prop:=
 ∀(pins:cn) (s:cz) (σ:St) (H:Hp) (vs:List V) (us:cx) (Q:St->Hp->Prop),Inv X pins σ H s->Vals vs us->t vs σ H Q->
  wpAny (model X.prog X.w) X.A (assignInOrder ((assignEach ts X.env).map (·.2)) us) (λ_ s'=>∃σ' H',Inv X pins σ' H' s'/\Q σ' H') X.xe s
abbrev L1:=V->V->V->Hp->(Hp->Prop)->Prop
def RY (X:Cx) (t:L1):Prop:=
 ∀(pins:cn) (s:cz) (σ:St) (H:Hp) (o i v:V) (ov iv u:cy) (Q:Hp->Prop),Inv X pins σ H s->RelV o ov->RelV i iv->RelV v u->t o i v H Q->
  wpAny (model X.prog X.w) X.A (setItem ov iv u) (λ_ s'=>∃H',Inv X pins σ H' s'/\Q H') X.xe s
section
variable {X:Cx}{pos:Pos}
def zw (i:Nat):TG:=λv σ H Q=>Q (σ.set i (some v)) H
theorem fz {i:Nat}{x:Str}(hN:X.N.Nodup) (hi:X.N[i]? =some x) (hx:Loc X.env.scope x) (hf:X.fn x=true\/X.env.scope.names.lookup x=some .local:=by first|exact .inl rfl|exact .inr rfl|assumption):PG X (.Name x pos) (zw i):=by
 intro pins s σ H v u Q I r h;exact wpAny_assign_Name (wF I hN hi hx r (λs' I'=>⟨_,H,I',h⟩) hf)
def RZ:NU:=λvs σ H Q=>vs=[]/\Q σ H
def NW (t:TG) (u:NU):NU:=λvs σ H Q=>∃v r,vs=v::r/\t v σ H λσ' H'=>u r σ' H' Q
theorem Av:NV X [] RZ:=by
 intro pins s σ H vs us Q I r h;obtain⟨e,h⟩:=h;subst e;cases r;exact assignInOrder_nil ⟨σ,H,I,h⟩
theorem oF {e:cG}{es:List cG}{t:TG}{u:NU}(h1:PG X e t) (h2:NV X es u)
  (hs:(assignEach (e::es) X.env).map (·.2)=assign e X.env::(assignEach es X.env).map (·.2):=by rfl):NV X (e::es) (NW t u):=by
 intro pins s σ H vs us Q I r h;obtain⟨v,vr,e1,h⟩:=h;subst e1;cases r with
 |cons r rr=>
  rw[hs];refine assignInOrder_cons (iu (h1 pins s σ H _ _ _ I r h) λ_ s1 ⟨σ1,H1,I1,q1⟩=>?_)
  exact h2 pins s1 σ1 H1 _ _ Q I1 rr q1
def kJ (K:W.Frag) (n:Nat) (t:NU):TG:=λv σ H Q=>∃a xs,v=.ref a/\jr K H a xs/\xs.length=n/\t xs σ H Q
theorem IM {es:List cG}{k:Nat}{t:NU}{n:Nat}(hc:X.calm=true) (h:NV X es t)
  (hn:(assignEach es X.env).length=n:=by rfl) (n5:(assignEach es X.env).findIdx? (·.1)=none:=by rfl):PG X (.Tuple es k pos) (kJ X.K n t):=by
 intro pins s σ H v u Q I r hw;obtain⟨a,xs,e1,hq,hl,hw⟩:=hw;subst e1;cases r;obtain⟨dF,rv,ht,hz⟩:=I.tuple hq;refine assign_Tuple_tuple (I.ok.hd hc) ht (by simp[hn,<-hl,rv.length]) n5 λh' hx=>?_
 have I1:Inv X pins σ H {s with heap:=h'}:=I.kept (t':=s.toks) λb o e=>hx b o (aE (aB e)) e
 exact h pins _ σ H xs _ Q I1 (by simpa using rv) hw
def Vk (to ti:TE) (t:L1):TG:=λv σ H Q=>to σ H λo H1=>ti σ H1 λi H2=>t o i v H2 λH3=>Q σ H3
theorem IP {o i:cG}{to ti:TE}{t:L1}(ho:PE X o to) (hi:PE X i ti) (hs:RY X t)
  (ha:∀v,assign (.Subscript o i pos) X.env v=(do
   let ov <-holding [v] (eval o X.env)
   let iv <-holding [v,ov] (eval i X.env)
   standAt pos
   holding [v,ov,iv] (setItem ov iv v)
   release [v,ov,iv] []):=by intro _;rfl):PG X (.Subscript o i pos) (Vk to ti t):=by
 intro pins s σ H v u Q I r h;rw[ha];refine aa (bp (iu (ho pins s σ H _ I h) λov s1 ⟨x,H1,I1,r1,q1⟩=>?_))
 refine aa (bp (iu (hi pins s1 σ H1 _ I1 q1) λiv s2 ⟨y,H2,I2,r2,q2⟩=>?_))
 refine aa (wpAny_standAt (aa (bp (iu (hs pins s2 σ H2 x y v ov iv u _ I2 r1 r2 r q2) λ_ s3 ⟨H3,I3,q3⟩=>?_))))
 exact wpAny_release ⟨σ,H3,I3,q3⟩
def R1 (te:TE) (g:TG):TS:=λD σ H=>te σ H λx H1=>g x σ H1 D.nx
theorem DN {tg e:cG}{te:TE}{g:TG}(he:PE X e te) (hg:PG X tg g) (hs:swapsWithSole [tg] e pos.line X.env=pure false:=by rfl) (hw:swappedStores [tg] e X.env=pure none:=by rfl)
  (h1:(assignEach [tg] X.env).map (·.2)=[assign tg X.env]:=by rfl):PS X (.Assign [tg] e pos) (R1 te g):=by
 intro pins s σ H D I h;refine wpAny_Assign_stores (iu (he pins s σ H _ I h) λv s1 ⟨x,H1,I1,r1,q1⟩=>?_) hs hw
 rw[h1];exact iu (hg pins s1 σ H1 x v _ I1 r1 q1) λ_ s2 q=>q
theorem wG {i:Nat}{x:Str}{e:cG}{te:TE}{pos':Pos}(hN:X.N.Nodup) (hi:X.N[i]? =some x) (hx:Loc X.env.scope x) (he:PE X e te) (hs:swapsWith e (some (.Name x pos')) pos.line X.env=pure false:=by rfl) (hf:X.fn x=true\/X.env.scope.names.lookup x=some .local:=by first|exact .inl rfl|exact .inr rfl|assumption):
  PS X (.Assign [.Name x pos'] e pos) (R1 te (zw i)):=by
 intro pins s σ H D I h;refine wpAny_Assign_Name (iu (he pins s σ H _ I h) λv s1 ⟨y,H1,I1,r1,q1⟩=>?_) hs
 exact wF I1 hN hi hx r1 (λs2 I2=>⟨_,H1,I2,q1⟩) hf
end
section
variable {X:Cx}{pos:Pos}
end
structure It where
 go:Nat->Hp->Prop
 NX:Nat->Hp->V->Hp->Prop
 stop:Nat->Hp->Prop
def BK (X:Cx) (pins:cn) (H:Hp) (b:cF):Prop:=
 H b=none/\b≠X.env.locals/\b∉X.fs/\(b∈X.ex\/X.s₀.heap.objs.size<=b)/\(∀x c,X.env.cells.lookup x=some c->c≠b)/\∀p∈X.pn++pins,p.1≠b
theorem Inv.IQ {X:Cx}{pins:cn}{σ:St}{H H':Hp}{s:cz}{b:cF}(I:Inv X pins σ H s) (hb:s.heap.objs.size<=b) (hn:H' b=none):BK X pins H' b:=by
 refine⟨hn,bz (aw I.lt hb),I.Vc hb,.inr (aD I.sz hb),λx c e z=>?_,λp hp z=>?_⟩
 ·obtain⟨v,q⟩:=I.cell x c e;exact absurd (aw q.lt (by rw[z];exact hb)) (Nat.lt_irrefl _)
 ·exact absurd (aw (aB (I.pin p hp).1) (by rw[z];exact hb)) (Nat.lt_irrefl _)
structure Turn (P:cB) (w:cC) (K:W.Frag) (tg:cG) (J:It) (fp:List cF) (it:cF) (tn:Nat->Heap->Prop):Prop where
 mem:it∈fp
 obj:∀i h,tn i h->∀b∈fp,∃o,h.get? b=some o/\∀v,o.data≠.cell v
 keep:∀i h h',tn i h->(∀b∈fp,∀o,h.get? b=some o->h'.get? b=some o)->tn i h'
 item:∀(X:Cx),X.prog=P->X.w=w->X.K=K->X.calm=true->∀(i:Nat) (pins:cn) (s:cz) (σ:St) (H:Hp) (E:ck),Inv X pins σ H s->(∀b∈fp,BK X pins H b)->tn i s.heap->J.go i H->
  wpAny (model P w) X.A (pyNext (.ref it)) (λr s1=>∃u,r=some u/\
   wpAny (model P w) X.A (letOwnedTupleGo tg (.ref it) u) (λ_ s2=>∃x H',Inv X pins σ H' s2/\RelV x u/\J.NX i H x H'/\tn (i+1) s2.heap/\∀b∈fp,H' b=none) E s1) E s
 done:∀(X:Cx),X.prog=P->X.w=w->X.K=K->X.calm=true->∀(i:Nat) (pins:cn) (s:cz) (σ:St) (H:Hp) (E:ck),Inv X pins σ H s->(∀b∈fp,BK X pins H b)->tn i s.heap->J.stop i H->
  wpAny (model P w) X.A (pyNext (.ref it)) (λr s1=>r=none/\Inv X pins σ H s1) E s
 self:∀(A:cD) (i:Nat) (s:cz) (Q:ck) (E:ck),tn i s.heap->Q (.ref it) s->wpAny (model P w) A (pyIter (.ref it)) Q E s
abbrev TI:=St->Hp->(It->Hp->Prop)->Prop
def Xw (X:Cx) (pins:cn) (σ:St) (tg:cG) (R:It->Hp->Prop) (Uv:cy) (s2:cz):Prop:=
 ∃(it:cF) (fp:List cF) (tn:Nat->Heap->Prop) (J:It) (H':Hp),Uv=.ref it/\Inv X pins σ H' s2/\Turn X.prog X.w X.K tg J fp it tn/\tn 0 s2.heap/\(∀b∈fp,BK X pins H' b)/\R J H'
def PI (X:Cx) (tg iter:cG) (wi:TI):Prop:=
 ∀(pins:cn) (s:cz) (σ:St) (H:Hp) (R:It->Hp->Prop),Inv X pins σ H s->wi σ H R->
  wpAny (model X.prog X.w) X.A (eval iter X.env) (λv s1=>wpAny (model X.prog X.w) X.A (pyIter v) (Xw X pins σ tg R) X.xe s1) X.xe s
theorem IS {M:Model}{A:cD}{E:ck}{s:cz}{tg:cG}{it:cF}{u:cy}{o:Obj}{n:String}{vs:Array cy}{Q:Unit->cz->Prop}(ho:s.heap.get? it=some o) (hc:o.cls=.type n) (hd:o.data=.fields vs)
  (hn:["enumerate","zip","dict_itemiterator","dict_reverseitemiterator","odict_iterator","itertools.zip_longest","itertools.pairwise"].contains n=false) (hQ:Q () s):wpAny M A (letOwnedTupleGo tg (.ref it) u) Q E s:=by
 unfold letOwnedTupleGo;cases tg<;>first
  |exact aj hQ
  |(cases u<;>first
    |exact aj hQ
    |(refine aa (wpAny_load ho ?_)
      rw[hc,hd];show wpAny M A (if(["enumerate","zip","dict_itemiterator","dict_reverseitemiterator","odict_iterator","itertools.zip_longest","itertools.pairwise"].contains n&&vs[0]? ==some (rawInt _))=true then _ else _) Q E s
      rw[if_neg (by intro h;rw[hn,Bool.false_and]at h;cases h)]
      exact aj hQ))
def Vl (K:W.Frag) (a:cF):It:=
 ⟨λi H=>∃xs x,qk K H a xs/\xs[i]? =some x,λi H x H'=>H'=H/\∀xs,qk K H a xs->xs[i]? =some x,λi H=>∃xs,qk K H a xs/\xs.length<=i⟩
def Vm (K:W.Frag) (a:cF):It:=
 ⟨λi H=>∃xs x,jr K H a xs/\xs[i]? =some x,λi H x H'=>H'=H/\∀xs,jr K H a xs->xs[i]? =some x,λi H=>∃xs,jr K H a xs/\xs.length<=i⟩
def Uw (lo:Int) (n:Nat):It:=⟨λi _=>i<n,λi H x H'=>H'=H/\x=.int (lo+i),λi _=>n<=i⟩
theorem GY {P:cB}{w:cC}{K:W.Frag}{tg:cG}(a it:cF):Turn P w K tg (Vl K a) [it] it (λi h=>h.IsListIter it a i)where
 mem:=by simp
 obj:=λi h st b hb=>by
  have e:b=it:=by simpa using hb
  subst e;obtain⟨o,e,c,d⟩:=st;exact⟨o,e,λv z=>by rw[d]at z;cases z⟩
 keep:=λi h h' st k=>st.at λo e=>k it (by simp) o e
 item:=by
  intro X hP hw hK hc i pins s σ H E I hf st hg;subst hP hw hK;obtain⟨xs,x,hq,hx⟩:=hg;obtain⟨dF,rv,p,hz⟩:=I.list hq;obtain⟨u,hu,ru⟩:=rv.get hx;obtain⟨f0,f1,f2,f3,f4,f5⟩:=hf it (by simp)
  refine wpAny_pyNext_list_item st p.isList (x:=u) (by simpa using hu) λh' NY sb=>?_
  have I1:Inv X pins σ H {s with heap:=h'}:=I.turned (t':=s.toks) (λb o hb e=>(sb.2 b hb).trans e) f0 f1 f3 f4 f5
  obtain⟨o,e,c,d⟩:=id NY;exact⟨u,rfl,IS (s:={s with heap:=h'}) e c d (by decide) ⟨x,H,I1,ru,⟨rfl,λys hy=>by rw[I.IK hy hq];exact hx⟩,NY,λb hb=>(hf b hb).1⟩⟩
 done:=by
  intro X hP hw hK hc i pins s σ H E I hf st hg;subst hP hw hK;obtain⟨xs,hq,hx⟩:=hg;obtain⟨dF,rv,p,hz⟩:=I.list hq;obtain⟨f0,f1,f2,f3,f4,f5⟩:=hf it (by simp)
  have hl:=rv.length;exact wpAny_pyNext_list_end (I.ok.hd hc) st p.isList (by simp;omega) λh' eb=>⟨rfl,I.turned (t':=s.toks) (λb o hb e=>eb b o hb e) f0 f1 f3 f4 f5⟩
 self:=λ_ _ _ _ _ st h=>wpAny_pyIter_listiter st h
theorem DO {P:cB}{w:cC}{K:W.Frag}{tg:cG}(a it:cF):Turn P w K tg (Vm K a) [it] it (λi h=>h.IsTupleIter it a i)where
 mem:=by simp
 obj:=λi h st b hb=>by
  have e:b=it:=by simpa using hb
  subst e;obtain⟨o,e,c,d⟩:=st;exact⟨o,e,λv z=>by rw[d]at z;cases z⟩
 keep:=λi h h' st k=>st.at λo e=>k it (by simp) o e
 item:=by
  intro X hP hw hK hc i pins s σ H E I hf st hg;subst hP hw hK;obtain⟨xs,x,hq,hx⟩:=hg;obtain⟨dF,rv,p,hz⟩:=I.tuple hq;obtain⟨u,hu,ru⟩:=rv.get hx;obtain⟨f0,f1,f2,f3,f4,f5⟩:=hf it (by simp)
  refine wpAny_pyNext_tuple_item st (show s.heap.IsTuple a dF.toArray from p) (x:=u) (by simpa using hu) λh' NY sb=>?_
  have I1:Inv X pins σ H {s with heap:=h'}:=I.turned (t':=s.toks) (λb o hb e=>(sb.2 b hb).trans e) f0 f1 f3 f4 f5
  obtain⟨o,e,c,d⟩:=id NY;exact⟨u,rfl,IS (s:={s with heap:=h'}) e c d (by decide) ⟨x,H,I1,ru,⟨rfl,λys hy=>by rw[I.GX hy hq];exact hx⟩,NY,λb hb=>(hf b hb).1⟩⟩
 done:=by
  intro X hP hw hK hc i pins s σ H E I hf st hg;subst hP hw hK;obtain⟨xs,hq,hx⟩:=hg;obtain⟨dF,rv,p,hz⟩:=I.tuple hq;obtain⟨f0,f1,f2,f3,f4,f5⟩:=hf it (by simp)
  have hl:=rv.length;exact wpAny_pyNext_tuple_end (I.ok.hd hc) st (show s.heap.IsTuple a dF.toArray from p) (by simp;omega) λh' eb=>⟨rfl,I.turned (t':=s.toks) (λb o hb e=>eb b o hb e) f0 f1 f3 f4 f5⟩
 self:=λ_ _ _ _ _ st h=>wpAny_pyIter_tupleiter st h
theorem DP {P:cB}{w:cC}{K:PySem.W.Frag}{tg:cG}(it:cF) (lo:Int) (n:Nat):Turn P w K tg (Uw lo n) [it] it (λi h=>IsRangeIter h it (lo+(i:Nat)*1) ((n:Int)-(i:Nat)) 1)where
 mem:=by simp
 obj:=λi h st b hb=>by
  have e:b=it:=by simpa using hb
  subst e;exact⟨_,st,λv z=>by
   have z':Data.fields _=Data.cell v:=z;cases z'⟩
 keep:=λi h h' st k=>k it (by simp) _ st
 item:=by
  intro X hP hw hK hc i pins s σ H E I hf st hg;subst hP hw hK;obtain⟨f0,f1,f2,f3,f4,f5⟩:=hf it (by simp)
  have W:=Walks.range (prog:=X.prog) (w:=X.w) (I.ok.hd hc) it lo 1 n;refine W.item i s _ _ hg st λv h' tk hv NY kk=>?_
  obtain⟨t,rfl⟩:=hv;have I1:Inv X pins σ H {s with heap:=h',toks:=tk}:=I.turned (λb o hb e=>kk b o (by simpa using hb) e) f0 f1 f3 f4 f5
  refine⟨_,rfl,IS (s:={s with heap:=h',toks:=tk}) (n:="range_iterator") NY rfl rfl (by decide) ⟨.int (lo+i),H,I1,⟨t,?_⟩,⟨rfl,rfl⟩,NY,λb hb=>(hf b hb).1⟩⟩
  rw[Int.mul_one]
 done:=by
  intro X hP hw hK hc i pins s σ H E I hf st hg;subst hP hw hK;obtain⟨f0,f1,f2,f3,f4,f5⟩:=hf it (by simp)
  exact wpAny_pyNext_range_end (I.ok.hd hc) st (by have:n<=i:=hg;omega) λh' eb=>⟨rfl,I.turned (t':=s.toks) (λb o hb e=>eb b o hb e) f0 f1 f3 f4 f5⟩
 self:=λ_ _ _ _ _ st h=>wpAny_pyIter_rangeiter st h
end L2
namespace L2
open PySem PySem.Spec PyProof.Rows
section
variable {X:Cx}{tg:cG}
def R3 (K:W.Frag) (tl:TE):TI:=λσ H R=>tl σ H λx H1=>∃a,x=.ref a/\(∃xs,qk K H1 a xs)/\R (Vl K a) H1
def Vn (K:W.Frag) (tl:TE):TI:=λσ H R=>tl σ H λx H1=>∃a,x=.ref a/\(∃xs,jr K H1 a xs)/\R (Vm K a) H1
theorem Fw {l:cG}{tl:TE}(hl:PE X l tl):PI X tg l (R3 X.K tl):=by
 intro pins s σ H R I h;refine iu (hl pins s σ H _ I h) λv s1 ⟨x,H1,I1,r1,q1⟩=>?_
 obtain⟨a,e,⟨xs,hq⟩,q⟩:=q1;subst e;cases r1;obtain⟨dF,rv,p,hz⟩:=I1.list hq;refine wpAny_pyIter_list p.isList ?_;refine⟨s1.heap.objs.size,[s1.heap.objs.size],_,_,H1,rfl,I1.kept (t':=s1.toks) λb o e=>ag _ e,GY a _,⟨_,az _ rfl,rfl,rfl⟩,λb hb=>?_,q⟩
 have e:b=s1.heap.objs.size:=by simpa using hb
 subst e;exact I1.IQ (au _) (I1.fX.fresh (au _))
theorem O3 {l:cG}{tl:TE}(hl:PE X l tl):PI X tg l (Vn X.K tl):=by
 intro pins s σ H R I h;refine iu (hl pins s σ H _ I h) λv s1 ⟨x,H1,I1,r1,q1⟩=>?_
 obtain⟨a,e,⟨xs,hq⟩,q⟩:=q1;subst e;cases r1;obtain⟨dF,rv,p,hz⟩:=I1.tuple hq;refine wpAny_pyIter_tuple (show s1.heap.IsTuple a dF.toArray from p) ?_
 refine⟨s1.heap.objs.size,[s1.heap.objs.size],_,_,H1,rfl,I1.kept (t':=s1.toks) λb o e=>ag _ e,DO a _,⟨_,az _ rfl,rfl,rfl⟩,λb hb=>?_,q⟩
 have e:b=s1.heap.objs.size:=by simpa using hb
 subst e;exact I1.IQ (au _) (I1.fX.fresh (au _))
theorem IT {pins:cn}{σ:St}{H:Hp}{s:cz}{R:It->Hp->Prop}{E:ck}{lo hi:Int}{t u v:Tok}{tk:Nat}(I:Inv X pins σ H s) (h1: -(2^62)<=lo) (h2:lo<2^62) (h3: -(2^62)<=hi) (h4:hi<2^62)
  (q:R (Uw lo (hi-lo).toNat) H):wpAny (model X.prog X.w) X.A (pyIter (.ref s.heap.objs.size)) (Xw X pins σ tg R) E {s with heap:=s.heap.push {cls:=.type "range",data:=.fields #[.int lo t,.int hi u,.int 1 v]},toks:=tk}:=by
 refine wpAny_pyIter_range (IsRange.new ..) (small_one h1 h2 h3 h4) ?_;have I1:Inv X pins σ H {s with heap:=s.heap.push {cls:=.type "range",data:=.fields #[.int lo t,.int hi u,.int 1 v]},toks:=tk}:=I.kept λb o e=>ag _ e
 refine⟨(s.heap.push {cls:=.type "range",data:=.fields #[.int lo t,.int hi u,.int 1 v]}).objs.size,[(s.heap.push {cls:=.type "range",data:=.fields #[.int lo t,.int hi u,.int 1 v]}).objs.size],_,_,H,rfl,
  I1.kept (t':=tk) λb o e=>ag _ e,DP _ lo (hi-lo).toNat,?_,λb hb=>?_,q⟩
 ·have e1:lo+((0:Nat):Int)*1=lo:=by simp
  have e2:(((hi-lo).toNat:Nat):Int)-((0:Nat):Int)=Builtin.Range.rangeSize lo hi 1:=by rw[rangeSize_one];split<;>omega
  show IsRangeIter _ _ (lo+((0:Nat):Int)*1) ((((hi-lo).toNat:Nat):Int)-((0:Nat):Int)) 1;rw[e1,e2];exact az _ rfl
 ·have e:b=(s.heap.push {cls:=.type "range",data:=.fields #[.int lo t,.int hi u,.int 1 v]}).objs.size:=by simpa using hb
  subst e;exact I1.IQ (au _) (I1.fX.fresh (au _))
def R4 (ta:TA):TI:=λσ H R=>ta σ H λvs H1=>∃j:Int,vs=[.int j]/\-(2^62)<=j/\j<2^62/\R (Uw 0 j.toNat) H1
theorem GZ {a:cG}{ta:TA}{p pos:Pos}(hg:Gl X "range") (hm:X.mg "range"=none) (ha:PA X [a] ta) (hs:starEach [a] X.env=[(false,eval a X.env)]:=by rfl):PI X tg (.Call (.Name "range" p) [a] [] pos) (R4 ta):=by
 intro pins s σ H R I h;refine Call_ (qj I hg hm boot_range (PyProof.Rows.callWith_type1 (iu (ha pos pins s σ H _ I h) λus s1 ⟨vs,H1,I1,r1,q1⟩=>?_) hs rfl))
 obtain⟨j,e,q1,q2,q⟩:=q1;subst e;cases r1 with
 |cons r rr=>
  cases rr;obtain⟨t,rfl⟩:=r;exact call_range_1 (IT I1 (by omega) (by omega) q1 q2 (by simpa using q))
def Vo (wi:TI) (g:TG) (tb:TS):TS:=λD σ H=>wi σ H λJ H1=>∃W:Nat->Nat->St->Hp->Prop,(∃m,W 0 m σ H1)/\∀i m σ H,W i m σ H->
 (J.stop i H/\D.nx σ H)\/(J.go i H/\∃N:St->Hp->Prop,(∀σ' H',N σ' H'->∃m',m'<m/\W (i+1) m' σ' H')/\∀x H',J.NX i H x H'->g x σ H' λσ2 H2=>tb {D with nx:=N,ct:=N,bk:=D.nx} σ2 H2)
def wH (fp:List cF) (h:Heap):cn:=fp.filterMap λb=>(h.get? b).map λo=>(b,o)
theorem o9 {fp:List cF}{h:Heap}{b:cF}{o:Obj}(hb:b∈fp) (e:h.get? b=some o):(b,o)∈wH fp h:=List.mem_filterMap.mpr ⟨b,hb,by rw[e];rfl⟩
theorem G0 {fp:List cF}{h:Heap}{p:cF×Obj}(hp:p∈wH fp h):p.1∈fp/\h.get? p.1=some p.2:=by
 obtain⟨b,hb,e⟩:=List.mem_filterMap.mp hp;cases q:h.get? b with
 |none=>rw[q]at e;cases e
 |some o=>
  rw[q]at e;have e':(b,o)=p:=aT e;subst e';exact⟨hb,q⟩
theorem Inv.pinned {pins:cn}{σ:St}{H:Hp}{s:cz}{fp:List cF}(I:Inv X pins σ H s) (hf:∀b∈fp,BK X pins H b) (ho:∀b∈fp,∃o,s.heap.get? b=some o/\∀v,o.data≠.cell v):Inv X (pins++wH fp s.heap) σ H s:=
 I.Fs λp hp=>(List.mem_append.mp hp).elim (λz=>I.pin p (aM _ z)) λz=>by
  obtain⟨hb,e⟩:=G0 z;obtain⟨f0,f1,f2,_⟩:=hf p.1 hb;obtain⟨o,e',d⟩:=ho p.1 hb;rw[e]at e';cases e';exact⟨e,f0,f1,f2,d⟩
theorem Inv.tj {pins pl:cn}{σ:St}{H:Hp}{s:cz}(I:Inv X (pins++pl) σ H s):Inv X pins σ H s:=I.Fs λp hp=>I.pin p (aM _ (bE _ hp))
theorem IU {iter:cG}{body:List cH}{wi:TI}{g:TG}{tb:TS}{pos:Pos}(hp:PassesOwn (model X.prog X.w) X.A X.env X.xe) (hc:X.calm=true) (hi:PI X tg iter wi) (hg:PG X tg g) (hb:yA X body tb)
  (hs:∀x,foldedSetIterable iter X.env x=pure x:=by intro _;rfl):PS X (.For tg iter body [] pos) (Vo wi g tb):=by
 intro pins s σ H D I h;refine wpAny_For (iu (hi pins s σ H _ I h) λv s1 h1=>iu h1 λUv s2 h2=>?_) hs
 obtain⟨it,fp,tn,J,H2,e,I2,T,NZ,f2,W,⟨m0,w0⟩,turn⟩:=h2;subst e;have DQ:∀{H':Hp},(∀b∈fp,H' b=none)->∀b∈fp,BK X pins H' b:=λhn b hb=>⟨hn b hb,(f2 b hb).2⟩
 refine codeAny_forLoop_any (λn s'=>∃i σ' H',Inv X pins σ' H' s'/\tn i s'.heap/\(∀b∈fp,H' b=none)/\W i n σ' H') ?_ m0 ⟨0,σ,H2,I2,NZ,λb hb=>(f2 b hb).1,w0⟩
 rintro n s3 ⟨i,σ3,H3,I3,R5,R6,w3⟩
 rcases turn i n σ3 H3 w3 with⟨stop,qn⟩|⟨go,N,hN,step⟩
 ·refine wpAny_passesOwn hp (iu (T.done X rfl rfl rfl hc i pins s3 σ3 H3 X.xe I3 (DQ R6) R5 stop) λr s4 ⟨hr,I4⟩=>?_)
  subst hr;exact wpAny_execs_nil ⟨σ3,H3,I4,qn⟩
 ·refine wpAny_passesOwn hp (iu (T.item X rfl rfl rfl hc i pins s3 σ3 H3 X.xe I3 (DQ R6) R5 go) λr s4 ⟨u,hr,h4⟩=>?_)
  subst hr;refine wpAny_passesOwn hp (iu h4 λ_ s5 ⟨x,H5,I5,r5,y5,O4,Vp⟩=>?_)
  have Vq:=I5.pinned (DQ Vp) (T.obj _ _ O4);refine wpAny_passesOwn hp (iu (hg _ s5 σ3 H5 x u _ Vq r5 (step x H5 y5)) λ_ s6 ⟨σ6,H6,I6,q6⟩=>?_)
  refine wpAny_passesOwn hp (iu (hb _ s6 σ6 H6 _ I6 q6) λf s7 q7=>?_)
  have again:∀{σ7:St}{H7:Hp},Inv X (pins++wH fp s5.heap) σ7 H7 s7->N σ7 H7->∃m,m<n/\∃i σ' H',Inv X pins σ' H' s7/\tn i s7.heap/\(∀b∈fp,H' b=none)/\W i m σ' H':=λ{σ7 H7} I7 n7=>by
   obtain⟨m',hm,w7⟩:=hN σ7 H7 n7;refine⟨m',hm,i+1,σ7,H7,I7.tj,T.keep _ _ _ O4 λb hb o e=>(I7.pin (b,o) (aM _ (aM _ (o9 hb e)))).1,λb hb=>?_,w7⟩
   obtain⟨o,e,d⟩:=T.obj _ _ O4 b hb;exact(I7.pin (b,o) (aM _ (aM _ (o9 hb e)))).2.1
  cases f with
  |next=>obtain⟨σ7,H7,I7,n7⟩:=q7;exact again I7 n7
  |cont=>obtain⟨σ7,H7,I7,n7⟩:=q7;exact again I7 n7
  |brk=>obtain⟨σ7,H7,I7,q7⟩:=q7;exact⟨σ7,H7,I7.tj,q7⟩
  |ret v=>obtain⟨x7,σ7,H7,I7,r7,q7⟩:=q7;exact⟨x7,σ7,H7,I7.tj,r7,q7⟩
end
end L2
namespace L2
open PySem PySem.Spec PyProof.Rows
abbrev R2:=V->V->Hp->VK->Prop
def vM (X:Cx) (f:cy->cy->Sem cy) (r:R2):Prop:=
 ∀(pins:cn) (s:cz) (σ:St) (H:Hp) (x y:V) (v u:cy) (Q:VK),Inv X pins σ H s->RelV x v->RelV y u->r x y H Q->
  wpAny (model X.prog X.w) X.A (f v u) (EP X pins σ Q) X.xe s
def Vr (X:Cx) (f:cy->Sem cy) (r:V->Hp->VK->Prop):Prop:=
 ∀(pins:cn) (s:cz) (σ:St) (H:Hp) (x:V) (v:cy) (Q:VK),Inv X pins σ H s->RelV x v->r x H Q->
  wpAny (model X.prog X.w) X.A (f v) (EP X pins σ Q) X.xe s
def jl (X:Cx) (f:cy) (r:List V->Hp->VK->Prop):Prop:=
 ∀(pins:cn) (s:cz) (σ:St) (H:Hp) (xs:List V) (us:cx) (Q:VK),Inv X pins σ H s->Vals xs us->r xs H Q->
  wpAny (model X.prog X.w) X.A (call f us) (EP X pins σ Q) X.xe s
def Vs (X:Cx) (r:V->Hp->(Bool->Hp->Prop)->Prop):Prop:=
 ∀(pins:cn) (s:cz) (σ:St) (H:Hp) (x:V) (v:cy) (Q:Bool->Hp->Prop),Inv X pins σ H s->RelV x v->r x H Q->
  wpAny (model X.prog X.w) X.A (truthy v) (TP X pins σ Q) X.xe s
def R7 (r:R2) (ta tb:TE):TE:=λσ H Q=>ta σ H λx H1=>tb σ H1 λy H2=>r x y H2 Q
def ZQ (r:V->Hp->VK->Prop) (ta:TE):TE:=λσ H Q=>ta σ H λx H1=>r x H1 Q
def rI (C:Int->Int->Prop) (g:Int->Int->V):R2:=λx y H Q=>∃i j,x=.int i/\y=.int j/\C i j/\Q (g i j) H
def N0 (g:Int->Int->V):R2:=λx y H Q=>∃i j,x=.int i/\y=.int j/\Q (g i j) H
def rU (g:Int->V):V->Hp->VK->Prop:=λx H Q=>∃i,x=.int i/\Q (g i) H
section
variable {X:Cx}{a b c:cG}{ta tb tc:TE}{pos:Pos}
theorem O5 (ha:PE X a ta) (hb:PE X b tb) {pins:cn}{s:cz}{σ:St}{H:Hp}{R:V->V->Hp->Prop}(I:Inv X pins σ H s)
  (h:ta σ H λx H1=>tb σ H1 λy H2=>R x y H2) {Q:ck}{f:cy->cy->Sem cy}
  (hf:∀v u s2 x y H2,Inv X pins σ H2 s2->RelV x v->RelV y u->R x y H2->wpAny (model X.prog X.w) X.A (f v u) Q X.xe s2):
  wpAny (model X.prog X.w) X.A (eval a X.env) (λv s₁=>wpAny (model X.prog X.w) X.A (eval b X.env) (λu s₂=>wpAny (model X.prog X.w) X.A (f v u) Q X.xe s₂) X.xe s₁) X.xe s:=by
 refine iu (ha pins s σ H _ I h) λv s1 ⟨x,H1,I1,r1,q1⟩=>?_
 refine iu (hb pins s1 σ H1 _ I1 q1) λu s2 ⟨y,H2,I2,r2,q2⟩=>?_
 exact hf v u s2 x y H2 I2 r1 r2 q2
theorem N1 {op:Operator}{r:R2}(ho:vM X (binaryOp op) r) (ha:PE X a ta) (hb:PE X b tb):PE X (.BinOp a op b pos) (R7 r ta tb):=by
 intro pins s σ H Q I h;exact wpAny_BinOp (O5 ha hb I h λv u s2 x y H2 I2 rx ry q=>ho pins s2 σ H2 x y v u Q I2 rx ry q)
theorem R8 {op:UnaryOp}{r:V->Hp->VK->Prop}(ho:Vr X (unaryOp op) r) (ha:PE X a ta):PE X (.UnaryOp op a pos) (ZQ r ta):=by
 intro pins s σ H Q I h;exact UnaryOp_ (iu (ha pins s σ H _ I h) λv s1 ⟨x,H1,I1,r1,q1⟩=>ho pins s1 σ H1 x v Q I1 r1 q1)
theorem Vt {f:cy->cy->Sem cy}{C:Int->Int->Prop}{g:Int->Int->Int}
  (rule:∀(i j:Int) (t u:Tok) (s:cz) (Q:ck) (E:ck),C i j->Q (.int (g i j) s.toks) {s with toks:=s.toks+1}->wpAny (model X.prog X.w) X.A (f (.int i t) (.int j u)) Q E s):
  vM X f (rI C λi j=>.int (g i j)):=by
 intro pins s σ H x y v u Q I rx ry h;obtain⟨i,j,rfl,rfl,hc,q⟩:=h;obtain⟨t,rfl⟩:=rx;obtain⟨t',rfl⟩:=ry;exact rule i j t t' s _ _ hc ⟨.int (g i j),H,I.tok _,⟨_,rfl⟩,q⟩
theorem R9 {f:cy->cy->Sem cy}{g:Int->Int->Int}
  (rule:∀(i j:Int) (t u:Tok) (s:cz) (Q:ck) (E:ck),Q (.int (g i j) s.toks) {s with toks:=s.toks+1}->wpAny (model X.prog X.w) X.A (f (.int i t) (.int j u)) Q E s):
  vM X f (N0 λi j=>.int (g i j)):=by
 intro pins s σ H x y v u Q I rx ry h;obtain⟨i,j,rfl,rfl,q⟩:=h;obtain⟨t,rfl⟩:=rx;obtain⟨t',rfl⟩:=ry;exact rule i j t t' s _ _ ⟨.int (g i j),H,I.tok _,⟨_,rfl⟩,q⟩
theorem O6 {f:cy->cy->Sem cy}{g:Int->Int->Bool}
  (rule:∀(i j:Int) (t u:Tok) (s:cz) (Q:ck) (E:ck),Q (.bool (g i j)) s->wpAny (model X.prog X.w) X.A (f (.int i t) (.int j u)) Q E s):
  vM X f (N0 λi j=>.bl (g i j)):=by
 intro pins s σ H x y v u Q I rx ry h;obtain⟨i,j,rfl,rfl,q⟩:=h;obtain⟨t,rfl⟩:=rx;obtain⟨t',rfl⟩:=ry;exact rule i j t t' s _ _ ⟨.bl (g i j),H,I,rfl,q⟩
def Sa (i j:Int):Prop:=0<j/\j<1073741824
def L3 (i j:Int):Prop:=(-(2^64)<i/\i<2^64)\/(-(2^64)<j/\j<2^64)
theorem L3.ok {i j:Int}(h:L3 i j):IntMulOk i j:=by
 rcases h with⟨h1,h2⟩|⟨h1,h2⟩
 ·exact .of_left (intBits_le_64 h1 h2)
 ·exact .of_right (intBits_le_64 h1 h2)
theorem IV:vM X (binaryOp .Add) (N0 λi j=>.int (i+j)):=R9 λ_ _ _ _ _ _ _ q=>add_int q
theorem O7:vM X (binaryOp .Sub) (N0 λi j=>.int (i-j)):=R9 λ_ _ _ _ _ _ _ q=>sub_int q
theorem O8:vM X (binaryOp .Mult) (rI L3 λi j=>.int (i*j)):=Vt λ_ _ _ _ _ _ _ hc q=>mul_int q hc.ok
theorem L4:vM X (binaryOp .FloorDiv) (rI Sa λi j=>.int (i/j)):=Vt λi j _ _ _ _ _ hc q=>by
 have h1:(0:Int)<j:=hc.1;have h2:j<1073741824:=hc.2;exact floordiv_int (by omega) (by rw[Int.fdiv_eq_ediv_of_nonneg i (by omega)];exact q) (.inl (PyProof.noPylong_small (by omega)))
theorem O9:vM X (binaryOp .Mod) (rI (λ_ j=>0<j) λi j=>.int (i%j)):=Vt λi j _ _ _ _ _ hc q=>by
 have h1:(0:Int)<j:=hc;exact mod_int' (by omega) (by rw[Int.fmod_eq_emod_of_nonneg i (by omega)];exact q)
theorem ZR {f:cy->Sem cy}{g:Int->Int}
  (rule:∀(i:Int) (t:Tok) (s:cz) (Q:ck) (E:ck),Q (.int (g i) s.toks) {s with toks:=s.toks+1}->wpAny (model X.prog X.w) X.A (f (.int i t)) Q E s):
  Vr X f (rU λi=>.int (g i)):=by
 intro pins s σ H x v Q I rx h;obtain⟨i,rfl,q⟩:=h;obtain⟨t,rfl⟩:=rx;exact rule i t s _ _ ⟨.int (g i),H,I.tok _,⟨_,rfl⟩,q⟩
theorem Pa:Vr X (unaryOp .USub) (rU λi=>.int (-i)):=ZR λ_ _ _ _ _ q=>neg_int q
end
section
variable {X:Cx}{a b c:cG}{ta tb tc:TE}{pos:Pos}
theorem IW {pins:cn}{σ:St}{H:Hp}{s:cz}{Q:VK}{k k':Bool}(I:Inv X pins σ H s) (q:Q (.bl k) H) (e:k=k'):EP X pins σ Q (.bool k') s:=by
 subst e;exact⟨.bl k,H,I,rfl,q⟩
theorem Sb:vM X (compareOp .LtE) (N0 λi j=>.bl (decide (i<=j))):=O6 λ_ _ _ _ _ _ _ q=>le_int q
theorem Sd:vM X (compareOp .Gt) (N0 λi j=>.bl (decide (j<i))):=O6 λ_ _ _ _ _ _ _ q=>gt_int q
theorem Se:vM X (compareOp .GtE) (N0 λi j=>.bl (decide (j<=i))):=O6 λ_ _ _ _ _ _ _ q=>ge_int q
theorem Pc:vM X (compareOp .Is) (λx y H Q=>y=.eD/\Q (.bl (decide (x=.eD))) H):=by
 intro pins s σ H x y v u Q I rx ry h;obtain⟨rfl,q⟩:=h;cases ry;refine is_none_gen (IW I q ?_);cases x<;>first
  |(cases rx;rfl)
  |(obtain⟨t,rfl⟩:=rx;rfl)
theorem L5:vM X (compareOp .IsNot) (λx y H Q=>y=.eD/\Q (.bl (!decide (x=.eD))) H):=by
 intro pins s σ H x y v u Q I rx ry h;obtain⟨rfl,q⟩:=h;cases ry;refine isnot_none_gen (IW I q ?_);cases x<;>first
  |(cases rx;rfl)
  |(obtain⟨t,rfl⟩:=rx;rfl)
theorem vM.or {f:cy->cy->Sem cy}{r r':R2}(h:vM X f r) (h':vM X f r'):vM X f (λx y H Q=>r x y H Q\/r' x y H Q):=by
 intro pins s σ H x y v u Q I rx ry q;rcases q with q|q
 ·exact h pins s σ H x y v u Q I rx ry q
 ·exact h' pins s σ H x y v u Q I rx ry q
theorem sJ (b:cG) {op:CmpOp}(h:op≠.In:=by decide) (h2:op≠.NotIn:=by decide):behindInMarks op b=false:=by
 have e1:(op==CmpOp.In)=false:=by cases op<;>first|rfl|exact absurd rfl h
 have e2:(op==CmpOp.NotIn)=false:=by cases op<;>first|rfl|exact absurd rfl h2
 cases b<;>simp[behindInMarks,e1,e2]
theorem L6 {op:CmpOp}{r:R2}(ho:vM X (compareOp op) r) (ha:PE X a ta) (hb:PE X b tb) (hm:behindInMarks op b=false):PE X (.Compare a [op] [b] pos) (R7 r ta tb):=by
 intro pins s σ H Q I h;exact wpAny_Compare1 (O5 ha hb I h λv u s2 x y H2 I2 rx ry q=>ho pins s2 σ H2 x y v u Q I2 rx ry q) hm
def Sf (t:TE):TT:=λσ H Q=>t σ H λx H'=>∃k,x=.bl k/\Q k H'
theorem Aw {op:CmpOp}{r:R2}(ho:vM X (compareOp op) r) (ha:PE X a ta) (hb:PE X b tb) (hm:behindInMarks op b=false):PT X (.Compare a [op] [b] pos) (Sf (R7 r ta tb)):=by
 intro pins s σ H Q I h;refine wpAny_isTrue_Compare1 (iu (ha pins s σ H _ I h) λv s1 ⟨x,H1,I1,r1,q1⟩=>iu (hb pins s1 σ H1 _ I1 q1) λu s2 ⟨y,H2,I2,r2,q2⟩=>
  iu (ho pins s2 σ H2 x y v u _ I2 r1 r2 q2) λc s3 ⟨z,H3,I3,r3,k,e,q3⟩=>?_) hm
 subst e;cases r3;exact bS ⟨H3,I3,q3⟩
def Pd (K:W.Frag) (x:V) (H:Hp) (k:Bool):Prop:=
 match x with
 |.eD=>k=false
 |.bl b=>k=b
 |.int i=>k=(i !=0)
 |.str y=>y.length<=sizeLine/\k=((y.length:Int)!=0)
 |.Rp y=>y.size<=sizeLine/\k=((y.size:Int)!=0)
 |.ref p=>(∃xs,qk K H p xs/\k= !xs.isEmpty)\/(∃xs,jr K H p xs/\k= !xs.isEmpty)\/∃kvs,H p=some (.dK kvs)/\k= !kvs.isEmpty
 |_=>False
theorem DR {κ:Type}{kvs:List (κ×V)}{vs:List (κ×cy)}(r:KV kvs vs):(!vs.isEmpty)= !kvs.isEmpty:=by
 cases r<;>rfl
theorem wI {xs:List V}{dF:cx}(r:Vals xs dF):(!dF.toArray.isEmpty)= !xs.isEmpty:=by
 cases r<;>simp
theorem uH:(sizeLine:Nat)<2^63:=by rw[bx];decide
theorem Pe:Vs X (λx H Q=>∃k,Pd X.K x H k/\Q k H):=by
 intro pins s σ H x v Q I rx h;obtain⟨k,e,q⟩:=h;have hl:=uH;have hs:sizeLine=16777216:=bx;cases x with
 |eD=>
  cases rx;have e':k=false:=e;subst e';exact truthy_none ⟨H,I,q⟩
 |bl b=>
  cases rx;have e':k=b:=e;subst e';exact bS ⟨H,I,q⟩
 |int i=>
  obtain⟨t,rfl⟩:=rx;have e':k=(i !=0):=e;subst e';exact PySem.P.truthy_int ⟨H,I,q⟩
 |str y=>
  obtain⟨t,rfl⟩:=rx;obtain⟨hy,e'⟩:y.length<=sizeLine/\k=((y.length:Int)!=0):=e;subst e';exact PySem.P.truthy_str (by omega) ⟨H,I.tok _,q⟩
 |Rp y=>
  obtain⟨t,rfl⟩:=rx;obtain⟨hy,e'⟩:y.size<=sizeLine/\k=((y.size:Int)!=0):=e;subst e';exact W.truthy_bytes (by omega) ⟨H,I.tok _,q⟩
 |ref p=>
  cases rx;have e':(∃xs,qk X.K H p xs/\k= !xs.isEmpty)\/(∃xs,jr X.K H p xs/\k= !xs.isEmpty)\/∃kvs,H p=some (.dK kvs)/\k= !kvs.isEmpty:=e;rcases e' with⟨xs,hx,e'⟩|⟨xs,hx,e'⟩|⟨kvs,hx,e'⟩
  ·subst e';obtain⟨dF,r,pl,hz⟩:=I.list hx;have hlen:=r.length;exact wpAny_truthy_list pl.isList (by simp only[aq];omega) ⟨H,I.tok _,by rw[wI r];exact q⟩
  ·subst e';obtain⟨dF,r,pl,hz⟩:=I.tuple hx;have hlen:=r.length;exact truthy_tuple pl (by simp only[aq];omega) ⟨H,I.tok _,by rw[wI r];exact q⟩
  ·subst e';obtain⟨hz,hS,vs,r,m⟩:kvs.length<=sizeLine/\(p==sysModules)=false/\∃vs,KV kvs vs/\s.heap.DictOf (fy X.prog X.w) p vs:=I.fX p _ hx;have hlen:kvs.length=vs.length:=Paired.length r;exact wpAny_truthy_dict hS m (by omega) ⟨H,I.tok _,by rw[DR r];exact q⟩
 |_=>exact(show False from e).elim
theorem IX (ha:PE X a ta) (he:∀whole,isTrue a X.env whole=(do let v <-whole;standAt a.pos;holding [v] (truthy v))):
  PT X a (λσ H Q=>ta σ H λx H'=>∃k,Pd X.K x H' k/\Q k H'):=by
 intro pins s σ H Q I h;exact isTrue_plain (iu (ha pins s σ H _ I h) λv s1 ⟨x,H1,I1,r1,q1⟩=>Pe pins s1 σ H1 x v Q I1 r1 q1) (he _)
theorem vals1 {x:V}{us:cx}(r:Vals [x] us):∃u,us=[u]/\RelV x u:=by
 cases r with
 |cons r1 r2=>cases r2;exact⟨_,rfl,r1⟩
theorem vals2 {x y:V}{us:cx}(r:Vals [x,y] us):∃u w',us=[u,w']/\RelV x u/\RelV y w':=by
 cases r with
 |cons r1 r2=>
  cases r2 with
  |cons r3 r4=>cases r4;exact⟨_,_,rfl,r1,r3⟩
theorem G1 (hc:X.calm=true):jl X (.builtin "min") (λxs H Q=>∃i j,xs=[.int i,.int j]/\Q (.int (if j<i then j else i)) H):=by
 intro pins s σ H xs us Q I r h;obtain⟨i,j,rfl,q⟩:=h;obtain⟨u,w',rfl,⟨t,rfl⟩,⟨t',rfl⟩⟩:=vals2 r;refine min_two_ints (I.ok.hd hc) λh' tk k=>⟨_,H,I.kept k,?_,q⟩
 by_cases hj:j<i
 ·rw[if_pos hj,if_pos hj];exact⟨_,rfl⟩
 ·rw[if_neg hj,if_neg hj];exact⟨_,rfl⟩
theorem G2:jl X (.type "int") (λxs H Q=>(∃i,xs=[.int i]/\Q (.int i) H)\/∃k,xs=[.bl k]/\Q (.int (if k then 1 else 0)) H):=by
 intro pins s σ H xs us Q I r h;rcases h with⟨i,rfl,q⟩|⟨k,rfl,q⟩
 ·obtain⟨u,rfl,t,rfl⟩:=vals1 r;exact call_int_int ⟨.int i,H,I,⟨_,rfl⟩,q⟩
 ·obtain⟨u,rfl,r1⟩:=vals1 r;cases r1;exact call_int_bool ⟨.int (if k then 1 else 0),H,I.tok _,⟨_,rfl⟩,q⟩
end
end L2
namespace L2
open PySem PySem.Spec PyProof.Rows
structure DS (h:Heap) (x dx C:cF) (mA:cm):Prop where
 obj:h.get? x=some (W.instObj C dx)
 ns:h.Ns1 dx mA
 ne:dx≠x
theorem G3 {h:Heap}{dx:cF}{mA:cm}(n:h.Ns1 dx mA):∃od,h.get? dx=some od/\∀name,W.lookIn name od=some (mA name):=by
 obtain⟨o,es,ep,ho,hd,hk,_,hm⟩:=n;refine⟨o,ho,λname=>?_⟩
 have e:=hm name;unfold nsFind findBy at e;rw[<-Array.find?_toList]at e;unfold W.lookIn;rw[hd];dsimp only;split
 ·rename_i y q;rw[q]at e;exact congrArg some e
 ·rename_i q;rw[q]at e;have a:es.toList.any (·.refKey)=false:=by
   rw[List.any_eq_false];intro y hy;obtain⟨z,t,DT⟩:=hk y (Array.mem_toList_iff.mp hy);simp[DictEntry.refKey,DT]
  have a':¬ es.toList.any (·.refKey)=true:=by rw[a];exact bc
  rw[if_neg a'];exact congrArg some e
theorem DS.look {h:Heap}{x dx C:cF}{mA:cm}(I:DS h x dx C mA):∃od,W.InstAt h x (W.instObj C dx) C (some od)/\∀name,W.lookIn name od=some (mA name):=
 let ⟨od,ho,hl⟩:=G3 I.ns
 ⟨od,⟨I.obj,rfl,rfl,ho⟩,hl⟩
section
variable {prog:cB}{w:cC}{A:cD}{E:ck}{s:cz}{K:W.Frag}{x dx C f:cF}{mA:cm}{name:Str}{v:cy}
theorem get_map {expr:Bool}{Q:ck}(X:K.In s.heap) (I:DS s.heap x dx C mA) (hg:W.plainGet K C name=true) (hh:W.hasDictIn K C=true)
  (ha:W.findIn K (.ref C) name=some none) (hv:mA name=some v) (L7:W.handedIn v=true) (h:Q v {s with toks:=s.toks+1}):
  wpAny (model prog w) A (getAttr (.ref x) name expr) Q E s:=by
 obtain⟨od,J,hl⟩:=I.look;exact W.get_value X J (W.plainGet_of hg).1 (W.findObj_own hh ha rfl (by rw[hl,hv])) L7 h
theorem IY {pl:Sem Bool}{Q:cy×cx->cz->Prop}(X:K.In s.heap) (I:DS s.heap x dx C mA) (hg:W.plainGet K C name=true)
  (hf:W.findIn K (.ref C) name=some (some (.ref f))) (ht:W.isFn K (.ref f)=true) (hv:mA name=none) (h:Q (.ref f,[.ref x]) s):
  wpAny (model prog w) A (getMethod (.ref x) name pl) Q E s:=by
 obtain⟨od,J,hl⟩:=I.look;exact W.method_fn X J (W.plainGet_of hg).1 (W.plainGet_of hg).2 hf (beq_iff_eq.mp ht) (by show(W.lookIn name od).map (·.isSome)=some false;rw[hl,hv];rfl) h
theorem L8 {ns:List Str}{Q:Unit->cz->Prop}(X:K.In s.heap) (I:DS s.heap x dx C mA)
  (hs:W.findIn K (.ref C) "__setattr__"=some (some (.builtin "object.__setattr__"))) (hp:W.plainOver K C=true) (ht:W.takerIn K C name=some none) (hh:W.hasDictIn K C=true)
  (hw:PySem.Within mA ns) (hsz:ns.length<=sizeLine)
  (h:∀h',DS h' x dx C (λy=>if y=name then some v else mA y)->Heap.SameBut dx s.heap h'->Q () {s with heap:=h',toks:=s.toks+2}):
  wpAny (model prog w) A (setAttr (.ref x) name v) Q E s:=by
 obtain⟨od,J,hl⟩:=I.look;refine W.set_plain X J hs (W.osa_open (s:={s with toks:=s.toks+1}) (r:=none) X J hp ht λb=>?_)
 obtain⟨cd,hc,NQ⟩:=W.any_some hh;have hx:s.heap.get? x=some ⟨.ref C,some dx,.plain,#[]⟩:=I.obj;refine aa (aj (aa (aa (wpAny_loadPart hx (aa (W.Looks.here (s:={s with toks:=s.toks+1}) (W.looks_clsIn X hc) ?_))))))
 rw[NQ];refine aj (a:=some dx) (aa (aj (aa ?_)));refine wpAny_nsSet1 (s:={s with toks:=s.toks+1}) I.ns λh' Rv Pf=>?_
 obtain⟨oD,esD,epD,ZS,ZT,ZU⟩:=Rv.count (PySem.Within.cons name v hw);refine aa (wpAny_lookBehind ZS (by rw[ZT];exact pastItsLine_dict (aD ZU (by rw[ax];omega))) ?_)
 exact aj (h _ ⟨(Pf.2 _ (Ne.symm I.ne)).trans I.obj,Rv,I.ne⟩ Pf)
theorem IZ {R:Result->cz->Prop}{vs:cx}{kw:List (Str×cy)}(X:K.In s.heap) (hm:W.makesIn K C=true)
  (hi:W.findIn K (.ref C) "__init__"=some (some (.ref f))) (hf:W.typeIn K (.ref f)=some (.type "function"))
  (h:codeAny (model prog w) (A.under (.builtin "type.__call__" ⟨.ref C::vs,kw⟩)) (.call (.ref f) ⟨.ref (s.heap.objs.size+1)::vs,kw⟩) (W.InitBack (s.heap.objs.size+1) R)
   {s with heap:=(s.heap.push W.emptyDict).push (W.instObj C s.heap.objs.size)}):
  codeAny (model prog w) A (.call (.ref C) ⟨vs,kw⟩) R s:=by
 obtain⟨hh,g,d,t,os⟩:=s;exact W.make_core (W.makes_of X hm) (W.looks_findIn X hi) (λself=>W.bind_fn X self hf) (.inl rfl) h
end
def pe (f:Str) (v:V):List (Str×V)->List (Str×V)
 |[]=>[(f,v)]
 |(g,x)::r=>if g=f then(g,v)::r else(g,x)::pe f v r
theorem iJ (f g:Str) (v:V):∀fs:List (Str×V),(pe f v fs).lookup g=if g=f then some v else fs.lookup g
 |[]=>by
  show List.lookup g [(f,v)]=_;by_cases h:g=f
  ·have hb:(g==f)=true:=beq_iff_eq.mpr h;simp only[List.lookup,hb,if_pos h]
  ·have hb:(g==f)=false:=beq_eq_false_iff_ne.mpr h;simp only[List.lookup,hb,if_neg h]
 |(k,x)::r=>by
  have ih:=iJ f g v r;rw[show pe f v ((k,x)::r)=(if k=f then(k,v)::r else(k,x)::pe f v r)from rfl]
  by_cases hk:k=f
  ·rw[if_pos hk];by_cases h:g=k
   ·have hb:(g==k)=true:=beq_iff_eq.mpr h;simp only[List.lookup,hb,if_pos (h.trans hk)]
   ·have hb:(g==k)=false:=beq_eq_false_iff_ne.mpr h;simp only[List.lookup,hb,if_neg (λe:g=f=>h (e.trans hk.symm))]
  ·rw[if_neg hk];by_cases h:g=k
   ·have hb:(g==k)=true:=beq_iff_eq.mpr h;simp only[List.lookup,hb,if_neg (λe:g=f=>hk (h.symm.trans e))]
   ·have hb:(g==k)=false:=beq_eq_false_iff_ne.mpr h;simp only[List.lookup,hb];exact ih
theorem uI (f:Str) (v:V):∀fs:List (Str×V),f∈(pe f v fs).map (·.1)/\∀g,g∈fs.map (·.1)->g∈(pe f v fs).map (·.1)
 |[]=>⟨by simp[pe],λg h=>by simp at h⟩
 |(k,x)::r=>by
  obtain⟨i1,i2⟩:=uI f v r;rw[show pe f v ((k,x)::r)=(if k=f then(k,v)::r else(k,x)::pe f v r)from rfl]
  by_cases hk:k=f
  ·rw[if_pos hk];subst hk;exact⟨by simp,λg h=>by simpa using h⟩
  ·rw[if_neg hk];refine⟨?_,λg h=>?_⟩
   ·rw[aF];exact ai _ i1
   ·rw[aF]at h ⊢;rcases List.mem_cons.mp h with e|e
    ·exact List.mem_cons.mpr (.inl e)
    ·exact ai _ (i2 g e)
theorem vj (f:Str) (v:V):∀fs:List (Str×V),(pe f v fs).length<=fs.length+1
 |[]=>by simp[pe]
 |(k,x)::r=>by
  have ih:=vj f v r;rw[show pe f v ((k,x)::r)=(if k=f then(k,v)::r else(k,x)::pe f v r)from rfl]
  by_cases hk:k=f
  ·rw[if_pos hk,ax,ax];omega
  ·rw[if_neg hk,ax,ax];omega
theorem qh.some_of {v:V}{o:Option cy}(r:qh (some v) o):∃u,o=some u/\RelV v u:=by
 cases o with
 |none=>exact(show False from r).elim
 |some u=>exact⟨u,rfl,r⟩
theorem qh.none_of {o:Option cy}(r:qh none o):o=none:=by
 cases o with
 |none=>rfl
 |some u=>exact(show False from r).elim
theorem G4 {v:V}{u:cy}(r:RelV v u):W.handedIn u=true:=by
 cases v with
 |eD=>cases (show u=Value.none from r);rfl
 |bl b=>cases (show u=Value.bool b from r);rfl
 |int i=>obtain⟨t,e⟩:=(show ∃t,u=Value.int i t from r);cases e;rfl
 |str x=>obtain⟨t,e⟩:=(show ∃t,u=Value.str x t from r);cases e;rfl
 |Rp b=>obtain⟨t,e⟩:=(show ∃t,u=Value.bytes b t from r);cases e;rfl
 |OO b=>obtain⟨t,e⟩:=(show ∃t,u=Value.float b t from r);cases e;rfl
 |ref a=>cases (show u=Value.ref a from r);rfl
 |ty n=>cases (show u=Value.type n from r);rfl
section
variable {P:cB}{w:cC}{H H':Hp}{h h':Heap}{a C dx:cF}{fs ZN:List (Str×V)}
theorem mj (fX:sd P w H h) (e:H a=some (.ins C dx fs)):∃mA,DS h a dx C mA/\(∀f,qh (fs.lookup f) (mA f))/\PySem.Within mA (fs.map (·.1))/\fs.length<=1000/\H dx=some (.own a):=by
 obtain⟨d,z,ne,ob,mA,n,r,q⟩:=(show gF P w H h a (.ins C dx fs)from fX a _ e)
 exact⟨mA,⟨ob,n,ne⟩,r,q,z,d⟩
end
structure LN (K:W.Frag) (C:cF):Prop where
 pg:W.plainGet K C Str.empty=true
 hd:W.hasDictIn K C=true
 po:W.plainOver K C=true
 sa:W.findIn K (.ref C) "__setattr__"=some (some (.builtin "object.__setattr__"))
theorem LN.get {K:W.Frag}{C:cF}(c:LN K C) (f:Str):W.plainGet K C f=true:=c.pg
def qo (K:W.Frag) (C:cF) (f:Str):Prop:=W.findIn K (.ref C) f=some none
theorem qo.Sg {K:W.Frag}{C:cF}{f:Str}(n:qo K C f):W.takerIn K C f=some none:=by
 unfold W.takerIn;rw[show W.findIn K (.ref C) f=some none from n]
 rfl
structure Meth (K:W.Frag) (C:cF) (m:Str) (f:cF):Prop where
 at_:W.findIn K (.ref C) m=some (some (.ref f))
 fn:W.isFn K (.ref f)=true
 kp:W.keepIn K (.ref f)=true
section
variable {X:Cx}{pins:cn}{σ:St}{H:Hp}{s:cz}{a C dx:cF}{fs:List (Str×V)}{f:Str}{v:V}{A:cD}{E:ck}
theorem DU {b:Bool}{Q:ck}(I:Inv X pins σ H s) (e:H a=some (.ins C dx fs)) (c:LN X.K C) (n:qo X.K C f) (l:fs.lookup f=some v)
  (h:∀u s',Inv X pins σ H s'->RelV v u->Q u s'):wpAny (model X.prog X.w) A (getAttr (.ref a) f b) Q E s:=by
 obtain⟨mA,O,r,_,_,_⟩:=mj I.fX e;obtain⟨u,hu,ru⟩:=qh.some_of (v:=v) (o:=mA f) (by rw[<-l];exact r f)
 exact get_map I.v8 O (c.get f) c.hd n hu (G4 ru) (h u _ (I.tok _) ru)
theorem DV {m:Str}{g:cF}{pl:Sem Bool}{Q:cy×cx->cz->Prop}(I:Inv X pins σ H s) (e:H a=some (.ins C dx fs)) (c:LN X.K C) (k:Meth X.K C m g) (l:fs.lookup m=none)
  (h:Q (.ref g,[.ref a]) s):wpAny (model X.prog X.w) A (getMethod (.ref a) m pl) Q E s:=by
 obtain⟨mA,O,r,_,_,_⟩:=mj I.fX e;have hn:mA m=none:=qh.none_of (by rw[<-l];exact r m)
 exact IY I.v8 O (c.get m) k.at_ k.fn hn h
theorem DW {y:V}{u:cy}{Q:Unit->cz->Prop}(I:Inv X pins σ H s) (e:H a=some (.ins C dx fs)) (c:LN X.K C) (n:qo X.K C f) (hl:fs.length<1000) (ry:RelV y u)
  (h:∀s',Inv X pins σ (upd H a (.ins C dx (pe f y fs))) s'->Q () s'):wpAny (model X.prog X.w) A (setAttr (.ref a) f u) Q E s:=by
 obtain⟨mA,O,r,wi,_,ho⟩:=mj I.fX e;have hz:(fs.map (·.1)).length<=sizeLine:=by rw[ae,bx];omega
 refine L8 I.v8 O c.sa c.po n.Sg c.hd wi hz λh' O' sb=>h _ ?_
 have hd:∃o,h'.get? dx=some o:=let ⟨o,_,_,e',_⟩:=O'.ns;⟨o,e'⟩;refine I.write (x:=a) (e:=dx) (by rw[e];exact True.intro) (.inr ho) (λb q hb z=>(sb.2 b hb).trans z) hd ?_
 refine⟨by rw[cV O.ne];exact ho,?_,O.ne,O'.obj,_,O'.ns,λg=>?_,λg hg=>?_⟩
 ·have:=vj f y fs;omega
 ·show qh ((pe f y fs).lookup g) (if g=f then some u else mA g)
  rw[iJ];by_cases q:g=f
  ·rw[if_pos q,if_pos q];exact ry
  ·rw[if_neg q,if_neg q];exact r g
 ·by_cases q:g=f
  ·rw[q];exact(uI f y fs).1
  ·refine(uI f y fs).2 g (wi g λz=>hg ?_)
   show(if g=f then some u else mA g)=none
   rw[if_neg q];exact z
theorem Inv.made (I:Inv X pins σ H s):Inv X pins σ (upd (upd H s.heap.objs.size (.own (s.heap.objs.size+1))) (s.heap.objs.size+1) (.ins C s.heap.objs.size []))
  {s with heap:=(s.heap.push W.emptyDict).push (W.instObj C s.heap.objs.size)}:=by
 have e1:(s.heap.push W.emptyDict).get? s.heap.objs.size=some W.emptyDict:=az s.heap rfl;have e2:((s.heap.push W.emptyDict).push (W.instObj C s.heap.objs.size)).get? (s.heap.objs.size+1)=some (W.instObj C s.heap.objs.size):=by
  have:=az (s.heap.push W.emptyDict) (o:=W.instObj C s.heap.objs.size) rfl
  rwa [Heap.size_push]at this
 have e3:(s.heap.push W.emptyDict).Ns s.heap.objs.size (λ_=>none):=⟨W.emptyDict,#[],_,e1,rfl,(λe he=>absurd he (by simp)),λ_=>rfl⟩
 have I1:=I.laid (a:=s.heap.objs.size) (o:=.own (s.heap.objs.size+1)) (h':=s.heap.push W.emptyDict) (t':=s.toks) (λb u q=>ag _ q) (au _) ⟨_,e1⟩
 refine I1.laid (a:=s.heap.objs.size+1) (o:=.ins C s.heap.objs.size []) (t':=s.toks) (λb u q=>ag _ q) (Nat.le_of_eq (Heap.size_push _ _)) ?_
 have ne:s.heap.objs.size≠s.heap.objs.size+1:=aE (Nat.lt_succ_self _);refine⟨by rw[cV ne,dc],bN _,ne,e2,λ_=>none,(Heap.Ns1.of_empty e3).at λo q=>ag _ q,λ_=>True.intro,λy hy=>absurd rfl hy⟩
theorem L9 {prog:cB}{w:cC}{env:Env}{e:cG}{f:Str}{pos:Pos}{s:cz}{Q:ck}(hb:attributeBase e f env (eval e env)=eval e env)
  (h:wpAny (model prog w) A (eval e env) (λo s₁=>wpAny (model prog w) A (getAttr o f true) Q E s₁) E s):wpAny (model prog w) A (eval (.Attribute e f pos) env) Q E s:=
 Attribute_any_ h (by rw[arm_eval_Attribute,hb])
end
def Sh (K:W.Frag) (ta:TE) (f:Str):TE:=λσ H Q=>ta σ H λx H1=>∃a C dx fs v,x=.ref a/\H1 a=some (.ins C dx fs)/\LN K C/\qo K C f/\fs.lookup f=some v/\Q v H1
def Vu (K:W.Frag) (ta tv:TE) (f:Str):TS:=λD σ H=>tv σ H λy H1=>ta σ H1 λx H2=>∃a C dx fs,x=.ref a/\H2 a=some (.ins C dx fs)/\LN K C/\qo K C f/\fs.length<1000/\
 D.nx σ (upd H2 a (.ins C dx (pe f y fs)))
section
variable {X:Cx}{o e value:cG}{f:Str}{pos pos' n6:Pos}{ta tv:TE}
theorem Ax (he:PE X e ta) (hb:attributeBase e f X.env (eval e X.env)=eval e X.env):PE X (.Attribute e f pos) (Sh X.K ta f):=by
 intro pins s σ H Q I h;refine L9 hb (iu (he pins s σ H _ I h) λu s1 ⟨x,H1,I1,rx,a,C,dx,fs,v,ex,ea,c,n,l,q⟩=>?_)
 subst ex;obtain rfl:u=Value.ref a:=rx;exact DU I1 ea c n l λu' s2 I2 ru=>⟨v,H1,I2,ru,q⟩
theorem Ja (ha:PE X o ta) (hv:PE X value tv) (hs:swapsWith value (some (.Attribute o f pos')) pos.line X.env=pure false):PS X (.Assign [.Attribute o f pos'] value pos) (Vu X.K ta tv f):=by
 intro pins s σ H D I h;refine plainObj_wpAny_Assign_Attribute (iu (hv pins s σ H _ I h) λu s1 ⟨y,H1,I1,ry,q⟩=>iu (ha pins s1 σ H1 _ I1 q) λov s2 ⟨x,H2,I2,rx,a,C,dx,fs,ex,ea,c,n,l,q2⟩=>?_) hs
 subst ex;obtain rfl:ov=Value.ref a:=rx;exact DW I2 ea c n l ry λs3 I3=>⟨σ,_,I3,q2⟩
end
section
variable {X:Cx}{pins:cn}{σ:St}{H:Hp}{s:cz}{A:cD}{E:ck}{Q:ck}{c:cy}{b:Bool}
inductive tm (K:W.Frag) (H:Hp):V->cy->Prop where
 |eD:tm K H .eD (.type "NoneType")
 |bl (x:Bool):tm K H (.bl x) (.type "bool")
 |int (i:Int):tm K H (.int i) (.type "int")
 |str (x:Str):tm K H (.str x) (.type "str")
 |OO (x:UInt64):tm K H (.OO x) (.type "float")
 |lst {a:cF}{xs:List V}(e:H a=some (.lst xs)):tm K H (.ref a) (.type "list")
 |yD {a:cF}{o:Obj}{xs:List V}(e:H a=some (.yD o (.lst xs))):tm K H (.ref a) (.type "list")
 |tup {a:cF}{xs:List V}(e:H a=some (.tup xs)):tm K H (.ref a) (.type "tuple")
 |dK {a:cF}{kvs:List (Key×V)}(e:H a=some (.dK kvs)):tm K H (.ref a) (.type "dict")
 |dT {a:cF}{kvs:List (List Key×V)}(e:H a=some (.dT kvs)):tm K H (.ref a) (.type "dict")
 |ins {a C dx:cF}{fs:List (Str×V)}(e:H a=some (.ins C dx fs)) (cl:LN K C) (ha:W.findIn K (.ref C) "__class__"=some (some (.builtin "object.__class__")))
   (hn:W.specialIn K (.builtin "object.__class__") "__get__"=some (some (.builtin "getset_descriptor.__get__"))) (Xx:W.takesIn K (.builtin "object.__class__")=some true)
   (hm:W.mroIn K C (.type "object")=some true):tm K H (.ref a) (.ref C)
theorem G5 {x:V}{u t:cy}(I:Inv X pins σ H s) (rx:RelV x u) (ty:tm X.K H x t) (e:W.kitOne X.K t c=some b) (h:∀tk,Q (.bool b) {s with toks:=tk}):
  wpAny (model X.prog X.w) A (call (.builtin "isinstance") [u,c]) Q E s:=by
 cases ty with
 |eD=>cases (show u=Value.none from rx);exact bX W.kitx_none I.v8 True.intro e (λz=>nomatch z) h
 |bl y=>cases (show u=Value.bool y from rx);exact bX W.kitx_bool I.v8 True.intro e (λz=>nomatch z) h
 |int i=>obtain⟨t,q⟩:=(show ∃t,u=Value.int i t from rx);cases q;exact bX W.kitx_int I.v8 True.intro e (λz=>nomatch z) h
 |str y=>obtain⟨t,q⟩:=(show ∃t,u=Value.str y t from rx);cases q;exact bX W.kitx_str I.v8 True.intro e (λz=>nomatch z) h
 |OO y=>obtain⟨t,q⟩:=(show ∃t,u=Value.float y t from rx);cases q;exact bX W.kitx_float I.v8 True.intro e (λz=>nomatch z) h
 |@lst a xs ea=>
  cases (show u=Value.ref a from rx)
  obtain⟨_,_,n,_,h1⟩:=(show gF X.prog X.w H s.heap a (.lst xs)from I.fX a _ ea)
  exact bX W.kitx_list I.v8 ⟨_,h1,rfl⟩ e (λz=>nomatch z) h
 |@yD a ob xs ea=>
  cases (show u=Value.ref a from rx)
  obtain⟨_,_,_,n,_,h1⟩:=(show gF X.prog X.w H s.heap a (.yD ob (.lst xs))from I.fX a _ ea)
  exact bX W.kitx_list I.v8 ⟨_,h1,rfl⟩ e (λz=>nomatch z) h
 |@tup a xs ea=>
  cases (show u=Value.ref a from rx)
  obtain⟨_,_,_,p⟩:=(show gF X.prog X.w H s.heap a (.tup xs)from I.fX a _ ea)
  obtain⟨o,h1,h2,_⟩:=p;exact bX W.kitx_tuple I.v8 ⟨o,h1,h2⟩ e (λz=>nomatch z) h
 |@dK a kvs ea=>
  cases (show u=Value.ref a from rx)
  obtain⟨_,_,vs,_,p⟩:=(show gF X.prog X.w H s.heap a (.dK kvs)from I.fX a _ ea)
  obtain⟨o,es,ep,h1,h2,_⟩:=p;exact bX W.kitx_dict I.v8 ⟨o,h1,h2.1⟩ e (λz=>nomatch z) h
 |@dT a kvs ea=>
  cases (show u=Value.ref a from rx)
  obtain⟨_,_,xs,_,o,es,ep,h1,h2,_⟩:=(show gF X.prog X.w H s.heap a (.dT kvs)from I.fX a _ ea)
  exact bX W.kitx_dict I.v8 ⟨o,h1,h2.1⟩ e (λz=>nomatch z) h
 |@ins a C dx fs ea cl ha hn Xx hm=>
  cases (show u=Value.ref a from rx)
  obtain⟨mA,O,_⟩:=mj I.fX ea;obtain⟨od,J,_⟩:=O.look;exact bX (W.kitx_own (cl.get _) cl.hd ha hn Xx hm) I.v8 J e (λz=>nomatch z) h
end
end L2
namespace L2
open PySem PySem.Spec PyProof.Rows
structure gn (k:Nat) (A:cD):Prop where
 hd:A.handled=none
 dp:A.depth+3*k+5<recursionLimit
 un:A.units+16*k+200<cLine
 gd:A.guards=some []
theorem gn.mono {j k:Nat}{A:cD}(r:gn k A) (h:j<=k):gn j A:=⟨r.hd,by have:=r.dp;omega,by have:=r.un;omega,r.gd⟩
theorem gn.deeper {k:Nat}{A:cD}(r:gn (k+1) A) (env:Env):gn k (A.deeper env):=
 ⟨r.hd,by have:=r.dp;show A.depth+1+3*k+5<_;omega,by have:=r.un;show A.units+3+16*k+200<_;omega,r.gd⟩
theorem DX {A:cD}{C:cF}{us:cx}{kw:List (Str×cy)}:(A.under (.builtin "type.__call__" ⟨.ref C::us,kw⟩)).depth=A.depth+1:=by
 first|rfl|simp[Around.under,Code.weight,Code.isCreation,Code.isGuard,Code.isCaller,Code.frames,Code.isFrame,guardIds]
theorem DY {A:cD}{C:cF}{us:cx}{kw:List (Str×cy)}:(A.under (.builtin "type.__call__" ⟨.ref C::us,kw⟩)).units=A.units+1:=by
 first|rfl|simp[Around.under,Code.cUnits,Code.frames,Code.isFrame]
theorem BL {A:cD}{C:cF}{us:cx}{kw:List (Str×cy)}:(A.under (.builtin "type.__call__" ⟨.ref C::us,kw⟩)).guards=A.guards:=by
 cases A with|mk hd d fr gs u=>cases gs<;>rfl
theorem gn.make {k:Nat}{A:cD}(r:gn (k+1) A) (C:cF) (us:cx) (kw:List (Str×cy)):gn k (A.under (.builtin "type.__call__" ⟨.ref C::us,kw⟩)):=
 ⟨r.hd,by have:=r.dp;rw[DX];omega,by have:=r.un;rw[DY];omega,BL.trans r.gd⟩
theorem gn.depth {k:Nat}{A:cD}(r:gn k A):A.depth<recursionLimit:=by have:=r.dp;omega
theorem gn.units {k:Nat}{A:cD}(r:gn k A):A.units+64<cLine:=by have:=r.un;omega
def Vv:TA:=λ_ H Q=>Q [] H
def Si (ta:TE) (tr:TA):TA:=λσ H Q=>ta σ H λx H1=>tr σ H1 λxs H2=>Q (x::xs) H2
section
variable {X:Cx}{e:cG}{es:List cG}{te:TE}{t:TA}{pos:Pos}
theorem sL:PA X [] Vv:=λ_ _ _ _ H Q I h=>Calls.spliced_nil ⟨[],H,I,.nil,h⟩
theorem lr (ha:PE X e te) (hr:PA X es t) (hs:starEach (e::es) X.env=(false,eval e X.env)::starEach es X.env:=by rfl):PA X (e::es) (Si te t):=by
 intro pos pins s σ H Q I h;rw[hs];show wpAny _ _ (spliced ((false,eval e X.env)::backTo pos (starEach es X.env))) _ _ s;refine Calls.spliced_cons (iu (ha pins s σ H _ I h) λu s1 ⟨x,H1,I1,r1,q1⟩=>?_)
 exact iu (hr pos pins s1 σ H1 _ I1 q1) λus s2 ⟨xs,H2,I2,r2,q2⟩=>⟨x::xs,H2,I2,.cons r1 r2,q2⟩
def Vw (t:TA):TE:=λσ H Q=>t σ H λxs H1=>xs.length<=sizeLine/\∀p,H1 p=none->Q (.ref p) (upd H1 p (.tup xs))
def Vx (t:TA):TE:=λσ H Q=>t σ H λxs H1=>xs.length<=sizeLine/\∀p,H1 p=none->Q (.ref p) (upd H1 p (.lst xs))
theorem Pg {x1} (h:PA X es t):PE X (.Tuple es x1 pos) (Vw t):=by
 intro pins s σ H Q I hq;refine wpAny_Tuple_spliced (iu (h pos pins s σ H _ I hq) λus s1 ⟨xs,H1,I1,r,z,q⟩=>⟨by rw[<-r.length];exact z,?_⟩)
 have hf:H1 s1.heap.objs.size=none:=I1.fX.fresh (au _);refine⟨.ref s1.heap.objs.size,upd H1 s1.heap.objs.size (.tup xs),I1.laid (t':=s1.toks) (λb u e=>ag _ e) (au _) ?_,rfl,q _ hf⟩
 exact⟨z,us,r,⟨_,az _ rfl,rfl,_,rfl⟩⟩
theorem Ph (h:PA X es t):PE X (.List es pos) (Vx t):=by
 intro pins s σ H Q I hq;refine wpAny_List_spliced (iu (h pos pins s σ H _ I hq) λus s1 ⟨xs,H1,I1,r,z,q⟩=>⟨by rw[<-r.length];exact z,?_⟩)
 have hf:H1 s1.heap.objs.size=none:=I1.fX.fresh (au _);refine⟨.ref s1.heap.objs.size,upd H1 s1.heap.objs.size (.lst xs),I1.laid (t':=s1.toks) (λb u e=>ag _ e) (au _) ?_,rfl,q _ hf⟩
 exact⟨z,us,0,r,az _ rfl⟩
end
abbrev Sp:=List V->Hp->VK->XK->Prop
abbrev G6:=List Env->Hp->cz->XK->ck
structure DZ (P:cB) (w:cC) (K:W.Frag) (mg:cm) (base:Heap) (A:cD) (outer:List Env) (s:cz) (H:Hp):Prop where
 frames:A.frames=some outer
 mod:Mod K mg base
 bs:∀b o,base.get? b=some o->s.heap.get? b=some o/\H b=none
 LL:base.objs.size<=s.heap.objs.size
 vL:s.heap.FunFrames base outer
 OR:∀b∈Iw outer,H b=none
 fX:sd P w H s.heap
 bare:AllBare s.gens
 tb:GV K mg base H
theorem GV.un {K:W.Frag}{mg:cm}{base:Heap}{fs ex:List cF}{H H':Hp}{h h':Heap}(t:GV K mg base H) (u:Un fs ex H H' h h'):GV K mg base H':=λx c Pt pos qual hm ht=>by
 obtain⟨⟨m1,e1⟩,hr⟩:=t x c Pt pos qual hm ht;obtain⟨m2,e2⟩:=u.yF Pt _ e1;exact⟨⟨m1++m2,by rw[e2,Array.append_assoc]⟩,hr⟩
def CE (outer:List Env) (P:cB) (w:cC) (H:Hp) (s:cz) (Q:VK) (u:cy) (s':cz):Prop:=
 ∃v H',s'.os=s.os/\AllBare s'.gens/\Un (Iw outer) [] H H' s.heap s'.heap/\sd P w H' s'.heap/\RelV v u/\Q v H'
def CR (CX:G6) (outer:List Env) (P:cB) (w:cC) (H:Hp) (s:cz) (Q:VK) (E:XK) (r:Result) (s':cz):Prop:=
 match r with
 |.ok (.ret u)=>CE outer P w H s Q u s'
 |.ok _=>False
 |.error e=>CX outer H s E e s'
structure eE (P:cB) (w:cC) (K:W.Frag) (mg:cm) (base:Heap) (CX:G6) (k:Nat) (f:cF) (fd:cA) (ps:List Str) (sp:Sp):Prop where
 len:∀vs H Q E,sp vs H Q E->vs.length=ps.length
 run:∀(A:cD) (outer:List Env) (s:cz) (H:Hp) (args:Args) (us:cx) (vs:List V) (Q:VK) (E:XK),gn k A->DZ P w K mg base A outer s H->BindsTo s fd args (ps.zip us)->Vals vs us->sp vs H Q E->
  codeAny (model P w) A (.call (.ref f) args) (CR CX outer P w H s Q E) s
theorem eE.mono {P:cB}{w:cC}{K:W.Frag}{mg:cm}{base:Heap}{CX:G6}{j k:Nat}{f:cF}{fd:cA}{ps:List Str}{sp:Sp}(F:eE P w K mg base CX j f fd ps sp) (h:j<=k):
  eE P w K mg base CX k f fd ps sp:=⟨F.len,λA outer s H args us vs Q E hr=>F.run A outer s H args us vs Q E (hr.mono h)⟩
theorem eE.imp {P:cB}{w:cC}{K:W.Frag}{mg:cm}{base:Heap}{CX:G6}{k:Nat}{f:cF}{fd:cA}{ps:List Str}{sp Xy:Sp}(F:eE P w K mg base CX k f fd ps sp)
  (h:∀vs H Q E,Xy vs H Q E->sp vs H Q E):eE P w K mg base CX k f fd ps Xy:=
 ⟨λvs H Q E q=>F.len vs H Q E (h _ _ _ _ q),λA outer s H args us vs Q E hr he hb hv hs=>F.run A outer s H args us vs Q E hr he hb hv (h _ _ _ _ hs)⟩
theorem DZ.make {P:cB}{w:cC}{K:W.Frag}{mg:cm}{base:Heap}{A:cD}{outer:List Env}{s:cz}{H:Hp}(e:DZ P w K mg base A outer s H) (C:cF) (us:cx) (kw:List (Str×cy)):
  DZ P w K mg base (A.under (.builtin "type.__call__" ⟨.ref C::us,kw⟩)) outer s H:=⟨by first|exact e.frames|(simpa [Around.under,Code.envs,Code.isFrame,pushEnvs]using e.frames),e.mod,e.bs,e.LL,e.vL,e.OR,e.fX,e.bare,e.tb⟩
section
variable {X:Cx}{pins:cn}{σ:St}{H:Hp}{s s':cz}
theorem Inv.Sj (I:Inv X pins σ H s):DZ X.prog X.w X.K X.mg X.base X.A X.stack s H:=
 ⟨I.ok.frames,I.ok.mod,I.bs,aD I.ok.LL I.sz,I.stack,I.Fp,I.fX,I.bare,I.ok.tb.un I.base⟩
theorem Inv.after {Q:VK}{u:cy}(I:Inv X pins σ H s) (h:CE X.stack X.prog X.w H s Q u s'):EP X pins σ Q u s':=by
 obtain⟨v,H',os,bare,un,fX,r,q⟩:=h;obtain⟨hh,g,d,t,Sk⟩:=s';obtain rfl:Sk=s.os:=os;exact⟨v,H',I.call (h':=hh) (g':=g) (d':=d) (t':=t) (ch:=[]) un fX bare (λb z=>absurd z (by simp)),r,q⟩
end
def N4 (sp:Sp) (Ay:List V) (E:XK) (t:TA):TE:=λσ H Q=>t σ H λvs H1=>sp (vs++Ay) H1 Q E
def Sm (C:cF) (m:Str) (sp:Sp) (Ay:List V) (E:XK) (ta:TE) (t:TA):TE:=λσ H Q=>ta σ H λx H1=>∃a dx fs,x=.ref a/\H1 a=some (.ins C dx fs)/\fs.lookup m=none/\
 t σ H1 λvs H2=>sp (x::(vs++Ay)) H2 Q E
def Sn (C:cF) (sp:Sp) (Ay:List V) (E:XK) (t:TA):TE:=λσ H Q=>t σ H λvs H1=>∀x dx,H1 x=none->H1 dx=none->dx≠x->
 sp (.ref x::(vs++Ay)) (upd (upd H1 dx (.own x)) x (.ins C dx [])) (λv H2=>v=.eD/\Q (.ref x) H2) E
def Binds (K:W.Frag) (fd:cA) (ps:List Str) (ds:cx):Prop:=
 ∀(s:cz) (us:cx),K.In s.heap->(us++ds).length=ps.length->BindsTo s fd ⟨us,[]⟩ (ps.zip (us++ds))
theorem Binds.all {K:W.Frag}{fd:cA}{ps:List Str}(h:∀us:cx,us.length=ps.length->bindArgs fd ⟨us,[]⟩=pure (ps.zip us)):Binds K fd ps []:=λs us _ hl=>by
 rw[bD]at hl ⊢;exact .of_eq (h us hl)
def Passes (CX:G6) (X:Cx) (E:XK):Prop:=∀(pins:cn) (σ:St) (H:Hp) (s:cz) (e:cy) (s':cz),Inv X pins σ H s->CX X.stack H s E e s'->X.xe e s'
section
variable {X:Cx}{CX:G6}{k:Nat}{f C:cF}{fd:cA}{ps:List Str}{sp:Sp}{Ay:List V}{ds:cx}{E:XK}{x m:Str}{p pos apos:Pos}{e o:cG}{es:List cG}{ta:TE}{t:TA}
theorem Jb {pins:cn}{σ:St}{H:Hp}{s:cz}{Q:VK}{us:cx}{vs:List V}(F:eE X.prog X.w X.K X.mg X.base CX k f fd ps sp) (hr:gn k X.A) (hb:Binds X.K fd ps ds) (hd:Vals Ay ds) (hx:Passes CX X E)
  (I:Inv X pins σ H s) (r:Vals vs us) (h:sp (vs++Ay) H Q E):wpAny (model X.prog X.w) X.A (call (.ref f) us) (EP X pins σ Q) X.xe s:=by
 have r2:Vals (vs++Ay) (us++ds):=r.append hd;have hl:(us++ds).length=ps.length:=by rw[<-r2.length];exact F.len _ _ _ _ h
 refine wpAny_call (codeAny_mono (F.run X.A X.stack s H ⟨us,[]⟩ (us++ds) (vs++Ay) Q E hr I.Sj (hb s us I.v8 hl) r2 h) λr s' hq=>?_)
 cases r with
 |error e=>exact hx pins σ H s e s' I hq
 |ok fl=>
  cases fl with
  |ret u=>exact I.after hq
  |next=>exact False.elim hq
  |brk=>exact False.elim hq
  |cont=>exact False.elim hq
theorem Fx (F:eE X.prog X.w X.K X.mg X.base CX k f fd ps sp) (hr:gn k X.A) (hg:Gl X x) (hm:X.mg x=some (.ref f)) (hk:W.keepIn X.K (.ref f)=true) (hb:Binds X.K fd ps ds) (hd:Vals Ay ds) (hx:Passes CX X E)
  (ha:PA X (e::es) t) (rV:(x==("__debug__":Str))=false:=by decide) (he:starEach (e::es) X.env=(false,eval e X.env)::starEach es X.env:=by rfl) (jX:(backTo pos (starEach es X.env)).any (·.1)=false:=by rfl):
  PE X (.Call (.Name x p) (e::es) [] pos) (N4 sp Ay E t):=by
 intro pins s σ H Q I h;refine wpAny_Call_Name_kw (As I hg hm ?_ rV);refine W.callWith_K (h₀:=X.base) I.ok.mod.RM hk (iu (ha pos pins s σ H _ I h) λus s1 ⟨vs,H1,I1,r,q⟩=>⟨I1.v8,?_⟩) he jX
 exact Jb F hr hb hd hx I1 r q
theorem Fy {pl:Sem Bool}(he:PE X o ta) (c:LN X.K C) (hm:Meth X.K C m f) (F:eE X.prog X.w X.K X.mg X.base CX k f fd ps sp) (hr:gn k X.A) (hb:Binds X.K fd ps ds) (hd:Vals Ay ds) (hx:Passes CX X E) (ha:PA X (e::es) t)
  (n5:starEach (e::es) X.env=(false,eval e X.env)::starEach es X.env:=by rfl) (jX:(backTo pos (starEach es X.env)).any (·.1)=false:=by rfl)
  (ht:eval (.Call (.Attribute o m apos) (e::es) [] pos) X.env=(do
   let ov <-eval o X.env
   standAt apos.atName
   let (f,first) <-holding [ov] (getMethod ov m pl)
   callWith pos f first (backTo pos (starEach (e::es) X.env)) (backToKw pos (keywordEach [] X.env))):=by rfl):
  PE X (.Call (.Attribute o m apos) (e::es) [] pos) (Sm C m sp Ay E ta t):=by
 intro pins s σ H Q I h;refine W.methodCall_KW (pl:=pl) (iu (he pins s σ H _ I h) λu s1 ⟨x,H1,I1,rx,a,dx,fs,ex,ea,l,q⟩=>?_) ht
 subst ex;obtain rfl:u=Value.ref a:=rx;refine DV I1 ea c hm l ?_;refine W.callWith_K (first:=[.ref a]) (h₀:=X.base) I.ok.mod.RM hm.kp (iu (ha pos pins s1 σ H1 _ I1 q) λus s2 ⟨vs,H2,I2,r,q2⟩=>⟨I2.v8,?_⟩) n5 jX
 exact Jb (us:=.ref a::us) (vs:=.ref a::vs) F hr hb hd hx I2 (.cons rfl r) q2
structure Mk (K:W.Frag) (C f:cF):Prop where
 makes:W.makesIn K C=true
 init:W.findIn K (.ref C) "__init__"=some (some (.ref f))
 fn:W.isFn K (.ref f)=true
 kp:W.keepIn K (.ref C)=true
theorem Jc {pins:cn}{σ:St}{H:Hp}{s:cz}{Q:VK}{us:cx}{vs:List V}(M:Mk X.K C f) (F:eE X.prog X.w X.K X.mg X.base CX k f fd ps sp) (hr:gn (k+1) X.A) (hb:Binds X.K fd ps ds) (hd:Vals Ay ds)
  (hx:Passes CX X E) (I:Inv X pins σ H s) (r:Vals vs us)
  (h:∀x dx,H x=none->H dx=none->dx≠x->sp (.ref x::(vs++Ay)) (upd (upd H dx (.own x)) x (.ins C dx [])) (λv H2=>v=.eD/\Q (.ref x) H2) E):
  wpAny (model X.prog X.w) X.A (call (.ref C) us) (EP X pins σ Q) X.xe s:=by
 have hq:=h (s.heap.objs.size+1) s.heap.objs.size (I.fX.fresh (Nat.le_succ _)) (I.fX.fresh (au _)) (aE (Nat.lt_succ_self _));have I2:=Inv.made (C:=C) I;have r2:Vals (V.ref (s.heap.objs.size+1)::(vs++Ay)) (Value.ref (s.heap.objs.size+1)::(us++ds)):=.cons rfl (r.append hd);have hl:(Value.ref (s.heap.objs.size+1)::us++ds).length=ps.length:=by
  have e:=r2.length;rw[F.len _ _ _ _ hq]at e;exact e.symm
 refine wpAny_call (IZ (f:=f) I.v8 M.makes M.init (beq_iff_eq.mp M.fn) (codeAny_mono (F.run _ X.stack _ _ ⟨Value.ref (s.heap.objs.size+1)::us,[]⟩ (Value.ref (s.heap.objs.size+1)::(us++ds)) _ _ E (hr.make C us [])
  (I2.Sj.make C us []) (hb _ (Value.ref (s.heap.objs.size+1)::us) I2.v8 hl) r2 hq) λr s' Sq=>?_))
 cases r with
 |error e=>exact hx pins σ _ _ e s' I2 Sq
 |ok fl=>
  cases fl with
  |ret u=>
   obtain⟨v,H',I3,rv,ev,q3⟩:=I2.after Sq;subst ev;exact⟨rv,⟨V.ref (s.heap.objs.size+1),H',I3,rfl,q3⟩⟩
  |next=>exact False.elim Sq
  |brk=>exact False.elim Sq
  |cont=>exact False.elim Sq
theorem Ma (M:Mk X.K C f) (F:eE X.prog X.w X.K X.mg X.base CX k f fd ps sp) (hr:gn (k+1) X.A) (hg:Gl X x) (hm:X.mg x=some (.ref C)) (hb:Binds X.K fd ps ds) (hd:Vals Ay ds) (hx:Passes CX X E)
  (ha:PA X (e::es) t) (rV:(x==("__debug__":Str))=false:=by decide) (he:starEach (e::es) X.env=(false,eval e X.env)::starEach es X.env:=by rfl) (jX:(backTo pos (starEach es X.env)).any (·.1)=false:=by rfl):
  PE X (.Call (.Name x p) (e::es) [] pos) (Sn C sp Ay E t):=by
 intro pins s σ H Q I h;refine wpAny_Call_Name_kw (As I hg hm ?_ rV);refine W.callWith_K (h₀:=X.base) I.ok.mod.RM M.kp (iu (ha pos pins s σ H _ I h) λus s1 ⟨vs,H1,I1,r,q⟩=>⟨I1.v8,?_⟩) he jX
 exact Jc M F hr hb hd hx I1 r q
end
section
variable {X:Cx}{CX:G6}{k:Nat}{f C:cF}{fd:cA}{ps ks:List Str}{sp:Sp}{E:XK}{x m:Str}{p pos apos ZV:Pos}{e o:cG}{es:List cG}{kws:List Keyword}{te ta:TE}{t tk:TA}{nm:Option Str}
variable {g:cx->cx->cx}{gV:List V->List V->List V}
end
structure dD (N P:List Str) (sc:Scope):Prop where
 kind:sc.kind=.function:=by rfl
 co:sc.isCoroutine=false:=by rfl
 gen:sc.isGenerator=false:=by rfl
 nd:N.Nodup:=by decide +kernel
 pre:N.take P.length=P:=by rfl
 par:∀x∈P,sc.names.lookup x=some .local\/sc.names.lookup x=some .cell:=by decide +kernel
 Pj:∀y∈sc.names,y.2≠.free:=by decide +kernel
theorem zx {kindOf:Str->Option NameKind}{x:Str}:∀{binds:List (Str×cy)}{m:cm},(∀v,(x,v)∉binds)->bindL kindOf binds m x=m x
 |[],_,_=>rfl
 |(n,v)::r,m,h=>by
  unfold bindL;rw[zx λw hw=>h w (ai _ hw)]
  split
  ·have:x≠n:=by rintro rfl;exact h v af
   simp[this]
  ·rfl
theorem zy {kindOf:Str->Option NameKind}{x:Str}:∀{binds:List (Str×cy)}{m:cm},(∀v,(x,v)∉binds)->bindC kindOf binds m x=m x
 |[],_,_=>rfl
 |(n,v)::r,m,h=>by
  unfold bindC;rw[zy λw hw=>h w (ai _ hw)]
  split
  ·rfl
  ·have:x≠n:=by rintro rfl;exact h v af
   simp[this]
theorem zA {kindOf:Str->Option NameKind}{x:Str}{v:cy}:∀{P:List Str}{vs:cx}{i:Nat}{m:cm},P.Nodup->P[i]? =some x->vs[i]? =some v->kindOf x=some .local->
  bindL kindOf (P.zip vs) m x=some v
 |[],_,_,_,_,h,_,_=>by simp at h
 |_::_,[],_,_,_,_,h,_=>by simp at h
 |p::P,w::vs,0,m,nd,h1,h2,hk=>by
  simp at h1 h2;subst h1;subst h2;show bindL kindOf ((p,w)::P.zip vs) m p=_;unfold bindL;rw[zx λv hv=>(List.nodup_cons.mp nd).1 (List.of_mem_zip hv).1,if_pos hk]
  simp
 |p::P,w::vs,i+1,m,nd,h1,h2,hk=>by
  show bindL kindOf ((p,w)::P.zip vs) m x=_;unfold bindL;exact zA (i:=i) (List.nodup_cons.mp nd).2 (by simpa using h1) (by simpa using h2) hk
theorem zB {kindOf:Str->Option NameKind}{x:Str}{v:cy}:∀{P:List Str}{vs:cx}{i:Nat}{m:cm},P.Nodup->P[i]? =some x->vs[i]? =some v->kindOf x≠some .local->
  bindC kindOf (P.zip vs) m x=some v
 |[],_,_,_,_,h,_,_=>by simp at h
 |_::_,[],_,_,_,_,h,_=>by simp at h
 |p::P,w::vs,0,m,nd,h1,h2,hk=>by
  simp at h1 h2;subst h1;subst h2;show bindC kindOf ((p,w)::P.zip vs) m p=_;unfold bindC;rw[zy λv hv=>(List.nodup_cons.mp nd).1 (List.of_mem_zip hv).1,if_neg hk]
  simp
 |p::P,w::vs,i+1,m,nd,h1,h2,hk=>by
  show bindC kindOf ((p,w)::P.zip vs) m x=_;unfold bindC;exact zB (i:=i) (List.nodup_cons.mp nd).2 (by simpa using h1) (by simpa using h2) hk
def start (N:List Str) (vs:List V):St:=vs.map some++List.replicate (N.length-vs.length) none
def qp (CX:G6) (P:cB) (w:cC) (K:W.Frag) (mg:cm) (base:Heap) (N:List Str) (qual:Str) (scope:Scope) (f:cF) (cd:cy) (A:cD) (outer:List Env) (s:cz) (H:Hp) (E:XK):Cx where
 prog:=P
 w:=w
 K:=K
 mg:=mg
 base:=base
 A:=A.deeper (envOfC qual scope s.heap.objs.size f cd)
 N:=N
 s₀:=s
 H₀:=H
 env:=envOfC qual scope s.heap.objs.size f cd
 outer:=outer
 stack:=envOfC qual scope s.heap.objs.size f cd::outer
 ex:=[]
 calm:=true
 fn:=λ_=>true
 pn:=[]
 xe:=λe s'=>wpAny (model P w) (A.deeper (envOfC qual scope s.heap.objs.size f cd)) (leaving (envOfC qual scope s.heap.objs.size f cd) e) (λ_ Iy=>CX outer H s E e Iy) (λe' Iy=>CX outer H s E e' Iy) s'
theorem BM {sc:Scope}{n:Nat}{x:Str}(h:sc.names.lookup x=some .cell):∃c,(cellsFrom n sc.names []).lookup x=some c:=by
 have q:=W.cellsFrom_some sc.names n [] (.inl h);exact Option.isSome_iff_exists.mp q
theorem G7 {CX:G6}{P:cB}{w:cC}{K:W.Frag}{mg:cm}{base:Heap}{N ps:List Str}{qual:Str}{scope:Scope}{f:cF}{cd:cy}{A:cD}{outer:List Env}{s s1:cz}{H:Hp}{E:XK}{us:cx}{vs:List V}
  (S:dD N ps scope) (hd:A.handled=none) (e0:DZ P w K mg base A outer s H) (hl:vs.length=ps.length) (r:Vals vs us)
  (x:InCallC s s.heap.objs.size (bindL (envOfC qual scope s.heap.objs.size f cd).kindOf (ps.zip us) λ_=>none) (cellsFrom (s.heap.objs.size+1) scope.names []) (bindC (envOfC qual scope s.heap.objs.size f cd).kindOf (ps.zip us) λ_=>none) s1):
  Inv (qp CX P w K mg base N qual scope f cd A outer s H E) [] (start N vs) H s1:=by
 have jX:ps.length<=N.length:=by have:=congrArg List.length S.pre;rw[bL]at this;omega
 obtain⟨h1,tk,rfl,hk⟩:=x.done;have Sr:∀b:cF,b∉(qp CX P w K mg base N qual scope f cd A outer s H E).ex:=λb z=>absurd (show b∈([]:List cF)from z) (by simp)
 refine⟨⟨e0.mod,S.kind,rfl,rfl,au _,λy z c h1 h2=>?_,λy hy=>?_,λy c _ h=>?_,λ_=>hd,Around.frames_deeper e0.frames,.inr ⟨rfl,rfl⟩,λb z=>absurd z (Sr b),e0.bs,e0.LL,λb _ _=>Sr b,λb z=>absurd z (Sr b),e0.vL,e0.OR,e0.tb⟩,
  rfl,e0.bare,Un.kept hk,⟨_,x.toInCall.ns,λi y v h1 h2 h3=>?_⟩,λy c h=>⟨_,x.cell y c h⟩,e0.fX.fresh (au _),λy c h=>?_,λp hp=>absurd (show p∈([]:cn)from hp) (by simp),e0.fX.kept hk,?_⟩
 ·exact name_of_addr x.apart (PySem.mem_of_lookup h1) (PySem.mem_of_lookup h2)
 ·have hy:scope.names.lookup y=some .cell\/scope.names.lookup y=some .free:=hy;rcases hy with hy|hy
  ·exact BM hy
  ·exact absurd rfl (S.Pj _ (PySem.mem_of_lookup hy))
 ·exact bh (x.above y c (PySem.mem_of_lookup h))
 ·have hi:i<vs.length:=by
   unfold start at h2;by_cases hi:i<vs.length
   ·exact hi
   ·rw[aQ (by simpa using hi)]at h2
    rw[bg]at h2;split at h2<;>cases h2
  have ha:vs[i]? =some v:=by
   unfold start at h2;rw[aK (by simpa using hi),av]at h2
   cases e:vs[i]? with
   |none=>rw[e]at h2;cases h2
   |some a=>rw[e]at h2;cases h2;rfl
  obtain⟨u,hu,rv⟩:=r.get ha;have hp:ps[i]? =some y:=by
   rw[<-S.pre,List.getElem?_take_of_lt (by omega)];exact h1
  have Xz:ps.Nodup:=by rw[<-S.pre];exact S.nd.sublist (List.take_sublist _ _)
  refine⟨u,rv,?_⟩;rcases S.par y (bo hp)with k|k
  ·exact .inl ⟨k,zA Xz hp hu k⟩
  ·obtain⟨c,e⟩:=BM (n:=s.heap.objs.size+1) k;refine .inr ⟨.inl k,c,e,?_⟩;have q:=x.cell y c e;rw[zB Xz hp hu (by show scope.names.lookup y≠_;rw[k];decide)]at q
   exact q
 ·exact e0.fX.fresh (bh (x.above y c (PySem.mem_of_lookup h)))
 ·unfold start;show _=N.length;rw[aR,ae,List.length_replicate];omega
theorem N5 {CX:G6}{P:cB}{w:cC}{K:W.Frag}{mg:cm}{base:Heap}{k:Nat}{f:cF}{name qual:Str}{params:Arguments}{body:List cH}{scope:Scope}{dV kV doc pm fL ct oc:cy}{an od:cu}
  {Mb:cv}{N ps:List Str}{sp:Sp}(lk:K.lookup f=some ⟨oc,od,.func (W.fnOf name qual params body scope dV kV doc pm an fL ct),Mb⟩) (yH:W.codeIn K fL qual=true) (S:dD N ps scope)
  (len:∀vs H Q E,sp vs H Q E->vs.length=ps.length)
  (js:∀(A:cD) (outer:List Env) (s:cz) (H:Hp) (vs:List V) (Q:VK) (E:XK),gn k (A.deeper (envOfC qual scope s.heap.objs.size f fL))->sp vs H Q E->
   ∃t,yA (qp CX P w K mg base N qual scope f fL A outer s H E) body t/\t {nx:=λ_ H'=>Q .eD H',rt:=Q} (start N vs) H):
  eE P w K mg base CX (k+1) f (W.fnOf name qual params body scope dV kV doc pm an fL ct) ps sp:=by
 refine⟨len,λA outer s H args us vs Q E hr e0 hb r LO=>?_⟩
 have hl:=len _ _ _ _ LO;have KX:K.In s.heap:=e0.mod.RM.keeps λb o e=>(e0.bs b o e).1
 have lim:s.heap.NoLimit:=e0.mod.nolimit.keeps λb o e=>(e0.bs b o e).1
 have Ss:∀y∈ps.zip us,scope.names.lookup y.1=some .local\/(scope.names.lookup y.1=some .cell/\((cellsFrom (s.heap.objs.size+1) scope.names []).lookup y.1).isSome=true):=λ⟨n,v⟩ hy=>by
  rcases S.par n (List.of_mem_zip hy).1 with q|q
  ·exact .inl q
  ·exact .inr ⟨q,W.cellsFrom_some _ _ _ (.inl q)⟩
 refine codeAny_call_function hr.depth (KX _ _ lk) rfl S.co S.gen rfl (W.codeRec_of KX yH) (hb _ _ _ _ ?_);refine wpAny_newFunctionEnv_cells S.kind Ss λenv he s1 x=>?_
 subst he;refine⟨lim.keeps x.toInCall.keep,codeAny_func ?_⟩;obtain⟨t,ht,hq⟩:=js A outer s H vs Q E (hr.deeper _) LO;have I:Inv (qp CX P w K mg base N qual scope f fL A outer s H E) [] (start N vs) H s1:=G7 S hr.hd e0 hl r x;refine bR (ht [] s1 (start N vs) H _ I hq) (λfl s' hs=>?_) λe s' hs=>hs
 have fin:∀{σ':St}{H':Hp}{v:V}{u:cy},Inv (qp CX P w K mg base N qual scope f fL A outer s H E) [] σ' H' s'->RelV v u->Q v H'->CE outer P w H s Q u s':=
  λ{σ' H' v u} J rv q=>⟨v,H',J.os,J.bare,J.base,J.fX,rv,q⟩
 cases fl with
 |ret u=>
  obtain⟨v,σ',H',J,rv,q⟩:=hs;exact fin J rv q
 |next=>
  obtain⟨σ',H',J,q⟩:=hs;exact fin (v:=V.eD) (u:=Value.none) J rfl q
 |brk=>
  obtain⟨_,_,_,q⟩:=hs;exact False.elim q
 |cont=>
  obtain⟨_,_,_,q⟩:=hs;exact False.elim q
end L2
namespace L2
open PySem PySem.Spec PyProof.Rows
section
variable {X:Cx}{x:Str}{p pos:Pos}{e:cG}{es:List cG}{t:TA}{id T:String}{r:List V->Hp->VK->Prop}
def Ux (r:List V->Hp->VK->Prop) (t:TA):TE:=λσ H Q=>t σ H λvs H1=>r vs H1 Q
theorem wJ (hc:jl X (.builtin id) r) (hg:Gl X x) (hm:X.mg x=none) (hv:bootBuiltins x=some (.builtin id)) (ha:PA X (e::es) t) (hn:x≠"__name__":=by decide) (rV:(x==("__debug__":Str))=false:=by decide)
  (he:starEach (e::es) X.env=(false,eval e X.env)::starEach es X.env:=by rfl) (jX:(backTo pos (starEach es X.env)).any (·.1)=false:=by rfl):PE X (.Call (.Name x p) (e::es) [] pos) (Ux r t):=by
 intro pins s σ H Q I h;refine wpAny_Call_Name_kw (qj I hg hm hv ?_ hn rV);exact PyProof.Rows.callWith_builtin1 (iu (ha pos pins s σ H _ I h) λus s1 ⟨vs,H1,I1,r1,q1⟩=>hc pins s1 σ H1 vs us Q I1 r1 q1) he jX
theorem zC (hc:jl X (.type T) r) (hg:Gl X x) (hm:X.mg x=none) (hv:bootBuiltins x=some (.type T)) (ha:PA X (e::es) t) (hn:x≠"__name__":=by decide) (rV:(x==("__debug__":Str))=false:=by decide)
  (he:starEach (e::es) X.env=(false,eval e X.env)::starEach es X.env:=by rfl) (jX:(backTo pos (starEach es X.env)).any (·.1)=false:=by rfl):PE X (.Call (.Name x p) (e::es) [] pos) (Ux r t):=by
 intro pins s σ H Q I h;refine wpAny_Call_Name_kw (qj I hg hm hv ?_ hn rV);exact PyProof.Rows.callWith_type1 (iu (ha pos pins s σ H _ I h) λus s1 ⟨vs,H1,I1,r1,q1⟩=>hc pins s1 σ H1 vs us Q I1 r1 q1) he jX
end
end L2
namespace HT
open PySem PyProof.Rows
def lexLt:cq->cq->Bool
 |[],[]=>false
 |[],_::_=>true
 |_::_,[]=>false
 |x::xs,y::ys=>if x=y then lexLt xs ys else decide (x<y)
theorem jD (x y:Int) (xs ys:cq):lexLt (x::xs) (y::ys)=if x=y then lexLt xs ys else decide (x<y):=rfl
theorem yJ:lexLt [] []=false:=rfl
theorem qq (y:Int) (ys:cq):lexLt [] (y::ys)=true:=rfl
theorem qr (x:Int) (xs:cq):lexLt (x::xs) []=false:=rfl
theorem Jd (A:cD) (s:cz) (a:Int) (t:Tok) (c:Int) (u:Tok):∃e,SeqAt.EqAt A s (.int a t) (.int c u) e/\(e=true↔a=c):=
 ⟨(a==c),SeqAt.EqAt.int_int a t c u,by simp⟩
theorem Je (A:cD) (s:cz) (a:Int) (t:Tok) (c:Int) (u:Tok) (prog:cB) (w:cC) (E:ck) (Q:ck) (h:Q (.bool (decide (a<c))) s):
  wpAny (model prog w) A (richCompare .Lt (.int a t) (.int c u)) Q E s:=
 (PyProof.Rows.lt_int h:wpAny (model prog w) A (compareOp .Lt (.int a t) (.int c u)) Q E s)
section
open PySem.SeqAt
open PySem.AutoSeq1 (wpAny_loadPart')
open PySem.MeetsSeq PySem.MeetsSeq2 PySem.MeetsSeq3
theorem se (l b:cF) (items gJ:Array cy) (n n2:Nat) (dd LP:cu) (sl Jf:cv) (ns ms:cq) (hi:IntsAre items.toList ns) (hj:IntsAre gJ.toList ms):
  Meets (Builtin.«tuple.__lt__» ⟨[.ref l,.ref b],[]⟩)
   (λ_ R s=>s.heap.get? l=some {cls:=.type "tuple",dict:=dd,data:=.seq items n,slots:=sl}/\s.heap.get? b=some {cls:=.type "tuple",dict:=LP,data:=.seq gJ n2,slots:=Jf}/\
    R (.ok (.ret (.bool (lexLt ns ms)))) s):=
 .of_wp λprog w A R s h=>by
  obtain⟨hp,g,d,tk,os⟩:=s;obtain⟨hl,hb,h⟩:=h;have f2:=AutoSeq1.sub_tuple_tuple;have z1:items.size=ns.length:=by rw[<-hi.length];simp
  have z2:gJ.size=ms.length:=by rw[<-hj.length];simp
  wp_walk using wpAny_loadPart' hl,wpAny_loadPart' hb,wpAny_forIn_list _ (λrest b s'=>b.1=none/\s'=⟨hp,g,d,tk,os⟩/\∃(vs ws:cx) (BE Rw:cq),rest=vs.zip ws/\
   IntsAre vs BE/\IntsAre ws Rw/\BE.length+gJ.size=Rw.length+items.size/\R (.ok (.ret (.bool (lexLt BE Rw)))) ⟨hp,g,d,tk,os⟩) _
  case turn=>
   rintro⟨y,x⟩ rest b s' ⟨Mc,rfl,vs,ws,BE,Rw,hz,Vy,Uy,hlen,hR⟩
   cases Vy with
   |nil=>rw[List.zip_nil_left]at hz;cases hz
   |cons a t Vz=>
    cases Uy with
    |nil=>rw[List.zip_nil_right]at hz;cases hz
    |cons c u VA=>
     rw[List.zip_cons_cons]at hz;injection hz with ZW Su
     injection ZW with hy hx
     subst hy hx;rw[jD]at hR;simp only[ax]at hlen;obtain⟨e,he,Sv⟩:=Jd A.in1 ⟨hp,g,d,tk,os⟩ a t c u;refine aa (he prog w _ _ ?_);cases e with
     |true=>
      rw[if_pos (Sv.mp rfl)]at hR
      wp_walk
      exact⟨rfl,rfl,_,_,_,_,Su,Vz,VA,by omega,hR⟩
     |false=>
      rw[if_neg (λq=>absurd (Sv.mpr q) bc)]at hR
      have ZX:=Je A.in1 ⟨hp,g,d,tk,os⟩ a t c u prog w
      wp_walk using ZX
      exact⟨_,rfl,by simpa using hR⟩
  case fin=>
   rintro⟨b1,b2⟩ s' ⟨Mc,rfl,vs,ws,BE,Rw,hz,Vy,Uy,hlen,hR⟩
   simp only at Mc;subst Mc;have hv:lexLt BE Rw=decide (items.size<gJ.size):=by
    cases Vy with
    |nil=>
     cases Uy with
     |nil=>
      simp only[List.length_nil]at hlen;rw[yJ];exact(aH (by omega)).symm
     |cons c u hw=>
      simp only[List.length_nil,ax]at hlen;rw[qq];exact(aS (by omega)).symm
    |cons a t hv=>
     cases Uy with
     |nil=>
      simp only[List.length_nil,ax]at hlen;rw[qr];exact(aH (by omega)).symm
     |cons c u hw=>
      rw[List.zip_cons_cons]at hz;cases hz
   rw[hv]at hR
   wp_walk
   exact⟨_,rfl,by simpa [Builtin.Tuple.tupleCompareSizes]using hR⟩
  case h=>
   exact⟨rfl,rfl,items.toList,gJ.toList,ns,ms,rfl,hi,hj,by omega,h⟩
end
section
variable {prog:cB}{w:cC}{A:cD}{E:ck}{s:cz}
theorem D1 {l b:cF}{items gJ:Array cy}{ns ms:cq}{Q:ck}(hl:IsTup s.heap l items) (hb:IsTup s.heap b gJ) (hi:IntsAre items.toList ns) (hj:IntsAre gJ.toList ms)
  (hu:A.units<cLine) (h:Q (.bool (lexLt ns ms)) s):wpAny (model prog w) A (compareOp .Lt (.ref l) (.ref b)) Q E s:=by
 obtain⟨⟨cls,dd,data,sl⟩,ho,hc,n,hd⟩:=id hl;obtain⟨⟨Pk,LP,data2,Jf⟩,vN,vk,n2,hd2⟩:=id hb;simp only at hc hd vk hd2;subst hc hd vk hd2;exact richCompare_meets_room (op:=.Lt) ⟨_,ho,rfl⟩ ⟨_,vN,rfl⟩ PySem.F.slot_tuple_lt PySem.F.entry_tuple_lt (PySem.F.args_tuple_lt_2 _ _) (se l b items gJ n n2 dd LP sl Jf ns ms hi hj)
  ⟨ho,vN,show Value.bool (lexLt ns ms)≠Value.notImplemented/\Q (.bool (lexLt ns ms)) s from⟨(λx=>nomatch x),h⟩⟩ hu
theorem Md {t b:cF}{vs ws:cx}{Q:ck}(ht:IsTup s.heap t vs.toArray) (hb:IsTup s.heap b ws.toArray) (hv:vs≠[])
  (h1:ws=[]->Q (.ref t) s) (h2:ws≠[]->Q (.ref s.heap.objs.size) {s with heap:=s.heap.push {cls:=.type "tuple",data:=.seq (vs++ws).toArray}})
  (hsz:vs.length+ws.length<=sizeLine):wpAny (model prog w) A (binaryOp .Add (.ref t) (.ref b)) Q E s:=by
 obtain⟨⟨cls,dd,data,sl⟩,ho,hc,n,hd⟩:=id ht;obtain⟨⟨Pk,LP,data2,Jf⟩,vN,vk,n2,hd2⟩:=id hb;simp only at hc hd vk hd2;subst hc hd vk hd2;have e:vs.toArray++ws.toArray=(vs++ws).toArray:=by simp
 by_cases hw:ws=[]
 ·exact concat_meets ⟨_,ho,rfl⟩ ⟨_,vN,rfl⟩ noFill_tuple_add seq_tuple_add PySem.F.slot_tuple_add PySem.F.entry_tuple_add (PySem.F.args_tuple_add_2 _ _)
   (tuple_addW1 t b vs.toArray ws.toArray n n2 dd LP sl Jf (by simpa using hv) (by simp[hw])) ⟨ho,vN,h1 hw⟩
 ·refine concat_meets ⟨_,ho,rfl⟩ ⟨_,vN,rfl⟩ noFill_tuple_add seq_tuple_add PySem.F.slot_tuple_add PySem.F.entry_tuple_add (PySem.F.args_tuple_add_2 _ _)
   (tuple_addW2 t b vs.toArray ws.toArray n n2 dd LP sl Jf (by simpa using hv) (by simpa using hw) (by rw[aq,aq];exact hsz)) ⟨ho,vN,?_⟩
  rw[e];exact h2 hw
def iF (n d:Nat):Option Int->Nat
 |none=>d
 |some v=>if v<0 then(v+(n:Int)).toNat else min v.toNat n
theorem Pl (n d:Nat) (hd:d<=n) (o:Option Int):iF n d o<=n:=by
 cases o with
 |none=>exact hd
 |some v=>
  show(if v<0 then(v+(n:Int)).toNat else min v.toNat n)<=n
  by_cases hv:v<0
  ·rw[if_pos hv];omega
  ·rw[if_neg hv];exact Nat.min_le_right _ _
theorem Fz (v:Int) (n d:Nat):(if v<0 then max (v+(n:Int)) 0 else min v (n:Int))=((iF n d (some v):Nat):Int):=by
 show(if v<0 then max (v+(n:Int)) 0 else min v (n:Int))=(((if v<0 then(v+(n:Int)).toNat else min v.toNat n):Nat):Int)
 by_cases hv:v<0
 ·simp only[if_pos hv];omega
 ·simp only[if_neg hv];omega
theorem D2 (lo hi:Option Int) (n:Nat):Builtin.Slice.sliceAdjust lo hi 1 (n:Int)=(((iF n 0 lo:Nat):Int),((iF n n hi:Nat):Int)):=by
 have h1:¬ ((1:Int)<0):=by omega
 unfold Builtin.Slice.sliceAdjust;simp only[h1,bF];refine Prod.ext ?_ ?_
 ·cases lo with
  |none=>rfl
  |some v=>exact Fz v n 0
 ·cases hi with
  |none=>rfl
  |some v=>exact Fz v n n
theorem D3 (i j:Nat):Builtin.Slice.slicePlaces (i:Int) (j:Int) 1=j-i:=by
 unfold Builtin.Slice.slicePlaces;have h1:(1:Int)>0:=by omega
 simp only[h1,if_true,Int.ediv_one];split<;>omega
theorem wK {v:cy}{o:Option Int}{Q:Option Int->cz->Prop}(p:IsPart v o) (h:Q o s):wpAny (model prog w) A (Builtin.Slice.slicePartIndex v) Q E s:=by
 cases p with
 |none=>exact slicePart_none h
 |int i t=>exact slicePart_int h
theorem oG {sl:cF}{vl vu:cy}{lo hi:Option Int}{n:Nat}{Q:Int×Int×Nat->cz->Prop}(hs:s.heap.IsSliceOf sl vl vu .none) (pl:IsPart vl lo) (pu:IsPart vu hi)
  (h:Q (((iF n 0 lo:Nat):Int),1,iF n n hi-iF n 0 lo) s):wpAny (model prog w) A (Builtin.Slice.sliceApplied (.ref sl) (pure (n:Int))) Q E s:=by
 obtain⟨os,Pn,Uz,Sw⟩:=id hs;unfold Builtin.Slice.sliceApplied Builtin.Slice.sliceFields;refine aa (aa (wpAny_field Pn Sw (x:=vl) rfl (aa (wpAny_field Pn Sw (x:=vu) rfl (aa (wpAny_field Pn Sw (x:=.none) rfl (aj ?_)))))));refine aa (slicePart_none ?_);show wpAny _ _ (if((1:Int)==0)=true then _ else _) _ _ s
 rw[if_neg (by decide)]
 refine aa (wK pl (aa (wK pu (aa (aj ?_)))));show wpAny _ _ (match Builtin.Slice.sliceAdjust lo hi 1 (n:Int)with|(lo,hi)=>pure (lo,(1:Int),Builtin.Slice.slicePlaces lo hi 1)) _ _ s
 rw[D2 lo hi n];show wpAny _ _ (pure (((iF n 0 lo:Nat):Int),(1:Int),Builtin.Slice.slicePlaces ((iF n 0 lo:Nat):Int) ((iF n n hi:Nat):Int) 1)) _ _ s;rw[D3];exact aj h
theorem Jg (xs:Array cy) (i k:Nat):((List.range k).filterMap λ(m:Nat)=>xs[((i:Int)+(m:Int)*1).toNat]?).toArray=((xs.toList.drop i).take k).toArray:=by
 have e:(λ(m:Nat)=>xs[((i:Int)+(m:Int)*1).toNat]?)=λm=>xs[i+m]? :=by
  funext m
  have:((i:Int)+(m:Int)*1).toNat=i+m:=by omega
  rw[this]
 rw[e];have:=pick_run xs i k;rw[List.filterMap_map]at this;have e2:((λx=>xs[x]?)∘λx=>i+x)=λm=>xs[i+m]? :=rfl
 rw[e2]at this;rw[this]
theorem tu {t sl:cF}{items:Array cy}{vl vu:cy}{lo hi:Option Int}{Q:ck}(ht:IsTup s.heap t items) (hs:s.heap.IsSliceOf sl vl vu .none) (pl:IsPart vl lo) (pu:IsPart vu hi)
  (hw:¬ (iF items.size 0 lo=0/\iF items.size items.size hi=items.size))
  (h:Q (.ref s.heap.objs.size) {s with heap:=s.heap.push {cls:=.type "tuple",data:=.seq ((items.toList.drop (iF items.size 0 lo)).take (iF items.size items.size hi-iF items.size 0 lo)).toArray}})
  (hsz:items.size<=sizeLine):wpAny (model prog w) A (getItem (.ref t) (.ref sl)) Q E s:=by
 have FA:sizeOk (.seq ((items.toList.drop (iF items.size 0 lo)).take (iF items.size items.size hi-iF items.size 0 lo)).toArray):=by
  show((items.toList.drop (iF items.size 0 lo)).take (iF items.size items.size hi-iF items.size 0 lo)).toArray.size<=sizeLine;rw[aq,bL,List.length_drop,aO];omega
 have hj:iF items.size items.size hi<=items.size:=Pl _ _ (au _) hi;obtain⟨os,Pn,Uz,Sw⟩:=id hs;have VB:s.TypeIs (.ref sl) "slice":=⟨os,Pn,Uz⟩;unfold getItem;try with_reducible refine bp ?_
 first|refine aa (aj ?_)|skip
 refine aa (wpAny_sequenceKey ht.typeIs (by decide) ?_)
 refine aa (wpAny_callSpecial?_slot (name:=Str.ofString "__getitem__") ht.typeIs PyProof.Rows.slot_tuple_getitem
  (bO PyProof.Rows.slot_tuple_getitem ht.typeIs entry_tuple_getitem ?_ (args_tuple_getitem _ _)))
 show wpAny _ _ (Builtin.Tuple.tupleItemsOf (.ref t)>>=_) _ _ s;refine aa (tupleItemsOf_ ht ?_);refine aa (wpAny_typeOf VB ?_);rw[if_pos (by decide)]
 refine aa (oG hs pl pu ?_);have ZY:¬ ((((iF items.size 0 lo:Nat):Int)==0&&(1:Int)==1&&(iF items.size items.size hi-iF items.size 0 lo)==items.size)=true):=by
  intro q;rw[Bool.and_eq_true,Bool.and_eq_true]at q;have q1:((iF items.size 0 lo:Nat):Int)=0:=eq_of_beq q.1.1;have q2:iF items.size items.size hi-iF items.size 0 lo=items.size:=eq_of_beq q.2;exact hw ⟨by omega,by omega⟩
 show wpAny _ _ (if(((iF items.size 0 lo:Nat):Int)==0&&(1:Int)==1&&(iF items.size items.size hi-iF items.size 0 lo)==items.size)=true then _ else _) _ _ s
 rw[if_neg ZY,Jg]
 first
  |exact aa (m:=Builtin.Tuple.tupleExact _) (bT (aj ⟨_,rfl,aj h⟩) FA)
  |exact aa (m:=Builtin.Tuple.tupleExact _) (bT (aa (aj (aj ⟨_,rfl,aj h⟩))) FA)
  |exact aa (aa (m:=Builtin.Tuple.tupleExact _) (bT (aj (aj ⟨_,rfl,aj h⟩)) FA))
  |exact aa (aa (m:=Builtin.Tuple.tupleExact _) (bT (aj ⟨_,rfl,aj h⟩) FA))
end
end HT
namespace L2
open PySem PySem.Spec PyProof.Rows
abbrev TO:=St->Hp->(Option Int->Hp->Prop)->Prop
def PO (X:Cx) (e:Option cG) (t:TO):Prop:=
 ∀(pins:cn) (s:cz) (σ:St) (H:Hp) (Q:Option Int->Hp->Prop),Inv X pins σ H s->t σ H Q->
  wpAny (model X.prog X.w) X.A (evalPart e X.env) (λu s'=>∃o H',Inv X pins σ H' s'/\IsPart u o/\Q o H') X.xe s
def Me:TO:=λ_ H Q=>Q none H
def Sy (t:TE):TO:=λσ H Q=>t σ H λx H1=>∃i,x=.int i/\Q (some i) H1
theorem intsAre_of {ns:cq}:∀{us:cx},Vals (ns.map V.int) us->IntsAre us ns:=by
 induction ns with
 |nil=>intro us r;rw[List.map_nil]at r;cases r;exact .nil
 |cons n ns ih=>
  intro us r;rw[aF]at r;cases r with
  |cons r1 r2=>
   obtain⟨t,e⟩:=r1;subst e;exact .cons n t (ih r2)
section
variable {X:Cx}{e:cG}{te:TE}{lo hi:Option cG}{tl th:TO}{pos p2:Pos}
theorem Mg:PO X none Me:=by
 intro pins s σ H Q I h;rw[evalPart_none];exact aj ⟨none,H,I,.none,h⟩
theorem Mh (h:PE X e te):PO X (some e) (Sy te):=by
 intro pins s σ H Q I hw;rw[evalPart_some];refine iu (h pins s σ H _ I hw) λu s1 ⟨x,H1,I1,r1,q1⟩=>?_
 obtain⟨i,rfl,q⟩:=q1;obtain⟨t,rfl⟩:=r1;exact⟨some i,H1,I1,.int i t,q⟩
def N6 (X:Cx) (r:V->Option Int->Option Int->Hp->VK->Prop):Prop:=
 ∀(pins:cn) (s:cz) (σ:St) (H:Hp) (x:V) (v vl vu:cy) (lo hi:Option Int) (sl:cF) (Q:VK),Inv X pins σ H s->RelV x v->s.heap.IsSliceOf sl vl vu .none->IsPart vl lo->IsPart vu hi->r x lo hi H Q->
  ∃T id,typeLookup (.type T) "__getitem__"=pure (some (.builtin id))/\s.TypeIs v T/\wpAny (model X.prog X.w) X.A (getItem v (.ref sl)) (EP X pins σ Q) X.xe s
theorem N6.or {r r':V->Option Int->Option Int->Hp->VK->Prop}(h:N6 X r) (h':N6 X r'):N6 X (λx lo hi H Q=>r x lo hi H Q\/r' x lo hi H Q):=by
 intro pins s σ H x v vl vu lo hi sl Q I rx hs pl pu q;rcases q with q|q
 ·exact h pins s σ H x v vl vu lo hi sl Q I rx hs pl pu q
 ·exact h' pins s σ H x v vl vu lo hi sl Q I rx hs pl pu q
def ZZ (r:V->Option Int->Option Int->Hp->VK->Prop) (te:TE) (tl th:TO):TE:=λσ H Q=>te σ H λx H1=>tl σ H1 λl H2=>th σ H2 λu H3=>r x l u H3 Q
theorem BN {r:V->Option Int->Option Int->Hp->VK->Prop}(hr:N6 X r) (he:PE X e te) (hl:PO X lo tl) (hu:PO X hi th):PE X (.Subscript e (.Slice lo hi none p2) pos) (ZZ r te tl th):=by
 intro pins s σ H Q I h;refine Subscript_ (iu (he pins s σ H _ I h) λv s1 ⟨x,H1,I1,r1,q1⟩=>?_)
 refine wpAny_Slice (iu (hl pins s1 σ H1 _ I1 q1) λvl s2 ⟨l,H2,I2,pl,q2⟩=>iu (hu pins s2 σ H2 _ I2 q2) λvu s3 ⟨u,H3,I3,pu,q3⟩=>?_)
 rw[evalPart_none];refine aj ?_;have I4:Inv X pins σ H3 {s3 with heap:=s3.heap.push {cls:=.type "slice",data:=.fields #[vl,vu,.none]}}:=I3.kept (t':=s3.toks) λb ob q=>ag _ q
 obtain⟨T,id,hT,ht,hg⟩:=hr pins {s3 with heap:=s3.heap.push {cls:=.type "slice",data:=.fields #[vl,vu,.none]}} σ H3 x v vl vu l u s3.heap.objs.size Q I4 r1 (Heap.IsSliceOf.new ..) pl pu q3
 show wpAny (model X.prog X.w) X.A (subscriptTail e (.Slice lo hi none p2) v (.ref s3.heap.objs.size)) (EP X pins σ Q) X.xe {s3 with heap:=s3.heap.push {cls:=.type "slice",data:=.fields #[vl,vu,.none]}}
 exact tail_any (ops:=[.ref s3.heap.objs.size,v]) ht hT hg (by with_unfolding_all rfl)
def BO (xs:List V) (lo hi:Option Int):List V:=(xs.drop (HT.iF xs.length 0 lo)).take (HT.iF xs.length xs.length hi-HT.iF xs.length 0 lo)
theorem vm (xs:List V) (lo hi:Option Int):(BO xs lo hi).length<=xs.length:=by
 unfold BO;rw[bL,List.length_drop];omega
def VC (K:W.Frag):V->Option Int->Option Int->Hp->VK->Prop:=λx lo hi H Q=>∃a xs,x=.ref a/\jr K H a xs/\
 ¬ (HT.iF xs.length 0 lo=0/\HT.iF xs.length xs.length hi=xs.length)/\∀p,H p=none->Q (.ref p) (upd H p (.tup (BO xs lo hi)))
theorem Po:N6 X (VC X.K):=by
 intro pins s σ H x v vl vu lo hi sl Q I rx hs pl pu h;obtain⟨a,xs,rfl,hx,hw,q⟩:=h;cases rx;obtain⟨dF,r,ht,hz⟩:=I.tuple hx;have hlen:dF.toArray.size=xs.length:=by rw[aq];exact r.length.symm
 refine⟨"tuple",_,PyProof.Rows.slot_tuple_getitem.lookup,ht.typeIs,?_⟩;refine HT.tu ht hs pl pu (by rw[hlen];exact hw) ?_ (by rw[hlen];exact hz)
 rw[hlen];refine⟨.ref s.heap.objs.size,_,I.laid (t':=s.toks) (o:=.tup (BO xs lo hi)) (λb ob q=>ag _ q) (au _) ?_,rfl,q _ (I.fX.fresh (au _))⟩
 exact⟨aD (vm xs lo hi) hz,_,(r.drop (HT.iF xs.length 0 lo)).take (HT.iF xs.length xs.length hi-HT.iF xs.length 0 lo),IsTup.new _ _⟩
def N7 (K:W.Frag):R2:=λx y H Q=>∃a b xs ys,x=.ref a/\y=.ref b/\jr K H a xs/\jr K H b ys/\xs≠[]/\xs.length+ys.length<=sizeLine/\
 (ys=[]->Q (.ref a) H)/\(ys≠[]->∀p,H p=none->Q (.ref p) (upd H p (.tup (xs++ys))))
theorem Vals.Az {xs:List V}{us:cx}(r:Vals xs us):us=[]↔xs=[]:=by
 cases r with
 |nil=>simp
 |cons _ _=>simp
theorem Mi:vM X (binaryOp .Add) (N7 X.K):=by
 intro pins s σ H x y v u Q I rx ry h;obtain⟨a,b,xs,ys,rfl,rfl,ha,hb,hx,hz,q1,q2⟩:=h;cases rx;cases ry;obtain⟨dF,r1,p1,_⟩:=I.tuple ha;obtain⟨fA,r2,p2,_⟩:=I.tuple hb;refine HT.Md p1 p2 (λz=>hx (r1.Az.mp z)) (λz=>⟨.ref a,H,I,rfl,q1 (r2.Az.mp z)⟩) (λz=>?_) (by rw[<-r1.length,<-r2.length];exact hz)
 refine⟨.ref s.heap.objs.size,_,I.laid (t':=s.toks) (o:=.tup (xs++ys)) (λb ob q=>ag _ q) (au _) ?_,rfl,q2 (λw=>z (r2.Az.mpr w)) _ (I.fX.fresh (au _))⟩
 exact⟨by rw[aR];exact hz,_,r1.append r2,IsTup.new _ _⟩
end
end L2
namespace L2
open PySem PySem.Spec PyProof.Rows
def sY (n:Nat) (i:Int):Option Nat:=if 0<=i then(if i<n then some i.toNat else none)else if -(n:Int)<=i then some (i+n).toNat else none
def lu {α:Type}(xs:List α) (i:Int):Option α:=(sY xs.length i).bind λj=>xs[j]?
theorem Mj {n:Nat}{i:Int}{j:Nat}(h:sY n i=some j):seqIndex? i n=some j/\j<n/\-(n:Int)<=i/\i<n:=by
 unfold sY at h;by_cases h0:0<=i
 ·rw[if_pos h0]at h;by_cases h1:i<n
  ·rw[if_pos h1]at h;have e:i.toNat=j:=aT h;exact⟨by rw[seqIndex_of h0 h1,e],by omega,by omega,h1⟩
  ·rw[if_neg h1]at h;cases h
 ·rw[if_neg h0]at h;by_cases h1: -(n:Int)<=i
  ·rw[if_pos h1]at h;have e:(i+n).toNat=j:=aT h;exact⟨by rw[seqIndex_neg (by omega) h1,e],by omega,h1,by omega⟩
  ·rw[if_neg h1]at h;cases h
theorem AA {α:Type}{xs:List α}{i:Int}{v:α}(h:lu xs i=some v):∃j,seqIndex? i xs.length=some j/\xs[j]? =some v/\j<xs.length/\-(xs.length:Int)<=i/\i<xs.length:=by
 unfold lu at h;cases e:sY xs.length i with
 |none=>rw[e]at h;cases h
 |some j=>
  rw[e]at h;obtain⟨h1,h2,h3,h4⟩:=Mj e;exact⟨j,h1,h,h2,h3,h4⟩
def nM (b:cG):Prop:=∀o i,subscripted b false o i=operate [o,i] (getItem o i)
def Jh (X:Cx) (r:R2):Prop:=
 ∀(value slice:cG) (pins:cn) (s:cz) (σ:St) (H:Hp) (x y:V) (v u:cy) (Q:VK),Inv X pins σ H s->RelV x v->RelV y u->r x y H Q->
  subscripted slice false v u=operate [v,u] (getItem v u)->wpAny (model X.prog X.w) X.A (subscriptTail value slice v u) (EP X pins σ Q) X.xe s
def Z0 (X:Cx) (id:String) (r:V->List V->Hp->VK->Prop):Prop:=
 ∀(pins:cn) (s:cz) (σ:St) (H:Hp) (x:V) (xs:List V) (v:cy) (us:cx) (Q:VK),Inv X pins σ H s->RelV x v->Vals xs us->r x xs H Q->
  wpAny (model X.prog X.w) X.A (call (.builtin id) (v::us)) (EP X pins σ Q) X.xe s
section
variable {X:Cx}{a b:cG}{ta tb:TE}{pos:Pos}
theorem Jh.or {r r':R2}(h:Jh X r) (h':Jh X r'):Jh X (λx y H Q=>r x y H Q\/r' x y H Q):=by
 intro value slice pins s σ H x y v u Q I rx ry q hs;rcases q with q|q
 ·exact h value slice pins s σ H x y v u Q I rx ry q hs
 ·exact h' value slice pins s σ H x y v u Q I rx ry q hs
theorem Ji {r:R2}(hr:Jh X r) (ha:PE X a ta) (hb:PE X b tb) (hs:nM b):PE X (.Subscript a b pos) (R7 r ta tb):=by
 intro pins s σ H Q I h;exact Subscript_ (O5 ha hb I h λv u s2 x y H2 I2 rx ry q=>hr a b pins s2 σ H2 x y v u Q I2 rx ry q (hs _ _))
def Sz (K:W.Frag):R2:=λx y H Q=>∃p xs i v,x=.ref p/\y=.int i/\qk K H p xs/\lu xs i=some v/\Q v H
def SA (K:W.Frag):R2:=λx y H Q=>∃p xs i v,x=.ref p/\y=.int i/\jr K H p xs/\lu xs i=some v/\Q v H
def SD:R2:=λx y H Q=>∃z i c,x=.str z/\y=.int i/\z.length<=sizeLine/\lu z.cps.toList i=some c/\Q (.str ⟨#[c]⟩) H
theorem Ml:Jh X (Sz X.K):=by
 intro value slice pins s σ H x y v u Q I rx ry h hs;obtain⟨p,xs,i,z,rfl,rfl,hq,he,q⟩:=h;cases rx;obtain⟨t,rfl⟩:=ry;obtain⟨dF,r,pl,hz⟩:=I.list hq;obtain⟨j,h1,h2,h3,h4,h5⟩:=AA he;obtain⟨w,ew,Mm⟩:=r.get h2;have hl:=r.length;have hn:=uH;have fin:EP X pins σ Q w s:=⟨z,H,I,Mm,q⟩;by_cases h0:0<=i
 ·have hj:i.toNat=j:=by
   rw[seqIndex_of h0 h5]at h1;exact aT h1
  exact item_listR pl.isList h0 (by omega) (by rw[hj];simpa using ew) fin hs
 ·have hj:(i+(dF.toArray.size:Int)).toNat=j:=by
   rw[seqIndex_neg (by omega) h4]at h1
   rw[aq,<-hl];exact aT h1
  exact subscriptTail_builtinR (x:=w) pl.isList.typeIs slot_list_getitem.lookup
   (wpAny_getItem_list_neg (Q:=λr s'=>r=w/\EP X pins σ Q r s') pl.isList (by omega) (by rw[aq]<;>omega) (by omega) (by rw[hj];simpa using ew) ⟨rfl,fin⟩) hs
theorem Pp:Jh X (SA X.K):=by
 intro value slice pins s σ H x y v u Q I rx ry h hs;obtain⟨p,xs,i,z,rfl,rfl,hq,he,q⟩:=h;cases rx;obtain⟨t,rfl⟩:=ry;obtain⟨dF,r,pl,hz⟩:=I.tuple hq;obtain⟨j,h1,h2,h3,h4,h5⟩:=AA he;obtain⟨w,ew,Mm⟩:=r.get h2;have hl:=r.length;have hn:=uH;have fin:EP X pins σ Q w s:=⟨z,H,I,Mm,q⟩;exact subscriptTail_builtinR (x:=w) pl.typeIs slot_tuple_getitem.lookup
  (getItem_tuple (j:=j) (Q:=λr s'=>r=w/\EP X pins σ Q r s') pl (by omega) (by omega) (by rw[aq,<-hl];exact h1) (by simpa using ew) ⟨rfl,fin⟩) hs
theorem Pq:Jh X SD:=by
 intro value slice pins s σ H x y v u Q I rx ry h hs;obtain⟨z,i,c,rfl,rfl,hz,he,q⟩:=h;obtain⟨t,rfl⟩:=rx;obtain⟨t',rfl⟩:=ry;obtain⟨j,h1,h2,h3,h4,h5⟩:=AA he;have hl:z.cps.toList.length=z.length:=by simp[Str.length]
 rw[hl]at h1 h4 h5;have hn:=uH;exact tail_any (typeIs_str s z t) slot_str_getitem.lookup (getItem_str (c:=c) (by
  have e1:decide (i< -(2^63:Int))=false:=aH (by omega)
  have e2:decide (i ≥ 2^63)=false:=aH (by omega)
  rw[e1,e2,Bool.or_false]) (by rw[h1];simpa using h2) ⟨.str ⟨#[c]⟩,H,I.tok _,⟨_,rfl⟩,q⟩) hs
def XA (K:W.Frag):R2:=λx y H Q=>Sz K x y H Q\/SA K x y H Q\/SD x y H Q
theorem Pr:Jh X (XA X.K):=Ml.or (Pp.or Pq)
theorem AB (lo hi:Option Int) (n:Nat):(sliceBounds lo hi none n).1=((HT.iF n 0 lo:Nat):Int)/\(sliceBounds lo hi none n).2.1=((HT.iF n n hi:Nat):Int)/\(sliceBounds lo hi none n).2.2=1:=by
 refine⟨?_,?_,rfl⟩
 ·cases lo with
  |none=>simp[sliceBounds,HT.iF]
  |some i=>
   simp only[sliceBounds,HT.iF,Option.getD_none,show(1:Int)>0 by decide,if_true]
   by_cases h:i<0
   ·simp only[h,if_true]<;>omega
   ·simp only[h,bF]<;>omega
 ·cases hi with
  |none=>simp[sliceBounds,HT.iF]
  |some i=>
   simp only[sliceBounds,HT.iF,Option.getD_none,show(1:Int)>0 by decide,if_true]
   by_cases h:i<0
   ·simp only[h,if_true]<;>omega
   ·simp only[h,bF]<;>omega
theorem yK (dF:cx) (lo hi:Option Int):slicePick dF.toArray lo hi none=((dF.drop (HT.iF dF.length 0 lo)).take (HT.iF dF.length dF.length hi-HT.iF dF.length 0 lo)).toArray:=by
 obtain⟨h1,h2,h3⟩:=AB lo hi dF.toArray.size;unfold slicePick;rw[h1,h2,h3];simp only[sliceRange_one,pick_run,aq]<;>rfl
def VD (K:W.Frag):V->Option Int->Option Int->Hp->VK->Prop:=λx lo hi H Q=>∃a xs,x=.ref a/\qk K H a xs/\∀p,H p=none->Q (.ref p) (upd H p (.lst (BO xs lo hi)))
theorem Mn:N6 X (VD X.K):=by
 intro pins s σ H x v vl vu lo hi sl Q I rx hs pl pu h;obtain⟨a,xs,rfl,hx,q⟩:=h;cases rx;obtain⟨dF,r,ht,hz⟩:=I.list hx;have hlen:=r.length;refine⟨"list",_,slot_list_getitem.lookup,ht.isList.typeIs,?_⟩;refine wpAny_getItem_list_slice ht.isList hs pl pu .none (by simp) ?_ (by rw[aq]<;>omega)
 rw[yK,<-hlen];refine⟨.ref s.heap.objs.size,_,I.laid (t':=s.toks) (o:=.lst (BO xs lo hi)) (λb ob q=>ag _ q) (au _) ?_,rfl,q _ (I.fX.fresh (au _))⟩
 exact⟨aD (vm xs lo hi) hz,_,0,(r.drop (HT.iF xs.length 0 lo)).take (HT.iF xs.length xs.length hi-HT.iF xs.length 0 lo),az _ rfl⟩
theorem AD:jl X (.builtin "len") (λxs H Q=>∃p ys,xs=[.ref p]/\(qk X.K H p ys\/jr X.K H p ys)/\Q (.int ys.length) H):=by
 intro pins s σ H xs us Q I r h;obtain⟨p,ys,rfl,hq,q⟩:=h;obtain⟨u,rfl,rx⟩:=vals1 r;cases rx;have hn:=uH;rcases hq with hq|hq
 ·obtain⟨dF,r',pl,hz⟩:=I.list hq;have hlen:=r'.length;exact Calls.call_len_list pl.isList (by simp only[aq]<;>omega) ⟨.int ys.length,H,I.tok _,⟨s.toks+1,by rw[aq,hlen]⟩,q⟩
 ·obtain⟨dF,r',pl,hz⟩:=I.tuple hq;have hlen:=r'.length;exact len_tuple pl (by simp only[aq]<;>omega) ⟨.int ys.length,H,I.tok _,⟨s.toks+1,by rw[aq,hlen]⟩,q⟩
theorem AE:jl X (.builtin "len") (λxs H Q=>∃z,xs=[.str z]/\z.length<=sizeLine/\Q (.int z.length) H):=by
 intro pins s σ H xs us Q I r h;obtain⟨z,rfl,hz,q⟩:=h;obtain⟨u,rfl,t,rfl⟩:=vals1 r;have hn:=uH;exact len_str (by omega) ⟨.int z.length,H,I.tok _,⟨_,rfl⟩,q⟩
theorem jl.or {f:cy}{r r':List V->Hp->VK->Prop}(h:jl X f r) (h':jl X f r'):jl X f (λxs H Q=>r xs H Q\/r' xs H Q):=by
 intro pins s σ H xs us Q I rs q;rcases q with q|q
 ·exact h pins s σ H xs us Q I rs q
 ·exact h' pins s σ H xs us Q I rs q
theorem yL:jl X (.type "tuple") (λxs H Q=>∃p ys,xs=[.ref p]/\((qk X.K H p ys/\∀l,H l=none->Q (.ref l) (upd H l (.tup ys)))\/(jr X.K H p ys/\Q (.ref p) H))):=by
 intro pins s σ H xs us Q I r h;obtain⟨p,ys,rfl,h⟩:=h;obtain⟨u,rfl,rx⟩:=vals1 r;cases rx;rcases h with⟨hq,q⟩|⟨hq,q⟩
 ·obtain⟨dF,r',pl,hz⟩:=I.list hq;have hlen:=r'.length;refine call_tuple_list pl.isList (λh' kp=>?_) (by simp only[aq]<;>omega)
  have I1:Inv X pins σ H {s with heap:=h'}:=I.kept (t':=s.toks) kp
  have I2:Inv X pins σ (upd H h'.objs.size (.tup ys)) {s with heap:=h'.push {cls:=.type "tuple",data:=.seq dF.toArray}}:=
   I1.laid (t':=s.toks) (λb o e=>ag _ e) (au _) (show gF X.prog X.w _ _ _ (.tup ys)from⟨hz,dF,r',IsTup.new _ _⟩)
  exact⟨.ref h'.objs.size,_,I2,rfl,q _ (I1.fX.fresh (au _))⟩
 ·obtain⟨dF,r',pl,hz⟩:=I.tuple hq;exact call_tuple_same pl ⟨.ref p,H,I,rfl,q⟩
def XB (K:W.Frag) (T:String) (x:V) (H:Hp):Prop:=match x with
 |.str _=>T="str"
 |.int _=>T="int"
 |.ref p=>(T="list"/\∃xs,qk K H p xs)\/(T="tuple"/\∃o,K.lookup p=some o/\o.cls=.type "tuple"/\o.dict=none)\/
   (T="dict"/\((∃kvs,H p=some (.dK kvs))\/∃kvs,H p=some (.dT kvs)))\/(T="set"/\∃S n,H p=some (.set S n))
 |_=>False
theorem Pu {pins:cn}{σ:St}{H:Hp}{s:cz}{T:String}{x:V}{v:cy}(I:Inv X pins σ H s) (r:RelV x v) (ty:XB X.K T x H):
  s.TypeIs v T/\∀a,v=.ref a->∃ob,s.heap.get? a=some ob/\ob.dict=none:=by
 cases x with
 |str z=>
  obtain⟨t,rfl⟩:=r;cases (show T="str" from ty)
  exact⟨typeIs_str s z t,λ_ e=>nomatch e⟩
 |int i=>
  obtain⟨t,rfl⟩:=r;cases (show T="int" from ty)
  exact⟨typeIs_int s i t,λ_ e=>nomatch e⟩
 |ref p=>
  cases r;rcases ty with⟨rfl,xs,hq⟩|⟨rfl,o,hk,hc,hd⟩|⟨rfl,hk⟩|⟨rfl,S,n,hk⟩
  ·obtain⟨dF,_,pl,_⟩:=I.list hq;refine⟨pl.isList.typeIs,λa e=>?_⟩
   cases e;obtain⟨o,n,e,c,hd,_⟩:=pl;exact⟨o,e,hd⟩
  ·refine⟨⟨o,I.v8 p o hk,hc⟩,λa e=>?_⟩
   cases e;exact⟨o,I.v8 _ o hk,hd⟩
  ·have z:∃o,s.heap.get? p=some o/\o.ExactDict:=by
    rcases hk with⟨kvs,hk⟩|⟨kvs,hk⟩
    ·obtain⟨_,_,_,_,o,_,_,e,ex,_⟩:=I.fX p _ hk;exact⟨o,e,ex⟩
    ·obtain⟨_,_,_,_,o,_,_,e,ex,_⟩:=I.fX p _ hk;exact⟨o,e,ex⟩
   obtain⟨o,e,ex⟩:=z;refine⟨⟨o,e,ex.1⟩,λa e2=>?_⟩
   cases e2;exact⟨o,e,ex.2.1⟩
  ·obtain⟨o,_,_,_,e,ex,_⟩:=I.fX p _ hk;refine⟨⟨o,e,ex.1⟩,λa e2=>?_⟩
   cases e2;exact⟨o,e,ex.2.1⟩
 |_=>exact False.elim ty
def VE (K:W.Frag) (T:String) (r:V->List V->Hp->VK->Prop) (to:TE) (t:TA):TE:=λσ H Q=>to σ H λx H1=>XB K T x H1/\t σ H1 λxs H2=>r x xs H2 Q
variable {o e:cG}{es:List cG}{to:TE}{t:TA}{name:Str}{apos gm:Pos}{T id:String}{r:V->List V->Hp->VK->Prop}
theorem Jj (pa:PlainAttrs T) (slot:Slot T name id) (Z1:typeOf (.builtin id)=pure (.type "method_descriptor")) (hm:Z0 X id r) (ho:PE X o to) (ha:PA X (e::es) t)
  (oH:attributeBase o name X.env (eval o X.env)=eval o X.env:=by rfl)
  (uJ:((backTo gm (starEach (e::es) X.env)).all (λx=> !x.1)&&(backToKw gm (keywordEach [] X.env)).all (λx=>x.1.isSome)
   &&decide ((e::es).length+([]:List Keyword).length+(if([]:List Keyword).isEmpty then 0 else 1)<30))=true:=by rfl)
  (oJ:(apos.endLine==gm.line)=true:=by rfl) (hs:starEach (e::es) X.env=(false,eval e X.env)::starEach es X.env:=by rfl) (kL:(backTo gm (starEach es X.env)).any (·.1)=false:=by rfl):
  PE X (.Call (.Attribute o name apos) (e::es) [] gm) (VE X.K T r to t):=by
 intro pins s σ H Q I h;refine wpAny_Call_method_late oH uJ oJ rfl (iu (ho pins s σ H _ I h) λv s1 ⟨x,H1,I1,r1,ty,q1⟩=>?_)
 obtain⟨h1,h2⟩:=Pu I1 r1 ty;refine⟨T,id,pa,slot,Z1,h1,h2,?_⟩;have hA:=ha gm pins s1 σ H1 _ I1 q1;rw[hs]at hA ⊢;refine Calls.callWith_builtin (by show(false||(backTo gm (starEach es X.env)).any (·.1))=false;rw[kL]<;>rfl) (Calls.evalArgs_plain ?_)
 exact iu hA λus s2 ⟨vs,H2,I2,r2,q2⟩=>hm pins s2 σ H2 x vs v us Q I2 r1 r2 q2
end
end L2
namespace L2
open PySem PySem.Spec PyProof.Rows
def VF (X:Cx) (id:String) (r:V->List V->Hp->VK->Prop):Prop:=
 ∀(pins:cn) (s:cz) (σ:St) (H:Hp) (x:V) (xs:List V) (v:cy) (us:cx) (Q:VK),Inv X pins σ H s->RelV x v->Vals xs us->r x xs H Q->
  wpAny (model X.prog X.w) X.A (call (.builtin id) (v::us)) (EP X pins σ Q) X.xe s
theorem Vals.one:∀{x:V}{us:cx},Vals [x] us->∃u,us=[u]/\RelV x u
 |_,_,.cons r .nil=>⟨_,rfl,r⟩
theorem Vals.eraseIdx:∀{xs:List V}{us:cx}(i:Nat),Vals xs us->Vals (xs.eraseIdx i) (us.eraseIdx i)
 |_,_,_,.nil=>.nil
 |_,_,0,.cons _ t=>t
 |_,_,i+1,.cons r t=>.cons r (Vals.eraseIdx i t)
theorem uK {α:Type}:∀(l:List α) (i:Nat),(l.eraseIdx i).length<=l.length
 |[],_=>au _
 |_::_,0=>Nat.le_succ _
 |_::r,i+1=>Nat.succ_le_succ (uK r i)
section
variable {X:Cx}{pins:cn}{σ:St}{H:Hp}{s:cz}{l b:cF}{xs ys zs:List V}
theorem Inv.Pw {dF its':cx}{n:Nat}{f:Array cy->Array cy}{t':Nat}(I:Inv X pins σ H s) (hH:H l=some (.lst xs))
  (e:s.heap.get? l=some {cls:=.type "list",data:=.seq dF.toArray n}) (hf:f dF.toArray=its'.toArray) (hv:Vals ys its') (hz:ys.length<=sizeLine):
  Inv X pins σ (upd H l (.lst ys)) {s with heap:=s.heap.update l (Obj.mapSeq f),toks:=t'}:=by
 have q:=PySem.IsL.update e f;rw[hf]at q;refine I.write (x:=l) (e:=l) (by rw[hH];exact trivial) (.inl rfl) (λb' u hb hu=>(bA s.heap (Obj.mapSeq f) (Ne.symm hb)).trans hu) ⟨_,q⟩ ?_
 exact⟨hz,its',_,hv,q⟩
theorem Inv.Mp (I:Inv X pins σ H s) (hH:H l=some (.lst xs)):xs.length<=sizeLine/\∃(dF:cx) (n:Nat),Vals xs dF/\xs.length=dF.length/\s.heap.get? l=some {cls:=.type "list",data:=.seq dF.toArray n}:=by
 obtain⟨z,dF,n,r,e⟩:=I.fX l _ hH;exact⟨z,dF,n,r,r.length,e⟩
theorem Jk {n:Nat}(h:n<=sizeLine):Builtin.List.listTooLong n=false:=by
 unfold Builtin.List.listTooLong;exact aH (by omega)
end
section
variable {X:Cx}
def FC:V->List V->Hp->VK->Prop:=λx vs H Q=>∃l xs y,x=.ref l/\vs=[y]/\H l=some (.lst xs)/\xs.length<sizeLine/\Q .eD (upd H l (.lst (xs++[y])))
theorem zD:VF X "list.append" FC:=by
 intro pins s σ H x vs v us Q I rx rv h;obtain⟨l,xs,y,rfl,rfl,hH,hz,q⟩:=h;cases rx;obtain⟨u,rfl,ru⟩:=rv.one;obtain⟨z,dF,n,r,hl,e⟩:=I.Mp hH;refine call_meets F.slot_list_append ⟨_,e,rfl⟩ F.entry_list_append (F.args_list_append_2 _ _) (PySem.list_append l dF.toArray n u (by rw[aq];omega)) ⟨e,?_⟩
 refine⟨.eD,_,I.Pw (its':=dF++[u]) hH e (by simp) (r.append (.cons ru .nil)) ?_,rfl,q⟩
 rw[aR,List.length_singleton];omega
def Mq:V->List V->Hp->VK->Prop:=λx vs H Q=>∃l b xs zs,x=.ref l/\vs=[.ref b]/\H l=some (.lst xs)/\H b=some (.lst zs)/\xs.length+zs.length<=sizeLine/\Q .eD (upd H l (.lst (xs++zs)))
theorem G8:VF X "list.extend" Mq:=by
 intro pins s σ H x vs v us Q I rx rv h;obtain⟨l,b,xs,zs,rfl,rfl,hH,hB,hz,q⟩:=h;cases rx;obtain⟨u,rfl,ru⟩:=rv.one;cases ru;obtain⟨z,dF,n,r,hl,e⟩:=I.Mp hH;obtain⟨z2,fA,n2,r2,D4,e2⟩:=I.Mp hB;have hsz:dF.toArray.size+fA.toArray.size<=sizeLine:=by rw[aq,aq];omega
 have SE:¬ (!dF.toArray.isEmpty&&Builtin.List.listTooLong (dF.toArray.size+fA.toArray.size))=true:=by
  rw[Jk hsz,Bool.and_false];exact bc
 refine call_meets F.slot_list_extend ⟨_,e,rfl⟩ F.entry_list_extend (F.args_list_extend_2 _ _)
  (AutoSeq1.list_extend_list_list_0 l dF.toArray n b fA.toArray n2 SE (by rw[aq];omega) (by omega)) ⟨e,e2,?_⟩
 refine⟨.eD,_,I.Pw (its':=dF++fA) hH e (by simp) (r.append r2) ?_,rfl,q⟩
 rw[aR];omega
def Jl:V->List V->Hp->VK->Prop:=λx vs H Q=>∃l xs i k y,x=.ref l/\vs=[.int i]/\H l=some (.lst xs)/\-(2^63)<=i/\i<2^63/\seqIndex? i xs.length=some k/\xs[k]? =some y/\Q y (upd H l (.lst (xs.eraseIdx k)))
theorem Jm:VF X "list.pop" Jl:=by
 intro pins s σ H x vs v us Q I rx rv h;obtain⟨l,xs,i,k,y,rfl,rfl,hH,h1,h2,hk,hy,q⟩:=h;cases rx;obtain⟨u,rfl,ru⟩:=rv.one;obtain⟨t,rfl⟩:=ru;obtain⟨z,dF,n,r,hl,e⟩:=I.Mp hH;obtain⟨w,hw,Mm⟩:=r.get hy;refine call_meets F.slot_list_pop ⟨_,e,rfl⟩ F.entry_list_pop (F.args_list_pop_2 _ _)
  (MeetsSeq.list_pop_at l dF.toArray n i t k w (fitsIndex_both h1 h2) (by rw[aq,<-hl];exact hk) (by rw[<-Array.getElem?_toList];exact hw) (by rw[aq];omega)) ⟨e,?_⟩
 refine⟨y,_,I.Pw (its':=dF.eraseIdx k) hH e ?_ (r.eraseIdx k) ?_,Mm,q⟩
 ·show dF.toArray.eraseIdxIfInBounds k=(dF.eraseIdx k).toArray;rw[List.eraseIdxIfInBounds_toArray]
 ·have:=uK xs k;omega
end
section
variable {prog:cB}{w:cC}{A:cD}{E:ck}{s:cz}
end
section
variable {X:Cx}
end
end L2
namespace XC
open PySem PySem.W PySem.Calls PyProof.Rows
theorem vO {P:Params}{h:Heap}:∀(ns:cq) (vs:cx),WellAll P h vs (ns.map WData.int)->IntsAre vs ns:=by
 intro ns;induction ns with
 |nil=>
  intro vs w;rw[List.map_nil]at w;cases w;exact .nil
 |cons n ns ih=>
  intro vs w;rw[aF]at w;cases w with
  |cons a b=>
   cases a;exact .cons _ _ (ih _ b)
theorem G9 {l:OpenLaw}{n:Nat}(hn:l.most=some n) {P:Params}{h:Heap}{args:List WData}{vals:cx}
  (Mr:l.row.toRowW.claim.pre args=true) (VG:WellAll P h vals args):
  ∃a vs ns,vals=[Value.ref a]/\args=[WData.list (ns.map WData.int)]/\h.get? a=some {cls:=.type "list",data:=.seq vs.toArray}/\IntsAre vs ns/\ns.length<=n:=by
 have Z2:WShape.hasAll [] args [.list .int]=true:=(pre_splitW Mr).1;have hc:l.pre.holds [] {args:=args}=true:=(pre_splitW Mr).2;obtain⟨d,r,rfl,h1,h2⟩:=hasAllW_cons Z2;obtain rfl:=hasAllW_nil h2;obtain⟨xs,rfl,h3⟩:=hasW_list h1;obtain⟨ns,rfl⟩:=items_int h3;have hlen:ns.length<=n:=by
  unfold OpenLaw.pre at hc;have h4:(WTm.not (.lt (.lit (.int (n:Int))) (.len (.arg 0)))).holds [] {args:=[.list (ns.map .int)]}=true:=by
   have h4:=(holds_andW hc).1;rw[hn]at h4;exact h4
  have h5:=condW_of h4 (w_not (w_lt w_lit (w_len_list (w_arg rfl))));rw[ae]at h5;refine Nat.le_of_not_lt λq=>?_
  have q':(n:Int)<((ns.length:Nat):Int):=by omega
  first
   |(rw[aS q']at h5;exact absurd h5 (by decide))
   |(simp at h5;omega)
 cases VG with
 |cons w1 w2=>
  cases w2;cases w1 with
  |list ho wL=>exact⟨_,_,ns,rfl,rfl,ho,vO ns _ wL,hlen⟩
theorem Ha (l:OpenLaw) (args:List WData):l.row.toRowW.claim.post args (.bool true) args=true:=
 postW_of (r:=l.row.toRowW) (X:=(true==true))
  (show WShape.has [] (.bool true) .bool=true by first|rfl|decide|simp[WShape.has,WShape.arms,WShape.armsAll])
  (show(WTm.eq .res (.lit (.bool true))).value [] {args:=args,res:=some (.bool true),after:=args}=some (.bool (true==true))from w_eq_bool (w_res rfl) w_lit) rfl
theorem BP {l:OpenLaw}{n:Nat}{q:cB}{loose:List Str}{XP:(cm)->Heap->Prop}{YP:cC->Heap->Prop}{d:DefRec}
  (hn:l.most=some n) (SF:d.params.defaults=[])
  (call:∀(w:cC) (s₀ s₁:cz) (mg mb:cm) (fa:cF) (o:Obj) (pm cd doc:cy) (a:cF) (vs:cx) (ns:cq),
   Ground q loose [] XP w s₀ mg mb s₁.heap->YP w s₁.heap->
   s₁.heap.get? fa=some o->o.data=.func (docDef d.name d.params d.body d.scope pm cd doc)->s₁.heap.CodeRec cd d.name->mg d.name=some (.ref fa)->
   s₁.heap.get? a=some {cls:=.type "list",data:=.seq vs.toArray}->IntsAre vs ns->ns.length<=n->s₁.gens=#[]->
   codeAny (model l.prog w) callerA (.call (.ref fa) ⟨[.ref a],[]⟩) (λr s'=>r=.ok (.ret (.bool true))/\OldK s₁.heap s'.heap/\s'.os=s₁.os/\AllBare s'.gens) s₁):
  WalkO q loose XP YP l.row.toRowW d [] (λf vs=>PySem.call f vs):=by
 intro w s₀ s₁ mg mb G Y fa o pm cd doc dV kV ho hd yH hD SG hg args vals as Mr Z3 hrd VG SH;obtain rfl:dV=.none:=Dflts.none hD SF;obtain rfl:kV=.none:=Dflts.noKw hD;obtain⟨a,vs,ns,rfl,rfl,Px,hints,hlen⟩:=G9 hn Mr VG;refine enter_call (codeAny_mono (call w s₀ s₁ mg mb fa o pm cd doc a vs ns G Y ho (fd_plain hd) yH SG Px hints hlen hg) λr s' hq=>?_)
 obtain⟨rfl,h2,h3,h4⟩:=hq;exact⟨.inl ⟨.bool true,.bool true,[],rfl,λ_=>rfl,.bool true,Ha l _,λ_=>⟨List.Pairwise.nil,λ_ hm=>(nomatch hm)⟩⟩,h2,h3,h4⟩
section
variable {prog:cB}{w:cC}{A:cD}{E:ck}{s:cz}{K:Frag}
end
end XC
namespace L2
open PySem PySem.Spec PyProof.Rows
theorem rk:∀{vs:cx}{ns:cq},IntsAre vs ns->Vals (ns.map V.int) vs
 |_,_,.nil=>.nil
 |_,_,.cons n t h=>.cons ⟨t,rfl⟩ (rk h)
end L2
namespace L2
open PySem PySem.Spec PyProof.Rows
end L2
namespace L2
open PySem PySem.Spec PyProof.Rows
def inClass (s:cH) (j:Nat):cH:=match s with
 |.ClassDef _ _ _ body _ _ _ _ _ _ _=>body.getD j (.Pass ⟨0,0,0,0⟩)
 |_=>.Pass ⟨0,0,0,0⟩
def dO (s:cH):Arguments:=match s with
 |.FunctionDef _ a _ _ _ _ _ _ _ _=>a
 |_=>{posonlyargs:=[],args:=[],vararg:=none,kwonlyargs:=[],kw_defaults:=[],kwarg:=none,defaults:=[]}
def dw (s:cH):List cH:=match s with
 |.FunctionDef _ _ b _ _ _ _ _ _ _=>b
 |_=>[]
def cO (s:cH):Scope:=match s with
 |.FunctionDef _ _ _ _ _ _ sc _ _ _=>sc
 |_=>{kind:=.function,names:=[],isGenerator:=false,isCoroutine:=false}
abbrev iK:G6:=λ_ _ _ _ _ _=>False
abbrev E0:XK:=λ_ _ _=>False
theorem BQ {X:Cx}:Passes iK X E0:=λ_ _ _ _ _ _ _ h=>h.elim
structure mN (K:W.Frag) (x qual:Str) (st:cH) (f:cF) (fd:cA):Prop where
 ex:∃(oc:cy) (od:cu) (kV doc pm:cy) (an:cu) (fL ct:cy) (Mb:cv),
  fd=W.fnOf x qual (dO st) (dw st) (cO st) .none kV doc pm an fL ct/\K.lookup f=some ⟨oc,od,.func fd,Mb⟩/\W.codeIn K fL qual=true
 kp:W.keepIn K (.ref f)=true
section
variable {P:cB}{w:cC}{K:W.Frag}{mg:cm}{base:Heap}
theorem mN.ok {x qual:Str}{st:cH}{f:cF}{fd:cA}{N ps:List Str}{k:Nat}{sp:Sp}(F:mN K x qual st f fd) (S:dD N ps (cO st)) (len:∀vs H Q E,sp vs H Q E->vs.length=ps.length)
  (js:∀(fL:cy) (A:cD) (outer:List Env) (s:cz) (H:Hp) (vs:List V) (Q:VK) (E:XK),gn k (A.deeper (envOfC qual (cO st) s.heap.objs.size f fL))->sp vs H Q E->
   ∃t,yA (qp iK P w K mg base N qual (cO st) f fL A outer s H E).DE (dw st) t/\t {nx:=λ_ H'=>Q .eD H',rt:=Q} (start N vs) H):eE P w K mg base iK (k+1) f fd ps sp:=by
 obtain⟨oc,od,kV,doc,pm,an,fL,ct,Mb,rfl,lk,yH⟩:=F.ex;refine N5 lk yH S len λA outer s H vs Q E hr LO=>?_
 obtain⟨t,h,q⟩:=js fL A outer s H vs Q E hr LO;exact⟨t,h.DE,q⟩
theorem mN.binds {x qual:Str}{st:cH}{f:cF}{fd:cA}{ps:List Str}(F:mN K x qual st f fd)
  (h:∀(kV doc pm:cy) (an:cu) (fL ct:cy) (us:cx),us.length=ps.length->bindArgs (W.fnOf x qual (dO st) (dw st) (cO st) .none kV doc pm an fL ct) ⟨us,[]⟩=pure (ps.zip us)):Binds K fd ps []:=by
 obtain⟨oc,od,kV,doc,pm,an,fL,ct,Mb,rfl,lk,yH⟩:=F.ex;exact .all (h kV doc pm an fL ct)
theorem eL {x qual:Str}{st:cH}{f:cF}{oc:cy}{od an:cu}{Mb:cv}{kV doc pm fL ct:cy}(l:K.lookup f=some ⟨oc,od,.func (W.fnOf x qual (dO st) (dw st) (cO st) .none kV doc pm an fL ct),Mb⟩)
  (c:W.codeIn K fL qual=true) (k:W.keepIn K (.ref f)=true):mN K x qual st f (W.fnOf x qual (dO st) (dw st) (cO st) .none kV doc pm an fL ct):=⟨⟨oc,od,kV,doc,pm,an,fL,ct,Mb,rfl,l,c⟩,k⟩
end
theorem kM {n:Nat}(h:n<=1000):n<sizeLine:=Nat.lt_of_le_of_lt h (by decide)
section
variable {X:Cx}
theorem pv (i:Nat) {x:Str}{pos:Pos}(hN:X.N[i]? =some x:=by rfl) (hv:Rr X.env.scope x:=by first|exact Or.inl rfl|exact Or.inr (Or.inl rfl)|exact Or.inr (Or.inr rfl)) (hd:(x==("__debug__":Str))=false:=by decide)
  (yH:(x==("__classdict__":Str))=false:=by decide):PE X (.Name x pos) (gI i):=DK hN hv hd yH
end
theorem BR {A B:Prop}(h:B):if false=true then A else B:=by
 rw[if_neg bc];exact h
theorem AF {A B:Prop}(h:A):if true=true then A else B:=by
 rw[if_pos rfl];exact h
def dZ (H H':Hp):Prop:=∀b o,H b=some o->H' b=some o
theorem dZ.refl (H:Hp):dZ H H:=λ_ _ h=>h
theorem dZ.trans {H H1 H2:Hp}(a:dZ H H1) (b:dZ H1 H2):dZ H H2:=λc o h=>b c o (a c o h)
theorem dZ.free {H H':Hp}(e:dZ H H') {l:cF}(h:H' l=Option.none):H l=Option.none:=by
 cases q:H l with
 |none=>rfl
 |some o=>
  rw[e l o q]at h;cases h
end L2
namespace L2
open PySem PySem.Spec PyProof.Rows
def uL (K:W.Frag):List (cF×Array cy):=vK.filterMap λ(t:Str×Pos×Str)=>(W.tabIn K t.1).map λq=>(q.2,yE t.2.1 t.2.2)
theorem Ms {K:W.Frag}{b:cF}{ps:Array cy}(h:(b,ps)∈uL K):∃x c pos qual,(x,pos,qual)∈vK/\W.tabIn K x=some (c,b)/\ps=yE pos qual:=by
 obtain⟨⟨x,pos,qual⟩,hm,he⟩:=List.mem_filterMap.mp h;cases ht:W.tabIn K x with
 |none=>rw[show W.tabIn K (x,pos,qual).1=none from ht]at he;cases he
 |some q=>
  obtain⟨c,P⟩:=q;rw[show W.tabIn K (x,pos,qual).1=some (c,P)from ht]at he
  cases he;exact⟨x,c,pos,qual,hm,ht,rfl⟩
theorem Jn {K:W.Frag}{x:Str}{c b:cF}{pos:Pos}{qual:Str}(hm:(x,pos,qual)∈vK) (ht:W.tabIn K x=some (c,b)):(b,yE pos qual)∈uL K:=
 List.mem_filterMap.mpr ⟨(x,pos,qual),hm,by show(W.tabIn K x).map _=_;rw[ht];rfl⟩
theorem tw {α:Type}:∀{l:List (cF×α)}{b:cF}{v:α},(l.map (·.1)).Nodup->(b,v)∈l->l.lookup b=some v
 |[],_,_,_,h=>by cases h
 |(c,u)::r,b,v,nd,h=>by
  rw[aF,List.nodup_cons]at nd;rcases List.mem_cons.mp h with e|h
  ·cases e;simp[br]
  ·have jZ:b≠c:=λz=>nd.1 (by rw[<-z];exact List.mem_map_of_mem (f:=(·.1)) h)
   have hb:(b==c)=false:=by simpa using jZ
   rw[br,hb];exact tw nd.2 h
theorem vn {α:Type}:∀{l:List (cF×α)}{b:cF}{v:α},l.lookup b=some v->(b,v)∈l
 |[],_,_,h=>by cases h
 |(c,u)::r,b,v,h=>by
  by_cases e:b=c
  ·subst e;simp only[br,bP,Option.some.injEq]at h;subst h;exact af
  ·have hb:(b==c)=false:=by simpa using e
   simp only[br,hb]at h;exact ai _ (vn h)
def tabsOk (K:W.Frag):Bool:=W.noTabs K&&decide ((uL K).map (·.1)).Nodup
theorem Hb {P:cB}{w:cC}{K:W.Frag}{mg mb:cm}{CX:G6}{k:Nat}{fa a:cF}{fd:cA}{x:Str}{sp:Sp}{s₁:cz}{vs:cx}{ns:cq}
  (KX:K.In s₁.heap) (Mt:s₁.heap.Ns mainGlobals mg) (hb:s₁.heap.Ns builtinsNs mb) (XD:∀x:Str,x≠"__name__"->mb x=bootBuiltins x) (Py:s₁.heap.NoLimit) (hg:s₁.gens=#[])
  (ha:s₁.heap.get? a=some {cls:=.type "list",data:=.seq vs.toArray}) (hi:IntsAre vs ns) (hl:ns.length<=sizeLine) (hr:gn k callerA)
  (VH:tabsOk K=true) (hT:∀x c Pt pos qual,(x,pos,qual)∈vK->W.tabIn K x=some (c,Pt)->W.CodeHd s₁.heap c Pt/\s₁.heap.get? Pt=some (W.tabObj #[]))
  (Z4:∃bm ob,mg "__builtins__"=some (.ref bm)/\bm≠builtinsNs/\s₁.heap.get? bm=some ob/\ob.cls=.type "module"/\ob.dict=some builtinsNs/\ob.data=.plain)
  (F:∀base:Heap,K.In base->base.Ns mainGlobals mg->eE P w K mg base CX k fa fd [x] sp) (SI:∀(s:cz) (u:cy),BindsTo s fd ⟨[u],[]⟩ [(x,u)])
  (LO:∀H:Hp,qk K H a (ns.map V.int)->sp [.ref a] H (λv _=>v=.bl true) λ_ _ _=>False)
  (VI:∀H e s',CX [] H s₁ (λ_ _ _=>False) e s'->False):
  codeAny (model P w) callerA (.call (.ref fa) ⟨[.ref a],[]⟩) (λr s'=>r=.ok (.ret (.bool true))/\OldK s₁.heap s'.heap/\s'.os=s₁.os/\AllBare s'.gens) s₁:=by
 have rv:=rk hi;have VJ:=hi.length;obtain⟨UA,VL⟩:=Bool.and_eq_true_iff.mp VH;have LQ:((uL K).map (·.1)).Nodup:=bM VL
 have atT:∀{b:cF}{ps:Array cy},(uL K).lookup b=some ps->∃c pos qual,ps=yE pos qual/\W.CodeHd s₁.heap c b/\s₁.heap.get? b=some (W.tabObj #[]):=λ{b ps} h=>by
  obtain⟨x,c,pos,qual,hm,ht,e⟩:=Ms (vn h);exact⟨c,pos,qual,e,hT x c b pos qual hm ht⟩
 have core:∀H0:Hp,(∀b u,H0 b=some u->b=a/\K.lookup a=none/\u=.yD {cls:=.type "list",data:=.seq vs.toArray} (.lst (ns.map V.int)))->qk K H0 a (ns.map V.int)->
   codeAny (model P w) callerA (.call (.ref fa) ⟨[.ref a],[]⟩) (λr s'=>r=.ok (.ret (.bool true))/\OldK s₁.heap s'.heap/\s'.os=s₁.os/\AllBare s'.gens) s₁:=by
  intro H0 h0 Z5;have hex:∃H:Hp,(∀b u,H0 b=some u->H b=some u)/\(∀b ps,(uL K).lookup b=some ps->H b=some (.DJ ps))/\∀b u,H b=some u->(b=a/\K.lookup a=none/\u=.yD {cls:=.type "list",data:=.seq vs.toArray} (.lst (ns.map V.int)))\/∃ps,(uL K).lookup b=some ps/\u=.DJ ps:=by
   refine⟨λb=>match(uL K).lookup b with|some ps=>some (HO.DJ ps)|none=>H0 b,λb u e=>?_,λb ps e=>?_,λb u e=>?_⟩
   ·show(match(uL K).lookup b with|some ps=>some (HO.DJ ps)|none=>H0 b)=_
    cases q:(uL K).lookup b with
    |none=>exact e
    |some ps=>
     obtain⟨c,pos,qual,_,_,e2⟩:=atT q;obtain⟨rfl,_⟩:=h0 b u e;rw[ha]at e2;cases e2
   ·show(match(uL K).lookup b with|some ps=>some (HO.DJ ps)|none=>H0 b)=_
    rw[e]
   ·have e':(match(uL K).lookup b with|some ps=>some (HO.DJ ps)|none=>H0 b)=some u:=e
    cases q:(uL K).lookup b with
    |none=>
     rw[q]at e';exact .inl (h0 b u e')
    |some ps=>
     rw[q]at e';cases e';exact .inr ⟨ps,rfl,rfl⟩
  obtain⟨H,up,ut,uo⟩:=hex;have hS:qk K H a (ns.map V.int):=by
   rcases Z5 with h|h
   ·rcases h with h|⟨o,h⟩
    ·exact .inl (.inl (up _ _ h))
    ·exact .inl (.inr ⟨o,up _ _ h⟩)
   ·exact .inr h
  have fX:sd P w H s₁.heap:=λb u e=>by
   rcases uo b u e with⟨rfl,_,rfl⟩|⟨ps,q,rfl⟩
   ·exact⟨ha,by rw[ae];exact hl,vs,_,rv,ha⟩
   ·obtain⟨c,pos,qual,rfl,_,e2⟩:=atT q;exact⟨#[],e2,trivial,pos,qual,#[],by simp,.inl rfl⟩
  have v9:∀{b:cF}{o:Obj},s₁.heap.get? b=some o->H b=none->(yG s₁.heap H).get? b=some o:=λe n=>IH e n
  have Sr:∀{b:cF}{o:Obj}{es:Array DictEntry}{ep:Nat},s₁.heap.get? b=some o->o.data=.dict es ep->H b=none:=λ{b o es ep} e d=>by
   cases q:H b with
   |none=>rfl
   |some u=>
    rcases uo b u q with⟨rfl,_,_⟩|⟨ps,q2,_⟩
    ·rw[ha]at e;cases e;have d':Data.seq vs.toArray _=Data.dict es ep:=d;cases d'
    ·obtain⟨c,pos,qual,_,_,e2⟩:=atT q2;rw[e]at e2;cases e2;cases d
  have UB:∀{b:cF}{m:cm},s₁.heap.Ns b m->(yG s₁.heap H).Ns b m:=λ{b m} ⟨o,es,ep,e,d,r⟩=>⟨o,es,ep,v9 e (Sr e d),d,r⟩
  have XE:K.In (yG s₁.heap H):=λb o e=>v9 (KX b o e) (by
   cases q:H b with
   |none=>rfl
   |some u=>
    rcases uo b u q with⟨rfl,hk,_⟩|⟨ps,q2,_⟩
    ·rw[hk]at e;cases e
    ·obtain⟨c,pos,qual,_,_,e2⟩:=atT q2;rw[KX b o e]at e2;cases e2;have h2:=List.all_eq_true.mp UA (b,W.tabObj #[]) (W.mem_of_lookupK e);exact absurd (show false=true from h2) bc)
  have hM:Mod K mg (yG s₁.heap H):=⟨XE,UB Mt,⟨mb,UB hb,XD⟩,let ⟨mc,h1,h2⟩:=Py;⟨mc,UB h1,h2⟩⟩;have XF:∀{b:cF}{o:Obj}{T:String},s₁.heap.get? b=some o->o.cls=.type T->T≠"list"->H b=none:=λ{b o T} e d nl=>by
   cases q:H b with
   |none=>rfl
   |some u=>
    rcases uo b u q with⟨rfl,_,_⟩|⟨ps,q2,_⟩
    ·rw[ha]at e;cases e;injection (show Value.type "list"=Value.type T from d)with d'
     exact absurd d'.symm nl
    ·obtain⟨c,pos,qual,_,_,e2⟩:=atT q2;rw[e]at e2;cases e2;cases d
  have UC:GV K mg (yG s₁.heap H) H:=λx c Pt pos qual hm ht=>by
   obtain⟨hC,hP⟩:=hT x c Pt pos qual hm ht;obtain⟨o,Z6,file,tf,flags,tg,Z7,text,tt,c1,c2,c3⟩:=hC;obtain⟨bm,ob,b1,b2,b3,b4,b5,b6⟩:=Z4;refine⟨⟨#[],by rw[ut Pt _ (tw LQ (Jn hm ht))];simp⟩,⟨o,Z6,file,tf,flags,tg,Z7,text,tt,v9 c1 (XF c1 c2 (by decide)),c2,c3⟩,bm,ob,b1,b2,λz=>?_,λz=>?_,v9 b3 (XF b3 b4 (by decide)),b4,b5,b6⟩
   ·obtain⟨og,es,ep,e,hd,_⟩:=Mt;rw[z,e]at b3;cases b3;rw[hd]at b6;cases b6
   ·rw[z,hP]at b3;cases b3;cases b4
  have e0:DZ P w K mg (yG s₁.heap H) callerA [] s₁ H:=⟨rfl,hM,λb o e=>LV e,Nat.le_of_eq (GW _ _),trivial,λb hb=>absurd (show b∈([]:List cF)from hb) (by simp),fX,.of_eq hg,UC⟩
  refine codeAny_mono ((F _ XE (UB Mt)).run callerA [] s₁ H ⟨[.ref a],[]⟩ [.ref a] [.ref a] _ _ hr e0 (SI s₁ (.ref a)) (.cons rfl .nil) (LO H hS)) λr s' h=>?_
  cases r with
  |error e=>exact(VI H e s' h).elim
  |ok fl=>
   cases fl with
   |next=>exact False.elim h
   |brk=>exact False.elim h
   |cont=>exact False.elim h
   |ret u=>
    obtain⟨v,H',os,bare,un,SJ,r',q⟩:=h;have q':v=.bl true:=q;subst q';obtain rfl:u=Value.bool true:=r';refine⟨rfl,⟨λb o e=>?_,λb o e=>un.there b o e (by simp)⟩,os,bare⟩
    cases q:H b with
    |none=>exact .inl (un.keep b o e q (by intro z;exact absurd (show b∈([]:List cF)from z) (by simp)) (by simp))
    |some u=>
     rcases uo b u q with⟨_,_,rfl⟩|⟨ps,q2,rfl⟩
     ·have z2:=un.Ao b _ _ q;obtain⟨e1,_⟩:=fX b _ q;obtain⟨e2,_⟩:=SJ b _ z2;rw[e]at e1;cases e1;exact .inl e2
     ·obtain⟨c,pos,qual,_,hC,e2⟩:=atT q2;obtain⟨more,e3⟩:=un.yF b _ q;obtain⟨qs,e4,_⟩:=(show zu H' s'.heap b (ps++more)from SJ b _ e3)
      rw[e]at e2;cases e2;exact .inr (.inl ⟨(hC.tab e).isCodeTable,rfl,#[],qs,rfl,by rw[e4];simp⟩)
 cases hk:K.lookup a with
 |some o=>
  have e:=KX a o hk;rw[ha]at e;cases e;exact core (λ_=>none) (λb u z=>by cases z) (.inr ⟨_,vs.toArray,_,hk,rfl,rfl,rfl,by rw[aq,VJ];exact hl,by simpa using rv⟩)
 |none=>
  refine core (λb=>if b=a then some (.yD {cls:=.type "list",data:=.seq vs.toArray} (.lst (ns.map V.int)))else none) (λb u z=>?_) (.inl (.inr ⟨{cls:=.type "list",data:=.seq vs.toArray},if_pos rfl⟩))
  by_cases hb:b=a
  ·have z':=(if_pos hb).symm.trans z;cases z';exact⟨hb,hk,rfl⟩
  ·have z':=(if_neg hb).symm.trans z;cases z'
theorem Mu {l:W.OpenLaw}{n k:Nat}{q:cB}{loose:List Str}{XP:(cm)->Heap->Prop}{YP:cC->Heap->Prop}{d:DefRec}{K:Params->W.Frag}{CX:cC->G6}{sp:cC->Sp}{x:Str}
  (hn:l.most=some n) (Rv:n<=sizeLine) (SF:d.params.defaults=[]) (hr:gn k callerA)
  (hY:∀(w:cC) (h:Heap),YP w h->(K w.params).In h)
  (Jo:∀t∈vK,((recsOf q).find? λe=>e.name==t.1).isSome=true)
  (F:∀(w:cC) (mg:cm) (fa:cF) (h:Heap),(K w.params).In h->h.Ns mainGlobals mg->mg d.name=some (.ref fa)->
   tabsOk (K w.params)=true/\∃fd:cA,(∀(s:cz) (u:cy),BindsTo s fd ⟨[u],[]⟩ [(x,u)])/\
    ∀base:Heap,(K w.params).In base->base.Ns mainGlobals mg->eE l.prog w (K w.params) mg base (CX w) k fa fd [x] (sp w))
  (LO:∀(w:cC) (H:Hp) (a:cF) (ns:cq),ns.length<=n->qk (K w.params) H a (ns.map V.int)->sp w [.ref a] H (λv _=>v=.bl true) λ_ _ _=>False)
  (VI:∀(w:cC) (H:Hp) (s:cz) (e:cy) (s':cz),CX w [] H s (λ_ _ _=>False) e s'->False):
  W.WalkO q loose XP YP l.row.toRowW d [] (λf vs=>PySem.call f vs):=by
 refine XC.BP hn SF λw s₀ s₁ mg mb fa o pm cd doc a vs ns G Y ho hd yH SG Px hints hlen hg=>?_
 have KX:=hY w _ Y;obtain⟨VH,fd,hb,hF⟩:=F w mg fa _ KX G.T.g SG;refine Hb KX G.T.g G.T.b G.T.builtins G.T.nolimit hg Px hints (aD hlen Rv) hr VH (λx c Pt pos qual hm ht=>?_) (let ⟨bm,ob,b1,b2,b3,b4,b5,b6⟩:=G.T.bmain;⟨bm,ob,b1,b2,b3,b4,b5,b6⟩) hF hb (λH hS=>LO w H a ns hlen hS) λH e s'=>VI w H s₁ e s'
 obtain⟨d',NQ⟩:=Option.isSome_iff_exists.mp (Jo _ hm);exact W.tab_of G.T KX NQ ht
end L2
namespace L2
open PySem PySem.Spec PyProof.Rows
theorem mO (env:Env):∀(names:List (Str×NameKind)) (x:Str),
  (names.map λ(n,k)=>if(k==NameKind.free&&env.scope.kind==.function&&env.kindOf n==some .cell)then(n,NameKind.cell)else(n,k)).lookup x=
   (names.lookup x).map λk=>if(k==NameKind.free&&env.scope.kind==.function&&env.kindOf x==some .cell)then NameKind.cell else k
 |[],_=>rfl
 |(n,k)::r,x=>by
  have ih:=mO env r x;rw[aF];show List.lookup x ((if(k==NameKind.free&&env.scope.kind==.function&&env.kindOf n==some .cell)=true then(n,NameKind.cell)else(n,k))::_)=_
  by_cases hx:x=n
  ·subst hx;by_cases hc:(k==NameKind.free&&env.scope.kind==.function&&env.kindOf x==some .cell)=true
   ·rw[if_pos hc];simp only[br,bP,bC];rw[if_pos hc]
   ·rw[if_neg hc];simp only[br,bP,bC];rw[if_neg hc]
  ·have hb:(x==n)=false:=by simpa using hx
   by_cases hc:(k==NameKind.free&&env.scope.kind==.function&&env.kindOf n==some .cell)=true
   ·rw[if_pos hc];simp only[br,hb];exact ih
   ·rw[if_neg hc];simp only[br,hb];exact ih
theorem mem_lookup {α:Type}:∀{l:List (Str×α)}{x:Str}{a:α},l.lookup x=some a->(x,a)∈l
 |[],_,_,h=>by cases h
 |(n,b)::r,x,a,h=>by
  by_cases hx:x=n
  ·subst hx;simp only[br,bP,Option.some.injEq]at h;subst h;exact af
  ·have hb:(x==n)=false:=by simpa using hx
   simp only[br,hb]at h;exact ai _ (mem_lookup h)
theorem D5 {scope:Scope}{env:Env}(h:∀y∈scope.names,y.2=.free->∃c,env.cells.lookup y.1=some c):
  ∃cl,closureFor scope env=pure cl/\(∀x c,cl.lookup x=some c->env.cells.lookup x=some c/\(x,NameKind.free)∈scope.names)/\(∀x,(x,NameKind.free)∈scope.names->∃c,cl.lookup x=some c):=by
 have loop:∀(l:List (Str×NameKind)) (acc:List (Str×cF)) (f:Str×NameKind->List (Str×cF)->Sem (ForInStep (List (Str×cF)))),
   (∀n k a,f (n,k) a=if(k==NameKind.free)=true then(do let c <-cellOf env n;pure (ForInStep.yield ((n,c)::a)))else pure (ForInStep.yield a))->
   (∀y∈l,y.2=.free->∃c,env.cells.lookup y.1=some c)->
   ∃cl,forIn l acc f=pure cl/\(∀x c,cl.lookup x=some c->acc.lookup x=some c\/(env.cells.lookup x=some c/\(x,NameKind.free)∈l))/\(∀x,((x,NameKind.free)∈l\/∃c,acc.lookup x=some c)->∃c,cl.lookup x=some c):=by
  intro l;induction l with
  |nil=>intro acc f _ _;exact⟨acc,rfl,λx c e=>.inl e,λx e=>e.elim (λz=>nomatch z) id⟩
  |cons y r ih=>
   intro acc f hf hl;obtain⟨n,k⟩:=y;have hr:∀y∈r,y.2=.free->∃c,env.cells.lookup y.1=some c:=λy hy=>hl y (ai _ hy)
   rw[List.forIn_cons,hf];by_cases hk:k=.free
   ·subst hk;obtain⟨c,hc⟩:=hl (n,.free) af rfl;have ec:cellOf env n=pure c:=by unfold cellOf;rw[hc]
    rw[if_pos (by rfl),ec]
    obtain⟨cl,e1,e2,e3⟩:=ih ((n,c)::acc) f hf hr;refine⟨cl,by simpa using e1,λx d hx=>?_,λx hx=>e3 x ?_⟩
    ·rcases e2 x d hx with z|⟨z1,z2⟩
     ·by_cases Rx:x=n
      ·subst Rx;simp only[br,bP,Option.some.injEq]at z;subst z;exact .inr ⟨hc,af⟩
      ·have hb:(x==n)=false:=by simpa using Rx
       simp only[br,hb]at z;exact .inl z
     ·exact .inr ⟨z1,ai _ z2⟩
    ·by_cases Rx:x=n
     ·subst Rx;exact .inr ⟨c,by simp[br]⟩
     ·have hb:(x==n)=false:=by simpa using Rx
      rcases hx with z|⟨d,z⟩
      ·rcases List.mem_cons.mp z with z|z
       ·cases z;exact absurd rfl Rx
       ·exact .inl z
      ·exact .inr ⟨d,by simp only[br,hb];exact z⟩
   ·have hb:(k==NameKind.free)=false:=by simpa using hk
    rw[if_neg (by rw[hb];exact bc)]
    obtain⟨cl,e1,e2,e3⟩:=ih acc f hf hr;refine⟨cl,by simpa using e1,λx d hx=>(e2 x d hx).elim .inl λz=>.inr ⟨z.1,ai _ z.2⟩,λx hx=>e3 x ?_⟩
    rcases hx with z|z
    ·rcases List.mem_cons.mp z with z|z
     ·cases z;exact absurd rfl hk
     ·exact .inl z
    ·exact .inr z
 have ec:closureFor scope env=forIn scope.names ([]:List (Str×cF)) (λ(x:Str×NameKind) a=>if(x.2==NameKind.free)=true then(do let c <-cellOf env x.1;pure (ForInStep.yield ((x.1,c)::a)))else pure (ForInStep.yield a)):=by
  unfold closureFor;simp only[bind_pure]
 obtain⟨cl,e1,e2,e3⟩:=loop scope.names [] (λ(x:Str×NameKind) a=>if(x.2==NameKind.free)=true then(do let c <-cellOf env x.1;pure (ForInStep.yield ((x.1,c)::a)))else pure (ForInStep.yield a)) (λn k a=>rfl) h
 refine⟨cl,?_,λx c hx=>?_,λx hx=>e3 x (.inl hx)⟩
 ·rw[ec,e1]
 ·rcases e2 x c hx with z|z
  ·simp at z
  ·exact z
def dN (X:Cx) (scope:Scope) (cl:List (Str×cF)) (C:cF) (s:cz) (H:Hp) (fp:List cF):Cx:=
 {X with s₀:=s,H₀:=H,env:=compEnvC scope cl C X.env,outer:=X.stack,ex:=fp,fn:=λ_=>false,pn:=[],xe:=λ_ _=>False}
def wa (N:List Str) (outer names:List (Str×NameKind)) (x:Str):Bool:=
 names.all (λy=>(y.2!=.cell&&(y.2!=.local||y.1==x|| !(N.contains y.1)))&&(y.2!=.local||names.lookup y.1==some .local)&&(y.2!=.free||((outer.lookup y.1==some .cell||outer.lookup y.1==some .free)&&names.lookup y.1==some .free)))&&names.lookup x==some .local
structure iz (X:Cx) (scope:Scope) (x:Str) (j:Nat):Prop where
 kind:scope.kind=.function
 ok:wa X.N X.env.scope.names scope.names x=true
 hj:X.N[j]? =some x
 nd:X.N.Nodup
section
variable {X:Cx}{scope:Scope}{x:Str}{j:Nat}
theorem iz.all (S:iz X scope x j):∀y∈scope.names,y.2≠.cell/\(y.2=.local->scope.names.lookup y.1=some .local)/\(y.2=.free->(X.env.kindOf y.1=some .cell\/X.env.kindOf y.1=some .free)/\scope.names.lookup y.1=some .free):=λy hy=>by
 have h:=S.ok;unfold wa at h;have h1:=(List.all_eq_true.mp (Bool.and_eq_true_iff.mp h).1) y hy;have h2:=Bool.and_eq_true_iff.mp h1;have h3:=Bool.and_eq_true_iff.mp h2.1;have h0:=Bool.and_eq_true_iff.mp h3.1;refine⟨by simpa using h0.1,λe=>?_,λe=>?_⟩
 ·have:=h3.2;rw[e]at this
  simpa using this
 ·have:=h2.2;rw[e]at this;exact(by simpa using this:(X.env.scope.names.lookup y.1=some .cell\/X.env.scope.names.lookup y.1=some .free)/\scope.names.lookup y.1=some .free)
theorem iz.only(S:iz X scope x j) {y:Str}(hm:(y,NameKind.local)∈scope.names) {i:Nat}(wM:i≠j) (e:X.N[i]? =some y):False:=by
 have h:=S.ok;unfold wa at h;have h1:=(List.all_eq_true.mp (Bool.and_eq_true_iff.mp h).1) _ hm;have h2:=Bool.and_eq_true_iff.mp h1;have h3:=Bool.and_eq_true_iff.mp h2.1;have h0:=(Bool.and_eq_true_iff.mp h3.1).2;have hN:y∈X.N:=bo e;have Z8:X.N.contains y=true:=by simpa using hN
 simp only[Z8,bne_self_eq_false,Bool.false_or,bV,Bool.or_false]at h0;have:y=x:=by simpa using h0
 subst this;exact wM (wD S.nd e S.hj)
theorem iz.hx (S:iz X scope x j):scope.names.lookup x=some .local:=by
 have h:=S.ok;unfold wa at h
 simpa using (Bool.and_eq_true_iff.mp h).2
end
def Jp (X:Cx) (ifs:List cG) (t:TT):Prop:=
 ∀(pins:cn) (s:cz) (σ:St) (H:Hp) (Q:Bool->Hp->Prop),Inv X pins σ H s->t σ H Q->
  wpAny (model X.prog X.w) X.A (forIn ifs true λc r=>if r=true then do let ok <-isTrue c X.env (eval c X.env);pure (ForInStep.yield ok)else pure (ForInStep.yield r)) (TP X pins σ Q) X.xe s
def SK:TT:=λ_ H Q=>Q true H
theorem BS {X:Cx}:Jp X [] SK:=λ_ _ _ H _ I h=>wpAny_tests_nil ⟨H,I,h⟩
theorem BU {X:Cx}{c:cG}{t:TT}(h:PT X c t):Jp X [c] t:=λpins s σ H Q I q=>wpAny_tests_one (h pins s σ H Q I q)
def FD (wi:TI) (j:Nat) (tt:TT) (te:TE):TE:=λσ H Q=>wi σ H λJ H1=>∀D,H1 D=none->∃W:Nat->Nat->List V->Hp->Prop,(∃m,W 0 m [] (upd H1 D (.lst [])))/\
 ∀i m acc H,W i m acc H->(J.stop i H/\Q (.ref D) H)\/(J.go i H/\∀x H',J.NX i H x H'->tt (σ.set j (some x)) H' λb H2=>
  if b=true then te (σ.set j (some x)) H2 λy H3=>H3 D=some (.lst acc)/\acc.length<sizeLine/\∃m',m'<m/\W (i+1) m' (acc++[y]) (upd H3 D (.lst (acc++[y])))else ∃m',m'<m/\W (i+1) m' acc H2)
theorem AG {prog:cB}{w:cC}{A:cD}{R:Result->cz->Prop}{s:cz}{elt target iter:cG}{ifs:List cG}{scope:Scope}{pos:Pos}{it acc:cy}{env:Env}(I:Nat->cz->Prop)
  (turn:∀n s,I n s->wpAny (model prog w) A (pyNext it) (λr s₁=>match r with
   |none=>R (.ok .next) s₁
   |some v=>wpAny (model prog w) A (letOwnedTupleGo target it v) (λ_ s₁=>wpAny (model prog w) A (assign target env v) (λ_ s₂=>
     wpAny (model prog w) A (forIn ifs true λc r=>if r=true then do let ok <-isTrue c env (eval c env);pure (ForInStep.yield ok)else pure (ForInStep.yield r)) (λok s₃=>
      if ok=true then wpAny (model prog w) A (eval elt env) (λx s₄=>
       wpAny (model prog w) A (call (.builtin "list.append") [acc,x]) (λ_ s₅=>∃m,m<n/\I m s₅) (λ_ _=>False) s₄) (λ_ _=>False) s₃
      else ∃m,m<n/\I m s₃) (λ_ _=>False) s₂) (λ_ _=>False) s₁) (λ_ _=>False) s₁) (λ_ _=>False) s)
  (n:Nat) (h:I n s):
  codeAny (model prog w) A (.compLoop (.ListComp elt [⟨target,iter,ifs,0⟩] scope pos) 0 it acc env) R s:=by
 refine codeAny_loop rfl I (λn s hI=>?_) n h
 show wpAny _ A ((compTurn (.ListComp elt [⟨target,iter,ifs,0⟩] scope pos) 0 it acc env).onRaise (λx=>do noteFrame x env;theTreesLotGoes x)) _ _ s
 refine wpAny_noted ?_;rw[compTurn_list];refine aa (wpAny_standAt (aa (bR (turn n s hI) (λr s₁ h₁=>?_) λ_ _ h'=>h'.elim)))
 cases r with
 |none=>exact aj h₁
 |some v=>
  refine aa (bR h₁ (λ_ s₁ h₁=>?_) λ_ _ h'=>h'.elim)
  refine aa (bR h₁ (λ_ s₂ h₂=>aa (bR h₂ (λok s₃ h₃=>?_) λ_ _ h'=>h'.elim)) λ_ _ h'=>h'.elim)
  cases ok with
  |false=>exact aj ⟨rfl,h₃⟩
  |true=>
   exact aa (aa (bR h₃ (λx s₄ h₄=>aa (bR h₄ (λ_ s₅ h₅=>aj (aj ⟨rfl,h₅⟩)) λ_ _ h'=>h'.elim)) λ_ _ h'=>h'.elim))
section
variable {X:Cx}{elt iter:cG}{ifs:List cG}{x:Str}{px pos:Pos}{scope:Scope}{j:Nat}{wi:TI}{tt:TT}{te:TE}
theorem wN (hc:X.calm=true) (S:iz X scope x j) {cl:List (Str×cF)}(wO:closureFor scope X.env=pure cl) (Iz:∀y c,cl.lookup y=some c->X.env.cells.lookup y=some c/\(y,NameKind.free)∈scope.names)
  (Ry:∀y,(y,NameKind.free)∈scope.names->∃c,cl.lookup y=some c)
  (ht:∀cl C s H fp,Jp (dN X scope cl C s H fp) ifs tt) (he:∀cl C s H fp,PE (dN X scope cl C s H fp) elt te)
  {pins:cn}{σ:St}{H2:Hp}{s₂:cz}{it:cF}{fp:List cF}{tn:Nat->Heap->Prop}{J:It}{Q:VK}(I2:Inv X pins σ H2 s₂) (T:Turn X.prog X.w X.K (.Name x px) J fp it tn) (NZ:tn 0 s₂.heap) (f2:∀b∈fp,BK X pins H2 b)
  (hR:∀D,H2 D=none->∃W:Nat->Nat->List V->Hp->Prop,(∃m,W 0 m [] (upd H2 D (.lst [])))/\
   ∀i m acc H,W i m acc H->(J.stop i H/\Q (.ref D) H)\/(J.go i H/\∀x H',J.NX i H x H'->tt (σ.set j (some x)) H' λb H2=>
    if b=true then te (σ.set j (some x)) H2 λy H3=>H3 D=some (.lst acc)/\acc.length<sizeLine/\∃m',m'<m/\W (i+1) m' (acc++[y]) (upd H3 D (.lst (acc++[y])))else ∃m',m'<m/\W (i+1) m' acc H2))
  {RR:cy->cF->Result->cz->Prop}
  (Z9:∀D C s' H' m',s₂.heap.objs.size<=C->Inv X pins σ H' s'->s'.heap.Ns C m'->H' C=none->Q (.ref D) H'->RR (.ref D) C (.ok .next) s') {E:ck}:
  wpAny (model X.prog X.w) X.A (newList []) (λacc s₃=>wpAny (model X.prog X.w) X.A (newFunctionEnv scope X.env.globals cl [] X.env.qual none .none (some X.env)) (λSM s₄=>
   codeAny (model X.prog X.w) X.A (.compStart (.ListComp elt [⟨.Name x px,iter,ifs,0⟩] scope pos) 0 (.ref it) acc {SM with scope:=relabel scope X.env}) (RR acc SM.locals) s₄) E s₃) E s₂:=by
 have A1:=S.all;refine bT (wpAny_newFunctionEnv (λy hy=>(A1 y hy).1) (by intro y hy;simp at hy) (λh₁ Mv Jq=>?_) S.kind)
 dsimp only at Mv Jq ⊢;generalize SN:s₂.heap.push {cls:=.type "list",dict:=none,data:=.seq ([]:cx).toArray}=G at Mv Jq ⊢;have hC:G.objs.size=s₂.heap.objs.size+1:=by rw[<-SN,Heap.size_push]
 have UD:s₂.heap.objs.size≠G.objs.size:=by rw[hC];exact aE (Nat.lt_succ_self _)
 have D6:s₂.heap.objs.size<=G.objs.size:=by rw[hC];exact Nat.le_succ _
 have below:∀b,b<s₂.heap.objs.size->b≠G.objs.size/\b≠s₂.heap.objs.size:=λb hb=>⟨by rw[hC];exact aE (Nat.lt_succ_of_lt hb),aE hb⟩
 have old:∀b o,s₂.heap.get? b=some o->h₁.get? b=some o:=λb o e=>Jq.extBut b o (below b (aB e)).1 (ag _ (SN▸ag _ e))
 have rW:h₁.get? s₂.heap.objs.size=some {cls:=.type "list",data:=.seq ([]:cx).toArray 0}:=Jq.extBut _ _ UD (ag _ (SN▸az _ rfl));generalize hCn:G.objs.size=C at Mv Jq hC UD D6 below ⊢;generalize D7:s₂.heap.objs.size=D at rW hC UD D6 below ⊢;have XG:H2 D=none:=by rw[<-D7];exact I2.fX.fresh (au _)
 have hC2:H2 C=none:=I2.fX.fresh (by rw[D7];exact D6)
 obtain⟨W,⟨m0,w0⟩,turn⟩:=hR D XG;have Jr:∀b∈fp,b<D:=λb hb=>by
  obtain⟨o,e,_⟩:=T.obj 0 _ NZ b hb;rw[<-D7];exact aB e
 have ok:(dN X scope cl C s₂ H2 fp).Ok:=by
  have o:=I2.ok;refine⟨o.mod,S.kind,o.glob,o.blt,by show s₂.heap.objs.size<=C;rw[D7];exact D6,λy z c e1 e2=>o.inj y z c (Iz y c e1).1 (Iz z c e2).1,λy hy=>?_,λy c z=>(by cases z),o.hd,o.frames,.inl rfl,λb hb=>⟨?_,λy c e=>(f2 b hb).2.2.2.2.1 y c (Iz y c e).1⟩,
   λb ob e=>I2.bs b ob e,aD o.LL I2.sz,λb ob e hb=>?_,λb hb z=>?_,I2.stack,I2.Fp,I2.ok.tb.un I2.base⟩
  ·have q:((relabel scope X.env).names.lookup y=some .cell\/(relabel scope X.env).names.lookup y=some .free):=hy;have e:=mO X.env scope.names y;have fr:scope.names.lookup y=some .free:=by
    cases k:scope.names.lookup y with
    |none=>
     rw[k]at e;have e':(relabel scope X.env).names.lookup y=none:=e;rw[e']at q;rcases q with q|q<;>cases q
    |some kk=>
     by_cases hk:kk=.free
     ·rw[hk]
     ·rw[k]at e;have hb:(kk==NameKind.free)=false:=by simpa using hk
      have e':(relabel scope X.env).names.lookup y=some kk:=by
       refine e.trans ?_;simp only[bC,hb,Bool.false_and,aJ,bF]
      rw[e']at q;have hm:(y,kk)∈scope.names:=mem_lookup k;rcases q with q|q
      ·exact absurd (aT q) (A1 _ hm).1
      ·exact absurd (aT q) hk
   exact Ry y (mem_lookup fr)
  ·show b≠C;exact aE (aw (Jr b hb) D6)
  ·rcases(f2 b hb).2.2.2.1 with z|z
   ·exact o.II b ob e z
   ·exact absurd (aw (aB e) (aD o.LL z)) (Nat.lt_irrefl _)
  ·rcases List.mem_cons.mp (I2.Ap b z)with z|z
   ·exact(f2 b hb).2.1 z
   ·exact(f2 b hb).2.2.1 z
 have SO:Un (Iw X.stack) fp H2 (upd H2 D (.lst [])) s₂.heap h₁:=Un.laid old (by rw[D7];exact au _) XG
 have Mw:∀y c,cl.lookup y=some c->c<D:=λy c e=>by
  obtain⟨v,z⟩:=I2.cell y c (Iz y c e).1;rw[<-D7];exact z.lt
 have DQ:∀{H':Hp},(∀b∈fp,H' b=none)->∀b∈fp,BK (dN X scope cl C s₂ H2 fp) [] H' b:=λhn b hb=>
  ⟨hn b hb,aE (aw (Jr b hb) D6),λz=>(List.mem_cons.mp (I2.Ap b z)).elim (λq=>(f2 b hb).2.1 q) λq=>(f2 b hb).2.2.1 q,.inl hb,λy c e=>(f2 b hb).2.2.2.2.1 y c (Iz y c e).1,(λp hp=>nomatch hp)⟩
 have SQ:(relabel scope X.env).names.lookup x=some .local:=lookup_relabel_local S.hx;have start:Inv (dN X scope cl C s₂ H2 fp) [] (σ.set j none) (upd H2 D (.lst [])) {s₂ with heap:=h₁,toks:=s₂.toks+([]:List (Str×cy)).length}:=by
  refine⟨ok,rfl,I2.bare,SO,⟨_,Mv,λi y v e1 e2 e3=>?_⟩,λy c e=>?_,?_,λy c e=>?_,(λp hp=>nomatch hp),?_,?_⟩
  ·obtain⟨m,hn,hl⟩:=I2.loc;by_cases wM:i=j
   ·subst wM;have:(σ.set i none)[i]? =some none\/(σ.set i none)[i]? =none:=by
     by_cases hi:i<σ.length
     ·left;rw[bf hi]
     ·right;simp;omega
    rcases this with q|q<;>(rw[q]at e2;cases e2)
   ·rw[aG (Ne.symm wM)]at e2;have UE:(relabel scope X.env).names.lookup y=some .local\/(relabel scope X.env).names.lookup y=some .cell\/(relabel scope X.env).names.lookup y=some .free:=e3;have er:=mO X.env scope.names y;have UG:(relabel scope X.env).names.lookup y=(scope.names.lookup y).map λk=>if(k==NameKind.free&&X.env.scope.kind==.function&&X.env.kindOf y==some .cell)then NameKind.cell else k:=er
    cases k:scope.names.lookup y with
    |none=>
     rw[k]at UG;have Pz:(relabel scope X.env).names.lookup y=none:=UG;rw[Pz]at UE;rcases UE with q|q|q<;>cases q
    |some kk=>
     have hm:(y,kk)∈scope.names:=mem_lookup k;obtain⟨a1,a2,a3⟩:=A1 _ hm;by_cases hk:kk=.free
     ·subst hk;obtain⟨o1,_⟩:=a3 rfl;have VM:Rr X.env.scope y:=o1.elim (λz=>.inr (.inl z)) λz=>.inr (.inr z)
      obtain⟨u,r,l⟩:=hl i y v e1 e2 VM;obtain⟨c',uG⟩:=Ry y hm;refine⟨u,r,.inr ⟨?_,c',uG,?_⟩⟩
      ·show(relabel scope X.env).names.lookup y=some .cell\/(relabel scope X.env).names.lookup y=some .free;rw[UG,k];simp only[bC];split
       ·exact .inl rfl
       ·exact .inr rfl
      ·rcases l with⟨l1,_⟩|⟨_,c,ec,z⟩
       ·rcases o1 with o1|o1<;>(rw[l1]at o1;cases o1)
       ·have XH:=(Iz y c' uG).1;rw[ec]at XH;cases XH;obtain⟨oc,ho,hd⟩:=z;exact⟨oc,old _ _ ho,hd⟩
     ·have hb:(kk==NameKind.free)=false:=by simpa using hk
      have Pz:(relabel scope X.env).names.lookup y=some kk:=by rw[UG,k];simp only[bC,hb,Bool.false_and,aJ,bF]
      rw[Pz]at UE;rcases UE with q|q|q
      ·
       cases q;exact(S.only hm wM e1).elim
      ·cases q;exact absurd rfl a1
      ·cases q;exact absurd rfl hk
  ·obtain⟨v,oc,ho,hd⟩:=I2.cell y c (Iz y c e).1;exact⟨v,oc,old _ _ ho,hd⟩
  ·show upd H2 D (.lst []) C=none;rw[cV (Ne.symm UD)];exact hC2
  ·rw[cV (aE (Mw y c e))];exact I2.qi y c (Iz y c e).1
  ·exact I2.fX.laid old (by rw[D7];exact au _) ⟨bN _,[],0,.nil,rW⟩
  ·show(σ.set j none).length=X.N.length;rw[List.length_set];exact I2.len
 have XI:tn 0 h₁:=T.keep _ _ _ NZ λb hb o e=>old b o e
 have fr1:∀b∈fp,upd H2 D (.lst []) b=none:=λb hb=>by rw[cV (aE (Jr b hb))];exact(f2 b hb).1
 have PH:j<σ.length:=by rw[I2.len];exact(List.getElem?_eq_some_iff.mp S.hj).1
 have loop:∀s₄:cz,s₄={s₂ with heap:=h₁,toks:=s₂.toks+([]:List (Str×cy)).length}->
   codeAny (model X.prog X.w) X.A (.compLoop (.ListComp elt [⟨.Name x px,iter,ifs,0⟩] scope pos) 0 (.ref it) (.ref D) (compEnvC scope cl C X.env)) (RR (.ref D) C) s₄:=by
  rintro s₄ rfl
  refine AG (λn s'=>∃i acc H',Inv (dN X scope cl C s₂ H2 fp) [] (σ.set j none) H' s'/\tn i s'.heap/\(∀b∈fp,H' b=none)/\W i n acc H') ?_ m0 ⟨0,[],_,start,XI,fr1,w0⟩
  rintro n s3 ⟨i,acc,H3,I3,R5,R6,w3⟩
  rcases turn i n acc H3 w3 with⟨stop,qn⟩|⟨go,step⟩
  ·refine iu (T.done (dN X scope cl C s₂ H2 fp) rfl rfl rfl hc i [] s3 _ H3 _ I3 (DQ R6) R5 stop) λr s4 ⟨hr,I4⟩=>?_
   subst hr;obtain⟨m',Aq,_⟩:=I4.loc;exact Z9 D C s4 H3 m' (by rw[D7];exact D6) (I2.RP (ch:=fp) I4.os I4.base I4.fX I4.bare λb hb=>⟨(f2 b hb).2.2.2.1,(f2 b hb).2.1,(f2 b hb).2.2.2.2.1,(f2 b hb).2.2.2.2.2⟩) Aq I4.free qn
  ·refine iu (T.item (dN X scope cl C s₂ H2 fp) rfl rfl rfl hc i [] s3 _ H3 _ I3 (DQ R6) R5 go) λr s4 ⟨u,hr,h4⟩=>?_
   subst hr;refine iu h4 λ_ s5 ⟨y,H5,I5,r5,y5,O4,Vp⟩=>?_
   have Vq:=I5.pinned (DQ Vp) (T.obj _ _ O4);refine wpAny_assign_Name (wF Vq S.nd (show(dN X scope cl C s₂ H2 fp).N[j]? =some x from S.hj) (.inl SQ) r5 (λs6 I6=>?_) (.inr SQ))
   have eσ:(σ.set j none).set j (some y)=σ.set j (some y):=by rw[List.set_set]
   rw[eσ]at I6;refine iu (ht cl C s₂ H2 fp _ s6 _ H5 _ I6 (step y H5 y5)) λb s7 ⟨H7,I7,q7⟩=>?_
   have again:∀{H8:Hp}{s8:cz}{PJ:List V},Inv (dN X scope cl C s₂ H2 fp) ([]++wH fp s5.heap) (σ.set j (some y)) H8 s8->(∃m',m'<n/\W (i+1) m' PJ H8)->∃m,m<n/\∃i acc H',Inv (dN X scope cl C s₂ H2 fp) [] (σ.set j none) H' s8/\tn i s8.heap/\(∀b∈fp,H' b=none)/\W i m acc H':=λ{H8 s8 PJ} I8 ⟨m',hm,w8⟩=>by
    refine⟨m',hm,i+1,PJ,H8,I8.tj.weak (by simp) (λk v e=>?_),T.keep _ _ _ O4 λb hb o e=>(I8.pin (b,o) (aM _ (aM _ (o9 hb e)))).1,λb hb=>?_,w8⟩
    ·by_cases hk:k=j
     ·subst hk;rw[bf PH]at e;cases e
     ·rw[aG (Ne.symm hk)]at e ⊢;exact e
    ·obtain⟨o,e,d⟩:=T.obj _ _ O4 b hb;exact(I8.pin (b,o) (aM _ (aM _ (o9 hb e)))).2.1
   cases b with
   |false=>exact again I7 (by simpa using q7)
   |true=>
    simp only[if_true]at q7 ⊢;refine iu (he cl C s₂ H2 fp _ s7 _ H7 _ I7 q7) λv s8 ⟨z,H8,I8,r8,hD8,hz8,q8⟩=>?_
    refine iu (zD (X:=dN X scope cl C s₂ H2 fp) _ s8 _ H8 (.ref D) [z] (.ref D) [v] (λ_ H9=>∃m',m'<n/\W (i+1) m' (acc++[z]) H9) I8 rfl (.cons r8 .nil) ⟨D,acc,z,rfl,rfl,hD8,hz8,q8⟩) λ_ s9 ⟨_,H9,I9,_,q9⟩=>?_
    exact again I9 q9
 exact codeAny_compStart_list (loop _ rfl) (T.self _ 0 _ _ _ XI (loop _ rfl))
theorem wQ (I0:X.Ok) (S:iz X scope x j):∃cl,closureFor scope X.env=pure cl/\(∀y c,cl.lookup y=some c->X.env.cells.lookup y=some c/\(y,NameKind.free)∈scope.names)/\(∀y,(y,NameKind.free)∈scope.names->∃c,cl.lookup y=some c):=
 D5 λy hy e=>I0.has y.1 ((S.all y hy).2.2 e).1
theorem FE (hc:X.calm=true) (S:iz X scope x j) (hi:PI X (.Name x px) iter wi) (ht:∀cl C s H fp,Jp (dN X scope cl C s H fp) ifs tt) (he:∀cl C s H fp,PE (dN X scope cl C s H fp) elt te)
  (hs:∀v,foldedSetIterable iter X.env v=pure v:=by intro _;rfl):PE X (.ListComp elt [⟨.Name x px,iter,ifs,0⟩] scope pos) (FD wi j tt te):=by
 intro pins s σ H Q I h;obtain⟨cl,wO,Iz,Ry⟩:=wQ I.ok S;rw[eval_ListComp];refine wpAny_comprehension_free (use:=none) rfl hs wO S.kind (λy hy=>(S.all y hy).2.1) (iu (hi pins s σ H _ I h) λv s1 h1=>iu h1 λUv s2 h2=>?_)
 obtain⟨it,fp,tn,J,H2,e,I2,T,NZ,f2,hR⟩:=h2;subst e;refine wN hc S wO Iz Ry ht he I2 T NZ f2 hR (RR:=λacc C=>compPost (model X.prog X.w) X.A X.xe none (EP X pins σ Q) acc C) ?_
 intro D C s' H' m' hC I' hn hf q;refine⟨m',hn,λh' Hc=>⟨.ref D,H',?_,rfl,q⟩⟩
 exact I'.turned (t':=s'.toks) (it:=C) (λb o hb e=>(Hc.2 b hb).trans e) hf (bz (aw I2.lt hC)) (.inr (aD I2.sz hC))
  (λy c e z=>by obtain⟨v,q⟩:=I2.cell y c e;exact absurd (aw q.lt (by rw[z];exact hC)) (Nat.lt_irrefl _)) λp hp z=>absurd (aw (aB (I2.pin p hp).1) (by rw[z];exact hC)) (Nat.lt_irrefl _)
def BV (i:Nat) (t:TE):TS:=λDn σ H=>t σ H λv H1=>Dn.nx (σ.set i (some v)) H1
theorem wR {i:Nat}{y:Str}{py tE:Pos}(hc:X.calm=true) (S:iz X scope x j) (hi:PI X (.Name x px) iter wi) (ht:∀cl C s H fp,Jp (dN X scope cl C s H fp) ifs tt) (he:∀cl C s H fp,PE (dN X scope cl C s H fp) elt te)
  (hN:X.N[i]? =some y) (hy:Loc X.env.scope y) (hf:X.fn y=true\/X.env.scope.names.lookup y=some .local)
  (Mx:swapsWith (.ListComp elt [⟨.Name x px,iter,ifs,0⟩] scope pos) (some (.Name y py)) tE.line X.env=pure true)
  (hs:∀v,foldedSetIterable iter X.env v=pure v:=by intro _;rfl):PS X (.Assign [.Name y py] (.ListComp elt [⟨.Name x px,iter,ifs,0⟩] scope pos) tE) (BV i (FD wi j tt te)):=by
 intro pins s σ H Dn I h;obtain⟨cl,wO,Iz,Ry⟩:=wQ I.ok S;rw[exec_Assign_Name_used _ _ _ _ Mx];refine aa (wpAny_standAt (aa ?_));show wpAny _ X.A (do let _ <-comprehension (.ListComp elt [⟨.Name x px,iter,ifs,0⟩] scope pos) scope X.env _ (newList []) false (eval iter X.env) (some (assign (.Name y py) X.env))) _ _ s
 refine aa (bR (wpAny_comprehension_free (use:=some (assign (.Name y py) X.env)) (Q:=λ_ s'=>SP X pins Dn .next s') rfl hs wO S.kind (λy hy=>(S.all y hy).2.1)
  (iu (hi pins s σ H _ I h) λv s1 h1=>iu h1 λUv s2 h2=>?_)) (λ_ s' hq=>aj (aj hq)) λ_ _ e=>e)
 obtain⟨it,fp,tn,J,H2,e,I2,T,NZ,f2,hR⟩:=h2;subst e;refine wN (Q:=λv H1=>Dn.nx (σ.set i (some v)) H1) hc S wO Iz Ry ht he I2 T NZ f2 hR (RR:=λacc C=>compPost (model X.prog X.w) X.A X.xe (some (assign (.Name y py) X.env)) (λ_ s'=>SP X pins Dn .next s') acc C) ?_
 intro D C s' H' m' hC I' hn BW q;show wpAny _ X.A (assign (.Name y py) X.env (.ref D)) _ _ _;have XJ:C≠X.env.locals:=bz (aw I2.lt hC);have XM:∀y c,X.env.cells.lookup y=some c->c≠C:=λy c e z=>by obtain⟨v,q⟩:=I2.cell y c e;exact absurd (aw q.lt (by rw[z];exact hC)) (Nat.lt_irrefl _)
 refine wpAny_assign_Name (zv (v:=.ref D) I' S.nd hN hy rfl (λs6 I6 hs6=>?_) hf)
 obtain⟨a,LR,ha⟩:=hs6;have hCa:C≠a:=ha.elim (λz=>by rw[z];exact XJ) λz w=>XM _ _ z w.symm
 refine⟨m',hn.sameBut LR hCa,λh' Hc=>⟨_,H',?_,q⟩⟩
 exact I6.turned (t':=s6.toks) (it:=C) (λb o hb e=>(Hc.2 b hb).trans e) BW XJ (.inr (aD I2.sz hC)) XM λp hp z=>absurd (aw (aB (I2.pin p hp).1) (by rw[z];exact hC)) (Nat.lt_irrefl _)
end
end L2
namespace So
open PySem PySem.W PyProof.Rows
def i6 {α:Type}(lt:Nat->Nat->Bool):KasT α->α
 |.ret a=>a
 |.ask i j k=>i6 lt (k (lt i j))
theorem mD {α β:Type}(lt:Nat->Nat->Bool) (f:α->KasT β):∀t:KasT α,i6 lt (t.bind f)=i6 lt (f (i6 lt t))
 |.ret _=>rfl
 |.ask i j k=>mD lt f (k (lt i j))
section
variable (rank:Nat->Int)
def kk (p:Array Nat) (i:Nat):Int:=rank (p.getD i 0)
def D8 (p:Array Nat) (n:Nat):Prop:=∀i j,i<=j->j<n->kk rank p i<=kk rank p j
def Dec (p:Array Nat) (n:Nat):Prop:=∀i j,i<=j->j<n->kk rank p j<=kk rank p i
variable {rank}
theorem BX {p q:Array Nat}{i j:Nat}(h:p[i]? =q[j]?):kk rank p i=kk rank q j:=by
 unfold kk;rw[aU,aU,h]
theorem D9 {p:Array Nat}{i j:Nat}(hj:j<=p.size) (k:Nat):kk rank (kas_rev p i j) k=if i<=k/\k<j then kk rank p (i+j-1-k)else kk rank p k:=by
 have e:=getElem?_mirror_all (xs:=p) (i:=i) hj k;unfold kas_rev;split
 ·rename_i h;rw[if_pos h]at e;exact BX e
 ·rename_i h;rw[if_neg h]at e;exact BX e
theorem uM {p:Array Nat}{i j:Nat}(hj:j<=p.size) (he:∀k,i<=k->k<j->kk rank p k=kk rank p (j-1)) (k:Nat):kk rank (kas_rev p i j) k=kk rank p k:=by
 rw[D9 hj];split
 ·rw[he _ (by omega) (by omega),he k (by omega) (by omega)]
 ·rfl
theorem jt (p:Array Nat) (i j:Nat):(kas_rev p i j).Perm p:=mirror_perm _ _ _ _
theorem wU (p:Array Nat) (i j:Nat):(kas_rev p i j).size=p.size:=(jt p i j).size_eq
theorem D8.snoc {p:Array Nat}{n:Nat}(h:D8 rank p n) (h1:1<=n) (hx:kk rank p (n-1)<=kk rank p n):D8 rank p (n+1):=λi j wM hj=>by
 by_cases Ea:j<n
 ·exact h i j wM Ea
 ·have e:j=n:=by omega
  subst e;by_cases hi:i=j
  ·subst hi;exact Int.le_refl _
  ·exact Int.le_trans (h i (j-1) (by omega) (by omega)) hx
theorem Dec.snoc {p:Array Nat}{n:Nat}(h:Dec rank p n) (h1:1<=n) (hx:kk rank p n<=kk rank p (n-1)):Dec rank p (n+1):=λi j wM hj=>by
 by_cases Ea:j<n
 ·exact h i j wM Ea
 ·have e:j=n:=by omega
  subst e;by_cases hi:i=j
  ·subst hi;exact Int.le_refl _
  ·exact Int.le_trans hx (h i (j-1) (by omega) (by omega))
theorem Dec.congr {p q:Array Nat}{n:Nat}(h:Dec rank p n) (e:∀k,kk rank q k=kk rank p k):Dec rank q n:=λi j wM hj=>by rw[e,e];exact h i j wM hj
variable {lt:Nat->Nat->Bool}(fQ:∀i j,lt i j=decide (rank i<rank j))
include fQ
theorem Js {p:Array Nat}(f n:Nat):i6 lt (kas_asc p (f+1) n)=if rank (p.getD n 0)<rank (p.getD (n-1) 0)then n else i6 lt (kas_asc p f (n+1)):=by
 show i6 lt (if lt (p.getD n 0) (p.getD (n-1) 0)=true then KasT.ret n else kas_asc p f (n+1))=_
 rw[fQ];by_cases c:rank (p.getD n 0)<rank (p.getD (n-1) 0)
 ·rw[aS c,if_pos rfl,if_pos c];rfl
 ·rw[aH c,if_neg bc,if_neg c]
theorem AH {p:Array Nat}:∀(f n:Nat),1<=n->D8 rank p n->let m:=i6 lt (kas_asc p f n);n<=m/\m<=n+f/\D8 rank p m/\(m=n+f\/kk rank p m<kk rank p (m-1))
 |0,n,h1,h=>⟨au _,au _,h,.inl rfl⟩
 |f+1,n,h1,h=>by
  dsimp only;rw[Js fQ];by_cases c:rank (p.getD n 0)<rank (p.getD (n-1) 0)
  ·rw[if_pos c];exact⟨au _,by omega,h,.inr c⟩
  ·rw[if_neg c];have ih:=AH f (n+1) (by omega) (h.snoc h1 (by show rank _<=rank _;omega))
   dsimp only at ih;obtain⟨a,b,c',d⟩:=ih;exact⟨by omega,by omega,c',d.elim (λz=>.inl (by omega)) .inr⟩
theorem Hd (f:Nat) (p:Array Nat) (n q:Nat):i6 lt (kas_desc (f+1) p n q)=if rank (p.getD n 0)<rank (p.getD (n-1) 0)then(if q>0 then i6 lt (kas_desc f (kas_rev p (n-(q+1)) n) (n+1) 0)else i6 lt (kas_desc f p (n+1) 0))
  else if rank (p.getD (n-1) 0)<rank (p.getD n 0)then(p,n,q)else i6 lt (kas_desc f p (n+1) (q+1)):=by
 show i6 lt (if lt (p.getD n 0) (p.getD (n-1) 0)=true then(if q>0 then kas_desc f (kas_rev p (n-(q+1)) n) (n+1) 0 else kas_desc f p (n+1) 0)
  else .ask (p.getD (n-1) 0) (p.getD n 0) λd=>if d=true then .ret (p,n,q)else kas_desc f p (n+1) (q+1))=_
 rw[fQ];by_cases c:rank (p.getD n 0)<rank (p.getD (n-1) 0)
 ·rw[aS c,if_pos rfl,if_pos c];split<;>rfl
 ·rw[aH c,if_neg bc,if_neg c];show i6 lt (if lt (p.getD (n-1) 0) (p.getD n 0)=true then KasT.ret (p,n,q)else kas_desc f p (n+1) (q+1))=_
  rw[fQ];by_cases c2:rank (p.getD (n-1) 0)<rank (p.getD n 0)
  ·rw[aS c2,if_pos rfl,if_pos c2];rfl
  ·rw[aH c2,if_neg bc,if_neg c2]
theorem tG:∀(f:Nat) (p:Array Nat) (n q:Nat),1<=n->n+f<=p.size->Dec rank p n->q+1<=n->(∀i,n-(q+1)<=i->i<n->kk rank p i=kk rank p (n-1))->
  let r:=i6 lt (kas_desc f p n q);r.1.Perm p/\n<=r.2.1/\r.2.1<=n+f/\Dec rank r.1 r.2.1/\r.2.2+1<=r.2.1/\(∀i,r.2.1-(r.2.2+1)<=i->i<r.2.1->kk rank r.1 i=kk rank r.1 (r.2.1-1))
 |0,p,n,q,h1,hz,h,hq,he=>⟨Array.Perm.refl _,au _,au _,h,hq,he⟩
 |f+1,p,n,q,h1,hz,h,hq,he=>by
  dsimp only;rw[Hd fQ];by_cases c:rank (p.getD n 0)<rank (p.getD (n-1) 0)
  ·rw[if_pos c];have hx:kk rank p n<=kk rank p (n-1):=Int.le_of_lt c;by_cases XN:q>0
   ·rw[if_pos XN];have es:=uM (rank:=rank) (p:=p) (i:=n-(q+1)) (j:=n) (by omega) he
    have ih:=tG f (kas_rev p (n-(q+1)) n) (n+1) 0 (by omega) (by rw[wU];omega) ((h.snoc h1 hx).congr es) (by omega) (λi a b=>by rw[show i=n+1-1 by omega])
    dsimp only at ih;obtain⟨a,b,c',d⟩:=ih;exact⟨a.trans (jt _ _ _),by omega,by omega,d⟩
   ·rw[if_neg XN];have ih:=tG f p (n+1) 0 (by omega) (by omega) (h.snoc h1 hx) (by omega) (λi a b=>by rw[show i=n+1-1 by omega])
    dsimp only at ih;obtain⟨a,b,c',d⟩:=ih;exact⟨a,by omega,by omega,d⟩
  ·rw[if_neg c];by_cases c2:rank (p.getD (n-1) 0)<rank (p.getD n 0)
   ·rw[if_pos c2];exact⟨Array.Perm.refl _,au _,by show n<=_;omega,h,hq,he⟩
   ·rw[if_neg c2];have ex:kk rank p n=kk rank p (n-1):=by unfold kk;omega
    have ih:=tG f p (n+1) (q+1) (by omega) (by omega) (h.snoc h1 (Int.le_of_eq ex)) (by omega) (λi a b=>by
     rw[show n+1-1=n by omega]
     by_cases hi:i=n
     ·rw[hi]
     ·rw[ex];exact he i (by omega) (by omega))
    dsimp only at ih;obtain⟨a,b,c',d⟩:=ih;exact⟨a,by omega,by omega,d⟩
theorem zE {p:Array Nat}{n nrem:Nat}(h1:1<=n) (hn:n<=nrem) (hz:nrem<=p.size) (h:Dec rank p n):let r:=i6 lt (kas_tail3 n nrem p);r.2.Perm p/\1<=r.1/\r.1<=nrem/\D8 rank r.2 r.1:=by
 dsimp only;unfold kas_tail3;rw[mD];have hi:D8 rank (kas_rev p 0 n) n:=λi j wM hj=>by
  rw[D9 (by omega),D9 (by omega),if_pos (by omega),if_pos (by omega)]
  exact h _ _ (by omega) (by omega)
 have ih:=AH fQ (p:=kas_rev p 0 n) (nrem-n) n h1 hi;dsimp only at ih;exact⟨jt _ _ _,by show 1<=i6 lt (kas_asc _ _ _);omega,by show i6 lt (kas_asc _ _ _)<=nrem;omega,ih.2.2.1⟩
theorem tH {p:Array Nat}{n nrem:Nat}(hn:n+1<=nrem) (hz:nrem<=p.size) (h:Dec rank p (n+1)):let r:=i6 lt (kas_descPart n nrem p);r.2.Perm p/\1<=r.1/\r.1<=nrem/\D8 rank r.2 r.1:=by
 dsimp only;unfold kas_descPart;rw[mD];have ih:=tG fQ (nrem-(n+1)) p (n+1) 0 (by omega) (by omega) h (by omega) (λi a b=>by rw[show i=n+1-1 by omega])
 dsimp only at ih;generalize i6 lt (kas_desc (nrem-(n+1)) p (n+1) 0)=r at ih ⊢;obtain⟨a,b,c,d,e,g⟩:=ih;have sz:r.1.size=p.size:=a.size_eq;by_cases hq:r.2.2>0
 ·rw[if_pos hq];have es:=uM (rank:=rank) (p:=r.1) (i:=r.2.1-(r.2.2+1)) (j:=r.2.1) (by omega) g
  have t:=zE fQ (p:=kas_rev r.1 (r.2.1-(r.2.2+1)) r.2.1) (n:=r.2.1) (nrem:=nrem) (by omega) (by omega) (by rw[wU];omega) (d.congr es)
  exact⟨t.1.trans ((jt _ _ _).trans a),t.2⟩
 ·rw[if_neg hq];have t:=zE fQ (p:=r.1) (n:=r.2.1) (nrem:=nrem) (by omega) (by omega) (by omega) d
  exact⟨t.1.trans a,t.2⟩
theorem He {p:Array Nat}{nrem:Nat}(h1:1<=nrem) (hz:nrem<=p.size):let r:=i6 lt (kas_count nrem p);r.2.Perm p/\1<=r.1/\r.1<=nrem/\D8 rank r.2 r.1:=by
 dsimp only;unfold kas_count;rw[mD];have ih:=AH fQ (p:=p) (nrem-1) 1 (au _) (λi j wM hj=>by have:i=j:=(by omega);subst this;exact Int.le_refl _)
 dsimp only at ih;generalize i6 lt (kas_asc p (nrem-1) 1)=n at ih ⊢;obtain⟨a,b,c,d⟩:=ih;by_cases XO:n=nrem
 ·rw[if_pos (by simpa using XO)]
  exact⟨Array.Perm.refl _,a,by show n<=nrem;omega,c⟩
 ·rw[if_neg (by simpa using XO)]
  have hl:kk rank p n<kk rank p (n-1):=d.resolve_left (by omega)
  by_cases N8:n>1
  ·rw[if_pos N8];have e0:i6 lt (KasT.ask (p.getD 0 0) (p.getD (n-1) 0) λc=>if c=true then .ret (n,p)else kas_descPart n nrem (kas_rev p 0 n))=i6 lt (if lt (p.getD 0 0) (p.getD (n-1) 0)=true then .ret (n,p)else kas_descPart n nrem (kas_rev p 0 n)):=rfl
   rw[e0,fQ];by_cases hr:rank (p.getD 0 0)<rank (p.getD (n-1) 0)
   ·rw[aS hr,if_pos rfl];exact⟨Array.Perm.refl _,a,by show n<=nrem;omega,c⟩
   ·rw[aH hr,if_neg bc];have wL:∀k,0<=k->k<n->kk rank p k=kk rank p (n-1):=λk _ hk=>by
     have a1:=c 0 k (by omega) hk
     have a2:=c k (n-1) (by omega) (by omega)
     have a3:¬ kk rank p 0<kk rank p (n-1):=hr;omega
    have es:=uM (rank:=rank) (p:=p) (i:=0) (j:=n) (by omega) wL
    have t:=tH fQ (p:=kas_rev p 0 n) (n:=n) (nrem:=nrem) (by omega) (by rw[wU];omega) (λi j wM hj=>by
     rw[es,es];by_cases Ea:j<n
     ·rw[wL i (by omega) (by omega),wL j (by omega) Ea];exact Int.le_refl _
     ·have e:j=n:=by omega
      subst e;by_cases hi:i=j
      ·subst hi;exact Int.le_refl _
      ·rw[wL i (by omega) (by omega)];exact Int.le_of_lt hl)
    exact⟨t.1.trans (jt _ _ _),t.2⟩
  ·rw[if_neg N8];have e:n=1:=by omega
   subst e;exact tH fQ (by omega) hz (λi j wM hj=>by
    by_cases hi:i=j
    ·subst hi;exact Int.le_refl _
    ·have:i=0:=by omega
     have:j=1:=by omega
     subst_vars
     exact Int.le_of_lt hl)
theorem uN {p:Array Nat}{k:Nat}(hs:D8 rank p k):∀(f l r:Nat),l<=r->r<=k->r-l<=f->(∀i,i<l->kk rank p i<=kk rank p k)->(∀i,r<=i->i<k->kk rank p k<kk rank p i)->
  let m:=i6 lt (kas_place p k f l r);m<=k/\(∀i,i<m->kk rank p i<=kk rank p k)/\(∀i,m<=i->i<k->kk rank p k<kk rank p i)
 |0,l,r,h1,h2,h3,SH,UH=>by
  have e:l=r:=by omega
  subst e;exact⟨h2,SH,UH⟩
 |f+1,l,r,h1,h2,h3,SH,UH=>by
  dsimp only;unfold kas_place;by_cases hg:l ≥ r
  ·rw[if_pos hg];have e:l=r:=by omega
   subst e;exact⟨h2,SH,UH⟩
  ·rw[if_neg hg];simp only[i6];rw[fQ];have Hf:l<=(l+r)/2:=by omega
   have zF:(l+r)/2<r:=by omega
   generalize (l+r)/2=m at Hf zF ⊢;by_cases c:rank (p.getD k 0)<rank (p.getD m 0)
   ·rw[aS c,if_pos rfl];have ih:=uN hs f l m Hf (by omega) (by omega) SH (λi a b=>Int.lt_of_lt_of_le c (hs m i a b))
    exact ih
   ·rw[aH c,if_neg bc];have ih:=uN hs f (m+1) r (by omega) h2 (by omega) (λi a=>Int.le_trans (hs i m (by omega) (by omega)) (by show rank _<=rank _;omega)) UH
    exact ih
theorem zG {p:Array Nat}{src d:Nat}(hs:src<p.size) (hd:d<=src) (k:Nat):kk rank (bubble p src d) k=if k=src-d then kk rank p src else if src-d<k/\k<=src then kk rank p (k-1)else kk rank p k:=by
 have e:=getElem?_bubble hs d hd k;by_cases h1:k=src-d
 ·rw[if_pos h1]at e ⊢;exact BX e
 ·rw[if_neg h1]at e ⊢;by_cases h2:src-d<k/\k<=src
  ·rw[if_pos h2]at e ⊢;exact BX e
  ·rw[if_neg h2]at e ⊢;exact BX e
theorem FF:∀(f:Nat) (p:Array Nat) (k:Nat),k+f<=p.size->D8 rank p k->let r:=i6 lt (kas_bin f p k);r.Perm p/\D8 rank r (k+f)
 |0,p,k,hz,h=>⟨Array.Perm.refl _,h⟩
 |f+1,p,k,hz,h=>by
  dsimp only;unfold kas_bin;rw[mD];have pl:=uN fQ h k 0 k (bN _) (au _) (by omega) (λi a=>absurd a (Nat.not_lt_zero _)) (λi a b=>by omega)
  dsimp only at pl;generalize i6 lt (kas_place p k k 0 k)=l at pl ⊢;obtain⟨h1,h2,h3⟩:=pl;have ks:k<p.size:=by omega
  have inc:D8 rank (bubble p k (k-l)) (k+1):=λi j wM hj=>by
   rw[zG fQ ks (by omega),zG fQ ks (by omega),show k-(k-l)=l by omega]
   by_cases hi:i=l
   ·rw[if_pos hi];by_cases PH:j=l
    ·rw[if_pos PH];exact Int.le_refl _
    ·rw[if_neg PH,if_pos (by omega)]
     exact Int.le_of_lt (h3 (j-1) (by omega) (by omega))
   ·rw[if_neg hi];by_cases XQ:l<i/\i<=k
    ·rw[if_pos XQ,if_neg (by omega),if_pos (by omega)]
     exact h (i-1) (j-1) (by omega) (by omega)
    ·rw[if_neg XQ];by_cases PH:j=l
     ·rw[if_pos PH];exact h2 i (by omega)
     ·rw[if_neg PH];by_cases VN:l<j/\j<=k
      ·rw[if_pos VN];exact h i (j-1) (by omega) (by omega)
      ·rw[if_neg VN];exact h i j wM (by omega)
  have ih:=FF f (bubble p k (k-l)) (k+1) (by rw[bubble_size];omega) inc
  dsimp only at ih;exact⟨ih.1.trans (bubble_perm _ _ _),by rw[show k+(f+1)=k+1+f by omega];exact ih.2⟩
theorem wV (n:Nat) (h1:1<=n):let r:=i6 lt (kas_sort n);r.Perm (List.toArray (List.range n))/\D8 rank r n:=by
 dsimp only;unfold kas_sort;rw[mD];have hz:(List.toArray (List.range n)).size=n:=by simp
 have c:=He fQ (p:=List.toArray (List.range n)) h1 (by omega)
 dsimp only at c;generalize i6 lt (kas_count n (List.toArray (List.range n)))=r at c ⊢;obtain⟨a,b,d,e⟩:=c;have sz:r.2.size=n:=a.size_eq.trans hz;by_cases SR:r.1<n
 ·rw[if_pos SR];have m:max r.1 1=r.1:=by omega
  rw[m];have bn:=FF fQ (n-r.1) r.2 r.1 (by omega) e
  dsimp only at bn;exact⟨bn.1.trans a,by have:=bn.2;rwa [show r.1+(n-r.1)=n by omega]at this⟩
 ·rw[if_neg SR];have:r.1=n:=by omega
  exact⟨a,by show D8 rank r.2 n;rw[<-this];exact e⟩
end
end So
namespace DL
open PySem PySem.Spec PyProof.Rows L2
inductive D where
 |eD|bl (b:Bool)|int (i:Int)|str (x:Str)|tup (ds:List D)|lst (ds:List D)
mutual
inductive Is (C:Hp):V->D->Prop where
 |eD:Is C .eD .eD
 |bl (b:Bool):Is C (.bl b) (.bl b)
 |int (i:Int):Is C (.int i) (.int i)
 |str (x:Str):Is C (.str x) (.str x)
 |tup {a:cF}{xs:List V}{ds:List D}:C a=some (.tup xs)->IsL C xs ds->Is C (.ref a) (.tup ds)
 |lst {a:cF}{xs:List V}{ds:List D}:Rd C a (.lst xs)->IsL C xs ds->Is C (.ref a) (.lst ds)
inductive IsL (C:Hp):List V->List D->Prop where
 |nil:IsL C [] []
 |cons {v:V}{d:D}{vs:List V}{ds:List D}:Is C v d->IsL C vs ds->IsL C (v::vs) (d::ds)
end
theorem _root_.L2.Rd.same {C C':Hp}(e:dZ C C') {a:cF}{u:HO}(h:Rd C a u):Rd C' a u:=by
 rcases h with h|⟨o,h⟩
 ·exact .inl (e _ _ h)
 ·exact .inr ⟨o,e _ _ h⟩
mutual
theorem Is.mono {C C':Hp}(e:dZ C C'):∀{v:V}{d:D},Is C v d->Is C' v d
 |_,_,.eD=>.eD
 |_,_,.bl b=>.bl b
 |_,_,.int i=>.int i
 |_,_,.str x=>.str x
 |_,_,.tup h l=>.tup (e _ _ h) (IsL.mono e l)
 |_,_,.lst h l=>.lst (h.same e) (IsL.mono e l)
theorem IsL.mono {C C':Hp}(e:dZ C C'):∀{vs:List V}{ds:List D},IsL C vs ds->IsL C' vs ds
 |_,_,.nil=>.nil
 |_,_,.cons h t=>.cons (Is.mono e h) (IsL.mono e t)
end
section
variable {C:Hp}
theorem IsL.length:∀{vs:List V}{ds:List D},IsL C vs ds->vs.length=ds.length
 |_,_,.nil=>rfl
 |_,_,.cons _ t=>congrArg (·+1) (IsL.length t)
theorem IsL.get:∀{vs:List V}{ds:List D}{i:Nat}{d:D},IsL C vs ds->ds[i]? =some d->∃v,vs[i]? =some v/\Is C v d
 |_,_,_,_,.nil,e=>by simp at e
 |_,_,0,_,.cons h _,e=>by simp at e;subst e;exact⟨_,rfl,h⟩
 |_,_,i+1,_,.cons _ t,e=>by
  obtain⟨v,h1,h2⟩:=IsL.get (i:=i) t (by simpa using e)
  exact⟨v,by simpa using h1,h2⟩
theorem IsL.get':∀{vs:List V}{ds:List D}{i:Nat}{v:V},IsL C vs ds->vs[i]? =some v->∃d,ds[i]? =some d/\Is C v d
 |_,_,_,_,.nil,e=>by simp at e
 |_,_,0,_,.cons h _,e=>by simp at e;subst e;exact⟨_,rfl,h⟩
 |_,_,i+1,_,.cons _ t,e=>by
  obtain⟨v,h1,h2⟩:=IsL.get' (i:=i) t (by simpa using e)
  exact⟨v,by simpa using h1,h2⟩
theorem IsL.append:∀{vs ws:List V}{ds es:List D},IsL C vs ds->IsL C ws es->IsL C (vs++ws) (ds++es)
 |_,_,_,_,.nil,s=>s
 |_,_,_,_,.cons h t,s=>.cons h (IsL.append t s)
theorem IsL.take:∀{vs:List V}{ds:List D}(n:Nat),IsL C vs ds->IsL C (vs.take n) (ds.take n)
 |_,_,0,_=>.nil
 |_,_,_+1,.nil=>.nil
 |_,_,n+1,.cons h t=>.cons h (IsL.take n t)
theorem IsL.drop:∀{vs:List V}{ds:List D}(n:Nat),IsL C vs ds->IsL C (vs.drop n) (ds.drop n)
 |_,_,0,h=>h
 |_,_,_+1,.nil=>.nil
 |_,_,n+1,.cons _ t=>IsL.drop n t
theorem IsL.eraseIdx:∀{vs:List V}{ds:List D}(n:Nat),IsL C vs ds->IsL C (vs.eraseIdx n) (ds.eraseIdx n)
 |_,_,_,.nil=>.nil
 |_,_,0,.cons _ t=>t
 |_,_,n+1,.cons h t=>.cons h (IsL.eraseIdx n t)
theorem IsL.ints (ns:cq):IsL C (ns.map V.int) (ns.map D.int):=by
 induction ns with
 |nil=>exact .nil
 |cons n r ih=>exact .cons (.int n) ih
theorem IsL.rl:∀{ns:cq}{vs:List V},IsL C vs (ns.map D.int)->vs=ns.map V.int
 |[],_,.nil=>rfl
 |n::r,_,.cons (.int _) t=>by rw[IsL.rl t];rfl
theorem IsL.Eb:∀{bs:List Bool}{vs:List V},IsL C vs (bs.map D.bl)->vs=bs.map V.bl
 |[],_,.nil=>rfl
 |n::r,_,.cons (.bl _) t=>by rw[IsL.Eb t];rfl
theorem IsL.one {v:V}{d:D}(h:Is C v d):IsL C [v] [d]:=.cons h .nil
end
structure mE (C H C' H':Hp):Prop where
 c:dZ C C'
 h:dZ H H'
 s:dZ C' H'
 n:∀a u,C' a=some u->C a=some u\/H a=none
theorem eR {H:Hp}{p:cF}{o:HO}(h:H p=none):dZ H (upd H p o):=λb u q=>by rw[cV (cY q h)];exact q
def DF:HO->Bool
 |.ext _=>true
 |.ins _ _ _=>true
 |.own _=>true
 |.dK _=>true
 |_=>false
class Mem where
 cell:cu
 face:cu
 ok:Hp->Hp->Prop
 has:Hp->Hp->D->Prop
 rel:Hp->Hp->Hp->Hp->Prop
 of0:∀{C H C' H':Hp},mE C H C' H'->rel C H C' H'
 trans:∀{C H C' H' C2 H2:Hp},rel C H C' H'->rel C' H' C2 H2->rel C H C2 H2
 chg:∀{C H C' H':Hp}{a:cF}{o:HO},rel C H C' H'->H a=none->rel C H C' (upd H' a o)
 give:∀{C H C' H':Hp}{a:cF}{o:HO},rel C H C' H'->C' a=none->H' a=some o->DF o=false->rel C H (upd C' a o) H'
 SS:∀{C H C' H':Hp},rel C H C' H'->ok C H->ok C' H'
 Jt:∀{C H C' H':Hp}{k:D},rel C H C' H'->ok C H->has C H k->has C' H' k
 Rz:∀{C H:Hp}{a:cF}{o:HO},ok C H->(∀u,H a=some u->DF u=false)->ok C (upd H a o)
 Hg:∀{C H:Hp}{a:cF}{o:HO}{k:D},ok C H->(∀u,H a=some u->DF u=false)->has C H k->has C (upd H a o) k
 SU:∀{C H:Hp}{a:cF}{o:HO},ok C H->C a=none->H a=some o->DF o=false->ok (upd C a o) H
 Ju:∀{C H:Hp}{a:cF}{o:HO}{k:D},ok C H->C a=none->H a=some o->DF o=false->has C H k->has (upd C a o) H k
@[reducible] def Mem.keep:Mem where
 cell:=none
 face:=none
 ok:=λ_ _=>True
 has:=λ_ _ _=>False
 rel:=λ_ H _ H'=>dZ H H'
 of0:=λe=>e.h
 trans:=λa b=>a.trans b
 chg:=λ{_ _ _ _ a o} r h b u q=>by rw[cV (cY q h)];exact r b u q
 give:=λr _ _ _=>r
 SS:=λ_ _=>trivial
 Jt:=λ_ _ h=>h
 Rz:=λ_ _=>trivial
 Hg:=λ_ _ h=>h
 SU:=λ_ _ _ _=>trivial
 Ju:=λ_ _ _ _ h=>h
structure Ev [m:Mem] (C H C' H':Hp):Prop where
 c:dZ C C'
 h:∀b o,H b=some o->(m.cell≠some b\/DF o=false)->H' b=some o
 x:∀b o,H b=some o->m.cell=some b->DF o=true->∃o',H' b=some o'/\DF o'=true
 s:dZ C' H'
 n:∀a u,C' a=some u->C a=some u\/H a=none
 r:m.rel C H C' H'
section
variable {C H C' H' C2 H2:Hp}
theorem mE.refl (s:dZ C H):mE C H C H:=⟨dZ.refl _,dZ.refl _,s,λ_ _ e=>.inl e⟩
theorem mE.trans (a:mE C H C' H') (b:mE C' H' C2 H2):mE C H C2 H2:=
 ⟨a.c.trans b.c,a.h.trans b.h,b.s,λp u e=>(b.n p u e).elim (a.n p u) λz=>.inr (a.h.free z)⟩
theorem mE.new (s:dZ C H) {p:cF}{o:HO}(h:H p=none):mE C H (upd C p o) (upd H p o):=
 ⟨eR (s.free h),eR h,λb u q=>by
  by_cases e:b=p
  ·subst e;rw[dc]at q ⊢;exact q
  ·rw[cV e]at q ⊢;exact s b u q,λb u q=>by
  by_cases e:b=p
  ·subst e;exact .inr h
  ·rw[cV e]at q;exact .inl q⟩
theorem mE.gK (s:dZ C H) {p:cF}{o:HO}(h:H p=none):mE C H C (upd H p o):=
 ⟨dZ.refl _,eR h,s.trans (eR h),λ_ _ e=>.inl e⟩
theorem Ev.pX (e:@Ev Mem.keep C H C' H'):mE C H C' H':=⟨@Ev.c Mem.keep _ _ _ _ e,@Ev.r Mem.keep _ _ _ _ e,@Ev.s Mem.keep _ _ _ _ e,@Ev.n Mem.keep _ _ _ _ e⟩
variable [Mem]
theorem mE.up (e:mE C H C' H'):Ev C H C' H':=⟨e.c,λb o q _=>e.h b o q,λb o q _ x=>⟨o,e.h b o q,x⟩,e.s,e.n,Mem.of0 e⟩
theorem Ev.free (e:Ev C H C' H') {a:cF}(h:H' a=none):H a=none:=by
 cases q:H a with
 |none=>rfl
 |some o=>
  cases hx:DF o with
  |false=>rw[e.h a o q (.inr hx)]at h;cases h
  |true=>
   by_cases hc:Mem.cell=some a
   ·obtain⟨o',h1,_⟩:=e.x a o q hc hx;rw[h1]at h;cases h
   ·rw[e.h a o q (.inl hc)]at h;cases h
theorem Ev.hh (e:Ev C H C' H') {a:cF}{o:HO}(h:H a=some o) (hx:DF o=false:=by rfl):H' a=some o:=e.h a o h (.inr hx)
theorem Ev.refl (s:dZ C H):Ev C H C H:=(mE.refl s).up
theorem Ev.trans (a:Ev C H C' H') (b:Ev C' H' C2 H2):Ev C H C2 H2:=
 ⟨a.c.trans b.c,λp o q x=>b.h p o (a.h p o q x) x,λp o q c x=>let ⟨o',h1,h2⟩:=a.x p o q c x;b.x p o' h1 c h2,b.s,λp u e=>(b.n p u e).elim (a.n p u) λz=>.inr (a.free z),Mem.trans a.r b.r⟩
theorem Ev.new (s:dZ C H) {p:cF}{o:HO}(h:H p=none):Ev C H (upd C p o) (upd H p o):=(mE.new s h).up
theorem Ev.gK (s:dZ C H) {p:cF}{o:HO}(h:H p=none):Ev C H C (upd H p o):=(mE.gK s h).up
theorem Ev.nn (a:Ev C H C' H') {p:cF}(h:C p=none) {u:HO}(h2:H p=some u):C' p=none:=by
 cases q:C' p with
 |none=>rfl
 |some o=>rcases a.n p o q with z|z<;>simp_all
theorem Ev.FG (e:Ev C H C' H') {a:cF}(hn:H a=none) (hc:C' a=none) (o:HO):Ev C H C' (upd H' a o):=
 ⟨e.c,λb u q x=>by rw[cV (cY q hn)];exact e.h b u q x,λb u q c x=>by rw[cV (cY q hn)];exact e.x b u q c x,λb u q=>by rw[cV (cY q hc)];exact e.s b u q,e.n,Mem.chg e.r hn⟩
theorem Ev.N9 (e:Ev C H C' H') {a:cF}{o:HO}(hn:H a=none) (hc:C' a=none) (ho:H' a=some o) (hx:DF o=false:=by rfl):Ev C H (upd C' a o) H':=
 ⟨e.c.trans (eR hc),e.h,e.x,λb u z=>by
   by_cases hb:b=a
   ·subst hb;rw[dc]at z;cases z;exact ho
   ·rw[cV hb]at z;exact e.s b u z,λb u z=>by
   by_cases hb:b=a
   ·subst hb;exact .inr hn
   ·rw[cV hb]at z;exact e.n b u z,Mem.give e.r hc ho hx⟩
end
inductive Sl where
 |no|dat (d:D)|own (ds:List D)|memo (ks:List D)
abbrev dR:=List Sl
structure Sx [m:Mem] (δ:dR) (σ:L2.St) (C H:Hp):Prop where
 sub:dZ C H
 dat:∀(i:Nat) (d:D),δ[i]? =some (.dat d)->∃v,σ[i]? =some (some v)/\Is C v d
 own:∀(i:Nat) (ds:List D),δ[i]? =some (.own ds)->∃(a:cF) (xs:List V),σ[i]? =some (some (.ref a))/\C a=none/\H a=some (.lst xs)/\IsL C xs ds
 yM:∀(i j:Nat) (ds es:List D) (a:cF),δ[i]? =some (.own ds)->δ[j]? =some (.own es)->σ[i]? =some (some (.ref a))->σ[j]? =some (some (.ref a))->i=j
 len:δ.length=σ.length
 mem:∀(i:Nat) (ks:List D),δ[i]? =some (.memo ks)->∃a:cF,m.face=some a/\σ[i]? =some (some (.ref a))/\m.ok C H/\∀k∈ks,m.has C H k
section
variable [Mem] {δ:dR}{σ:L2.St}{C H C' H':Hp}
theorem Sx.ev (x:Sx δ σ C H) (e:Ev C H C' H'):Sx δ σ C' H' where
 sub:=e.s
 dat:=λi d q=>let ⟨v,h1,h2⟩:=x.dat i d q;⟨v,h1,h2.mono e.c⟩
 own:=λi ds q=>let ⟨a,xs,h1,h2,h3,h4⟩:=x.own i ds q;⟨a,xs,h1,e.nn h2 h3,e.hh h3,h4.mono e.c⟩
 yM:=x.yM
 len:=x.len
 mem:=λi ks q=>let ⟨a,h1,h2,h3,h4⟩:=x.mem i ks q;⟨a,h1,h2,Mem.SS e.r h3,λk hk=>Mem.Jt e.r h3 (h4 k hk)⟩
omit [Mem] in
theorem getElem?_set_cases {α:Type}{l:List α}{i j:Nat}{a b:α}(h:(l.set i a)[j]? =some b):(j=i/\b=a)\/(j≠i/\l[j]? =some b):=by
 by_cases e:j=i
 ·subst e;by_cases hl:j<l.length
  ·rw[bf hl]at h;exact .inl ⟨rfl,(aT h).symm⟩
  ·have:(l.set j a)[j]? =none:=by simp;omega
   rw[this]at h;cases h
 ·rw[aG (Ne.symm e)]at h;exact .inr ⟨e,h⟩
omit [Mem] in
theorem Ec {α:Type}{l:List α}{i:Nat}{a b:α}(h:(l.set i a)[i]? =some b):i<l.length:=by
 by_cases hl:i<l.length
 ·exact hl
 ·have:(l.set i a)[i]? =none:=by simp;omega
  rw[this]at h;cases h
theorem Sx.sM (x:Sx δ σ C H) {i:Nat}{v:V}{d:D}(h:Is C v d):Sx (δ.set i (.dat d)) (σ.set i (some v)) C H where
 sub:=x.sub
 dat:=λk d' q=>by
  rcases getElem?_set_cases q with⟨rfl,e⟩|⟨hk,e⟩
  ·cases e;have:=Ec q;exact⟨v,by rw[bf (by rw[<-x.len];exact this)],h⟩
  ·obtain⟨v',h1,h2⟩:=x.dat k d' e;exact⟨v',by rw[aG (Ne.symm hk)];exact h1,h2⟩
 own:=λk ds q=>by
  rcases getElem?_set_cases q with⟨rfl,e⟩|⟨hk,e⟩
  ·cases e
  ·obtain⟨a,xs,h1,h2⟩:=x.own k ds e;exact⟨a,xs,by rw[aG (Ne.symm hk)];exact h1,h2⟩
 yM:=λk l ds es a q1 q2 q3 q4=>by
  rcases getElem?_set_cases q1 with⟨_,e1⟩|⟨hk,e1⟩
  ·cases e1
  rcases getElem?_set_cases q2 with⟨_,e2⟩|⟨hl,e2⟩
  ·cases e2
  rw[aG (Ne.symm hk)]at q3;rw[aG (Ne.symm hl)]at q4;exact x.yM k l ds es a e1 e2 q3 q4
 len:=by simp[x.len]
 mem:=λk ks q=>by
  rcases getElem?_set_cases q with⟨rfl,e⟩|⟨hk,e⟩
  ·cases e
  ·obtain⟨a,h1,h2,h3⟩:=x.mem k ks e;exact⟨a,h1,by rw[aG (Ne.symm hk)];exact h2,h3⟩
theorem Sx.AI (x:Sx δ σ C H) {i:Nat}{a:cF}{xs:List V}{ds:List D}(hc:C a=none) (hH:H a=some (.lst xs)) (hl:IsL C xs ds)
  (hn:∀(k:Nat) (es:List D),δ[k]? =some (.own es)->σ[k]? ≠some (some (.ref a))):Sx (δ.set i (.own ds)) (σ.set i (some (.ref a))) C H where
 sub:=x.sub
 dat:=λk d' q=>by
  rcases getElem?_set_cases q with⟨rfl,e⟩|⟨hk,e⟩
  ·cases e
  ·obtain⟨v',h1,h2⟩:=x.dat k d' e;exact⟨v',by rw[aG (Ne.symm hk)];exact h1,h2⟩
 own:=λk es q=>by
  rcases getElem?_set_cases q with⟨rfl,e⟩|⟨hk,e⟩
  ·cases e;have:=Ec q;exact⟨a,xs,by rw[bf (by rw[<-x.len];exact this)],hc,hH,hl⟩
  ·obtain⟨b,ys,h1,h2⟩:=x.own k es e;exact⟨b,ys,by rw[aG (Ne.symm hk)];exact h1,h2⟩
 yM:=λk l FH es b q1 q2 q3 q4=>by
  rcases getElem?_set_cases q1 with⟨hk,e1⟩|⟨hk,e1⟩
  ·rcases getElem?_set_cases q2 with⟨jk,e2⟩|⟨jk,e2⟩
   ·rw[hk,jk]
   ·subst hk;have e3:=getElem?_set_cases q3;rcases e3 with⟨_,e3⟩|⟨z,_⟩
    ·cases e3;rw[aG (Ne.symm jk)]at q4;exact absurd q4 (hn l es e2)
    ·exact absurd rfl z
  ·rcases getElem?_set_cases q2 with⟨jk,e2⟩|⟨jk,e2⟩
   ·subst jk;rcases getElem?_set_cases q4 with⟨_,e4⟩|⟨z,_⟩
    ·cases e4;rw[aG (Ne.symm hk)]at q3;exact absurd q3 (hn k FH e1)
    ·exact absurd rfl z
   ·rw[aG (Ne.symm hk)]at q3;rw[aG (Ne.symm jk)]at q4;exact x.yM k l FH es b e1 e2 q3 q4
 len:=by simp[x.len]
 mem:=λk ks q=>by
  rcases getElem?_set_cases q with⟨rfl,e⟩|⟨hk,e⟩
  ·cases e
  ·obtain⟨a,h1,h2,h3⟩:=x.mem k ks e;exact⟨a,h1,by rw[aG (Ne.symm hk)];exact h2,h3⟩
theorem Sx.mut (x:Sx δ σ C H) {i:Nat}{a:cF}{ys:List V}{ds es:List D}(hi:δ[i]? =some (.own ds)) (ha:σ[i]? =some (some (.ref a))) (hl:IsL C ys es):
  Sx (δ.set i (.own es)) σ C (upd H a (.lst ys))where
 sub:=λb u q=>by
  obtain⟨a',xs,h1,h2,_⟩:=x.own i ds hi;rw[ha]at h1;cases h1;have:b≠a:=λz=>by rw[z,h2]at q;cases q
  rw[cV this];exact x.sub b u q
 dat:=λk d' q=>by
  rcases getElem?_set_cases q with⟨rfl,e⟩|⟨hk,e⟩
  ·cases e
  ·exact x.dat k d' e
 own:=λk fs q=>by
  obtain⟨a',xs,h1,h2,_⟩:=x.own i ds hi;rw[ha]at h1;cases h1;rcases getElem?_set_cases q with⟨rfl,e⟩|⟨hk,e⟩
  ·cases e;exact⟨a,ys,ha,h2,dc,hl⟩
  ·obtain⟨b,zs,BF,DG,Jv,My⟩:=x.own k fs e;have:b≠a:=λz=>by subst z;exact hk (x.yM k i fs ds b e hi BF ha)
   exact⟨b,zs,BF,DG,by rw[cV this];exact Jv,My⟩
 yM:=λk l FH Fq b q1 q2 q3 q4=>by
  have Jw:∀{k:Nat}{Fq:List D},(δ.set i (Sl.own es))[k]? =some (.own Fq)->∃fs,δ[k]? =some (.own fs):=λ{k Fq} q=>by
   rcases getElem?_set_cases q with⟨rfl,e⟩|⟨hk,e⟩
   ·exact⟨ds,hi⟩
   ·exact⟨_,e⟩
  obtain⟨f1,e1⟩:=Jw q1;obtain⟨f2,e2⟩:=Jw q2;exact x.yM k l f1 f2 b e1 e2 q3 q4
 len:=by simp[x.len]
 mem:=λk ks q=>by
  obtain⟨a',xs,h1,h2,h3,_⟩:=x.own i ds hi;rw[ha]at h1;cases h1;have hx:∀u,H a=some u->DF u=false:=λu q=>by rw[h3]at q;cases q;rfl
  rcases getElem?_set_cases q with⟨rfl,e⟩|⟨hk,e⟩
  ·cases e
  ·obtain⟨b,h1,h2,h3,h4⟩:=x.mem k ks e;exact⟨b,h1,h2,Mem.Rz h3 hx,λk hk=>Mem.Hg h3 hx (h4 k hk)⟩
theorem Sx.give (x:Sx δ σ C H) {i:Nat}{a:cF}{xs:List V}{ds:List D}(hi:δ[i]? =some (.own ds)) (ha:σ[i]? =some (some (.ref a))) (hH:H a=some (.lst xs)) (hl:IsL C xs ds):
  Sx (δ.set i (.dat (.lst ds))) σ (upd C a (.lst xs)) H:=by
 obtain⟨a',XR,h1,h2,h3,_⟩:=x.own i ds hi;rw[ha]at h1;cases h1;have sc:dZ C (upd C a (.lst xs)):=eR h2;exact {
  sub:=λb u q=>by
   by_cases e:b=a
   ·subst e;rw[dc]at q;cases q;exact hH
   ·rw[cV e]at q;exact x.sub b u q
  dat:=λk d' q=>by
   rcases getElem?_set_cases q with⟨rfl,e⟩|⟨hk,e⟩
   ·cases e;exact⟨_,ha,.lst (.inl dc) (hl.mono sc)⟩
   ·obtain⟨v,q1,q2⟩:=x.dat k d' e;exact⟨v,q1,q2.mono sc⟩
  own:=λk fs q=>by
   rcases getElem?_set_cases q with⟨rfl,e⟩|⟨hk,e⟩
   ·cases e
   ·obtain⟨b,zs,BF,DG,Jv,My⟩:=x.own k fs e;have:b≠a:=λz=>by subst z;exact hk (x.yM k i fs ds b e hi BF ha)
    exact⟨b,zs,BF,by rw[cV this];exact DG,Jv,My.mono sc⟩
  yM:=λk l FH Fq b q1 q2 q3 q4=>by
   rcases getElem?_set_cases q1 with⟨_,e1⟩|⟨_,e1⟩
   ·cases e1
   rcases getElem?_set_cases q2 with⟨_,e2⟩|⟨_,e2⟩
   ·cases e2
   exact x.yM k l FH Fq b e1 e2 q3 q4
  len:=by simp[x.len]
  mem:=λk ks q=>by
   rcases getElem?_set_cases q with⟨rfl,e⟩|⟨hk,e⟩
   ·cases e
   ·obtain⟨b,h1,DG,h3,h4⟩:=x.mem k ks e;exact⟨b,h1,DG,Mem.SU h3 h2 hH rfl,λk hk=>Mem.Ju h3 h2 hH rfl (h4 k hk)⟩}
end
variable [Mem]
def sf (C H:Hp) (v:V) (d:D):Prop:=Is C v d\/∃a xs ds,v=.ref a/\d=.lst ds/\C a=none/\H a=some (.lst xs)/\IsL C xs ds
def tD (f:dR->Option D):TE:=λσ H Q=>∃C δ d,Sx δ σ C H/\f δ=some d/\∀v C' H',Ev C H C' H'->Is C' v d->Q v H'
def tO (f:dR->Option D):TE:=λσ H Q=>∃C δ d,Sx δ σ C H/\f δ=some d/\∀v C' H',Ev C H C' H'->sf C' H' v d->Q v H'
def tF (f:dR->Option (List D)):TE:=λσ H Q=>∃C δ ds,Sx δ σ C H/\f δ=some ds/\∀a xs C' H',Ev C H C' H'->H a=none->C' a=none->H' a=some (.lst xs)->IsL C' xs ds->Q (.ref a) H'
def tQ (f:dR->Option Bool):TT:=λσ H Q=>∃C δ b,Sx δ σ C H/\f δ=some b/\∀C' H',Ev C H C' H'->Q b H'
def UI (f:dR->Option (List D)):TA:=λσ H Q=>∃C δ ds,Sx δ σ C H/\f δ=some ds/\∀vs C' H',Ev C H C' H'->IsL C' vs ds->Q vs H'
abbrev PD (X:Cx) (e:cG) (f:dR->Option D):Prop:=PE X e (tD f)
abbrev PO (X:Cx) (e:cG) (f:dR->Option D):Prop:=PE X e (tO f)
abbrev PF (X:Cx) (e:cG) (f:dR->Option (List D)):Prop:=PE X e (tF f)
abbrev PQ (X:Cx) (e:cG) (f:dR->Option Bool):Prop:=PT X e (tQ f)
abbrev Hh (X:Cx) (es:List cG) (f:dR->Option (List D)):Prop:=PA X es (UI f)
omit [Mem] in
theorem _root_.L2.PE.imp {X:Cx}{e:cG}{t t':TE}(h:PE X e t) (m:∀σ H Q,t' σ H Q->t σ H Q):PE X e t':=λpins s σ H Q I q=>h pins s σ H Q I (m σ H Q q)
omit [Mem] in
theorem _root_.L2.PT.imp {X:Cx}{e:cG}{t t':TT}(h:PT X e t) (m:∀σ H Q,t' σ H Q->t σ H Q):PT X e t':=λpins s σ H Q I q=>h pins s σ H Q I (m σ H Q q)
omit [Mem] in
theorem _root_.L2.PW.imp {X:Cx}{e:cG}{t t':TT}(h:PW X e t) (m:∀σ H Q,t' σ H Q->t σ H Q):PW X e t':=λwhole pins s σ H Q I q=>h whole pins s σ H Q I (m σ H Q q)
omit [Mem] in
theorem _root_.L2.PA.imp {X:Cx}{es:List cG}{t t':TA}(h:PA X es t) (m:∀σ H Q,t' σ H Q->t σ H Q):PA X es t':=λpos pins s σ H Q I q=>h pos pins s σ H Q I (m σ H Q q)
omit [Mem] in
theorem _root_.L2.PS.imp {X:Cx}{st:cH}{t t':TS}(h:PS X st t) (m:∀Dn σ H,t' Dn σ H->t Dn σ H):PS X st t':=λpins s σ H Dn I q=>h pins s σ H Dn I (m Dn σ H q)
omit [Mem] in
theorem _root_.L2.yA.imp {X:Cx}{st:List cH}{t t':TS}(h:yA X st t) (m:∀Dn σ H,t' Dn σ H->t Dn σ H):yA X st t':=λpins s σ H Dn I q=>h pins s σ H Dn I (m Dn σ H q)
section
variable {X:Cx}{e a b c:cG}{pos:Pos}
theorem PD.o {f:dR->Option D}(h:PD X e f):PO X e f:=h.imp λσ H Q ⟨C,δ,d,x,q,k⟩=>⟨C,δ,d,x,q,λv C' H' ev i=>k v C' H' ev (.inl i)⟩
def dL (f:dR->Option (List D)):dR->Option D:=λδ=>(f δ).map D.lst
theorem PF.d {f:dR->Option (List D)}(h:PF X e f):PD X e (dL f):=h.imp λσ H Q ⟨C,δ,d,x,q,k⟩=>by
 unfold dL at q;cases hf:f δ with
 |none=>rw[hf]at q;cases q
 |some ds=>
  rw[hf]at q;have q':d=.lst ds:=(aT q).symm;subst q';exact⟨C,δ,ds,x,hf,λa xs C' H' ev h1 h2 h3 h4=>k (.ref a) (upd C' a (.lst xs)) H' (ev.N9 h1 h2 h3) (.lst (.inl dc) (h4.mono (eR h2)))⟩
def cP (i:Nat):dR->Option D:=λδ=>match δ[i]? with|some (.dat d)=>some d|_=>none
def dk (i:Nat):dR->Option D:=λδ=>match δ[i]? with|some (.dat d)=>some d|some (.own ds)=>some (.lst ds)|_=>none
def dC (d:D):dR->Option D:=λ_=>some d
theorem Hi {i:Nat}(h:PE X e (gI i)):PD X e (cP i):=h.imp λσ H Q ⟨C,δ,d,x,q,k⟩=>by
 unfold cP at q;split at q
 ·rename_i d' hd;cases q;obtain⟨v,h1,h2⟩:=x.dat i _ hd;exact⟨v,h1,k v C H (.refl x.sub) h2⟩
 ·cases q
theorem Hj {i:Nat}(h:PE X e (gI i)):PO X e (dk i):=h.imp λσ H Q ⟨C,δ,d,x,q,k⟩=>by
 unfold dk at q;split at q
 ·rename_i d' hd;cases q;obtain⟨v,h1,h2⟩:=x.dat i _ hd;exact⟨v,h1,k v C H (.refl x.sub) (.inl h2)⟩
 ·rename_i ds hd;cases q;obtain⟨a,xs,h1,h2,h3,h4⟩:=x.own i _ hd;exact⟨_,h1,k _ C H (.refl x.sub) (.inr ⟨a,xs,ds,rfl,rfl,h2,h3,h4⟩)⟩
 ·cases q
theorem wb {v:V}{d:D}(h:PE X e (tC v)) (hd:∀C,Is C v d):PD X e (dC d):=h.imp λσ H Q ⟨C,δ,d',x,q,k⟩=>by
 cases q;exact k v C H (.refl x.sub) (hd C)
theorem PK {i:Int}{j:Nat}:PD X (.Constant (.int i) j pos) (dC (.int i)):=wb DM λ_=>.int i
theorem SV {i:Bool}{j:Nat}:PD X (.Constant (.bool i) j pos) (dC (.bl i)):=wb RQ λ_=>.bl i
theorem PL {j:Nat}:PD X (.Constant .none j pos) (dC .eD):=wb OU λ_=>.eD
theorem Mz {x:Str}{i:Int}{t:Tok}(hg:Gl X x) (hm:X.mg x=some (.int i t)) (hd:(x==("__debug__":Str))=false:=by decide):PD X (.Name x pos) (dC (.int i)):=wb (LY (v:=.int i) hg hm ⟨t,rfl⟩ hd) λ_=>.int i
def Oa (r:R2) (op:D->D->Option D):Prop:=∀C H x y dx dy d Q,dZ C H->sf C H x dx->sf C H y dy->op dx dy=some d->(∀v C' H',mE C H C' H'->Is C' v d->Q v H')->r x y H Q
def dz {α:Type}(op:D->D->Option α) (f g:dR->Option D):dR->Option α:=λδ=>(f δ).bind λx=>(g δ).bind λy=>op x y
theorem sf.ev {C H C' H':Hp}{v:V}{d:D}(h:sf C H v d) (e:Ev C H C' H'):sf C' H' v d:=by
 rcases h with h|⟨a,xs,ds,h1,h2,h3,h4,h5⟩
 ·exact .inl (h.mono e.c)
 ·exact .inr ⟨a,xs,ds,h1,h2,e.nn h3 h4,e.hh h4,h5.mono e.c⟩
theorem FJ {r:R2}{op:D->D->Option D}{f g:dR->Option D}(hd:Oa r op):∀σ H Q,tD (dz op f g) σ H Q->R7 r (tO f) (tO g) σ H Q:=λσ H Q ⟨C,δ,d,x,q,k⟩=>by
 unfold dz at q;cases hf:f δ with
 |none=>rw[hf]at q;cases q
 |some dx=>
  cases hg:g δ with
  |none=>rw[hf,hg]at q;cases q
  |some dy=>
   rw[hf,hg]at q;refine⟨C,δ,dx,x,hf,λv C1 H1 e1 i1=>⟨C1,δ,dy,x.ev e1,hg,λu C2 H2 e2 i2=>hd C2 H2 v u dx dy d Q e2.s (i1.ev e2) i2 q λw C3 H3 e3 i3=>k w C3 H3 ((e1.trans e2).trans e3.up) i3⟩⟩
theorem zH {op:Operator}{r:R2}{o:D->D->Option D}{f g:dR->Option D}(ho:vM X (binaryOp op) r) (hd:Oa r o) (ha:PO X a f) (hb:PO X b g):PD X (.BinOp a op b pos) (dz o f g):=(N1 ho ha hb).imp (FJ hd)
theorem SW {r:R2}{o:D->D->Option D}{f g:dR->Option D}(ho:Jh X r) (hd:Oa r o) (ha:PO X a f) (hb:PO X b g) (hs:nM b):PD X (.Subscript a b pos) (dz o f g):=(Ji ho ha hb hs).imp (FJ hd)
def oI (g:Int->Int->D):D->D->Option D
 |.int i,.int j=>some (g i j)
 |_,_=>none
def DH (c:Int->Int->Bool) (g:Int->Int->D):D->D->Option D
 |.int i,.int j=>if c i j=true then some (g i j)else none
 |_,_=>none
theorem sf.int {C H:Hp}{v:V}{i:Int}(h:sf C H v (.int i)):v=.int i:=by
 rcases h with h|⟨_,_,_,_,z,_⟩
 ·cases h;rfl
 ·cases z
theorem sf.is {C H:Hp}{v:V}{d:D}(h:sf C H v d) (hd:∀ds,d≠.lst ds):Is C v d:=by
 rcases h with h|⟨_,_,ds,_,z,_⟩
 ·exact h
 ·exact absurd z (hd ds)
theorem Jx {gV:Int->Int->V}{g:Int->Int->D}(h:∀C i j,Is C (gV i j) (g i j)):Oa (N0 gV) (oI g):=λC H x y dx dy d Q s ix iy q k=>by
 unfold oI at q;split at q
 ·rename_i i j;cases q;exact⟨i,j,ix.int,iy.int,k _ C H (.refl s) (h C i j)⟩
 ·cases q
theorem Jy {P:Int->Int->Prop}{c:Int->Int->Bool}{gV:Int->Int->V}{g:Int->Int->D}(hc:∀i j,c i j=true->P i j) (h:∀C i j,Is C (gV i j) (g i j)):Oa (rI P gV) (DH c g):=λC H x y dx dy d Q s ix iy q k=>by
 unfold DH at q;split at q
 ·rename_i i j;split at q
  ·rename_i Ru;cases q;exact⟨i,j,ix.int,iy.int,hc i j Ru,k _ C H (.refl s) (h C i j)⟩
  ·cases q
 ·cases q
def jE:=oI λi j=>.int (i+j)
def oK:=oI λi j=>.int (i-j)
def Hk (i j:Int):Bool:=(decide (-(2^64)<i)&&decide (i<2^64))||(decide (-(2^64)<j)&&decide (j<2^64))
def uO:=DH Hk λi j=>.int (i*j)
def MA (_ j:Int):Bool:=decide (0<j)&&decide (j<1073741824)
def AJ:=DH MA λi j=>.int (i/j)
def BY (_ j:Int):Bool:=decide (0<j)
def tJ:=DH BY λi j=>.int (i%j)
theorem PM {f g:dR->Option D}(ha:PO X a f) (hb:PO X b g):PD X (.BinOp a .Add b pos) (dz jE f g):=zH IV (Jx λ_ _ _=>.int _) ha hb
theorem PN {f g:dR->Option D}(ha:PO X a f) (hb:PO X b g):PD X (.BinOp a .Sub b pos) (dz oK f g):=zH O7 (Jx λ_ _ _=>.int _) ha hb
theorem PR {f g:dR->Option D}(ha:PO X a f) (hb:PO X b g):PD X (.BinOp a .Mult b pos) (dz uO f g):=zH O8 (Jy (λi j h=>by
 unfold Hk at h;unfold L3
 simpa using h) λ_ _ _=>.int _) ha hb
theorem PU {f g:dR->Option D}(ha:PO X a f) (hb:PO X b g):PD X (.BinOp a .FloorDiv b pos) (dz AJ f g):=zH L4 (Jy (λi j h=>by
 unfold MA at h;unfold Sa
 simpa using h) λ_ _ _=>.int _) ha hb
theorem PV {f g:dR->Option D}(ha:PO X a f) (hb:PO X b g):PD X (.BinOp a .Mod b pos) (dz tJ f g):=zH O9 (Jy (λi j h=>by
 unfold BY at h
 simpa using h) λ_ _ _=>.int _) ha hb
def PX:=oI λi j=>.bl (decide (i<=j))
def LS:=oI λi j=>.bl (decide (j<i))
def VO:=oI λi j=>.bl (decide (j<=i))
def uP (X:Cx) (op:CmpOp) (o:D->D->Option D):Prop:=∃r,vM X (compareOp op) r/\Oa r o
theorem SX:uP X .LtE PX:=⟨_,Sb,Jx λ_ _ _=>.bl _⟩
theorem PY:uP X .Gt LS:=⟨_,Sd,Jx λ_ _ _=>.bl _⟩
theorem VP:uP X .GtE VO:=⟨_,Se,Jx λ_ _ _=>.bl _⟩
theorem PZ {op:CmpOp}{o:D->D->Option D}{f g:dR->Option D}(c:uP X op o) (ha:PO X a f) (hb:PO X b g) (hm:behindInMarks op b=false:=by first|exact sJ _|rfl):PD X (.Compare a [op] [b] pos) (dz o f g):=by
 obtain⟨r,ho,hd⟩:=c;exact(L6 ho ha hb hm).imp (FJ hd)
def qB (f:dR->Option D):dR->Option Bool:=λδ=>match f δ with|some (.bl b)=>some b|_=>none
theorem VQ {f:dR->Option D}{δ:dR}{b:Bool}(h:qB f δ=some b):f δ=some (.bl b):=by
 unfold qB at h;split at h
 ·rename_i e;cases h;exact e
 ·cases h
theorem Ob {t:TE}{f:dR->Option D}(h:∀σ H Q,tD f σ H Q->t σ H Q):∀σ H Q,tQ (qB f) σ H Q->t σ H λx H1=>∃c,x=.bl c/\Q c H1:=λσ H Q ⟨C,δ,b,x,q,k⟩=>
 h σ H _ ⟨C,δ,.bl b,x,VQ q,λv C' H' ev i=>by cases i;exact⟨b,rfl,k C' H' ev⟩⟩
theorem P0 {f:dR->Option D}(h:PD X e f) (he:∀whole,isTrue e X.env whole=(do let v <-whole;standAt e.pos;holding [v] (truthy v)):=by intro _;rfl):PQ X e (qB f):=(OV h he).imp (Ob λ_ _ _ h=>h)
theorem P1 {op:CmpOp}{o:D->D->Option D}{f g:dR->Option D}(c:uP X op o) (ha:PO X a f) (hb:PO X b g) (hm:behindInMarks op b=false:=by first|exact sJ _|rfl):PQ X (.Compare a [op] [b] pos) (qB (dz o f g)):=by
 obtain⟨r,ho,hd⟩:=c;exact(Aw ho ha hb hm).imp (Ob (FJ hd))
def rX (f g:dR->Option Bool):dR->Option Bool:=λδ=>match f δ with|some true=>g δ|some false=>some false|none=>none
def Jz (f g:dR->Option Bool):dR->Option Bool:=λδ=>match f δ with|some true=>some true|some false=>g δ|none=>none
def tK (f:dR->Option Bool):dR->Option Bool:=λδ=>(f δ).map not
abbrev P2 (X:Cx) (e:cG) (f:dR->Option Bool):Prop:=PW X e (tQ f)
theorem P4 {f g:dR->Option Bool}:∀σ H Q,tQ (rX f g) σ H Q->RS (tQ f) (tQ g) σ H Q:=λσ H Q ⟨C,δ,b,x,q,k⟩=>by
 unfold rX at q;split at q
 ·rename_i hf;exact⟨C,δ,true,x,hf,λC' H' ev=>AF ⟨C',δ,b,x.ev ev,q,λC2 H2 e2=>k C2 H2 (ev.trans e2)⟩⟩
 ·rename_i hf;cases q;exact⟨C,δ,false,x,hf,λC' H' ev=>BR (k C' H' ev)⟩
 ·cases q
theorem SY {f g:dR->Option Bool}:∀σ H Q,tQ (Jz f g) σ H Q->Xv (tQ f) (tQ g) σ H Q:=λσ H Q ⟨C,δ,b,x,q,k⟩=>by
 unfold Jz at q;split at q
 ·rename_i hf;cases q;exact⟨C,δ,true,x,hf,λC' H' ev=>AF (k C' H' ev)⟩
 ·rename_i hf;exact⟨C,δ,false,x,hf,λC' H' ev=>BR ⟨C',δ,b,x.ev ev,q,λC2 H2 e2=>k C2 H2 (ev.trans e2)⟩⟩
 ·cases q
theorem JA {f:dR->Option Bool}(ha:PQ X a f):P2 X (.BoolOp .And [a] pos) f:=L0 ha
theorem MB {f:dR->Option Bool}(ha:PQ X a f):P2 X (.BoolOp .Or [a] pos) f:=OW ha
theorem MC {rest:List cG}{f g:dR->Option Bool}(ha:PQ X a f) (hb:P2 X (.BoolOp .And (b::rest) pos) g):P2 X (.BoolOp .And (a::b::rest) pos) (rX f g):=(OX ha hb).imp P4
theorem P5 {rest:List cG}{f g:dR->Option Bool}(ha:PQ X a f) (hb:P2 X (.BoolOp .Or (b::rest) pos) g):P2 X (.BoolOp .Or (a::b::rest) pos) (Jz f g):=(RT ha hb).imp SY
theorem P6 {f:dR->Option Bool}(ha:PQ X a f):PQ X (.UnaryOp .Not a pos) (tK f):=(OY ha).imp λσ H Q ⟨C,δ,b,x,q,k⟩=>by
 unfold tK at q;cases hf:f δ with
 |none=>rw[hf]at q;cases q
 |some c=>
  rw[hf]at q;cases q;exact⟨C,δ,c,x,hf,k⟩
def Ed (f g:dR->Option D):dR->Option D:=λδ=>match f δ with|some (.bl true)=>g δ|some (.bl false)=>some (.bl false)|_=>none
def MD (f:dR->Option D):dR->Option D:=λδ=>match f δ with|some (.bl b)=>some (.bl (!b))|_=>none
theorem P7 {op:BoolOp}{f:dR->Option D}(h:PD X a f):PD X (.BoolOp op [a] pos) f:=OZ h
theorem P8 {rest:List cG}{f g:dR->Option D}(ha:PD X a f) (hb:PD X (.BoolOp .And (b::rest) pos) g):PD X (.BoolOp .And (a::b::rest) pos) (Ed f g):=(O0 ha hb).imp λσ H Q ⟨C,δ,d,x,q,k⟩=>by
 unfold Ed at q;split at q
 ·rename_i hf;exact⟨C,δ,_,x,hf,λv C' H' ev i=>by cases i;exact⟨true,rfl,AF ⟨C',δ,d,x.ev ev,q,λu C2 H2 e2 i2=>k u C2 H2 (ev.trans e2) i2⟩⟩⟩
 ·rename_i hf;cases q;exact⟨C,δ,_,x,hf,λv C' H' ev i=>by cases i;exact⟨false,rfl,BR (k _ C' H' ev (.bl _))⟩⟩
 ·cases q
theorem P9 {f:dR->Option D}(ha:PD X a f):PD X (.UnaryOp .Not a pos) (MD f):=(O1 ha).imp λσ H Q ⟨C,δ,d,x,q,k⟩=>by
 unfold MD at q;split at q
 ·rename_i b hf;cases q;exact⟨C,δ,_,x,hf,λv C' H' ev i=>by cases i;exact⟨b,rfl,k _ C' H' ev (.bl _)⟩⟩
 ·cases q
def S0 (c:dR->Option Bool) (f g:dR->Option D):dR->Option D:=λδ=>match c δ with|some true=>f δ|some false=>g δ|none=>none
theorem JB {q:dR->Option Bool}{f g:dR->Option D}(hc:PQ X c q) (ha:PD X a f) (hb:PD X b g):PD X (.IfExp c a b pos) (S0 q f g):=(IJ hc ha hb).imp λσ H Q ⟨C,δ,d,x,h,k⟩=>by
 unfold S0 at h;split at h
 ·rename_i hf;exact⟨C,δ,true,x,hf,λC' H' ev=>AF ⟨C',δ,d,x.ev ev,h,λu C2 H2 e2 i2=>k u C2 H2 (ev.trans e2) i2⟩⟩
 ·rename_i hf;exact⟨C,δ,false,x,hf,λC' H' ev=>BR ⟨C',δ,d,x.ev ev,h,λu C2 H2 e2 i2=>k u C2 H2 (ev.trans e2) i2⟩⟩
 ·cases h
end
def isStar:cG->Bool
 |.Starred _ _=>true
 |_=>false
theorem eG {e:cG}{es:List cG}{env:Env}(h:isStar e=false):starEach (e::es) env=(false,eval e env)::starEach es env:=by
 cases e<;>first|(cases h;done)|(rw[starEach];intro _ _ z;cases z)
def noStar (es:List cG):Bool:=es.all λe=> !isStar e
theorem eX {pos:Pos}{env:Env}:∀{es:List cG},noStar es=true->(backTo pos (starEach es env)).any (·.1)=false
 |[],_=>rfl
 |e::es,h=>by
  unfold noStar at h;rw[List.all_cons,Bool.and_eq_true]at h;rw[eG (by simpa using h.1)]
  unfold backTo;rw[aF,bH];have:=eX (pos:=pos) (env:=env) (es:=es) h.2;unfold backTo at this;rw[this];rfl
theorem Hl {e:cG}{env:Env}{pos:Pos}(h:isStar e=false):((backTo pos (starEach [e] env)).all (λx=> !x.1)&&(backToKw pos (keywordEach [] env)).all (λx=>x.1.isSome)
   &&decide ([e].length+([]:List Keyword).length+(if([]:List Keyword).isEmpty then 0 else 1)<30))=true:=by
 rw[eG h];rfl
section
variable {X:Cx}{e:cG}{es:List cG}{pos p:Pos}{x:Str}
def cR:dR->Option (List D):=λ_=>some []
def cL (f:dR->Option D) (g:dR->Option (List D)):dR->Option (List D):=λδ=>(f δ).bind λd=>(g δ).map λds=>d::ds
theorem we:Hh X [] cR:=(sL (X:=X)).imp λσ H Q ⟨C,δ,ds,x,q,k⟩=>by cases q;exact k [] C H (.refl x.sub) .nil
theorem tL {f:dR->Option D}{g:dR->Option (List D)}(ha:PD X e f) (hr:Hh X es g) (hs:starEach (e::es) X.env=(false,eval e X.env)::starEach es X.env:=by exact eG rfl):Hh X (e::es) (cL f g):=(lr ha hr hs).imp λσ H Q ⟨C,δ,ds,x,q,k⟩=>by
 unfold cL at q;cases hf:f δ with
 |none=>rw[hf]at q;cases q
 |some d=>
  cases hg:g δ with
  |none=>rw[hf,hg]at q;cases q
  |some r=>
   rw[hf,hg]at q;cases q;exact⟨C,δ,d,x,hf,λv C1 H1 e1 i1=>⟨C1,δ,r,x.ev e1,hg,λvs C2 H2 e2 i2=>k _ C2 H2 (e1.trans e2) (.cons (i1.mono e2.c) i2)⟩⟩
inductive yN (C H:Hp):List V->List D->Prop where
 |nil:yN C H [] []
 |cons {v:V}{d:D}{vs:List V}{ds:List D}:sf C H v d->yN C H vs ds->yN C H (v::vs) (d::ds)
def VR (f:dR->Option (List D)):TA:=λσ H Q=>∃C δ ds,Sx δ σ C H/\f δ=some ds/\∀vs C' H',Ev C H C' H'->yN C' H' vs ds->Q vs H'
abbrev Qa (X:Cx) (es:List cG) (f:dR->Option (List D)):Prop:=PA X es (VR f)
theorem ME:Qa X [] cR:=(sL (X:=X)).imp λσ H Q ⟨C,δ,ds,x,q,k⟩=>by cases q;exact k [] C H (.refl x.sub) .nil
theorem JC {f:dR->Option D}{g:dR->Option (List D)}(ha:PO X e f) (hr:Qa X es g) (hs:starEach (e::es) X.env=(false,eval e X.env)::starEach es X.env:=by exact eG rfl):Qa X (e::es) (cL f g):=(lr ha hr hs).imp λσ H Q ⟨C,δ,ds,x,q,k⟩=>by
 unfold cL at q;cases hf:f δ with
 |none=>rw[hf]at q;cases q
 |some d=>
  cases hg:g δ with
  |none=>rw[hf,hg]at q;cases q
  |some r=>
   rw[hf,hg]at q;cases q;exact⟨C,δ,d,x,hf,λv C1 H1 e1 i1=>⟨C1,δ,r,x.ev e1,hg,λvs C2 H2 e2 i2=>k _ C2 H2 (e1.trans e2) (.cons (i1.ev e2) i2)⟩⟩
def fi (f:dR->Option (List D)):dR->Option D:=λδ=>(f δ).bind λds=>if ds.length<=1000 then some (.tup ds)else none
theorem Qb {k:Nat}{f:dR->Option (List D)}(h:Hh X es f):PD X (.Tuple es k pos) (fi f):=(Pg h).imp λσ H Q ⟨C,δ,d,x,q,k⟩=>by
 unfold fi at q;cases hf:f δ with
 |none=>rw[hf]at q;cases q
 |some ds=>
  rw[hf]at q;simp only[ao]at q;split at q
  ·rename_i hz;cases q;refine⟨C,δ,ds,x,hf,λvs C1 H1 e1 i1=>⟨?_,λp hp=>k _ _ _ (e1.trans (.new e1.s hp)) (.tup dc (i1.mono (eR (e1.s.free hp))))⟩⟩
   rw[i1.length];exact bh (kM hz)
  ·cases q
def rY (f:dR->Option (List D)):dR->Option (List D):=λδ=>(f δ).bind λds=>if ds.length<=1000 then some ds else none
theorem Qc {f:dR->Option (List D)}(h:Hh X es f):PF X (.List es pos) (rY f):=(Ph h).imp λσ H Q ⟨C,δ,d,x,q,k⟩=>by
 unfold rY at q;cases hf:f δ with
 |none=>rw[hf]at q;cases q
 |some ds=>
  rw[hf]at q;simp only[ao]at q;split at q
  ·rename_i hz;cases q;refine⟨C,δ,_,x,hf,λvs C1 H1 e1 i1=>⟨?_,λp hp=>k p vs C1 _ (e1.trans (.gK e1.s hp)) (e1.free hp) (e1.s.free hp) dc i1⟩⟩
   rw[i1.length];exact bh (kM hz)
  ·cases q
def qf (g:List D->Option D):Sp:=λvs H Q _=>∃C ds d,dZ C H/\IsL C vs ds/\g ds=some d/\∀v C' H',mE C H C' H'->Is C' v d->Q v H'
def cT (g:List D->Option D) (f:dR->Option (List D)):dR->Option D:=λδ=>(f δ).bind g
theorem MF {g:List D->Option D}{E:XK}{f:dR->Option (List D)}:∀σ H Q,tD (cT g f) σ H Q->N4 (qf g) [] E (UI f) σ H Q:=λσ H Q ⟨C,δ,d,x,q,k⟩=>by
 unfold cT at q;cases hf:f δ with
 |none=>rw[hf]at q;cases q
 |some ds=>
  rw[hf]at q;exact⟨C,δ,ds,x,hf,λvs C1 H1 e1 i1=>⟨C1,ds,d,e1.s,by rw[bD];exact i1,q,λv C2 H2 e2 i2=>k v C2 H2 (e1.trans e2.up) i2⟩⟩
theorem MG {k:Nat}{f:cF}{fd:cA}{ps:List Str}{g:List D->Option D}{fa:dR->Option (List D)}(F:eE X.prog X.w X.K X.mg X.base iK k f fd ps (qf g)) (hr:gn k X.A) (hg:Gl X x) (hm:X.mg x=some (.ref f)) (hk:W.keepIn X.K (.ref f)=true) (hb:Binds X.K fd ps [])
  (ha:Hh X (e::es) fa) (rV:(x==("__debug__":Str))=false:=by decide) (he:starEach (e::es) X.env=(false,eval e X.env)::starEach es X.env:=by exact eG rfl) (jX:(backTo pos (starEach es X.env)).any (·.1)=false:=by exact eX rfl):
  PD X (.Call (.Name x p) (e::es) [] pos) (cT g fa):=(Fx F hr hg hm hk hb .nil BQ ha rV he jX).imp MF
def CD (r:List V->Hp->VK->Prop) (g:List D->Option D):Prop:=∀C H vs ds d Q,dZ C H->yN C H vs ds->g ds=some d->(∀v C' H',mE C H C' H'->Is C' v d->Q v H')->r vs H Q
def CF (r:List V->Hp->VK->Prop) (g:List D->Option (List D)):Prop:=∀C H vs ds d Q,dZ C H->yN C H vs ds->g ds=some d->(∀a xs C' H',mE C H C' H'->H a=none->C' a=none->H' a=some (.lst xs)->IsL C' xs d->Q (.ref a) H')->r vs H Q
def qt (X:Cx) (f:cy) (g:List D->Option D):Prop:=∃r,jl X f r/\CD r g
def FK (X:Cx) (f:cy) (g:List D->Option (List D)):Prop:=∃r,jl X f r/\CF r g
def jq (g:List D->Option (List D)) (f:dR->Option (List D)):dR->Option (List D):=λδ=>(f δ).bind g
theorem Oc {r:List V->Hp->VK->Prop}{g:List D->Option D}{f:dR->Option (List D)}(hd:CD r g):∀σ H Q,tD (cT g f) σ H Q->Ux r (VR f) σ H Q:=λσ H Q ⟨C,δ,d,x,q,k⟩=>by
 unfold cT at q;cases hf:f δ with
 |none=>rw[hf]at q;cases q
 |some ds=>
  rw[hf]at q;exact⟨C,δ,ds,x,hf,λvs C1 H1 e1 i1=>hd C1 H1 vs ds d Q e1.s i1 q λv C2 H2 e2 i2=>k v C2 H2 (e1.trans e2.up) i2⟩
theorem S1 {r:List V->Hp->VK->Prop}{g:List D->Option (List D)}{f:dR->Option (List D)}(hd:CF r g):∀σ H Q,tF (jq g f) σ H Q->Ux r (VR f) σ H Q:=λσ H Q ⟨C,δ,d,x,q,k⟩=>by
 unfold jq at q;cases hf:f δ with
 |none=>rw[hf]at q;cases q
 |some ds=>
  rw[hf]at q;exact⟨C,δ,ds,x,hf,λvs C1 H1 e1 i1=>hd C1 H1 vs ds d Q e1.s i1 q λa xs C2 H2 e2 h2=>k a xs C2 H2 (e1.trans e2.up) (e1.free h2)⟩
theorem JD {id:String}{g:List D->Option D}{f:dR->Option (List D)}(hc:qt X (.builtin id) g) (hg:Gl X x) (hm:X.mg x=none) (hv:bootBuiltins x=some (.builtin id)) (ha:Qa X (e::es) f) (hn:x≠"__name__":=by decide) (rV:(x==("__debug__":Str))=false:=by decide)
  (he:starEach (e::es) X.env=(false,eval e X.env)::starEach es X.env:=by exact eG rfl) (jX:(backTo pos (starEach es X.env)).any (·.1)=false:=by exact eX rfl):PD X (.Call (.Name x p) (e::es) [] pos) (cT g f):=by
 obtain⟨r,h1,h2⟩:=hc;exact(wJ h1 hg hm hv ha hn rV he jX).imp (Oc h2)
theorem JE {id:String}{g:List D->Option (List D)}{f:dR->Option (List D)}(hc:FK X (.builtin id) g) (hg:Gl X x) (hm:X.mg x=none) (hv:bootBuiltins x=some (.builtin id)) (ha:Qa X (e::es) f) (hn:x≠"__name__":=by decide) (rV:(x==("__debug__":Str))=false:=by decide)
  (he:starEach (e::es) X.env=(false,eval e X.env)::starEach es X.env:=by exact eG rfl) (jX:(backTo pos (starEach es X.env)).any (·.1)=false:=by exact eX rfl):PF X (.Call (.Name x p) (e::es) [] pos) (jq g f):=by
 obtain⟨r,h1,h2⟩:=hc;exact(wJ h1 hg hm hv ha hn rV he jX).imp (S1 h2)
theorem Hm {T:String}{g:List D->Option D}{f:dR->Option (List D)}(hc:qt X (.type T) g) (hg:Gl X x) (hm:X.mg x=none) (hv:bootBuiltins x=some (.type T)) (ha:Qa X (e::es) f) (hn:x≠"__name__":=by decide) (rV:(x==("__debug__":Str))=false:=by decide)
  (he:starEach (e::es) X.env=(false,eval e X.env)::starEach es X.env:=by exact eG rfl) (jX:(backTo pos (starEach es X.env)).any (·.1)=false:=by exact eX rfl):PD X (.Call (.Name x p) (e::es) [] pos) (cT g f):=by
 obtain⟨r,h1,h2⟩:=hc;exact(zC h1 hg hm hv ha hn rV he jX).imp (Oc h2)
end
end DL
namespace DL
open PySem PySem.Spec PyProof.Rows L2
variable [Mem]
structure Gd (B C0 H0:Hp) (δ:dR) (σ:L2.St) (C H:Hp):Prop where
 b:dZ B C
 ev:Ev C0 H0 C H
 x:Sx δ σ C H
 fr:∀(i:Nat) (ds:List D) (a:cF),δ[i]? =some (.own ds)->σ[i]? =some (some (.ref a))->H0 a=none
inductive R where
 |next (δ:dR)|ret (d:D)|brk (δ:dR)|cont (δ:dR)
abbrev _root_.cb:=dR->Option (List D)
abbrev _root_.cc:=dR->Option R
abbrev _root_.cf:=dR->Option D
abbrev _root_.cg:=dR->Option Bool
abbrev _root_.cj:=List D->Option D
abbrev _root_.cw:=List D
def Fi (B C0 H0:Hp) (Dn:Ends):R->Prop
 |.next δ=>∀σ C H,Gd B C0 H0 δ σ C H->Dn.nx σ H
 |.ret d=>∀v C H,Ev C0 H0 C H->Is C v d->Dn.rt v H
 |.brk δ=>∀σ C H,Gd B C0 H0 δ σ C H->Dn.bk σ H
 |.cont δ=>∀σ C H,Gd B C0 H0 δ σ C H->Dn.ct σ H
def tS (B C0 H0:Hp) (f:cc):TS:=λDn σ H=>∃C δ r,Gd B C0 H0 δ σ C H/\f δ=some r/\Fi B C0 H0 Dn r
def PB (X:Cx) (C0 H0:Hp) (st:cH) (f:cc):Prop:=∀B,PS X st (tS B C0 H0 f)
def yB (X:Cx) (C0 H0:Hp) (st:List cH) (f:cc):Prop:=∀B,yA X st (tS B C0 H0 f)
section
variable {B C0 H0 C H C' H':Hp}{δ:dR}{σ:L2.St}
theorem Gd.AK (g:Gd B C0 H0 δ σ C H) (e:Ev C H C' H'):Gd B C0 H0 δ σ C' H':=⟨g.b.trans e.c,g.ev.trans e,g.x.ev e,g.fr⟩
theorem Gd.sM (g:Gd B C0 H0 δ σ C H) {i:Nat}{v:V}{d:D}(h:Is C v d):Gd B C0 H0 (δ.set i (.dat d)) (σ.set i (some v)) C H:=
 ⟨g.b,g.ev,g.x.sM h,λk ds a q1 q2=>by
  rcases getElem?_set_cases q1 with⟨_,e⟩|⟨hk,e⟩
  ·cases e
  ·rw[aG (Ne.symm hk)]at q2;exact g.fr k ds a e q2⟩
theorem Gd.AI (g:Gd B C0 H0 δ σ C H) (e:Ev C H C' H') {i:Nat}{a:cF}{xs:List V}{ds:cw}(hn:H a=none) (hc:C' a=none) (hH:H' a=some (.lst xs)) (hl:IsL C' xs ds):Gd B C0 H0 (δ.set i (.own ds)) (σ.set i (some (.ref a))) C' H':=
 ⟨g.b.trans e.c,g.ev.trans e,(g.x.ev e).AI hc hH hl (λk es q z=>by
   obtain⟨b,ys,h1,h2,h3,_⟩:=g.x.own k es q;rw[z]at h1;cases h1;rw[hn]at h3;cases h3),
  λk es b q1 q2=>by
   rcases getElem?_set_cases q1 with⟨rfl,e1⟩|⟨hk,e1⟩
   ·rcases getElem?_set_cases q2 with⟨_,e2⟩|⟨z,_⟩
    ·cases e2;exact g.ev.free hn
    ·exact absurd rfl z
   ·rw[aG (Ne.symm hk)]at q2;exact g.fr k es b e1 q2⟩
theorem Gd.mut (g:Gd B C0 H0 δ σ C H) {i:Nat}{a:cF}{ys:List V}{ds es:cw}(hi:δ[i]? =some (.own ds)) (ha:σ[i]? =some (some (.ref a))) (hl:IsL C ys es):Gd B C0 H0 (δ.set i (.own es)) σ C (upd H a (.lst ys)):=by
 obtain⟨a',xs,h1,h2,h3,_⟩:=g.x.own i ds hi;rw[ha]at h1;cases h1;refine⟨g.b,g.ev.FG (g.fr i ds a hi ha) h2 _,g.x.mut hi ha hl,λk fs b q1 q2=>?_⟩
 rcases getElem?_set_cases q1 with⟨rfl,e1⟩|⟨hk,e1⟩
 ·exact g.fr k ds b hi q2
 ·exact g.fr k fs b e1 q2
def uQ (i:Nat) (δ:dR):dR:=match δ[i]? with|some (.own ds)=>δ.set i (.dat (.lst ds))|_=>δ
theorem Gd.give (g:Gd B C0 H0 δ σ C H) (i:Nat):∃C',Gd B C0 H0 (uQ i δ) σ C' H:=by
 unfold uQ;split
 ·rename_i ds hi;obtain⟨a,xs,h1,h2,h3,h4⟩:=g.x.own i ds hi;refine⟨upd C a (.lst xs),g.b.trans (eR h2),g.ev.N9 (g.fr i ds a hi h1) h2 h3,g.x.give hi h1 h3 h4,λk fs b q1 q2=>?_⟩
  ·rcases getElem?_set_cases q1 with⟨_,e1⟩|⟨hk,e1⟩
   ·cases e1
   ·exact g.fr k fs b e1 q2
 ·exact⟨C,g⟩
end
section
variable {X:Cx}{C0 H0:Hp}{st:cH}{S2 rest:List cH}{e:cG}{pos:Pos}{f g:cc}
def g9:cc:=λδ=>some (.next δ)
def eB (f g:cc):cc:=λδ=>match f δ with|some (.next δ')=>g δ'|r=>r
theorem MH:yB X C0 H0 [] g9:=λB=>Au.imp λDn σ H ⟨C,δ,r,g,q,k⟩=>by cases q;exact k σ C H g
theorem MI (h:PB X C0 H0 st f):yB X C0 H0 [st] f:=λB=>Fu (h B)
theorem JF (h:PB X C0 H0 st f) (h2:yB X C0 H0 rest g):yB X C0 H0 (st::rest) (eB f g):=λB=>(qm (h B) (h2 B)).imp λDn σ H ⟨C,δ,r,gd,q,k⟩=>by
 unfold eB at q;split at q
 ·rename_i δ' hf;exact⟨C,δ,.next δ',gd,hf,λσ' C' H' g'=>⟨C',δ',r,g',q,k⟩⟩
 ·rename_i hn;refine⟨C,δ,r,gd,q,?_⟩;cases r with
  |next δ'=>exact absurd q (hn δ')
  |ret d=>exact k
  |brk δ'=>exact k
  |cont δ'=>exact k
def oM (i:Nat) (f:cc):cc:=λδ=>f (uQ i δ)
theorem JG (i:Nat) (h:yB X C0 H0 S2 f):yB X C0 H0 S2 (oM i f):=λB=>(h B).imp λDn σ H ⟨C,δ,r,gd,q,k⟩=>by
 obtain⟨C',g'⟩:=gd.give i;exact⟨C',_,r,g',q,k⟩
def eP (f:cf):cc:=λδ=>(f δ).map .ret
theorem Qd {f:cf}(he:PD X e f):PB X C0 H0 (.Return (some e) pos) (eP f):=λB=>(O2 he).imp λDn σ H ⟨C,δ,r,gd,q,k⟩=>by
 unfold eP at q;cases hf:f δ with
 |none=>rw[hf]at q;cases q
 |some d=>
  rw[hf]at q;cases q;exact⟨C,δ,d,gd.x,hf,λv C' H' ev i=>k v C' H' (gd.ev.trans ev) i⟩
def jF (i:Nat) (f:cf):cc:=λδ=>(f δ).map λd=>.next (δ.set i (.dat d))
def hJ (i:Nat) (f:cb):cc:=λδ=>(f δ).map λds=>.next (δ.set i (.own ds))
theorem Qe {B:Hp}{i:Nat}{f:cf}{t:TE}(h:∀σ H Q,tD f σ H Q->t σ H Q):∀Dn σ H,tS B C0 H0 (jF i f) Dn σ H->t σ H λv H1=>Dn.nx (σ.set i (some v)) H1:=λDn σ H ⟨C,δ,r,gd,q,k⟩=>by
 unfold jF at q;cases hf:f δ with
 |none=>rw[hf]at q;cases q
 |some d=>
  rw[hf]at q;cases q;exact h σ H _ ⟨C,δ,d,gd.x,hf,λv C' H' ev i=>k _ C' H' ((gd.AK ev).sM i)⟩
theorem JH {B:Hp}{i:Nat}{f:cb}{t:TE}(h:∀σ H Q,tF f σ H Q->t σ H Q):∀Dn σ H,tS B C0 H0 (hJ i f) Dn σ H->t σ H λv H1=>Dn.nx (σ.set i (some v)) H1:=λDn σ H ⟨C,δ,r,gd,q,k⟩=>by
 unfold hJ at q;cases hf:f δ with
 |none=>rw[hf]at q;cases q
 |some ds=>
  rw[hf]at q;cases q;exact h σ H _ ⟨C,δ,ds,gd.x,hf,λa xs C' H' ev h1 h2 h3 h4=>k _ C' H' (gd.AI ev h1 h2 h3 h4)⟩
theorem Qf (i:Nat) {x:Str}{pos':Pos}{f:cf}(hN:X.N.Nodup) (he:PD X e f) (hi:X.N[i]? =some x:=by rfl) (hx:Loc X.env.scope x:=by first|exact Or.inl rfl|exact Or.inr rfl) (hs:swapsWith e (some (.Name x pos')) pos.line X.env=pure false:=by rfl) (hf:X.fn x=true\/X.env.scope.names.lookup x=some .local:=by first|exact .inl rfl|exact .inr rfl):
  PB X C0 H0 (.Assign [.Name x pos'] e pos) (jF i f):=λB=>(wG hN hi hx he hs hf).imp (Qe λ_ _ _ h=>h)
theorem MJ (i:Nat) {x:Str}{pos':Pos}{f:cb}(hN:X.N.Nodup) (he:PF X e f) (hi:X.N[i]? =some x:=by rfl) (hx:Loc X.env.scope x:=by first|exact Or.inl rfl|exact Or.inr rfl) (hs:swapsWith e (some (.Name x pos')) pos.line X.env=pure false:=by rfl) (hf:X.fn x=true\/X.env.scope.names.lookup x=some .local:=by first|exact .inl rfl|exact .inr rfl):
  PB X C0 H0 (.Assign [.Name x pos'] e pos) (hJ i f):=λB=>(wG hN hi hx he hs hf).imp (JH λ_ _ _ h=>h)
def lO (c:cg) (f g:cc):cc:=λδ=>match c δ with|some true=>f δ|some false=>g δ|none=>none
theorem S3 {c:cG}{a b:List cH}{q:cg}(hc:PQ X c q) (ha:yB X C0 H0 a f) (hb:yB X C0 H0 b g):PB X C0 H0 (.If c a b pos) (lO q f g):=λB=>(IL hc (ha B) (hb B)).imp λDn σ H ⟨C,δ,r,gd,h,k⟩=>by
 unfold lO at h;split at h
 ·rename_i hf;exact⟨C,δ,true,gd.x,hf,λC' H' ev=>AF ⟨C',δ,r,gd.AK ev,h,k⟩⟩
 ·rename_i hf;exact⟨C,δ,false,gd.x,hf,λC' H' ev=>BR ⟨C',δ,r,gd.AK ev,h,k⟩⟩
 ·cases h
def uR (i:Nat) (f:cf):cc:=λδ=>match δ[i]? with
 |some (.own ds)=>(f δ).bind λd=>if ds.length<1000000 then some (.next (δ.set i (.own (ds++[d]))))else none
 |_=>none
omit [Mem] in
theorem wg {n:Nat}(h:n<1000000):n<sizeLine:=aw h (by decide)
theorem Hn {i:Nat}{o:cG}{f:cf}{apos:Pos}{t:TA}(ht:PA X [e] t) (ho:PE X o (gI i)) (he:∀σ H Q,UI (cL f cR) σ H Q->t σ H Q)
  (call:PE X (.Call (.Attribute o "append" apos) [e] [] pos) (VE X.K "list" FC (gI i) t)) {pos':Pos}(hs:swapsWith (.Call (.Attribute o "append" apos) [e] [] pos) none pos'.line X.env=pure false:=by rfl):
  PB X C0 H0 (.Expr (.Call (.Attribute o "append" apos) [e] [] pos) pos') (uR i f):=λB=>(Fv call hs).imp λDn σ H ⟨C,δ,r,gd,q,k⟩=>by
 unfold uR at q;split at q
 ·rename_i ds hi;cases hf:f δ with
  |none=>rw[hf]at q;cases q
  |some d=>
   rw[hf]at q;simp only[ao]at q;split at q
   ·rename_i hz;cases q;obtain⟨a,xs,h1,h2,h3,h4⟩:=gd.x.own i ds hi;refine⟨_,h1,.inl ⟨rfl,_,qk.of h3⟩,he σ H _ ⟨C,δ,[d],gd.x,by unfold cL cR;rw[hf];rfl,λvs C' H' ev i'=>?_⟩⟩
    cases i' with
    |cons i1 i2=>
     cases i2;refine⟨a,xs,_,rfl,rfl,ev.hh h3,by rw[h4.length];exact wg hz,k σ C' _ ((gd.AK ev).mut hi h1 ((h4.mono ev.c).append (.one i1)))⟩
   ·cases q
 ·cases q
end
def Wk (J:It) (ds:cw) (C:Hp):Prop:=∀i C' H',dZ C C'->dZ C' H'->(∀d,ds[i]? =some d->J.go i H'/\∀x H3,J.NX i H' x H3->H3=H'/\Is C' x d)/\(ds.length<=i->J.stop i H')
def WkE (J:It) (ds:cw) (C H:Hp):Prop:=∀i C' H',Ev C H C' H'->(∀d,ds[i]? =some d->J.go i H'/\∀x H3,J.NX i H' x H3->H3=H'/\Is C' x d)/\(ds.length<=i->J.stop i H')
def tI (f:cb):TI:=λσ H R=>∃C δ ds,Sx δ σ C H/\f δ=some ds/\∀J C' H',Ev C H C' H'->Wk J ds C'->R J H'
def XS (f:cb):TI:=λσ H R=>∃C δ ds,Sx δ σ C H/\f δ=some ds/\∀J C' H',Ev C H C' H'->WkE J ds C' H'->R J H'
omit [Mem] in
theorem _root_.L2.PI.imp {X:Cx}{tg e:cG}{t t':TI}(h:PI X tg e t) (m:∀σ H Q,t' σ H Q->t σ H Q):PI X tg e t':=λpins s σ H Q I q=>h pins s σ H Q I (m σ H Q q)
abbrev MK (X:Cx) (tg e:cG) (f:cb):Prop:=PI X tg e (tI f)
abbrev RA (X:Cx) (tg e:cG) (f:cb):Prop:=PI X tg e (XS f)
section
variable {X:Cx}{tg e:cG}
theorem MK.weak {f:cb}(h:MK X tg e f):RA X tg e f:=h.imp λσ H R ⟨C,δ,ds,x,q,k⟩=>⟨C,δ,ds,x,q,λJ C' H' ev wk=>k J C' H' ev λi C2 H2 e2=>wk i C2 H2 e2.c e2.s⟩
def iL (f:cf):cb:=λδ=>match f δ with|some (.lst ds)=>some ds|_=>none
def iT (f:cf):cb:=λδ=>match f δ with|some (.tup ds)=>some ds|_=>none
theorem zI {K:W.Frag}{C:Hp}{a:cF}{xs:List V}{ds:cw}(h:Rd C a (.lst xs)) (hl:IsL C xs ds):Wk (Vl K a) ds C:=λi C' H' sc sh=>by
 have hq:qk K H' a xs:=.inl ((h.same sc).same sh);refine⟨λd hd=>?_,λhi=>⟨xs,hq,by rw[hl.length];exact hi⟩⟩
 obtain⟨v,hv,is⟩:=hl.get hd;exact⟨⟨xs,v,hq,hv⟩,λx H3 ⟨e1,e2⟩=>⟨e1,by
  have:=e2 xs hq;rw[hv]at this;cases this;exact is.mono sc⟩⟩
theorem JI {K:W.Frag}{C:Hp}{a:cF}{xs:List V}{ds:cw}(h:C a=some (.tup xs)) (hl:IsL C xs ds):Wk (Vm K a) ds C:=λi C' H' sc sh=>by
 have hq:jr K H' a xs:=jr.of (sh _ _ (sc _ _ h));refine⟨λd hd=>?_,λhi=>⟨xs,hq,by rw[hl.length];exact hi⟩⟩
 obtain⟨v,hv,is⟩:=hl.get hd;exact⟨⟨xs,v,hq,hv⟩,λx H3 ⟨e1,e2⟩=>⟨e1,by
  have:=e2 xs hq;rw[hv]at this;cases this;exact is.mono sc⟩⟩
theorem BZ {f:cf}(h:PD X e f):MK X tg e (iL f):=(Fw h).imp λσ H R ⟨C,δ,ds,x,q,k⟩=>by
 unfold iL at q;split at q
 ·rename_i es hf;cases q;refine⟨C,δ,_,x,hf,λv C' H' ev i=>?_⟩
  cases i with
  |lst hr hl=>exact⟨_,rfl,⟨_,.inl (hr.same ev.s)⟩,k _ C' H' ev (zI hr hl)⟩
 ·cases q
theorem FL {f:cf}(h:PD X e f):MK X tg e (iT f):=(O3 h).imp λσ H R ⟨C,δ,ds,x,q,k⟩=>by
 unfold iT at q;split at q
 ·rename_i es hf;cases q;refine⟨C,δ,_,x,hf,λv C' H' ev i=>?_⟩
  cases i with
  |tup hr hl=>exact⟨_,rfl,⟨_,jr.of (ev.s _ _ hr)⟩,k _ C' H' ev (JI hr hl)⟩
 ·cases q
theorem ML {f:cf}(h:PO X e f):RA X tg e (iL f):=(Fw h).imp λσ H R ⟨C,δ,ds,x,q,k⟩=>by
 unfold iL at q;split at q
 ·rename_i es hf;cases q;refine⟨C,δ,_,x,hf,λv C' H' ev i=>?_⟩
  rcases i with i|⟨a,xs,FH,rfl,e2,h2,h3,h4⟩
  ·cases i with
   |lst hr hl=>exact⟨_,rfl,⟨_,.inl (hr.same ev.s)⟩,k _ C' H' ev λi C2 H2 e2=>zI hr hl i C2 H2 e2.c e2.s⟩
  ·cases e2;refine⟨a,rfl,⟨xs,qk.of h3⟩,k _ C' H' ev λi C2 H2 e2=>?_⟩
   have hq:qk X.K H2 a xs:=qk.of (e2.hh h3);refine⟨λd hd=>?_,λhi=>⟨xs,hq,by rw[h4.length];exact hi⟩⟩
   obtain⟨v,hv,is⟩:=h4.get hd;exact⟨⟨xs,v,hq,hv⟩,λx H3 ⟨z1,z2⟩=>⟨z1,by
    have:=z2 xs hq;rw[hv]at this;cases this;exact is.mono e2.c⟩⟩
 ·cases q
def du (lo:Int):Nat->cq
 |0=>[]
 |n+1=>lo::du (lo+1) n
omit [Mem] in
theorem pf:∀(n i:Nat) (lo:Int),(du lo n)[i]? =if i<n then some (lo+i)else none
 |0,i,lo=>by simp[du]
 |n+1,0,lo=>by simp[du]
 |n+1,i+1,lo=>by
  show(du (lo+1) n)[i]? =_;rw[pf n i (lo+1)];by_cases h:i<n
  ·rw[if_pos h,if_pos (by omega)];congr 1;omega
  ·rw[if_neg h,if_neg (by omega)]
omit [Mem] in
theorem dP:∀(n:Nat) (lo:Int),(du lo n).length=n
 |0,_=>rfl
 |n+1,lo=>congrArg (·+1) (dP n (lo+1))
theorem Ee {lo:Int}{n:Nat}{C:Hp}:Wk (Uw lo n) ((du lo n).map D.int) C:=λi C' H' sc sh=>by
 refine⟨λd hd=>?_,λhi=>?_⟩
 ·rw[av,pf]at hd;split at hd
  ·rename_i h;cases hd;exact⟨h,λx H3 ⟨e1,e2⟩=>⟨e1,by rw[e2];exact .int _⟩⟩
  ·cases hd
 ·rw[ae,dP]at hi;exact hi
def uS (f:cb):cb:=λδ=>match f δ with|some [.int j]=>if j<1000000/\-1000000<j then some ((du 0 j.toNat).map D.int)else none|_=>none
theorem Ef {a:cG}{f:cb}{p pos:Pos}(hg:Gl X "range") (hm:X.mg "range"=none) (ha:Hh X [a] f) (hs:starEach [a] X.env=[(false,eval a X.env)]:=by exact eG rfl):MK X tg (.Call (.Name "range" p) [a] [] pos) (uS f):=(GZ hg hm ha hs).imp λσ H R ⟨C,δ,ds,x,q,k⟩=>by
 unfold uS at q;split at q
 ·rename_i j hf;split at q
  ·rename_i hj;cases q;refine⟨C,δ,_,x,hf,λvs C' H' ev i=>?_⟩
   cases i with
   |cons i1 i2=>
    cases i2;cases i1;exact⟨j,rfl,by omega,by omega,k _ C' H' ev Ee⟩
  ·cases q
 ·cases q
def fm (j:Nat) (f:cc):cw->cc
 |[],δ=>some (.next δ)
 |d::ds,δ=>match f (δ.set j (.dat d))with
  |some (.next δ')=>fm j f ds δ'
  |some (.cont δ')=>fm j f ds δ'
  |some (.brk δ')=>some (.next δ')
  |some (.ret r)=>some (.ret r)
  |none=>none
def kK (j:Nat) (i:cb) (f:cc):cc:=λδ=>(i δ).bind λds=>fm j f ds δ
theorem Qg {C0 H0:Hp}{iter:cG}{body:List cH}{i:cb}{f:cc}{pos:Pos}{j:Nat}(hp:PassesOwn (model X.prog X.w) X.A X.env X.xe) (hc:X.calm=true) (hi:MK X tg iter i) (hg:PG X tg (zw j)) (hb:yB X C0 H0 body f)
  (hs:∀x,foldedSetIterable iter X.env x=pure x:=by intro _;rfl):PB X C0 H0 (.For tg iter body [] pos) (kK j i f):=λB pins s σ H Dn I h=>by
 obtain⟨C,δ,r,gd,q,k⟩:=h;unfold kK at q;cases hf:i δ with
 |none=>rw[hf]at q;cases q
 |some ds=>
  rw[hf]at q;simp only[ao]at q;have main:∀J C1 H1,Ev C H C1 H1->Wk J ds C1->∃W:Nat->Nat->L2.St->Hp->Prop,(∃m,W 0 m σ H1)/\∀i m σ H,W i m σ H->
    (J.stop i H/\Dn.nx σ H)\/(J.go i H/\∃N:L2.St->Hp->Prop,(∀σ' H',N σ' H'->∃m',m'<m/\W (i+1) m' σ' H')/\∀x H',J.NX i H x H'->zw j x σ H' λσ2 H2=>tS C1 C0 H0 f {Dn with nx:=N,ct:=N,bk:=Dn.nx} σ2 H2):=by
   intro J C1 H1 ev wk;have bs:dZ B C1:=gd.b.trans ev.c;refine⟨λn m σ H=>∃C δ,m=ds.length-n/\n<=ds.length/\Gd C1 C0 H0 δ σ C H/\fm j f (ds.drop n) δ=some r,⟨ds.length,C1,δ,by simp,bN _,⟨dZ.refl _,gd.ev.trans ev,gd.x.ev ev,gd.fr⟩,by simpa using q⟩,?_⟩
   rintro n m σ2 H2 ⟨C2,δ2,rfl,hn,g2,q2⟩
   have w:=wk n C2 H2 g2.b g2.x.sub;by_cases fQ:n<ds.length
   ·have hd:ds[n]? =some ds[n]:=ah fQ;obtain⟨go,yl⟩:=w.1 _ hd;rw[List.drop_eq_getElem_cons fQ]at q2;refine .inr ⟨go,λσ' H'=>∃C' δ',Gd C1 C0 H0 δ' σ' C' H'/\fm j f (ds.drop (n+1)) δ'=some r,λσ' H' ⟨C',δ',g',q'⟩=>⟨ds.length-(n+1),by omega,C',δ',rfl,fQ,g',q'⟩,λx H3 y=>?_⟩
    obtain⟨rfl,is⟩:=yl x H3 y;have g3:=g2.sM (i:=j) is;unfold fm at q2;show tS C1 C0 H0 f {Dn with nx:=_,ct:=_,bk:=Dn.nx} (σ2.set j (some x)) _
    cases JJ:f (δ2.set j (.dat ds[n]))with
    |none=>rw[JJ]at q2;cases q2
    |some rb=>
     rw[JJ]at q2;refine⟨C2,δ2.set j (.dat ds[n]),rb,g3,JJ,?_⟩;cases rb with
     |next δ'=>exact λσ' C' H' g'=>⟨C',δ',g',q2⟩
     |cont δ'=>exact λσ' C' H' g'=>⟨C',δ',g',q2⟩
     |brk δ'=>
      cases q2;exact λσ' C' H' g'=>k σ' C' H' ⟨bs.trans g'.b,g'.ev,g'.x,g'.fr⟩
     |ret d=>
      cases q2;exact k
   ·have e:n=ds.length:=by omega
    subst e;rw[List.drop_length]at q2;unfold fm at q2;cases q2;exact .inl ⟨w.2 (au _),k σ2 C2 H2 ⟨bs.trans g2.b,g2.ev,g2.x,g2.fr⟩⟩
  refine IU (tb:=λQh σ' H'=>∃C1,tS C1 C0 H0 f Qh σ' H') hp hc hi hg (λpins s σ H Qh I ⟨C1,h⟩=>hb C1 pins s σ H Qh I h) hs pins s σ H Dn I ?_
  refine⟨C,δ,ds,gd.x,hf,λJ C1 H1 ev wk=>?_⟩
  obtain⟨W,w0,st⟩:=main J C1 H1 ev wk;refine⟨W,w0,λi m σ H w=>?_⟩
  rcases st i m σ H w with z|⟨go,N,hN,hy⟩
  ·exact .inl z
  ·exact .inr ⟨go,N,hN,λx H' y=>⟨C1,hy x H' y⟩⟩
def iB (j:Nat) (t:cg) (f:cf) (δ:dR):cw->Option (cw)
 |[]=>some []
 |d::ds=>match t (δ.set j (.dat d))with
  |some true=>(f (δ.set j (.dat d))).bind λy=>(iB j t f δ ds).map λys=>y::ys
  |some false=>iB j t f δ ds
  |none=>none
def eS (i:cb) (j:Nat) (t:cg) (f:cf):cb:=λδ=>(i δ).bind λds=>if ds.length<1000000 then iB j t f δ ds else none
def lP:cg:=λ_=>some true
theorem JK:∀σ H Q,tQ lP σ H Q->SK σ H Q:=λσ H Q ⟨C,δ,b,x,q,k⟩=>by cases q;exact k C H (.refl x.sub)
theorem Eg {i:cb}{j:Nat}{t:cg}{f:cf}{tt:TT}(ht:∀σ H Q,tQ t σ H Q->tt σ H Q):∀σ H Q,tF (eS i j t f) σ H Q->FD (XS i) j tt (tD f) σ H Q:=λσ H Q ⟨C,δ,ys,x,q,k⟩=>by
 unfold eS at q;cases hf:i δ with
 |none=>rw[hf]at q;cases q
 |some ds=>
  rw[hf]at q;simp only[ao]at q;split at q
  case isFalse=>cases q
  rename_i hz;refine⟨C,δ,ds,x,hf,λJ C1 H1 ev wk A hA=>?_⟩
  refine⟨λn m acc H'=>∃C' done rest,m=ds.length-n/\n<=ds.length/\Ev C1 H1 C' H'/\C' A=none/\H' A=some (.lst acc)/\IsL C' acc done/\done.length<=n/\iB j t f δ (ds.drop n)=some rest/\ys=done++rest,
   ⟨ds.length,C1,[],ys,by simp,bN _,.gK ev.s hA,ev.s.free hA,dc,.nil,au _,by simpa using q,rfl⟩,?_⟩
  rintro n m acc H2 ⟨C2,done,rest,rfl,hn,e2,a2,b2,l2,XT,q2,ey⟩
  have w:=wk n C2 H2 e2;by_cases fQ:n<ds.length
  ·have hd:ds[n]? =some ds[n]:=ah fQ;obtain⟨go,yl⟩:=w.1 _ hd;rw[List.drop_eq_getElem_cons fQ]at q2;refine .inr ⟨go,λv H3 y=>?_⟩
   obtain⟨rfl,is⟩:=yl v H3 y;have x2:Sx δ σ C2 H3:=x.ev (ev.trans e2);have x3:=x2.sM (i:=j) is;unfold iB at q2;split at q2
   ·rename_i VS;refine ht _ _ _ ⟨C2,_,true,x3,VS,λC4 H4 e4=>AF ?_⟩
    cases MM:f (δ.set j (.dat ds[n]))with
    |none=>rw[MM]at q2;cases q2
    |some y=>
     rw[MM]at q2;simp only[ao]at q2;cases hr:iB j t f δ (ds.drop (n+1))with
     |none=>rw[hr]at q2;cases q2
     |some rs=>
      rw[hr]at q2;cases q2;refine⟨C4,_,y,x3.ev e4,MM,λu C5 H5 e5 i5=>?_⟩
      have IA:=e4.trans e5;have UJ:=IA.hh b2;have a5:=IA.nn a2 b2;refine⟨UJ,?_,ds.length-(n+1),by omega,C5,done++[y],rs,rfl,fQ,(e2.trans IA).FG hA a5 _,a5,dc,(l2.mono IA.c).append (.one i5),?_,hr,?_⟩
      ·rw[l2.length];exact wg (by omega)
      ·rw[aR,List.length_singleton];omega
      ·rw[ey,List.append_assoc];rfl
   ·rename_i VS;refine ht _ _ _ ⟨C2,_,false,x3,VS,λC4 H4 e4=>BR ?_⟩
    exact⟨ds.length-(n+1),by omega,C4,done,rest,rfl,fQ,e2.trans e4,e4.nn a2 b2,e4.hh b2,l2.mono e4.c,by omega,q2,ey⟩
   ·cases q2
  ·have e:n=ds.length:=by omega
   subst e;rw[List.drop_length]at q2;unfold iB at q2;cases q2;rw[bD]at ey;subst ey;exact .inl ⟨w.2 (au _),k A acc C2 H2 (ev.trans e2) (ev.free hA) a2 b2 l2⟩
end
section
variable {X:Cx}{elt iter:cG}{x:Str}{px pos:Pos}{scope:Scope}{i:cb}{t:cg}{f:cf}
theorem MN (j:Nat) (hc:X.calm=true) (S:iz X scope x j) (hi:RA X (.Name x px) iter i) (he:∀cl C s H fp,PD (dN X scope cl C s H fp) elt f)
  (hs:∀v,foldedSetIterable iter X.env v=pure v:=by intro _;rfl):PF X (.ListComp elt [⟨.Name x px,iter,[],0⟩] scope pos) (eS i j lP f):=(FE hc S hi (λ_ _ _ _ _=>BS) he hs).imp (Eg JK)
theorem Ho (j:Nat) {c:cG}(hc:X.calm=true) (S:iz X scope x j) (hi:RA X (.Name x px) iter i) (ht:∀cl C s H fp,PQ (dN X scope cl C s H fp) c t) (he:∀cl C s H fp,PD (dN X scope cl C s H fp) elt f)
  (hs:∀v,foldedSetIterable iter X.env v=pure v:=by intro _;rfl):PF X (.ListComp elt [⟨.Name x px,iter,[c],0⟩] scope pos) (eS i j t f):=(FE hc S hi (λcl C s H fp=>BU (ht cl C s H fp)) he hs).imp (Eg λ_ _ _ h=>h)
variable {C0 H0:Hp}{y:Str}{py tE:Pos}
theorem AL (k j:Nat) {c:cG}(hc:X.calm=true) (S:iz X scope x j) (hi:RA X (.Name x px) iter i) (ht:∀cl C s H fp,PQ (dN X scope cl C s H fp) c t) (he:∀cl C s H fp,PD (dN X scope cl C s H fp) elt f)
  (hN:X.N[k]? =some y:=by rfl) (hy:Loc X.env.scope y:=by first|exact Or.inl rfl|exact Or.inr rfl) (hf:X.fn y=true\/X.env.scope.names.lookup y=some .local:=by first|exact .inl rfl|exact .inr rfl)
  (Mx:swapsWith (.ListComp elt [⟨.Name x px,iter,[c],0⟩] scope pos) (some (.Name y py)) tE.line X.env=pure true:=by rfl)
  (hs:∀v,foldedSetIterable iter X.env v=pure v:=by intro _;rfl):PB X C0 H0 (.Assign [.Name y py] (.ListComp elt [⟨.Name x px,iter,[c],0⟩] scope pos) tE) (hJ k (eS i j t f)):=λB=>
 (wR hc S hi (λcl C s H fp=>BU (ht cl C s H fp)) he hN hy hf Mx hs).imp (JH (Eg λ_ _ _ h=>h))
end
end DL
namespace DL
open PySem PySem.Spec PyProof.Rows L2
def hO (n:Nat) (np:Nat) (f:cc) (ds:cw):Option D:=
 if ds.length=np then(match f (ds.map Sl.dat++List.replicate (n-np) Sl.no)with|some (.ret d)=>some d|some (.next _)=>some .eD|_=>none)else none
theorem Od {P:cB}{w:cC}{K:W.Frag}{mg:cm}{base:Heap}{x qual:Str}{st:cH}{f:cF}{fd:cA}{N ps:List Str}{k:Nat}(F:mN K x qual st f fd) (S:dD N ps (cO st)) {fb:cc}
  (js:∀(fL:cy) (A:cD) (outer:List Env) (s:cz) (H:Hp) (E:XK),gn k (A.deeper (envOfC qual (cO st) s.heap.objs.size f fL))->∀C0 H0,@yB Mem.keep (qp iK P w K mg base N qual (cO st) f fL A outer s H E).DE C0 H0 (dw st) fb):
  eE P w K mg base iK (k+1) f fd ps (qf (hO N.length ps.length fb)):=by
 letI:Mem:=Mem.keep
 refine F.ok S (λvs H Q E h=>?_) (λfL A outer s H vs Q E hr h=>?_)
 ·obtain⟨C,ds,d,_,i,q,_⟩:=h;unfold hO at q;split at q
  ·rename_i hl;rw[i.length];exact hl
  ·cases q
 ·obtain⟨C,ds,d,sub,i,q,k⟩:=h;refine⟨tS C C H fb,js fL A outer s H E hr C H C,?_⟩;unfold hO at q;split at q
  case isFalse=>cases q
  rename_i hl;have hN:ps.length<=N.length:=by have:=S.pre;rw[<-this,bL];omega
  have sx:Sx (ds.map Sl.dat++List.replicate (N.length-ps.length) Sl.no) (L2.start N vs) C H:=by
   have lv:=i.length;refine⟨sub,λn d e=>?_,λn es e=>?_,λn m es fs a e=>?_,?_,λn ks e=>?_⟩
   ·by_cases hn:n<ds.length
    ·rw[aK (by simpa using hn),av]at e
     cases hd:ds[n]? with
     |none=>rw[hd]at e;cases e
     |some d'=>
      rw[hd]at e;cases e;obtain⟨v,h1,h2⟩:=i.get hd;refine⟨v,?_,h2⟩;unfold L2.start;rw[aK (by rw[ae,lv];exact hn),av,h1];rfl
    ·rw[aQ (by rw[ae];omega),bg]at e
     split at e<;>cases e
   ·by_cases hn:n<ds.length
    ·rw[aK (by simpa using hn),av]at e
     cases hd:ds[n]? with
     |none=>rw[hd]at e;cases e
     |some d'=>rw[hd]at e;cases e
    ·rw[aQ (by rw[ae];omega),bg]at e
     split at e<;>cases e
   ·by_cases hn:n<ds.length
    ·rw[aK (by simpa using hn),av]at e
     cases hd:ds[n]? with
     |none=>rw[hd]at e;cases e
     |some d'=>rw[hd]at e;cases e
    ·rw[aQ (by rw[ae];omega),bg]at e
     split at e<;>cases e
   ·unfold L2.start;simp only[aR,ae,List.length_replicate];omega
   ·by_cases hn:n<ds.length
    ·rw[aK (by simpa using hn),av]at e
     cases hd:ds[n]? with
     |none=>rw[hd]at e;cases e
     |some d'=>rw[hd]at e;cases e
    ·rw[aQ (by rw[ae];omega),bg]at e
     split at e<;>cases e
  have gd:Gd C C H (ds.map Sl.dat++List.replicate (N.length-ps.length) Sl.no) (L2.start N vs) C H:=⟨dZ.refl _,.refl sub,sx,λn es a e _=>by
   obtain⟨a',xs,h1,h2,h3,_⟩:=sx.own n es e;exfalso;by_cases hn:n<ds.length
   ·rw[aK (by simpa using hn),av]at e
    cases hd:ds[n]? with
    |none=>rw[hd]at e;cases e
    |some d'=>rw[hd]at e;cases e
   ·rw[aQ (by rw[ae];omega),bg]at e
    split at e<;>cases e⟩
  split at q
  ·rename_i d' hf;cases q;exact⟨C,_,_,gd,hf,λv C' H' ev i'=>k v C' H' ev.pX i'⟩
  ·rename_i δ' hf;cases q;exact⟨C,_,_,gd,hf,λσ' C' H' g'=>k .eD C' H' g'.ev.pX .eD⟩
  ·cases q
end DL
namespace DL
open PySem PySem.Spec PyProof.Rows L2
mutual
def dU:D->D->Bool
 |.eD,.eD=>true
 |.bl a,.bl b=>a==b
 |.bl a,.int b=>(if a then 1 else 0)==b
 |.int a,.bl b=>a==(if b then 1 else 0)
 |.int a,.int b=>a==b
 |.str a,.str b=>a==b
 |.tup a,.tup b=>lD a b
 |.lst a,.lst b=>lD a b
 |_,_=>false
def lD:cw->cw->Bool
 |[],[]=>true
 |a::as,b::bs=>dU a b&&lD as bs
 |_,_=>false
end
mutual
def dY:D->Nat
 |.tup ds=>iM ds+1
 |.lst ds=>iM ds+1
 |_=>0
def iM:cw->Nat
 |[]=>0
 |d::ds=>max (dY d) (iM ds)
end
theorem j3:∀{ds:cw}{d:D},d∈ds->dY d<=iM ds
 |e::r,d,h=>by
  unfold iM;rcases List.mem_cons.mp h with h|h
  ·subst h;omega
  ·have:=j3 h;omega
mutual
theorem qu:∀d:D,dU d d=true
 |.eD=>by unfold dU;rfl
 |.bl b=>by unfold dU;simp
 |.int i=>by unfold dU;simp
 |.str x=>by unfold dU;simp
 |.tup ds=>by unfold dU;exact uT ds
 |.lst ds=>by unfold dU;exact uT ds
theorem uT:∀ds:cw,lD ds ds=true
 |[]=>by unfold lD;rfl
 |d::ds=>by unfold lD;rw[qu d,uT ds];rfl
end
theorem lE:∀(as bs:cw),lD as bs=((List.range (min as.length bs.length)).all (λj=>dU (as.getD j .eD) (bs.getD j .eD))&&as.length==bs.length)
 |[],[]=>by unfold lD;rfl
 |[],b::bs=>by unfold lD;simp
 |a::as,[]=>by unfold lD;simp
 |a::as,b::bs=>by
  unfold lD;rw[lE as bs];have e:min (a::as).length (b::bs).length=min as.length bs.length+1:=by simp only[ax];omega
  rw[e,List.range_succ_eq_map,List.all_cons,List.all_map];simp only[ax,List.getD_cons_zero,Nat.add_left_inj,Nat.add_eq,Nat.add_zero,Bool.and_assoc]
  congr 1
  have e2:(as.length+1==bs.length+1)=(as.length==bs.length):=by
   rw[Bool.eq_iff_iff];simp
  rw[e2]
  congr 1
mutual
theorem Is.inj {C:Hp}:∀{v:V}{d e:D},Is C v d->Is C v e->d=e
 |_,_,_,.eD,.eD=>rfl
 |_,_,_,.bl _,.bl _=>rfl
 |_,_,_,.int _,.int _=>rfl
 |_,_,_,.str _,.str _=>rfl
 |_,_,_,.tup h l,.tup h' l'=>by
  rw[h]at h';cases h';rw[IsL.inj l l']
 |_,_,_,.lst h l,.lst h' l'=>by
  have:∀{a:cF}{xs ys:List V},Rd C a (.lst xs)->Rd C a (.lst ys)->xs=ys:=λ{a xs ys} p q=>by
   rcases p with p|⟨o,p⟩<;>rcases q with q|⟨o',q⟩<;>(rw[p]at q;cases q)<;>rfl
  cases this h h';rw[IsL.inj l l']
 |_,_,_,.tup h l,.lst h' l'=>by
  rcases h' with q|⟨o',q⟩<;>(rw[h]at q;cases q)
 |_,_,_,.lst h l,.tup h' l'=>by
  rcases h with q|⟨o',q⟩<;>(rw[h']at q;cases q)
theorem IsL.inj {C:Hp}:∀{vs:List V}{ds es:cw},IsL C vs ds->IsL C vs es->ds=es
 |_,_,_,.nil,.nil=>rfl
 |_,_,_,.cons h t,.cons h' t'=>by rw[Is.inj h h',IsL.inj t t']
end
section
variable {X:Cx}{pins:cn}{σ:L2.St}{C H:Hp}{s:cz}
theorem JL (I:Inv X pins σ H s) (sub:dZ C H):∀(n:Nat) (A:cD) (d e:D) (v w:V) (u z:cy),dY d<=n->A.units+n<cLine->Is C v d->Is C w e->RelV v u->RelV w z->SeqAt.EqAt A s u z (dU d e):=by
 intro n;induction n with
 |zero=>
  intro A d e v w u z hd hu iv iw ru rz;have iG:A.units<cLine:=by omega
  cases iv with
  |tup h l=>unfold dY at hd;omega
  |lst h l=>unfold dY at hd;omega
  |eD=>
   cases ru;cases iw with
   |tup h l=>cases rz;obtain⟨dF,_,p,_⟩:=I.tuple (jr.of (K:=X.K) (sub _ _ h));unfold dU;exact SeqAt.EqAt.none_tuple p iG
   |lst h l=>cases rz;obtain⟨dF,_,p,_⟩:=I.list (.inl (h.same sub));unfold dU;exact SeqAt.EqAt.none_list p.isList iG
   |eD=>cases rz;unfold dU;exact SeqAt.EqAt.same _
   |bl b=>cases rz;unfold dU;exact SeqAt.EqAt.none_bool b
   |int b=>obtain⟨t,rfl⟩:=rz;unfold dU;exact SeqAt.EqAt.none_int b t
   |str b=>obtain⟨t,rfl⟩:=rz;unfold dU;exact SeqAt.EqAt.none_str b t
  |bl a=>
   cases ru;cases iw with
   |tup h l=>cases rz;obtain⟨dF,_,p,_⟩:=I.tuple (jr.of (K:=X.K) (sub _ _ h));unfold dU;exact SeqAt.EqAt.bool_tuple a p iG
   |lst h l=>cases rz;obtain⟨dF,_,p,_⟩:=I.list (.inl (h.same sub));unfold dU;exact SeqAt.EqAt.bool_list a p.isList iG
   |eD=>cases rz;unfold dU;exact SeqAt.EqAt.bool_none a
   |bl b=>cases rz;unfold dU;exact SeqAt.EqAt.bool_bool a b
   |int b=>obtain⟨t,rfl⟩:=rz;unfold dU;exact SeqAt.EqAt.bool_int a b t
   |str b=>obtain⟨t,rfl⟩:=rz;unfold dU;exact SeqAt.EqAt.bool_str a b t
  |int a=>
   obtain⟨t',rfl⟩:=ru;cases iw with
   |tup h l=>cases rz;obtain⟨dF,_,p,_⟩:=I.tuple (jr.of (K:=X.K) (sub _ _ h));unfold dU;exact SeqAt.EqAt.int_tuple a t' p iG
   |lst h l=>cases rz;obtain⟨dF,_,p,_⟩:=I.list (.inl (h.same sub));unfold dU;exact SeqAt.EqAt.int_list a t' p.isList iG
   |eD=>cases rz;unfold dU;exact SeqAt.EqAt.int_none a t'
   |bl b=>cases rz;unfold dU;exact SeqAt.EqAt.int_bool a t' b
   |int b=>obtain⟨t,rfl⟩:=rz;unfold dU;exact SeqAt.EqAt.int_int a t' b t
   |str b=>obtain⟨t,rfl⟩:=rz;unfold dU;exact SeqAt.EqAt.int_str a t' b t
  |str a=>
   obtain⟨t',rfl⟩:=ru;cases iw with
   |tup h l=>cases rz;obtain⟨dF,_,p,_⟩:=I.tuple (jr.of (K:=X.K) (sub _ _ h));unfold dU;exact SeqAt.EqAt.str_tuple a t' p iG
   |lst h l=>cases rz;obtain⟨dF,_,p,_⟩:=I.list (.inl (h.same sub));unfold dU;exact SeqAt.EqAt.str_list a t' p.isList iG
   |eD=>cases rz;unfold dU;exact SeqAt.EqAt.str_none a t'
   |bl b=>cases rz;unfold dU;exact SeqAt.EqAt.str_bool a t' b
   |int b=>obtain⟨t,rfl⟩:=rz;unfold dU;exact SeqAt.EqAt.str_int a t' b t
   |str b=>obtain⟨t,rfl⟩:=rz;unfold dU;exact SeqAt.EqAt.str_str a t' b t
 |succ n ih=>
  intro A d e v w u z hd hu iv iw ru rz;have iG:A.units<cLine:=by omega
  have Qi:A.in1.units+n<cLine:=by show A.units+1+n<cLine;omega
  have items:∀{xs ys:List V}{ds es:cw}{dF fA:cx},iM ds<=n->IsL C xs ds->IsL C ys es->Vals xs dF->Vals ys fA->
    ∀j (h1:j<dF.toArray.size) (h2:j<fA.toArray.size),SeqAt.EqAt A.in1 s dF.toArray[j] fA.toArray[j] (dU (ds.getD j .eD) (es.getD j .eD)):=λ{xs ys ds es dF fA} hn l1 l2 r1 r2 j h1 h2=>by
   have BF:j<dF.length:=by simpa using h1
   have DG:j<fA.length:=by simpa using h2
   have g1:xs[j]? =some (xs[j]'(by rw[r1.length];exact BF)):=ah _
   have g2:ys[j]? =some (ys[j]'(by rw[r2.length];exact DG)):=ah _
   obtain⟨u1,q1,k1⟩:=r1.get g1;obtain⟨u2,q2,k2⟩:=r2.get g2;obtain⟨d1,e1,i1⟩:=l1.get' g1;obtain⟨d2,e2,i2⟩:=l2.get' g2;have w1:dF.toArray[j]=u1:=by
    rw[ah BF]at q1
    simpa using aT q1
   have w2:fA.toArray[j]=u2:=by
    rw[ah DG]at q2
    simpa using aT q2
   rw[w1,w2,ak,ak,e1,e2];exact ih A.in1 d1 d2 _ _ u1 u2 (aD (j3 (bo e1)) hn) Qi i1 i2 k1 k2
  cases iv with
  |eD=>exact ih A .eD e .eD w u z (by unfold dY;omega) (by omega) .eD iw ru rz
  |bl b=>exact ih A (.bl b) e (.bl b) w u z (by unfold dY;omega) (by omega) (.bl b) iw ru rz
  |int b=>exact ih A (.int b) e (.int b) w u z (by unfold dY;omega) (by omega) (.int b) iw ru rz
  |str b=>exact ih A (.str b) e (.str b) w u z (by unfold dY;omega) (by omega) (.str b) iw ru rz
  |@tup a xs ds h l=>
   cases ru;obtain⟨dF,r1,p1,z1⟩:=I.tuple (jr.of (K:=X.K) (sub _ _ h));unfold dY at hd;cases iw with
   |eD=>cases rz;unfold dU;exact SeqAt.EqAt.tuple_none p1 iG
   |bl b=>cases rz;unfold dU;exact SeqAt.EqAt.tuple_bool b p1 iG
   |int b=>obtain⟨t,rfl⟩:=rz;unfold dU;exact SeqAt.EqAt.tuple_int b t p1 iG
   |str b=>obtain⟨t,rfl⟩:=rz;unfold dU;exact SeqAt.EqAt.tuple_str b t p1 iG
   |lst h2 l2=>cases rz;obtain⟨fA,_,p2,_⟩:=I.list (.inl (h2.same sub));unfold dU;exact SeqAt.EqAt.tuple_list p1 p2.isList iG
   |@tup b ys es h2 l2=>
    cases rz;by_cases FN:a=b
    ·subst FN;have e:=Is.inj (Is.tup h l) (Is.tup h2 l2);rw[<-e,qu];exact SeqAt.EqAt.same _
    ·obtain⟨fA,r2,p2,z2⟩:=I.tuple (jr.of (K:=X.K) (sub _ _ h2));have q:=SeqAt.RcAt.tuples p1 p2 iG (items (by omega) l l2 r1 r2)
     unfold dU;rw[lE];have e1:dF.toArray.size=ds.length:=by rw[aq,<-r1.length,l.length]
     have e2:fA.toArray.size=es.length:=by rw[aq,<-r2.length,l2.length]
     rw[e1,e2]at q;exact SeqAt.EqAt.of_refs FN q
  |@lst a xs ds h l=>
   cases ru;obtain⟨dF,r1,p1,z1⟩:=I.list (.inl (h.same sub));unfold dY at hd;cases iw with
   |eD=>cases rz;unfold dU;exact SeqAt.EqAt.list_none p1.isList iG
   |bl b=>cases rz;unfold dU;exact SeqAt.EqAt.list_bool b p1.isList iG
   |int b=>obtain⟨t,rfl⟩:=rz;unfold dU;exact SeqAt.EqAt.list_int b t p1.isList iG
   |str b=>obtain⟨t,rfl⟩:=rz;unfold dU;exact SeqAt.EqAt.list_str b t p1.isList iG
   |tup h2 l2=>cases rz;obtain⟨fA,_,p2,_⟩:=I.tuple (jr.of (K:=X.K) (sub _ _ h2));unfold dU;exact SeqAt.EqAt.list_tuple p1.isList p2 iG
   |@lst b ys es h2 l2=>
    cases rz;by_cases FN:a=b
    ·subst FN;have e:=Is.inj (Is.lst h l) (Is.lst h2 l2);rw[<-e,qu];exact SeqAt.EqAt.same _
    ·obtain⟨fA,r2,p2,z2⟩:=I.list (.inl (h2.same sub));have e1:dF.toArray.size=ds.length:=by rw[aq,<-r1.length,l.length]
     have e2:fA.toArray.size=es.length:=by rw[aq,<-r2.length,l2.length]
     unfold dU;rw[lE];by_cases hl:ds.length=es.length
     ·have q:=SeqAt.RcAt.lists p1.isList p2.isList (by rw[e1,e2];exact hl) iG (items (by omega) l l2 r1 r2)
      rw[e1]at q;rw[<-hl,Nat.min_self,bP,Bool.and_true];exact SeqAt.EqAt.of_refs FN q
     ·have q:=SeqAt.RcAt.lists_lengths p1.isList p2.isList (by rw[e1,e2];simpa using hl) iG
      have e3:(ds.length==es.length)=false:=by simpa using hl
      rw[e3,Bool.and_false];exact SeqAt.EqAt.of_refs FN q
theorem tM (I:Inv X pins σ H s) (sub:dZ C H) {A:cD}(hu:A.in1.units+30<cLine) {xs ys:List V}{ds es:cw}{dF fA:cx}(hn:iM ds<=30) (l1:IsL C xs ds) (l2:IsL C ys es) (r1:Vals xs dF) (r2:Vals ys fA):
  ∀j (h1:j<dF.toArray.size) (h2:j<fA.toArray.size),SeqAt.EqAt A.in1 s dF.toArray[j] fA.toArray[j] (dU (ds.getD j .eD) (es.getD j .eD)):=λj h1 h2=>by
 have BF:j<dF.length:=by simpa using h1
 have DG:j<fA.length:=by simpa using h2
 have g1:xs[j]? =some (xs[j]'(by rw[r1.length];exact BF)):=ah _
 have g2:ys[j]? =some (ys[j]'(by rw[r2.length];exact DG)):=ah _
 obtain⟨u1,q1,k1⟩:=r1.get g1;obtain⟨u2,q2,k2⟩:=r2.get g2;obtain⟨d1,e1,i1⟩:=l1.get' g1;obtain⟨d2,e2,i2⟩:=l2.get' g2;have w1:dF.toArray[j]=u1:=by
  rw[ah BF]at q1
  simpa using aT q1
 have w2:fA.toArray[j]=u2:=by
  rw[ah DG]at q2
  simpa using aT q2
 rw[w1,w2,ak,ak,e1,e2];exact JL I sub 30 A.in1 d1 d2 _ _ u1 u2 (aD (j3 (bo e1)) hn) hu i1 i2 k1 k2
theorem Qj (I:Inv X pins σ H s) (sub:dZ C H) {A:cD}{d e:D}{v w:V}{u z:cy}(hd:dY d<=30) (hu:A.units+40<cLine) (iv:Is C v d) (iw:Is C w e) (ru:RelV v u) (rz:RelV w z):SeqAt.RcAt A s u z (dU d e):=by
 have iG:A.units<cLine:=by omega
 have Qi:A.in1.units+30<cLine:=by show A.units+1+30<cLine;omega
 cases iv with
 |eD=>
  cases ru;cases iw with
  |eD=>cases rz;unfold dU;exact SeqAt.RcAt.none_none
  |bl b=>cases rz;unfold dU;exact SeqAt.RcAt.none_bool b
  |int b=>obtain⟨t,rfl⟩:=rz;unfold dU;exact SeqAt.RcAt.none_int b t
  |str b=>obtain⟨t,rfl⟩:=rz;unfold dU;exact SeqAt.RcAt.none_str b t
  |@tup b ys es h2 l2=>cases rz;obtain⟨fA,r2,p2,z2⟩:=I.tuple (jr.of (K:=X.K) (sub _ _ h2));unfold dU;exact SeqAt.RcAt.none_tuple p2 iG
  |@lst b ys es h2 l2=>cases rz;obtain⟨fA,r2,p2,z2⟩:=I.list (.inl (h2.same sub));unfold dU;exact SeqAt.RcAt.none_list p2.isList iG
 |bl a=>
  cases ru;cases iw with
  |eD=>cases rz;unfold dU;exact SeqAt.RcAt.bool_none a
  |bl b=>cases rz;unfold dU;exact SeqAt.RcAt.bool_bool a b
  |int b=>obtain⟨t,rfl⟩:=rz;unfold dU;exact SeqAt.RcAt.bool_int a b t
  |str b=>obtain⟨t,rfl⟩:=rz;unfold dU;exact SeqAt.RcAt.bool_str a b t
  |@tup b ys es h2 l2=>cases rz;obtain⟨fA,r2,p2,z2⟩:=I.tuple (jr.of (K:=X.K) (sub _ _ h2));unfold dU;exact SeqAt.RcAt.bool_tuple a p2 iG
  |@lst b ys es h2 l2=>cases rz;obtain⟨fA,r2,p2,z2⟩:=I.list (.inl (h2.same sub));unfold dU;exact SeqAt.RcAt.bool_list a p2.isList iG
 |int a=>
  obtain⟨t',rfl⟩:=ru;cases iw with
  |eD=>cases rz;unfold dU;exact SeqAt.RcAt.int_none a t'
  |bl b=>cases rz;unfold dU;exact SeqAt.RcAt.int_bool a t' b
  |int b=>obtain⟨t,rfl⟩:=rz;unfold dU;exact SeqAt.RcAt.int_int a t' b t
  |str b=>obtain⟨t,rfl⟩:=rz;unfold dU;exact SeqAt.RcAt.int_str a t' b t
  |@tup b ys es h2 l2=>cases rz;obtain⟨fA,r2,p2,z2⟩:=I.tuple (jr.of (K:=X.K) (sub _ _ h2));unfold dU;exact SeqAt.RcAt.int_tuple a t' p2 iG
  |@lst b ys es h2 l2=>cases rz;obtain⟨fA,r2,p2,z2⟩:=I.list (.inl (h2.same sub));unfold dU;exact SeqAt.RcAt.int_list a t' p2.isList iG
 |str a=>
  obtain⟨t',rfl⟩:=ru;cases iw with
  |eD=>cases rz;unfold dU;exact SeqAt.RcAt.str_none a t'
  |bl b=>cases rz;unfold dU;exact SeqAt.RcAt.str_bool a t' b
  |int b=>obtain⟨t,rfl⟩:=rz;unfold dU;exact SeqAt.RcAt.str_int a t' b t
  |str b=>obtain⟨t,rfl⟩:=rz;unfold dU;exact SeqAt.RcAt.str_str a t' b t
  |@tup b ys es h2 l2=>cases rz;obtain⟨fA,r2,p2,z2⟩:=I.tuple (jr.of (K:=X.K) (sub _ _ h2));unfold dU;exact SeqAt.RcAt.str_tuple a t' p2 iG
  |@lst b ys es h2 l2=>cases rz;obtain⟨fA,r2,p2,z2⟩:=I.list (.inl (h2.same sub));unfold dU;exact SeqAt.RcAt.str_list a t' p2.isList iG
 |@tup a xs ds h l=>
  cases ru;obtain⟨dF,r1,p1,z1⟩:=I.tuple (jr.of (K:=X.K) (sub _ _ h));unfold dY at hd;cases iw with
  |eD=>cases rz;unfold dU;exact SeqAt.RcAt.tuple_none p1 iG
  |bl b=>cases rz;unfold dU;exact SeqAt.RcAt.tuple_bool b p1 iG
  |int b=>obtain⟨t,rfl⟩:=rz;unfold dU;exact SeqAt.RcAt.tuple_int b t p1 iG
  |str b=>obtain⟨t,rfl⟩:=rz;unfold dU;exact SeqAt.RcAt.tuple_str b t p1 iG
  |@tup b ys es h2 l2=>
   cases rz;obtain⟨fA,r2,p2,z2⟩:=I.tuple (jr.of (K:=X.K) (sub _ _ h2));have q:=SeqAt.RcAt.tuples p1 p2 iG (tM I sub Qi (by omega) l l2 r1 r2)
   unfold dU;rw[lE];have e1:dF.toArray.size=ds.length:=by rw[aq,<-r1.length,l.length]
   have e2:fA.toArray.size=es.length:=by rw[aq,<-r2.length,l2.length]
   rw[e1,e2]at q;exact q
  |@lst b ys es h2 l2=>cases rz;obtain⟨fA,r2,p2,z2⟩:=I.list (.inl (h2.same sub));unfold dU;exact SeqAt.RcAt.tuple_list p1 p2.isList iG
 |@lst a xs ds h l=>
  cases ru;obtain⟨dF,r1,p1,z1⟩:=I.list (.inl (h.same sub));unfold dY at hd;cases iw with
  |eD=>cases rz;unfold dU;exact SeqAt.RcAt.list_none p1.isList iG
  |bl b=>cases rz;unfold dU;exact SeqAt.RcAt.list_bool b p1.isList iG
  |int b=>obtain⟨t,rfl⟩:=rz;unfold dU;exact SeqAt.RcAt.list_int b t p1.isList iG
  |str b=>obtain⟨t,rfl⟩:=rz;unfold dU;exact SeqAt.RcAt.list_str b t p1.isList iG
  |@tup b ys es h2 l2=>cases rz;obtain⟨fA,r2,p2,z2⟩:=I.tuple (jr.of (K:=X.K) (sub _ _ h2));unfold dU;exact SeqAt.RcAt.list_tuple p1.isList p2 iG
  |@lst b ys es h2 l2=>
   cases rz;obtain⟨fA,r2,p2,z2⟩:=I.list (.inl (h2.same sub));have e1:dF.toArray.size=ds.length:=by rw[aq,<-r1.length,l.length]
   have e2:fA.toArray.size=es.length:=by rw[aq,<-r2.length,l2.length]
   unfold dU;rw[lE];by_cases hl:ds.length=es.length
   ·have q:=SeqAt.RcAt.lists p1.isList p2.isList (by rw[e1,e2];exact hl) iG (tM I sub Qi (by omega) l l2 r1 r2)
    rw[e1]at q;rw[<-hl,Nat.min_self,bP,Bool.and_true];exact q
   ·have q:=SeqAt.RcAt.lists_lengths p1.isList p2.isList (by rw[e1,e2];simpa using hl) iG
    have e3:(ds.length==es.length)=false:=by simpa using hl
    rw[e3,Bool.and_false];exact q
theorem Qk (I:Inv X pins σ H s) (sub:dZ C H) {A:cD}{d e:D}{v w:V}{u z:cy}(hd:dY d<=30) (hu:A.units+40<cLine) (iv:Is C v d) (iw:Is C w e) (ru:RelV v u) (rz:RelV w z):SeqAt.RcNeAt A s u z (!(dU d e)):=by
 have iG:A.units<cLine:=by omega
 have Qi:A.in1.units+30<cLine:=by show A.units+1+30<cLine;omega
 cases iv with
 |eD=>
  cases ru;cases iw with
  |eD=>cases rz;unfold dU;exact SeqAt.RcNeAt.none_none
  |bl b=>cases rz;unfold dU;exact SeqAt.RcNeAt.none_bool b
  |int b=>obtain⟨t,rfl⟩:=rz;unfold dU;exact SeqAt.RcNeAt.none_int b t
  |str b=>obtain⟨t,rfl⟩:=rz;unfold dU;exact SeqAt.RcNeAt.none_str b t
  |@tup b ys es h2 l2=>cases rz;obtain⟨fA,r2,p2,z2⟩:=I.tuple (jr.of (K:=X.K) (sub _ _ h2));unfold dU;exact SeqAt.RcNeAt.none_tuple p2 iG
  |@lst b ys es h2 l2=>cases rz;obtain⟨fA,r2,p2,z2⟩:=I.list (.inl (h2.same sub));unfold dU;exact SeqAt.RcNeAt.none_list p2.isList iG
 |bl a=>
  cases ru;cases iw with
  |eD=>cases rz;unfold dU;exact SeqAt.RcNeAt.bool_none a
  |bl b=>cases rz;unfold dU;exact SeqAt.RcNeAt.bool_bool a b
  |int b=>obtain⟨t,rfl⟩:=rz;unfold dU;exact SeqAt.RcNeAt.bool_int a b t
  |str b=>obtain⟨t,rfl⟩:=rz;unfold dU;exact SeqAt.RcNeAt.bool_str a b t
  |@tup b ys es h2 l2=>cases rz;obtain⟨fA,r2,p2,z2⟩:=I.tuple (jr.of (K:=X.K) (sub _ _ h2));unfold dU;exact SeqAt.RcNeAt.bool_tuple a p2 iG
  |@lst b ys es h2 l2=>cases rz;obtain⟨fA,r2,p2,z2⟩:=I.list (.inl (h2.same sub));unfold dU;exact SeqAt.RcNeAt.bool_list a p2.isList iG
 |int a=>
  obtain⟨t',rfl⟩:=ru;cases iw with
  |eD=>cases rz;unfold dU;exact SeqAt.RcNeAt.int_none a t'
  |bl b=>cases rz;unfold dU;exact SeqAt.RcNeAt.int_bool a t' b
  |int b=>obtain⟨t,rfl⟩:=rz;unfold dU;exact SeqAt.RcNeAt.int_int a t' b t
  |str b=>obtain⟨t,rfl⟩:=rz;unfold dU;exact SeqAt.RcNeAt.int_str a t' b t
  |@tup b ys es h2 l2=>cases rz;obtain⟨fA,r2,p2,z2⟩:=I.tuple (jr.of (K:=X.K) (sub _ _ h2));unfold dU;exact SeqAt.RcNeAt.int_tuple a t' p2 iG
  |@lst b ys es h2 l2=>cases rz;obtain⟨fA,r2,p2,z2⟩:=I.list (.inl (h2.same sub));unfold dU;exact SeqAt.RcNeAt.int_list a t' p2.isList iG
 |str a=>
  obtain⟨t',rfl⟩:=ru;cases iw with
  |eD=>cases rz;unfold dU;exact SeqAt.RcNeAt.str_none a t'
  |bl b=>cases rz;unfold dU;exact SeqAt.RcNeAt.str_bool a t' b
  |int b=>obtain⟨t,rfl⟩:=rz;unfold dU;exact SeqAt.RcNeAt.str_int a t' b t
  |str b=>obtain⟨t,rfl⟩:=rz;unfold dU;exact SeqAt.RcNeAt.str_str a t' b t
  |@tup b ys es h2 l2=>cases rz;obtain⟨fA,r2,p2,z2⟩:=I.tuple (jr.of (K:=X.K) (sub _ _ h2));unfold dU;exact SeqAt.RcNeAt.str_tuple a t' p2 iG
  |@lst b ys es h2 l2=>cases rz;obtain⟨fA,r2,p2,z2⟩:=I.list (.inl (h2.same sub));unfold dU;exact SeqAt.RcNeAt.str_list a t' p2.isList iG
 |@tup a xs ds h l=>
  cases ru;obtain⟨dF,r1,p1,z1⟩:=I.tuple (jr.of (K:=X.K) (sub _ _ h));unfold dY at hd;cases iw with
  |eD=>cases rz;unfold dU;exact SeqAt.RcNeAt.tuple_none p1 iG
  |bl b=>cases rz;unfold dU;exact SeqAt.RcNeAt.tuple_bool b p1 iG
  |int b=>obtain⟨t,rfl⟩:=rz;unfold dU;exact SeqAt.RcNeAt.tuple_int b t p1 iG
  |str b=>obtain⟨t,rfl⟩:=rz;unfold dU;exact SeqAt.RcNeAt.tuple_str b t p1 iG
  |@tup b ys es h2 l2=>
   cases rz;obtain⟨fA,r2,p2,z2⟩:=I.tuple (jr.of (K:=X.K) (sub _ _ h2));have q:=SeqAt.RcNeAt.tuples p1 p2 iG (tM I sub Qi (by omega) l l2 r1 r2)
   unfold dU;rw[lE];have e1:dF.toArray.size=ds.length:=by rw[aq,<-r1.length,l.length]
   have e2:fA.toArray.size=es.length:=by rw[aq,<-r2.length,l2.length]
   rw[e1,e2]at q;exact q
  |@lst b ys es h2 l2=>cases rz;obtain⟨fA,r2,p2,z2⟩:=I.list (.inl (h2.same sub));unfold dU;exact SeqAt.RcNeAt.tuple_list p1 p2.isList iG
 |@lst a xs ds h l=>
  cases ru;obtain⟨dF,r1,p1,z1⟩:=I.list (.inl (h.same sub));unfold dY at hd;cases iw with
  |eD=>cases rz;unfold dU;exact SeqAt.RcNeAt.list_none p1.isList iG
  |bl b=>cases rz;unfold dU;exact SeqAt.RcNeAt.list_bool b p1.isList iG
  |int b=>obtain⟨t,rfl⟩:=rz;unfold dU;exact SeqAt.RcNeAt.list_int b t p1.isList iG
  |str b=>obtain⟨t,rfl⟩:=rz;unfold dU;exact SeqAt.RcNeAt.list_str b t p1.isList iG
  |@tup b ys es h2 l2=>cases rz;obtain⟨fA,r2,p2,z2⟩:=I.tuple (jr.of (K:=X.K) (sub _ _ h2));unfold dU;exact SeqAt.RcNeAt.list_tuple p1.isList p2 iG
  |@lst b ys es h2 l2=>
   cases rz;obtain⟨fA,r2,p2,z2⟩:=I.list (.inl (h2.same sub));have e1:dF.toArray.size=ds.length:=by rw[aq,<-r1.length,l.length]
   have e2:fA.toArray.size=es.length:=by rw[aq,<-r2.length,l2.length]
   unfold dU;rw[lE];by_cases hl:ds.length=es.length
   ·have q:=SeqAt.RcNeAt.lists p1.isList p2.isList (by rw[e1,e2];exact hl) iG (tM I sub Qi (by omega) l l2 r1 r2)
    rw[e1]at q;rw[<-hl,Nat.min_self,bP,Bool.and_true];exact q
   ·have q:=SeqAt.RcNeAt.lists_lengths p1.isList p2.isList (by rw[e1,e2];simpa using hl) iG
    have e3:(ds.length==es.length)=false:=by simpa using hl
    rw[e3,Bool.and_false];exact q
end
end DL
namespace DL
open PySem PySem.Spec PyProof.Rows L2
variable [Mem]
theorem sf.list {K:W.Frag}{C H:Hp}{v:V}{ds:cw}(s:dZ C H) (h:sf C H v (.lst ds)):∃a xs,v=.ref a/\qk K H a xs/\IsL C xs ds:=by
 rcases h with h|⟨a,xs,es,h1,h2,h3,h4,h5⟩
 ·cases h with
  |lst h l=>exact⟨_,_,rfl,.inl (h.same s),l⟩
 ·cases h2;exact⟨a,xs,h1,qk.of h4,h5⟩
theorem sf.tup {K:W.Frag}{C H:Hp}{v:V}{ds:cw}(s:dZ C H) (h:sf C H v (.tup ds)):∃a xs,v=.ref a/\jr K H a xs/\IsL C xs ds/\C a=some (.tup xs):=by
 rcases h with h|⟨a,xs,es,h1,h2,_⟩
 ·cases h with
  |tup h l=>exact⟨_,_,rfl,jr.of (s _ _ h),l,h⟩
 ·cases h2
theorem IsL.lu {C:Hp}{xs:List V}{ds:cw}(l:IsL C xs ds) {i:Int}{d:D}(h:lu ds i=some d):∃v,L2.lu xs i=some v/\Is C v d:=by
 unfold L2.lu at h ⊢;rw[l.length];cases hk:sY ds.length i with
 |none=>rw[hk]at h;cases h
 |some j=>
  rw[hk]at h;exact l.get h
def jL:D->D->Option D
 |.lst ds,.int i=>lu ds i
 |.tup ds,.int i=>lu ds i
 |.str z,.int i=>if z.length<=1000000 then(lu z.cps.toList i).map λc=>.str ⟨#[c]⟩else none
 |_,_=>none
section
variable {X:Cx}{a b c e o:cG}{pos:Pos}{f g h:cf}
theorem S4:Oa (XA X.K) jL:=λC H x y dx dy d Q s ix iy q k=>by
 unfold jL at q;split at q
 ·rename_i ds i;obtain⟨p,xs,rfl,hq,l⟩:=ix.list (K:=X.K) s;obtain⟨v,h1,h2⟩:=l.lu q;exact .inl ⟨p,xs,i,v,rfl,iy.int,hq,h1,k v C H (.refl s) h2⟩
 ·rename_i ds i;obtain⟨p,xs,rfl,hq,l,_⟩:=ix.tup (K:=X.K) s;obtain⟨v,h1,h2⟩:=l.lu q;exact .inr (.inl ⟨p,xs,i,v,rfl,iy.int,hq,h1,k v C H (.refl s) h2⟩)
 ·rename_i z i;split at q
  ·rename_i hz;cases hc:lu z.cps.toList i with
   |none=>rw[hc]at q;cases q
   |some c=>
    rw[hc]at q;cases q;have:=ix.is (λ_ z=>by cases z)
    cases this;exact .inr (.inr ⟨z,i,c,rfl,iy.int,aD hz (by decide),hc,k _ C H (.refl s) (.str _)⟩)
  ·cases q
 ·cases q
theorem Ql (ha:PO X a f) (hb:PO X b g) (hs:nM b):PD X (.Subscript a b pos) (dz jL f g):=SW Pr S4 ha hb hs
def nI (d e:D):Option D:=if dY d<=30 then some (.bl (dU d e))else none
theorem sf.both {C H:Hp}{v:V}{d:D}(h:sf C H v d):∃C',dZ C C'/\(dZ C H->dZ C' H)/\Is C' v d:=by
 rcases h with h|⟨a,xs,ds,rfl,rfl,h3,h4,h5⟩
 ·exact⟨C,dZ.refl _,id,h⟩
 ·refine⟨upd C a (.lst xs),eR h3,λs b u q=>?_,.lst (.inl dc) (h5.mono (eR h3))⟩
  by_cases e:b=a
  ·subst e;rw[dc]at q;cases q;exact h4
  ·rw[cV e]at q;exact s b u q
theorem sf.two {C H:Hp}{v w:V}{d e:D}(s:dZ C H) (h:sf C H v d) (h':sf C H w e):∃C',dZ C' H/\Is C' v d/\Is C' w e:=by
 obtain⟨C1,a1,b1,i1⟩:=h.both;have s1:=b1 s;rcases h' with h'|⟨a,xs,ds,rfl,rfl,h3,h4,h5⟩
 ·exact⟨C1,s1,i1,h'.mono a1⟩
 ·cases q:C1 a with
  |none=>
   refine⟨upd C1 a (.lst xs),λb u z=>?_,i1.mono (eR q),.lst (.inl dc) ((h5.mono a1).mono (eR q))⟩
   by_cases e:b=a
   ·subst e;rw[dc]at z;cases z;exact h4
   ·rw[cV e]at z;exact s1 b u z
  |some u=>
   have:=s1 a u q;rw[h4]at this;cases this;exact⟨C1,s1,i1,.lst (.inl q) (h5.mono a1)⟩
theorem qv (hu:X.A.units+64<cLine):uP X .Eq nI:=by
 refine⟨λx y H Q=>∃C dx dy,dZ C H/\Is C x dx/\Is C y dy/\dY dx<=30/\Q (.bl (dU dx dy)) H,?_,?_⟩
 ·rintro pins s σ H x y v u Q I rx ry ⟨C,dx,dy,sub,ix,iy,hd,q⟩
  have fin:EP X pins σ Q (.bool (dU dx dy)) s:=⟨.bl _,H,I,rfl,q⟩;exact Qj I sub hd (by omega) ix iy rx ry X.prog X.w _ _ fin
 ·intro C H x y dx dy d Q s ix iy q k;unfold nI at q;split at q
  ·rename_i hd;cases q;obtain⟨C',s',i1,i2⟩:=sf.two s ix iy;exact⟨C',dx,dy,s',i1,i2,hd,k _ C H (.refl s) (.bl _)⟩
  ·cases q
def BG (d e:D):Option D:=if dY d<=30 then some (.bl (!(dU d e)))else none
theorem Eh (hu:X.A.units+64<cLine):uP X .NotEq BG:=by
 refine⟨λx y H Q=>∃C dx dy,dZ C H/\Is C x dx/\Is C y dy/\dY dx<=30/\Q (.bl (!(dU dx dy))) H,?_,?_⟩
 ·rintro pins s σ H x y v u Q I rx ry ⟨C,dx,dy,sub,ix,iy,hd,q⟩
  have fin:EP X pins σ Q (.bool (!(dU dx dy))) s:=⟨.bl _,H,I,rfl,q⟩;exact Qk I sub hd (by omega) ix iy rx ry X.prog X.w _ _ fin
 ·intro C H x y dx dy d Q s ix iy q k;unfold BG at q;split at q
  ·rename_i hd;cases q;obtain⟨C',s',i1,i2⟩:=sf.two s ix iy;exact⟨C',dx,dy,s',i1,i2,hd,k _ C H (.refl s) (.bl _)⟩
  ·cases q
def si:D->Option (cw)
 |.lst ds=>some ds
 |.tup ds=>some ds
 |_=>none
def memD (d:D) (ds:cw):Bool:=ds.any λe=>dU e d
def B0 (d e:D):Option D:=(si e).bind λds=>if iM ds<=30 then some (.bl (memD d ds))else none
def tN (d e:D):Option D:=(si e).bind λds=>if iM ds<=30 then some (.bl (!(memD d ds)))else none
theorem tR {pins:cn}{σ:L2.St}{C H:Hp}{s:cz}(I:Inv X pins σ H s) (sub:dZ C H) {A:cD}(hu:A.units+31<cLine) {d:D}{w:V}{z:cy}(iw:Is C w d) (rz:RelV w z):
  ∀{xs:List V}{ds:cw}{dF:cx},iM ds<=30->IsL C xs ds->Vals xs dF->∃e:cy->Bool,(∀y∈dF,SeqAt.EqAt A.in1 s y z (e y))/\dF.any e=memD d ds:=λ{xs ds dF} hn l r=>by
 classical
 have one:∀{v:V}{u:cy}{c:D},c∈ds->Is C v c->RelV v u->SeqAt.EqAt A.in1 s u z (dU c d):=λ{v u c} hc i ru=>
  JL I sub 30 A.in1 c d v w u z (aD (j3 hc) hn) (by show A.units+1+30<cLine;omega) i iw ru rz
 let e:cy->Bool:=λu=>if h:∃v c,c∈ds/\Is C v c/\RelV v u then dU h.choose_spec.choose d else false
 have he:∀{v u c},c∈ds->Is C v c->RelV v u->e u=dU c d:=λ{v u c} hc i ru=>by
  have hx:∃v c,c∈ds/\Is C v c/\RelV v u:=⟨v,c,hc,i,ru⟩;show(if h:∃v c,c∈ds/\Is C v c/\RelV v u then dU h.choose_spec.choose d else false)=_
  rw[dif_pos hx];obtain⟨h1,h2,h3⟩:=hx.choose_spec.choose_spec;have ev:hx.choose=v:=h3.inj ru;have ec:hx.choose_spec.choose=c:=by
   have DG:Is C v hx.choose_spec.choose:=by rw[<-ev];exact h2
   exact DG.inj i
  rw[ec]
 refine⟨e,λy hy=>?_,?_⟩
 ·obtain⟨j,hj,ej⟩:=List.getElem_of_mem hy;have g1:xs[j]? =some (xs[j]'(by rw[r.length];exact hj)):=ah _
  obtain⟨u1,q1,k1⟩:=r.get g1;obtain⟨c,e1,i1⟩:=l.get' g1;have hc:=bo e1;rw[ah hj]at q1;have eu:u1=y:=by rw[<-ej];exact(aT q1).symm
  subst eu;rw[he hc i1 k1];exact one hc i1 k1
 ·have aux:∀{xs:List V}{es:cw}{dF:cx},(∀c∈es,c∈ds)->IsL C xs es->Vals xs dF->dF.any e=es.any λc=>dU c d:=by
   intro xs es dF hs l;induction es generalizing xs dF with
   |nil=>cases l;intro r;cases r;rfl
   |cons c es ih=>
    intro r;cases l with
    |cons i l=>
     cases r with
     |cons rr r=>
      rw[bH,bH,he (hs c af) i rr,ih (λc hc=>hs c (ai _ hc)) l r]
  exact aux (λc hc=>hc) l r
theorem MO (hu:X.A.units+64<cLine):uP X .In B0:=by
 refine⟨λx y H Q=>∃C dx ds,dZ C H/\Is C x dx/\(Is C y (.lst ds)\/Is C y (.tup ds))/\iM ds<=30/\Q (.bl (memD dx ds)) H,?_,?_⟩
 ·rintro pins s σ H x y v u Q I rx ry ⟨C,dx,ds,sub,ix,iy,hd,q⟩
  rcases iy with iy|iy
  ·cases iy with
   |lst h l=>
    cases ry;obtain⟨dF,r,pl,hz⟩:=I.list (.inl (h.same sub));obtain⟨e,h1,h2⟩:=tR I sub (A:=X.A) (by omega) ix rx hd l r
    refine SeqAt.in_listAt e pl.isList (λw hw=>h1 w (by simpa using hw)) ⟨.bl _,H,I,rfl,?_⟩
    rw[show dF.toArray.any e=dF.any e by simp,h2]
    exact q
  ·cases iy with
   |tup h l=>
    cases ry;obtain⟨dF,r,pl,hz⟩:=I.tuple (jr.of (K:=X.K) (sub _ _ h));obtain⟨e,h1,h2⟩:=tR I sub (A:=X.A) (by omega) ix rx hd l r
    refine SeqAt.in_tupleAt e pl (λw hw=>h1 w (by simpa using hw)) ⟨.bl _,H,I,rfl,?_⟩
    rw[show dF.toArray.any e=dF.any e by simp,h2]
    exact q
 ·intro C H x y dx dy d Q s ix iy q k;unfold B0 at q;cases hs:si dy with
  |none=>rw[hs]at q;cases q
  |some ds=>
   rw[hs]at q;simp only[ao]at q;split at q
   ·rename_i hd;cases q;obtain⟨C',s',i1,i2⟩:=sf.two s ix iy;refine⟨C',dx,ds,s',i1,?_,hd,k _ C H (.refl s) (.bl _)⟩;unfold si at hs;split at hs
    ·cases hs;exact .inl i2
    ·cases hs;exact .inr i2
    ·cases hs
   ·cases q
theorem tT (hu:X.A.units+64<cLine):uP X .NotIn tN:=by
 refine⟨λx y H Q=>∃C dx ds,dZ C H/\Is C x dx/\(Is C y (.lst ds)\/Is C y (.tup ds))/\iM ds<=30/\Q (.bl (!(memD dx ds))) H,?_,?_⟩
 ·rintro pins s σ H x y v u Q I rx ry ⟨C,dx,ds,sub,ix,iy,hd,q⟩
  rcases iy with iy|iy
  ·cases iy with
   |lst h l=>
    cases ry;obtain⟨dF,r,pl,hz⟩:=I.list (.inl (h.same sub));obtain⟨e,h1,h2⟩:=tR I sub (A:=X.A) (by omega) ix rx hd l r
    refine SeqAt.notIn_listAt e pl.isList (λw hw=>h1 w (by simpa using hw)) ⟨.bl _,H,I,rfl,?_⟩
    rw[show dF.toArray.any e=dF.any e by simp,h2]
    exact q
  ·cases iy with
   |tup h l=>
    cases ry;obtain⟨dF,r,pl,hz⟩:=I.tuple (jr.of (K:=X.K) (sub _ _ h));obtain⟨e,h1,h2⟩:=tR I sub (A:=X.A) (by omega) ix rx hd l r
    refine SeqAt.notIn_tupleAt e pl (λw hw=>h1 w (by simpa using hw)) ⟨.bl _,H,I,rfl,?_⟩
    rw[show dF.toArray.any e=dF.any e by simp,h2]
    exact q
 ·intro C H x y dx dy d Q s ix iy q k;unfold tN at q;cases hs:si dy with
  |none=>rw[hs]at q;cases q
  |some ds=>
   rw[hs]at q;simp only[ao]at q;split at q
   ·rename_i hd;cases q;obtain⟨C',s',i1,i2⟩:=sf.two s ix iy;refine⟨C',dx,ds,s',i1,?_,hd,k _ C H (.refl s) (.bl _)⟩;unfold si at hs;split at hs
    ·cases hs;exact .inl i2
    ·cases hs;exact .inr i2
    ·cases hs
   ·cases q
def RB:D->D->Option Bool
 |.eD,.eD=>some true
 |.bl a,.bl b=>some (a==b)
 |.bl _,.eD=>some false
 |.int _,.eD=>some false
 |.str _,.eD=>some false
 |.tup _,.eD=>some false
 |.lst _,.eD=>some false
 |.eD,.bl _=>some false
 |_,_=>none
def UK (d e:D):Option D:=(RB d e).map .bl
def Hq (d e:D):Option D:=(RB d e).map λb=>.bl (!b)
theorem Oe {C H:Hp}{x y:V}{dx dy:D}{b:Bool}(ix:sf C H x dx) (iy:sf C H y dy) (h:RB dx dy=some b):
  (∃p q,x=.bl p/\y=.bl q/\b=(p==q))\/(y=.eD/\b=decide (x=.eD))\/(x=.eD/\(∃q,y=.bl q)/\b=false):=by
 unfold RB at h;split at h
 ·cases h;have:=ix.is (λ_ z=>by cases z);cases this
  have:=iy.is (λ_ z=>by cases z);cases this
  exact .inr (.inl ⟨rfl,by simp⟩)
 ·rename_i p q;cases h;have:=ix.is (λ_ z=>by cases z);cases this
  have:=iy.is (λ_ z=>by cases z);cases this
  exact .inl ⟨p,q,rfl,rfl,rfl⟩
 ·cases h;have:=ix.is (λ_ z=>by cases z);cases this
  have:=iy.is (λ_ z=>by cases z);cases this
  exact .inr (.inl ⟨rfl,by simp⟩)
 ·cases h;have:=ix.is (λ_ z=>by cases z);cases this
  have:=iy.is (λ_ z=>by cases z);cases this
  exact .inr (.inl ⟨rfl,by simp⟩)
 ·cases h;have:=ix.is (λ_ z=>by cases z);cases this
  have:=iy.is (λ_ z=>by cases z);cases this
  exact .inr (.inl ⟨rfl,by simp⟩)
 ·cases h;have:=ix.is (λ_ z=>by cases z);cases this
  have:=iy.is (λ_ z=>by cases z);cases this
  exact .inr (.inl ⟨rfl,by simp⟩)
 ·cases h;have:=iy.is (λ_ z=>by cases z);cases this
  rcases ix with ix|⟨a,xs,ds,rfl,_⟩
  ·cases ix;exact .inr (.inl ⟨rfl,by simp⟩)
  ·exact .inr (.inl ⟨rfl,by simp⟩)
 ·rename_i q;cases h;have:=ix.is (λ_ z=>by cases z);cases this
  have:=iy.is (λ_ z=>by cases z);cases this
  exact .inr (.inr ⟨rfl,⟨q,rfl⟩,rfl⟩)
 ·cases h
theorem VT:uP X .Is UK:=by
 refine⟨λx y H Q=>∃b,((∃p q,x=.bl p/\y=.bl q/\b=(p==q))\/(y=.eD/\b=decide (x=.eD))\/(x=.eD/\(∃q,y=.bl q)/\b=false))/\Q (.bl b) H,?_,?_⟩
 ·rintro pins s σ H x y v u Q I rx ry ⟨b,h,q⟩
  rcases h with⟨p,p',rfl,rfl,rfl⟩|⟨rfl,rfl⟩|⟨rfl,⟨p,rfl⟩,rfl⟩
  ·cases rx;cases ry;exact is_bool ⟨.bl _,H,I,rfl,q⟩
  ·exact Pc pins s σ H x .eD v u Q I rx ry ⟨rfl,q⟩
  ·cases rx;cases ry;exact wpAny_is_other (by rfl) (by intro z;cases z) ⟨.bl _,H,I,rfl,q⟩
 ·intro C H x y dx dy d Q s ix iy q k;unfold UK at q;cases hb:RB dx dy with
  |none=>rw[hb]at q;cases q
  |some b=>rw[hb]at q;cases q;exact⟨b,Oe ix iy hb,k _ C H (.refl s) (.bl b)⟩
theorem FO:uP X .IsNot Hq:=by
 refine⟨λx y H Q=>∃b,((∃p q,x=.bl p/\y=.bl q/\b=(p==q))\/(y=.eD/\b=decide (x=.eD))\/(x=.eD/\(∃q,y=.bl q)/\b=false))/\Q (.bl (!b)) H,?_,?_⟩
 ·rintro pins s σ H x y v u Q I rx ry ⟨b,h,q⟩
  rcases h with⟨p,p',rfl,rfl,rfl⟩|⟨rfl,rfl⟩|⟨rfl,⟨p,rfl⟩,rfl⟩
  ·cases rx;cases ry;exact isnot_bool ⟨.bl _,H,I,rfl,q⟩
  ·exact L5 pins s σ H x .eD v u Q I rx ry ⟨rfl,q⟩
  ·cases rx;cases ry;exact wpAny_isNot_other (by rfl) (by intro z;cases z) ⟨.bl _,H,I,rfl,q⟩
 ·intro C H x y dx dy d Q s ix iy q k;unfold Hq at q;cases hb:RB dx dy with
  |none=>rw[hb]at q;cases q
  |some b=>rw[hb]at q;cases q;exact⟨b,Oe ix iy hb,k _ C H (.refl s) (.bl _)⟩
def intsOf:cw->Option (cq)
 |[]=>some []
 |.int i::r=>(intsOf r).map λns=>i::ns
 |_=>none
omit [Mem] in
theorem jM:∀{ds:cw}{ns:cq},intsOf ds=some ns->ds=ns.map D.int
 |[],_,h=>by cases h;rfl
 |.int i::r,ns,h=>by
  unfold intsOf at h;cases hr:intsOf r with
  |none=>rw[hr]at h;cases h
  |some ms=>rw[hr]at h;cases h;rw[jM hr];rfl
omit [Mem] in
theorem jG (ns:cq):intsOf (ns.map D.int)=some ns:=by
 induction ns with
 |nil=>rfl
 |cons n r ih=>show(intsOf (r.map D.int)).map _=_;rw[ih];rfl
def B1 (f:cf):cf:=λδ=>match f δ with|some (.int i)=>some (.int (-i))|_=>none
theorem Qm (ha:PO X a f):PD X (.UnaryOp .USub a pos) (B1 f):=(R8 Pa ha).imp λσ H Q ⟨C,δ,d,x,q,k⟩=>by
 unfold B1 at q;split at q
 ·rename_i i hf;cases q;exact⟨C,δ,_,x,hf,λv C' H' ev i'=>⟨i,i'.int,k _ C' H' ev (.int _)⟩⟩
 ·cases q
def n8:cj
 |[.lst ds]=>some (.int ds.length)
 |[.tup ds]=>some (.int ds.length)
 |[.str z]=>if z.length<=1000000 then some (.int z.length)else none
 |_=>none
theorem yN.one {C H:Hp}{vs:List V}{d:D}(h:yN C H vs [d]):∃v,vs=[v]/\sf C H v d:=by
 cases h with|cons h t=>cases t;exact⟨_,rfl,h⟩
theorem yN.two {C H:Hp}{vs:List V}{d e:D}(h:yN C H vs [d,e]):∃v w,vs=[v,w]/\sf C H v d/\sf C H w e:=by
 cases h with|cons h t=>cases t with|cons h2 t=>cases t;exact⟨_,_,rfl,h,h2⟩
theorem zJ:qt X (.builtin "len") n8:=by
 refine⟨_,AD.or AE,?_⟩;intro C H vs ds d Q s i q k;unfold n8 at q;split at q
 ·cases q;obtain⟨v,rfl,j⟩:=i.one;obtain⟨p,xs,rfl,hq,l⟩:=j.list (K:=X.K) s;exact .inl ⟨p,xs,rfl,.inl hq,by rw[l.length];exact k _ C H (.refl s) (.int _)⟩
 ·cases q;obtain⟨v,rfl,j⟩:=i.one;obtain⟨p,xs,rfl,hq,l,_⟩:=j.tup (K:=X.K) s;exact .inl ⟨p,xs,rfl,.inr hq,by rw[l.length];exact k _ C H (.refl s) (.int _)⟩
 ·split at q
  ·rename_i hz;cases q;obtain⟨v,rfl,j⟩:=i.one;have:=j.is (λ_ z=>by cases z);cases this
   exact .inr ⟨_,rfl,aD hz (by decide),k _ C H (.refl s) (.int _)⟩
  ·cases q
 ·cases q
def kJ:cj
 |[.lst ds]=>some (.tup ds)
 |[.tup ds]=>some (.tup ds)
 |_=>none
theorem gz:qt X (.type "tuple") kJ:=by
 refine⟨_,yL,?_⟩;intro C H vs ds d Q s i q k;unfold kJ at q;split at q
 ·cases q;obtain⟨v,rfl,j⟩:=i.one;obtain⟨p,xs,rfl,hq,l⟩:=j.list (K:=X.K) s;exact⟨p,xs,rfl,.inl ⟨hq,λt ht=>k _ _ _ (.new s ht) (.tup dc (l.mono (eR (s.free ht))))⟩⟩
 ·cases q;obtain⟨v,rfl,j⟩:=i.one;obtain⟨p,xs,rfl,hq,l,hc⟩:=j.tup (K:=X.K) s;exact⟨p,xs,rfl,.inr ⟨hq,k _ C H (.refl s) (.tup hc l)⟩⟩
 ·cases q
def vo:cj
 |[.int i,.int j]=>some (.int (if j<i then j else i))
 |_=>none
theorem JM (hc:X.calm=true):qt X (.builtin "min") vo:=by
 refine⟨_,G1 hc,?_⟩;intro C H vs ds d Q s i q k;unfold vo at q;split at q
 ·rename_i i' j';cases q;obtain⟨v,w,rfl,i1,i2⟩:=i.two;exact⟨i',j',by rw[i1.int,i2.int],k _ C H (.refl s) (.int _)⟩
 ·cases q
end
end DL
namespace DL
open PySem PySem.Spec PyProof.Rows L2
variable [Mem]
omit [Mem] in
theorem fD:bootBuiltins "tuple"=some (.type "tuple"):=by decide +kernel
omit [Mem] in
theorem MP:bootBuiltins "list"=some (.type "list"):=by decide +kernel
omit [Mem] in
theorem JN:bootBuiltins "int"=some (.type "int"):=by decide +kernel
omit [Mem] in
theorem MQ:bootBuiltins "bool"=some (.type "bool"):=by decide +kernel
omit [Mem] in
theorem uU:bootBuiltins "len"=some (.builtin "len"):=by decide +kernel
omit [Mem] in
theorem Ei:bootBuiltins "all"=some (.builtin "all"):=by decide +kernel
omit [Mem] in
theorem Ej:bootBuiltins "min"=some (.builtin "min"):=by decide +kernel
omit [Mem] in
theorem i7:bootBuiltins "sorted"=some (.builtin "sorted"):=by decide +kernel
omit [Mem] in
theorem yO:bootBuiltins "isinstance"=some (.builtin "isinstance"):=by decide +kernel
section
variable {X:Cx}{a b c e o:cG}{pos p p2:Pos}{f g h:cf}
def cutD (ds:cw) (lo hi:Option Int):cw:=(ds.drop (HT.iF ds.length 0 lo)).take (HT.iF ds.length ds.length hi-HT.iF ds.length 0 lo)
def Qn:dR->Option (Option Int):=λ_=>some none
def B2 (f:cf):dR->Option (Option Int):=λδ=>match f δ with|some (.int i)=>some (some i)|_=>none
def tP (f:dR->Option (Option Int)):TO:=λσ H Q=>∃C δ o,Sx δ σ C H/\f δ=some o/\∀C' H',Ev C H C' H'->Q o H'
omit [Mem] in
theorem _root_.L2.PO.imp {X:Cx}{e:Option cG}{t t':TO}(h:L2.PO X e t) (m:∀σ H Q,t' σ H Q->t σ H Q):L2.PO X e t':=λpins s σ H Q I q=>h pins s σ H Q I (m σ H Q q)
theorem S5:L2.PO X none (tP Qn):=Mg.imp λσ H Q ⟨C,δ,o,x,q,k⟩=>by cases q;exact k C H (.refl x.sub)
theorem Qo (h:PO X e f):L2.PO X (some e) (tP (B2 f)):=(Mh h).imp λσ H Q ⟨C,δ,o,x,q,k⟩=>by
 unfold B2 at q;split at q
 ·rename_i i hf;cases q;exact⟨C,δ,_,x,hf,λv C' H' ev i'=>⟨i,i'.int,k C' H' ev⟩⟩
 ·cases q
def JO (f:cf) (lo hi:dR->Option (Option Int)):cb:=λδ=>match f δ with
 |some (.lst ds)=>(lo δ).bind λl=>(hi δ).map λu=>cutD ds l u
 |_=>none
theorem IsL.cut {C:Hp}{xs:List V}{ds:cw}(l:IsL C xs ds) (lo hi:Option Int):IsL C (BO xs lo hi) (cutD ds lo hi):=by
 unfold BO cutD;rw[l.length];exact(l.drop _).take _
theorem Qp {lo hi:Option cG}{fl fh:dR->Option (Option Int)}(he:PO X e f) (hl:L2.PO X lo (tP fl)) (hh:L2.PO X hi (tP fh)):PF X (.Subscript e (.Slice lo hi none p2) pos) (JO f fl fh):=(BN Mn he hl hh).imp λσ H Q ⟨C,δ,ds,x,q,k⟩=>by
 unfold JO at q;split at q
 ·rename_i es hf;cases h1:fl δ with
  |none=>rw[h1]at q;cases q
  |some l=>
   cases h2:fh δ with
   |none=>rw[h1,h2]at q;cases q
   |some u=>
    rw[h1,h2]at q;cases q;refine⟨C,δ,_,x,hf,λv C1 H1 e1 i1=>⟨C1,δ,l,x.ev e1,h1,λC2 H2 e2=>⟨C2,δ,u,x.ev (e1.trans e2),h2,λC3 H3 e3=>?_⟩⟩⟩
    obtain⟨p,xs,rfl,hq,ll⟩:=((i1.ev e2).ev e3).list (K:=X.K) e3.s;have ev:=(e1.trans e2).trans e3;exact⟨p,xs,rfl,hq,λt ht=>k t _ C3 _ (ev.trans (.gK e3.s ht)) (ev.free ht) (e3.s.free ht) dc (ll.cut l u)⟩
 ·cases q
def JP:D->String
 |.eD=>"NoneType"
 |.bl _=>"bool"
 |.int _=>"int"
 |.str _=>"str"
 |.tup _=>"tuple"
 |.lst _=>"list"
def S6 (T:String):D->Bool
 |.bl _=>T=="bool"||T=="int"
 |d=>T==JP d
theorem JQ (T:String):jl X (.builtin "isinstance") (λxs H Q=>∃x t b,xs=[x,.ty T]/\tm X.K H x t/\W.kitOne X.K t (.type T)=some b/\Q (.bl b) H):=by
 intro pins s σ H xs us Q I r h;obtain⟨x,t,b,rfl,ty,e,q⟩:=h;obtain⟨u,w,rfl,r1,r2⟩:=vals2 r;cases r2;exact G5 I r1 ty e λtk=>⟨.bl b,H,I.tok tk,rfl,q⟩
def FP (T:String):Prop:=∀(K:W.Frag) (d:D),W.kitOne K (.type (JP d)) (.type T)=some (S6 T d)
omit [Mem] in
theorem MR:FP "int":=λK d=>by cases d<;>rfl
omit [Mem] in
theorem JR:FP "bool":=λK d=>by cases d<;>rfl
theorem Qq {K:W.Frag}{C H:Hp}{v:V}{d:D}(s:dZ C H) (h:sf C H v d):tm K H v (.type (JP d)):=by
 rcases h with h|⟨a,xs,ds,rfl,rfl,_,h4,_⟩
 ·cases h with
  |eD=>exact .eD
  |bl b=>exact .bl b
  |int i=>exact .int i
  |str x=>exact .str x
  |tup h l=>exact .tup (s _ _ h)
  |lst h l=>
   rcases h with h|⟨o,h⟩
   ·exact .lst (s _ _ h)
   ·exact .yD (s _ _ h)
 ·exact .lst h4
def JS (T:String) (f:cf):cf:=λδ=>(f δ).map λd=>.bl (S6 T d)
theorem Qr {T:String}{x:Str}(VU:FP T) (bt:bootBuiltins x=some (.type T)) (ha:PO X a f) (hg:Gl X "isinstance") (hm:X.mg "isinstance"=none) (VV:Gl X x) (VW:X.mg x=none) (hn:x≠"__name__":=by decide) (hd:(x==("__debug__":Str))=false:=by decide)
  (he:starEach [a,.Name x p2] X.env=(false,eval a X.env)::starEach [.Name x p2] X.env:=by exact eG rfl) (VX:starEach [.Name x p2] X.env=(false,eval (.Name x p2) X.env)::starEach [] X.env:=by exact eG rfl) (jX:(backTo pos (starEach [.Name x p2] X.env)).any (·.1)=false:=by exact eX rfl):
  PD X (.Call (.Name "isinstance" p) [a,.Name x p2] [] pos) (JS T f):=
 (wJ (JQ T) hg hm yO (lr ha (lr (LZ (v:=.ty T) VV VW bt rfl hn hd) sL VX) he) (by decide) (by decide) he jX).imp λσ H Q ⟨C,δ,d,x,q,k⟩=>by
  unfold JS at q;cases hf:f δ with
  |none=>rw[hf]at q;cases q
  |some dx=>
   rw[hf]at q;cases q;exact⟨C,δ,dx,x,hf,λv C' H' ev i=>⟨v,_,_,rfl,Qq ev.s i,VU X.K dx,k _ C' H' ev (.bl _)⟩⟩
theorem B3 (hc:X.calm=true):jl X (.builtin "all") (λxs H Q=>∃(p:cF) (bs:List Bool),xs=[.ref p]/\qk X.K H p (bs.map V.bl)/\Q (.bl (bs.all id)) H):=by
 intro pins s σ H xs us Q I r h;obtain⟨p,bs,rfl,hq,q⟩:=h;obtain⟨u,rfl,r1⟩:=vals1 r;cases r1;obtain⟨dF,rv,pl,hz⟩:=I.list hq;have fQ:p<s.heap.objs.size:=by obtain⟨o,n,e,_⟩:=pl;exact aB e
 have hlen:=rv.length;rw[ae]at hlen;have S7:∀(i:Nat) (v:cy),dF.toArray[i]? =some v->v=.bool (bs.getD i false):=λi v hv=>by
  have L7:dF[i]? =some v:=by simpa using hv
  have hi:i<dF.length:=(List.getElem?_eq_some_iff.mp L7).1;have g1:(bs.map V.bl)[i]? =some (.bl (bs.getD i false)):=by
   rw[av,ah (by omega),ak,ah (by omega)];rfl
  obtain⟨w,h1,h2⟩:=rv.get g1;rw[L7]at h1;cases h1;exact h2
 refine call_all_walk (wpAny_pyIter_list pl.isList ⟨s.heap.objs.size,_,_,_,_,_,λi=>bs.getD i false,rfl,Walks.list (A:=X.A.in1) (I.ok.hd hc) s.heap.objs.size p (aE fQ) dF.toArray,⟨⟨_,az _ rfl,rfl,rfl⟩,?_⟩,λi v s' Q' E' hv hQ=>?_,λh' tk kk=>?_⟩)
 ·obtain⟨o,n,e,h1,h2,h3⟩:=pl;exact⟨o,ag _ e,h1,n,h3⟩
 ·rw[S7 i v hv];exact bS hQ
 ·have I1:L2.Inv X pins σ H {s with heap:=s.heap.push {cls:=.type "list_iterator",data:=.fields #[.ref p,.int 0 0]}}:=I.kept (t':=s.toks) λb o e=>ag _ e
  obtain⟨f0,f1,f2,f3,f4,f5⟩:=I.IQ (H':=H) (au _) (I.fX.fresh (au _));have I2:=I1.turned (t':=tk) (h':=h') (it:=s.heap.objs.size) (λb o hb e=>kk b o (by simpa using hb) e) f0 f1 f3 f4 f5
  refine⟨.bl (bs.all id),H,I2,?_,q⟩;show Value.bool _=Value.bool _
  congr 1
  rw[aq,<-hlen];clear S7 hlen;rw[Bool.eq_iff_iff];simp only[List.all_eq_true,List.mem_range,id];constructor
  ·intro h b hb;obtain⟨i,hi,e⟩:=List.getElem_of_mem hb;have:=h i hi;rw[ak,ah hi]at this;rw[<-e];exact this
  ·intro h i hi;rw[ak,ah hi];exact h _ (List.getElem_mem hi)
def oN:cw->Option (List Bool)
 |[]=>some []
 |.bl i::r=>(oN r).map λns=>i::ns
 |_=>none
omit [Mem] in
theorem wW:∀{ds:cw}{ns:List Bool},oN ds=some ns->ds=ns.map D.bl
 |[],_,h=>by cases h;rfl
 |.bl i::r,ns,h=>by
  unfold oN at h;cases hr:oN r with
  |none=>rw[hr]at h;cases h
  |some ms=>rw[hr]at h;cases h;rw[wW hr];rfl
omit [Mem] in
theorem Hr (ns:List Bool):oN (ns.map D.bl)=some ns:=by
 induction ns with
 |nil=>rfl
 |cons n r ih=>show(oN (r.map D.bl)).map _=_;rw[ih];rfl
def Ek:cj
 |[.lst ds]=>(oN ds).map λbs=>.bl (bs.all id)
 |_=>none
theorem JT (hc:X.calm=true):qt X (.builtin "all") Ek:=by
 refine⟨_,B3 hc,?_⟩;intro C H vs ds d Q s i q k;unfold Ek at q;split at q
 ·rename_i es;cases hb:oN es with
  |none=>rw[hb]at q;cases q
  |some bs=>
   rw[hb]at q;cases q;obtain⟨v,rfl,j⟩:=i.one;obtain⟨p,xs,rfl,hq,l⟩:=j.list (K:=X.K) s;rw[wW hb]at l;cases l.Eb;exact⟨p,bs,rfl,hq,k _ C H (.refl s) (.bl _)⟩
 ·cases q
theorem Hs {ta:TA}(hg:Gl X "range") (hm:X.mg "range"=none) (ha:PA X [a] ta) (hs:starEach [a] X.env=[(false,eval a X.env)]:=by exact eG rfl):
  PE X (.Call (.Name "range" p) [a] [] pos) (λσ H Q=>ta σ H λvs H1=>∃j:Int,vs=[.int j]/\∀t,H1 t=none->Q (.ref t) (upd H1 t (.NP 0 j))):=by
 intro pins s σ H Q I h;refine Call_ (qj I hg hm boot_range (PyProof.Rows.callWith_type1 (iu (ha pos pins s σ H _ I h) λus s1 ⟨vs,H1,I1,r1,q1⟩=>?_) hs rfl))
 obtain⟨j,e,q⟩:=q1;subst e;obtain⟨u,rfl,t,rfl⟩:=vals1 r1;refine call_range_1 ⟨.ref s1.heap.objs.size,_,I1.laid (o:=.NP 0 j) (λb o e=>ag _ e) (au _) ?_,rfl,q _ (I1.fX.fresh (au _))⟩
 exact⟨_,_,_,az _ rfl⟩
theorem yP {n:Nat}:∀(dF:cx) (lo:Int),dF.length=n->(∀(j:Nat) (v:cy),dF[j]? =some v->∃t,v=Value.int (lo+(j:Int)) t)->Vals ((du lo n).map V.int) dF:=by
 induction n with
 |zero=>intro dF lo hl _;cases dF with|nil=>exact .nil|cons _ _=>simp at hl
 |succ n ih=>
  intro dF lo hl h;cases dF with
  |nil=>simp at hl
  |cons v r=>
   refine .cons ?_ (ih r (lo+1) (by simpa using hl) λj w hw=>?_)
   ·obtain⟨t,e⟩:=h 0 v rfl;exact⟨t,by rw[e];simp⟩
   ·obtain⟨t,e⟩:=h (j+1) w (by simpa using hw)
    exact⟨t,by rw[e];congr 1;omega⟩
theorem yQ (hc:X.calm=true):jl X (.type "list") (λxs H Q=>∃(p:cF) (hi:Int),xs=[.ref p]/\H p=some (.NP 0 hi)/\hi<1000000/\-1000000<hi/\∀l,H l=none->Q (.ref l) (upd H l (.lst ((du 0 hi.toNat).map V.int)))):=by
 intro pins s σ H xs us Q I r h;obtain⟨p,hi,rfl,hp,h1,h2,q⟩:=h;obtain⟨u,rfl,rx⟩:=vals1 r;cases rx;obtain⟨t,u,v,e⟩:=I.fX p _ hp;refine call_list_range (n:=hi.toNat) (I.ok.hd hc) e (small_one (by omega) (by omega) (by omega) (by omega)) ?_ (by omega) λh' tk ml c' kp e' it=>?_
 ·rw[rangeSize_one];split<;>omega
 ·refine⟨.ref s.heap.objs.size,_,I.laid (t':=tk) kp (au _) (show gF X.prog X.w _ h' _ (.lst ((du 0 hi.toNat).map V.int))from⟨?_,ml.toList,c',?_,by simpa using e'⟩),rfl,q _ (I.fX.fresh (au _))⟩
  ·rw[ae,dP];exact bh (wg (by omega))
  ·refine yP ml.toList 0 (by simpa using it.1) λj v hv=>?_
   obtain⟨t,e⟩:=it.2 j v (by simpa using hv)
   exact⟨t,by rw[e];congr 1;omega⟩
theorem AM {f:cb}{p' pos':Pos}(hc:X.calm=true) (hg:Gl X "list") (hm:X.mg "list"=none) (VY:Gl X "range") (JU:X.mg "range"=none) (ha:Hh X [a] f) (hs:starEach [a] X.env=[(false,eval a X.env)]:=by exact eG rfl)
  (he:starEach [.Call (.Name "range" p') [a] [] pos'] X.env=(false,eval (.Call (.Name "range" p') [a] [] pos') X.env)::starEach [] X.env:=by exact eG rfl) (jX:(backTo pos (starEach [] X.env)).any (·.1)=false:=by exact eX rfl):
  PF X (.Call (.Name "list" p) [.Call (.Name "range" p') [a] [] pos'] [] pos) (uS f):=
 (zC (yQ hc) hg hm MP (lr (Hs VY JU ha hs) sL he) (by decide) (by decide) he jX).imp λσ H Q ⟨C,δ,ds,x,q,k⟩=>by
  unfold uS at q;split at q
  ·rename_i j hf;split at q
   ·rename_i hj;cases q;refine⟨C,δ,_,x,hf,λvs C' H' ev i=>?_⟩
    cases i with
    |cons i1 i2=>
     cases i2;cases i1;refine⟨j,rfl,λt ht=>⟨t,j,rfl,dc,hj.1,hj.2,λl hl=>?_⟩⟩
     have e1:=Ev.gK (o:=HO.NP 0 j) ev.s ht;exact k l _ C' _ ((ev.trans e1).trans (.gK e1.s hl)) (ev.free (e1.free hl)) (ev.s.free (e1.free hl)) dc (.ints _)
   ·cases q
  ·cases q
end
end DL
namespace So
open PySem PySem.W PyProof.Rows
def n9 {α:Type}(n:Nat) (P:α->Prop):KasT α->Prop
 |.ret a=>P a
 |.ask i j k=>i<n/\j<n/\∀b,n9 n P (k b)
theorem n9.bind {α β:Type}{n:Nat}{P:α->Prop}{R:β->Prop}{f:α->KasT β}(hf:∀a,P a->n9 n R (f a)):∀{t:KasT α},n9 n P t->n9 n R (t.bind f)
 |.ret a,h=>hf a h
 |.ask i j k,h=>⟨h.1,h.2.1,λb=>n9.bind hf (h.2.2 b)⟩
def Al (p:Array Nat) (n:Nat):Prop:=0<n/\∀x∈p,x<n
theorem Al.at {p:Array Nat}{n:Nat}(h:Al p n) (i:Nat):p.getD i 0<n:=by
 rw[aU];cases e:p[i]? with
 |none=>exact h.1
 |some x=>exact h.2 x (Array.mem_of_getElem? e)
theorem Al.perm {p q:Array Nat}{n:Nat}(h:Al p n) (e:q.Perm p):Al q n:=⟨h.1,λx hx=>h.2 x (e.mem_iff.mp hx)⟩
theorem AN {p:Array Nat}{n:Nat}(h:Al p n):∀(f m:Nat),n9 n (λ_=>True) (kas_asc p f m)
 |0,_=>trivial
 |f+1,m=>⟨h.at _,h.at _,λb=>by
  cases b with
  |true=>exact trivial
  |false=>exact AN h f (m+1)⟩
theorem tU {n:Nat}:∀(f:Nat) (p:Array Nat) (m q:Nat),Al p n->n9 n (λr=>Al r.1 n) (kas_desc f p m q)
 |0,_,_,_,h=>h
 |f+1,p,m,q,h=>⟨h.at _,h.at _,λb=>by
  cases b with
  |true=>
   show n9 n _ (if q>0 then _ else _)
   split
   ·exact tU f _ _ _ (h.perm (jt _ _ _))
   ·exact tU f _ _ _ h
  |false=>exact⟨h.at _,h.at _,λb=>by
    cases b with
    |true=>exact h
    |false=>exact tU f _ _ _ h⟩⟩
theorem zK {n m k:Nat}{p:Array Nat}(h:Al p n):n9 n (λr=>Al r.2 n) (kas_tail3 m k p):=
 n9.bind (n:=n) (R:=λr:Nat×Array Nat=>Al r.2 n) (P:=λ_=>True) (f:=λm'=>KasT.ret (m',kas_rev p 0 m)) (λ_ _=>(h.perm (jt _ _ _):Al (kas_rev p 0 m) n)) (AN (h.perm (jt _ _ _)) _ _)
theorem tV {n m k:Nat}{p:Array Nat}(h:Al p n):n9 n (λr=>Al r.2 n) (kas_descPart m k p):=
 n9.bind (λr hr=>by
  split
  ·exact zK (hr.perm (jt _ _ _))
  ·exact zK hr) (tU _ _ _ _ h)
theorem Ht {n k:Nat}{p:Array Nat}(h:Al p n):n9 n (λr=>Al r.2 n) (kas_count k p):=
 n9.bind (λm _=>by
  split
  ·exact h
  ·split
   ·exact⟨h.at _,h.at _,λb=>by
     cases b with
     |true=>exact h
     |false=>exact tV (h.perm (jt _ _ _))⟩
   ·exact tV h) (AN h _ _)
theorem uV {n k:Nat}{p:Array Nat}(h:Al p n):∀(f l r:Nat),n9 n (λ_=>True) (kas_place p k f l r)
 |0,_,_=>trivial
 |f+1,l,r=>by
  unfold kas_place;split
  ·exact trivial
  ·exact⟨h.at _,h.at _,λb=>by
    cases b with
    |true=>exact uV h f _ _
    |false=>exact uV h f _ _⟩
theorem FQ {n:Nat}:∀(f:Nat) (p:Array Nat) (k:Nat),Al p n->n9 n (λr=>Al r n) (kas_bin f p k)
 |0,_,_,h=>h
 |f+1,p,k,h=>n9.bind (λl _=>FQ f _ _ (h.perm (bubble_perm _ _ _))) (uV h _ _ _)
theorem wX {n:Nat}(hn:0<n):n9 n (λr=>Al r n) (kas_sort n):=
 n9.bind (λr hr=>by
  split
  ·exact FQ _ _ _ hr
  ·exact hr) (Ht ⟨hn,λx hx=>by simpa using hx⟩)
theorem rn {α:Type}{n:Nat}{P:α->Prop}{cmp:Nat->Nat->(Bool->cz->Prop)->cz->Prop}{lt:Nat->Nat->Bool}{s:cz}(hc:∀i j (Q:Bool->cz->Prop),i<n->j<n->Q (lt i j) s->cmp i j Q s) {Q:α->cz->Prop}:
  ∀(t:KasT α),n9 n P t->Q (i6 lt t) s->t.kasWp cmp Q s
 |.ret _,_,h=>h
 |.ask i j k,a,h=>hc i j _ a.1 a.2.1 (rn hc (k (lt i j)) (a.2.2 _) h)
end So
namespace HT
theorem ph:∀a:cq,lexLt a a=false
 |[]=>rfl
 |x::a=>by rw[jD,if_pos rfl];exact ph a
theorem lF:∀{a b c:cq},lexLt a b=true->lexLt b c=true->lexLt a c=true
 |[],[],_,h,_=>by cases h
 |[],_::_,[],_,h=>by cases h
 |[],_::_,_::_,_,_=>rfl
 |_::_,[],_,h,_=>by cases h
 |_::_,_::_,[],_,h=>by cases h
 |x::a,y::b,z::c,h1,h2=>by
  rw[jD]at h1 h2 ⊢;split at h1
  ·rename_i e;subst e;split at h2
   ·rename_i e2;subst e2;rw[if_pos rfl];exact lF h1 h2
   ·rename_i e2;rw[if_neg e2];exact h2
  ·rename_i e;have q1:x<y:=bM h1;split at h2
   ·rename_i e2;subst e2;rw[if_neg e];exact h1
   ·have q2:y<z:=bM h2;rw[if_neg (by omega)];exact aS (by omega)
theorem gX:∀{a b:cq},lexLt a b=false->lexLt b a=false->a=b
 |[],[],_,_=>rfl
 |[],_::_,h,_=>by cases h
 |_::_,[],_,h=>by cases h
 |x::a,y::b,h1,h2=>by
  rw[jD]at h1 h2;by_cases e:x=y
  ·subst e;rw[if_pos rfl]at h1 h2;rw[gX h1 h2]
  ·rw[if_neg e]at h1;rw[if_neg (Ne.symm e)]at h2;have q1:=of_decide_eq_false h1;have q2:=of_decide_eq_false h2;omega
end HT
namespace L2
open PySem PySem.Spec PyProof.Rows
theorem sd.has {P:cB}{w:cC}{H:Hp}{h:Heap}(x:sd P w H h) {a:cF}{o:HO}(e:H a=some o):∃ob,h.get? a=some ob:=by
 have q:=x a o e;cases o with
 |lst xs=>obtain⟨_,_,_,_,e⟩:=q;exact⟨_,e⟩
 |tup xs=>obtain⟨_,_,_,ob,e,_⟩:=q;exact⟨ob,e⟩
 |dK kvs=>obtain⟨_,_,_,_,o,_,_,e,_⟩:=q;exact⟨_,e⟩
 |dT kvs=>obtain⟨_,_,_,_,o,_,_,e,_⟩:=q;exact⟨_,e⟩
 |set S n=>obtain⟨o,_,_,_,e,_⟩:=q;exact⟨_,e⟩
 |ins C dx fs=>obtain⟨_,_,_,e,_⟩:=q;exact⟨_,e⟩
 |own y=>obtain⟨_,e⟩:=q;exact⟨_,e⟩
 |xd fs=>obtain⟨_,⟨_,_,_,e,_⟩,_⟩:=q;exact⟨_,e⟩
 |NP lo hi=>obtain⟨_,_,_,e⟩:=q;exact⟨_,e⟩
 |yD ob u=>obtain⟨e,_⟩:=q;exact⟨_,e⟩
 |DJ ps=>obtain⟨_,e,_⟩:=(show zu H h a ps from q);exact⟨_,e⟩
 |met f y=>exact⟨_,(show h.get? a=some _ from q)⟩
 |ext φ=>obtain⟨_,⟨_,e⟩,_⟩:=q;exact⟨_,e⟩
theorem wY:∀vs:cx,(vs.zip vs).map (·.2)=vs
 |[]=>rfl
 |v::r=>congrArg (v:: ·) (wY r)
theorem zL {α:Type}{p q:α->Bool}:∀{l:List α},(∀x∈l,p x=true->q x=true)->(∃x∈l,q x=true/\p x=false)->l.countP p<l.countP q
 |[],_,h=>by obtain⟨x,hx,_⟩:=h;cases hx
 |y::l,hs,h=>by
  have Hc:∀x∈l,p x=true->q x=true:=λx hx=>hs x (ai _ hx)
  have le:l.countP p<=l.countP q:=List.countP_mono_left Hc;rw[List.countP_cons,List.countP_cons];obtain⟨x,hx,h1,h2⟩:=h;rcases List.mem_cons.mp hx with rfl|hx
  ·rw[h1,h2];simp only[if_true,aJ,bF];omega
  ·have ih:=zL Hc ⟨x,hx,h1,h2⟩;cases hp:p y with
   |false=>simp only[aJ,bF];omega
   |true=>rw[hs y af hp];simp only[if_true];omega
def rq (nss:cp) (a:cq):Int:=((([]:cq)::nss).countP λx=>HT.lexLt x a:Nat)
theorem lQ (nss:cp) (i:Nat):nss.getD i []∈([]:cq)::nss:=by
 rw[ak];cases e:nss[i]? with
 |none=>exact af
 |some x=>exact ai _ (bo e)
theorem kN {nss:cp}{a b:cq}(ha:a∈([]:cq)::nss) (hb:b∈([]:cq)::nss):HT.lexLt a b=decide (rq nss a<rq nss b):=by
 unfold rq;cases h:HT.lexLt a b with
 |true=>
  have:=zL (l:=([]:cq)::nss) (p:=λx=>HT.lexLt x a) (q:=λx=>HT.lexLt x b) (λx _ hx=>HT.lF hx h) ⟨a,ha,h,HT.ph a⟩
  exact(aS (by omega)).symm
 |false=>
  refine(aH ?_).symm;have:(([]:cq)::nss).countP (λx=>HT.lexLt x b)<=(([]:cq)::nss).countP (λx=>HT.lexLt x a):=List.countP_mono_left λx _ hx=>by
   cases h2:HT.lexLt b a with
   |true=>exact HT.lF hx h2
   |false=>rw[HT.gX h h2];exact hx
  omega
def AO (K:W.Frag) (H:Hp):List V->cp->Prop:=Paired λv ns=>∃a,v=.ref a/\jr K H a (ns.map V.int)
theorem qw {prog:cB}{w:cC}{A:cD}{s:cz}{Q:Bool->cz->Prop}{bb:Bool}:∀(us zs:cx) (ns ms:cq) (i:Nat) (fin:Bool),IntsAre us ns->IntsAre zs ms->
  (bb=true\/True)->fin=(if ns.length<ms.length then true else false)->Q (HT.lexLt ns ms) s->W.KatLex prog w A bb fin Q (us.zip zs) i s
 |[],zs,ns,ms,i,fin,h1,h2,_,e,q=>by
  cases h1;show Q fin s;rw[e];cases h2 with
  |nil=>exact q
  |cons n t h=>rw[HT.qq]at q;simpa using q
 |_::_,[],ns,ms,i,fin,h1,h2,_,e,q=>by
  cases h2;cases h1 with
  |cons n t h=>
   show Q fin s;rw[e];rw[HT.qr]at q
   simpa using q
 |u::us,z::zs,ns,ms,i,fin,h1,h2,hb,e,q=>by
  cases h1 with
  |cons n t h1=>
   cases h2 with
   |cons m t' h2=>
    refine W.kat_cons (wpAny_eqBool_int ?_);rw[HT.jD]at q;by_cases VZ:n=m
    ·subst VZ;rw[bP];rw[if_pos rfl]at q;refine W.kat_yes (qw us zs _ _ (i+1) fin h1 h2 hb ?_ q);rw[e];simp only[ax,Nat.add_lt_add_iff_right]
    ·have jZ:(n==m)=false:=by simpa using VZ
     rw[jZ];rw[if_neg VZ]at q;refine W.kat_no ?_;cases XD:(bb&&i==0)with
     |true=>exact oneLt_int q
     |false=>exact W.kat_one _ _ (lt_int q)
theorem Em {h:Heap}{a:cF}{m m':cm}(x:h.Ns a m) (y:h.Ns a m'):m=m':=by
 obtain⟨o,es,ep,e,d,_,f⟩:=x;obtain⟨o',Fq,OT,e',d',_,f'⟩:=y;rw[e]at e';cases e';rw[d]at d';injection d' with d1 _
 subst d1
 funext n
 rw[<-f,<-f']
section
variable {X:Cx}
theorem uW:jl X (.builtin "sorted") (λxs H Q=>∃(p:cF) (ns:cq),xs=[.ref p]/\qk X.K H p (ns.map V.int)/\ns.length<64/\∀(l:cF) (ms:cq),H l=none->ms.Perm ns->ms.Pairwise (·<= ·)->Q (.ref l) (upd H l (.lst (ms.map V.int)))):=by
 intro pins s σ H xs us Q I r h;obtain⟨p,ns,rfl,hq,En,q⟩:=h;obtain⟨u,rfl,rx⟩:=vals1 r;cases rx;obtain⟨dF,rv,pl,hz⟩:=I.list hq;have hi:IntsAre dF ns:=intsAre_of rv;have hl:=hi.length;refine sorted_ints pl.isList hi (by omega) λout BE a1 a2 a3=>?_
 obtain⟨e,he⟩:=sortedAll_at s.heap dF out;refine⟨.ref (s.heap.objs.size+1),_,I.laid (t':=s.toks) (o:=.lst (BE.map V.int)) (λb o z=>sortedAll_old z) (Nat.le_succ _) ?_,rfl,q _ BE (I.fX.fresh (Nat.le_succ _)) a2 a3⟩
 refine⟨?_,out.toList,e,rk a1,by simpa using he⟩
 have:=a2.length_eq;rw[ae];exact bh (kM (by omega))
theorem AQ {prog:cB}{w:cC}{A:cD}{E:ck}{s:cz}{l:cF}{vs:cx}{Q:ck}(hl:s.heap.IsList l vs.toArray) (h2:vs.length<2)
  (h:Q (.ref (s.heap.objs.size+1)) {s with heap:=sortedAll s.heap vs vs.toArray}):wpAny (model prog w) A (call (.builtin "sorted") [.ref l]) Q E s:=by
 refine Calls.call_function_entry kind_sorted plain_sorted entry_sorted (args_sorted1 _) ?_;unfold Builtin.«sorted»;refine aa (m:=checkCount "sorted" 1 1 _) (aj (aa (collect_list hl (aa (wpAny_newList ?_ (hsz:=by rw[bx];omega))) (by rw[bx];omega))))
 have z1:((s.heap.push (seqObj "list" #[] 0)).update s.heap.objs.size (Obj.mapSeq (·++vs.toArray))).objs.size=s.heap.objs.size+1:=by rw[Heap.size_update,size_push']
 generalize hG:(s.heap.push (seqObj "list" #[] 0)).update s.heap.objs.size (Obj.mapSeq (·++vs.toArray))=G at z1
 have h':Q (.ref (s.heap.objs.size+1)) {s with heap:=sortedHeap (G.push (seqObj "list" vs.toArray 0)) (s.heap.objs.size+1) vs vs.toArray}:=by rw[<-hG];exact h
 have o1:(G.push (seqObj "list" vs.toArray 0)).get? (s.heap.objs.size+1)=some (seqObj "list" vs.toArray 0):=by rw[<-z1];exact az _ rfl
 show wpAny _ _ (do let _ <-holding [Value.ref G.objs.size] (call (.builtin "list.sort") [Value.ref G.objs.size]);ret (Value.ref G.objs.size)) _ _ {s with heap:=G.push (seqObj "list" vs.toArray 0)}
 rw[z1];generalize hT:G.push (seqObj "list" vs.toArray 0)=T at o1 h';generalize s.heap.objs.size+1=a at o1 h';have ha:a<T.objs.size:=aB o1;refine aa (bp (bO slot_list_sort ⟨_,o1,rfl⟩ entry_list_sort ?_ (args_list_sort _)));rw[list_sort_plain];refine aa (listItems_at o1 rfl (aa (listUpdate_at o1 rfl ?_ (hsz:=by rw[aq,bx];omega))))
 obtain⟨e1,vp⟩:∃e1,(T.update a (Obj.mapSeq λ_=>#[])).get? a=some (seqObj "list" #[] e1):=⟨_,get?_update_seq o1 (λ_=>#[])⟩
 refine aa (seqEpoch_at vp rfl (aa (wpAny_newTuple (aa (wpAny_newList (bp ?_))) (by show vs.length<=_;rw[bx];omega))))
 have Qs:(((T.update a (Obj.mapSeq λ_=>#[])).push (seqObj "tuple" vs.toArray 0)).push (seqObj "list" #[] 0)).get? a=some (seqObj "list" #[] e1):=by
  rw[Heap.get?_push_ne _ _ _ (by rw[size_push',Heap.size_update];exact aE (Nat.lt_succ_of_lt ha)),Heap.get?_push_ne _ _ _ (by rw[Heap.size_update];exact aE ha)]
  exact vp
 show wpAny (model prog w) _ _ _ _ {s with heap:=((T.update a (Obj.mapSeq λ_=>#[])).push (seqObj "tuple" vs.toArray 0)).push (seqObj "list" #[] 0)}
 dsimp only;have hsz:vs.toArray.size<2:=by rw[aq];exact h2
 rw[if_pos hsz,if_pos hsz];refine aa (aj ?_);rw[StateT.run_pure];refine aa (aj ?_);dsimp only;have Eo:(vs.toArray.zip vs.toArray).map (·.2)=vs.toArray:=by
  apply Array.toList_inj.mp
  rw[Array.toList_map,Array.toList_zip];exact wY vs
 rw[show(arrOf (SortSt.mk' general' (vs.toArray.zip vs.toArray) #[] 7 none))=vs.toArray.zip vs.toArray from rfl]at *
 refine aa (seqEpoch_at Qs rfl (aa (listUpdate_at Qs rfl ?_ (hsz2:=by rw[Eo,aq,bx];omega))))
 rw[Eo];simp only[bne_self_eq_false,aJ,bF];exact aj ⟨_,rfl,aj ⟨_,rfl,h'⟩⟩
theorem vP:jl X (.builtin "sorted") (λxs H Q=>∃(p:cF) (vs:List V),xs=[.ref p]/\qk X.K H p vs/\vs.length<2/\∀l,H l=none->Q (.ref l) (upd H l (.lst vs))):=by
 intro pins s σ H xs us Q I r h;obtain⟨p,vs,rfl,hq,h2,q⟩:=h;obtain⟨u,rfl,rx⟩:=vals1 r;cases rx;obtain⟨dF,rv,pl,hz⟩:=I.list hq;have hl:=rv.length;refine AQ pl.isList (by omega) ?_
 obtain⟨e,he⟩:=sortedAll_at s.heap dF dF.toArray;exact⟨.ref (s.heap.objs.size+1),_,I.laid (t':=s.toks) (o:=.lst vs) (λb o z=>sortedAll_old z) (Nat.le_succ _) ⟨hz,dF,e,rv,he⟩,rfl,q _ (I.fX.fresh (Nat.le_succ _))⟩
theorem uX (hu:X.A.units+64<cLine):jl X (.builtin "sorted") (λxs H Q=>∃(p:cF) (vs:List V) (nss:cp),xs=[.ref p]/\qk X.K H p vs/\AO X.K H vs nss/\2<=vs.length/\vs.length<64/\(∀ns∈nss,ns≠[])/\
  ∀(l:cF) (ix:List Nat),H l=none->ix.Perm (List.range vs.length)->(ix.map λi=>nss.getD i []).Pairwise (λa b=>HT.lexLt b a=false)->Q (.ref l) (upd H l (.lst (ix.map λi=>vs.getD i .eD)))):=by
 intro pins s σ H xs us Q I r h;obtain⟨p,vs,nss,rfl,hq,ht,h2,En,jZ,q⟩:=h;obtain⟨u,rfl,rx⟩:=vals1 r;cases rx;obtain⟨dF,rv,pl,hz⟩:=I.list hq;have hlen:=rv.length;have XU:=Paired.length ht;obtain⟨m,F⟩:=I.fr;have N:News X.base X.env.locals s.heap (j0 X.base s.heap X.env.locals):=wC;have wZ:∀i,i<vs.length->∃(a:cF) (o:Obj) (ts:cx) (n:Nat),dF.getD i Value.none=.ref a/\vs.getD i .eD=.ref a/\a≠X.env.locals/\s.heap.get? a=some o/\o.cls=.type "tuple"/\o.data=.seq ts.toArray n/\IntsAre ts (nss.getD i []):=λi hi=>by
  have g1:vs[i]? =some vs[i]:=ah hi;obtain⟨w,h1,h3⟩:=rv.get g1;have g2:∀{vs:List V}{nss:cp}{i:Nat}{v:V},AO X.K H vs nss->vs[i]? =some v->∃ns a,nss[i]? =some ns/\v=.ref a/\jr X.K H a (ns.map V.int):=by
   intro vs nss i v t e;induction t generalizing i with
   |nil=>simp at e
   |cons x t ih=>
    cases i with
    |zero=>
     simp at e;subst e;obtain⟨a,e1,e2⟩:=x;exact⟨_,a,rfl,e1,e2⟩
    |succ i=>exact ih (by simpa using e)
  obtain⟨ns,a,e1,e2,e3⟩:=g2 ht g1;rw[e2]at h3;cases h3;obtain⟨ts,r2,⟨o,ho,hc,n,hd⟩,_⟩:=I.tuple e3;refine⟨a,o,ts,n,?_,?_,?_,ho,hc,hd,?_⟩
  ·rw[ak,h1];rfl
  ·rw[ak,g1,e2];rfl
  ·intro z;obtain⟨oL,es,ep,hL,S8,_⟩:=F.ns;rw[z,hL]at ho;cases ho;rw[S8]at hd;cases hd
  ·rw[ak,e1];exact intsAre_of r2
 refine W.kat_sorted F N pl.isList (by omega) (by omega) λD e1 h' F' N' fQ=>?_
 have D7:s.heap.get? D=none:=by
  cases e:s.heap.get? D with
  |none=>rfl
  |some o=>
   have n1:=(N' (D,_) (.head _)).2.1;have n2:=(N' (D,_) (.head _)).2.2;exact absurd (fQ (D,o) (nL n1 n2 e)) (Nat.lt_irrefl _)
 have vq:∀{h':Heap}{o1:Obj},Fr X.base X.env.locals h' m->News X.base X.env.locals h' ((D,o1)::j0 X.base s.heap X.env.locals)->∀b o,b≠X.env.locals->s.heap.get? b=some o->h'.get? b=some o:=λ{h' o1} F' N' b o hb e=>by
  cases g:X.base.get? b with
  |some u=>
   have:=I.bk b u g;rw[e]at this;cases this;exact F'.keep b _ g
  |none=>exact(N' (b,o) (.tail _ (nL hb g e))).1
 have sj:=vq F' N';have S9:∃fs:cx,fs.length=dF.length/\W.KatTups h' dF fs/\∀v∈fs,∃i t,v=Value.int i t:=by
  have aux:∀(l:cx),(∀v∈l,∃(a:cF) (o:Obj) (ts:cx) (n:Nat) (ns:cq),v=.ref a/\h'.get? a=some o/\o.cls=.type "tuple"/\o.data=.seq ts.toArray n/\IntsAre ts ns/\ns≠[])->∃fs:cx,fs.length=l.length/\W.KatTups h' l fs/\∀v∈fs,∃i t,v=Value.int i t:=by
   intro l;induction l with
   |nil=>intro _;exact⟨[],rfl,.nil,λv hv=>nomatch hv⟩
   |cons v l ih=>
    intro h;obtain⟨fs,l1,l2,l3⟩:=ih λw hw=>h w (ai _ hw)
    obtain⟨a,o,ts,n,ns,rfl,e2,e3,e4,e5,e6⟩:=h v af;cases e5 with
    |nil=>exact absurd rfl e6
    |cons i t e5=>
     refine⟨Value.int i t::fs,by simp[l1],.cons e2 e3 e4 (by simp) l2,λw hw=>?_⟩
     rcases List.mem_cons.mp hw with rfl|hw
     ·exact⟨i,t,rfl⟩
     ·exact l3 w hw
  refine aux dF λv hv=>?_
  obtain⟨i,hi,e⟩:=List.getElem_of_mem hv;obtain⟨a,o,ts,n,b1,b2,b3,b4,b5,b6,b7⟩:=wZ i (by omega)
  have ev:v=.ref a:=by
   rw[ak,ah hi]at b1;rw[<-e];exact b1
  refine⟨a,o,ts,n,_,ev,sj a o b3 b4,b5,b6,b7,jZ _ ?_⟩;rw[ak,ah (by omega)]
  exact List.getElem_mem _
 obtain⟨fs,f1,f2,f3⟩:=S9;refine W.kat_kind (T:=.type "int") f2 (by omega) (λv hv=>?_) (by decide) ?_
 ·obtain⟨i,t,rfl⟩:=f3 v hv;exact λA Q E s' k q=>aj q
 rw[<-hlen];have cmp:∀i j (R:Bool->cz->Prop),i<vs.length->j<vs.length->R (HT.lexLt (nss.getD i []) (nss.getD j [])) {s with heap:=h'}->W.kas_ask X.prog X.w X.A.in1.in1 (tuples' (Value.type "int"!=Value.type "tuple")) dF i j R {s with heap:=h'}:=λi j R hi hj hR=>by
  obtain⟨a,o,ts,n,b1,b2,b3,b4,b5,b6,b7⟩:=wZ i hi;obtain⟨a',o',Ta,n',c1,c2,c3,c4,c5,c6,c7⟩:=wZ j hj;show wpAny _ _ (keyLt' _ (dF.getD i Value.none) (dF.getD j Value.none)) _ _ _;rw[b1,c1];refine W.kat_lt (sj a o b3 b4) b6 (sj a' o' c3 c4) c6 ?_;have s1:ts.toArray.size=(nss.getD i []).length:=by rw[aq,b7.length]
  have s2:Ta.toArray.size=(nss.getD j []).length:=by rw[aq,c7.length]
  refine qw _ _ (nss.getD i []) (nss.getD j []) 0 _ (by simpa using b7) (by simpa using c7) (.inr trivial) ?_ hR
  rw[s1,s2];by_cases h:(nss.getD i []).length<(nss.getD j []).length
  ·rw[if_pos h];exact aS h
  ·rw[if_neg h];exact aH h
 refine So.rn (n:=vs.length) cmp _ (So.wX (by omega)) ?_
 obtain⟨s1,s2⟩:=So.wV (lt:=λi j=>HT.lexLt (nss.getD i []) (nss.getD j [])) (rank:=λi=>rq nss (nss.getD i [])) (λi j=>kN (lQ _ _) (lQ _ _)) vs.length (by omega)
 generalize So.i6 _ (W.kas_sort vs.length)=ar at s1 s2;have pm:ar.toList.Perm (List.range vs.length):=by simpa using Array.perm_iff_toList_perm.mp s1
 have sz:ar.size=vs.length:=by simpa using s1.size_eq
 have below:∀i∈ar.toList,i<vs.length:=λi hi=>by simpa using pm.mem_iff.mp hi
 refine⟨_,_,F',N',.head λp hp=>aE (fQ p hp),λh2 c F2 N2=>?_⟩
 have hD:H D=none:=by
  cases e:H D with
  |none=>rfl
  |some u=>obtain⟨o,z⟩:=I.fX.has e;rw[D7]at z;cases z
 have vl:Vals (ar.toList.map λi=>vs.getD i .eD) (ar.toList.map λi=>dF.getD i Value.none):=by
  have aux:∀(l:List Nat),(∀i∈l,i<vs.length)->Vals (l.map λi=>vs.getD i .eD) (l.map λi=>dF.getD i Value.none):=by
   intro l;induction l with
   |nil=>intro _;exact .nil
   |cons i l ih=>
    intro h;refine .cons ?_ (ih λk hk=>h k (ai _ hk))
    have hi:=h i af;show RelV (vs.getD i .eD) (dF.getD i Value.none);obtain⟨w,e1,e2⟩:=rv.get (ah hi);rw[ak,ak,e1,ah hi];exact e2
  exact aux _ below
 have jN:=vq F2 N2;have Tc:h2.get? D=some {cls:=.type "list",data:=.seq (ar.toList.map λi=>dF.getD i Value.none).toArray c}:=(N2 _ (.head _)).1
 refine⟨.ref D,upd H D (.lst (ar.toList.map λi=>vs.getD i .eD)),?_,rfl,q D ar.toList hD pm ?_⟩
 ·show Inv X pins σ _ {s with heap:=h2,gens:=s.gens,drawn:=s.drawn,toks:=s.toks}
  refine I.step (g':=s.gens) (d':=s.drawn) (t':=s.toks) (ch:=[]) (λ_ z=>nomatch z) (λb o h1 _ _ e _=>jN b o h1 e) (λb o h1 _ _ e _=>⟨o.slots,jN b o h1 e⟩) (λb o _ e hn=>?_) (λb o _ e=>?_) (λb xs e=>?_) (λb o xs e=>?_) (λb ps e=>⟨#[],?_⟩) (λm' hm=>?_) (λb u e=>?_) I.bare
  ·rw[cV (λz=>by rw[z,D7]at e;cases e)];exact hn
  ·by_cases hb:b=X.env.locals
   ·obtain⟨o',_,_,e',_⟩:=F2.ns;exact⟨o',by rw[hb];exact e'⟩
   ·exact⟨o,jN b o hb e⟩
  ·rw[cV (cY e hD)];exact e
  ·rw[cV (cY e hD)];exact e
  ·rw[cV (cY e hD),e];simp
  ·rw[Em hm F.ns];exact F2.ns
  ·by_cases hb:b=D
   ·subst hb;rw[dc]at e;cases e;exact⟨by rw[ae,aO,sz];exact bh (kM (by omega)),_,c,vl,Tc⟩
   ·rw[cV hb]at e;refine(I.fX b u e).An (λk v hk z=>jN k v ?_ z) (λk z=>by rw[cV (cY z hD)];exact z) λk xs z=>by rw[cV (cY z hD)];exact z
    rcases hk with rfl|hk
    ·intro z;rw[z,I.free]at e;cases e
    ·intro z;rw[z,I.free]at hk;cases hk
 ·rw[List.pairwise_map,List.pairwise_iff_getElem];intro i j hi hj wM;have zM:i<ar.size:=by simpa using hi
  have IB:j<ar.size:=by simpa using hj
  have le:=s2 i j (bh wM) (by omega)
  unfold So.kk at le;rw[aU,aU,aV zM,aV IB]at le;simp only[Option.getD_some]at le;have e:=kN (nss:=nss) (a:=nss.getD (ar[j]) []) (b:=nss.getD (ar[i]) []) (lQ _ _) (lQ _ _);simp only[Array.getElem_toList];rw[e];exact aH (by omega)
end
end L2
namespace DL
open PySem PySem.Spec PyProof.Rows L2
variable [Mem]
def JV (a b:Int):Bool:=decide (a<=b)
def sortI (ns:cq):cq:=ns.mergeSort JV
def Td (a b:cq):Bool:= !(HT.lexLt b a)
def gY (nss:cp):cp:=nss.mergeSort Td
omit [Mem] in
theorem sortI_perm (ns:cq):(sortI ns).Perm ns:=List.mergeSort_perm _ _
omit [Mem] in
theorem w4 (ns:cq):(sortI ns).Pairwise (·<= ·):=
 (List.pairwise_mergeSort (le:=JV) (λa b c h1 h2=>by simp only[JV,decide_eq_true_eq]at *; omega) (λa b=>by simp only[JV,Bool.or_eq_true,decide_eq_true_eq];omega) ns).imp λ{a b} h=>by simpa [JV]using h
omit [Mem] in
theorem fM (nss:cp):(gY nss).Perm nss:=List.mergeSort_perm _ _
omit [Mem] in
theorem tW (nss:cp):(gY nss).Pairwise (λa b=>HT.lexLt b a=false):=
 (List.pairwise_mergeSort (le:=Td) (λa b c h1 h2=>by
  simp only[Td,Bool.not_eq_true']at *;cases h:HT.lexLt c a with
  |false=>rfl
  |true=>
   cases hb:HT.lexLt b c with
   |true=>rw[HT.lF hb h]at h1;cases h1
   |false=>rw[HT.gX hb h2]at h1;rw[h1]at h;cases h) (λa b=>by
  simp only[Td,Bool.or_eq_true,Bool.not_eq_true'];cases h:HT.lexLt b a with
  |false=>exact .inl rfl
  |true=>
   right;cases h2:HT.lexLt a b with
   |false=>rfl
   |true=>have:=HT.lF h h2;rw[HT.ph]at this;cases this) nss).imp λ{a b} h=>by simpa [Td]using h
omit [Mem] in
theorem gC {α:Type}{R:α->α->Prop}(Te:∀a b,R a b->R b a->a=b):∀{l m:List α},l.Perm m->l.Pairwise R->m.Pairwise R->l=m
 |[],m,h,_,_=>by have:=h.length_eq;cases m with|nil=>rfl|cons _ _=>cases this
 |a::l,m,h,p,q=>by
  cases m with
  |nil=>exact absurd h.length_eq (by simp)
  |cons b m=>
   have FN:a=b:=by
    by_cases e:a=b
    ·exact e
    ·have h1:a∈m:=(List.mem_cons.mp (h.mem_iff.mp af)).resolve_left e;have h2:b∈l:=(List.mem_cons.mp (h.mem_iff.mpr af)).resolve_left (Ne.symm e);exact Te a b ((List.pairwise_cons.mp p).1 b h2) ((List.pairwise_cons.mp q).1 a h1)
   subst FN;rw[gC Te ((List.perm_cons a).mp h) (List.pairwise_cons.mp p).2 (List.pairwise_cons.mp q).2]
def tupI (ns:cq):D:=.tup (ns.map D.int)
abbrev _root_.cJ (i:Int):DL.Sl:=.dat (.int i)
abbrev _root_.cK (l:List Int):DL.Sl:=.dat (tupI l)
def mP:cw->Option (cp)
 |[]=>some []
 |.tup ds::r=>(intsOf ds).bind λns=>(mP r).map λnss=>ns::nss
 |_=>none
omit [Mem] in
theorem uY:∀{ds:cw}{nss:cp},mP ds=some nss->ds=nss.map tupI
 |[],_,h=>by cases h;rfl
 |.tup es::r,nss,h=>by
  unfold mP at h;cases h1:intsOf es with
  |none=>rw[h1]at h;cases h
  |some ns=>
   cases h2:mP r with
   |none=>rw[h1,h2]at h;cases h
   |some ms=>rw[h1,h2]at h;cases h;rw[uY h2,jM h1];rfl
omit [Mem] in
theorem w5 (nss:cp):mP (nss.map tupI)=some nss:=by
 induction nss with
 |nil=>rfl
 |cons n r ih=>show(intsOf (n.map D.int)).bind _=_;rw[jG];show(mP (r.map tupI)).map _=_;rw[ih];rfl
def j4:cw->Option (cw)
 |[.lst ds]=>if ds.length<64 then
   (match intsOf ds with
   |some ns=>some ((sortI ns).map D.int)
   |none=>(mP ds).bind λnss=>if nss.all (λns=> !ns.isEmpty)=true then some ((gY nss).map tupI)else none)
  else none
 |_=>none
theorem IsL.FR {K:W.Frag}{C H:Hp}(s:dZ C H):∀{nss:cp}{vs:List V},IsL C vs (nss.map tupI)->AO K H vs nss
 |[],_,.nil=>.nil
 |ns::r,_,.cons h t=>by
  cases h with
  |tup h l=>
   cases l.rl;exact .cons ⟨_,rfl,jr.of (s _ _ h)⟩ (IsL.FR s t)
theorem IsL.places {C:Hp}{vs:List V}{ds:cw}(l:IsL C vs ds):∀(ix:List Nat),(∀i∈ix,i<ds.length)->IsL C (ix.map λi=>vs.getD i .eD) (ix.map λi=>ds.getD i .eD)
 |[],_=>.nil
 |i::ix,h=>by
  refine .cons ?_ (IsL.places l ix λk hk=>h k (ai _ hk))
  have hi:=h i af;obtain⟨v,h1,h2⟩:=l.get (ah hi);show Is C (vs.getD i .eD) (ds.getD i .eD);rw[ak,ak,h1,ah hi];exact h2
omit [Mem] in
theorem mQ {α:Type}(l:List α) (d:α):(List.range l.length).map (λi=>l.getD i d)=l:=by
 apply List.ext_getElem
 ·simp
 ·intro i h1 h2;simp[ak,ah h2]
omit [Mem] in
theorem AR {α β:Type}(f:α->β) (l:List α) (a:α) (b:β) (ix:List Nat) (h:∀i∈ix,i<l.length):(ix.map λi=>(l.map f).getD i b)=(ix.map λi=>l.getD i a).map f:=by
 rw[aW];apply bU
 intro i hi;have:=h i hi;simp[ak,av,ah this]
section
variable {X:Cx}
theorem w6 (hu:X.A.units+64<cLine):FK X (.builtin "sorted") j4:=by
 refine⟨_,uW.or (vP.or (uX hu)),?_⟩;intro C H vs ds d Q s i q k;unfold j4 at q;split at q
 ·rename_i es;split at q
  case isFalse=>cases q
  rename_i En;obtain⟨v,rfl,j⟩:=i.one;obtain⟨p,xs,rfl,hq,l⟩:=j.list (K:=X.K) s;split at q
  ·rename_i ns hi;cases q;rw[jM hi]at l En;cases l.rl;refine .inl ⟨p,ns,rfl,hq,by simpa using En,λt ms ht pm pw=>?_⟩
   have e:ms=sortI ns:=gC (λa b h1 h2=>Int.le_antisymm h1 h2) (pm.trans (sortI_perm ns).symm) pw (w4 ns)
   subst e;exact k t _ C _ (.gK s ht) ht (s.free ht) dc (.ints _)
  ·cases hn:mP es with
   |none=>rw[hn]at q;cases q
   |some nss=>
    rw[hn]at q;simp only[ao]at q;split at q
    ·rename_i wL;cases q;have ee:=uY hn;subst ee;have lv:=l.length;rw[ae]at lv En;by_cases h2:xs.length<2
     ·refine .inr (.inl ⟨p,xs,rfl,hq,h2,λt ht=>?_⟩)
      have e:gY nss=nss:=by
       have:nss.length<2:=by omega
       match nss,this with
       |[],_=>exact List.Perm.eq_nil (fM [])
       |[a],_=>exact List.perm_singleton.mp (fM [a])
      rw[e]at k;exact k t xs C _ (.gK s ht) ht (s.free ht) dc l
     ·refine .inr (.inr ⟨p,xs,nss,rfl,hq,l.FR s,by omega,by omega,λns Mt=>?_,λt ix ht pm pw=>?_⟩)
      ·have:=List.all_eq_true.mp wL ns Mt;intro z;subst z;simp at this
      ·have lt:∀i∈ix,i<(nss.map tupI).length:=λi hi=>by
        have:=pm.mem_iff.mp hi;rw[List.mem_range]at this;rw[ae];omega
       have lt':∀i∈ix,i<nss.length:=λi hi=>by have:=lt i hi;rwa [ae]at this
       have e:(ix.map λi=>nss.getD i [])=gY nss:=by
        refine gC (λa b h1 h2=>HT.gX h2 h1) ?_ pw (tW nss)
        have e1:(ix.map λi=>nss.getD i []).Perm ((List.range nss.length).map λi=>nss.getD i []):=List.Perm.map _ (by rw[<-lv];exact pm)
        rw[mQ]at e1;exact e1.trans (fM nss).symm
       have ll:=l.places ix lt;rw[AR tupI nss [] .eD ix lt',e]at ll;exact k t _ C _ (.gK s ht) ht (s.free ht) dc ll
    ·cases q
 ·cases q
end
section
variable {X:Cx}{e:cG}{pos:Pos}{C0 H0:Hp}{f:cf}
def AS:List Nat->NU
 |[]=>RZ
 |i::is=>NW (zw i) (AS is)
def pj:List Nat->cw->dR->dR
 |i::is,d::ds,δ=>pj is ds (δ.set i (.dat d))
 |_,_,δ=>δ
theorem JW {B C H:Hp}{Q:L2.St->Hp->Prop}:∀(is:List Nat) {xs:List V}{ds:cw}{δ:dR}{σ:L2.St},IsL C xs ds->ds.length=is.length->Gd B C0 H0 δ σ C H->(∀σ',Gd B C0 H0 (pj is ds δ) σ' C H->Q σ' H)->AS is xs σ H Q
 |[],_,_,_,_,.nil,_,g,k=>⟨rfl,k _ g⟩
 |_::_,_,_,_,_,.nil,h,_,_=>by cases h
 |i::is,_,_,_,_,.cons h t,hl,g,k=>⟨_,_,rfl,JW is t (by simpa using hl) (g.sM h) k⟩
def B4 (is:List Nat) (f:cf):cc:=λδ=>match f δ with
 |some (.tup ds)=>if ds.length=is.length then some (.next (pj is ds δ))else none
 |_=>none
theorem Qt (is:List Nat) {es:List cG}{kt:Nat}{n6:Pos}(hc:X.calm=true) (he:PD X e f) (hg:NV X es (AS is)) (hn:(assignEach es X.env).length=is.length:=by rfl) (n5:(assignEach es X.env).findIdx? (·.1)=none:=by rfl)
  (hs:swapsWithSole [.Tuple es kt n6] e pos.line X.env=pure false:=by rfl) (hw:swappedStores [.Tuple es kt n6] e X.env=pure none:=by rfl) (h1:(assignEach [.Tuple es kt n6] X.env).map (·.2)=[assign (.Tuple es kt n6) X.env]:=by rfl):
  PB X C0 H0 (.Assign [.Tuple es kt n6] e pos) (B4 is f):=λB=>(DN he (IM hc hg hn n5) hs hw h1).imp λDn σ H ⟨C,δ,r,gd,q,k⟩=>by
 unfold B4 at q;split at q
 ·rename_i ds hf;split at q
  ·rename_i hl;cases q;refine⟨C,δ,_,gd.x,hf,λv C' H' ev i=>?_⟩
   cases i with
   |tup hr l=>exact⟨_,_,rfl,jr.of (ev.s _ _ hr),by rw[l.length];exact hl,JW is l hl (gd.AK ev) λσ' g'=>k σ' C' H' g'⟩
  ·cases q
 ·cases q
theorem Qu {i:Nat}{o:cG}{apos:Pos}(ho:PE X o (gI i)) (he:PD X e f) (mR:starEach [e] X.env=(false,eval e X.env)::starEach [] X.env:=by exact eG rfl) (oH:attributeBase o "append" X.env (eval o X.env)=eval o X.env:=by rfl)
  (uJ:((backTo pos (starEach [e] X.env)).all (λx=> !x.1)&&(backToKw pos (keywordEach [] X.env)).all (λx=>x.1.isSome)
   &&decide ([e].length+([]:List Keyword).length+(if([]:List Keyword).isEmpty then 0 else 1)<30))=true:=by exact Hl rfl)
  (oJ:(apos.endLine==pos.line)=true:=by rfl) (kL:(backTo pos (starEach [] X.env)).any (·.1)=false:=by exact eX rfl) {pos':Pos}(hs:swapsWith (.Call (.Attribute o "append" apos) [e] [] pos) none pos'.line X.env=pure false:=by rfl):
  PB X C0 H0 (.Expr (.Call (.Attribute o "append" apos) [e] [] pos) pos') (uR i f):=
 Hn (tL he we mR) ho (λ_ _ _ h=>h) (Jj PySem.F.plainAttrs_list PySem.F.slot_list_append PySem.F.type_list_append zD ho (tL he we mR) oH uJ oJ mR kL) hs
theorem Gd.gK {B C H:Hp}{δ:dR}{σ:L2.St}(g:Gd B C0 H0 δ σ C H) {a:cF}(h0:H0 a=none) (hc:C a=none) (hn:∀(k:Nat) (es:cw),δ[k]? =some (.own es)->σ[k]? ≠some (some (.ref a))) (hx:∀u,H a=some u->DF u=false) (o:HO):Gd B C0 H0 δ σ C (upd H a o):=
 ⟨g.b,g.ev.FG h0 hc o,⟨λb u q=>by rw[cV (cY q hc)];exact g.x.sub b u q,g.x.dat,λk ds q=>by
   obtain⟨b,xs,h1,h2,h3,h4⟩:=g.x.own k ds q;exact⟨b,xs,h1,h2,by rw[cV (λz=>hn k ds q (by rw[h1,z]))];exact h3,h4⟩,g.x.yM,g.x.len,λk ks q=>by
   obtain⟨b,h1,h2,h3,h4⟩:=g.x.mem k ks q;exact⟨b,h1,h2,Mem.Rz h3 hx,λk hk=>Mem.Hg h3 hx (h4 k hk)⟩⟩,g.fr⟩
theorem Gd.MS {B C H:Hp}{δ:dR}{σ:L2.St}(g:Gd B C0 H0 δ σ C H) {i:Nat}{a:cF}{xs:List V}{ds:cw}(h0:H0 a=none) (hc:C a=none) (hH:H a=some (.lst xs)) (hl:IsL C xs ds) (hn:∀(k:Nat) (es:cw),δ[k]? =some (.own es)->σ[k]? ≠some (some (.ref a))):Gd B C0 H0 (δ.set i (.own ds)) (σ.set i (some (.ref a))) C H:=
 ⟨g.b,g.ev,g.x.AI hc hH hl hn,λk es b q1 q2=>by
  rcases getElem?_set_cases q1 with⟨rfl,e1⟩|⟨hk,e1⟩
  ·rcases getElem?_set_cases q2 with⟨_,e2⟩|⟨z,_⟩
   ·cases e2;exact h0
   ·exact absurd rfl z
  ·rw[aG (Ne.symm hk)]at q2;exact g.fr k es b e1 q2⟩
def AU (j m:Nat) (f:cf) (δ:dR):cw->cw->Option (cw×cw)
 |ls,[]=>some ([],ls)
 |ls,d::ds=>match f ((δ.set m (.own ls)).set j (.dat d))with
  |some (.int i)=>if 0<=i then(match ls[i.toNat]? with
   |some x=>(AU j m f δ (ls.eraseIdx i.toNat) ds).map λr=>(x::r.1,r.2)
   |none=>none)else none
  |_=>none
def zN (k j m:Nat) (i:cb) (f:cf):cc:=λδ=>match δ[m]? with
 |some (.own ls)=>if ls.length<1000000 then(i δ).bind λds=>if ds.length<1000000 then(AU j m f δ ls ds).map λr=>.next ((δ.set m (.own r.2)).set k (.own r.1))else none else none
 |_=>none
omit [Mem] in
theorem getElem?_set_own {δ:dR}{m k:Nat}{ls es:cw}(hm:∃fs,δ[m]? =some (Sl.own fs)) (h:(δ.set m (Sl.own ls))[k]? =some (.own es)):∃fs,δ[k]? =some (.own fs):=by
 rcases getElem?_set_cases h with⟨rfl,_⟩|⟨_,e⟩
 ·exact hm
 ·exact⟨_,e⟩
theorem JX {B:Hp}{k j m:Nat}{i:cb}{tt:TT}(Tf:m≠j) (ht:∀σ H Q,tQ lP σ H Q->tt σ H Q) {K:W.Frag}:∀Dn σ H,tS B C0 H0 (zN k j m i f) Dn σ H->
  BV k (FD (tI i) j tt (VE K "list" Jl (gI m) (UI (cL f cR)))) Dn σ H:=λDn σ H ⟨C,δ,r,gd,q,kk⟩=>by
 unfold zN at q;split at q
 case h_2=>cases q
 rename_i ls hm;split at q
 case isFalse=>cases q
 rename_i hzl;cases hf:i δ with
 |none=>rw[hf]at q;cases q
 |some ds=>
  rw[hf]at q;simp only[ao]at q;split at q
  case isFalse=>cases q
  rename_i hz;cases hp:AU j m f δ ls ds with
  |none=>rw[hp]at q;cases q
  |some pr=>
   rw[hp]at q;cases q;obtain⟨ys,rem⟩:=pr;refine⟨C,δ,ds,gd.x,hf,λJ C1 H1 ev wk A hA=>?_⟩
   have g1:=gd.AK ev;have Tg:∀(k:Nat) (es:cw),δ[k]? =some (.own es)->σ[k]? ≠some (some (.ref A)):=λk es e z=>by
    obtain⟨a,xs,h1,_,h3,_⟩:=g1.x.own k es e;rw[z]at h1;cases h1;rw[hA]at h3;cases h3
   have Qv:∀(ls:cw) (k:Nat) (es:cw),(δ.set m (.own ls))[k]? =some (.own es)->σ[k]? ≠some (some (.ref A)):=λls k es e=>by
    obtain⟨fs,e'⟩:=getElem?_set_own ⟨_,hm⟩ e;exact Tg k fs e'
   have V0:H0 A=none:=g1.ev.free hA;have dm:δ.set m (.own ls)=δ:=by
    apply List.ext_getElem?
    intro n;by_cases e:n=m
    ·subst e;rw[bf (List.getElem?_eq_some_iff.mp hm).1,hm]
    ·rw[aG (Ne.symm e)]
   refine⟨λn mm acc H'=>∃C' lc done rest,mm=ds.length-n/\n<=ds.length/\Gd B C0 H0 (δ.set m (.own lc)) σ C' H'/\dZ C1 C'/\C' A=none/\H' A=some (.lst acc)/\IsL C' acc done/\done.length<=n/\lc.length<1000000/\AU j m f δ lc (ds.drop n)=some (rest,rem)/\ys=done++rest,
    ⟨ds.length,C1,ls,[],ys,by simp,bN _,by rw[dm];exact g1.gK V0 (ev.s.free hA) Tg (λu q=>by rw[hA]at q;cases q) _,dZ.refl _,ev.s.free hA,dc,.nil,au _,hzl,by simpa using hp,rfl⟩,?_⟩
   rintro n mm acc H2 ⟨C2,lc,done,rest,rfl,hn,g2,sc,a2,b2,l2,XT,hlc,q2,ey⟩
   have w:=wk n C2 H2 sc g2.x.sub;by_cases fQ:n<ds.length
   ·have hd:ds[n]? =some ds[n]:=ah fQ;obtain⟨go,yl⟩:=w.1 _ hd;rw[List.drop_eq_getElem_cons fQ]at q2;refine .inr ⟨go,λv H3 y=>?_⟩
    obtain⟨rfl,is⟩:=yl v H3 y;have x3:=g2.x.sM (i:=j) is;unfold AU at q2;split at q2
    case h_2=>cases q2
    rename_i ii hfi;split at q2
    case isFalse=>cases q2
    rename_i hi0;split at q2
    case h_2=>cases q2
    rename_i x hx;cases hr:AU j m f δ (lc.eraseIdx ii.toNat) (ds.drop (n+1))with
    |none=>rw[hr]at q2;cases q2
    |some pr=>
     rw[hr]at q2;cases q2;have hml:m<δ.length:=(List.getElem?_eq_some_iff.mp hm).1;have om:(δ.set m (.own lc))[m]? =some (.own lc):=bf hml;obtain⟨a,xs,h1,h2,h3,h4⟩:=g2.x.own m lc om;refine ht _ _ _ ⟨C2,_,true,x3,rfl,λC4 H4 e4=>AF ?_⟩
     have g4:=g2.AK e4;have Jv:=e4.hh h3;refine⟨.ref a,by rw[aG (Ne.symm Tf)];exact h1,.inl ⟨rfl,_,qk.of Jv⟩,C4,_,[.int ii],x3.ev e4,by unfold cL cR;rw[hfi];rfl,λvs C5 H5 e5 i5=>?_⟩
     cases i5 with
     |cons i51 i52=>
      cases i52;cases i51;have IA:=e4.trans e5;have g5:=g2.AK IA;have hH5:=IA.hh h3;have l5:=h4.mono IA.c;obtain⟨vx,XW,UL⟩:=l5.get hx;have hlen:xs.length=lc.length:=l5.length;have aap:ii.toNat<xs.length:=(List.getElem?_eq_some_iff.mp XW).1;have aA:a≠A:=λz=>Qv lc m lc om (by rw[h1,z])
      have UJ:H5 A=some (.lst acc):=IA.hh b2;have a5:=IA.nn a2 b2;refine⟨a,xs,ii,ii.toNat,vx,rfl,rfl,hH5,by omega,by omega,seqIndex_of hi0 (by omega),XW,?_⟩
      refine⟨by rw[cV (Ne.symm aA)];exact UJ,by rw[l2.length];exact wg (by omega),ds.length-(n+1),by omega,C5,lc.eraseIdx ii.toNat,done++[x],pr.1,rfl,fQ,?_,sc.trans IA.c,a5,dc,(l2.mono IA.c).append (.one UL),?_,?_,hr,?_⟩
      ·have g6:=g5.mut (es:=lc.eraseIdx ii.toNat) om h1 (l5.eraseIdx ii.toNat);rw[List.set_set]at g6;exact g6.gK V0 a5 (Qv _) (λu q=>by rw[cV (Ne.symm aA),UJ]at q;cases q;rfl) _
      ·rw[aR,List.length_singleton];omega
      ·exact Nat.lt_of_le_of_lt (uK _ _) hlc
      ·rw[ey,List.append_assoc];rfl
   ·have e:n=ds.length:=by omega
    subst e;rw[List.drop_length]at q2;unfold AU at q2;cases q2;rw[bD]at ey;subst ey;refine .inl ⟨w.2 (au _),kk _ C2 H2 ?_⟩;exact g2.MS V0 a2 b2 l2 (Qv _)
variable {elt o iter:cG}{x y:Str}{px py tE apos gm:Pos}{scope:Scope}{i:cb}
theorem MT (k j m:Nat) (hc:X.calm=true) (Tf:m≠j) (S:iz X scope x j) (hi:MK X (.Name x px) iter i) (ho:∀cl C s H fp,PE (dN X scope cl C s H fp) o (gI m)) (he:∀cl C s H fp,PD (dN X scope cl C s H fp) e f)
  (mR:∀cl C s H fp,starEach [e] (dN X scope cl C s H fp).env=(false,eval e (dN X scope cl C s H fp).env)::starEach [] (dN X scope cl C s H fp).env:=by intros;exact eG rfl)
  (oH:∀cl C s H fp,attributeBase o "pop" (dN X scope cl C s H fp).env (eval o (dN X scope cl C s H fp).env)=eval o (dN X scope cl C s H fp).env:=by intros;rfl)
  (uJ:∀cl C s H fp,((backTo gm (starEach [e] (dN X scope cl C s H fp).env)).all (λx=> !x.1)&&(backToKw gm (keywordEach [] (dN X scope cl C s H fp).env)).all (λx=>x.1.isSome)
   &&decide ([e].length+([]:List Keyword).length+(if([]:List Keyword).isEmpty then 0 else 1)<30))=true:=by intros;exact Hl rfl)
  (oJ:(apos.endLine==gm.line)=true:=by rfl) (kL:∀cl C s H fp,(backTo gm (starEach [] (dN X scope cl C s H fp).env)).any (·.1)=false:=by intros;rfl)
  (hN:X.N[k]? =some y:=by rfl) (hy:Loc X.env.scope y:=by first|exact Or.inl rfl|exact Or.inr rfl) (hf:X.fn y=true\/X.env.scope.names.lookup y=some .local:=by first|exact .inl rfl|exact .inr rfl)
  (Mx:swapsWith (.ListComp (.Call (.Attribute o "pop" apos) [e] [] gm) [⟨.Name x px,iter,[],0⟩] scope pos) (some (.Name y py)) tE.line X.env=pure true:=by rfl)
  (hs:∀v,foldedSetIterable iter X.env v=pure v:=by intro _;rfl):PB X C0 H0 (.Assign [.Name y py] (.ListComp (.Call (.Attribute o "pop" apos) [e] [] gm) [⟨.Name x px,iter,[],0⟩] scope pos) tE) (zN k j m i f):=λB=>
 (wR hc S hi (λ_ _ _ _ _=>BS) (λcl C s H fp=>Jj PySem.F.plainAttrs_list PySem.F.slot_list_pop PySem.F.type_list_pop Jm (ho cl C s H fp) (tL (he cl C s H fp) we (mR cl C s H fp)) (oH cl C s H fp) (uJ cl C s H fp) oJ (mR cl C s H fp) (kL cl C s H fp)) hN hy hf Mx hs).imp (JX Tf JK)
end
end DL
namespace DL
open PySem PySem.Spec PyProof.Rows L2
def iH (P:cB) (w:cC) (K:W.Frag) (mg:cm) (base:Heap) (k:Nat) (x:Str) (g:cj):Prop:=
 ∃f fd ps,eE P w K mg base iK k f fd ps (qf g)/\mg x=some (.ref f)/\W.keepIn K (.ref f)=true/\Binds K fd ps []
theorem iH.mono {P:cB}{w:cC}{K:W.Frag}{mg:cm}{base:Heap}{j k:Nat}{x:Str}{g:cj}(c:iH P w K mg base j x g) (h:j<=k):iH P w K mg base k x g:=
 let ⟨f,fd,ps,F,r⟩:=c;⟨f,fd,ps,F.mono h,r⟩
section
variable {X:Cx}{e:cG}{es:List cG}{p pos:Pos}{x:Str}
theorem JY [Mem] {k:Nat}{g:cj}{fa:cb}(c:iH X.prog X.w X.K X.mg X.base k x g) (hr:gn k X.A) (hg:Gl X x) (ha:Hh X (e::es) fa)
  (rV:(x==("__debug__":Str))=false:=by decide) (he:starEach (e::es) X.env=(false,eval e X.env)::starEach es X.env:=by exact eG rfl) (jX:(backTo pos (starEach es X.env)).any (·.1)=false:=by exact eX rfl):
  PD X (.Call (.Name x p) (e::es) [] pos) (cT g fa):=by
 obtain⟨f,fd,ps,F,hm,hk,hb⟩:=c;exact MG F hr hg hm hk hb ha rV he jX
end
end DL
namespace DL
open PySem PySem.Spec PyProof.Rows L2
def AV (K:W.Frag):Bool:=K.all λp=>match p.2.data with
 |.seq _ _=>(match p.2.cls with|.type t=>t !="list"|_=>true)
 |_=>true
theorem mem_of_lookup {K:W.Frag}{a:cF}{o:Obj}(e:K.lookup a=some o):(a,o)∈K:=by
 induction K with
 |nil=>cases e
 |cons p r ih=>
  obtain⟨b,u⟩:=p;rw[br]at e;by_cases h:a=b
  ·subst h;simp only[bP]at e;cases e;exact af
  ·have hb:(a==b)=false:=by simpa using h
   simp only[hb]at e;exact ai _ (ih e)
theorem Ep {K:W.Frag}(h:AV K=true) {a:cF}{o:Obj}{dF:Array cy}{n:Nat}(e:K.lookup a=some o) (hc:o.cls=.type "list") (hs:o.data=.seq dF n):False:=by
 have:=List.all_eq_true.mp h _ (mem_of_lookup e);simp only[hs,hc]at this;simp at this
theorem Th {l:W.OpenLaw}{q:cB}{loose:List Str}{XP:(cm)->Heap->Prop}{YP:cC->Heap->Prop}{d:DefRec}{K:Params->W.Frag}{x:Str}{g:cj}(hn:l.most=some 63) (SF:d.params.defaults=[])
  (hY:∀(w:cC) (h:Heap),YP w h->(K w.params).In h)
  (hg:∀ns:cq,ns.length<=63->g [.lst (ns.map D.int)]=some (.bl true))
  (Jo:∀t∈vK,((recsOf q).find? λe=>e.name==t.1).isSome=true)
  (F:∀(w:cC) (mg:cm) (fa:cF) (h:Heap),(K w.params).In h->h.Ns mainGlobals mg->mg d.name=some (.ref fa)->
   AV (K w.params)=true/\tabsOk (K w.params)=true/\∃fd:cA,(∀(s:cz) (u:cy),BindsTo s fd ⟨[u],[]⟩ [(x,u)])/\∀base:Heap,(K w.params).In base->base.Ns mainGlobals mg->eE l.prog w (K w.params) mg base iK 65 fa fd [x] (qf g)):
  W.WalkO q loose XP YP l.row.toRowW d [] (λf vs=>PySem.call f vs):=
 L2.Mu (n:=63) (k:=65) (x:=x) (CX:=λ_=>iK) (sp:=λw vs H Q E=>AV (K w.params)=true->qf g vs H Q E) hn (by decide) SF ⟨rfl,by decide,by decide,rfl⟩ hY Jo
  (λw mg fa h k1 k2 k3=>by
   obtain⟨z,tz,fd,b,f⟩:=F w mg fa h k1 k2 k3;exact⟨tz,fd,b,λbase e1 e2=>(f base e1 e2).imp λvs H Q E h=>h z⟩)
  (λw H a ns hl hS hz=>by
   have hr:Rd H a (.lst (ns.map V.int)):=by
    rcases hS with h|⟨o,dF,n,e1,e2,_,e4,_⟩
    ·exact h
    ·exact(Ep hz e1 e2 e4).elim
   exact⟨H,[.lst (ns.map D.int)],.bl true,dZ.refl H,.cons (.lst hr (.ints ns)) .nil,hg ns hl,λv C' H' ev i=>by cases i;rfl⟩)
  λ_ _ _ _ _ z=>z
end DL
namespace DL
open PySem PySem.Spec PyProof.Rows L2
variable [Mem]
structure WD (X:Cx) (e:cG) (f:cf):Prop where
 go:PD X e f
structure WO (X:Cx) (e:cG) (f:cf):Prop where
 go:PO X e f
structure WF (X:Cx) (e:cG) (f:cb):Prop where
 go:PF X e f
structure WQ (X:Cx) (e:cG) (f:cg):Prop where
 go:PQ X e f
structure Hu (X:Cx) (e:cG) (f:cg):Prop where
 go:P2 X e f
structure IC (X:Cx) (es:List cG) (f:cb):Prop where
 go:Hh X es f
structure RC (X:Cx) (es:List cG) (f:cb):Prop where
 go:Qa X es f
structure wj (X:Cx) (tg e:cG) (f:cb):Prop where
 go:MK X tg e f
structure Ti (X:Cx) (tg e:cG) (f:cb):Prop where
 go:RA X tg e f
structure WB (X:Cx) (C0 H0:Hp) (st:cH) (f:cc):Prop where
 go:PB X C0 H0 st f
structure qx (X:Cx) (C0 H0:Hp) (st:List cH) (f:cc):Prop where
 go:yB X C0 H0 st f
structure WP (X:Cx) (e:Option cG) (f:dR->Option (Option Int)):Prop where
 go:L2.PO X e (tP f)
section
variable {X:Cx}{e tg:cG}{pos:Pos}
theorem cS (i:Nat) {x:Str}(hN:X.N[i]? =some x:=by rfl) (hv:Rr X.env.scope x:=by first|exact Or.inl rfl|exact Or.inr (Or.inl rfl)|exact Or.inr (Or.inr rfl)) (hd:(x==("__debug__":Str))=false:=by decide) (yH:(x==("__classdict__":Str))=false:=by decide):WO X (.Name x pos) (dk i):=⟨Hj (DK hN hv hd yH)⟩
theorem cN (i:Nat) {x:Str}(hN:X.N[i]? =some x:=by rfl) (hv:Rr X.env.scope x:=by first|exact Or.inl rfl|exact Or.inr (Or.inl rfl)|exact Or.inr (Or.inr rfl)) (hd:(x==("__debug__":Str))=false:=by decide) (yH:(x==("__classdict__":Str))=false:=by decide):WD X (.Name x pos) (cP i):=⟨Hi (DK hN hv hd yH)⟩
theorem WD.o {f:cf}(h:WD X e f):WO X e f:=⟨h.go.o⟩
theorem WF.d {f:cb}(h:WF X e f):WD X e (dL f):=⟨h.go.d⟩
theorem Hu.pt {f:cg}(h:Hu X e f):WQ X e f:=⟨h.go.pt⟩
theorem wj.weak {f:cb}(h:wj X tg e f):Ti X tg e f:=⟨h.go.weak⟩
theorem Of:WP X none Qn:=⟨S5⟩
theorem JZ {f:cf}(h:WO X e f):WP X (some e) (B2 f):=⟨Qo h.go⟩
end
end DL
namespace DL
open PySem PySem.Spec PyProof.Rows L2
theorem gp {P:cB}{w:cC}{K:W.Frag}{mg:cm}{base:Heap}{x qual:Str}{st:cH}{f:cF}{fd:cA}{N ps:List Str}{k:Nat}(F:mN K x qual st f fd) (S:dD N ps (cO st)) {fb:cc}
  (js:∀(m:Mem) (fL:cy) (A:cD) (outer:List Env) (s:cz) (H:Hp) (E:XK),gn k (A.deeper (envOfC qual (cO st) s.heap.objs.size f fL))->∀C0 H0,qx (qp iK P w K mg base N qual (cO st) f fL A outer s H E).DE C0 H0 (dw st) fb):
  eE P w K mg base iK (k+1) f fd ps (qf (hO N.length ps.length fb)):=Od F S λfL A outer s H E hr C0 H0=>@qx.go Mem.keep _ _ _ _ _ (js Mem.keep fL A outer s H E hr C0 H0)
variable [Mem]
section
variable {C:Hp}
end
section
variable {C H C' H' C2 H2:Hp}
variable [Mem]
end
section
variable [Mem] {δ:dR}{σ:L2.St}{C H C' H':Hp}
end
variable [Mem]
section
variable {X:Cx}{e a b c:cG}{pos:Pos}
theorem da {i:Int}{j:Nat}:WD X (.Constant (.int i) j pos) (dC (.int i)):=⟨PK⟩
theorem B5 {i:Bool}{j:Nat}:WD X (.Constant (.bool i) j pos) (dC (.bl i)):=⟨SV⟩
theorem w9 {j:Nat}:WD X (.Constant .none j pos) (dC .eD):=⟨PL⟩
theorem iC {x:Str}{i:Int}{t:Tok}(hg:Gl X x) (hm:X.mg x=some (.int i t)) (hd:(x==("__debug__":Str))=false:=by decide):WD X (.Name x pos) (dC (.int i)):=⟨Mz hg hm hd⟩
theorem j5 {f g:cf}(ha:WO X a f) (hb:WO X b g):WD X (.BinOp a .Add b pos) (dz jE f g):=⟨PM ha.go hb.go⟩
theorem sN {f g:cf}(ha:WO X a f) (hb:WO X b g):WD X (.BinOp a .Sub b pos) (dz oK f g):=⟨PN ha.go hb.go⟩
theorem xb {f g:cf}(ha:WO X a f) (hb:WO X b g):WD X (.BinOp a .Mult b pos) (dz uO f g):=⟨PR ha.go hb.go⟩
theorem Er {f g:cf}(ha:WO X a f) (hb:WO X b g):WD X (.BinOp a .FloorDiv b pos) (dz AJ f g):=⟨PU ha.go hb.go⟩
theorem AW {f g:cf}(ha:WO X a f) (hb:WO X b g):WD X (.BinOp a .Mod b pos) (dz tJ f g):=⟨PV ha.go hb.go⟩
theorem qy {op:CmpOp}{o:D->D->Option D}{f g:cf}(c:uP X op o) (ha:WO X a f) (hb:WO X b g) (hm:behindInMarks op b=false:=by first|exact sJ _|rfl):WD X (.Compare a [op] [b] pos) (dz o f g):=⟨PZ c ha.go hb.go hm⟩
theorem sO {f:cf}(h:WD X e f) (he:∀whole,isTrue e X.env whole=(do let v <-whole;standAt e.pos;holding [v] (truthy v)):=by intro _;rfl):WQ X e (qB f):=⟨P0 h.go he⟩
theorem eI {op:CmpOp}{o:D->D->Option D}{f g:cf}(c:uP X op o) (ha:WO X a f) (hb:WO X b g) (hm:behindInMarks op b=false:=by first|exact sJ _|rfl):WQ X (.Compare a [op] [b] pos) (qB (dz o f g)):=⟨P1 c ha.go hb.go hm⟩
theorem xc {f:cg}(ha:WQ X a f):Hu X (.BoolOp .And [a] pos) f:=⟨JA ha.go⟩
theorem FT {f:cg}(ha:WQ X a f):Hu X (.BoolOp .Or [a] pos) f:=⟨MB ha.go⟩
theorem wm {rest:List cG}{f g:cg}(ha:WQ X a f) (hb:Hu X (.BoolOp .And (b::rest) pos) g):Hu X (.BoolOp .And (a::b::rest) pos) (rX f g):=⟨MC ha.go hb.go⟩
theorem J0 {rest:List cG}{f g:cg}(ha:WQ X a f) (hb:Hu X (.BoolOp .Or (b::rest) pos) g):Hu X (.BoolOp .Or (a::b::rest) pos) (Jz f g):=⟨P5 ha.go hb.go⟩
theorem uZ {f:cg}(ha:WQ X a f):WQ X (.UnaryOp .Not a pos) (tK f):=⟨P6 ha.go⟩
theorem J1 {op:BoolOp}{f:cf}(h:WD X a f):WD X (.BoolOp op [a] pos) f:=⟨P7 h.go⟩
theorem J2 {rest:List cG}{f g:cf}(ha:WD X a f) (hb:WD X (.BoolOp .And (b::rest) pos) g):WD X (.BoolOp .And (a::b::rest) pos) (Ed f g):=⟨P8 ha.go hb.go⟩
theorem Qw {f:cf}(ha:WD X a f):WD X (.UnaryOp .Not a pos) (MD f):=⟨P9 ha.go⟩
theorem B6 {q:cg}{f g:cf}(hc:WQ X c q) (ha:WD X a f) (hb:WD X b g):WD X (.IfExp c a b pos) (S0 q f g):=⟨JB hc.go ha.go hb.go⟩
end
section
variable {X:Cx}{e:cG}{es:List cG}{pos p:Pos}{x:Str}
theorem cQ:IC X [] cR:=⟨we⟩
theorem cM {f:cf}{g:cb}(ha:WD X e f) (hr:IC X es g) (hs:starEach (e::es) X.env=(false,eval e X.env)::starEach es X.env:=by exact eG rfl):IC X (e::es) (cL f g):=⟨tL ha.go hr.go hs⟩
theorem dI:RC X [] cR:=⟨ME⟩
theorem dt {f:cf}{g:cb}(ha:WO X e f) (hr:RC X es g) (hs:starEach (e::es) X.env=(false,eval e X.env)::starEach es X.env:=by exact eG rfl):RC X (e::es) (cL f g):=⟨JC ha.go hr.go hs⟩
theorem eT {k:Nat}{f:cb}(h:IC X es f):WD X (.Tuple es k pos) (fi f):=⟨Qb h.go⟩
theorem oh {f:cb}(h:IC X es f):WF X (.List es pos) (rY f):=⟨Qc h.go⟩
theorem fZ {id:String}{g:cj}{f:cb}(hc:qt X (.builtin id) g) (hg:Gl X x) (hm:X.mg x=none) (hv:bootBuiltins x=some (.builtin id)) (ha:RC X (e::es) f) (hn:x≠"__name__":=by decide) (rV:(x==("__debug__":Str))=false:=by decide) (he:starEach (e::es) X.env=(false,eval e X.env)::starEach es X.env:=by exact eG rfl) (jX:(backTo pos (starEach es X.env)).any (·.1)=false:=by exact eX rfl):WD X (.Call (.Name x p) (e::es) [] pos) (cT g f):=⟨JD hc hg hm hv ha.go hn rV he jX⟩
theorem mS {id:String}{g:cw->Option (cw)}{f:cb}(hc:FK X (.builtin id) g) (hg:Gl X x) (hm:X.mg x=none) (hv:bootBuiltins x=some (.builtin id)) (ha:RC X (e::es) f) (hn:x≠"__name__":=by decide) (rV:(x==("__debug__":Str))=false:=by decide) (he:starEach (e::es) X.env=(false,eval e X.env)::starEach es X.env:=by exact eG rfl) (jX:(backTo pos (starEach es X.env)).any (·.1)=false:=by exact eX rfl):WF X (.Call (.Name x p) (e::es) [] pos) (jq g f):=⟨JE hc hg hm hv ha.go hn rV he jX⟩
theorem eQ {T:String}{g:cj}{f:cb}(hc:qt X (.type T) g) (hg:Gl X x) (hm:X.mg x=none) (hv:bootBuiltins x=some (.type T)) (ha:RC X (e::es) f) (hn:x≠"__name__":=by decide) (rV:(x==("__debug__":Str))=false:=by decide) (he:starEach (e::es) X.env=(false,eval e X.env)::starEach es X.env:=by exact eG rfl) (jX:(backTo pos (starEach es X.env)).any (·.1)=false:=by exact eX rfl):WD X (.Call (.Name x p) (e::es) [] pos) (cT g f):=⟨Hm hc hg hm hv ha.go hn rV he jX⟩
end
variable [Mem]
section
variable {B C0 H0 C H C' H':Hp}{δ:dR}{σ:L2.St}
end
section
variable {X:Cx}{C0 H0:Hp}{st:cH}{S2 rest:List cH}{e:cG}{pos:Pos}{f g:cc}
theorem eN:qx X C0 H0 [] g9:=⟨MH⟩
theorem cW (h:WB X C0 H0 st f):qx X C0 H0 [st] f:=⟨MI h.go⟩
theorem cX (h:WB X C0 H0 st f) (h2:qx X C0 H0 rest g):qx X C0 H0 (st::rest) (eB f g):=⟨JF h.go h2.go⟩
theorem j6 (i:Nat) (h:qx X C0 H0 S2 f):qx X C0 H0 S2 (oM i f):=⟨JG i h.go⟩
theorem dJ {f:cf}(he:WD X e f):WB X C0 H0 (.Return (some e) pos) (eP f):=⟨Qd he.go⟩
theorem iA (i:Nat) {x:Str}{pos':Pos}{f:cf}(hN:X.N.Nodup) (he:WD X e f) (hi:X.N[i]? =some x:=by rfl) (hx:Loc X.env.scope x:=by first|exact Or.inl rfl|exact Or.inr rfl) (hs:swapsWith e (some (.Name x pos')) pos.line X.env=pure false:=by rfl) (hf:X.fn x=true\/X.env.scope.names.lookup x=some .local:=by first|exact .inl rfl|exact .inr rfl):WB X C0 H0 (.Assign [.Name x pos'] e pos) (jF i f):=⟨Qf i hN he.go hi hx hs hf⟩
theorem jz (i:Nat) {x:Str}{pos':Pos}{f:cb}(hN:X.N.Nodup) (he:WF X e f) (hi:X.N[i]? =some x:=by rfl) (hx:Loc X.env.scope x:=by first|exact Or.inl rfl|exact Or.inr rfl) (hs:swapsWith e (some (.Name x pos')) pos.line X.env=pure false:=by rfl) (hf:X.fn x=true\/X.env.scope.names.lookup x=some .local:=by first|exact .inl rfl|exact .inr rfl):WB X C0 H0 (.Assign [.Name x pos'] e pos) (hJ i f):=⟨MJ i hN he.go hi hx hs hf⟩
theorem gZ {c:cG}{a b:List cH}{q:cg}(hc:WQ X c q) (ha:qx X C0 H0 a f) (hb:qx X C0 H0 b g):WB X C0 H0 (.If c a b pos) (lO q f g):=⟨S3 hc.go ha.go hb.go⟩
end
section
variable {X:Cx}{tg e:cG}
theorem qz {f:cf}(h:WD X e f):wj X tg e (iL f):=⟨BZ h.go⟩
theorem gk {f:cf}(h:WD X e f):wj X tg e (iT f):=⟨FL h.go⟩
theorem AX {f:cf}(h:WO X e f):Ti X tg e (iL f):=⟨ML h.go⟩
theorem jH {a:cG}{f:cb}{p pos:Pos}(hg:Gl X "range") (hm:X.mg "range"=none) (ha:IC X [a] f) (hs:starEach [a] X.env=[(false,eval a X.env)]:=by exact eG rfl):wj X tg (.Call (.Name "range" p) [a] [] pos) (uS f):=⟨Ef hg hm ha.go hs⟩
theorem jI {C0 H0:Hp}{iter:cG}{body:List cH}{i:cb}{f:cc}{pos:Pos}{j:Nat}(hp:PassesOwn (model X.prog X.w) X.A X.env X.xe) (hc:X.calm=true) (hi:wj X tg iter i) (hg:PG X tg (zw j)) (hb:qx X C0 H0 body f) (hs:∀x,foldedSetIterable iter X.env x=pure x:=by intro _;rfl):WB X C0 H0 (.For tg iter body [] pos) (kK j i f):=⟨Qg hp hc hi.go hg hb.go hs⟩
end
section
variable {X:Cx}{elt iter:cG}{x:Str}{px pos:Pos}{scope:Scope}{i:cb}{t:cg}{f:cf}
theorem pk (j:Nat) (hc:X.calm=true) (S:iz X scope x j) (hi:Ti X (.Name x px) iter i) (he:∀cl C s H fp,WD (dN X scope cl C s H fp) elt f) (hs:∀v,foldedSetIterable iter X.env v=pure v:=by intro _;rfl):WF X (.ListComp elt [⟨.Name x px,iter,[],0⟩] scope pos) (eS i j lP f):=⟨MN j hc S hi.go (λcl C s H fp=>(he cl C s H fp).go) hs⟩
theorem i8 (j:Nat) {c:cG}(hc:X.calm=true) (S:iz X scope x j) (hi:Ti X (.Name x px) iter i) (ht:∀cl C s H fp,WQ (dN X scope cl C s H fp) c t) (he:∀cl C s H fp,WD (dN X scope cl C s H fp) elt f) (hs:∀v,foldedSetIterable iter X.env v=pure v:=by intro _;rfl):WF X (.ListComp elt [⟨.Name x px,iter,[c],0⟩] scope pos) (eS i j t f):=⟨Ho j hc S hi.go (λcl C s H fp=>(ht cl C s H fp).go) (λcl C s H fp=>(he cl C s H fp).go) hs⟩
variable {C0 H0:Hp}{y:Str}{py tE:Pos}
theorem tX (k j:Nat) {c:cG}(hc:X.calm=true) (S:iz X scope x j) (hi:Ti X (.Name x px) iter i) (ht:∀cl C s H fp,WQ (dN X scope cl C s H fp) c t) (he:∀cl C s H fp,WD (dN X scope cl C s H fp) elt f) (hN:X.N[k]? =some y:=by rfl) (hy:Loc X.env.scope y:=by first|exact Or.inl rfl|exact Or.inr rfl) (hf:X.fn y=true\/X.env.scope.names.lookup y=some .local:=by first|exact .inl rfl|exact .inr rfl) (Mx:swapsWith (.ListComp elt [⟨.Name x px,iter,[c],0⟩] scope pos) (some (.Name y py)) tE.line X.env=pure true:=by rfl) (hs:∀v,foldedSetIterable iter X.env v=pure v:=by intro _;rfl):WB X C0 H0 (.Assign [.Name y py] (.ListComp elt [⟨.Name x px,iter,[c],0⟩] scope pos) tE) (hJ k (eS i j t f)):=⟨AL k j hc S hi.go (λcl C s H fp=>(ht cl C s H fp).go) (λcl C s H fp=>(he cl C s H fp).go) hN hy hf Mx hs⟩
end
section
variable {X:Cx}{pins:cn}{σ:L2.St}{C H:Hp}{s:cz}
end
variable [Mem]
section
variable {X:Cx}{a b c e o:cG}{pos:Pos}{f g h:cf}
theorem fN (ha:WO X a f) (hb:WO X b g) (hs:nM b):WD X (.Subscript a b pos) (dz jL f g):=⟨Ql ha.go hb.go hs⟩
theorem Qx (ha:WO X a f):WD X (.UnaryOp .USub a pos) (B1 f):=⟨Qm ha.go⟩
end
variable [Mem]
section
variable {X:Cx}{a b c e o:cG}{pos p p2:Pos}{f g h:cf}
theorem Qy {lo hi:Option cG}{fl fh:dR->Option (Option Int)}(he:WO X e f) (hl:WP X lo fl) (hh:WP X hi fh):WF X (.Subscript e (.Slice lo hi none p2) pos) (JO f fl fh):=⟨Qp he.go hl.go hh.go⟩
theorem J3 {T:String}{x:Str}(VU:FP T) (bt:bootBuiltins x=some (.type T)) (ha:WO X a f) (hg:Gl X "isinstance") (hm:X.mg "isinstance"=none) (VV:Gl X x) (VW:X.mg x=none) (hn:x≠"__name__":=by decide) (hd:(x==("__debug__":Str))=false:=by decide) (he:starEach [a,.Name x p2] X.env=(false,eval a X.env)::starEach [.Name x p2] X.env:=by exact eG rfl) (VX:starEach [.Name x p2] X.env=(false,eval (.Name x p2) X.env)::starEach [] X.env:=by exact eG rfl) (jX:(backTo pos (starEach [.Name x p2] X.env)).any (·.1)=false:=by exact eX rfl):WD X (.Call (.Name "isinstance" p) [a,.Name x p2] [] pos) (JS T f):=⟨Qr VU bt ha.go hg hm VV VW hn hd he VX jX⟩
theorem AY {f:cb}{p' pos':Pos}(hc:X.calm=true) (hg:Gl X "list") (hm:X.mg "list"=none) (VY:Gl X "range") (JU:X.mg "range"=none) (ha:IC X [a] f) (hs:starEach [a] X.env=[(false,eval a X.env)]:=by exact eG rfl) (he:starEach [.Call (.Name "range" p') [a] [] pos'] X.env=(false,eval (.Call (.Name "range" p') [a] [] pos') X.env)::starEach [] X.env:=by exact eG rfl) (jX:(backTo pos (starEach [] X.env)).any (·.1)=false:=by exact eX rfl):WF X (.Call (.Name "list" p) [.Call (.Name "range" p') [a] [] pos'] [] pos) (uS f):=⟨AM hc hg hm VY JU ha.go hs he jX⟩
end
variable [Mem]
section
variable {X:Cx}
end
section
variable {X:Cx}{e:cG}{pos:Pos}{C0 H0:Hp}{f:cf}
theorem J4 (is:List Nat) {es:List cG}{kt:Nat}{n6:Pos}(hc:X.calm=true) (he:WD X e f) (hg:NV X es (AS is)) (hn:(assignEach es X.env).length=is.length:=by rfl) (n5:(assignEach es X.env).findIdx? (·.1)=none:=by rfl) (hs:swapsWithSole [.Tuple es kt n6] e pos.line X.env=pure false:=by rfl) (hw:swappedStores [.Tuple es kt n6] e X.env=pure none:=by rfl) (h1:(assignEach [.Tuple es kt n6] X.env).map (·.2)=[assign (.Tuple es kt n6) X.env]:=by rfl):WB X C0 H0 (.Assign [.Tuple es kt n6] e pos) (B4 is f):=⟨Qt is hc he.go hg hn n5 hs hw h1⟩
theorem xf {i:Nat}{o:cG}{apos:Pos}(ho:PE X o (gI i)) (he:WD X e f) (mR:starEach [e] X.env=(false,eval e X.env)::starEach [] X.env:=by exact eG rfl) (oH:attributeBase o "append" X.env (eval o X.env)=eval o X.env:=by rfl) (uJ:((backTo pos (starEach [e] X.env)).all (λx=> !x.1)&&(backToKw pos (keywordEach [] X.env)).all (λx=>x.1.isSome)
   &&decide ([e].length+([]:List Keyword).length+(if([]:List Keyword).isEmpty then 0 else 1)<30))=true:=by exact Hl rfl) (oJ:(apos.endLine==pos.line)=true:=by rfl) (kL:(backTo pos (starEach [] X.env)).any (·.1)=false:=by exact eX rfl) {pos':Pos}(hs:swapsWith (.Call (.Attribute o "append" apos) [e] [] pos) none pos'.line X.env=pure false:=by rfl):WB X C0 H0 (.Expr (.Call (.Attribute o "append" apos) [e] [] pos) pos') (uR i f):=⟨Qu ho he.go mR oH uJ oJ kL hs⟩
variable {elt o iter:cG}{x y:Str}{px py tE apos gm:Pos}{scope:Scope}{i:cb}
theorem MU (k j m:Nat) (hc:X.calm=true) (Tf:m≠j) (S:iz X scope x j) (hi:wj X (.Name x px) iter i) (ho:∀cl C s H fp,PE (dN X scope cl C s H fp) o (gI m)) (he:∀cl C s H fp,WD (dN X scope cl C s H fp) e f) (mR:∀cl C s H fp,starEach [e] (dN X scope cl C s H fp).env=(false,eval e (dN X scope cl C s H fp).env)::starEach [] (dN X scope cl C s H fp).env:=by intros;exact eG rfl) (oH:∀cl C s H fp,attributeBase o "pop" (dN X scope cl C s H fp).env (eval o (dN X scope cl C s H fp).env)=eval o (dN X scope cl C s H fp).env:=by intros;rfl) (uJ:∀cl C s H fp,((backTo gm (starEach [e] (dN X scope cl C s H fp).env)).all (λx=> !x.1)&&(backToKw gm (keywordEach [] (dN X scope cl C s H fp).env)).all (λx=>x.1.isSome)
   &&decide ([e].length+([]:List Keyword).length+(if([]:List Keyword).isEmpty then 0 else 1)<30))=true:=by intros;exact Hl rfl) (oJ:(apos.endLine==gm.line)=true:=by rfl) (kL:∀cl C s H fp,(backTo gm (starEach [] (dN X scope cl C s H fp).env)).any (·.1)=false:=by intros;rfl) (hN:X.N[k]? =some y:=by rfl) (hy:Loc X.env.scope y:=by first|exact Or.inl rfl|exact Or.inr rfl) (hf:X.fn y=true\/X.env.scope.names.lookup y=some .local:=by first|exact .inl rfl|exact .inr rfl) (Mx:swapsWith (.ListComp (.Call (.Attribute o "pop" apos) [e] [] gm) [⟨.Name x px,iter,[],0⟩] scope pos) (some (.Name y py)) tE.line X.env=pure true:=by rfl) (hs:∀v,foldedSetIterable iter X.env v=pure v:=by intro _;rfl):WB X C0 H0 (.Assign [.Name y py] (.ListComp (.Call (.Attribute o "pop" apos) [e] [] gm) [⟨.Name x px,iter,[],0⟩] scope pos) tE) (zN k j m i f):=⟨MT k j m hc Tf S hi.go ho (λcl C s H fp=>(he cl C s H fp).go) mR oH uJ oJ kL hN hy hf Mx hs⟩
end
section
variable {X:Cx}{e:cG}{es:List cG}{p pos:Pos}{x:Str}
theorem de {k:Nat}{g:cj}{fa:cb}(c:iH X.prog X.w X.K X.mg X.base k x g) (hr:gn k X.A) (hg:Gl X x) (ha:IC X (e::es) fa) (rV:(x==("__debug__":Str))=false:=by decide) (he:starEach (e::es) X.env=(false,eval e X.env)::starEach es X.env:=by exact eG rfl) (jX:(backTo pos (starEach es X.env)).any (·.1)=false:=by exact eX rfl):WD X (.Call (.Name x p) (e::es) [] pos) (cT g fa):=⟨JY c hr hg ha.go rV he jX⟩
end
end DL
namespace DL
open PySem PySem.Spec PyProof.Rows L2
variable [Mem]
def Es:D->Option Bool
 |.eD=>some false
 |.bl b=>some b
 |.int i=>some (i !=0)
 |.str z=>if z.length<=1000000 then some ((z.length:Int)!=0)else none
 |.tup ds=>some (!ds.isEmpty)
 |.lst ds=>some (!ds.isEmpty)
def qT (f:cf):cg:=λδ=>(f δ).bind Es
theorem IsL.isEmpty {C:Hp}{xs:List V}{ds:cw}(l:IsL C xs ds):xs.isEmpty=ds.isEmpty:=by cases l<;>rfl
theorem MV {K:W.Frag}{C H:Hp}{v:V}{d:D}{b:Bool}(s:dZ C H) (i:sf C H v d) (h:Es d=some b):Pd K v H b:=by
 cases d with
 |eD=>cases h;have:=i.is (λ_ z=>by cases z);cases this;rfl
 |bl c=>cases h;have:=i.is (λ_ z=>by cases z);cases this;rfl
 |int c=>cases h;have:=i.is (λ_ z=>by cases z);cases this;rfl
 |str z=>
  simp only[Es]at h;split at h
  ·rename_i hz;cases h;have:=i.is (λ_ z=>by cases z);cases this
   exact⟨aD hz (by decide),rfl⟩
  ·cases h
 |tup ds=>
  cases h;obtain⟨a,xs,rfl,hq,l,_⟩:=i.tup (K:=K) s;exact .inr (.inl ⟨xs,hq,by rw[l.isEmpty]⟩)
 |lst ds=>
  cases h;obtain⟨a,xs,rfl,hq,l⟩:=i.list (K:=K) s;exact .inl ⟨xs,hq,by rw[l.isEmpty]⟩
section
variable {X:Cx}{a b c e o:cG}{pos p p2:Pos}{f g h:cf}
theorem J5 (ha:PO X e f) (he:∀whole,isTrue e X.env whole=(do let v <-whole;standAt e.pos;holding [v] (truthy v)):=by intro _;rfl):PQ X e (qT f):=(IX ha he).imp λσ H Q ⟨C,δ,b,x,q,k⟩=>by
 unfold qT at q;cases hf:f δ with
 |none=>rw[hf]at q;cases q
 |some d=>
  rw[hf]at q;exact⟨C,δ,d,x,hf,λv C' H' ev i=>⟨b,MV ev.s i q,k C' H' ev⟩⟩
theorem J6:vM X (binaryOp .Add) (λx y H Q=>∃a b ys,x=.ref a/\y=.ref b/\jr X.K H a []/\jr X.K H b ys/\Q (.ref b) H):=by
 intro pins s σ H x y v u Q I rx ry h;obtain⟨a,b,ys,rfl,rfl,ha,hb,q⟩:=h;cases rx;cases ry;obtain⟨dF,r1,p1,_⟩:=I.tuple ha;obtain⟨fA,r2,p2,_⟩:=I.tuple hb;have e0:dF=[]:=by cases r1;rfl
 obtain⟨⟨cls,dd,data,sl⟩,ho,hc,n,hd⟩:=id p1;obtain⟨⟨Pk,LP,data2,Jf⟩,vN,vk,n2,hd2⟩:=id p2;simp only at hc hd vk hd2;subst hc hd vk hd2;exact concat_meets ⟨_,ho,rfl⟩ ⟨_,vN,rfl⟩ noFill_tuple_add seq_tuple_add PySem.F.slot_tuple_add PySem.F.entry_tuple_add (PySem.F.args_tuple_add_2 _ _)
   (tuple_addW0 a b dF.toArray fA.toArray n n2 dd LP sl Jf (by simp[e0])) ⟨ho,vN,⟨.ref b,H,I,rfl,q⟩⟩
def nJ:D->D->Option D
 |.tup a,.tup b=>if a.length+b.length<=1000000 then some (.tup (a++b))else none
 |_,_=>none
theorem MW:Oa (λx y H Q=>(∃a b ys,x=.ref a/\y=.ref b/\jr X.K H a []/\jr X.K H b ys/\Q (.ref b) H)\/N7 X.K x y H Q) nJ:=λC H x y dx dy d Q s ix iy q k=>by
 unfold nJ at q;split at q
 ·rename_i ds es;split at q
  ·rename_i hz;cases q;obtain⟨a,xs,rfl,hq,l,hc⟩:=ix.tup (K:=X.K) s;obtain⟨b,ys,rfl,UM,l2,vk⟩:=iy.tup (K:=X.K) s;cases ds with
   |nil=>
    cases l;exact .inl ⟨a,b,ys,rfl,rfl,hq,UM,k _ C H (.refl s) (.tup vk l2)⟩
   |cons d0 ds=>
    refine .inr ⟨a,b,xs,ys,rfl,rfl,hq,UM,(λz=>by rw[z]at l;cases l),by rw[l.length,l2.length];exact aD hz (by decide),λz=>?_,λz t ht=>?_⟩
    ·subst z;cases l2;exact k _ C H (.refl s) (.tup hc (by rw[bD];exact l))
    ·exact k _ _ _ (.new s ht) (.tup dc ((l.append l2).mono (eR (s.free ht))))
  ·cases q
 ·cases q
theorem MX (ha:PO X a f) (hb:PO X b g):PD X (.BinOp a .Add b pos) (dz nJ f g):=zH (J6.or Mi) MW ha hb
theorem IsL.Qz {C:Hp}{xs:List V}{ds:cw}(l:IsL C xs ds) {lo hi:Option Int}(h:HT.iF xs.length 0 lo=0/\HT.iF xs.length xs.length hi=xs.length):IsL C xs (cutD ds lo hi):=by
 unfold cutD;rw[<-l.length,h.1,h.2,List.drop_zero,Nat.sub_zero,l.length,List.take_length];exact l
end
end DL
namespace DL
open PySem PySem.Spec PyProof.Rows L2
instance:DecidableEq D:=Classical.typeDecidableEq D
mutual
inductive KI (h:Heap):cy->D->Prop where
 |int (n:Int) (t:Tok):KI h (.int n t) (.int n)
 |tup {a:cF}{o:Obj}{items:Array cy}{n:Nat}{ds:cw}:h.get? a=some o->o.cls=.type "tuple"->o.data=.seq items n->sP h items.toList ds->KI h (.ref a) (.tup ds)
inductive sP (h:Heap):cx->cw->Prop where
 |nil:sP h [] []
 |cons {v:cy}{d:D}{vs:cx}{ds:cw}:KI h v d->sP h vs ds->sP h (v::vs) (d::ds)
end
theorem sP.length {h:Heap}:∀{vs:cx}{ds:cw},sP h vs ds->vs.length=ds.length
 |_,_,.nil=>rfl
 |_,_,.cons _ t=>congrArg (·+1) t.length
theorem sP.get {h:Heap}:∀{vs:cx}{ds:cw}{i:Nat}{v:cy},sP h vs ds->vs[i]? =some v->∃d,ds[i]? =some d/\KI h v d
 |_,_,_,_,.nil,e=>by simp at e
 |_,_,0,_,.cons h _,e=>⟨_,rfl,by simp only[aN,Option.some.injEq]at e;subst e;exact h⟩
 |_,_,i+1,_,.cons _ t,e=>by
  obtain⟨d,h1,h2⟩:=t.get (i:=i) (by simpa using e)
  exact⟨d,by simpa using h1,h2⟩
mutual
theorem KI.inj {h:Heap}:∀{v:cy}{d e:D},KI h v d->KI h v e->d=e
 |_,_,_,.int n t,.int _ _=>rfl
 |_,_,_,.tup h1 h2 h3 l,.tup BF DG Jv l'=>by
  rw[h1]at BF;cases BF;rw[h3]at Jv;injection Jv with e1 _;subst e1
  rw[l.inj l']
theorem sP.inj {h:Heap}:∀{vs:cx}{ds es:cw},sP h vs ds->sP h vs es->ds=es
 |_,_,_,.nil,.nil=>rfl
 |_,_,_,.cons h t,.cons h' t'=>by rw[h.inj h',t.inj t']
end
mutual
theorem KI.keeps {h h':Heap}{x:cF}{ox:Obj}{es:Array DictEntry}{ep:Nat}(ho:h.get? x=some ox) (hd:ox.data=.dict es ep) (hs:Heap.SameBut x h h'):∀{v:cy}{d:D},KI h v d->KI h' v d
 |_,_,.int n t=>.int n t
 |_,_,@KI.tup _ a o items n ds h1 h2 h3 l=>by
  have jZ:a≠x:=by
   rintro rfl
   rw[ho]at h1;cases h1;rw[hd]at h3;exact nomatch h3
  exact .tup ((hs.2 a jZ).trans h1) h2 h3 (sP.keeps ho hd hs l)
theorem sP.keeps {h h':Heap}{x:cF}{ox:Obj}{es:Array DictEntry}{ep:Nat}(ho:h.get? x=some ox) (hd:ox.data=.dict es ep) (hs:Heap.SameBut x h h'):∀{vs:cx}{ds:cw},sP h vs ds->sP h' vs ds
 |_,_,.nil=>.nil
 |_,_,.cons h t=>.cons (KI.keeps ho hd hs h) (sP.keeps ho hd hs t)
end
mutual
def eW:D->Int
 |.int n=>hashInt n
 |.tup ds=>reduceHash (Builtin.Tuple.tupleHashOf (mT ds))
 |_=>0
def mT:cw->cq
 |[]=>[]
 |d::ds=>eW d::mT ds
end
mutual
def xg:D->Nat
 |.tup ds=>pY ds+1
 |_=>1
def pY:cw->Nat
 |[]=>0
 |d::ds=>xg d+pY ds
end
theorem pq:∀a b:cw,mT (a++b)=mT a++mT b
 |[],b=>by simp[mT]
 |x::a,b=>by simp[mT,pq a b]
theorem pA:∀a b:cw,pY (a++b)=pY a+pY b
 |[],b=>by simp[pY]
 |x::a,b=>by simp[pY,pA a b,Nat.add_assoc]
section
variable {prog:cB}{w:cC}{E:ck}
theorem KI.hash (n:Nat):∀(A:cD) (s:cz) (v:cy) (d:D) (Q:Int->cz->Prop),dY d<=n->A.units+n<cLine->KI s.heap v d->Q (eW d) {s with toks:=s.toks+xg d}->wpAny (model prog w) A (pyHash v) Q E s:=by
 induction n with
 |zero=>
  intro A s v d Q hn hu k h;cases k with
  |int i t=>
   unfold eW xg at h;exact wpAny_pyHash_int h
  |tup h1 h2 h3 l=>unfold dY at hn;omega
 |succ n ih=>
  intro A s v d Q hn hu k h;cases k with
  |int i t=>
   unfold eW xg at h;exact wpAny_pyHash_int h
  |@tup a o items m ds ho hc hd l=>
   have hT:s.TypeIs (.ref a) "tuple":=⟨o,ho,hc⟩;have Aq:iM ds<=n:=by unfold dY at hn;omega
   unfold eW xg at h;unfold pyHash
   first|unfold pyHashByItsType|skip
   first|refine aa (wpAny_cRoomFor_or (.inr (by omega)) ?_)|skip
   refine aa (wpAny_specialOf hT F.slot_tuple_hash.lookup ?_);show wpAny _ _ (if(some (Value.builtin "tuple.__hash__")==some Value.none)=true then _ else _) Q E s
   rw[if_neg (by rw[beq_builtin_none];exact bc)]
   refine aa (wpAny_specialOf hT F.slot_tuple_hash.lookup ?_);show wpAny _ _ (callSpecialIfBoundUnlessNone? (.ref a) "__hash__" _>>=_) Q E s;refine aa (wpAny_callSpecialIfBoundUnlessNone?_slot hT F.slot_tuple_hash (bO F.slot_tuple_hash hT F.entry_tuple_hash ?_ (F.args_tuple_hash_1 _)));show wpAny _ _ (Builtin.Tuple.tupleItemsOf (.ref a)>>=_) _ _ s;refine aa (wpAny_tupleItemsOf ho hd ?_);refine aa ?_;rw[<-Array.forIn_toList];refine wpAny_forIn_list _
    (λrest (b:Array Int) s'=>∃done left,ds=done++left/\sP s.heap rest left/\b.toList=mT done/\s'={s with toks:=s.toks+pY done})
    _ ?_ ?_ _ _ ⟨[],ds,rfl,l,by simp[mT],by simp[pY]⟩
   ·rintro x rest b s' ⟨done,left,rfl,hl,hb,rfl⟩
    cases hl with
    |@cons _ k _ Tj h1 jk=>
     have hk:dY k<=n:=aD (j3 (aM _ af)) Aq;refine aa (ih _ {s with toks:=s.toks+pY done} x k _ hk ?_ h1 ?_)
     ·show A.units+1+n<cLine;omega
     ·first
       |exact aj ⟨done++[k],Tj,by simp,jk,by simp[hb,pq,mT],by simp[Nat.add_assoc,pA,pY]⟩
       |exact aa (aj (aj ⟨done++[k],Tj,by simp,jk,by simp[hb,pq,mT],by simp[Nat.add_assoc,pA,pY]⟩))
   ·rintro b s' ⟨done,left,rfl,hl,hb,rfl⟩
    cases hl;rw[bD]at h;show wpAny _ _ (retInt (Builtin.Tuple.tupleHashOf b.toList)) _ _ _;rw[hb];refine wpAny_ret_mkInt ?_;show wpAny _ _ (if(decide (-(2:Int)^63<=Builtin.Tuple.tupleHashOf (mT done))&&decide (Builtin.Tuple.tupleHashOf (mT done)<2^63))=true then _ else _) Q E _
    unfold reduceHash at h;by_cases hr:(decide (-(2:Int)^63<=Builtin.Tuple.tupleHashOf (mT done))&&decide (Builtin.Tuple.tupleHashOf (mT done)<2^63))=true
    ·rw[if_pos hr];rw[if_pos hr]at h;exact aj (by simpa [Nat.add_assoc]using h)
    ·rw[if_neg hr];rw[if_neg hr]at h;exact aa (wpAny_rule (aj (by simpa [Nat.add_assoc]using h)))
theorem KI.eq (n:Nat):∀(A:cD) (s:cz) (u v:cy) (d e:D),dY d<=n->A.units+n<cLine->KI s.heap u d->KI s.heap v e->SeqAt.EqAt A s u v (dU d e):=by
 induction n with
 |zero=>
  intro A s u v d e hn hu ku kv;have iG:A.units<cLine:=by omega
  cases ku with
  |int i t=>
   cases kv with
   |int j t'=>unfold dU;exact SeqAt.EqAt.int_int i t j t'
   |@tup b o2 gJ n2 es vN vk hd2 l2=>unfold dU;exact SeqAt.EqAt.int_tuple i t (items:=gJ) ⟨o2,vN,vk,n2,hd2⟩ iG
  |tup h1 h2 h3 l=>unfold dY at hn;omega
 |succ n ih=>
  intro A s u v d e hn hu ku kv;have iG:A.units<cLine:=by omega
  cases ku with
  |int i t=>
   cases kv with
   |int j t'=>unfold dU;exact SeqAt.EqAt.int_int i t j t'
   |@tup b o2 gJ n2 es vN vk hd2 l2=>unfold dU;exact SeqAt.EqAt.int_tuple i t (items:=gJ) ⟨o2,vN,vk,n2,hd2⟩ iG
  |@tup a o items m ds ho hc hd l=>
   have Aq:iM ds<=n:=by unfold dY at hn;omega
   have p1:IsTup s.heap a items:=⟨o,ho,hc,m,hd⟩;cases kv with
   |int j t'=>unfold dU;exact SeqAt.EqAt.tuple_int j t' p1 iG
   |@tup b o2 gJ n2 es vN vk hd2 l2=>
    have p2:IsTup s.heap b gJ:=⟨o2,vN,vk,n2,hd2⟩;by_cases FN:a=b
    ·subst FN;have e:=KI.inj (KI.tup ho hc hd l) (KI.tup vN vk hd2 l2);rw[<-e,qu];exact SeqAt.EqAt.same _
    ·have hits:∀j (h1:j<items.size) (h2:j<gJ.size),SeqAt.EqAt A.in1 s items[j] gJ[j] (dU (ds.getD j .eD) (es.getD j .eD)):=λj h1 h2=>by
      obtain⟨d1,e1,i1⟩:=l.get (i:=j) (v:=items[j]) (by simp[h1])
      obtain⟨d2,e2,i2⟩:=l2.get (i:=j) (v:=gJ[j]) (by simp[h2])
      rw[ak,ak,e1,e2];exact ih A.in1 s _ _ d1 d2 (aD (j3 (bo e1)) Aq) (by show A.units+1+n<cLine;omega) i1 i2
     have q:=SeqAt.RcAt.tuples p1 p2 iG hits;have z1:items.size=ds.length:=by rw[<-aO,l.length]
     have z2:gJ.size=es.length:=by rw[<-aO,l2.length]
     unfold dU;rw[lE];rw[z1,z2]at q;exact SeqAt.EqAt.of_refs FN q
mutual
theorem KI.dU {h h':Heap}:∀{u v:cy}{d e:D},KI h u d->KI h' v e->dU d e=decide (d=e)
 |_,_,_,_,.int i t,.int j t'=>by unfold DL.dU;by_cases e:i=j<;>simp[e]
 |_,_,_,_,.int i t,.tup _ _ _ _=>by unfold DL.dU;simp
 |_,_,_,_,.tup _ _ _ _,.int j t'=>by unfold DL.dU;simp
 |_,_,_,_,.tup _ _ _ l,.tup _ _ _ l'=>by
  unfold DL.dU;rw[sP.lD l l'];simp
theorem sP.lD {h h':Heap}:∀{us vs:cx}{ds es:cw},sP h us ds->sP h' vs es->lD ds es=decide (ds=es)
 |_,_,_,_,.nil,.nil=>by unfold DL.lD;simp
 |_,_,_,_,.nil,.cons _ _=>by unfold DL.lD;simp
 |_,_,_,_,.cons _ _,.nil=>by unfold DL.lD;simp
 |_,_,_,_,.cons a b,.cons a' b'=>by
  unfold DL.lD;rw[KI.dU a a',sP.lD b b'];simp[Bool.decide_and]
end
theorem KI.quiet (n:Nat):∀(A:cD) (s:cz) (u:cy) (d:D) (Q:Bool->cz->Prop),dY d<=n->KI s.heap u d->Q true s->wpAny (model prog w) A (eqIsQuiet n u) Q E s:=by
 induction n with
 |zero=>
  intro A s u d Q hn k h;cases k with
  |int i t=>rw[eqIsQuiet_byValue _ rfl];exact aj h
  |tup h1 h2 h3 l=>unfold dY at hn;omega
 |succ n ih=>
  intro A s u d Q hn k h;cases k with
  |int i t=>rw[eqIsQuiet_byValue _ rfl];exact aj h
  |@tup a o items m ds ho hc hd l=>
   have hT:s.TypeIs (.ref a) "tuple":=⟨o,ho,hc⟩;have Aq:iM ds<=n:=by unfold dY at hn;omega
   unfold eqIsQuiet;refine aa (wpAny_specialOf hT F.slot_tuple_eq.lookup ?_);show wpAny _ _ (isInstance (.ref a) (.type "tuple")>>=_) _ _ s;refine aa (wpAny_isInstance hT isSubtype_tuple_tuple ?_);simp only[bV,aJ,bF];refine aa (wpAny_seqItems ho hd ?_);refine aa ?_;show wpAny _ _ (forIn items _ _) _ _ s;rw[<-Array.forIn_toList];refine wpAny_forIn_list _ (λrest r s'=>r.1=none/\s'=s/\∃es,(∀e∈es,dY e<=n)/\sP s.heap rest es) _ ?_ ?_ _ _ ⟨rfl,rfl,ds,λe he=>aD (j3 he) Aq,l⟩
   ·rintro v rest r s' ⟨hr,rfl,es,he,hk⟩
    cases hk with
    |cons k1 k2=>
     refine aa (ih A s' v _ _ (he _ af) k1 ?_);simp only[bV,aJ,bF];exact aj ⟨rfl,rfl,_,λe h=>he e (ai _ h),k2⟩
   ·rintro⟨r1,r2⟩ s' ⟨hr,rfl,_⟩
    simp only at hr;subst hr;exact aj h
end
def mn (prog:cB) (w:cC):HeapKind prog w D where
 is:=λh d a=>KI h (.ref a) d/\dY d<=4
 hash:=eW
 draws:=xg
 room:=λA=>A.units+8<cLine
 inj:=λhx hy=>hx.1.inj hy.1
 keeps:=λx ho hd hs=>⟨x.1.keeps ho hd hs,x.2⟩
 pyHash:=λhu hk h=>KI.hash 4 _ _ _ _ _ hk.2 (by omega) hk.1 h
 eqBool:=λhu hx hy h=>KI.eq 4 _ _ _ _ _ _ hx.2 (by omega) hx.1 hy.1 _ _ _ _ (by rw[KI.dU hx.1 hy.1];exact h)
 quiet:=λhk h=>KI.quiet 8 _ _ _ _ _ (aD hk.2 (by decide)) hk.1 h
end DL
namespace DL
open PySem PySem.Spec PyProof.Rows L2
mutual
def oi:D->Bool
 |.int _=>true
 |.tup ds=>nN ds
 |_=>false
def nN:cw->Bool
 |[]=>true
 |d::ds=>oi d&&nN ds
end
section
variable {X:Cx}{pins:cn}{σ:L2.St}{C H:Hp}{s:cz}
mutual
theorem Is.ki (I:Inv X pins σ H s) (sub:dZ C H):∀(d:D) {v:V}{u:cy},oi d=true->Is C v d->RelV v u->KI s.heap u d
 |.int i,_,_,_,is,ru=>by
  cases is;obtain⟨t,rfl⟩:=ru;exact .int i t
 |.tup ds,_,_,hk,is,ru=>by
  cases is with
  |tup h l=>
   cases ru;obtain⟨dF,r,⟨o,ho,hc,n,hd⟩,_⟩:=I.tuple (jr.of (K:=X.K) (sub _ _ h));unfold oi at hk;exact .tup ho hc hd (by have:=IsL.XX I sub ds hk l r;simpa using this)
 |.eD,_,_,hk,_,_=>by unfold oi at hk;cases hk
 |.bl _,_,_,hk,_,_=>by unfold oi at hk;cases hk
 |.str _,_,_,hk,_,_=>by unfold oi at hk;cases hk
 |.lst _,_,_,hk,_,_=>by unfold oi at hk;cases hk
theorem IsL.XX (I:Inv X pins σ H s) (sub:dZ C H):∀(ds:cw) {vs:List V}{us:cx},nN ds=true->IsL C vs ds->Vals vs us->sP s.heap us ds
 |[],_,_,_,l,r=>by
  cases l;cases r;exact .nil
 |d::ds,_,_,hk,l,r=>by
  cases l with
  |cons h t=>
   cases r with
   |cons r rs=>
    unfold nN at hk;rw[Bool.and_eq_true]at hk;exact .cons (Is.ki I sub d hk.1 h r) (IsL.XX I sub ds hk.2 t rs)
end
end
structure dq where
 W:D->Option D
 enc:D->Nat
 N:Nat
 hN:N<=1000000
 lt:∀k d,W k=some d->enc k<N
 inj:∀k k' d d',W k=some d->W k'=some d'->enc k=enc k'->k=k'
 key:∀k d,W k=some d->oi k=true/\dY k<=4
def jm (a:cF) (xs:List (D×cF×cy)):Heap->Prop:=λh=>∃o es ep,h.get? a=some o/\o.ExactDict/\o.data=.dict es ep/\es.toList=xs.map (λx=>(⟨eW x.1,.ref x.2.1,x.2.2⟩:DictEntry))/\(xs.map (·.1)).Nodup
structure ez (a:cF) (M:dq) (C H:Hp) (xs:List (D×cF×cy)):Prop where
 h:H a=some (.ext (jm a xs))
 c:C a=none
 sm:(a==sysModules)=false
 nd:(xs.map (·.1)).Nodup
 ent:∀x∈xs,Is C (.ref x.2.1) x.1/\∃v d,RelV v x.2.2/\Is C v d/\M.W x.1=some d
theorem zO:∀(N:Nat) (l:List Nat),l.Nodup->(∀x∈l,x<N)->l.length<=N
 |0,l,_,h=>by
  cases l with
  |nil=>exact au _
  |cons a r=>exact absurd (h a af) (Nat.not_lt_zero _)
 |N+1,l,nd,h=>by
  have h1:=zO N (l.erase N) (nd.erase N) (λx hx=>by
   have:=(nd.mem_erase_iff.mp hx);have:=h x this.2;omega)
  have h2:l.length<=(l.erase N).length+1:=by
   rw[List.length_erase];split<;>omega
  omega
theorem ez.len {a:cF}{M:dq}{C H:Hp}{xs:List (D×cF×cy)}(m:ez a M C H xs):xs.length<=M.N:=by
 have h:=zO M.N (xs.map λx=>M.enc x.1) ?_ ?_
 ·simpa using h
 ·have nd:=m.nd;rw[List.Nodup,List.pairwise_map]at nd ⊢;refine List.Pairwise.imp_of_mem (λ{x y} hx hy jZ he=>?_) nd
  obtain⟨_,v,d,_,_,w1⟩:=m.ent x hx;obtain⟨_,v',d',_,_,w2⟩:=m.ent y hy;exact jZ (M.inj _ _ _ _ w1 w2 he)
 ·intro n hn;obtain⟨x,hx,rfl⟩:=List.mem_map.mp hn;obtain⟨_,v,d,_,_,w1⟩:=m.ent x hx;exact M.lt _ _ w1
section
variable {a:cF}{M:dq}{C H C' H':Hp}{xs:List (D×cF×cy)}
theorem ez.QA (m:ez a M C H xs) (e:mE C H C' H'):ez a M C' H' xs where
 h:=e.h _ _ m.h
 c:=by
  cases q:C' a with
  |none=>rfl
  |some u=>
   rcases e.n a u q with z|z
   ·rw[m.c]at z;cases z
   ·rw[m.h]at z;cases z
 sm:=m.sm
 nd:=m.nd
 ent:=λx hx=>let ⟨h1,v,d,h2,h3,h4⟩:=m.ent x hx;⟨h1.mono e.c,v,d,h2,h3.mono e.c,h4⟩
theorem ez.yR (m:ez a M C H xs) {b:cF}{o:HO}(hb:b≠a):ez a M C (upd H b o) xs where
 h:=by rw[cV (Ne.symm hb)];exact m.h
 c:=m.c
 sm:=m.sm
 nd:=m.nd
 ent:=m.ent
theorem ez.yS (m:ez a M C H xs) {b:cF}{o:HO}(hb:b≠a) (hc:C b=none):ez a M (upd C b o) H xs where
 h:=m.h
 c:=by rw[cV (Ne.symm hb)];exact m.c
 sm:=m.sm
 nd:=m.nd
 ent:=λx hx=>let ⟨h1,v,d,h2,h3,h4⟩:=m.ent x hx;⟨h1.mono (eR hc),v,d,h2,h3.mono (eR hc),h4⟩
theorem ez.ne (m:ez a M C H xs) {b:cF}(h:∀u,H b=some u->DF u=false):b≠a:=λz=>by
 subst z;have:=h _ m.h;cases this
theorem ez.Og (m:ez a M C H xs) {b:cF}(h:H b=none):b≠a:=λz=>by
 subst z;rw[m.h]at h;cases h
end
@[reducible] def dg (a:cF) (M:dq):Mem where
 cell:=some a
 face:=some a
 ok:=λC H=>∃xs,ez a M C H xs
 has:=λC H k=>∃xs,ez a M C H xs/\k∈xs.map (·.1)
 rel:=λC H C' H'=>((∃xs,ez a M C H xs)->∃xs,ez a M C' H' xs)/\∀k,(∃xs,ez a M C H xs/\k∈xs.map (·.1))->∃xs,ez a M C' H' xs/\k∈xs.map (·.1)
 of0:=λe=>⟨λ⟨xs,m⟩=>⟨xs,m.QA e⟩,λk ⟨xs,m,hk⟩=>⟨xs,m.QA e,hk⟩⟩
 trans:=λr1 r2=>⟨λh=>r2.1 (r1.1 h),λk h=>r2.2 k (r1.2 k h)⟩
 chg:=λ{_ _ _ _ b o} r hb=>⟨λ⟨xs,m⟩=>let ⟨ys,m'⟩:=r.1 ⟨xs,m⟩;⟨ys,m'.yR (m.Og hb)⟩,λk ⟨xs,m,hk⟩=>let ⟨ys,m',yT⟩:=r.2 k ⟨xs,m,hk⟩;⟨ys,m'.yR (m.Og hb),yT⟩⟩
 give:=λ{_ _ _ H' b o} r hc ho hx=>⟨λh=>let ⟨ys,m'⟩:=r.1 h;⟨ys,m'.yS (m'.ne λu q=>by rw[ho]at q;cases q;exact hx) hc⟩,λk h=>let ⟨ys,m',yT⟩:=r.2 k h;⟨ys,m'.yS (m'.ne λu q=>by rw[ho]at q;cases q;exact hx) hc,yT⟩⟩
 SS:=λr h=>r.1 h
 Jt:=λr _ h=>r.2 _ h
 Rz:=λ⟨xs,m⟩ h=>⟨xs,m.yR (m.ne h)⟩
 Hg:=λ_ h ⟨xs,m,hk⟩=>⟨xs,m.yR (m.ne h),hk⟩
 SU:=λ⟨xs,m⟩ hc ho hx=>⟨xs,m.yS (m.ne λu q=>by rw[ho]at q;cases q;exact hx) hc⟩
 Ju:=λ_ hc ho hx ⟨xs,m,hk⟩=>⟨xs,m.yS (m.ne λu q=>by rw[ho]at q;cases q;exact hx) hc,hk⟩
section
variable {X:Cx}{M:dq}{a:cF}{pins:cn}{σ:L2.St}{C H:Hp}{s:cz}{xs ys:List (D×cF×cy)}
theorem ez.dict (I:Inv X pins σ H s) (sub:dZ C H) (m:ez a M C H xs):s.heap.DictOfH (mn X.prog X.w) a xs:=by
 obtain⟨⟨o,es,ep,h1,h2,h3,h4,h5⟩,_⟩:=I.fX a _ m.h;exact⟨o,es,ep,h1,h2,h3,h4,λx hx=>by
  obtain⟨h1,v,d,_,_,w⟩:=m.ent x hx;obtain⟨k1,k2⟩:=M.key _ _ w;exact⟨Is.ki I sub _ k1 h1 rfl,k2⟩,h5⟩
theorem ez.keys_eq (I:Inv X pins σ H s) (sub:dZ C H) (m:ez a M C H xs) (m':ez a M C H ys):xs.map (·.1)=ys.map (·.1):=by
 obtain⟨o,es,ep,h1,h2,h3,h4,h5,h6⟩:=m.dict I sub;obtain⟨o',Fq,OT,BF,DG,Jv,My,XY,h6'⟩:=m'.dict I sub;rw[h1]at BF;cases BF;rw[h3]at Jv;injection Jv with e1 _;subst e1
 rw[h4]at My;clear h1 h2 DG h3 h4 h6 h6' m m';induction xs generalizing ys with
 |nil=>cases ys with
  |nil=>rfl
  |cons _ _=>cases My
 |cons x xs ih=>
  cases ys with
  |nil=>cases My
  |cons y ys=>
   rw[aF,aF]at My;injection My with e1 e2
   have ea:x.2.1=y.2.1:=by
    have:(entryOfKey (mn X.prog X.w) x).key=(entryOfKey (mn X.prog X.w) y).key:=congrArg DictEntry.key e1;injection this
   have k1:=(h5 x af).1;have k2:=(XY y af).1;rw[ea]at k1;rw[aF,aF,k1.inj k2,ih (λx hx=>h5 x (ai _ hx)) (λx hx=>XY x (ai _ hx)) e2]
theorem rA {xs:List (D×cF×cy)}{k:D}:(atKey xs k).isSome=true↔k∈xs.map (·.1):=by
 unfold atKey;rw[Option.isSome_map,List.find?_isSome];constructor
 ·rintro⟨x,hx,e⟩
  exact List.mem_map.mpr ⟨x,hx,by simpa using e⟩
 ·intro h;obtain⟨x,hx,e⟩:=List.mem_map.mp h;exact⟨x,hx,by simpa using e⟩
theorem Hv {xs:List (D×cF×cy)}{k:D}{p:cF×cy}(h:atKey xs k=some p):(k,p)∈xs:=by
 unfold atKey at h;cases q:xs.find? (λx=>decide (x.1=k))with
 |none=>rw[q]at h;cases h
 |some x=>
  rw[q]at h;cases h;have h1:=List.mem_of_find?_eq_some q;have h2:=List.find?_some q;have h3:x.1=k:=by simpa using h2
  rw[<-h3];exact h1
def QB (a:cF) (M:dq):R2:=λx y H Q=>∃C ds xs,dZ C H/\Is C x (.tup ds)/\oi (.tup ds)=true/\dY (.tup ds)<=4/\y=.ref a/\ez a M C H xs/\Q (.bl (!(atKey xs (.tup ds)).isSome)) H
theorem tY (hu:X.A.units+64<cLine):vM X (compareOp .NotIn) (QB a M):=by
 intro pins s σ H x y v u Q I rx ry h;obtain⟨C,ds,xs,sub,is,hk,hd,rfl,m,q⟩:=h;cases is with
 |@tup p ws _ hp l=>
  cases rx;cases ry;have DT:(mn X.prog X.w).is s.heap (.tup ds) p:=⟨Is.ki I sub _ hk (.tup hp l) rfl,hd⟩;have hm:=m.dict I sub;show wpAny _ _ (do return .bool (!(<-contains (.ref a) (.ref p)))) (EP X pins σ Q) X.xe s
  refine aa ?_;unfold contains;try with_reducible refine bp ?_
  refine aa (wpAny_specialOf hm.typeIs slot_dict_contains.lookup ?_);show wpAny _ _ (if(some (Value.builtin "dict.__contains__")==some Value.none)=true then _ else _) _ X.xe s
  rw[if_neg (by rw[beq_builtin_none];exact bc)]
  refine aa (wpAny_callSpecialUnlessNone?_slot (name:=Str.ofString "__contains__") hm.typeIs slot_dict_contains
   (bO slot_dict_contains hm.typeIs entry_dict_contains ?_ (args_dict_contains _ _)))
  show wpAny _ _ (dictGet a (.ref p)>>=_) _ _ s;have jn:(mn X.prog X.w).room X.A.in1:=by show X.A.units+1+8<cLine;omega
  refine aa (wpAny_dictGet_heap jn DT hm ?_);cases hf:atKey xs (.tup ds)with
  |some p'=>
   rw[hf]at q;show wpAny _ _ (ret (.bool true)) _ _ _;exact aj ⟨_,rfl,bS (aj ⟨.bl _,H,I.tok _,rfl,q⟩)⟩
  |none=>
   rw[hf]at q;show wpAny _ _ (Builtin.Dict.pendingKey? a (.ref p)>>=_) _ _ _;exact aa (wpAny_pendingKey_other m.sm (aj ⟨_,rfl,bS (aj ⟨.bl _,H,I.tok _,rfl,q⟩)⟩))
def Tn (a:cF) (M:dq):R2:=λx y H Q=>∃C ds xs,dZ C H/\x=.ref a/\Is C y (.tup ds)/\oi (.tup ds)=true/\dY (.tup ds)<=4/\ez a M C H xs/\D.tup ds∈xs.map (·.1)/\∀v d,M.W (.tup ds)=some d->Is C v d->Q v H
theorem FU (hu:X.A.units+64<cLine):Jh X (Tn a M):=by
 intro value slice pins s σ H x y v u Q I rx ry h hs;obtain⟨C,ds,xs,sub,rfl,is,hk,hd,m,o8,q⟩:=h;cases is with
 |@tup p ws _ hp l=>
  cases rx;cases ry;have DT:(mn X.prog X.w).is s.heap (.tup ds) p:=⟨Is.ki I sub _ hk (.tup hp l) rfl,hd⟩;have hm:=m.dict I sub;have jn:(mn X.prog X.w).room X.A.in1:=by show X.A.units+1+8<cLine;omega
  cases hf:atKey xs (.tup ds)with
  |none=>
   have:=rA.mpr o8;rw[hf]at this;cases this
  |some pv=>
   obtain⟨_,v',d,r,i,w⟩:=m.ent _ (Hv hf);exact tail_any (ops:=[.ref a,.ref p]) hm.typeIs slot_dict_getitem.lookup (wpAny_getItem_heap jn DT hm hf ⟨v',H,I.tok _,r,q v' d w i⟩) hs
theorem xh {xs:List (D×cF×cy)}{k:D}{v:cy}:(xs.map (putAt k v)).map (·.1)=xs.map (·.1):=by
 rw[aW];apply bU
 intro x _;unfold putAt;simp only[Function.comp_apply];split<;>rfl
def To (a:cF) (M:dq):L1:=λo i v H Q=>∃C ds d xs,dZ C H/\o=.ref a/\Is C i (.tup ds)/\Is C v d/\M.W (.tup ds)=some d/\ez a M C H xs/\
 ∀ys,ez a M C (upd H a (.ext (jm a ys))) ys->(∀k,(∃zs,ez a M C H zs/\k∈zs.map (·.1))->k∈ys.map (·.1))->D.tup ds∈ys.map (·.1)->Q (upd H a (.ext (jm a ys)))
theorem B7 (hu:X.A.units+64<cLine):RY X (To a M):=by
 intro pins s σ H o i v ov iv u Q I ro ri rv h;obtain⟨C,ds,d,xs,sub,rfl,is,XZ,hw,m,q⟩:=h;obtain⟨hk,hd⟩:=M.key _ _ hw;cases is with
 |@tup p ws _ hp l=>
  cases ro;cases ri;have DT:(mn X.prog X.w).is s.heap (.tup ds) p:=⟨Is.ki I sub _ hk (.tup hp l) rfl,hd⟩;have hm:=m.dict I sub;have jn:(mn X.prog X.w).room X.A.in1:=by show X.A.units+1+8<cLine;omega
  refine wpAny_setItem_heap jn DT hm (λh' JU Hc=>?_) (aD m.len (aD M.hN (by decide)))
  have keys:(storedH xs (.tup ds) p u).map (·.1)=if(atKey xs (.tup ds)).isSome then xs.map (·.1)else xs.map (·.1)++[.tup ds]:=by
   unfold storedH;split
   ·exact xh
   ·simp
  have o8:D.tup ds∈(storedH xs (.tup ds) p u).map (·.1):=by
   rw[keys];split
   ·rename_i hh;exact rA.mp hh
   ·exact aM _ af
  have hold:∀k∈xs.map (·.1),k∈(storedH xs (.tup ds) p u).map (·.1):=λk h=>by
   rw[keys];split
   ·exact h
   ·exact bE _ h
  obtain⟨oo,es,ep,g1,g2,g3,g4,g5,g6⟩:=JU;have m':ez a M C (upd H a (.ext (jm a (storedH xs (.tup ds) p u)))) (storedH xs (.tup ds) p u):=by
   refine⟨dc,m.c,m.sm,g6,λx hx=>?_⟩
   unfold storedH at hx;split at hx
   ·obtain⟨y,hy,rfl⟩:=List.mem_map.mp hx;obtain⟨h1,v',d',r,i',w⟩:=m.ent y hy;unfold putAt;split
    ·rename_i e;refine⟨h1,v,d,rv,XZ,?_⟩;show M.W y.1=some d;rw[e];exact hw
    ·exact⟨h1,v',d',r,i',w⟩
   ·rcases List.mem_append.mp hx with hx|hx
    ·exact m.ent x hx
    ·rw[bw]at hx;subst hx;exact⟨.tup hp l,v,d,rv,XZ,hw⟩
  have ok:gF X.prog X.w (upd H a (.ext (jm a (storedH xs (.tup ds) p u)))) h' a (.ext (jm a (storedH xs (.tup ds) p u))):=
   ⟨⟨oo,es,ep,g1,g2,g3,g4,g6⟩,⟨oo,g1⟩,λh1 h2 ⟨o1,e1,p1,q1,q2⟩ st=>⟨o1,e1,p1,st _ q1,q2⟩⟩
  refine⟨_,I.write (e:=a) (by rw[m.h];exact trivial) (.inl rfl) (λb ob hb hq=>(Hc.2 b hb).trans hq) ⟨oo,g1⟩ ok,q _ m' (λk ⟨zs,mz,hz⟩=>hold k (by rw[m.keys_eq I sub mz];exact hz)) o8⟩
end
end DL
namespace DL
open PySem PySem.Spec PyProof.Rows L2
def Hw (δ' δ:dR):Prop:=δ'.length=δ.length/\∀(i:Nat) (s:Sl),δ'[i]? =some s->s=.no\/δ[i]? =some s\/∃ks Tj,s=.memo Tj/\δ[i]? =some (.memo ks)/\∀k∈Tj,k∈ks
section
variable [Mem] {δ δ':dR}{σ:L2.St}{B C0 H0 C H:Hp}
theorem Hw.own (w:Hw δ' δ) {i:Nat}{ds:cw}(q:δ'[i]? =some (.own ds)):δ[i]? =some (.own ds):=by
 rcases w.2 i _ q with z|z|⟨_,_,z,_⟩
 ·cases z
 ·exact z
 ·cases z
theorem Sx.weak (x:Sx δ σ C H) (w:Hw δ' δ):Sx δ' σ C H where
 sub:=x.sub
 dat:=λi d q=>by
  rcases w.2 i _ q with z|z|⟨_,_,z,_⟩
  ·cases z
  ·exact x.dat i d z
  ·cases z
 own:=λi ds q=>x.own i ds (w.own q)
 yM:=λi j ds es a q1 q2 q3 q4=>x.yM i j ds es a (w.own q1) (w.own q2) q3 q4
 len:=w.1.trans x.len
 mem:=λi ks q=>by
  rcases w.2 i _ q with z|z|⟨ks1,ks2,z,z2,z3⟩
  ·cases z
  ·exact x.mem i ks z
  ·cases z;obtain⟨a,h1,h2,h3,h4⟩:=x.mem i ks1 z2;exact⟨a,h1,h2,h3,λk hk=>h4 k (z3 k hk)⟩
theorem Gd.weak (g:Gd B C0 H0 δ σ C H) (w:Hw δ' δ):Gd B C0 H0 δ' σ C H:=⟨g.b,g.ev,g.x.weak w,λk ds a q1 q2=>g.fr k ds a (w.own q1) q2⟩
theorem Sx.zP (x:Sx δ σ C H) {i:Nat}{ks:cw}{k:D}(hi:δ[i]? =some (.memo ks)) (hk:Mem.has C H k):Sx (δ.set i (.memo (k::ks))) σ C H where
 sub:=x.sub
 dat:=λj d q=>by
  rcases getElem?_set_cases q with⟨rfl,e⟩|⟨hj,e⟩
  ·cases e
  ·exact x.dat j d e
 own:=λj ds q=>by
  rcases getElem?_set_cases q with⟨rfl,e⟩|⟨hj,e⟩
  ·cases e
  ·exact x.own j ds e
 yM:=λj l ds es a q1 q2 q3 q4=>by
  rcases getElem?_set_cases q1 with⟨_,e⟩|⟨_,e1⟩
  ·cases e
  rcases getElem?_set_cases q2 with⟨_,e⟩|⟨_,e2⟩
  ·cases e
  exact x.yM j l ds es a e1 e2 q3 q4
 len:=by simp[x.len]
 mem:=λj ls q=>by
  rcases getElem?_set_cases q with⟨rfl,e⟩|⟨hj,e⟩
  ·cases e;obtain⟨a,h1,h2,h3,h4⟩:=x.mem j ks hi;refine⟨a,h1,h2,h3,λc hc=>?_⟩
   rcases List.mem_cons.mp hc with rfl|hc
   ·exact hk
   ·exact h4 c hc
  ·exact x.mem j ls e
theorem Gd.zP (g:Gd B C0 H0 δ σ C H) {i:Nat}{ks:cw}{k:D}(hi:δ[i]? =some (.memo ks)) (hk:Mem.has C H k):Gd B C0 H0 (δ.set i (.memo (k::ks))) σ C H:=
 ⟨g.b,g.ev,g.x.zP hi hk,λj ds a q1 q2=>by
  rcases getElem?_set_cases q1 with⟨_,e⟩|⟨_,e⟩
  ·cases e
  ·exact g.fr j ds a e q2⟩
end
def forget (fs:List Nat) (δ:dR):dR:=fs.foldl (λδ i=>δ.set i .no) δ
theorem oj:∀(fs:List Nat) (δ:dR),(forget fs δ).length=δ.length
 |[],_=>rfl
 |i::fs,δ=>by
  show(forget fs (δ.set i .no)).length=_;rw[oj fs,List.length_set]
theorem xi:∀(fs:List Nat) (δ:dR) (i:Nat) (s:Sl),(forget fs δ)[i]? =some s->s=.no\/δ[i]? =some s
 |[],_,_,_,h=>.inr h
 |j::fs,δ,i,s,h=>by
  rcases xi fs (δ.set j .no) i s h with z|z
  ·exact .inl z
  ·rcases getElem?_set_cases z with⟨_,e⟩|⟨_,e⟩
   ·exact .inl e
   ·exact .inr e
theorem vt (fs:List Nat) (δ:dR) (i:Nat) (k:D) (ks:cw):Hw ((forget fs δ).set i (.memo [k])) (δ.set i (.memo (k::ks))):=by
 refine⟨by simp[oj],λj s q=>?_⟩
 rcases getElem?_set_cases q with⟨rfl,e⟩|⟨hj,e⟩
 ·have hl:j<δ.length:=by have:=Ec q;rwa [oj]at this
  exact .inr (.inr ⟨k::ks,[k],e,by rw[bf hl],λc hc=>by rw[bw]at hc;subst hc;exact af⟩)
 ·rcases xi fs δ j s e with z|z
  ·exact .inl z
  ·exact .inr (.inl (by rw[aG (Ne.symm hj)];exact z))
open Classical in
def lx (i:Nat) (fs:List Nat) (fk:cf) (fb:cc):cc:=λδ=>match δ[i]?,fk δ,fb δ with
 |some (.memo _),some (.tup ds),some (.next δ2)=>if oi (.tup ds)=true/\dY (.tup ds)<=4/\Hw ((forget fs δ).set i (.memo [.tup ds])) δ2 then some (.next ((forget fs δ).set i (.memo [.tup ds])))else none
 |_,_,_=>none
def iN (M:dq) (i:Nat) (fk:cf):cf:=λδ=>match δ[i]?,fk δ with
 |some (.memo ks),some (.tup ds)=>if oi (.tup ds)=true/\dY (.tup ds)<=4/\D.tup ds∈ks then M.W (.tup ds)else none
 |_,_=>none
def ju (M:dq) (i:Nat) (fk fe:cf):cc:=λδ=>match δ[i]?,fk δ,fe δ with
 |some (.memo ks),some (.tup ds),some d=>if M.W (.tup ds)=some d then some (.next (δ.set i (.memo (.tup ds::ks))))else none
 |_,_,_=>none
section
variable {X:Cx}{a:cF}{M:dq}{C0 H0:Hp}{e k o:cG}{body:List cH}{pos pos' p p2:Pos}{i:Nat}
theorem Hx (fs:List Nat) {fk:cf}{fb:cc}(hu:X.A.units+64<cLine) (hk:@PD (dg a M) X k fk) (ho:PE X o (gI i)) (hb:@yB (dg a M) X C0 H0 body fb) (hm:behindInMarks .NotIn o=false:=by first|exact sJ _|rfl):
  @PB (dg a M) X C0 H0 (.If (.Compare k [.NotIn] [o] pos) body [] pos') (lx i fs fk fb):=λB=>by
 letI:=dg a M
 refine(IL (Aw (tY (a:=a) (M:=M) hu) hk ho hm) (hb B) Au).imp λDn σ H ⟨C,δ,r,gd,q,fin⟩=>?_
 unfold lx at q;split at q
 ·rename_i ks ds δ2 hi J7 JJ;split at q
  ·rename_i hc;obtain⟨c1,c2,c3⟩:=hc;cases q;refine⟨C,δ,.tup ds,gd.x,J7,λv C1 H1 e1 i1=>?_⟩
   have g1:=gd.AK e1;obtain⟨a',h1,h2,⟨xs,m⟩,h4⟩:=g1.x.mem i ks hi;cases h1;refine⟨.ref a,h2,C1,ds,xs,e1.s,i1,c1,c2,rfl,m,_,rfl,?_⟩;cases hs:(atKey xs (.tup ds)).isSome with
   |true=>exact BR (fin σ C1 H1 ((g1.zP hi ⟨xs,m,rA.mp hs⟩).weak (vt fs δ i _ ks)))
   |false=>exact AF ⟨C1,δ,.next δ2,g1,JJ,λσ' C' H' g'=>fin σ' C' H' (g'.weak c3)⟩
  ·cases q
 ·cases q
theorem Et {fk:cf}(hu:X.A.units+64<cLine) (ho:PE X o (gI i)) (hk:@PD (dg a M) X k fk) (hs:nM k):@PD (dg a M) X (.Subscript o k pos) (iN M i fk):=by
 letI:=dg a M
 refine(Ji (FU (a:=a) (M:=M) hu) ho hk hs).imp λσ H Q ⟨C,δ,d,x,q,fin⟩=>?_
 unfold iN at q;split at q
 ·rename_i ks ds hi J7;split at q
  ·rename_i hc;obtain⟨c1,c2,c3⟩:=hc;obtain⟨a',h1,h2,_,_⟩:=x.mem i ks hi;cases h1;refine⟨.ref a,h2,C,δ,.tup ds,x,J7,λv C1 H1 e1 i1=>?_⟩
   obtain⟨a',h1,_,_,h4⟩:=(x.ev e1).mem i ks hi;obtain⟨xs,m,hx⟩:=h4 _ c3;refine⟨C1,ds,xs,e1.s,rfl,i1,c1,c2,m,hx,λw d' hw iw=>?_⟩
   rw[q]at hw;cases hw;exact fin w C1 H1 e1 iw
  ·cases q
 ·cases q
theorem B8 {C H:Hp}{xs ys:List (D×cF×cy)}(s:dZ C H) (m:ez a M C H xs) (m':ez a M C (upd H a (.ext (jm a ys))) ys) (hk:∀k,(∃zs,ez a M C H zs/\k∈zs.map (·.1))->k∈ys.map (·.1)):
  @Ev (dg a M) C H C (upd H a (.ext (jm a ys))):=by
 letI:=dg a M
 refine⟨dZ.refl _,λb o q h=>?_,λb o q h x=>?_,λb u q=>?_,λb u q=>.inl q,⟨λ_=>⟨ys,m'⟩,λk h=>⟨ys,m',hk k h⟩⟩⟩
 ·have:b≠a:=λz=>by
   subst z;rcases h with h|h
   ·exact h rfl
   ·rw[m.h]at q;cases q;cases h
  rw[cV this];exact q
 ·cases h;exact⟨_,dc,rfl⟩
 ·rw[cV (cY q m.c)];exact s b u q
theorem Eu {fk fe:cf}(hu:X.A.units+64<cLine) (he:@PD (dg a M) X e fe) (ho:PE X o (gI i)) (hk:@PD (dg a M) X k fk)
  (ha:∀v,assign (.Subscript o k p) X.env v=(do
   let ov <-holding [v] (eval o X.env)
   let iv <-holding [v,ov] (eval k X.env)
   standAt p
   holding [v,ov,iv] (setItem ov iv v)
   release [v,ov,iv] []):=by intro _;rfl)
  (hs:swapsWithSole [.Subscript o k p] e pos.line X.env=pure false:=by rfl) (hw:swappedStores [.Subscript o k p] e X.env=pure none:=by rfl) (h1:(assignEach [.Subscript o k p] X.env).map (·.2)=[assign (.Subscript o k p) X.env]:=by rfl):
  @PB (dg a M) X C0 H0 (.Assign [.Subscript o k p] e pos) (ju M i fk fe):=λB=>by
 letI:=dg a M
 refine(DN he (IP ho hk (B7 (a:=a) (M:=M) hu) ha) hs hw h1).imp λDn σ H ⟨C,δ,r,gd,q,fin⟩=>?_
 unfold ju at q;split at q
 ·rename_i ks ds d hi J7 MM;split at q
  ·rename_i hc;cases q;refine⟨C,δ,d,gd.x,MM,λv C1 H1 e1 i1=>?_⟩
   have g1:=gd.AK e1;obtain⟨a',z1,z2,_,_⟩:=g1.x.mem i ks hi;cases z1;refine⟨.ref a,z2,C1,δ,.tup ds,g1.x,J7,λkv C2 H2 e2 i2=>?_⟩
   have g2:=g1.AK e2;obtain⟨a',z1,z2,⟨xs,m⟩,_⟩:=g2.x.mem i ks hi;refine⟨C2,ds,d,xs,e2.s,rfl,i2,i1.mono e2.c,hc,m,λys m' yT o8=>fin σ C2 _ ?_⟩
   have ev:=B8 e2.s m m' yT;exact(g2.AK ev).zP hi ⟨ys,m',o8⟩
  ·cases q
 ·cases q
end
end DL
namespace DL
open PySem PySem.Spec PyProof.Rows L2
def tAM [m:Mem] (i j:Nat) (f:cb):TA:=λσ H Q=>∃C δ ds ks,Sx δ σ C H/\δ[i]? =some (.memo ks)/\f δ=some ds/\∀vs C' H' a,Ev C H C' H'->m.face=some a->vs[j]? =some (.ref a)->IsL C' (vs.eraseIdx j) ds->Q vs H'
abbrev Tp [Mem] (X:Cx) (es:List cG) (i j:Nat) (f:cb):Prop:=PA X es (tAM i j f)
def RD (j:Nat) (Mf:cw->dq) (g:cj):Sp:=λvs H Q _=>∃C ds d a,dZ C H/\vs[j]? =some (.ref a)/\IsL C (vs.eraseIdx j) ds/\(∃xs,ez a (Mf ds) C H xs)/\g ds=some d/\∀v C' H',@Ev (dg a (Mf ds)) C H C' H'->Is C' v d->Q v H'
open Classical in
def jJ (i:Nat) (Mf:cw->dq) (g:cj) (M:dq) (f:cb):cf:=λδ=>match δ[i]? with
 |some (.memo _)=>(f δ).bind λds=>if Mf ds=M then g ds else none
 |_=>none
section
variable {X:Cx}{e:cG}{es:List cG}{p pos:Pos}{x:Str}{a:cF}{M:dq}
theorem J8 [Mem] {i:Nat}{f:cb}(ho:PE X e (gI i)) (hr:Hh X es f) (hs:starEach (e::es) X.env=(false,eval e X.env)::starEach es X.env:=by exact eG rfl):Tp X (e::es) i 0 f:=(lr ho hr hs).imp λσ H Q ⟨C,δ,ds,ks,x,hi,q,k⟩=>by
 obtain⟨a,h1,h2,_,_⟩:=x.mem i ks hi;exact⟨.ref a,h2,C,δ,ds,x,q,λvs C' H' ev il=>k (.ref a::vs) C' H' a ev h1 rfl il⟩
theorem J9 [Mem] {i j:Nat}{f:cf}{g:cb}(ha:PD X e f) (hr:Tp X es i j g) (hs:starEach (e::es) X.env=(false,eval e X.env)::starEach es X.env:=by exact eG rfl):Tp X (e::es) i (j+1) (cL f g):=(lr ha hr hs).imp λσ H Q ⟨C,δ,ds,ks,x,hi,q,k⟩=>by
 unfold cL at q;cases hf:f δ with
 |none=>rw[hf]at q;cases q
 |some d=>
  cases hg:g δ with
  |none=>rw[hf,hg]at q;cases q
  |some r=>
   rw[hf,hg]at q;cases q;exact⟨C,δ,d,x,hf,λv C1 H1 e1 i1=>⟨C1,δ,r,ks,x.ev e1,hi,hg,λvs C2 H2 a e2 h1 h2 i2=>k (v::vs) C2 H2 a (e1.trans e2) h1 h2 (.cons (i1.mono e2.c) i2)⟩⟩
theorem Hy {k i j:Nat}{f:cF}{fd:cA}{ps:List Str}{Mf:cw->dq}{g:cj}{fa:cb}(F:eE X.prog X.w X.K X.mg X.base iK k f fd ps (RD j Mf g)) (hr:gn k X.A) (hg:Gl X x) (hm:X.mg x=some (.ref f)) (hk:W.keepIn X.K (.ref f)=true) (hb:Binds X.K fd ps [])
  (ha:@Tp (dg a M) X (e::es) i j fa) (rV:(x==("__debug__":Str))=false:=by decide) (he:starEach (e::es) X.env=(false,eval e X.env)::starEach es X.env:=by exact eG rfl) (jX:(backTo pos (starEach es X.env)).any (·.1)=false:=by exact eX rfl):
  @PD (dg a M) X (.Call (.Name x p) (e::es) [] pos) (jJ i Mf g M fa):=by
 letI:=dg a M
 refine(Fx F hr hg hm hk hb .nil BQ ha rV he jX).imp λσ H Q ⟨C,δ,d,x,q,fin⟩=>?_
 unfold jJ at q;split at q
 ·rename_i ks hi;cases hf:fa δ with
  |none=>rw[hf]at q;cases q
  |some ds=>
   rw[hf]at q;simp only[ao]at q;split at q
   ·rename_i hM;refine⟨C,δ,ds,ks,x,hi,hf,λvs C1 H1 a' e1 h1 h2 i1=>?_⟩
    cases h1;obtain⟨a',z1,z2,ok,_⟩:=(x.ev e1).mem i ks hi;rw[bD];subst hM;exact⟨C1,ds,d,a,e1.s,h2,i1,ok,q,λv C2 H2 e2 i2=>fin v C2 H2 (e1.trans e2) i2⟩
   ·cases q
 ·cases q
end
def startM (n np j:Nat) (ds:cw):dR:=(ds.take j).map Sl.dat++.memo []::(ds.drop j).map Sl.dat++List.replicate (n-np) Sl.no
def xj (n np j:Nat) (Mf:cw->dq) (fb:dq->cc) (ds:cw):Option D:=
 if ds.length+1=np/\j<np then(match fb (Mf ds) (startM n np j ds)with|some (.ret d)=>some d|some (.next _)=>some .eD|_=>none)else none
theorem kO {n np j:Nat}{ds:cw}(hl:ds.length+1=np) (hj:j<np) (i:Nat):(startM n np j ds)[i]? =if i<j then(ds[i]?).map Sl.dat else if i=j then some (.memo [])else if i<np then(ds[i-1]?).map Sl.dat else if i<np+(n-np)then some .no else none:=by
 unfold startM;have l1:((ds.take j).map Sl.dat).length=j:=by rw[ae,bL];omega
 have l2:((ds.drop j).map Sl.dat).length=ds.length-j:=by rw[ae,List.length_drop]
 rw[List.append_assoc];by_cases h1:i<j
 ·rw[if_pos h1,aK (by omega),av,List.getElem?_take_of_lt h1]
 ·rw[if_neg h1,aQ (by omega),l1]
  by_cases h2:i=j
  ·subst h2;rw[if_pos rfl,Nat.sub_self];rfl
  ·rw[if_neg h2,List.cons_append];obtain⟨r,hr⟩:∃r,i-j=r+1:=⟨i-j-1,by omega⟩
   rw[hr,aL];by_cases h3:i<np
   ·rw[if_pos h3,aK (by omega),av,List.getElem?_drop]
    congr 2
    omega
   ·rw[if_neg h3,aQ (by omega),bg]
    congr 1
    rw[eq_iff_iff];constructor<;>intro _<;>omega
theorem QC {P:cB}{w:cC}{K:W.Frag}{mg:cm}{base:Heap}{x qual:Str}{st:cH}{f:cF}{fd:cA}{N ps:List Str}{k:Nat}(j:Nat) (Mf:cw->dq) (F:mN K x qual st f fd) (S:dD N ps (cO st)) {fb:dq->cc}
  (js:∀(a:cF) (M:dq) (fL:cy) (A:cD) (outer:List Env) (s:cz) (H:Hp) (E:XK),gn k (A.deeper (envOfC qual (cO st) s.heap.objs.size f fL))->∀C0 H0,@yB (dg a M) (qp iK P w K mg base N qual (cO st) f fL A outer s H E).DE C0 H0 (dw st) (fb M)):
  eE P w K mg base iK (k+1) f fd ps (RD j Mf (xj N.length ps.length j Mf fb)):=by
 refine F.ok S (λvs H Q E h=>?_) (λfL A outer s H vs Q E hr h=>?_)
 ·obtain⟨C,ds,d,a,_,hj,i,_,q,_⟩:=h;unfold xj at q;split at q
  ·rename_i hl;have h1:=i.length;have h2:j<vs.length:=(List.getElem?_eq_some_iff.mp hj).1;rw[List.length_eraseIdx_of_lt h2]at h1;omega
  ·cases q
 ·obtain⟨C,ds,d,a,sub,hj,i,ok,q,fin⟩:=h;letI:=dg a (Mf ds)
  refine⟨tS C C H (fb (Mf ds)),js a (Mf ds) fL A outer s H E hr C H C,?_⟩;unfold xj at q;split at q
  case isFalse=>cases q
  rename_i hl;obtain⟨hl,Ea⟩:=hl;have hN:ps.length<=N.length:=by have:=S.pre;rw[<-this,bL];omega
  have X0:j<vs.length:=(List.getElem?_eq_some_iff.mp hj).1;have lv:vs.length=ps.length:=by
   have h1:=i.length;rw[List.length_eraseIdx_of_lt X0]at h1;omega
  have sg:∀n:Nat,n<vs.length->(L2.start N vs)[n]? =some vs[n]? :=λn hn=>by
   unfold L2.start;rw[aK (by rw[ae];exact hn),av,ah hn];rfl
  have noOwn:∀n es,(startM N.length ps.length j ds)[n]? ≠some (Sl.own es):=λn es e=>by
   rw[kO hl Ea]at e;split at e
   ·cases hd:ds[n]? with
    |none=>rw[hd]at e;cases e
    |some d'=>rw[hd]at e;cases e
   ·split at e
    ·cases e
    ·split at e
     ·cases hd:ds[n-1]? with
      |none=>rw[hd]at e;cases e
      |some d'=>rw[hd]at e;cases e
     ·split at e<;>cases e
  have sx:Sx (startM N.length ps.length j ds) (L2.start N vs) C H:=by
   refine⟨sub,λn d e=>?_,λn es e=>absurd e (noOwn n es),λn m es fs a e=>absurd e (noOwn n es),?_,λn ks e=>?_⟩
   ·rw[kO hl Ea]at e;split at e
    ·rename_i h1;cases hd:ds[n]? with
     |none=>rw[hd]at e;cases e
     |some d'=>
      rw[hd]at e;cases e;obtain⟨v,g1,g2⟩:=i.get hd;rw[List.getElem?_eraseIdx,if_pos h1]at g1;exact⟨v,by rw[sg n (by omega),g1],g2⟩
    ·split at e
     ·cases e
     ·rename_i h1 h2;split at e
      ·rename_i h3;cases hd:ds[n-1]? with
       |none=>rw[hd]at e;cases e
       |some d'=>
        rw[hd]at e;cases e;obtain⟨v,g1,g2⟩:=i.get hd;rw[List.getElem?_eraseIdx,if_neg (by omega),show n-1+1=n by omega]at g1
        exact⟨v,by rw[sg n (by omega),g1],g2⟩
      ·split at e<;>cases e
   ·unfold L2.start startM;simp only[aR,ae,List.length_replicate,ax,bL,List.length_drop];omega
   ·rw[kO hl Ea]at e;split at e
    ·cases hd:ds[n]? with
     |none=>rw[hd]at e;cases e
     |some d'=>rw[hd]at e;cases e
    ·split at e
     ·rename_i h2;subst h2;cases e;exact⟨a,rfl,by rw[sg n X0,hj],ok,λk hk=>by cases hk⟩
     ·split at e
      ·cases hd:ds[n-1]? with
       |none=>rw[hd]at e;cases e
       |some d'=>rw[hd]at e;cases e
      ·split at e<;>cases e
  have gd:Gd C C H (startM N.length ps.length j ds) (L2.start N vs) C H:=⟨dZ.refl _,.refl sub,sx,λn es a e _=>absurd e (noOwn n es)⟩
  split at q
  ·rename_i d' hf;cases q;exact⟨C,_,_,gd,hf,λv C' H' ev i'=>fin v C' H' ev i'⟩
  ·rename_i δ' hf;cases q;exact⟨C,_,_,gd,hf,λσ' C' H' g'=>fin .eD C' H' g'.ev .eD⟩
  ·cases q
end DL
namespace DL
open PySem PySem.Spec PyProof.Rows L2
section
variable {X:Cx}{e:cG}{es:List cG}{p pos pos':Pos}{x:Str}{a:cF}{M:dq}{C0 H0:Hp}{rest:List cH}
theorem _root_.L2.Inv.V1 {pins:cn}{σ:L2.St}{H:Hp}{s:cz}(I:Inv X pins σ H s):sysModules<s.heap.objs.size:=by
 have h:mainGlobals<s.heap.objs.size:=(I.mod.glob.keeps I.bk).lt;exact bJ (by decide) h
def Tq:TE:=λ_ H Q=>∀p,H p=none->(p==sysModules)=false->Q (.ref p) (upd H p (.ext (jm p [])))
theorem FV:PE X (.Dict [] [] pos) Tq:=λpins s σ H Q I h=>
 wpAny_Dict_empty ⟨.ref s.heap.objs.size,_,I.laid (a:=s.heap.objs.size) (o:=.ext (jm s.heap.objs.size [])) (t':=s.toks) (λ_ _ q=>ag _ q) (au _)
  ⟨⟨_,#[],0,az _ rfl,⟨rfl,rfl,rfl⟩,rfl,rfl,List.nodup_nil⟩,⟨_,az _ rfl⟩,λh1 h2 ⟨o1,e1,p1,q1,q2⟩ st=>⟨o1,e1,p1,st _ q1,q2⟩⟩,rfl,
  h _ (I.fX.fresh (au _)) (beq_eq_false_iff_ne.mpr (Ne.symm (aE I.V1)))⟩
theorem xk {C H:Hp}{p:cF}(hc:C p=none) (hs:(p==sysModules)=false) (hH:H p=some (.ext (jm p []))):ez p M C H []:=⟨hH,hc,hs,List.nodup_nil,λ_ h=>by cases h⟩
theorem Ka {C H C1 H1 C2 H2:Hp}(e1:mE C H C1 H1) (hn:H a=none) (e2:@Ev (dg a M) C1 H1 C2 H2):mE C H C2 H2:=by
 letI:=dg a M
 refine⟨e1.c.trans e2.c,λb o q=>?_,e2.s,λb u q=>?_⟩
 ·have hb:b≠a:=λz=>by subst z;rw[hn]at q;cases q
  exact e2.h b o (e1.h b o q) (.inl λz=>hb (aT z).symm)
 ·rcases e2.n b u q with z|z
  ·exact e1.n b u z
  ·exact .inr (e1.h.free z)
def noOwn (δ:dR):Bool:=δ.all λs=>match s with|.own _=>false|_=>true
def mU (δ:dR):Bool:=δ.all λs=>match s with|.memo _=>false|_=>true
theorem j7 {δ:dR}(h:noOwn δ=true) {i:Nat}{ds:cw}(q:δ[i]? =some (.own ds)):False:=by
 have:=List.all_eq_true.mp h _ (bo q);cases this
theorem rB {δ:dR}(h:mU δ=true) {i:Nat}{ds:cw}(q:δ[i]? =some (.memo ds)):False:=by
 have:=List.all_eq_true.mp h _ (bo q);cases this
def rZ (i:Nat):R->Option R
 |.next δ=>if mU (δ.set i .no)=true then some (.next (δ.set i .no))else none
 |.ret d=>some (.ret d)
 |.brk δ=>if mU (δ.set i .no)=true then some (.brk (δ.set i .no))else none
 |.cont δ=>if mU (δ.set i .no)=true then some (.cont (δ.set i .no))else none
def qA (i:Nat) (Mo:dR->Option dq) (fr:dq->cc):cc:=λδ=>
 if noOwn δ=true/\i<δ.length then(Mo δ).bind λM=>(fr M (δ.set i (.memo []))).bind (rZ i)else none
theorem Ew {B C0 H0 C H C2 H2:Hp}{δ δ':dR}{σ σ':L2.St}{i:Nat}(g:@Gd Mem.keep B C0 H0 δ σ C H) (hn:H a=none) (g2:@Gd (dg a M) B C (upd H a (.ext (jm a []))) δ' σ' C2 H2) (hm:mU (δ'.set i .no)=true):
  @Gd Mem.keep B C0 H0 (δ'.set i .no) σ' C2 H2:=by
 have e0:mE C H C (upd H a (.ext (jm a []))):=.gK (@Sx.sub Mem.keep _ _ _ _ (@Gd.x Mem.keep _ _ _ _ _ _ _ g)) hn;have e1:mE C0 H0 C H:=(@Gd.ev Mem.keep _ _ _ _ _ _ _ g).pX;have e2:mE C0 H0 C2 H2:=Ka (e1.trans e0) (e1.h.free hn) (@Gd.ev (dg a M) _ _ _ _ _ _ _ g2);have x2:=@Gd.x (dg a M) _ _ _ _ _ _ _ g2;have own:∀{k:Nat}{ds:cw},(δ'.set i Sl.no)[k]? =some (.own ds)->δ'[k]? =some (.own ds):=λ{k ds} q=>by
  rcases getElem?_set_cases q with⟨_,z⟩|⟨_,z⟩
  ·cases z
  ·exact z
 letI:=Mem.keep
 refine⟨@Gd.b (dg a M) _ _ _ _ _ _ _ g2,e2.up,⟨e2.s,λk d q=>?_,λk ds q=>@Sx.own (dg a M) _ _ _ _ x2 k ds (own q),λk l ds es b q1 q2=>@Sx.yM (dg a M) _ _ _ _ x2 k l ds es b (own q1) (own q2),by rw[List.length_set];exact @Sx.len (dg a M) _ _ _ _ x2,λk ks q=>(rB hm q).elim⟩,λk ds b q1 q2=>?_⟩
 ·rcases getElem?_set_cases q with⟨_,z⟩|⟨_,z⟩
  ·cases z
  ·exact @Sx.dat (dg a M) _ _ _ _ x2 k d z
 ·exact(e1.trans e0).h.free (@Gd.fr (dg a M) _ _ _ _ _ _ _ g2 k ds b (own q1) q2)
theorem B9 (i:Nat) {y:Str}{py pd:Pos}{Mo:dR->Option dq}{fr:dq->cc}(hN:X.N.Nodup)
  (hr:∀(a:cF) (M:dq) (C1 H1:Hp),@yB (dg a M) X C1 H1 rest (fr M)) (hi:X.N[i]? =some y:=by rfl) (hx:Loc X.env.scope y:=by first|exact Or.inl rfl|exact Or.inr rfl) (hs:swapsWith (.Dict [] [] pd) (some (.Name y py)) pos.line X.env=pure false:=by rfl) (hf:X.fn y=true\/X.env.scope.names.lookup y=some .local:=by first|exact .inl rfl|exact .inr rfl):
  @yB Mem.keep X C0 H0 (.Assign [.Name y py] (.Dict [] [] pd) pos::rest) (qA i Mo fr):=λB=>by
 have ex:yA X rest (λDn σ H=>∃(a:cF) (M:dq) (C1 H1:Hp),@tS (dg a M) B C1 H1 (fr M) Dn σ H):=λpins s σ H Dn I ⟨a,M,C1,H1,q⟩=>hr a M C1 H1 B pins s σ H Dn I q
 refine(qm (wG hN hi hx (FV (pos:=pd)) hs hf) ex).imp λDn σ H ⟨C,δ,r,gd,q,fin⟩=>?_
 unfold qA at q;split at q
 case isFalse=>cases q
 rename_i hc;obtain⟨u0,hlen⟩:=hc;cases hM:Mo δ with
 |none=>rw[hM]at q;cases q
 |some M=>
  rw[hM]at q;simp only[ao]at q;cases BW:fr M (δ.set i (.memo []))with
  |none=>rw[BW]at q;cases q
  |some r'=>
   rw[BW]at q;simp only[ao]at q;intro t ht hsm;have x0:=@Gd.x Mem.keep _ _ _ _ _ _ _ gd;have sub:=@Sx.sub Mem.keep _ _ _ _ x0;have UN:C t=none:=sub.free ht;have MY:dZ C (upd H t (.ext (jm t []))):=sub.trans (eR ht);have e1:mE C0 H0 C H:=(@Gd.ev Mem.keep _ _ _ _ _ _ _ gd).pX;have e0:mE C H C (upd H t (.ext (jm t []))):=.gK sub ht;have g1:@Gd (dg t M) B C (upd H t (.ext (jm t []))) (δ.set i (.memo [])) (σ.set i (some (.ref t))) C (upd H t (.ext (jm t []))):=by
    letI:=dg t M
    have hl:=@Sx.len Mem.keep _ _ _ _ x0;refine⟨@Gd.b Mem.keep _ _ _ _ _ _ _ gd,.refl MY,⟨MY,λk d z=>?_,λk ds z=>?_,λk l ds es b z=>?_,by simp[hl],λk ks z=>?_⟩,λk ds b z=>?_⟩
    ·rcases getElem?_set_cases z with⟨_,z⟩|⟨hk,z⟩
     ·cases z
     ·obtain⟨v,h1,h2⟩:=@Sx.dat Mem.keep _ _ _ _ x0 k d z;exact⟨v,by rw[aG (Ne.symm hk)];exact h1,h2⟩
    ·rcases getElem?_set_cases z with⟨_,z⟩|⟨hk,z⟩
     ·cases z
     ·exact(j7 u0 z).elim
    ·rcases getElem?_set_cases z with⟨_,z⟩|⟨hk,z⟩
     ·cases z
     ·exact(j7 u0 z).elim
    ·rcases getElem?_set_cases z with⟨rfl,z'⟩|⟨hk,z⟩
     ·cases z';exact⟨t,rfl,by rw[bf (by rw[<-hl];exact hlen)],⟨[],xk UN hsm dc⟩,λk hk=>by cases hk⟩
     ·obtain⟨b,h1,_⟩:=@Sx.mem Mem.keep _ _ _ _ x0 k ks z;cases h1
    ·rcases getElem?_set_cases z with⟨_,z⟩|⟨hk,z⟩
     ·cases z
     ·exact(j7 u0 z).elim
   refine⟨t,M,C,_,C,_,r',g1,BW,?_⟩;cases r' with
   |next δ'=>
    simp only[rZ]at q;split at q
    ·rename_i hm;cases q;exact λσ' C2 H2 g2=>fin σ' C2 H2 (Ew gd ht g2 hm)
    ·cases q
   |ret d=>
    cases q;exact λv C2 H2 ev iv=>fin v C2 H2 (@mE.up _ _ _ _ Mem.keep (Ka (e1.trans e0) (e1.h.free ht) ev)) iv
   |brk δ'=>
    simp only[rZ]at q;split at q
    ·rename_i hm;cases q;exact λσ' C2 H2 g2=>fin σ' C2 H2 (Ew gd ht g2 hm)
    ·cases q
   |cont δ'=>
    simp only[rZ]at q;split at q
    ·rename_i hm;cases q;exact λσ' C2 H2 g2=>fin σ' C2 H2 (Ew gd ht g2 hm)
    ·cases q
end
end DL
namespace HT
open PySem PySem.Spec PyProof.Rows
section
variable {prog:cB}{w:cC}{A:cD}{E:ck}{s:cz}
theorem r0 {t sl:cF}{items:Array cy}{vl vu:cy}{lo hi:Option Int}{Q:ck}(ht:IsTup s.heap t items) (hs:s.heap.IsSliceOf sl vl vu .none) (pl:IsPart vl lo) (pu:IsPart vu hi)
  (hw:iF items.size 0 lo=0/\iF items.size items.size hi=items.size)
  (h:Q (.ref t) s):wpAny (model prog w) A (getItem (.ref t) (.ref sl)) Q E s:=by
 obtain⟨os,Pn,Uz,Sw⟩:=id hs;have VB:s.TypeIs (.ref sl) "slice":=⟨os,Pn,Uz⟩;unfold getItem;try with_reducible refine bp ?_
 first|refine aa (aj ?_)|skip
 refine aa (wpAny_sequenceKey ht.typeIs (by decide) ?_)
 refine aa (wpAny_callSpecial?_slot (name:=Str.ofString "__getitem__") ht.typeIs PyProof.Rows.slot_tuple_getitem
  (bO PyProof.Rows.slot_tuple_getitem ht.typeIs entry_tuple_getitem ?_ (args_tuple_getitem _ _)))
 show wpAny _ _ (Builtin.Tuple.tupleItemsOf (.ref t)>>=_) _ _ s;refine aa (tupleItemsOf_ ht ?_);refine aa (wpAny_typeOf VB ?_);rw[if_pos (by decide)]
 refine aa (oG hs pl pu ?_);have V2:(((iF items.size 0 lo:Nat):Int)==0&&(1:Int)==1&&(iF items.size items.size hi-iF items.size 0 lo)==items.size)=true:=by
  rw[hw.1,hw.2];simp
 show wpAny _ _ (if(((iF items.size 0 lo:Nat):Int)==0&&(1:Int)==1&&(iF items.size items.size hi-iF items.size 0 lo)==items.size)=true then _ else _) _ _ s
 rw[if_pos V2];unfold Builtin.Tuple.tupleIsExact;refine aa (aa (wpAny_typeOf ht.typeIs (aj ?_)));rw[if_pos (by decide)]
 first
  |exact aa (wpAny_rule (aa (aj ⟨_,rfl,aj h⟩)))
  |exact aa (wpAny_rule (aj ⟨_,rfl,aj h⟩))
end
end HT
namespace DL
open PySem PySem.Spec PyProof.Rows L2
variable [Mem]
section
variable {X:Cx}{a b c e o:cG}{pos p p2:Pos}{f g h:cf}
theorem MZ:N6 X (λx lo hi H Q=>∃a xs,x=.ref a/\jr X.K H a xs/\(HT.iF xs.length 0 lo=0/\HT.iF xs.length xs.length hi=xs.length)/\Q (.ref a) H):=by
 intro pins s σ H x v vl vu lo hi sl Q I rx hs pl pu h;obtain⟨a,xs,rfl,hx,hw,q⟩:=h;cases rx;obtain⟨dF,r,ht,hz⟩:=I.tuple hx;have hlen:dF.toArray.size=xs.length:=by rw[aq];exact r.length.symm
 refine⟨"tuple",_,PyProof.Rows.slot_tuple_getitem.lookup,ht.typeIs,?_⟩;exact HT.r0 ht hs pl pu (by rw[hlen];exact hw) ⟨.ref a,H,I,rfl,q⟩
def Hz (f:cf) (lo hi:dR->Option (Option Int)):cf:=λδ=>match f δ with
 |some (.tup ds)=>(lo δ).bind λl=>(hi δ).map λu=>.tup (cutD ds l u)
 |_=>none
theorem QD {lo hi:Option cG}{fl fh:dR->Option (Option Int)}(he:PO X e f) (hl:L2.PO X lo (tP fl)) (hh:L2.PO X hi (tP fh)):PD X (.Subscript e (.Slice lo hi none p2) pos) (Hz f fl fh):=(BN (MZ.or Po) he hl hh).imp λσ H Q ⟨C,δ,d,x,q,k⟩=>by
 unfold Hz at q;split at q
 ·rename_i es hf;cases h1:fl δ with
  |none=>rw[h1]at q;cases q
  |some l=>
   cases h2:fh δ with
   |none=>rw[h1,h2]at q;cases q
   |some u=>
    rw[h1,h2]at q;cases q;refine⟨C,δ,_,x,hf,λv C1 H1 e1 i1=>⟨C1,δ,l,x.ev e1,h1,λC2 H2 e2=>⟨C2,δ,u,x.ev (e1.trans e2),h2,λC3 H3 e3=>?_⟩⟩⟩
    obtain⟨p,xs,rfl,hq,ll,hc⟩:=((i1.ev e2).ev e3).tup (K:=X.K) e3.s;have ev:=(e1.trans e2).trans e3;by_cases hw:HT.iF xs.length 0 l=0/\HT.iF xs.length xs.length u=xs.length
    ·exact .inl ⟨p,xs,rfl,hq,hw,k _ C3 H3 ev (.tup hc (ll.Qz hw))⟩
    ·exact .inr ⟨p,xs,rfl,hq,hw,λt ht=>k _ _ _ (ev.trans (.new e3.s ht)) (.tup dc ((ll.cut l u).mono (eR (e3.s.free ht))))⟩
 ·cases q
def Kb (i:Nat) (f:cb):cc:=λδ=>match δ[i]? with
 |some (.own ds)=>(f δ).bind λes=>if ds.length+es.length<=1000000 then some (.next (δ.set i (.own (ds++es))))else none
 |_=>none
theorem QE {C0 H0:Hp}{i:Nat}{apos pos':Pos}{f:cb}(ho:PE X o (gI i)) (he:PF X e f) (mR:starEach [e] X.env=(false,eval e X.env)::starEach [] X.env:=by exact eG rfl) (oH:attributeBase o "extend" X.env (eval o X.env)=eval o X.env:=by rfl)
  (uJ:((backTo pos (starEach [e] X.env)).all (λx=> !x.1)&&(backToKw pos (keywordEach [] X.env)).all (λx=>x.1.isSome)
   &&decide ([e].length+([]:List Keyword).length+(if([]:List Keyword).isEmpty then 0 else 1)<30))=true:=by exact Hl rfl)
  (oJ:(apos.endLine==pos.line)=true:=by rfl) (kL:(backTo pos (starEach [] X.env)).any (·.1)=false:=by exact eX rfl) (hs:swapsWith (.Call (.Attribute o "extend" apos) [e] [] pos) none pos'.line X.env=pure false:=by rfl):
  PB X C0 H0 (.Expr (.Call (.Attribute o "extend" apos) [e] [] pos) pos') (Kb i f):=λB=>
 (Fv (Jj PySem.F.plainAttrs_list PySem.F.slot_list_extend PySem.F.type_list_extend G8 ho (lr he sL mR) oH uJ oJ mR kL) hs).imp λDn σ H ⟨C,δ,r,gd,q,k⟩=>by
  unfold Kb at q;split at q
  ·rename_i ds hi;cases hf:f δ with
   |none=>rw[hf]at q;cases q
   |some es=>
    rw[hf]at q;simp only[ao]at q;split at q
    ·rename_i hz;cases q;obtain⟨a,xs,h1,h2,h3,h4⟩:=gd.x.own i ds hi;refine⟨_,h1,.inl ⟨rfl,_,qk.of h3⟩,C,δ,es,gd.x,hf,λb ys C' H' ev hn hc hb hl=>?_⟩
     have g1:=gd.AK ev;obtain⟨a',XR,z1,z2,z3,z4⟩:=g1.x.own i ds hi;rw[h1]at z1;cases z1;exact⟨a,b,XR,ys,rfl,rfl,z3,hb,by rw[z4.length,hl.length];exact aD hz (by decide),k σ C' _ (g1.mut hi h1 (z4.append hl))⟩
    ·cases q
  ·cases q
end
end DL
namespace DL
open PySem PySem.Spec PyProof.Rows L2
variable [Mem]
section
variable {X:Cx}
def vQ (is:List Nat) (f:cc):cw->cc
 |[],δ=>some (.next δ)
 |d::ds,δ=>match d with
  |.tup es=>if es.length=is.length then(match f (pj is es δ)with
   |some (.next δ')=>vQ is f ds δ'
   |some (.cont δ')=>vQ is f ds δ'
   |some (.brk δ')=>some (.next δ')
   |some (.ret r)=>some (.ret r)
   |none=>none)else none
  |_=>none
def zQ (is:List Nat) (i:cb) (f:cc):cc:=λδ=>(i δ).bind λds=>vQ is f ds δ
omit [Mem] in
theorem FW:∀(is:List Nat) {xs:List V}{σ:L2.St}{H:Hp}{Q Q':L2.St->Hp->Prop},AS is xs σ H Q->(∀σ H,Q σ H->Q' σ H)->AS is xs σ H Q'
 |[],_,_,_,_,_,h,m=>⟨h.1,m _ _ h.2⟩
 |i::is,_,_,_,_,_,h,m=>by
  obtain⟨v,vs,e,h'⟩:=h;exact⟨v,vs,e,FW is h' m⟩
theorem M1 {C0 H0:Hp}(is:List Nat) {es:List cG}{kt:Nat}{n6:Pos}{iter:cG}{body:List cH}{i:cb}{f:cc}{pos:Pos}(hp:PassesOwn (model X.prog X.w) X.A X.env X.xe) (hc:X.calm=true) (hi:MK X (.Tuple es kt n6) iter i) (V3:NV X es (AS is)) (hb:yB X C0 H0 body f)
  (hn:(assignEach es X.env).length=is.length:=by rfl) (n5:(assignEach es X.env).findIdx? (·.1)=none:=by rfl) (hs:∀x,foldedSetIterable iter X.env x=pure x:=by intro _;rfl):PB X C0 H0 (.For (.Tuple es kt n6) iter body [] pos) (zQ is i f):=λB pins s σ H Dn I h=>by
 have hg:=IM (pos:=n6) (k:=kt) hc V3 hn n5;obtain⟨C,δ,r,gd,q,k⟩:=h;unfold zQ at q;cases hf:i δ with
 |none=>rw[hf]at q;cases q
 |some ds=>
  rw[hf]at q;simp only[ao]at q;have main:∀J C1 H1,Ev C H C1 H1->Wk J ds C1->∃W:Nat->Nat->L2.St->Hp->Prop,(∃m,W 0 m σ H1)/\∀i m σ H,W i m σ H->
    (J.stop i H/\Dn.nx σ H)\/(J.go i H/\∃N:L2.St->Hp->Prop,(∀σ' H',N σ' H'->∃m',m'<m/\W (i+1) m' σ' H')/\∀x H',J.NX i H x H'->L2.kJ X.K is.length (AS is) x σ H' λσ2 H2=>tS C1 C0 H0 f {Dn with nx:=N,ct:=N,bk:=Dn.nx} σ2 H2):=by
   intro J C1 H1 ev wk;have bs:dZ B C1:=gd.b.trans ev.c;refine⟨λn m σ H=>∃C δ,m=ds.length-n/\n<=ds.length/\Gd C1 C0 H0 δ σ C H/\vQ is f (ds.drop n) δ=some r,⟨ds.length,C1,δ,by simp,bN _,⟨dZ.refl _,gd.ev.trans ev,gd.x.ev ev,gd.fr⟩,by simpa using q⟩,?_⟩
   rintro n m σ2 H2 ⟨C2,δ2,rfl,hn,g2,q2⟩
   have w:=wk n C2 H2 g2.b g2.x.sub;by_cases fQ:n<ds.length
   ·have hd:ds[n]? =some ds[n]:=ah fQ;obtain⟨go,yl⟩:=w.1 _ hd;rw[List.drop_eq_getElem_cons fQ]at q2;refine .inr ⟨go,λσ' H'=>∃C' δ',Gd C1 C0 H0 δ' σ' C' H'/\vQ is f (ds.drop (n+1)) δ'=some r,λσ' H' ⟨C',δ',g',q'⟩=>⟨ds.length-(n+1),by omega,C',δ',rfl,fQ,g',q'⟩,λx H3 y=>?_⟩
    obtain⟨rfl,UL⟩:=yl x H3 y;unfold vQ at q2;split at q2
    case h_2=>cases q2
    rename_i Fq hes;rw[hes]at UL;split at q2
    case isFalse=>cases q2
    rename_i hle;cases UL with
    |@tup pa ws _ hpa l=>
    refine⟨pa,ws,rfl,jr.of (g2.x.sub _ _ hpa),by rw[l.length];exact hle,JW is l hle g2 λσ3 g3=>?_⟩
    show tS C1 C0 H0 f {Dn with nx:=_,ct:=_,bk:=Dn.nx} σ3 _
    cases JJ:f (pj is Fq δ2)with
    |none=>rw[JJ]at q2;cases q2
    |some rb=>
     rw[JJ]at q2;refine⟨C2,pj is Fq δ2,rb,g3,JJ,?_⟩;cases rb with
     |next δ'=>exact λσ' C' H' g'=>⟨C',δ',g',q2⟩
     |cont δ'=>exact λσ' C' H' g'=>⟨C',δ',g',q2⟩
     |brk δ'=>
      cases q2;exact λσ' C' H' g'=>k σ' C' H' ⟨bs.trans g'.b,g'.ev,g'.x,g'.fr⟩
     |ret d=>
      cases q2;exact k
   ·have e:n=ds.length:=by omega
    subst e;rw[List.drop_length]at q2;unfold vQ at q2;cases q2;exact .inl ⟨w.2 (au _),k σ2 C2 H2 ⟨bs.trans g2.b,g2.ev,g2.x,g2.fr⟩⟩
  refine IU (tb:=λQh σ' H'=>∃C1,tS C1 C0 H0 f Qh σ' H') hp hc hi hg (λpins s σ H Qh I ⟨C1,h⟩=>hb C1 pins s σ H Qh I h) hs pins s σ H Dn I ?_
  refine⟨C,δ,ds,gd.x,hf,λJ C1 H1 ev wk=>?_⟩
  obtain⟨W,w0,st⟩:=main J C1 H1 ev wk;refine⟨W,w0,λi m σ H w=>?_⟩
  rcases st i m σ H w with z|⟨go,N,hN,hy⟩
  ·exact .inl z
  ·exact .inr ⟨go,N,hN,λx H' y=>let ⟨pa,ws,h1,h2,h3,h4⟩:=hy x H' y;⟨pa,ws,h1,h2,h3,FW is h4 λ_ _ z=>⟨C1,z⟩⟩⟩
end
section
variable {X:Cx}{a b c e o:cG}{pos p p2:Pos}{f g h:cf}{C0 H0:Hp}
def FX:cj
 |[.int i]=>some (.int i)
 |[.bl k]=>some (.int (if k then 1 else 0))
 |_=>none
theorem QF:qt X (.type "int") FX:=by
 refine⟨_,G2,?_⟩;intro C H vs ds d Q s i q k;unfold FX at q;split at q
 ·cases q;obtain⟨v,rfl,j⟩:=i.one;exact .inl ⟨_,by rw[j.int],k _ C H (.refl s) (.int _)⟩
 ·cases q;obtain⟨v,rfl,j⟩:=i.one;have:=j.is (λ_ z=>by cases z);cases this
  exact .inr ⟨_,rfl,k _ C H (.refl s) (.int _)⟩
 ·cases q
end
end DL
namespace DL
open PySem PySem.Spec PyProof.Rows L2
variable [Mem]
variable [Mem]
section
variable {X:Cx}{a b c e o:cG}{pos p p2:Pos}{f g h:cf}
theorem tZ (ha:WO X e f) (he:∀whole,isTrue e X.env whole=(do let v <-whole;standAt e.pos;holding [v] (truthy v)):=by intro _;rfl):WQ X e (qT f):=⟨J5 ha.go he⟩
theorem nO (ha:WO X a f) (hb:WO X b g):WD X (.BinOp a .Add b pos) (dz nJ f g):=⟨MX ha.go hb.go⟩
end
variable [Mem]
section
variable {X:Cx}{a b c e o:cG}{pos p p2:Pos}{f g h:cf}
theorem QG {lo hi:Option cG}{fl fh:dR->Option (Option Int)}(he:WO X e f) (hl:WP X lo fl) (hh:WP X hi fh):WD X (.Subscript e (.Slice lo hi none p2) pos) (Hz f fl fh):=⟨QD he.go hl.go hh.go⟩
theorem QH {C0 H0:Hp}{i:Nat}{apos pos':Pos}{f:cb}(ho:PE X o (gI i)) (he:WF X e f) (mR:starEach [e] X.env=(false,eval e X.env)::starEach [] X.env:=by exact eG rfl) (oH:attributeBase o "extend" X.env (eval o X.env)=eval o X.env:=by rfl) (uJ:((backTo pos (starEach [e] X.env)).all (λx=> !x.1)&&(backToKw pos (keywordEach [] X.env)).all (λx=>x.1.isSome)
   &&decide ([e].length+([]:List Keyword).length+(if([]:List Keyword).isEmpty then 0 else 1)<30))=true:=by exact Hl rfl) (oJ:(apos.endLine==pos.line)=true:=by rfl) (kL:(backTo pos (starEach [] X.env)).any (·.1)=false:=by exact eX rfl) (hs:swapsWith (.Call (.Attribute o "extend" apos) [e] [] pos) none pos'.line X.env=pure false:=by rfl):WB X C0 H0 (.Expr (.Call (.Attribute o "extend" apos) [e] [] pos) pos') (Kb i f):=⟨QE ho he.go mR oH uJ oJ kL hs⟩
end
variable [Mem]
section
variable {X:Cx}
theorem M3 {C0 H0:Hp}(is:List Nat) {es:List cG}{kt:Nat}{n6:Pos}{iter:cG}{body:List cH}{i:cb}{f:cc}{pos:Pos}(hp:PassesOwn (model X.prog X.w) X.A X.env X.xe) (hc:X.calm=true) (hi:wj X (.Tuple es kt n6) iter i) (V3:NV X es (AS is)) (hb:qx X C0 H0 body f) (hn:(assignEach es X.env).length=is.length:=by rfl) (n5:(assignEach es X.env).findIdx? (·.1)=none:=by rfl) (hs:∀x,foldedSetIterable iter X.env x=pure x:=by intro _;rfl):WB X C0 H0 (.For (.Tuple es kt n6) iter body [] pos) (zQ is i f):=⟨M1 is hp hc hi.go V3 hb.go hn n5 hs⟩
end
section
variable {X:Cx}{a b c e o:cG}{pos p p2:Pos}{f g h:cf}{C0 H0:Hp}
end
end DL
namespace DL
open PySem PySem.Spec PyProof.Rows L2
section
variable [Mem] {X:Cx}{C0 H0:Hp}{st:cH}{pos:Pos}
end
def Ca (P:cB) (w:cC) (K:W.Frag) (mg:cm) (base:Heap) (k:Nat) (x:Str) (j:Nat) (Mf:cw->dq) (g:cj):Prop:=
 ∃f fd ps,eE P w K mg base iK k f fd ps (RD j Mf g)/\mg x=some (.ref f)/\W.keepIn K (.ref f)=true/\Binds K fd ps []
theorem Ca.mono {P:cB}{w:cC}{K:W.Frag}{mg:cm}{base:Heap}{k l:Nat}{x:Str}{j:Nat}{Mf:cw->dq}{g:cj}(c:Ca P w K mg base k x j Mf g) (h:k<=l):Ca P w K mg base l x j Mf g:=
 let ⟨f,fd,ps,F,r⟩:=c;⟨f,fd,ps,F.mono h,r⟩
theorem M4 {P:cB}{w:cC}{K:W.Frag}{mg:cm}{base:Heap}{k:Nat}{f:cF}{fd:cA}{ps:List Str}:eE P w K mg base iK k f fd ps (qf λ_=>none):=
 ⟨(λvs H Q E ⟨_,_,_,_,_,q,_⟩=>by cases q),λA outer s H args us vs Q E _ _ _ _ ⟨_,_,_,_,_,q,_⟩=>by cases q⟩
theorem Kc {P:cB}{w:cC}{K:W.Frag}{mg:cm}{base:Heap}{k:Nat}{f:cF}{fd:cA}{ps:List Str}{j:Nat}{Mf:cw->dq}:eE P w K mg base iK k f fd ps (RD j Mf λ_=>none):=
 ⟨(λvs H Q E ⟨_,_,_,_,_,_,_,_,q,_⟩=>by cases q),λA outer s H args us vs Q E _ _ _ _ ⟨_,_,_,_,_,_,_,_,q,_⟩=>by cases q⟩
structure UO [Mem] (X:Cx) (es:List cG) (i j:Nat) (f:cb):Prop where
 go:Tp X es i j f
section
variable {X:Cx}{e k o:cG}{es:List cG}{body rest:List cH}{p pos pos' p2:Pos}{x:Str}{a:cF}{M:dq}{C0 H0:Hp}{i:Nat}
theorem t4 [Mem] {i:Nat}{f:cb}(ho:PE X e (gI i)) (hr:IC X es f) (hs:starEach (e::es) X.env=(false,eval e X.env)::starEach es X.env:=by exact eG rfl):UO X (e::es) i 0 f:=⟨J8 ho hr.go hs⟩
theorem t5 [Mem] {i j:Nat}{f:cf}{g:cb}(ha:WD X e f) (hr:UO X es i j g) (hs:starEach (e::es) X.env=(false,eval e X.env)::starEach es X.env:=by exact eG rfl):UO X (e::es) i (j+1) (cL f g):=⟨J9 ha.go hr.go hs⟩
theorem t6 {l j:Nat}{Mf:cw->dq}{g:cj}{fa:cb}(c:Ca X.prog X.w X.K X.mg X.base l x j Mf g) (hr:gn l X.A) (hg:Gl X x) (ha:@UO (dg a M) X (e::es) i j fa)
  (rV:(x==("__debug__":Str))=false:=by decide) (he:starEach (e::es) X.env=(false,eval e X.env)::starEach es X.env:=by exact eG rfl) (jX:(backTo pos (starEach es X.env)).any (·.1)=false:=by exact eX rfl):
  @WD (dg a M) X (.Call (.Name x p) (e::es) [] pos) (jJ i Mf g M fa):=by
 obtain⟨f,fd,ps,F,hm,hk,hb⟩:=c;letI:=dg a M
 exact⟨Hy F hr hg hm hk hb ha.go rV he jX⟩
theorem HA (fs:List Nat) {fk:cf}{fb:cc}(hu:X.A.units+64<cLine) (hk:@WD (dg a M) X k fk) (ho:PE X o (gI i)) (hb:@qx (dg a M) X C0 H0 body fb) (hm:behindInMarks .NotIn o=false:=by first|exact sJ _|rfl):
  @WB (dg a M) X C0 H0 (.If (.Compare k [.NotIn] [o] pos) body [] pos') (lx i fs fk fb):=by
 letI:=dg a M
 exact⟨Hx fs hu hk.go ho hb.go hm⟩
theorem Ex {fk:cf}(hu:X.A.units+64<cLine) (ho:PE X o (gI i)) (hk:@WD (dg a M) X k fk) (hs:nM k):@WD (dg a M) X (.Subscript o k pos) (iN M i fk):=by
 letI:=dg a M
 exact⟨Et hu ho hk.go hs⟩
theorem Ey {fk fe:cf}(hu:X.A.units+64<cLine) (he:@WD (dg a M) X e fe) (ho:PE X o (gI i)) (hk:@WD (dg a M) X k fk)
  (ha:∀v,assign (.Subscript o k p) X.env v=(do
   let ov <-holding [v] (eval o X.env)
   let iv <-holding [v,ov] (eval k X.env)
   standAt p
   holding [v,ov,iv] (setItem ov iv v)
   release [v,ov,iv] []):=by intro _;rfl)
  (hs:swapsWithSole [.Subscript o k p] e pos.line X.env=pure false:=by rfl) (hw:swappedStores [.Subscript o k p] e X.env=pure none:=by rfl) (h1:(assignEach [.Subscript o k p] X.env).map (·.2)=[assign (.Subscript o k p) X.env]:=by rfl):
  @WB (dg a M) X C0 H0 (.Assign [.Subscript o k p] e pos) (ju M i fk fe):=by
 letI:=dg a M
 exact⟨Eu hu he.go ho hk.go ha hs hw h1⟩
theorem Cb (i:Nat) {y:Str}{py pd:Pos}{Mo:dR->Option dq}{fr:dq->cc}(hN:X.N.Nodup)
  (hr:∀(a:cF) (M:dq) (C1 H1:Hp),@qx (dg a M) X C1 H1 rest (fr M)) (hi:X.N[i]? =some y:=by rfl) (hx:Loc X.env.scope y:=by first|exact Or.inl rfl|exact Or.inr rfl) (hs:swapsWith (.Dict [] [] pd) (some (.Name y py)) pos.line X.env=pure false:=by rfl) (hf:X.fn y=true\/X.env.scope.names.lookup y=some .local:=by first|exact .inl rfl|exact .inr rfl):
  @qx Mem.keep X C0 H0 (.Assign [.Name y py] (.Dict [] [] pd) pos::rest) (qA i Mo fr):=
 @qx.mk Mem.keep _ _ _ _ _ (B9 i hN (λa M C1 H1=>@qx.go (dg a M) _ _ _ _ _ (hr a M C1 H1)) hi hx hs hf)
end
theorem Ez {P:cB}{w:cC}{K:W.Frag}{mg:cm}{base:Heap}{x qual:Str}{st:cH}{f:cF}{fd:cA}{N ps:List Str}{k:Nat}(F:mN K x qual st f fd) (S:dD N ps (cO st)) {fb:cc}
  (js:∀(fL:cy) (A:cD) (outer:List Env) (s:cz) (H:Hp) (E:XK),gn k (A.deeper (envOfC qual (cO st) s.heap.objs.size f fL))->∀C0 H0,@qx Mem.keep (qp iK P w K mg base N qual (cO st) f fL A outer s H E).DE C0 H0 (dw st) fb):
  eE P w K mg base iK (k+1) f fd ps (qf (hO N.length ps.length fb)):=Od F S λfL A outer s H E hr C0 H0=>@qx.go Mem.keep _ _ _ _ _ (js fL A outer s H E hr C0 H0)
theorem M5 {P:cB}{w:cC}{K:W.Frag}{mg:cm}{base:Heap}{x qual:Str}{st:cH}{f:cF}{fd:cA}{N ps:List Str}{k:Nat}(j:Nat) (Mf:cw->dq) (F:mN K x qual st f fd) (S:dD N ps (cO st)) {fb:dq->cc}
  (js:∀(a:cF) (M:dq) (fL:cy) (A:cD) (outer:List Env) (s:cz) (H:Hp) (E:XK),gn k (A.deeper (envOfC qual (cO st) s.heap.objs.size f fL))->∀C0 H0,@qx (dg a M) (qp iK P w K mg base N qual (cO st) f fL A outer s H E).DE C0 H0 (dw st) (fb M)):
  eE P w K mg base iK (k+1) f fd ps (RD j Mf (xj N.length ps.length j Mf fb)):=QC j Mf F S λa M fL A outer s H E hr C0 H0=>@qx.go (dg a M) _ _ _ _ _ (js a M fL A outer s H E hr C0 H0)
end DL
namespace DL
open PySem PySem.Spec PyProof.Rows L2
theorem EA:bootBuiltins "any"=some (.builtin "any"):=by decide +kernel
section
variable {X:Cx}
theorem Cc (hc:X.calm=true):jl X (.builtin "any") (λxs H Q=>∃(p:cF) (bs:List Bool),xs=[.ref p]/\qk X.K H p (bs.map V.bl)/\Q (.bl (bs.any id)) H):=by
 intro pins s σ H xs us Q I r h;obtain⟨p,bs,rfl,hq,q⟩:=h;obtain⟨u,rfl,r1⟩:=vals1 r;cases r1;obtain⟨dF,rv,pl,hz⟩:=I.list hq;have fQ:p<s.heap.objs.size:=by obtain⟨o,n,e,_⟩:=pl;exact aB e
 have hlen:=rv.length;rw[ae]at hlen;have S7:∀(i:Nat) (v:cy),dF.toArray[i]? =some v->v=.bool (bs.getD i false):=λi v hv=>by
  have L7:dF[i]? =some v:=by simpa using hv
  have hi:i<dF.length:=(List.getElem?_eq_some_iff.mp L7).1;have g1:(bs.map V.bl)[i]? =some (.bl (bs.getD i false)):=by
   rw[av,ah (by omega),ak,ah (by omega)];rfl
  obtain⟨w,h1,h2⟩:=rv.get g1;rw[L7]at h1;cases h1;exact h2
 refine call_any_walk (wpAny_pyIter_list pl.isList ⟨s.heap.objs.size,_,_,_,_,_,λi=>bs.getD i false,rfl,Walks.list (A:=X.A.in1) (I.ok.hd hc) s.heap.objs.size p (aE fQ) dF.toArray,⟨⟨_,az _ rfl,rfl,rfl⟩,?_⟩,λi v s' Q' E' hv hQ=>?_,λh' tk kk=>?_⟩)
 ·obtain⟨o,n,e,h1,h2,h3⟩:=pl;exact⟨o,ag _ e,h1,n,h3⟩
 ·rw[S7 i v hv];exact bS hQ
 ·have I1:L2.Inv X pins σ H {s with heap:=s.heap.push {cls:=.type "list_iterator",data:=.fields #[.ref p,.int 0 0]}}:=I.kept (t':=s.toks) λb o e=>ag _ e
  obtain⟨f0,f1,f2,f3,f4,f5⟩:=I.IQ (H':=H) (au _) (I.fX.fresh (au _));have I2:=I1.turned (t':=tk) (h':=h') (it:=s.heap.objs.size) (λb o hb e=>kk b o (by simpa using hb) e) f0 f1 f3 f4 f5
  refine⟨.bl (bs.any id),H,I2,?_,q⟩;show Value.bool _=Value.bool _
  congr 1
  rw[aq,<-hlen];clear S7 hlen;rw[Bool.eq_iff_iff];simp only[bQ,List.mem_range,id];constructor
  ·rintro⟨i,hi,h⟩
   rw[ak,ah hi]at h;exact⟨_,List.getElem_mem hi,h⟩
  ·rintro⟨b,hb,h⟩
   obtain⟨i,hi,e⟩:=List.getElem_of_mem hb;refine⟨i,hi,?_⟩;rw[ak,ah hi];show bs[i]=true;rw[e];exact h
def Cd:cj
 |[.lst ds]=>(oN ds).map λbs=>.bl (bs.any id)
 |_=>none
theorem Kd (hc:X.calm=true):qt X (.builtin "any") Cd:=by
 refine⟨_,Cc hc,?_⟩;intro C H vs ds d Q s i q k;unfold Cd at q;split at q
 ·rename_i es;cases hb:oN es with
  |none=>rw[hb]at q;cases q
  |some bs=>
   rw[hb]at q;cases q;letI:=Mem.keep
   obtain⟨v,rfl,j⟩:=i.one;obtain⟨p,xs,rfl,hq,l⟩:=j.list (K:=X.K) s;rw[wW hb]at l;cases l.Eb;exact⟨p,bs,rfl,hq,k _ C H (.refl s) (.bl _)⟩
 ·cases q
end
end DL
namespace L2
open PySem PySem.Spec PyProof.Rows
section
variable {prog:cB}{w:cC}{A:cD}{E:ck}{s:cz}
theorem Cg {Q:cx->cz->Prop}{t:cF}{vs:cx}(ht:IsTup s.heap t vs.toArray)
  (hQ:Q vs {s with heap:=(s.heap.push (seqObj "list" #[] 0)).update s.heap.objs.size (Obj.mapSeq (·++vs.toArray))}) (hsz:vs.length<=sizeLine):
  wpAny (model prog w) A (collect (.ref t)) Q E s:=by
 obtain⟨o,ho,hc,n,hd⟩:=id ht;unfold collect;refine aa (wpAny_runValue (codeAny_builtin F.entry_proto_collect ?_));rw[bZ F.plain_proto_collect _];show wpAny _ A.in1 (newList []>>=λl=>again (.builtin "list.__iadd__" ⟨[l,.ref t],[]⟩)) _ _ s
 refine aa (bT ?_);refine aj ⟨plainId_quiet F.plain_list_iadd _,codeAny_builtin F.entry_list_iadd ?_⟩;rw[bZ F.plain_list_iadd _];show wpAny _ A.in1 (Builtin.List.listExtendWith (.ref s.heap.objs.size) (.ref t) (.ref s.heap.objs.size)) _ _ _;have hS:(s.heap.push {cls:=.type "list",data:=.seq ([]:cx).toArray}).get? s.heap.objs.size=some {cls:=.type "list",data:=.seq #[] 0}:=az _ rfl;have hS₂:=Heap.get?_update_self (Obj.mapSeq (·++vs.toArray)) hS rfl
 have Tr:wpAny (model prog w) A (match Value.ref s.heap.objs.size with
   |Value.ref a=>do
    match(<-load a).data with
     |Data.seq xs _=>pure xs.toList
     |_=>unsupported "internal:collect"
   |_=>unsupported "internal:collect") Q E {s with heap:=(s.heap.push {cls:=.type "list",data:=.seq ([]:cx).toArray}).update s.heap.objs.size (Obj.mapSeq (·++vs.toArray))}:=by
  show wpAny _ A (load s.heap.objs.size>>=_) _ _ _;refine aa (wpAny_load hS₂ ?_);refine aj ?_;have e:((#[]:Array cy)++vs.toArray).toList=vs:=by simp
  show Q ((#[]:Array cy)++vs.toArray).toList _;rw[e];exact hQ
 refine bR (wpAny_extend_seq (hsz:=by rw[aq];exact hsz) (A:=A) (R:=λr s'=>r=.ok (.ret (.ref s.heap.objs.size))/\s'={s with heap:=(s.heap.push {cls:=.type "list",data:=.seq ([]:cx).toArray}).update s.heap.objs.size (Obj.mapSeq (·++vs.toArray))})
  (s:={s with heap:=s.heap.push {cls:=.type "list",data:=.seq ([]:cx).toArray}}) _ t _ 0 (.inr rfl) hS (ag _ ho) hc hd ⟨rfl,rfl⟩) (λfin s' h=>?_) (λe s' h=>?_)
 ·cases fin with
  |done f=>
   obtain⟨e,rfl⟩:=h;cases e;exact Tr
  |again c'=>exact⟨h.1,codeAny_mono h.2 λr Iy hr=>by obtain⟨rfl,rfl⟩:=hr;exact Tr⟩
 ·exact absurd h.1 (by simp)
theorem AZ {t:cF}{vs:cx}{ns:cq}{Q:ck}(ht:IsTup s.heap t vs.toArray) (hI:IntsAre vs ns) (En:vs.length<64)
  (h:∀(out:Array cy) (BE:cq),IntsAre out.toList BE->BE.Perm ns->BE.Pairwise (·<= ·)->Q (.ref (s.heap.objs.size+1)) {s with heap:=sortedAll s.heap vs out}):
  wpAny (model prog w) A (call (.builtin "sorted") [.ref t]) Q E s:=by
 refine Calls.call_function_entry kind_sorted plain_sorted entry_sorted (args_sorted1 _) ?_;unfold Builtin.«sorted»;refine aa (m:=checkCount "sorted" 1 1 _) (aj ?_);refine aa (Cg ht ?_ (by rw[bx];omega))
 refine aa (wpAny_newList ?_ (hsz:=by rw[bx];omega))
 have hsz:((s.heap.push (seqObj "list" #[] 0)).update s.heap.objs.size (Obj.mapSeq (·++vs.toArray))).objs.size=s.heap.objs.size+1:=by
  rw[Heap.size_update,size_push']
 have Ft:(((s.heap.push (seqObj "list" #[] 0)).update s.heap.objs.size (Obj.mapSeq (·++vs.toArray))).push (seqObj "list" vs.toArray 0)).get? (s.heap.objs.size+1)=some (seqObj "list" vs.toArray 0):=by
  rw[<-hsz];exact az _ rfl
 show wpAny _ _ _ _ _ {s with heap:=((s.heap.push (seqObj "list" #[] 0)).update s.heap.objs.size (Obj.mapSeq (·++vs.toArray))).push (seqObj "list" vs.toArray 0)}
 rw[hsz];refine aa (bp (bO slot_list_sort ⟨_,Ft,rfl⟩ entry_list_sort (list_sort_tree Ft hI En λout BE a1 a2 a3=>⟨_,rfl,?_⟩) (args_list_sort _)))
 exact aj ⟨_,rfl,h out BE a1 a2 a3⟩
end
section
variable {X:Cx}
theorem t7:jl X (.builtin "sorted") (λxs H Q=>∃(p:cF) (ns:cq),xs=[.ref p]/\jr X.K H p (ns.map V.int)/\ns.length<64/\∀(l:cF) (ms:cq),H l=none->ms.Perm ns->ms.Pairwise (·<= ·)->Q (.ref l) (upd H l (.lst (ms.map V.int)))):=by
 intro pins s σ H xs us Q I r h;obtain⟨p,ns,rfl,hq,En,q⟩:=h;obtain⟨u,rfl,rx⟩:=vals1 r;cases rx;obtain⟨dF,rv,pl,hz⟩:=I.tuple hq;have hi:IntsAre dF ns:=intsAre_of rv;have hl:=hi.length;refine AZ pl hi (by omega) λout BE a1 a2 a3=>?_
 obtain⟨e,he⟩:=sortedAll_at s.heap dF out;refine⟨.ref (s.heap.objs.size+1),_,I.laid (t':=s.toks) (o:=.lst (BE.map V.int)) (λb o z=>sortedAll_old z) (Nat.le_succ _) ?_,rfl,q _ BE (I.fX.fresh (Nat.le_succ _)) a2 a3⟩
 refine⟨?_,out.toList,e,rk a1,by simpa using he⟩
 have:=a2.length_eq;rw[ae];exact bh (kM (by omega))
end
end L2
namespace DL
open PySem PySem.Spec PyProof.Rows L2
section
variable {X:Cx}
def lG:cw->Option (cw)
 |[.tup ds]=>if ds.length<64 then(intsOf ds).map λns=>(sortI ns).map D.int else none
 |_=>none
theorem rC (hu:X.A.units+64<cLine):FK X (.builtin "sorted") lG:=by
 refine⟨_,t7,?_⟩;intro C H vs ds d Q s i q k;unfold lG at q;split at q
 ·rename_i es;split at q
  ·rename_i En;cases hn:intsOf es with
   |none=>rw[hn]at q;cases q
   |some ns=>
    rw[hn]at q;cases q;letI:=Mem.keep
    obtain⟨v,rfl,j⟩:=i.one;obtain⟨p,xs,rfl,hq,l,_⟩:=j.tup (K:=X.K) s;have e:=jM hn;subst e;cases l.rl;rw[ae]at En;refine⟨p,ns,rfl,hq,En,λt ms ht pm pw=>?_⟩
    have e:ms=sortI ns:=gC (λa b h1 h2=>by omega) (pm.trans (sortI_perm ns).symm) pw (w4 ns)
    subst e;exact k t _ C _ (.gK s ht) ht (s.free ht) dc (.ints _)
  ·cases q
 ·cases q
end
end DL
namespace DL
open PySem PySem.Spec PyProof.Rows L2
structure OC where
 cl:cF
 fG:Str
 fK:Str
 Mf:D->dq
structure pZ where
 o:cF
 dx:cF
 a:cF
structure gG (Y:OC) (A:pZ) (G:D) (C H:Hp) (xs:List (D×cF×cy)):Prop where
 h:∃fs gv,H A.o=some (.ins Y.cl A.dx fs)/\fs.lookup Y.fG=some gv/\fs.lookup Y.fK=some (.ref A.a)/\(∀m,m≠Y.fG->m≠Y.fK->fs.lookup m=none)/\Is C gv G
 c:C A.o=none
 m:ez A.a (Y.Mf G) C H xs
section
variable {Y:OC}{A:pZ}{G:D}{C H C' H':Hp}{xs:List (D×cF×cy)}
theorem gG.QA (m:gG Y A G C H xs) (e:mE C H C' H'):gG Y A G C' H' xs where
 h:=let ⟨fs,gv,h1,h2,h3,h4,h5⟩:=m.h;⟨fs,gv,e.h _ _ h1,h2,h3,h4,h5.mono e.c⟩
 c:=by
  obtain⟨fs,gv,h1,_⟩:=m.h;cases q:C' A.o with
  |none=>rfl
  |some u=>
   rcases e.n A.o u q with z|z
   ·rw[m.c]at z;cases z
   ·rw[h1]at z;cases z
 m:=m.m.QA e
theorem gG.yR (m:gG Y A G C H xs) {b:cF}{o:HO}(hb:b≠A.o) (Ts:b≠A.a):gG Y A G C (upd H b o) xs where
 h:=let ⟨fs,gv,h1,h2⟩:=m.h;⟨fs,gv,by rw[cV (Ne.symm hb)];exact h1,h2⟩
 c:=m.c
 m:=m.m.yR Ts
theorem gG.yS (m:gG Y A G C H xs) {b:cF}{o:HO}(hb:b≠A.o) (Ts:b≠A.a) (hc:C b=none):gG Y A G (upd C b o) H xs where
 h:=let ⟨fs,gv,h1,h2,h3,h4,h5⟩:=m.h;⟨fs,gv,h1,h2,h3,h4,h5.mono (eR hc)⟩
 c:=by rw[cV (Ne.symm hb)];exact m.c
 m:=m.m.yS Ts hc
theorem gG.ne (m:gG Y A G C H xs) {b:cF}(h:∀u,H b=some u->DF u=false):b≠A.o/\b≠A.a:=by
 refine⟨λz=>?_,m.m.ne h⟩
 obtain⟨fs,gv,h1,_⟩:=m.h;subst z;have:=h _ h1;cases this
theorem gG.Og (m:gG Y A G C H xs) {b:cF}(h:H b=none):b≠A.o/\b≠A.a:=by
 refine⟨λz=>?_,m.m.Og h⟩
 obtain⟨fs,gv,h1,_⟩:=m.h;subst z;rw[h1]at h;cases h
theorem gG.Oh (m:gG Y A G C H xs) {b:cF}{o:HO}(ho:H b=some o) (hx:DF o=false):b≠A.o/\b≠A.a:=m.ne λu q=>by rw[ho]at q;cases q;exact hx
theorem gG.oa (m:gG Y A G C H xs):A.o≠A.a:=λz=>by
 obtain⟨fs,gv,h1,_⟩:=m.h;have:=m.m.h;rw[<-z,h1]at this;cases this
end
@[reducible] def dr (Y:OC) (A:pZ) (G:D):Mem where
 cell:=some A.a
 face:=some A.o
 ok:=λC H=>∃xs,gG Y A G C H xs
 has:=λC H k=>∃xs,gG Y A G C H xs/\k∈xs.map (·.1)
 rel:=λC H C' H'=>((∃xs,gG Y A G C H xs)->∃xs,gG Y A G C' H' xs)/\∀k,(∃xs,gG Y A G C H xs/\k∈xs.map (·.1))->∃xs,gG Y A G C' H' xs/\k∈xs.map (·.1)
 of0:=λe=>⟨λ⟨xs,m⟩=>⟨xs,m.QA e⟩,λk ⟨xs,m,hk⟩=>⟨xs,m.QA e,hk⟩⟩
 trans:=λr1 r2=>⟨λh=>r2.1 (r1.1 h),λk h=>r2.2 k (r1.2 k h)⟩
 chg:=λ{_ _ _ _ b o} r hb=>⟨λ⟨xs,m⟩=>let ⟨ys,m'⟩:=r.1 ⟨xs,m⟩;⟨ys,m'.yR (m.Og hb).1 (m.Og hb).2⟩,λk ⟨xs,m,hk⟩=>let ⟨ys,m',yT⟩:=r.2 k ⟨xs,m,hk⟩;⟨ys,m'.yR (m.Og hb).1 (m.Og hb).2,yT⟩⟩
 give:=λ{_ _ _ H' b o} r hc ho hx=>⟨λh=>let ⟨ys,m'⟩:=r.1 h;⟨ys,m'.yS (m'.Oh ho hx).1 (m'.Oh ho hx).2 hc⟩,λk h=>let ⟨ys,m',yT⟩:=r.2 k h;⟨ys,m'.yS (m'.Oh ho hx).1 (m'.Oh ho hx).2 hc,yT⟩⟩
 SS:=λr h=>r.1 h
 Jt:=λr _ h=>r.2 _ h
 Rz:=λ⟨xs,m⟩ h=>⟨xs,m.yR (m.ne h).1 (m.ne h).2⟩
 Hg:=λ_ h ⟨xs,m,hk⟩=>⟨xs,m.yR (m.ne h).1 (m.ne h).2,hk⟩
 SU:=λ{_ _ b o} ⟨xs,m⟩ hc ho hx=>⟨xs,m.yS (m.Oh ho hx).1 (m.Oh ho hx).2 hc⟩
 Ju:=λ{_ _ b o k} _ hc ho hx ⟨xs,m,hk⟩=>⟨xs,m.yS (m.Oh ho hx).1 (m.Oh ho hx).2 hc,hk⟩
def oO (G:D) (i:Nat):cf:=λδ=>match δ[i]? with
 |some (.memo _)=>some G
 |_=>none
structure lR (K:W.Frag) (Y:OC):Prop where
 cl:LN K Y.cl
 nG:qo K Y.cl Y.fG
 nK:qo K Y.cl Y.fK
section
variable {X:Cx}{Y:OC}{A:pZ}{G:D}{C0 H0:Hp}{e k o:cG}{body:List cH}{pos pos' p p2 po:Pos}{i:Nat}
theorem M6 (Z:lR X.K Y) (ho:PE X o (gI i)) (hb:attributeBase o Y.fG X.env (eval o X.env)=eval o X.env):@PD (dr Y A G) X (.Attribute o Y.fG po) (oO G i):=by
 letI:=dr Y A G
 refine(Ax ho hb).imp λσ H Q ⟨C,δ,d,x,q,fin⟩=>?_
 unfold oO at q;split at q
 ·rename_i ks hi;cases q;obtain⟨a',h1,h2,⟨xs,m⟩,_⟩:=x.mem i ks hi;cases h1;obtain⟨fs,gv,g1,g2,g3,g4,g5⟩:=m.h;exact⟨.ref A.o,h2,A.o,Y.cl,A.dx,fs,gv,rfl,g1,Z.cl,Z.nG,g2,fin gv C H (.refl x.sub) g5⟩
 ·cases q
theorem QI {σ:L2.St}{C H:Hp}{δ:dR}{ks:cw}{Q:VK}(Z:lR X.K Y) (x:@Sx (dr Y A G) δ σ C H) (hi:δ[i]? =some (.memo ks)) (q:Q (.ref A.a) H):Sh X.K (gI i) Y.fK σ H Q:=by
 obtain⟨a',h1,h2,⟨xs,m⟩,_⟩:=@Sx.mem (dr Y A G) _ _ _ _ x i ks hi;cases h1;obtain⟨fs,gv,g1,g2,g3,g4,g5⟩:=m.h;exact⟨.ref A.o,h2,A.o,Y.cl,A.dx,fs,_,rfl,g1,Z.cl,Z.nK,g3,q⟩
theorem Ke (fs:List Nat) {fk:cf}{fb:cc}(hu:X.A.units+64<cLine) (Z:lR X.K Y) (hk:@PD (dr Y A G) X k fk) (ho:PE X o (gI i)) (hb:attributeBase o Y.fK X.env (eval o X.env)=eval o X.env) (V4:@yB (dr Y A G) X C0 H0 body fb) (hm:behindInMarks .NotIn (.Attribute o Y.fK po)=false):
  @PB (dr Y A G) X C0 H0 (.If (.Compare k [.NotIn] [.Attribute o Y.fK po] pos) body [] pos') (lx i fs fk fb):=λB=>by
 letI:=dr Y A G
 refine(IL (Aw (tY (a:=A.a) (M:=Y.Mf G) hu) hk (Ax ho hb) hm) (V4 B) Au).imp λDn σ H ⟨C,δ,r,gd,q,fin⟩=>?_
 unfold lx at q;split at q
 ·rename_i ks ds δ2 hi J7 JJ;split at q
  ·rename_i hc;obtain⟨c1,c2,c3⟩:=hc;cases q;refine⟨C,δ,.tup ds,gd.x,J7,λv C1 H1 e1 i1=>?_⟩
   have g1:=gd.AK e1;obtain⟨a',h1,h2,⟨xs,m⟩,h4⟩:=g1.x.mem i ks hi;refine QI Z g1.x hi ⟨C1,ds,xs,e1.s,i1,c1,c2,rfl,m.m,_,rfl,?_⟩;cases hs:(atKey xs (.tup ds)).isSome with
   |true=>exact BR (fin σ C1 H1 ((g1.zP hi ⟨xs,m,rA.mp hs⟩).weak (vt fs δ i _ ks)))
   |false=>exact AF ⟨C1,δ,.next δ2,g1,JJ,λσ' C' H' g'=>fin σ' C' H' (g'.weak c3)⟩
  ·cases q
 ·cases q
theorem HB {fk:cf}(hu:X.A.units+64<cLine) (Z:lR X.K Y) (ho:PE X o (gI i)) (hb:attributeBase o Y.fK X.env (eval o X.env)=eval o X.env) (hk:@PD (dr Y A G) X k fk) (hs:nM k):@PD (dr Y A G) X (.Subscript (.Attribute o Y.fK po) k pos) (iN (Y.Mf G) i fk):=by
 letI:=dr Y A G
 refine(Ji (FU (a:=A.a) (M:=Y.Mf G) hu) (Ax ho hb) hk hs).imp λσ H Q ⟨C,δ,d,x,q,fin⟩=>?_
 unfold iN at q;split at q
 ·rename_i ks ds hi J7;split at q
  ·rename_i hc;obtain⟨c1,c2,c3⟩:=hc;refine QI Z x hi ⟨C,δ,.tup ds,x,J7,λv C1 H1 e1 i1=>?_⟩
   obtain⟨a',h1,_,_,h4⟩:=(x.ev e1).mem i ks hi;obtain⟨xs,m,hx⟩:=h4 _ c3;refine⟨C1,ds,xs,e1.s,rfl,i1,c1,c2,m.m,hx,λw d' hw iw=>?_⟩
   rw[q]at hw;cases hw;exact fin w C1 H1 e1 iw
  ·cases q
 ·cases q
theorem EB {C H:Hp}{xs ys:List (D×cF×cy)}(s:dZ C H) (m:gG Y A G C H xs) (m':ez A.a (Y.Mf G) C (upd H A.a (.ext (jm A.a ys))) ys) (hk:∀k,(∃zs,ez A.a (Y.Mf G) C H zs/\k∈zs.map (·.1))->k∈ys.map (·.1)):
  gG Y A G C (upd H A.a (.ext (jm A.a ys))) ys/\@Ev (dr Y A G) C H C (upd H A.a (.ext (jm A.a ys))):=by
 letI:=dr Y A G
 have m2:gG Y A G C (upd H A.a (.ext (jm A.a ys))) ys:=⟨let ⟨fs,gv,h1,h2⟩:=m.h;⟨fs,gv,by rw[cV m.oa];exact h1,h2⟩,m.c,m'⟩
 refine⟨m2,dZ.refl _,λb o q h=>?_,λb o q h x=>?_,λb u q=>?_,λb u q=>.inl q,⟨λ_=>⟨ys,m2⟩,λk ⟨zs,mz,hz⟩=>⟨ys,m2,hk k ⟨zs,mz.m,hz⟩⟩⟩⟩
 ·have:b≠A.a:=λz=>by
   subst z;rcases h with h|h
   ·exact h rfl
   ·rw[m.m.h]at q;cases q;cases h
  rw[cV this];exact q
 ·cases h;exact⟨_,dc,rfl⟩
 ·rw[cV (cY q m.m.c)];exact s b u q
theorem HC {fk fe:cf}(hu:X.A.units+64<cLine) (Z:lR X.K Y) (he:@PD (dr Y A G) X e fe) (ho:PE X o (gI i)) (hb:attributeBase o Y.fK X.env (eval o X.env)=eval o X.env) (hk:@PD (dr Y A G) X k fk)
  (ha:∀v,assign (.Subscript (.Attribute o Y.fK po) k p) X.env v=(do
   let ov <-holding [v] (eval (.Attribute o Y.fK po) X.env)
   let iv <-holding [v,ov] (eval k X.env)
   standAt p
   holding [v,ov,iv] (setItem ov iv v)
   release [v,ov,iv] []))
  (hs:swapsWithSole [.Subscript (.Attribute o Y.fK po) k p] e pos.line X.env=pure false) (hw:swappedStores [.Subscript (.Attribute o Y.fK po) k p] e X.env=pure none) (h1:(assignEach [.Subscript (.Attribute o Y.fK po) k p] X.env).map (·.2)=[assign (.Subscript (.Attribute o Y.fK po) k p) X.env]):
  @PB (dr Y A G) X C0 H0 (.Assign [.Subscript (.Attribute o Y.fK po) k p] e pos) (ju (Y.Mf G) i fk fe):=λB=>by
 letI:=dr Y A G
 refine(DN he (IP (Ax ho hb) hk (B7 (a:=A.a) (M:=Y.Mf G) hu) ha) hs hw h1).imp λDn σ H ⟨C,δ,r,gd,q,fin⟩=>?_
 unfold ju at q;split at q
 ·rename_i ks ds d hi J7 MM;split at q
  ·rename_i hc;cases q;refine⟨C,δ,d,gd.x,MM,λv C1 H1 e1 i1=>?_⟩
   have g1:=gd.AK e1;refine QI Z g1.x hi ⟨C1,δ,.tup ds,g1.x,J7,λkv C2 H2 e2 i2=>?_⟩
   have g2:=g1.AK e2;obtain⟨a',z1,z2,⟨xs,m⟩,_⟩:=g2.x.mem i ks hi;refine⟨C2,ds,d,xs,e2.s,rfl,i2,i1.mono e2.c,hc,m.m,λys m' yT o8=>fin σ C2 _ ?_⟩
   obtain⟨m2,ev⟩:=EB e2.s m m' yT;exact(g2.AK ev).zP hi ⟨ys,m2,o8⟩
  ·cases q
 ·cases q
end
end DL
namespace DL
open PySem PySem.Spec PyProof.Rows L2
def HD (Y:OC) (g:cj):Sp:=λvs H Q _=>∃C G ds d A ws,dZ C H/\vs=.ref A.o::ws/\IsL C ws ds/\(∃xs,gG Y A G C H xs)/\g (G::ds)=some d/\∀v C' H',@Ev (dr Y A G) C H C' H'->Is C' v d->Q v H'
def j8 (i:Nat) (G:D) (g:cj) (f:cb):cf:=λδ=>match δ[i]? with
 |some (.memo _)=>(f δ).bind λds=>g (G::ds)
 |_=>none
def t8 (g:cj) (fg:cf) (fa:cb):cf:=λδ=>(fg δ).bind λG=>(fa δ).bind λds=>g (G::ds)
section
variable {X:Cx}{Y:OC}{A:pZ}{G:D}{C0 H0:Hp}{e o:cG}{es:List cG}{pos p po apos:Pos}{i k:Nat}{m x:Str}{f:cF}{fd:cA}{ps:List Str}{g:cj}{fa:cb}
theorem Kf {pl:Sem Bool}(Z:lR X.K Y) (ho:PE X o (gI i)) (hm:Meth X.K Y.cl m f) (h1:m≠Y.fG) (h2:m≠Y.fK) (F:eE X.prog X.w X.K X.mg X.base iK k f fd ps (HD Y g)) (hr:gn k X.A) (hb:Binds X.K fd ps []) (ha:@Hh (dr Y A G) X (e::es) fa)
  (n5:starEach (e::es) X.env=(false,eval e X.env)::starEach es X.env) (jX:(backTo pos (starEach es X.env)).any (·.1)=false)
  (ht:eval (.Call (.Attribute o m apos) (e::es) [] pos) X.env=(do
   let ov <-eval o X.env
   standAt apos.atName
   let (f,first) <-holding [ov] (getMethod ov m pl)
   callWith pos f first (backTo pos (starEach (e::es) X.env)) (backToKw pos (keywordEach [] X.env)))):
  @PD (dr Y A G) X (.Call (.Attribute o m apos) (e::es) [] pos) (j8 i G g fa):=by
 letI:=dr Y A G
 refine(Fy ho Z.cl hm F hr hb .nil BQ ha n5 jX ht).imp λσ H Q ⟨C,δ,d,x,q,fin⟩=>?_
 unfold j8 at q;split at q
 ·rename_i ks hi;cases hf:fa δ with
  |none=>rw[hf]at q;cases q
  |some ds=>
   rw[hf]at q;simp only[ao]at q;obtain⟨a',z1,z2,⟨xs,mm⟩,_⟩:=x.mem i ks hi;cases z1;obtain⟨fs,gv,g1,g2,g3,g4,g5⟩:=mm.h;refine⟨.ref A.o,z2,A.o,A.dx,fs,rfl,g1,g4 m h1 h2,C,δ,ds,x,hf,λvs C1 H1 e1 i1=>?_⟩
   obtain⟨_,_,_,ok,_⟩:=(x.ev e1).mem i ks hi;show HD Y g (V.ref A.o::(vs++[])) H1 Q E0;rw[bD];exact⟨C1,G,ds,d,A,vs,e1.s,rfl,i1,ok,q,λv C2 H2 e2 i2=>fin v C2 H2 (e1.trans e2) i2⟩
 ·cases q
end
def mV (n np:Nat) (fb:D->cc):cj
 |G::ds=>if ds.length+1=np/\0<np then(match fb G (startM n np 0 ds)with|some (.ret d)=>some d|some (.next _)=>some .eD|_=>none)else none
 |[]=>none
theorem QJ {P:cB}{w:cC}{K:W.Frag}{mg:cm}{base:Heap}{x qual:Str}{st:cH}{f:cF}{fd:cA}{N ps:List Str}{k:Nat}(Y:OC) (F:mN K x qual st f fd) (S:dD N ps (cO st)) {fb:D->cc}
  (js:∀(A:pZ) (G:D) (fL:cy) (Ar:cD) (outer:List Env) (s:cz) (H:Hp) (E:XK),gn k (Ar.deeper (envOfC qual (cO st) s.heap.objs.size f fL))->∀C0 H0,@yB (dr Y A G) (qp iK P w K mg base N qual (cO st) f fL Ar outer s H E).DE C0 H0 (dw st) (fb G)):
  eE P w K mg base iK (k+1) f fd ps (HD Y (mV N.length ps.length fb)):=by
 refine F.ok S (λvs H Q E h=>?_) (λfL Ar outer s H vs Q E hr h=>?_)
 ·obtain⟨C,G,ds,d,A,ws,_,rfl,i,_,q,_⟩:=h;simp only[mV]at q;split at q
  ·rename_i hl;have h1:=i.length;rw[ax];omega
  ·cases q
 ·obtain⟨C,G,ds,d,A,ws,sub,rfl,i,ok,q,fin⟩:=h;letI:=dr Y A G
  refine⟨tS C C H (fb G),js A G fL Ar outer s H E hr C H C,?_⟩;simp only[mV]at q;split at q
  case isFalse=>cases q
  rename_i hl;obtain⟨hl,Ea⟩:=hl;have hN:ps.length<=N.length:=by have:=S.pre;rw[<-this,bL];omega
  have lv:(V.ref A.o::ws).length=ps.length:=by
   have h1:=i.length;rw[ax];omega
  have sg:∀n:Nat,n<(V.ref A.o::ws).length->(L2.start N (V.ref A.o::ws))[n]? =some (V.ref A.o::ws)[n]? :=λn hn=>by
   unfold L2.start;rw[aK (by rw[ae];exact hn),av,ah hn];rfl
  have noOwn:∀n es,(startM N.length ps.length 0 ds)[n]? ≠some (Sl.own es):=λn es e=>by
   rw[kO hl Ea]at e;split at e
   ·cases hd:ds[n]? with
    |none=>rw[hd]at e;cases e
    |some d'=>rw[hd]at e;cases e
   ·split at e
    ·cases e
    ·split at e
     ·cases hd:ds[n-1]? with
      |none=>rw[hd]at e;cases e
      |some d'=>rw[hd]at e;cases e
     ·split at e<;>cases e
  have sx:Sx (startM N.length ps.length 0 ds) (L2.start N (V.ref A.o::ws)) C H:=by
   refine⟨sub,λn d e=>?_,λn es e=>absurd e (noOwn n es),λn m es fs a e=>absurd e (noOwn n es),?_,λn ks e=>?_⟩
   ·rw[kO hl Ea]at e;split at e
    ·rename_i h1;omega
    ·split at e
     ·cases e
     ·rename_i h1 h2;split at e
      ·rename_i h3;cases hd:ds[n-1]? with
       |none=>rw[hd]at e;cases e
       |some d'=>
        rw[hd]at e;cases e;obtain⟨v,g1,g2⟩:=i.get hd;refine⟨v,?_,g2⟩;rw[sg n (by omega)]
        obtain⟨n',rfl⟩:∃n',n=n'+1:=⟨n-1,by omega⟩
        rw[aL];exact congrArg some g1
      ·split at e<;>cases e
   ·unfold L2.start startM;simp only[aR,ae,List.length_replicate,ax,bL,List.length_drop];have h1:=i.length;omega
   ·rw[kO hl Ea]at e;split at e
    ·rename_i h1;omega
    ·split at e
     ·rename_i h2;subst h2;cases e;exact⟨A.o,rfl,by rw[sg 0 (by omega)];rfl,ok,λk hk=>by cases hk⟩
     ·split at e
      ·cases hd:ds[n-1]? with
       |none=>rw[hd]at e;cases e
       |some d'=>rw[hd]at e;cases e
      ·split at e<;>cases e
  have gd:Gd C C H (startM N.length ps.length 0 ds) (L2.start N (V.ref A.o::ws)) C H:=⟨dZ.refl _,.refl sub,sx,λn es a e _=>absurd e (noOwn n es)⟩
  split at q
  ·rename_i d' hf;cases q;exact⟨C,_,_,gd,hf,λv C' H' ev i'=>fin v C' H' ev i'⟩
  ·rename_i δ' hf;cases q;exact⟨C,_,_,gd,hf,λσ' C' H' g'=>fin .eD C' H' g'.ev .eD⟩
  ·cases q
def xl (Y:OC) (H:Hp) (x dx p:cF) (gv:V):Hp:=upd (upd (upd H x (.ins Y.cl dx (pe Y.fG gv []))) p (.ext (jm p []))) x (.ins Y.cl dx (pe Y.fK (.ref p) (pe Y.fG gv [])))
def Kg (Y:OC):TS:=λDn σ H=>∃x dx gv,σ[0]? =some (some (.ref x))/\σ[1]? =some (some gv)/\H x=some (.ins Y.cl dx [])/\∀p,p≠x->H p=none->(p==sysModules)=false->Dn.nx σ (xl Y H x dx p gv)
def A0 (Y:OC):Sp:=λvs H Q _=>∃x dx gv,vs=[.ref x,gv]/\H x=some (.ins Y.cl dx [])/\∀p,p≠x->H p=none->(p==sysModules)=false->Q .eD (xl Y H x dx p gv)
section
variable {X:Cx}{Y:OC}{e0 e1 e2:cG}{p1 p2 p3 p4 p5:Pos}
theorem Kh (Z:lR X.K Y) (h0:PE X e0 (gI 0)) (h1:PE X e1 (gI 1)) (h2:PE X e2 (gI 0))
  (s1:swapsWith e1 (some (.Attribute e0 Y.fG p1)) p2.line X.env=pure false) (s2:swapsWith (.Dict [] [] p4) (some (.Attribute e2 Y.fK p3)) p5.line X.env=pure false):
  yA X [.Assign [.Attribute e0 Y.fG p1] e1 p2,.Assign [.Attribute e2 Y.fK p3] (.Dict [] [] p4) p5] (Kg Y):=λpins s σ H Dn I h=>by
 obtain⟨x,dx,gv,q0,q1,hx,fin⟩:=h;refine qm (Ja h0 h1 s1) (Fu (Ja h2 (FV (pos:=p4)) s2)) pins s σ H Dn I ?_;refine⟨gv,q1,.ref x,q0,x,Y.cl,dx,[],rfl,hx,Z.cl,Z.nG,by decide,?_⟩
 intro p hp hs;have jZ:p≠x:=λz=>by subst z;rw[dc]at hp;cases hp
 refine⟨.ref x,q0,x,Y.cl,dx,_,rfl,by rw[cV (Ne.symm jZ),dc],Z.cl,Z.nK,by show(1:Nat)<1000;decide,?_⟩
 exact fin p jZ (by rw[cV jZ]at hp;exact hp) hs
end
theorem M7 {P:cB}{w:cC}{K:W.Frag}{mg:cm}{base:Heap}{x qual:Str}{st:cH}{f:cF}{fd:cA}{N:List Str}{p1 p2:Str}{k:Nat}(Y:OC) (F:mN K x qual st f fd) (S:dD N [p1,p2] (cO st)) (hN:N.length=2)
  (js:∀(fL:cy) (Ar:cD) (outer:List Env) (s:cz) (H:Hp) (E:XK),yA (qp iK P w K mg base N qual (cO st) f fL Ar outer s H E).DE (dw st) (Kg Y)):
  eE P w K mg base iK (k+1) f fd [p1,p2] (A0 Y):=by
 refine F.ok S (λvs H Q E h=>?_) (λfL Ar outer s H vs Q E hr h=>?_)
 ·obtain⟨x,dx,gv,rfl,_⟩:=h;rfl
 ·obtain⟨x,dx,gv,rfl,hx,fin⟩:=h;refine⟨Kg Y,js fL Ar outer s H E,x,dx,gv,?_,?_,hx,fin⟩<;>rfl
def FY (Y:OC) (fg:cf):TE:=λσ H Q=>∃C δ G,@Sx Mem.keep δ σ C H/\fg δ=some G/\∀A C' H',mE C H C' H'->H A.o=none->H A.a=none->gG Y A G C' H' []->Q (.ref A.o) H'
section
variable {X:Cx}{Y:OC}{A:pZ}{G:D}{C0 H0:Hp}{e o:cG}{es:List cG}{pos p po apos:Pos}{i k:Nat}{m x:Str}{f:cF}{fd:cA}{ps:List Str}{g:cj}{fa:cb}{fg:cf}{rest:List cH}
theorem M8 (Z:lR X.K Y) (V5:Y.fK≠Y.fG) (M:Mk X.K Y.cl f) (F:eE X.prog X.w X.K X.mg X.base iK k f fd ps (A0 Y)) (hr:gn (k+1) X.A) (hg:Gl X x) (hm:X.mg x=some (.ref Y.cl)) (hb:Binds X.K fd ps [])
  (ha:@PD Mem.keep X e fg) (rV:(x==("__debug__":Str))=false:=by decide) (he:starEach [e] X.env=(false,eval e X.env)::starEach [] X.env:=by exact eG rfl) (jX:(backTo pos (starEach [] X.env)).any (·.1)=false:=by exact eX rfl):
  PE X (.Call (.Name x p) [e] [] pos) (FY Y fg):=by
 letI:=Mem.keep
 refine(Ma M F hr hg hm hb .nil BQ (lr ha sL he) rV he jX).imp λσ H Q ⟨C,δ,G,sx,q,fin⟩=>?_
 refine⟨C,δ,G,sx,q,λv C1 H1 e1 i1=>?_⟩
 intro x dx hx Oi jZ;refine⟨x,dx,v,rfl,dc,λp hp UP DI=>⟨rfl,?_⟩⟩
 have e1:=e1.pX;have hpd:p≠dx:=λz=>by
  subst z;rw[cV hp,dc]at UP;cases UP
 have LU:H1 p=none:=by rw[cV hp,cV hpd]at UP;exact UP
 have hH:∀b,b≠x->b≠p->b≠dx->xl Y (upd (upd H1 dx (.own x)) x (.ins Y.cl dx [])) x dx p v b=H1 b:=λb n1 n2 n3=>by
  unfold xl;rw[cV n1,cV n2,cV n1,cV n1,cV n3]
 have ev:mE C1 H1 C1 (xl Y (upd (upd H1 dx (.own x)) x (.ins Y.cl dx [])) x dx p v):=by
  refine⟨dZ.refl _,λb u q=>?_,λb u q=>?_,λb u q=>.inl q⟩
  ·rw[hH b (cY q hx) (cY q LU) (cY q Oi)];exact q
  ·have q':=e1.s b u q;rw[hH b (cY q' hx) (cY q' LU) (cY q' Oi)];exact q'
 refine fin ⟨x,dx,p⟩ C1 _ (e1.trans ev) (e1.h.free hx) (e1.h.free LU) ⟨⟨_,v,dc,?_,?_,λm h1 h2=>?_,i1⟩,e1.s.free hx,xk (e1.s.free LU) DI ?_⟩
 ·rw[iJ,if_neg (Ne.symm V5),iJ,if_pos rfl]
 ·rw[iJ,if_pos rfl]
 ·rw[iJ,if_neg h2,iJ,if_neg h1];rfl
 ·show xl Y _ x dx p v p=_;unfold xl;rw[cV hp,dc]
theorem A3 {C H C1 H1 C2 H2:Hp}(e1:mE C H C1 H1) (hn:H A.a=none) (e2:@Ev (dr Y A G) C1 H1 C2 H2):mE C H C2 H2:=by
 letI:=dr Y A G
 refine⟨e1.c.trans e2.c,λb o q=>?_,e2.s,λb u q=>?_⟩
 ·have hb:b≠A.a:=λz=>by subst z;rw[hn]at q;cases q
  exact e2.h b o (e1.h b o q) (.inl λz=>hb (aT z).symm)
 ·rcases e2.n b u q with z|z
  ·exact e1.n b u z
  ·exact .inr (e1.h.free z)
theorem EC {pl:Sem Bool}(Z:lR X.K Y) (ho:PE X o (FY Y fg)) (hm:Meth X.K Y.cl m f) (h1:m≠Y.fG) (h2:m≠Y.fK) (F:eE X.prog X.w X.K X.mg X.base iK k f fd ps (HD Y g)) (hr:gn k X.A) (hb:Binds X.K fd ps []) (ha:@Hh Mem.keep X (e::es) fa)
  (n5:starEach (e::es) X.env=(false,eval e X.env)::starEach es X.env) (jX:(backTo pos (starEach es X.env)).any (·.1)=false)
  (ht:eval (.Call (.Attribute o m apos) (e::es) [] pos) X.env=(do
   let ov <-eval o X.env
   standAt apos.atName
   let (f,first) <-holding [ov] (getMethod ov m pl)
   callWith pos f first (backTo pos (starEach (e::es) X.env)) (backToKw pos (keywordEach [] X.env)))):
  @PD Mem.keep X (.Call (.Attribute o m apos) (e::es) [] pos) (t8 g fg fa):=by
 letI:=Mem.keep
 refine(Fy ho Z.cl hm F hr hb .nil BQ ha n5 jX ht).imp λσ H Q ⟨C,δ,d,x,q,fin⟩=>?_
 unfold t8 at q;cases hG:fg δ with
 |none=>rw[hG]at q;cases q
 |some G=>
  cases hf:fa δ with
  |none=>rw[hG,hf]at q;cases q
  |some ds=>
   rw[hG,hf]at q;simp only[ao]at q;refine⟨C,δ,G,x,hG,λA C1 H1 e1 n1 n2 mm=>?_⟩
   obtain⟨fs,gv,g1,g2,g3,g4,g5⟩:=mm.h;refine⟨A.o,A.dx,fs,rfl,g1,g4 m h1 h2,C1,δ,ds,x.ev e1.up,hf,λvs C2 H2 e2 i2=>?_⟩
   show HD Y g (V.ref A.o::(vs++[])) H2 Q E0;rw[bD];have V6:=e2.pX;exact⟨C2,G,ds,d,A,vs,V6.s,rfl,i2,⟨[],mm.QA V6⟩,q,λv C3 H3 e3 i3=>fin v C3 H3 (A3 (e1.trans V6) n2 e3).up i3⟩
def wo (i:Nat) (fg:cf) (fr:D->cc):cc:=λδ=>
 if noOwn δ=true/\i<δ.length then(fg δ).bind λG=>(fr G (δ.set i (.memo []))).bind (rZ i)else none
theorem A4 {B C0 H0 C H C1 H1 C2 H2:Hp}{δ δ':dR}{σ σ':L2.St}{i:Nat}(g:@Gd Mem.keep B C0 H0 δ σ C H) (e0:mE C H C1 H1) (hn:H A.a=none) (g2:@Gd (dr Y A G) B C1 H1 δ' σ' C2 H2) (hm:mU (δ'.set i .no)=true):
  @Gd Mem.keep B C0 H0 (δ'.set i .no) σ' C2 H2:=by
 have e1:mE C0 H0 C H:=(@Gd.ev Mem.keep _ _ _ _ _ _ _ g).pX;have e2:mE C0 H0 C2 H2:=A3 (e1.trans e0) (e1.h.free hn) (@Gd.ev (dr Y A G) _ _ _ _ _ _ _ g2);have x2:=@Gd.x (dr Y A G) _ _ _ _ _ _ _ g2;have own:∀{k:Nat}{ds:cw},(δ'.set i Sl.no)[k]? =some (.own ds)->δ'[k]? =some (.own ds):=λ{k ds} q=>by
  rcases getElem?_set_cases q with⟨_,z⟩|⟨_,z⟩
  ·cases z
  ·exact z
 letI:=Mem.keep
 refine⟨@Gd.b (dr Y A G) _ _ _ _ _ _ _ g2,e2.up,⟨e2.s,λk d q=>?_,λk ds q=>@Sx.own (dr Y A G) _ _ _ _ x2 k ds (own q),λk l ds es b q1 q2=>@Sx.yM (dr Y A G) _ _ _ _ x2 k l ds es b (own q1) (own q2),by rw[List.length_set];exact @Sx.len (dr Y A G) _ _ _ _ x2,λk ks q=>(rB hm q).elim⟩,λk ds b q1 q2=>?_⟩
 ·rcases getElem?_set_cases q with⟨_,z⟩|⟨_,z⟩
  ·cases z
  ·exact @Sx.dat (dr Y A G) _ _ _ _ x2 k d z
 ·exact(e1.trans e0).h.free (@Gd.fr (dr Y A G) _ _ _ _ _ _ _ g2 k ds b (own q1) q2)
theorem ED (i:Nat) {y:Str}{py:Pos}{fr:D->cc}(hN:X.N.Nodup) (ho:PE X o (FY Y fg))
  (hr:∀(A:pZ) (G:D) (C1 H1:Hp),@yB (dr Y A G) X C1 H1 rest (fr G)) (hi:X.N[i]? =some y) (hx:Loc X.env.scope y) (hs:swapsWith o (some (.Name y py)) pos.line X.env=pure false) (hf:X.fn y=true\/X.env.scope.names.lookup y=some .local):
  @yB Mem.keep X C0 H0 (.Assign [.Name y py] o pos::rest) (wo i fg fr):=λB=>by
 have ex:yA X rest (λDn σ H=>∃(A:pZ) (G:D) (C1 H1:Hp),@tS (dr Y A G) B C1 H1 (fr G) Dn σ H):=λpins s σ H Dn I ⟨A,G,C1,H1,q⟩=>hr A G C1 H1 B pins s σ H Dn I q
 refine(qm (wG hN hi hx ho hs hf) ex).imp λDn σ H ⟨C,δ,r,gd,q,fin⟩=>?_
 unfold wo at q;split at q
 case isFalse=>cases q
 rename_i hc;obtain⟨u0,hlen⟩:=hc;cases hM:fg δ with
 |none=>rw[hM]at q;cases q
 |some G=>
  rw[hM]at q;simp only[ao]at q;cases BW:fr G (δ.set i (.memo []))with
  |none=>rw[BW]at q;cases q
  |some r'=>
   rw[BW]at q;simp only[ao]at q;have x0:=@Gd.x Mem.keep _ _ _ _ _ _ _ gd;refine⟨C,δ,G,x0,hM,λA C1 H1 e0 n1 n2 mm=>?_⟩
   have e1:mE C0 H0 C H:=(@Gd.ev Mem.keep _ _ _ _ _ _ _ gd).pX;have g1:@Gd (dr Y A G) B C1 H1 (δ.set i (.memo [])) (σ.set i (some (.ref A.o))) C1 H1:=by
    letI:=dr Y A G
    have hl:=@Sx.len Mem.keep _ _ _ _ x0;refine⟨(@Gd.b Mem.keep _ _ _ _ _ _ _ gd).trans e0.c,.refl e0.s,⟨e0.s,λk d z=>?_,λk ds z=>?_,λk l ds es b z=>?_,by simp[hl],λk ks z=>?_⟩,λk ds b z=>?_⟩
    ·rcases getElem?_set_cases z with⟨_,z⟩|⟨hk,z⟩
     ·cases z
     ·obtain⟨v,h1,h2⟩:=@Sx.dat Mem.keep _ _ _ _ x0 k d z;exact⟨v,by rw[aG (Ne.symm hk)];exact h1,h2.mono e0.c⟩
    ·rcases getElem?_set_cases z with⟨_,z⟩|⟨hk,z⟩
     ·cases z
     ·exact(j7 u0 z).elim
    ·rcases getElem?_set_cases z with⟨_,z⟩|⟨hk,z⟩
     ·cases z
     ·exact(j7 u0 z).elim
    ·rcases getElem?_set_cases z with⟨rfl,z'⟩|⟨hk,z⟩
     ·cases z';exact⟨A.o,rfl,by rw[bf (by rw[<-hl];exact hlen)],⟨[],mm⟩,λk hk=>by cases hk⟩
     ·obtain⟨b,h1,_⟩:=@Sx.mem Mem.keep _ _ _ _ x0 k ks z;cases h1
    ·rcases getElem?_set_cases z with⟨_,z⟩|⟨hk,z⟩
     ·cases z
     ·exact(j7 u0 z).elim
   refine⟨A,G,C1,H1,C1,_,r',g1,BW,?_⟩;cases r' with
   |next δ'=>
    simp only[rZ]at q;split at q
    ·rename_i hm;cases q;exact λσ' C2 H2 g2=>fin σ' C2 H2 (A4 gd e0 n2 g2 hm)
    ·cases q
   |ret d=>
    cases q;exact λv C2 H2 ev iv=>fin v C2 H2 (@mE.up _ _ _ _ Mem.keep (A3 (e1.trans e0) (e1.h.free n2) ev)) iv
   |brk δ'=>
    simp only[rZ]at q;split at q
    ·rename_i hm;cases q;exact λσ' C2 H2 g2=>fin σ' C2 H2 (A4 gd e0 n2 g2 hm)
    ·cases q
   |cont δ'=>
    simp only[rZ]at q;split at q
    ·rename_i hm;cases q;exact λσ' C2 H2 g2=>fin σ' C2 H2 (A4 gd e0 n2 g2 hm)
    ·cases q
end
end DL
namespace DL
open PySem PySem.Spec PyProof.Rows L2
def j9 (P:cB) (w:cC) (K:W.Frag) (mg:cm) (base:Heap) (k:Nat) (Y:OC) (m:Str) (g:cj):Prop:=
 ∃f fd ps,eE P w K mg base iK k f fd ps (HD Y g)/\Meth K Y.cl m f/\Binds K fd ps []/\m≠Y.fG/\m≠Y.fK
theorem j9.mono {P:cB}{w:cC}{K:W.Frag}{mg:cm}{base:Heap}{k l:Nat}{Y:OC}{m:Str}{g:cj}(c:j9 P w K mg base k Y m g) (h:k<=l):j9 P w K mg base l Y m g:=
 let ⟨f,fd,ps,F,r⟩:=c;⟨f,fd,ps,F.mono h,r⟩
def sQ (P:cB) (w:cC) (K:W.Frag) (mg:cm) (base:Heap) (k:Nat) (Y:OC) (x:Str):Prop:=
 ∃f fd ps,eE P w K mg base iK k f fd ps (A0 Y)/\Mk K Y.cl f/\mg x=some (.ref Y.cl)/\Binds K fd ps []/\Y.fK≠Y.fG
theorem sQ.mono {P:cB}{w:cC}{K:W.Frag}{mg:cm}{base:Heap}{k l:Nat}{Y:OC}{x:Str}(c:sQ P w K mg base k Y x) (h:k<=l):sQ P w K mg base l Y x:=
 let ⟨f,fd,ps,F,r⟩:=c;⟨f,fd,ps,F.mono h,r⟩
theorem Ci {P:cB}{w:cC}{K:W.Frag}{mg:cm}{base:Heap}{k:Nat}{f:cF}{fd:cA}{ps:List Str}{Y:OC}:eE P w K mg base iK k f fd ps (HD Y λ_=>none):=
 ⟨(λvs H Q E ⟨_,_,_,_,_,_,_,_,_,_,q,_⟩=>by cases q),λA outer s H args us vs Q E _ _ _ _ ⟨_,_,_,_,_,_,_,_,_,_,q,_⟩=>by cases q⟩
structure QK (X:Cx) (Y:OC) (e:cG) (f:cf):Prop where
 go:PE X e (FY Y f)
section
variable {X:Cx}{Y:OC}{A:pZ}{G:D}{C0 H0:Hp}{e k o:cG}{es:List cG}{body rest:List cH}{pos pos' p p2 po apos:Pos}{i l:Nat}{m x:Str}{g:cj}{fa:cb}{fg:cf}
theorem wq (Z:lR X.K Y) (ho:PE X o (gI i)) (hb:attributeBase o Y.fG X.env (eval o X.env)=eval o X.env:=by rfl):@WD (dr Y A G) X (.Attribute o Y.fG po) (oO G i):=by
 letI:=dr Y A G
 exact⟨M6 Z ho hb⟩
theorem Ki (fs:List Nat) {fk:cf}{fb:cc}(hu:X.A.units+64<cLine) (Z:lR X.K Y) (hk:@WD (dr Y A G) X k fk) (ho:PE X o (gI i)) (V4:@qx (dr Y A G) X C0 H0 body fb) (hb:attributeBase o Y.fK X.env (eval o X.env)=eval o X.env:=by rfl) (hm:behindInMarks .NotIn (.Attribute o Y.fK po)=false:=by first|exact sJ _|rfl):
  @WB (dr Y A G) X C0 H0 (.If (.Compare k [.NotIn] [.Attribute o Y.fK po] pos) body [] pos') (lx i fs fk fb):=by
 letI:=dr Y A G
 exact⟨Ke fs hu Z hk.go ho hb V4.go hm⟩
theorem HE {fk:cf}(hu:X.A.units+64<cLine) (Z:lR X.K Y) (ho:PE X o (gI i)) (hk:@WD (dr Y A G) X k fk) (hs:nM k) (hb:attributeBase o Y.fK X.env (eval o X.env)=eval o X.env:=by rfl):@WD (dr Y A G) X (.Subscript (.Attribute o Y.fK po) k pos) (iN (Y.Mf G) i fk):=by
 letI:=dr Y A G
 exact⟨HB hu Z ho hb hk.go hs⟩
theorem HF {fk fe:cf}(hu:X.A.units+64<cLine) (Z:lR X.K Y) (he:@WD (dr Y A G) X e fe) (ho:PE X o (gI i)) (hk:@WD (dr Y A G) X k fk) (hb:attributeBase o Y.fK X.env (eval o X.env)=eval o X.env:=by rfl)
  (ha:∀v,assign (.Subscript (.Attribute o Y.fK po) k p) X.env v=(do
   let ov <-holding [v] (eval (.Attribute o Y.fK po) X.env)
   let iv <-holding [v,ov] (eval k X.env)
   standAt p
   holding [v,ov,iv] (setItem ov iv v)
   release [v,ov,iv] []):=by intro _;rfl)
  (hs:swapsWithSole [.Subscript (.Attribute o Y.fK po) k p] e pos.line X.env=pure false:=by rfl) (hw:swappedStores [.Subscript (.Attribute o Y.fK po) k p] e X.env=pure none:=by rfl) (h1:(assignEach [.Subscript (.Attribute o Y.fK po) k p] X.env).map (·.2)=[assign (.Subscript (.Attribute o Y.fK po) k p) X.env]:=by rfl):
  @WB (dr Y A G) X C0 H0 (.Assign [.Subscript (.Attribute o Y.fK po) k p] e pos) (ju (Y.Mf G) i fk fe):=by
 letI:=dr Y A G
 exact⟨HC hu Z he.go ho hb hk.go ha hs hw h1⟩
theorem oP {pl:Sem Bool}(Z:lR X.K Y) (c:j9 X.prog X.w X.K X.mg X.base l Y m g) (hr:gn l X.A) (ho:PE X o (gI i)) (ha:@IC (dr Y A G) X (e::es) fa)
  (n5:starEach (e::es) X.env=(false,eval e X.env)::starEach es X.env:=by exact eG rfl) (jX:(backTo pos (starEach es X.env)).any (·.1)=false:=by exact eX rfl)
  (ht:eval (.Call (.Attribute o m apos) (e::es) [] pos) X.env=(do
   let ov <-eval o X.env
   standAt apos.atName
   let (f,first) <-holding [ov] (getMethod ov m pl)
   callWith pos f first (backTo pos (starEach (e::es) X.env)) (backToKw pos (keywordEach [] X.env))):=by rfl):
  @WD (dr Y A G) X (.Call (.Attribute o m apos) (e::es) [] pos) (j8 i G g fa):=by
 obtain⟨f,fd,ps,F,hm,hb,h1,h2⟩:=c;letI:=dr Y A G
 exact⟨Kf Z ho hm h1 h2 F hr hb ha.go n5 jX ht⟩
theorem Tt (Z:lR X.K Y) (c:sQ X.prog X.w X.K X.mg X.base l Y x) (hr:gn (l+1) X.A) (hg:Gl X x) (ha:@WD Mem.keep X e fg) (rV:(x==("__debug__":Str))=false:=by decide) (he:starEach [e] X.env=(false,eval e X.env)::starEach [] X.env:=by exact eG rfl) (jX:(backTo pos (starEach [] X.env)).any (·.1)=false:=by exact eX rfl):
  QK X Y (.Call (.Name x p) [e] [] pos) fg:=by
 obtain⟨f,fd,ps,F,M,hm,hb,V5⟩:=c;exact⟨M8 Z V5 M F hr hg hm hb (@WD.go Mem.keep _ _ _ ha) rV he jX⟩
theorem EE {pl:Sem Bool}(Z:lR X.K Y) (c:j9 X.prog X.w X.K X.mg X.base l Y m g) (hr:gn l X.A) (ho:QK X Y o fg) (ha:@IC Mem.keep X (e::es) fa)
  (n5:starEach (e::es) X.env=(false,eval e X.env)::starEach es X.env:=by exact eG rfl) (jX:(backTo pos (starEach es X.env)).any (·.1)=false:=by exact eX rfl)
  (ht:eval (.Call (.Attribute o m apos) (e::es) [] pos) X.env=(do
   let ov <-eval o X.env
   standAt apos.atName
   let (f,first) <-holding [ov] (getMethod ov m pl)
   callWith pos f first (backTo pos (starEach (e::es) X.env)) (backToKw pos (keywordEach [] X.env))):=by rfl):
  @WD Mem.keep X (.Call (.Attribute o m apos) (e::es) [] pos) (t8 g fg fa):=by
 obtain⟨f,fd,ps,F,hm,hb,h1,h2⟩:=c;exact @WD.mk Mem.keep _ _ _ (EC Z ho.go hm h1 h2 F hr hb (@IC.go Mem.keep _ _ _ ha) n5 jX ht)
theorem EF (i:Nat) {y:Str}{py:Pos}{fr:D->cc}(hN:X.N.Nodup) (ho:QK X Y o fg)
  (hr:∀(A:pZ) (G:D) (C1 H1:Hp),@qx (dr Y A G) X C1 H1 rest (fr G)) (hi:X.N[i]? =some y:=by rfl) (hx:Loc X.env.scope y:=by first|exact Or.inl rfl|exact Or.inr rfl) (hs:swapsWith o (some (.Name y py)) pos.line X.env=pure false:=by rfl) (hf:X.fn y=true\/X.env.scope.names.lookup y=some .local:=by first|exact .inl rfl|exact .inr rfl):
  @qx Mem.keep X C0 H0 (.Assign [.Name y py] o pos::rest) (wo i fg fr):=
 @qx.mk Mem.keep _ _ _ _ _ (ED i hN ho.go (λA G C1 H1=>@qx.go (dr Y A G) _ _ _ _ _ (hr A G C1 H1)) hi hx hs hf)
end
theorem t9 {P:cB}{w:cC}{K:W.Frag}{mg:cm}{base:Heap}{x qual:Str}{st:cH}{f:cF}{fd:cA}{N ps:List Str}{k:Nat}(Y:OC) (F:mN K x qual st f fd) (S:dD N ps (cO st)) {fb:D->cc}
  (js:∀(A:pZ) (G:D) (fL:cy) (Ar:cD) (outer:List Env) (s:cz) (H:Hp) (E:XK),gn k (Ar.deeper (envOfC qual (cO st) s.heap.objs.size f fL))->∀C0 H0,@qx (dr Y A G) (qp iK P w K mg base N qual (cO st) f fL Ar outer s H E).DE C0 H0 (dw st) (fb G)):
  eE P w K mg base iK (k+1) f fd ps (HD Y (mV N.length ps.length fb)):=QJ Y F S λA G fL Ar outer s H E hr C0 H0=>@qx.go (dr Y A G) _ _ _ _ _ (js A G fL Ar outer s H E hr C0 H0)
end DL
namespace DL
open PySem PySem.Spec PyProof.Rows L2
end DL
namespace DL
open PySem PySem.Spec PyProof.Rows L2
section
variable {K:W.Frag}{Ce Cf Cn ea:cF}{oe:Obj}
end
end DL
namespace DL
open PySem PySem.Spec PyProof.Rows L2
section
variable {P:cB}{w:cC}{K:W.Frag}{mg:cm}{base:Heap}{N:List Str}{qual:Str}{scope:Scope}{f:cF}{cd:cy}{A:cD}{outer:List Env}{s0:cz}{H0:Hp}{E:XK}{Ce:cF}
end
section
variable {X:Cx}{k:Nat}
end
end DL
namespace DL
open PySem PySem.Spec PyProof.Rows L2
section
variable {X:Cx}{k:Nat}
end
section
variable [Mem] {X:Cx}{E:XK}{Ce:cF}{C0 H0:Hp}{st:cH}{body rest:List cH}{c:cG}{pos:Pos}
end
end DL
namespace DL
open PySem PySem.Spec PyProof.Rows L2
section
variable [Mem] {X:Cx}{E:XK}{Ce Cf Cn:cF}{C0 H0:Hp}{k:Nat}
end
end DL
namespace DL
open PySem PySem.Spec PyProof.Rows L2
section
variable {X:Cx}{ea:cF}{oe:Obj}{pins:cn}{σ:L2.St}{H:Hp}{s:cz}
end
section
variable [Mem] {X:Cx}{ea Ce Cf Cn:cF}{oe:Obj}{n c:Str}{p p1 p2 pos:Pos}{j:Nat}{b:Bool}
end
end DL
namespace DL
open PySem PySem.Spec PyProof.Rows L2
section
variable [Mem] {X:Cx}{k:Nat}{f Ce Cf Cn:cF}{fd:cA}{ps:List Str}{g:cw->Option (Option D)}{fa:cb}{x:Str}{p pos:Pos}{e:cG}{es:List cG}
end
end DL
namespace DL
open PySem PySem.Spec PyProof.Rows L2
section
variable [Mem] {X:Cx}{C0 H0:Hp}{k:Nat}{Ce Cf Cn:cF}{g:cw->Option (Option D)}{fa:cb}{x n c y:Str}{p p2 gm aay M9 n6 py:Pos}{e:cG}{es:List cG}{b0:cH}{X1:List cH}{c0:D}{vc:V}
end
end DL
namespace HT
open PySem PySem.Spec PyProof.Rows
section
variable {prog:cB}{w:cC}{A:cD}{E:ck}{s:cz}
end
end HT
namespace DL
open PySem PySem.Spec PyProof.Rows L2
section
variable [Mem] {X:Cx}{e:cG}{pos p0 p1 p2:Pos}{k0:Nat}{f:cf}
end
end DL
namespace DL
open PySem PySem.Spec PyProof.Rows L2
section
variable [Mem] {X:Cx}
end
section
variable {X:Cx}
end
end DL
namespace DL
open PySem PySem.Spec PyProof.Rows L2
section
variable {X:Cx}
end
end DL
namespace DL
open PySem PySem.Spec PyProof.Rows L2
section
variable [Mem] {X:Cx}{e o:cG}{f:cf}{x:Str}{xs:List Str}{p p2 pos apos:Pos}
end
end DL
namespace DL
open PySem PySem.Spec PyProof.Rows L2
def iS (f:cf):cb:=λδ=>match f δ with
 |some (.lst ds)=>some ds
 |some (.tup ds)=>some ds
 |_=>none
def Tu:cq->Int
 |[]=>0
 |a::r=>if r.isEmpty then a else(if a<Tu r then Tu r else a)
def jY:cq->Int
 |[]=>0
 |a::r=>if r.isEmpty then a else(if jY r<a then jY r else a)
def Cj:cj
 |[.lst ds]=>(intsOf ds).bind λns=>if ns.isEmpty then none else some (.int (jY ns))
 |_=>none
theorem xm:∀(l:cq),l≠[]->jY l∈l/\∀x∈l,jY l<=x
 |[],h=>absurd rfl h
 |[a],_=>by simp[jY]
 |a::b::r,_=>by
  obtain⟨h1,h2⟩:=xm (b::r) (by simp)
  have e:jY (a::b::r)=(if jY (b::r)<a then jY (b::r)else a):=by rw[jY];simp
  rw[e];refine⟨?_,λx hx=>?_⟩
  ·by_cases h:jY (b::r)<a
   ·rw[if_pos h];exact ai _ h1
   ·rw[if_neg h];exact af
  ·rcases List.mem_cons.mp hx with rfl|q
   ·split<;>omega
   ·have:=h2 x q;split<;>omega
theorem xn:∀{ns:cq}{dF:cx},Vals (ns.map V.int) dF->∃xs:Array (Int×Tok),dF.toArray=intItems xs/\xs.toList.map (·.1)=ns
 |[],_,.nil=>⟨#[],by simp[intItems],rfl⟩
 |n::ns,_,.cons r t=>by
  obtain⟨tk,rfl⟩:=r;obtain⟨xs,e1,e2⟩:=xn t;refine⟨((n,tk)::xs.toList).toArray,?_,by simpa using e2⟩
  have:intItems xs=(xs.toList.map λp=>Value.int p.1 p.2).toArray:=by cases xs;simp[intItems]
  rw[this]at e1;have e3:=congrArg Array.toList e1;simp only[]at e3;simp[intItems,e3]
section
variable {X:Cx}
theorem yU (hc:X.calm=true):jl X (.builtin "min") (λxs H Q=>∃(p:cF) (ns:cq),xs=[.ref p]/\qk X.K H p (ns.map V.int)/\ns≠[]/\Q (.int (jY ns)) H):=by
 intro pins s σ H xs us Q I r h;obtain⟨p,ns,rfl,hq,jZ,q⟩:=h;obtain⟨u,rfl,r1⟩:=vals1 r;cases r1;obtain⟨dF,rv,pl,hz⟩:=I.list hq;obtain⟨ys,e1,e2⟩:=xn rv;have hl:=pl.isList;rw[e1]at hl;have hsz:0<ys.size:=by
  have:(ys.toList.map (·.1)).length=ns.length:=by rw[e2]
  rw[ae,aO]at this;cases ns with
  |nil=>exact absurd rfl jZ
  |cons a r=>rw[ax]at this;omega
 refine min_intList (I.ok.hd hc) hl hsz λv h' tk hv k=>⟨_,H,I.kept k,?_,q⟩
 obtain⟨t,rfl⟩:=intItems_at hv;obtain⟨h1,h2⟩:=argBest_lt (numAt ys) (ys.size-1);generalize argBest (λi j=>decide (numAt ys i<numAt ys j)) (ys.size-1)=j at *
 have hn:numAt ys j∈ns:=by
  rw[numAt_eq,e2,ak];have hj:j<ns.length:=by rw[<-e2,ae,aO];omega
  rw[ah hj];exact List.getElem_mem hj
 obtain⟨m1,m2⟩:=xm ns jZ;have le1:=m2 _ hn;have XT:numAt ys j<=jY ns:=by
  obtain⟨i,hi,e⟩:=List.getElem_of_mem m1;have zM:i<ys.size:=by rw[<-e2,ae,aO]at hi;exact hi
  have:=h2 i (by omega)
  rw[numAt_eq ys i,e2,ak,ah hi]at this;simp only[Option.getD_some]at this;rw[e]at this;exact this
 exact⟨t,by rw[show numAt ys j=jY ns by omega]⟩
end
section
variable [Mem] {X:Cx}{e o tg a b:cG}{f g:cf}{pos apos:Pos}
theorem QL (hc:X.calm=true):qt X (.builtin "min") Cj:=by
 refine⟨_,yU hc,?_⟩;intro C H vs ds d Q s i q k;unfold Cj at q;split at q
 ·rename_i es;cases hb:intsOf es with
  |none=>rw[hb]at q;cases q
  |some ns=>
   rw[hb]at q;simp only[ao]at q;split at q
   ·cases q
   ·rename_i jZ;cases q;obtain⟨v,rfl,j⟩:=i.one;obtain⟨p,xs,rfl,hq,l⟩:=j.list (K:=X.K) s;rw[jM hb]at l;cases l.rl;exact⟨p,ns,rfl,hq,λz=>jZ (by rw[z];rfl),k _ C H (.refl s) (.int _)⟩
 ·cases q
theorem FZ (h:WD X e f):wj X tg e (iS f):=⟨λpins s σ H Q I ⟨C,δ,ds,x,q,k⟩=>by
 unfold iS at q;split at q
 ·rename_i es hf;exact BZ h.go pins s σ H Q I ⟨C,δ,ds,x,by unfold iL;rw[hf];exact q,k⟩
 ·rename_i es hf;exact FL h.go pins s σ H Q I ⟨C,δ,ds,x,by unfold iT;rw[hf];exact q,k⟩
 ·cases q⟩
end
end DL
namespace LW
open PySem DL
open L2 (lu sY)
def ua:cc:=
  (eP (dz tJ (dz tJ (dz uO (dk 0) (dC (.int 48271))) (dk 1)) (dk 2)))
def qC:cc:=
  ua
def dv:cj:=hO 3 3 qC
def mW:cc:=
  (jF 4 (dz jE (dk 1) (cT dv (cL (cP 0) (cL (dC (.int 9973)) (cL (dz jE (dz oK (dk 2) (dk 1)) (dC (.int 1))) cR))))))
def mX:cc:=
  (hJ 5 (rY cR))
def mY:cc:=
  (jF 7 (dz jE (dC (.int 1)) (cT dv (cL (dz jE (dk 0) (dz uO (dC (.int 7)) (dk 6))) (cL (dC (.int 9949)) (cL (cT vo (cL (dC (.int 4)) (cL (dk 4) cR))) cR))))))
def iO:cc:=
  (jF 7 (dC (.int 2)))
def gL:cc:=
  (lO (rX (qB (dz LS (dz tJ (dk 0) (dC (.int 3))) (dC (.int 0)))) (rX (qB (dz nI (dk 7) (dC (.int 1)))) (qB (dz LS (dk 4) (dC (.int 1)))))) iO g9)
def mZ:cc:=
  (hJ 8 (uS (cL (cP 4) cR)))
def m3:cc:=
  (zN 9 10 8 (uS (cL (cP 7) cR)) (cT dv (cL (dz jE (dz jE (dk 0) (dz uO (dC (.int 11)) (dk 6))) (dz uO (dC (.int 3)) (dk 10))) (cL (dC (.int 9941)) (cL (dz oK (dk 4) (dk 10)) cR)))))
def m4:cc:=
  (uR 5 (cT kJ (cL (dL (jq j4 (cL (dk 9) cR))) cR)))
def iP:cc:=
  (lO (qB (dz tN (cT kJ (cL (dL (jq j4 (cL (dk 9) cR))) cR)) (dk 5))) m4 g9)
def hU:cc:=
  (eB mY
   (eB gL
   (eB mZ
   (eB m3
   (oM 9 iP)))))
def lS:cc:=
  (kK 6 (uS (cL (cT dv (cL (cP 0) (cL (dC (.int 9967)) (cL (dz jE (dk 3) (dC (.int 1))) cR)))) cR)) hU)
def lT:cc:=
  (eP (fi (cL (cP 4) (cL (cT kJ (cL (dL (jq j4 (cL (dk 5) cR))) cR)) cR))))
def ly:cc:=
  (eB mW
  (eB mX
  (eB lS
  lT)))
def dH:cj:=hO 11 4 ly
def oq:cc:=
  (jF 4 (cT dH (cL (cP 0) (cL (cP 1) (cL (cP 2) (cL (cP 3) cR))))))
def sk:cc:=
  (eP (fi (cL (cP 4) (cL (cT dv (cL (cP 0) (cL (dC (.int 9931)) (cL (dC (.int 2)) cR)))) (cL (dz jE (dC (.int 1)) (dz AJ (cT dv (cL (cP 0) (cL (dC (.int 9929)) (cL (dC (.int 5)) cR)))) (dC (.int 3)))) (cL (dz jE (dC (.int 1)) (dz AJ (cT dv (cL (cP 0) (cL (dC (.int 9923)) (cL (dC (.int 5)) cR)))) (dC (.int 3)))) cR))))))
def mq:cc:=
  (eB oq
  sk)
def dS:cj:=hO 5 4 mq
end LW
namespace LW
open PySem DL
open L2 (lu sY)
def gA (c p m:Int):Int:=c*48271%p%m
theorem pB {c p m:Int}(hm:0<m):0<=gA c p m:=Int.emod_nonneg _ (by omega)
theorem pC {c p m:Int}(hm:0<m):gA c p m<m:=Int.emod_lt_of_pos _ hm
theorem vv {c p m:Int}(hp:0<p) (hm:0<m):dv [.int c,.int p,.int m]=some (.int (gA c p m)):=by
 simp[dv,qC,ua,hO,eP,dz,dk,dC,uO,tJ,DH,Hk,BY,hp,hm,gA]
theorem Ck {j:Nat}{f:cc}(P:Nat->dR->Prop):∀(ds:cw) (n:Nat) (δ:dR),P n δ->
  (∀i δ d,ds[i]? =some d->P (n+i) δ->∃δ',f (δ.set j (.dat d))=some (.next δ')/\P (n+i+1) δ')->∃δ',fm j f ds δ=some (.next δ')/\P (n+ds.length) δ'
 |[],n,δ,h0,_=>⟨δ,rfl,h0⟩
 |d::ds,n,δ,h0,st=>by
  obtain⟨δ1,e1,h1⟩:=st 0 δ d rfl h0;obtain⟨δ2,e2,h2⟩:=Ck P ds (n+1) δ1 h1 (λi δ d hd hp=>by
   have:=st (i+1) δ d (by simpa using hd) (by rw[show n+(i+1)=n+1+i by omega];exact hp)
   rw[show n+(i+1)+1=n+1+i+1 by omega]at this
   exact this)
  refine⟨δ2,?_,by rw[show n+(d::ds).length=n+1+ds.length by simp;omega];exact h2⟩
  unfold fm;rw[e1];exact e2
theorem sR {α:Type}:∀(ls:List α) (i:Nat) (h:i<ls.length),(ls[i]::ls.eraseIdx i).Perm ls
 |a::l,0,_=>List.Perm.refl _
 |a::l,i+1,h=>by
  simp only[List.getElem_cons_succ,List.eraseIdx_cons_succ];exact(List.Perm.swap _ _ _).trans (List.Perm.cons _ (sR l i (by simpa using h)))
theorem Ga {j m:Nat}{f:cf}{δ:dR}:∀(ds ls:cw),ds.length<=ls.length->
  (∀k d lc,ds[k]? =some d->lc.length+k=ls.length->∃i:Int,f ((δ.set m (.own lc)).set j (.dat d))=some (.int i)/\0<=i/\i<lc.length)->
  ∃xs rest,AU j m f δ ls ds=some (xs,rest)/\(xs++rest).Perm ls/\xs.length=ds.length
 |[],ls,_,_=>⟨[],ls,rfl,List.Perm.refl _,rfl⟩
 |d::ds,ls,hl,h=>by
  obtain⟨i,e,h0,h1⟩:=h 0 d ls rfl rfl;have hi:i.toNat<ls.length:=by omega
  have le:(ls.eraseIdx i.toNat).length=ls.length-1:=List.length_eraseIdx_of_lt hi;obtain⟨xs,rest,e2,p,l⟩:=Ga ds (ls.eraseIdx i.toNat) (by simp at hl;omega) (λk d lc hd hk=>h (k+1) d lc (by simpa using hd) (by omega))
  refine⟨ls[i.toNat]::xs,rest,?_,?_,by simp[l]⟩
  ·unfold AU;rw[e];simp only[if_pos h0,ah hi,e2,bC]
  ·rw[List.cons_append];refine(List.Perm.cons _ p).trans ?_;exact sR _ _ hi
theorem kP:∀(n:Nat) (lo x:Int),x∈du lo n↔lo<=x/\x<lo+n
 |0,lo,x=>by simp only[du,bK,false_iff];omega
 |n+1,lo,x=>by
  simp only[du,List.mem_cons,kP n (lo+1) x];omega
theorem iQ:∀(n:Nat) (lo:Int),(du lo n).Pairwise (·< ·)
 |0,_=>.nil
 |n+1,lo=>by
  simp only[du,List.pairwise_cons];exact⟨λx hx=>by rw[kP]at hx;omega,iQ n (lo+1)⟩
end LW
namespace ST
open PySem SetTable
abbrev fO (l:List Nat):Prop:=l.Pairwise (·< ·)
theorem wt {l:List Nat}(h:fO l) {i k:Nat}(hik:i<k) (hk:k<l.length):l[i]'(by omega)<l[k]:=List.pairwise_iff_getElem.mp h i k (by omega) hk hik
theorem A5 (xs:Array Nat) (j:Nat) (hr:fO xs.toList):∀(fuel lo hi:Nat),lo<=hi->hi<=xs.size->hi-lo<=fuel->(∀k (h:k<xs.size),k<lo->xs[k]<j)->(∀k (h:k<xs.size),hi<=k->j<=xs[k])->
  let r:=below.go xs j fuel lo hi
  r<=xs.size/\(∀k (h:k<xs.size),k<r->xs[k]<j)/\(∀k (h:k<xs.size),r<=k->j<=xs[k])
 |0,lo,hi,h1,h2,h3,h4,h5=>by
  have e:lo=hi:=by omega
  subst e;exact⟨h2,h4,h5⟩
 |fuel+1,lo,hi,h1,h2,h3,h4,h5=>by
  unfold below.go;by_cases fQ:lo<hi
  ·simp only[if_pos fQ];have Tv:(lo+hi)/2<xs.size:=by omega
   have hg:xs.getD ((lo+hi)/2) j=xs[(lo+hi)/2]:=by simp[Tv]
   rw[hg];by_cases hc:xs[(lo+hi)/2]<j
   ·rw[if_pos hc];refine A5 xs j hr fuel ((lo+hi)/2+1) hi (by omega) h2 (by omega) (λk hk hkl=>?_) h5
    by_cases V7:k=(lo+hi)/2
    ·subst V7;exact hc
    ·have:=wt hr (i:=k) (k:=(lo+hi)/2) (by omega) (by simpa using Tv)
     simp only[Array.getElem_toList]at this;omega
   ·rw[if_neg hc];refine A5 xs j hr fuel lo ((lo+hi)/2) (by omega) (by omega) (by omega) h4 (λk hk hkl=>?_)
    by_cases V7:k=(lo+hi)/2
    ·subst V7;omega
    ·have:=wt hr (i:=(lo+hi)/2) (k:=k) (by omega) (by simpa using hk)
     simp only[Array.getElem_toList]at this;omega
  ·simp only[if_neg fQ];have e:lo=hi:=by omega
   subst e;exact⟨h2,h4,h5⟩
theorem pD (xs:Array Nat) (j:Nat) (hr:fO xs.toList):below xs j<=xs.size/\(∀k (h:k<xs.size),k<below xs j->xs[k]<j)/\(∀k (h:k<xs.size),below xs j<=k->j<=xs[k]):=
 A5 xs j hr xs.size 0 xs.size (bN _) (au _) (by omega) (λk h hk=>by omega) (λk h hk=>by omega)
theorem Kj {xs:Array Nat}{j i:Nat}(hr:fO xs.toList) (h:xs[i]? =some j):below xs j=i:=by
 obtain⟨h1,h2,h3⟩:=pD xs j hr;obtain⟨hi,hv⟩:=Array.getElem?_eq_some_iff.mp h;by_cases fQ:i<below xs j
 ·have:=h2 i hi fQ;omega
 ·by_cases N8:below xs j<i
  ·have hb:below xs j<xs.size:=by omega
   have:=wt hr (i:=below xs j) (k:=i) N8 (by simpa using hi)
   simp only[Array.getElem_toList]at this;have:=h3 (below xs j) hb (au _);omega
  ·omega
structure Tb (t:cE):Prop where
 rise:fO t.place.toList
 Tw:t.dummies=#[]
theorem rD {t:cE}(h:Tb t) {j i:Nat}(hi:t.place[i]? =some j):t.slot j=.live i:=by
 unfold slot;rw[Kj h.rise hi];simp[hi]
theorem xo {t:cE}(h:Tb t) {j:Nat}(hj:j∉t.place.toList):t.slot j=.empty:=by
 unfold slot;have h1:¬ (t.place[below t.place j]? ==some j)=true:=λz=>hj (by
  have z':t.place[below t.place j]? =some j:=by simpa using z
  exact Array.mem_toList_iff.mpr (Array.mem_of_getElem? z'))
 have h2:has t.dummies j=false:=by rw[h.Tw];rfl
 simp only[if_neg h1,h2];rfl
theorem xp {t:cE}(h:Tb t) (j:Nat):(∃i,t.slot j=.live i/\t.place[i]? =some j)\/(t.slot j=.empty/\j∉t.place.toList):=by
 by_cases hj:j∈t.place.toList
 ·obtain⟨i,hi⟩:=bq hj;have zM:t.place[i]? =some j:=by simpa using hi
  exact .inl ⟨i,rD h zM,zM⟩
 ·exact .inr ⟨xo h hj,hj⟩
end ST
namespace ST
open PySem SetTable
def it {α:Type}(f:α->α):Nat->α->α
 |0,a=>a
 |n+1,a=>it f n (f a)
theorem sS {α:Type}(f:α->α):∀(m n:Nat) (a:α),it f (m+n) a=it f n (it f m a)
 |0,n,a=>by rw[Nat.zero_add];rfl
 |m+1,n,a=>by rw[show m+1+n=(m+n)+1 by omega];exact sS f m n (f a)
theorem pE {α:Type}(f:α->α) (n:Nat) (a:α):it f (n+1) a=f (it f n a):=sS f n 1 a
def lp (mask i pt:Nat):Nat:=(i*5+1+pt/32)%(mask+1)
def gb (mask:Nat) (p:Probe):Probe:={p with j:=lp mask p.i p.perturb,more:=runEnd mask (lp mask p.i p.perturb)-lp mask p.i p.perturb,i:=lp mask p.i p.perturb,perturb:=p.perturb/32}
def jO (mask:Nat) (p:Probe):Probe:=if p.more>0 then {p with j:=p.j+1,more:=p.more-1}else gb mask p
theorem Kk (t:cE) (p:Probe):t.advance p=jO t.mask p:=by
 unfold SetTable.advance jO;split<;>rfl
theorem QM (mask i:Nat):runEnd mask i-i<=9:=by unfold runEnd;split<;>omega
theorem xq (mask:Nat):∀(k:Nat) (p:Probe),k<=p.more->it (jO mask) k p={p with j:=p.j+k,more:=p.more-k}
 |0,p,_=>rfl
 |k+1,p,h=>by
  show it (jO mask) k (jO mask p)=_;have e:jO mask p={p with j:=p.j+1,more:=p.more-1}:=by unfold jO;rw[if_pos (by omega)]
  rw[e,xq mask k _ (by show k<=p.more-1;omega)]
  show({p with j:=p.j+1+k,more:=p.more-1-k}:Probe)={p with j:=p.j+(k+1),more:=p.more-(k+1)}
  rw[show p.j+1+k=p.j+(k+1) by omega,show p.more-1-k=p.more-(k+1) by omega]
theorem vw (mask:Nat) (p:Probe):it (jO mask) (p.more+1) p=gb mask p:=by
 rw[pE,xq mask p.more p (au _)];unfold jO;rw[if_neg (by show ¬ p.more-p.more>0;omega)]
 rfl
theorem blocks (mask:Nat):∀(n:Nat) (p:Probe),p.more<=9->∃k,k<=10*n/\it (jO mask) k p=it (gb mask) n p
 |0,p,_=>⟨0,au _,rfl⟩
 |n+1,p,h=>by
  obtain⟨k,h1,h2⟩:=blocks mask n (gb mask p) (QM mask _);refine⟨p.more+1+k,by omega,?_⟩
  rw[sS,vw];exact h2
theorem EG (mask:Nat):∀(n:Nat) (p:Probe),(it (gb mask) n p).perturb=p.perturb/32^n
 |0,p=>by show p.perturb=_;rw[Nat.pow_zero,Nat.div_one]
 |n+1,p=>by
  show(it (gb mask) n (gb mask p)).perturb=_;rw[EG mask n];show p.perturb/32/32^n=_;rw[Nat.div_div_eq_div_mul,Nat.pow_succ,Nat.mul_comm]
def Na (mask i:Nat):Nat:=(i*5+1)%(mask+1)
theorem Kl (mask:Nat):∀(n:Nat) (p:Probe),p.perturb/32=0->(it (gb mask) n p).i=it (Na mask) n p.i
 |0,p,_=>rfl
 |n+1,p,h=>by
  show(it (gb mask) n (gb mask p)).i=it (Na mask) n (Na mask p.i);rw[Kl mask n _ (by show p.perturb/32/32=0;rw[h])]
  congr 1
  show lp mask p.i p.perturb=Na mask p.i;unfold lp Na;rw[h,Nat.add_zero]
theorem Tx:∀i:Fin 8,∀e:Fin 8,∃m:Fin 8,it (Na 7) m.val i.val=e.val:=by decide +kernel
theorem Oj:∀i:Fin 32,∀e:Fin 32,∃m:Fin 32,it (Na 31) m.val i.val=e.val:=by decide +kernel
theorem reach {mask:Nat}(hm:mask=7\/mask=31) {p:Probe}(h9:p.more<=9) (hp:p.perturb<2^64) {e:Nat}(he:e<=mask):∃k,k<10*turns mask/\(it (jO mask) k p).j=e:=by
 have key:∃m,m<=mask/\it (Na mask) m (it (gb mask) 12 p).i=e:=by
  have hi:(it (gb mask) 12 p).i<=mask:=by
   rw[pE];show lp mask _ _<=mask;unfold lp;have:=Nat.mod_lt ((it (gb mask) 11 p).i*5+1+(it (gb mask) 11 p).perturb/32) (show 0<mask+1 by omega)
   omega
  rcases hm with rfl|rfl
  ·obtain⟨m,hm⟩:=Tx ⟨(it (gb 7) 12 p).i,by omega⟩ ⟨e,by omega⟩
   exact⟨m.val,by omega,hm⟩
  ·obtain⟨m,hm⟩:=Oj ⟨(it (gb 31) 12 p).i,by omega⟩ ⟨e,by omega⟩
   exact⟨m.val,by omega,hm⟩
 obtain⟨m,h1,h2⟩:=key;obtain⟨k,h3,h4⟩:=blocks mask (12+m) p h9;refine⟨k,by unfold turns;omega,?_⟩
 rw[h4,sS];have h0:(it (gb mask) 12 p).perturb/32=0:=by
  rw[EG,Nat.div_div_eq_div_mul];apply Nat.div_eq_of_lt
  exact aw hp (by decide)
 have hj:∀(n:Nat) (q:Probe),q.j=q.i->(it (gb mask) n q).j=(it (gb mask) n q).i:=λn=>by
  cases n with
  |zero=>exact λq h=>h
  |succ n=>intro q _;rw[pE];rfl
 rw[hj m _ (by rw[pE];rfl),Kl mask m _ h0,h2]
end ST
namespace ST
open PySem SetTable
structure Pb (p:Probe):Prop where
 nine:p.more<=9
 Nb:p.perturb<2^64
 dm:p.dummy=none
theorem Pb.jO {mask:Nat}{p:Probe}(h:Pb p):Pb (jO mask p):=by
 unfold ST.jO;split
 ·exact⟨by show p.more-1<=9;have:=h.nine;omega,h.Nb,h.dm⟩
 ·exact⟨QM mask _,Nat.lt_of_le_of_lt (Nat.div_le_self _ _) h.Nb,h.dm⟩
theorem Gb (h:Int):bits h<2^64:=by
 unfold bits;have h1:=Int.emod_lt_of_pos h (show(0:Int)<2^64 by decide)
 have h2:=Int.emod_nonneg h (show(2^64:Int)≠0 by decide)
 omega
theorem Km (t:cE) (h:Int):Pb (t.probeStart h):=⟨QM _ _,Gb h,rfl⟩
theorem Kn {t:cE}(ht:Tb t) {ha:Nat->Int}{h:Int}:∀(fuel:Nat) (p:Probe),Pb p->(∃k,k<fuel/\t.slot (it (jO t.mask) k p).j=.empty)->
  ∃k,(∀m,m<k->∃i,t.slot (it (jO t.mask) m p).j=.live i/\ha i≠h)/\
   ((t.slot (it (jO t.mask) k p).j=.empty/\probe.go t ha h fuel p=some (.empty (it (jO t.mask) k p).j none))\/
    ∃i,t.slot (it (jO t.mask) k p).j=.live i/\ha i=h/\probe.go t ha h fuel p=some (.candidate (it (jO t.mask) k p).j i (it (jO t.mask) (k+1) p)))
 |0,p,_,⟨k,hk,_⟩=>by omega
 |fuel+1,p,hp,⟨k,hk,he⟩=>by
  rcases xp ht p.j with⟨i,hs,_⟩|⟨hs,_⟩
  ·by_cases hh:ha i=h
   ·refine⟨0,λm hm=>by omega,.inr ⟨i,hs,hh,?_⟩⟩
    unfold probe.go;rw[hs];show(if(ha i==h)=true then _ else _)=_
    rw[if_pos (beq_iff_eq.mpr hh),Kk];rfl
   ·have e:probe.go t ha h (fuel+1) p=probe.go t ha h fuel (jO t.mask p):=by
     conv=>lhs;unfold probe.go
     rw[hs];show(if(ha i==h)=true then _ else _)=_
     rw[if_neg (λz=>hh (beq_iff_eq.mp z)),Kk]
    have UQ:k≠0:=λz=>by
     subst z;have UR:t.slot p.j=.empty:=he;rw[hs]at UR;cases UR
    obtain⟨k',rfl⟩:∃k',k=k'+1:=⟨k-1,by omega⟩
    obtain⟨k2,h1,h2⟩:=Kn ht fuel (jO t.mask p) hp.jO ⟨k',by omega,he⟩
    refine⟨k2+1,λm hm=>?_,?_⟩
    ·cases m with
     |zero=>exact⟨i,hs,hh⟩
     |succ m=>exact h1 m (by omega)
    ·rw[e];exact h2
  ·refine⟨0,λm hm=>by omega,.inl ⟨hs,?_⟩⟩
   unfold probe.go;rw[hs];show some (Met.empty p.j p.dummy)=_;rw[hp.dm];rfl
structure Wt (t:cE) (hs:cq):Prop where
 tb:Tb t
 mask:t.mask=7\/t.mask=31
 len:t.place.size=hs.length
 le:∀j∈t.place.toList,j<=t.mask
 room:t.place.size<t.mask+1
 way:∀(i:Nat) (h:Int),hs[i]? =some h->∃k,t.place[i]? =some (it (jO t.mask) k (t.probeStart h)).j/\∀m,m<k->(it (jO t.mask) m (t.probeStart h)).j∈t.place.toList
theorem HG {n:Nat}:∀{l:List Nat},fO l->(∀j∈l,j<=n)->l.length<n+1->∃e,e<=n/\e∉l:=by
 intro l hr hle hlen;by_cases h:∀e,e<=n->e∈l
 ·exfalso;have:=bY (l₁:=List.range (n+1)) (l₂:=l) List.nodup_range λe he=>h e (by have:=List.mem_range.mp he;omega)
  rw[List.length_range]at this;omega
 ·simp only[Classical.not_forall]at h;obtain⟨e,he,hn⟩:=h;exact⟨e,he,hn⟩
end ST
namespace ST
open PySem SetTable
def ins {α:Type}(l:List α) (p:Nat) (x:α):List α:=l.take p++x::l.drop p
theorem so {α:Type}(xs:Array α) (p:Nat) (x:α):(insertAt xs p x).toList=ins xs.toList p x:=by
 unfold insertAt ins;simp[Array.toList_append,Array.toList_push,Array.toList_extract,List.extract_eq_drop_take];exact List.take_of_length_le (by simp)
theorem mj {α:Type}{l:List α}{p:Nat}{x:α}(hp:p<=l.length) (i:Nat):(ins l p x)[i]? =if i<p then l[i]? else if i=p then some x else l[i-1]? :=by
 unfold ins;have hl:(l.take p).length=p:=by rw[bL];omega
 by_cases h:i<p
 ·rw[if_pos h,aK (by omega),List.getElem?_take,if_pos h]
 ·rw[if_neg h,aQ (by omega),hl]
  by_cases h2:i=p
  ·rw[if_pos h2,h2,Nat.sub_self];rfl
  ·rw[if_neg h2];obtain⟨d,hd⟩:∃d,i-p=d+1:=⟨i-p-1,by omega⟩
   rw[hd,aL,List.getElem?_drop]
   congr 1
   omega
theorem wu {α:Type}{l:List α}{p:Nat}{x y:α}:y∈ins l p x↔y=x\/y∈l:=by
 unfold ins;rw[List.mem_append,List.mem_cons];have:y∈l↔y∈l.take p\/y∈l.drop p:=by rw[<-List.mem_append,List.take_append_drop]
 rw[this];constructor
 ·rintro(h|h|h)
  ·exact .inr (.inl h)
  ·exact .inl h
  ·exact .inr (.inr h)
 ·rintro(h|h|h)
  ·exact .inr (.inl h)
  ·exact .inl h
  ·exact .inr (.inr h)
theorem m5 {α:Type}{l:List α}{p:Nat}{x:α}(hp:p<=l.length):(ins l p x).length=l.length+1:=by
 unfold ins;simp only[aR,bL,ax,List.length_drop];omega
theorem ins_map {α β:Type}(f:α->β) (l:List α) (p:Nat) (x:α):(ins l p x).map f=ins (l.map f) p (f x):=by
 unfold ins;simp[List.map_take,List.map_drop]
theorem Ko {xs:Array Nat}{j:Nat}(hr:fO xs.toList) (hj:j∉xs.toList):fO (ins xs.toList (below xs j) j):=by
 obtain⟨h1,h2,h3⟩:=pD xs j hr;unfold ins;refine List.pairwise_append.mpr ⟨List.Pairwise.sublist (List.take_sublist _ _) hr,List.pairwise_cons.mpr ⟨λy hy=>?_,List.Pairwise.sublist (List.drop_sublist _ _) hr⟩,λa ha b hb=>?_⟩
 ·obtain⟨i,hi⟩:=bq hy;rw[List.getElem?_drop]at hi;have fQ:below xs j+i<xs.size:=by have:=(List.getElem?_eq_some_iff.mp hi).1;simpa using this
  have yC:=h3 (below xs j+i) fQ (by omega)
  have e:xs[below xs j+i]=y:=by have:=(List.getElem?_eq_some_iff.mp hi).2;simpa using this
  have jZ:y≠j:=λz=>hj (z▸List.mem_of_mem_drop hy)
  omega
 ·have X2:a<j:=by
   obtain⟨i,hi⟩:=bq ha;rw[List.getElem?_take]at hi;split at hi
   ·rename_i fQ;have hl:i<xs.size:=by have:=(List.getElem?_eq_some_iff.mp hi).1;simpa using this
    have e:xs[i]=a:=by have:=(List.getElem?_eq_some_iff.mp hi).2;simpa using this
    have:=h2 i hl fQ;omega
   ·cases hi
  have Mc:j<=b:=by
   rcases List.mem_cons.mp hb with rfl|hb
   ·exact au _
   ·obtain⟨i,hi⟩:=bq hb;rw[List.getElem?_drop]at hi;have fQ:below xs j+i<xs.size:=by have:=(List.getElem?_eq_some_iff.mp hi).1;simpa using this
    have:=h3 (below xs j+i) fQ (by omega)
    have e:xs[below xs j+i]=b:=by have:=(List.getElem?_eq_some_iff.mp hi).2;simpa using this
    omega
  omega
structure Pm (mask:Nat) (p:Probe):Prop where
 pb:Pb p
 le:p.j+p.more<=mask
theorem Kp {mask i:Nat}(h:i<=mask):i+(runEnd mask i-i)<=mask:=by unfold runEnd;split<;>omega
theorem Pm.jO {mask:Nat}{p:Probe}(h:Pm mask p):Pm mask (jO mask p):=by
 refine⟨h.pb.jO,?_⟩;unfold ST.jO;have:=h.le;split
 ·show p.j+1+(p.more-1)<=mask;omega
 ·show lp mask p.i p.perturb+(runEnd mask (lp mask p.i p.perturb)-lp mask p.i p.perturb)<=mask;exact Kp (by unfold lp;have:=Nat.mod_lt (p.i*5+1+p.perturb/32) (show 0<mask+1 by omega);omega)
theorem Pm.it {mask:Nat}:∀(k:Nat) {p:Probe},Pm mask p->Pm mask (it (ST.jO mask) k p)
 |0,_,h=>h
 |k+1,_,h=>Pm.it k h.jO
theorem ub (t:cE) (h:Int):Pm t.mask (t.probeStart h):=
 ⟨Km t h,Kp (by have:=Nat.mod_lt (bits h) (show 0<t.mask+1 by omega);show bits h%(t.mask+1)<=t.mask;omega)⟩
theorem Wt.put {t:cE}{hs:cq}(w:Wt t hs) {h:Int}{k:Nat}(he:(it (jO t.mask) k (t.probeStart h)).j∉t.place.toList) (hb:∀m,m<k->(it (jO t.mask) m (t.probeStart h)).j∈t.place.toList) (jn:t.place.size+1<t.mask+1):
  Wt (t.put (it (jO t.mask) k (t.probeStart h)).j).1 (ins hs (t.put (it (jO t.mask) k (t.probeStart h)).j).2 h)/\(t.put (it (jO t.mask) k (t.probeStart h)).j).2<=hs.length/\(t.put (it (jO t.mask) k (t.probeStart h)).j).1.mask=t.mask/\(t.put (it (jO t.mask) k (t.probeStart h)).j).1.place.size=t.place.size+1:=by
 generalize hj:(it (jO t.mask) k (t.probeStart h)).j=j at he ⊢;have V8:j<=t.mask:=by rw[<-hj];have:=(Pm.it k (ub t h)).le;omega
 obtain⟨b1,_,_⟩:=pD t.place j w.tb.rise;have hd:has t.dummies j=false:=by rw[w.tb.Tw];rfl
 have e1:(t.put j).1.place.toList=ins t.place.toList (below t.place j) j:=so _ _ _;have e2:(t.put j).2=below t.place j:=rfl;have e3:(t.put j).1.mask=t.mask:=rfl;have e4:∀h',(t.put j).1.probeStart h'=t.probeStart h':=λh'=>rfl
 have e5:(t.put j).1.dummies=#[]:=by show(if has t.dummies j=true then _ else t.dummies)=_;rw[hd];exact w.tb.Tw
 have X3:below t.place j<=t.place.toList.length:=by simpa using b1
 have hsz:(t.put j).1.place.size=t.place.size+1:=by
  have:=congrArg List.length e1;rw[m5 X3]at this
  simpa using this
 have V9:below t.place j<=hs.length:=by rw[<-w.len];exact b1
 refine⟨⟨⟨by rw[e1];exact Ko w.tb.rise he,e5⟩,by rw[e3];exact w.mask,?_,?_,by rw[e3,hsz];exact jn,?_⟩,by rw[e2];exact V9,e3,hsz⟩
 ·rw[hsz,e2,m5 V9,w.len]
 ·intro y hy;rw[e1]at hy;rw[e3];rcases wu.mp hy with rfl|hy
  ·exact V8
  ·exact w.le y hy
 ·intro i h' hi;rw[e3,e4,e1];have hp:(t.put j).1.place[i]? =(ins t.place.toList (below t.place j) j)[i]? :=by rw[<-e1];simp
  rw[hp,mj X3];rw[e2,mj V9]at hi;by_cases c1:i<below t.place j
  ·rw[if_pos c1]at hi ⊢;obtain⟨k',h1,h2⟩:=w.way i h' hi;exact⟨k',by simpa using h1,λm hm=>wu.mpr (.inr (h2 m hm))⟩
  ·rw[if_neg c1]at hi ⊢;by_cases c2:i=below t.place j
   ·rw[if_pos c2]at hi ⊢;cases hi;exact⟨k,by rw[hj],λm hm=>wu.mpr (.inr (hb m hm))⟩
   ·rw[if_neg c2]at hi ⊢;obtain⟨k',h1,h2⟩:=w.way (i-1) h' hi;exact⟨k',by simpa using h1,λm hm=>wu.mpr (.inr (h2 m hm))⟩
theorem Kq (led:Bool):Wt (fresh 0 0 led) []:=
 ⟨⟨List.Pairwise.nil,rfl⟩,.inl rfl,rfl,(λj hj=>by cases hj),(by show 0<8;decide),(λi h hi=>by cases hi)⟩
end ST
namespace ST
open PySem SetTable
def fr (owner:Array (Option Nat)) (j:Nat):Bool:=(owner.getD j (some 0)).isNone
def HH (mask i pt:Nat):Probe:={j:=i,more:=runEnd mask i-i,i:=i,perturb:=pt,dummy:=none}
theorem HI (mask i pt:Nat):gb mask (HH mask i pt)=HH mask (lp mask i pt) (pt/32):=rfl
theorem QN (mask i:Nat):i<=runEnd mask i:=by unfold runEnd;split<;>omega
theorem zR (mask:Nat) (owner:Array (Option Nat)):∀(fuel i pt:Nat),(∃n,n<fuel/\fr owner (it (gb mask) n (HH mask i pt)).j=true)->
  ∃k,layClean.free mask owner fuel i pt=some (it (jO mask) k (HH mask i pt)).j/\fr owner (it (jO mask) k (HH mask i pt)).j=true/\∀m,m<k->fr owner (it (jO mask) m (HH mask i pt)).j=false
 |0,i,pt,⟨n,hn,_⟩=>by omega
 |fuel+1,i,pt,⟨n,hn,hf⟩=>by
  unfold layClean.free;have yC:=QN mask i;have US:∀k,k<=runEnd mask i-i->(it (jO mask) k (HH mask i pt)).j=i+k:=λk hk=>by rw[xq mask k _ hk];rfl
  cases Ol:(List.range (runEnd mask i+1-i)).find? λk=>(owner.getD (i+k) (some 0)).isNone with
  |some k=>
   obtain⟨h1,h2,h3⟩:=List.find?_range_eq_some.mp Ol;have hk:k<=runEnd mask i-i:=by have:=List.mem_range.mp h2;omega
   refine⟨k,by rw[US k hk],by rw[US k hk];exact h1,λm hm=>?_⟩
   rw[US m (by omega)]
   have:=h3 m hm;unfold fr;cases hx:(owner.getD (i+m) (some 0)).isNone with
   |false=>rfl
   |true=>rw[hx]at this;exact absurd this (by simp)
  |none=>
   have wL:∀k,k<=runEnd mask i-i->fr owner (i+k)=false:=λk hk=>by
    have:=List.find?_eq_none.mp Ol k (List.mem_range.mpr (by omega))
    unfold fr;cases hx:(owner.getD (i+k) (some 0)).isNone with
    |false=>rfl
    |true=>rw[hx]at this;exact absurd rfl this
   have hn0:n≠0:=λz=>by
    subst z;have h0:fr owner i=true:=hf;rw[show i=i+0 from rfl,wL 0 (bN _)]at h0
    cases h0
   obtain⟨n',rfl⟩:∃n',n=n'+1:=⟨n-1,by omega⟩
   obtain⟨k,e1,e2,e3⟩:=zR mask owner fuel (lp mask i pt) (pt/32) ⟨n',by omega,hf⟩
   have n5:∀m,it (jO mask) (runEnd mask i-i+1+m) (HH mask i pt)=it (jO mask) m (HH mask (lp mask i pt) (pt/32)):=λm=>by
    rw[sS];have:=vw mask (HH mask i pt);rw[show(HH mask i pt).more=runEnd mask i-i from rfl]at this
    rw[this,HI]
   refine⟨runEnd mask i-i+1+k,?_,by rw[n5];exact e2,λm hm=>?_⟩
   ·rw[n5];exact e1
   ·by_cases zF:m<=runEnd mask i-i
    ·rw[US m zF];exact wL m zF
    ·obtain⟨m',rfl⟩:∃m',m=runEnd mask i-i+1+m':=⟨m-(runEnd mask i-i+1),by omega⟩
     rw[n5];exact e3 m' (by omega)
theorem QO {mask:Nat}(hm:mask=7\/mask=31) {p:Probe}(hp:p.perturb<2^64) {e:Nat}(he:e<=mask):∃n,n<turns mask/\(it (gb mask) n p).j=e:=by
 have key:∃m,m<=mask/\it (Na mask) m (it (gb mask) 12 p).i=e:=by
  have hi:(it (gb mask) 12 p).i<=mask:=by
   rw[pE];show lp mask _ _<=mask;unfold lp;have:=Nat.mod_lt ((it (gb mask) 11 p).i*5+1+(it (gb mask) 11 p).perturb/32) (show 0<mask+1 by omega)
   omega
  rcases hm with rfl|rfl
  ·obtain⟨m,hm⟩:=Tx ⟨(it (gb 7) 12 p).i,by omega⟩ ⟨e,by omega⟩
   exact⟨m.val,by omega,hm⟩
  ·obtain⟨m,hm⟩:=Oj ⟨(it (gb 31) 12 p).i,by omega⟩ ⟨e,by omega⟩
   exact⟨m.val,by omega,hm⟩
 obtain⟨m,h1,h2⟩:=key;refine⟨12+m,by unfold turns;omega,?_⟩
 rw[sS];have h0:(it (gb mask) 12 p).perturb/32=0:=by
  rw[EG,Nat.div_div_eq_div_mul];apply Nat.div_eq_of_lt
  exact aw hp (by decide)
 have hj:∀(n:Nat) (q:Probe),q.j=q.i->(it (gb mask) n q).j=(it (gb mask) n q).i:=λn=>by
  cases n with
  |zero=>exact λq h=>h
  |succ n=>intro q _;rw[pE];rfl
 rw[hj m _ (by rw[pE];rfl),Kl mask m _ h0,h2]
def way (mask:Nat) (h:Int) (k:Nat):Nat:=(it (jO mask) k (HH mask (bits h%(mask+1)) (bits h))).j
structure Ow (mask:Nat) (owner:Array (Option Nat)) (hs:cq):Prop where
 size:owner.size=mask+1
 of:∀(j k:Nat),owner[j]? =some (some k)->∃h q,hs[k]? =some h/\j=way mask h q/\∀m,m<q->fr owner (way mask h m)=false
 has:∀k:Nat,k<hs.length->∃j:Nat,owner[j]? =some (some k)
 one:∀(j j' k:Nat),owner[j]? =some (some k)->owner[j']? =some (some k)->j=j'
theorem Kr (mask:Nat) (h:Int) (k:Nat):way mask h k<=mask:=by
 have:=(Pm.it k (ub {fresh 0 0 true with mask:=mask} h)).le
 exact aD (Nat.le_add_right _ _) this
theorem Ks {owner:Array (Option Nat)}{j:Nat}(h:j<owner.size):fr owner j=true↔owner[j]? =some none:=by
 unfold fr;rw[aV h,show owner.getD j (some 0)=owner[j] by simp[h]]
 cases owner[j]<;>simp
theorem Ow.room {mask:Nat}{owner:Array (Option Nat)}{hs:cq}(o:Ow mask owner hs) (hl:hs.length<mask+1):∃e,e<=mask/\fr owner e=true:=by
 by_cases h:∀e,e<=mask->fr owner e=false
 ·exfalso;have own:∀e,e<=mask->∃k,owner[e]? =some (some k):=λe he=>by
   have fQ:e<owner.size:=by rw[o.size];omega
   cases hx:owner[e]with
   |none=>
    have:=(Ks fQ).mpr (by rw[aV fQ,hx])
    rw[h e he]at this;cases this
   |some k=>exact⟨k,by rw[aV fQ,hx]⟩
  let f:Nat->Nat:=λe=>match owner[e]? with|some (some k)=>k|_=>0
  have hf:∀e,e<=mask->owner[e]? =some (some (f e)):=λe he=>by
   obtain⟨k,hk⟩:=own e he;show owner[e]? =some (some (match owner[e]? with|some (some k)=>k|_=>0))
   rw[hk]
  have nd:((List.range (mask+1)).map f).Nodup:=by
   refine List.pairwise_map.mpr (List.Pairwise.imp_of_mem (λ{a b} ha hb FN z=>?_) List.pairwise_lt_range)
   have X2:=hf a (by have:=List.mem_range.mp ha;omega)
   have Mc:=hf b (by have:=List.mem_range.mp hb;omega)
   rw[<-z]at Mc;exact absurd (o.one a b _ X2 Mc) (by omega)
  have:=bY (l₂:=List.range hs.length) nd λk hk=>by
   obtain⟨e,he,rfl⟩:=List.mem_map.mp hk;obtain⟨h',q,h1,_⟩:=o.of e _ (hf e (by have:=List.mem_range.mp he;omega))
   exact List.mem_range.mpr (List.getElem?_eq_some_iff.mp h1).1
  rw[ae,List.length_range,List.length_range]at this;omega
 ·simp only[Classical.not_forall]at h;obtain⟨e,he,hn⟩:=h;exact⟨e,he,by cases hx:fr owner e with|true=>rfl|false=>exact absurd hx hn⟩
theorem Ow.step {mask:Nat}{owner:Array (Option Nat)}{hs:cq}(hm:mask=7\/mask=31) (o:Ow mask owner hs) (hl:hs.length<mask+1) (h:Int):
  ∃j,layClean.free mask owner (turns mask) (bits h%(mask+1)) (bits h)=some j/\Ow mask (owner.setIfInBounds j (some hs.length)) (hs++[h]):=by
 obtain⟨e,he,MM⟩:=o.room hl;obtain⟨n,hn,jZ⟩:=QO hm (p:=HH mask (bits h%(mask+1)) (bits h)) (Gb h) he;obtain⟨q,e1,e2,e3⟩:=zR mask owner (turns mask) (bits h%(mask+1)) (bits h) ⟨n,hn,by rw[jZ];exact MM⟩
 have QP:way mask h q<owner.size:=by rw[o.size];have:=Kr mask h q;omega
 have Ea:owner[way mask h q]? =some none:=(Ks QP).mp e2;have get:∀j':Nat,(owner.setIfInBounds (way mask h q) (some hs.length))[j']? =if way mask h q=j' then some (some hs.length)else owner[j']? :=λj'=>by
  rw[Array.getElem?_setIfInBounds];by_cases hx:way mask h q=j'
  ·rw[if_pos hx,if_pos hx,if_pos (by first|exact QP|(rw[<-hx];exact QP))]
  ·rw[if_neg hx,if_neg hx]
 have X4:∀j':Nat,fr owner j'=false->fr (owner.setIfInBounds (way mask h q) (some hs.length)) j'=false:=λj' hx=>by
  unfold fr at hx ⊢;rw[aU]at hx ⊢;rw[get j'];by_cases hy:way mask h q=j'
  ·rw[if_pos hy];rfl
  ·rw[if_neg hy];exact hx
 refine⟨way mask h q,e1,⟨by rw[Array.size_setIfInBounds];exact o.size,λj' k hk=>?_,λk hk=>?_,λj1 j2 k h1 h2=>?_⟩⟩
 ·rw[get j']at hk;by_cases hx:way mask h q=j'
  ·rw[if_pos hx]at hk;cases hk;exact⟨h,q,by simp,hx.symm,λm RE=>X4 _ (e3 m RE)⟩
  ·rw[if_neg hx]at hk;obtain⟨h',q',a1,a2,a3⟩:=o.of j' k hk;exact⟨h',q',by rw[aK (List.getElem?_eq_some_iff.mp a1).1];exact a1,a2,λm RE=>X4 _ (a3 m RE)⟩
 ·rw[aR,List.length_singleton]at hk;by_cases hx:k=hs.length
  ·exact⟨way mask h q,by rw[get,if_pos rfl,hx]⟩
  ·obtain⟨j',IB⟩:=o.has k (by omega)
   refine⟨j',?_⟩;rw[get,if_neg (λz=>by rw[<-z,Ea]at IB;cases IB)]
   exact IB
 ·rw[get]at h1 h2;have old:∀j':Nat,owner[j']? =some (some hs.length)->False:=λj' IB=>by
   obtain⟨h',q',a1,_⟩:=o.of j' _ IB;exact absurd (List.getElem?_eq_some_iff.mp a1).1 (by omega)
  by_cases x1:way mask h q=j1
  ·by_cases x2:way mask h q=j2
   ·rw[<-x1,<-x2]
   ·rw[if_pos x1]at h1;rw[if_neg x2]at h2;cases h1;exact(old j2 h2).elim
  ·by_cases x2:way mask h q=j2
   ·rw[if_neg x1]at h1;rw[if_pos x2]at h2;cases h2;exact(old j1 h1).elim
   ·rw[if_neg x1]at h1;rw[if_neg x2]at h2;exact o.one j1 j2 k h1 h2
theorem QQ (mask:Nat):Ow mask (Array.replicate (mask+1) none) []:=by
 have no:∀(j k:Nat),(Array.replicate (mask+1) (none:Option Nat))[j]? =some (some k)->False:=λj k h=>by
  rw[Array.getElem?_replicate]at h;split at h<;>cases h
 exact⟨by simp,λj k h=>(no j k h).elim,(λk h=>by cases h),λj j' k h _=>(no j k h).elim⟩
def Kt (mask:Nat) (acc:Option (Array (Option Nat)×Nat)) (h:Int):Option (Array (Option Nat)×Nat):=acc.bind λx=>(layClean.free mask x.1 (turns mask) (bits h%(mask+1)) (bits h)).bind λj=>some (x.1.setIfInBounds j (some x.2),x.2+1)
theorem Cm {mask:Nat}(hm:mask=7\/mask=31):∀(rest dn:cq) (owner:Array (Option Nat)),Ow mask owner dn->(dn++rest).length<mask+2->∃A6,rest.foldl (Kt mask) (some (owner,dn.length))=some (A6,(dn++rest).length)/\Ow mask A6 (dn++rest)
 |[],dn,owner,o,_=>⟨owner,by rw[bD];rfl,by rw[bD];exact o⟩
 |h::rest,dn,owner,o,hl=>by
  rw[aR,ax]at hl;obtain⟨j,e1,o1⟩:=o.step hm (by omega) h
  obtain⟨A6,e2,o2⟩:=Cm hm rest (dn++[h]) _ o1 (by simp;omega)
  refine⟨A6,?_,by rw[show dn++h::rest=dn++[h]++rest by simp];exact o2⟩
  rw[show dn++h::rest=dn++[h]++rest by simp,<-e2]
  show rest.foldl (Kt mask) (Kt mask (some (owner,dn.length)) h)=_
  congr 1
  show(layClean.free mask owner (turns mask) (bits h%(mask+1)) (bits h)).bind _=_;rw[e1];simp
theorem Co {mask:Nat}(hm:mask=7\/mask=31) (hashes:Array Int) (hl:hashes.size<mask+2):∃owner,layClean mask hashes=some owner/\Ow mask owner hashes.toList:=by
 obtain⟨owner,e,o⟩:=Cm hm hashes.toList [] _ (QQ mask) (by simpa using hl)
 refine⟨owner,?_,o⟩;have:layClean mask hashes=(hashes.toList.foldl (Kt mask) (some (Array.replicate (mask+1) none,0))).map (·.1):=by
  unfold layClean;rw[<-Array.foldl_toList];rfl
 rw[this];have e':hashes.toList.foldl (Kt mask) (some (Array.replicate (mask+1) none,0))=some (owner,([]++hashes.toList).length):=e;rw[e'];rfl
end ST
namespace ST
open PySem SetTable
def live (mask:Nat) (owner:Array (Option Nat)):List (Nat×Nat):=(List.range (mask+1)).filterMap λj=>(owner.getD j none).map (j, ·)
theorem m6 {mask:Nat}{owner:Array (Option Nat)}{hs:cq}(o:Ow mask owner hs) {j k:Nat}:(j,k)∈live mask owner↔owner[j]? =some (some k):=by
 unfold live;rw[List.mem_filterMap];constructor
 ·rintro⟨j',IB,e⟩
  cases hg:owner.getD j' none with
  |none=>rw[hg]at e;cases e
  |some k'=>
   rw[hg]at e;have e':(j',k')=(j,k):=aT e;cases e';rw[aU]at hg;cases hx:owner[j]? with
   |none=>rw[hx]at hg;cases hg
   |some y=>rw[hx]at hg;rw[show y=some k from hg]
 ·intro h;have fQ:j<owner.size:=(Array.getElem?_eq_some_iff.mp h).1;rw[o.size]at fQ;refine⟨j,List.mem_range.mpr fQ,?_⟩;rw[aU,h];rfl
theorem EH (f:Nat->Option Nat):∀l:List Nat,(l.filterMap λj=>(f j).map (j, ·)).map (·.1)=l.filter λj=>(f j).isSome
 |[]=>rfl
 |a::l=>by
  rw[List.filterMap_cons,bu];cases h:f a with
  |none=>simpa [h]using EH f l
  |some k=>simpa [h]using EH f l
theorem zS (mask:Nat) (owner:Array (Option Nat)):fO ((live mask owner).map (·.1)):=by
 unfold live;rw[EH (λj=>owner.getD j none)]
 exact List.Pairwise.filter _ List.pairwise_lt_range
theorem xr {mask:Nat}{owner:Array (Option Nat)}{hs:cq}(o:Ow mask owner hs):((live mask owner).map (·.2)).Perm (List.range hs.length):=by
 have nd:((live mask owner).map (·.2)).Nodup:=by
  refine List.pairwise_map.mpr (List.Pairwise.imp_of_mem (λ{a b} ha hb FN z=>?_) (List.pairwise_map.mp (zS mask owner)))
  obtain⟨a1,a2⟩:=a;obtain⟨b1,b2⟩:=b;have h1:=(m6 o).mp ha;have h2:=(m6 o).mp hb;have z':a2=b2:=z;rw[z']at h1;have e:=o.one a1 b1 b2 h1 h2;have aaB:a1<b1:=FN;omega
 refine(List.perm_ext_iff_of_nodup nd List.nodup_range).mpr λk=>?_
 rw[List.mem_map,List.mem_range];constructor
 ·rintro⟨⟨j,k'⟩,hm,rfl⟩
  obtain⟨h,q,h1,_⟩:=o.of j k' ((m6 o).mp hm);exact(List.getElem?_eq_some_iff.mp h1).1
 ·intro hk;obtain⟨j,hj⟩:=o.has k hk;exact⟨(j,k),(m6 o).mpr hj,rfl⟩
theorem Nc {mask:Nat}(hm:mask=7\/mask=31) (finger moves:Nat) (led plain:Bool) (hashes:Array Int) (hl:hashes.size<mask+1):
  ∃(t:cE) (order:List Nat),laid mask finger moves led plain hashes=some (t,order.toArray)/\order.Perm (List.range hashes.size)/\Wt t (order.map λk=>hashes.getD k 0)/\t.mask=mask/\t.led=led/\t.plain=plain/\t.moves=moves/\t.finger=finger:=by
 obtain⟨owner,e,o⟩:=Co hm hashes (by omega)
 refine⟨_,(live mask owner).map (·.2),by unfold laid;rw[e];rfl,by simpa using xr o,⟨⟨zS mask owner,rfl⟩,hm,?_,λj hj=>?_,?_,λi h hi=>?_⟩,rfl,rfl,rfl,rfl,rfl⟩
 ·show((live mask owner).map (·.1)).toArray.size=_
  rw[aq,ae,ae,ae]
 ·obtain⟨⟨j',k⟩,JU,rfl⟩:=List.mem_map.mp (show j∈(live mask owner).map (·.1)from hj)
  have:=(Array.getElem?_eq_some_iff.mp ((m6 o).mp JU)).1;rw[o.size]at this;show j'<=mask;omega
 ·have:=(xr o).length_eq;show((live mask owner).map (·.1)).toArray.size<mask+1
  rw[ae,List.length_range]at this;rw[aq,ae,this]
  simpa using hl
 ·rw[av,av]at hi;cases hx:(live mask owner)[i]? with
  |none=>rw[hx]at hi;cases hi
  |some y=>
   obtain⟨j,k⟩:=y;rw[hx]at hi;have hy:hashes.getD k 0=h:=aT hi;have u0:=(m6 o).mp (bo hx);obtain⟨h',q,a1,a2,a3⟩:=o.of j k u0;have hh:h'=h:=by
    rw[<-hy,aU];have a1':hashes[k]? =some h':=by simpa using a1
    rw[a1'];rfl
   subst hh;refine⟨q,?_,λm RE=>?_⟩
   ·show((live mask owner).map (·.1)).toArray[i]? =some (way mask h' q)
    rw[List.getElem?_toArray,av,hx,<-a2];rfl
   ·show way mask h' m∈(live mask owner).map (·.1)
    have fQ:way mask h' m<owner.size:=by rw[o.size];have:=Kr mask h' m;omega
    have:=a3 m RE;cases hz:owner[way mask h' m]with
    |none=>
     have:=(Ks fQ).mpr (by rw[aV fQ,hz])
     rw[a3 m RE]at this;cases this
    |some k'=>
     exact List.mem_map.mpr ⟨(way mask h' m,k'),(m6 o).mpr (by rw[aV fQ,hz]),rfl⟩
theorem range_all {α:Type}:∀l:List α,(List.range l.length).filterMap (l[·]?)=l
 |[]=>rfl
 |a::l=>by
  rw[ax,List.range_succ_eq_map,List.filterMap_cons];show a::((List.range l.length).map Nat.succ).filterMap ((a::l)[·]?)=_
  rw[List.filterMap_map]
  congr 1
  exact range_all l
theorem reorder {α:Type}{es:Array α}{order:List Nat}(hp:order.Perm (List.range es.size)):(order.toArray.filterMap (es[·]?)).toList.Perm es.toList/\∀(f:α->Int),(order.toArray.filterMap (es[·]?)).toList.map f=order.map λk=>(es.map f).getD k 0:=by
 have e1:(order.toArray.filterMap (es[·]?)).toList=order.filterMap (es[·]?):=by simp
 have e2:(List.range es.size).filterMap (es[·]?)=es.toList:=by
  have:=range_all es.toList
  simpa using this
 refine⟨by rw[e1,<-e2];exact hp.filterMap _,λf=>?_⟩
 rw[e1,List.map_filterMap];have o8:∀k∈order,k<es.size:=λk hk=>List.mem_range.mp (hp.mem_iff.mp hk)
 clear hp e1 e2;induction order with
 |nil=>rfl
 |cons a r ih=>
  have ha:=o8 a af;rw[List.filterMap_cons,aF,<-ih λk hk=>o8 k (ai _ hk)]
  simp[ha]
end ST
namespace ST
open PySem PySem.Spec PyProof.Rows DL SetTable
structure El (P:cy->Prop) (h:Heap) (e:Int×cy) (d:D):Prop where
 ki:KI h e.2 d
 hash:e.1=eW d
 dep:dY d<=4
 ref:∃b,e.2=.ref b
 src:P e.2
def EI (P:cy->Prop) (h:Heap) (es:List (Int×cy)) (ds:cw):Prop:=es.length=ds.length/\∀(i:Nat) (e:Int×cy),es[i]? =some e->∃d,ds[i]? =some d/\El P h e d
section
variable {prog:cB}{w:cC}{A:cD}{E:ck}{s:cz}
theorem Ge (n:Nat):∀(A:cD) (s:cz) (v:cy) (d:D) (Q:Bool->cz->Prop),dY d<=n->KI s.heap v d->Q false s->wpAny (model prog w) A (ofAClassStatement n v) Q E s:=by
 induction n with
 |zero=>
  intro A s v d Q hn k h;cases k with
  |int i t=>unfold ofAClassStatement;exact aj h
  |tup h1 h2 h3 l=>unfold dY at hn;omega
 |succ n ih=>
  intro A s v d Q hn k h;cases k with
  |int i t=>unfold ofAClassStatement;exact aj h
  |@tup a o items m ds ho hc hd l=>
   have hT:s.TypeIs (.ref a) "tuple":=⟨o,ho,hc⟩;have Aq:iM ds<=n:=by unfold dY at hn;omega
   unfold ofAClassStatement;refine aa (wpAny_typeOf hT ?_);show wpAny _ _ (pure true>>=_) _ _ s;refine aa (aj ?_);simp only[bV,aJ,bF];refine aa (wpAny_seqItems ho hd ?_);refine aa ?_;show wpAny _ _ (forIn items _ _) _ _ s;rw[<-Array.forIn_toList];refine wpAny_forIn_list _ (λrest r s'=>r.1=none/\s'=s/\∃es,(∀e∈es,dY e<=n)/\sP s.heap rest es) _ ?_ ?_ _ _ ⟨rfl,rfl,ds,λe he=>aD (j3 he) Aq,l⟩
   ·rintro v rest r s' ⟨hr,rfl,es,he,hk⟩
    cases hk with
    |cons k1 k2=>
     refine aa (ih A s' v _ _ (he _ af) k1 ?_);simp only[aJ,bF];exact aj ⟨rfl,rfl,_,λe h=>he e (ai _ h),k2⟩
   ·rintro⟨r1,r2⟩ s' ⟨hr,rfl,_⟩
    simp only at hr;subst hr;exact aj h
theorem Nd {x:cy}{dx:D}(hx:KI s.heap x dx) (Oi:dY dx<=4) (stored:cx) (n5:∀y∈stored,∃d,KI s.heap y d/\dY d<=4) {Q:Bool->cz->Prop}(h:Q false s):wpAny (model prog w) A (searchCouldBeSeen x stored) Q E s:=by
 unfold searchCouldBeSeen;refine aa ?_;refine wpAny_forIn_list _ (λrest r s'=>r.1=none/\s'=s/\∀y∈rest,∃d,KI s.heap y d/\dY d<=4) _ ?_ ?_ _ _ ⟨rfl,rfl,n5⟩
 ·rintro y rest r s' ⟨hr,rfl,hk⟩
  obtain⟨d,kd,hd⟩:=hk y af;have Om:∀z∈rest,∃d,KI s'.heap z d/\dY d<=4:=λz hz=>hk z (ai _ hz)
  have key:∀(b:Bool) (R:ForInStep (Option Bool×Unit)->cz->Prop),R (.yield (none,())) s'->wpAny (model prog w) A (if(b||carriedByValue x&&carriedByValue y)=true then pure (ForInStep.yield (none,()))else do
    let q <-eqIsQuiet 8 x
    if(!q)=true then pure (ForInStep.done (some true,()))else do
     let q <-eqIsQuiet 8 y
     if(!q)=true then pure (ForInStep.done (some true,()))else do
      let q <-ofAClassStatement 8 x
      if q=true then pure (ForInStep.done (some true,()))else do
       let q <-ofAClassStatement 8 y
       if q=true then pure (ForInStep.done (some true,()))else pure (ForInStep.yield (none,()))) R E s':=λb R hR=>by
   split
   ·exact aj hR
   ·refine aa (KI.quiet 8 A s' x dx _ (by omega) hx ?_)
    simp only[bV,aJ,bF];refine aa (KI.quiet 8 A s' y d _ (by omega) kd ?_)
    simp only[bV,aJ,bF];refine aa (Ge 8 A s' x dx _ (by omega) hx ?_)
    simp only[aJ,bF];refine aa (Ge 8 A s' y d _ (by omega) kd ?_)
    simp only[aJ,bF];exact aj hR
  split
  ·exact key _ _ ⟨rfl,rfl,Om⟩
  ·exact key _ _ ⟨rfl,rfl,Om⟩
 ·rintro⟨r1,r2⟩ s' ⟨hr,rfl,_⟩
  simp only at hr;subst hr;exact aj h
end
end ST
namespace ST
open PySem PySem.Spec PyProof.Rows DL SetTable
section
variable {prog:cB}{w:cC}{A:cD}{E:ck}{s:cz}
theorem Wt.Wa {t:cE}{hs:cq}(W:Wt t hs):t.gaveWay=false:=by
 unfold gaveWay;rcases W.mask with h|h<;>rw[h]<;>rfl
theorem Wt.emp {t:cE}{hs:cq}(W:Wt t hs):∃e,e<=t.mask/\t.slot e=.empty:=by
 obtain⟨e,h1,h2⟩:=HG (n:=t.mask) W.tb.rise W.le (by have:=W.room;simpa using this)
 exact⟨e,h1,xo W.tb h2⟩
theorem HJ {P:cy->Prop}{a xa:cF}{o:Obj}{es:Array (Int×cy)}{ep:Nat}{t:cE}{ds:cw}{dx:D}{Q:SetFound->cz->Prop}(ho:s.heap.get? a=some o) (hd:o.data=.set es ep t) (hf:t.fits es.size=true) (W:Wt t (es.toList.map (·.1)))
  (hE:EI P s.heap es.toList ds) (hx:KI s.heap (.ref xa) dx) (Oi:dY dx<=4) (hu:A.units+8<cLine)
  (X5:dx∈ds->Q (.there none) s) (UM:dx∉ds->∀k,(it (jO t.mask) k (t.probeStart (eW dx))).j∉t.place.toList->(∀m,m<k->(it (jO t.mask) m (t.probeStart (eW dx))).j∈t.place.toList)->Q (.free (it (jO t.mask) k (t.probeStart (eW dx))).j false) s):
  ∀(r fuel k0 K:Nat) (Ku:Option Probe),Ku.getD (t.probeStart (eW dx))=it (jO t.mask) k0 (t.probeStart (eW dx))->t.slot (it (jO t.mask) K (t.probeStart (eW dx))).j=.empty->k0<=K->K-k0<=r->r<fuel->
   (∀m,m<k0->∃i d,t.slot (it (jO t.mask) m (t.probeStart (eW dx))).j=.live i/\ds[i]? =some d/\d≠dx)->
   wpAny (model prog w) A (setSearchFrom a (.ref xa) (eW dx) true fuel Ku) Q E s:=by
 intro r;induction r using Nat.strongRecOn with
 |_ r ih=>
  intro fuel k0 K Ku n5 hK hk hr Tz TB;obtain⟨fuel,rfl⟩:∃f,fuel=f+1:=⟨fuel-1,by omega⟩
  unfold setSearchFrom;refine aa (wpAny_setState_of ho hd hf ?_);dsimp only;rw[W.Wa];simp only[aJ,bF];rw[n5];obtain⟨e0,Wb,QR⟩:=W.emp;have Gf:=Pm.it k0 (ub t (eW dx));obtain⟨q,hq,hqe⟩:=reach W.mask Gf.pb.nine Gf.pb.Nb Wb;obtain⟨k,TC,TF⟩:=Kn W.tb (ha:=λi=>(es[i]?.map (·.1)).getD 0) (h:=eW dx) (10*turns t.mask) _ Gf.pb ⟨q,hq,by rw[hqe];exact QR⟩
  have tot:∀m,it (jO t.mask) m (it (jO t.mask) k0 (t.probeStart (eW dx)))=it (jO t.mask) (k0+m) (t.probeStart (eW dx)):=λm=>(sS _ _ _ _).symm
  simp only[tot]at TC TF;have entry:∀i j,t.slot j=.live i->∃e d,es[i]? =some e/\ds[i]? =some d/\El P s.heap e d/\t.place[i]? =some j:=λi j hj=>by
   rcases xp W.tb j with⟨i',h1,h2⟩|⟨h1,_⟩
   ·rw[hj]at h1;cases h1;have fQ:i<es.size:=by
     have:=(Array.getElem?_eq_some_iff.mp h2).1;have hl:=W.len;simp at hl;omega
    obtain⟨d,h3,h4⟩:=hE.2 i es[i] (by simp[fQ])
    exact⟨es[i],d,by simp[fQ],h3,h4,h2⟩
   ·rw[hj]at h1;cases h1
  have other:∀m,m<k->∃i d,t.slot (it (jO t.mask) (k0+m) (t.probeStart (eW dx))).j=.live i/\ds[i]? =some d/\d≠dx:=λm hm=>by
   obtain⟨i,h1,h2⟩:=TC m hm;obtain⟨e,d,h3,h4,h5,_⟩:=entry i _ h1;refine⟨i,d,h1,h4,λz=>h2 ?_⟩
   rw[h3];show e.1=_;rw[h5.hash,z]
  have Kv:∀m,m<k0+k->∃i d,t.slot (it (jO t.mask) m (t.probeStart (eW dx))).j=.live i/\ds[i]? =some d/\d≠dx:=λm hm=>by
   by_cases TH:m<k0
   ·exact TB m TH
   ·obtain⟨m',rfl⟩:∃m',m=k0+m':=⟨m-k0,by omega⟩
    exact other m' (by omega)
  rcases TF with⟨Nf,e⟩|⟨i,Kw,hha,e⟩
  ·
   have EJ:dx∉ds:=λo8=>by
    obtain⟨i,hi⟩:=bq o8;have fQ:i<es.toList.length:=by rw[hE.1];exact(List.getElem?_eq_some_iff.mp hi).1
    obtain⟨d,h1,h2⟩:=hE.2 i _ (ah fQ);rw[hi]at h1;cases h1;obtain⟨ki,p1,p2⟩:=W.way i (eW dx) (by rw[av,ah fQ];exact congrArg some h2.hash)
    have Oo:(it (jO t.mask) (k0+k) (t.probeStart (eW dx))).j∉t.place.toList:=λz=>by
     obtain⟨i',zM⟩:=bq z;rw[rD W.tb (i:=i') (by simpa using zM)]at Nf;cases Nf
    rcases Nat.lt_trichotomy ki (k0+k)with Ng|heq|N8
    ·obtain⟨i',d',q1,q2,q3⟩:=Kv ki Ng;rw[rD W.tb p1]at q1;cases q1;rw[hi]at q2;exact q3 (aT q2).symm
    ·subst heq;exact Oo (Array.mem_toList_iff.mpr (Array.mem_of_getElem? p1))
    ·exact Oo (p2 _ N8)
   have fin:=UM EJ (k0+k) (λz=>by
     obtain⟨i',zM⟩:=bq z;rw[rD W.tb (i:=i') (by simpa using zM)]at Nf;cases Nf) (λm hm=>by
     obtain⟨i,d,q1,_⟩:=Kv m hm;obtain⟨_,_,_,_,_,q5⟩:=entry i _ q1;exact Array.mem_toList_iff.mpr (Array.mem_of_getElem? q5))
   split
   ·rename_i met hm;have z:=hm.symm.trans e;cases z;exact aj fin
   ·rename_i hm;exact(hm _ e).elim
  ·obtain⟨⟨hv,y⟩,d,h3,h4,h5,h6⟩:=entry i _ Kw;obtain⟨b,hyb⟩:=h5.ref;have TJ:y=.ref b:=hyb;have aaG:k0+k<K:=by
    rcases Nat.lt_trichotomy K (k0+k)with fQ|heq|N8
    ·obtain⟨i',d',q1,_⟩:=Kv K fQ;rw[hK]at q1;cases q1
    ·subst heq;rw[hK]at Kw;cases Kw
    ·exact N8
   have Oq:t.sameMemory t.moves t.mask=some true:=by unfold sameMemory;rw[if_pos (bP _)]
   have TK:dU d dx=decide (d=dx):=KI.dU h5.ki hx;split
   ·rename_i met hm;have z:=hm.symm.trans e;cases z;dsimp only;split
    ·refine aa (Nd hx Oi _ (λv hv=>?_) ?_)
     ·obtain⟨en,hen,rfl⟩:=List.mem_map.mp hv;have Wc:en∈es.toList:=by
       have:=Array.mem_toList_iff.mp hen;exact Array.mem_toList_iff.mpr (Array.mem_filter.mp this).1
      obtain⟨i',zM⟩:=bq Wc;obtain⟨d',_,h8⟩:=hE.2 i' en zM;exact⟨d',h8.ki,h8.dep⟩
     simp only[aJ,bF];rw[h3];dsimp only;refine aa (bp ((KI.eq 4 A s y (.ref xa) d dx h5.dep (by omega) h5.ki hx) prog w _ _ ?_))
     refine aa (wpAny_setState_of ho hd hf ?_);dsimp only;rw[TK];by_cases Nh:d=dx
     ·rw[aS Nh];exact aj (X5 (Nh▸bo h4))
     ·rw[aH Nh,Oq];simp only[Bool.and_false,aJ,bF,if_true];rw[Kw];dsimp only;rw[h3];dsimp only;rw[TJ];refine aa (wpAny_isSame_ref_self ?_);refine aa (aj ?_);simp only[if_true];exact ih (K-(k0+k+1)) (by omega) fuel (k0+k+1) K _ rfl hK (by omega) (au _) (by omega) λm zF=>by
       by_cases TH:m<k0+k
       ·exact Kv m TH
       ·have:m=k0+k:=by omega
        subst this;exact⟨i,d,Kw,h4,Nh⟩
    ·rw[h3];dsimp only;refine aa (bp ((KI.eq 4 A s y (.ref xa) d dx h5.dep (by omega) h5.ki hx) prog w _ _ ?_))
     refine aa (wpAny_setState_of ho hd hf ?_);dsimp only;rw[TK];by_cases Nh:d=dx
     ·rw[aS Nh];exact aj (X5 (Nh▸bo h4))
     ·rw[aH Nh,Oq];simp only[Bool.and_false,aJ,bF,if_true];rw[Kw];dsimp only;rw[h3];dsimp only;rw[TJ];refine aa (wpAny_isSame_ref_self ?_);refine aa (aj ?_);simp only[if_true];exact ih (K-(k0+k+1)) (by omega) fuel (k0+k+1) K _ rfl hK (by omega) (au _) (by omega) λm zF=>by
       by_cases TH:m<k0+k
       ·exact Kv m TH
       ·have:m=k0+k:=by omega
        subst this;exact⟨i,d,Kw,h4,Nh⟩
   ·rename_i hm;exact(hm _ e).elim
end
end ST
namespace ST
open PySem PySem.Spec PyProof.Rows DL SetTable
mutual
theorem ki_set {h h':Heap}{x:cF}{ox:Obj}{es:Array (Int×cy)}{ep:Nat}{t:cE}(ho:h.get? x=some ox) (hd:ox.data=.set es ep t) (hs:Heap.SameBut x h h'):∀{v:cy}{d:D},KI h v d->KI h' v d
 |_,_,.int n t=>.int n t
 |_,_,@KI.tup _ a o items n ds h1 h2 h3 l=>by
  have jZ:a≠x:=by
   rintro rfl
   rw[ho]at h1;cases h1;rw[hd]at h3;exact nomatch h3
  exact .tup ((hs.2 a jZ).trans h1) h2 h3 (Gg ho hd hs l)
theorem Gg {h h':Heap}{x:cF}{ox:Obj}{es:Array (Int×cy)}{ep:Nat}{t:cE}(ho:h.get? x=some ox) (hd:ox.data=.set es ep t) (hs:Heap.SameBut x h h'):∀{vs:cx}{ds:cw},sP h vs ds->sP h' vs ds
 |_,_,.nil=>.nil
 |_,_,.cons h t=>.cons (ki_set ho hd hs h) (Gg ho hd hs t)
end
theorem EI.imp {P:cy->Prop}{h h':Heap}{es:List (Int×cy)}{ds:cw}(e:EI P h es ds) (m:∀v d,KI h v d->KI h' v d):EI P h' es ds:=
 ⟨e.1,λi x hx=>let ⟨d,h1,h2⟩:=e.2 i x hx;⟨d,h1,⟨m _ _ h2.ki,h2.hash,h2.dep,h2.ref,h2.src⟩⟩⟩
theorem EI.ins {P:cy->Prop}{h:Heap}{es:List (Int×cy)}{ds:cw}(e:EI P h es ds) {p:Nat}(hp:p<=es.length) {x:Int×cy}{d:D}(hx:El P h x d):EI P h (ST.ins es p x) (ST.ins ds p d):=by
 have EK:p<=ds.length:=by rw[<-e.1];exact hp
 refine⟨by rw[m5 hp,m5 EK,e.1],λi y hy=>?_⟩
 rw[mj hp]at hy;rw[mj EK];by_cases c1:i<p
 ·rw[if_pos c1]at hy ⊢;exact e.2 i y hy
 ·rw[if_neg c1]at hy ⊢;by_cases c2:i=p
  ·rw[if_pos c2]at hy ⊢;cases hy;exact⟨d,rfl,hx⟩
  ·rw[if_neg c2]at hy ⊢;exact e.2 (i-1) y hy
theorem EL {α:Type}(l:List α):∀(order:List Nat),(∀k∈order,k<l.length)->∀i:Nat,(order.filterMap λk:Nat=>l[k]?)[i]? =(order[i]?).bind λk:Nat=>l[k]?
 |[],_,i=>by simp
 |a::r,h,i=>by
  have ha:=h a af;have e:l[a]? =some l[a]:=ah ha;rw[List.filterMap_cons,e];cases i with
  |zero=>simp[e]
  |succ i=>simpa using EL l r (λk hk=>h k (ai _ hk)) i
theorem EI.reorder {P:cy->Prop}{h:Heap}{es:List (Int×cy)}{ds:cw}(e:EI P h es ds) {order:List Nat}(hp:order.Perm (List.range es.length)):EI P h (order.filterMap λk:Nat=>es[k]?) (order.filterMap λk:Nat=>ds[k]?)/\(order.filterMap λk:Nat=>ds[k]?).Perm ds:=by
 have o8:∀k∈order,k<es.length:=λk hk=>List.mem_range.mp (hp.mem_iff.mp hk)
 have TL:∀k∈order,k<ds.length:=λk hk=>by rw[<-e.1];exact o8 k hk
 have TM:∀{α:Type}(l:List α) (o:List Nat),(∀k∈o,k<l.length)->(o.filterMap λk:Nat=>l[k]?).length=o.length:=λl o=>by
  induction o with
  |nil=>intro _;rfl
  |cons a r ih=>
   intro hh;rw[List.filterMap_cons,ah (hh a af)];show(r.filterMap λk:Nat=>l[k]?).length+1=_
   rw[ih λk hk=>hh k (ai _ hk)];rfl
 refine⟨⟨by rw[TM es order o8,TM ds order TL],λi x hx=>?_⟩,?_⟩
 ·rw[EL es order o8]at hx;rw[EL ds order TL];cases hk:order[i]? with
  |none=>rw[hk]at hx;cases hx
  |some k=>rw[hk]at hx;exact e.2 k x hx
 ·have h1:=hp.filterMap (λk:Nat=>ds[k]?)
  rw[e.1,range_all]at h1;exact h1
section
variable {prog:cB}{w:cC}{A:cD}{E:ck}{s:cz}
theorem TN (n:Nat):∀(A:cD) (s:cz) (v:cy) (d:D) (Q:Bool->cz->Prop),dY d<=n->KI s.heap v d->Q true s->wpAny (model prog w) A (hashByValue n v) Q E s:=by
 induction n with
 |zero=>
  intro A s v d Q hn k h;cases k with
  |int i t=>unfold hashByValue;exact aj h
  |tup h1 h2 h3 l=>unfold dY at hn;omega
 |succ n ih=>
  intro A s v d Q hn k h;cases k with
  |int i t=>unfold hashByValue;exact aj h
  |@tup a o items m ds ho hc hd l=>
   have hT:s.TypeIs (.ref a) "tuple":=⟨o,ho,hc⟩;have Aq:iM ds<=n:=by unfold dY at hn;omega
   unfold hashByValue;refine aa (wpAny_specialOf hT F.slot_tuple_hash.lookup ?_);dsimp only;refine aa (wpAny_seqItems ho hd ?_);refine aa ?_;show wpAny _ _ (forIn items _ _) _ _ s;rw[<-Array.forIn_toList];refine wpAny_forIn_list _ (λrest r s'=>r.1=none/\s'=s/\∃es,(∀e∈es,dY e<=n)/\sP s.heap rest es) _ ?_ ?_ _ _ ⟨rfl,rfl,ds,λe he=>aD (j3 he) Aq,l⟩
   ·rintro v rest r s' ⟨hr,rfl,es,he,hk⟩
    cases hk with
    |cons k1 k2=>
     refine aa (ih A s' v _ _ (he _ af) k1 ?_);simp only[bV,aJ,bF];exact aj ⟨rfl,rfl,_,λe h=>he e (ai _ h),k2⟩
   ·rintro⟨r1,r2⟩ s' ⟨hr,rfl,_⟩
    simp only at hr;subst hr;exact aj h
structure vR (P:cy->Prop) (ld:Bool) (h:Heap) (a:cF) (ds:cw):Prop where
 ex:∃(o:Obj) (es:Array (Int×cy)) (ep:Nat) (t:cE),h.get? a=some o/\o.ExactSet/\o.data=.set es ep t/\Wt t (es.toList.map (·.1))/\EI P h es.toList ds/\t.place.size*5<t.mask*3/\t.plain=true/\t.led=ld
 nd:ds.Nodup
theorem Wt.fits {t:cE}{es:Array (Int×cy)}(W:Wt t (es.toList.map (·.1))):t.fits es.size=true:=by
 have h1:=W.len;have h2:=W.room;simp at h1;unfold SetTable.fits SetTable.fill;rw[W.tb.Tw];simp only[Bool.and_eq_true,beq_iff_eq,decide_eq_true_eq,aq,List.length_nil];omega
theorem Kx {α:Type}(l:List α) (p:Nat) (x:α):(ins l p x).Perm (x::l):=by
 unfold ins;refine List.perm_middle.trans (List.Perm.cons x ?_);rw[List.take_append_drop]
theorem QS {P:cy->Prop}{ld:Bool}{a xa:cF}{ds:cw}{dx:D}{Q:Bool->cz->Prop}(S:vR P ld s.heap a ds) (hx:KI s.heap (.ref xa) dx) (Oi:dY dx<=4) (hP:P (.ref xa)) (hu:A.units+8<cLine) (hn:ds.length<18)
  (h:∀h' FH,Heap.SameBut a s.heap h'->vR P ld h' a FH->FH.Perm (if dx∈ds then ds else dx::ds)->Q (!decide (dx∈ds)) {s with heap:=h'}):
  wpAny (model prog w) A (setAddHashed a (.ref xa) (eW dx)) Q E s:=by
 obtain⟨o,es,ep,t,ho,hex,hd,W,hE,jn,jX,TQ⟩:=S.ex;have hf:=W.fits;have hlen:t.place.size=es.size:=by have:=W.len;simpa using this
 unfold setAddHashed setAddHashedIn;refine bp (aa (wpAny_setState_of ho hd hf ?_));dsimp only;have TR:byScan (.ref xa) es=false:=rfl;rw[TR];simp only[aJ,bF];obtain⟨e0,Wb,QR⟩:=W.emp;have Gf:=ub t (eW dx);obtain⟨K,UA,VL⟩:=reach W.mask Gf.pb.nine Gf.pb.Nb Wb;have hK3:K<100000:=by
  rcases W.mask with hm|hm<;>(rw[hm]at UA;unfold turns at UA;omega)
 unfold setSearch;refine aa (HJ ho hd hf W hE hx Oi hu (λo8=>?_) (λEJ k QT Ot=>?_) K 100000 0 K none rfl (by rw[VL];exact QR) (bN _) (by omega) hK3 (λm hm=>by omega))
 ·have:=h s.heap ds (Heap.SameBut.refl a s.heap) S (by rw[if_pos o8])
  rw[aS o8]at this;exact aj this
 ·dsimp only;refine aa (wpAny_setState_of ho hd hf ?_);dsimp only;have hr1:t.place.size+1<t.mask+1:=by omega
  obtain⟨W1,LU,Hf,Ni⟩:=W.put QT Ot hr1;have Ky:(t.put (it (jO t.mask) k (t.probeStart (eW dx))).j).1.plain=true:=jX;have Nj:(t.put (it (jO t.mask) k (t.probeStart (eW dx))).j).1.led=ld:=TQ;generalize t.put (it (jO t.mask) k (t.probeStart (eW dx))).j=tp at W1 LU Hf Ni Ky Nj;obtain⟨t1,p⟩:=tp;dsimp only at W1 LU Hf Ni Ky Nj;rw[if_pos Ky];refine aa (TN 8 A s (.ref xa) dx _ (by omega) hx ?_)
  simp only[if_true];have UT:p<=es.toList.length:=by simpa using LU
  have Wd:(insertAt es p (eW dx,Value.ref xa)).toList=ins es.toList p (eW dx,Value.ref xa):=so _ _ _;have X6:Wt t1 ((insertAt es p (eW dx,Value.ref xa)).toList.map (·.1)):=by rw[Wd,ins_map];exact W1
  have TU:(insertAt es p (eW dx,Value.ref xa)).size=es.size+1:=by
   rw[<-aO,Wd,m5 UT,aO]
  have aaK:ds.length=es.size:=by rw[<-hE.1,aO]
  refine aa (wpAny_storeSet_of ho hd ?_ (by rw[TU];exact aD (by omega:es.size+1<=100) (by decide)))
  have We:Heap.SameBut a s.heap (s.heap.update a (Obj.putSet (insertAt es p (eW dx,Value.ref xa)) t1)):=Heap.SameBut.update ..;have vp:(s.heap.update a (Obj.putSet (insertAt es p (eW dx,Value.ref xa)) t1)).get? a=some {o with data:=.set (insertAt es p (eW dx,Value.ref xa)) (ep+1) t1}:=by
   have:=Heap.get?_update_self (Obj.putSet (insertAt es p (eW dx,Value.ref xa)) t1) ho (by rw[putSet_of _ t1 hd];rfl)
   rw[putSet_of _ t1 hd]at this;exact this
  have X7:∀v d,KI s.heap v d->KI (s.heap.update a (Obj.putSet (insertAt es p (eW dx,Value.ref xa)) t1)) v d:=λv d=>ki_set ho hd We
  have X8:EI P (s.heap.update a (Obj.putSet (insertAt es p (eW dx,Value.ref xa)) t1)) (insertAt es p (eW dx,Value.ref xa)).toList (ins ds p dx):=by
   rw[Wd];exact(hE.imp X7).ins UT ⟨X7 _ _ hx,rfl,Oi,⟨xa,rfl⟩,hP⟩
  have xt:(ins ds p dx).Perm (dx::ds):=Kx ds p dx;have LQ:(ins ds p dx).Nodup:=xt.nodup_iff.mpr (List.nodup_cons.mpr ⟨EJ,S.nd⟩);have Ou:t1.fill=t1.place.size:=by unfold SetTable.fill;rw[W1.tb.Tw];rfl
  have TV:(!decide (dx∈ds))=true:=by rw[aH EJ];rfl
  by_cases Gh:t1.tooFull=true
  ·
   have Tz:t1.mask*3<=t1.place.size*5:=by
    have:decide (t1.fill*5 ≥ t1.mask*3)=true:=Gh;rw[Ou]at this;have:=bM this;omega
   have X9:t.mask=7:=by
    rcases W.mask with hm|hm
    ·exact hm
    ·rw[Hf,hm,Ni]at Tz;omega
   have h4:es.size=4:=by rw[Hf,X9,Ni]at Tz;rw[X9]at jn;omega
   generalize aaL:insertAt es p (eW dx,Value.ref xa)=yV at *;have QU:yV.size=5:=by rw[TU,h4]
   obtain⟨t2,order,TX,Wf,W2,zF,TY,Wg,_⟩:=Nc (mask:=31) (.inr rfl) t1.finger (t1.movedTo 31) t1.led t1.plain (yV.map (·.1)) (by simp[QU])
   have Ov:order.Perm (List.range yV.size):=by simpa using Wf
   obtain⟨rp,Wh⟩:=reorder (es:=yV) Ov;have hsz2:(order.toArray.filterMap (yV[·]?)).size=yV.size:=by
    have:=rp.length_eq
    simpa using this
   have Yb:Wt t2 ((order.toArray.filterMap (yV[·]?)).toList.map (·.1)):=by rw[Wh (·.1)];exact W2
   simp only[Bool.not_false,Bool.true_and,if_pos Gh];refine aa ?_;unfold setRelay;refine aa (wpAny_setState_of vp rfl X6.fits ?_);dsimp only;have hw:sizeAbove (grown (es.size+1))=32:=by rw[h4];rfl
   have hre:t1.relaid (yV.map (·.1)) (grown (es.size+1))=some (t2,order.toArray):=by unfold relaid;rw[hw];exact TX
   rw[hw,if_neg (by decide),hre]
   refine aa ?_;show wpAny _ _ (if((order.toArray.filterMap (yV[·]?)).size !=yV.size)=true then(unsupported "internal:set-table-lost-an-element">>=λ_=>pure (order.toArray.filterMap (yV[·]?),t2))else pure (order.toArray.filterMap (yV[·]?),t2)) _ _ _
   rw[if_neg (by rw[hsz2];simp)]
   refine aj ?_;dsimp only;refine wpAny_storeSet_of vp rfl ?_ (by rw[hsz2,QU];decide)
   have Yc:Heap.SameBut a (s.heap.update a (Obj.putSet yV t1)) ((s.heap.update a (Obj.putSet yV t1)).update a (Obj.putSet (order.toArray.filterMap (yV[·]?)) t2)):=Heap.SameBut.update ..
   have vN:((s.heap.update a (Obj.putSet yV t1)).update a (Obj.putSet (order.toArray.filterMap (yV[·]?)) t2)).get? a=some {o with data:=.set (order.toArray.filterMap (yV[·]?)) (ep+1+1) t2}:=by
    have:=Heap.get?_update_self (Obj.putSet (order.toArray.filterMap (yV[·]?)) t2) vp (by rw[putSet_of _ t2 rfl];rfl)
    rw[putSet_of _ t2 rfl]at this;exact this
   have eq2:(order.toArray.filterMap (yV[·]?)).toList=order.filterMap λk:Nat=>yV.toList[k]? :=by simp
   obtain⟨Yd,TZ⟩:=(X8.imp (λv d=>ki_set vp rfl Yc)).reorder (order:=order) (by simpa using Ov)
   rw[<-eq2]at Yd;have:=h _ _ (We.trans Yc) ⟨⟨_,_,_,t2,vN,hex,rfl,Yb,Yd,by have h1:=Yb.len;rw[ae,aO,hsz2,QU]at h1;rw[zF,h1];decide,by rw[Wg];exact Ky,by rw[TY];exact Nj⟩,(TZ.trans xt).nodup_iff.mpr (List.nodup_cons.mpr ⟨EJ,S.nd⟩)⟩ (by rw[if_neg EJ];exact TZ.trans xt)
   rw[TV]at this;exact aj this
  ·have Tz:t1.place.size*5<t1.mask*3:=by
    have h0:¬ (decide (t1.fill*5 ≥ t1.mask*3)=true):=Gh;rw[Ou]at h0
    simpa using h0
   simp only[Bool.not_false,Bool.true_and,if_neg Gh];have:=h _ (ins ds p dx) We ⟨⟨_,_,_,t1,vp,hex,rfl,X6,X8,Tz,Ky,Nj⟩,LQ⟩ (by rw[if_neg EJ];exact xt)
   rw[TV]at this;exact aj this
end
end ST
namespace ST
open PySem PySem.Spec PyProof.Rows DL SetTable
def Tk (h h':Heap):Prop:=∀b o,h.get? b=some o->o.cls=.type "tuple"->h'.get? b=some o
theorem Tk.trans {h h1 h2:Heap}(a:Tk h h1) (b:Tk h1 h2):Tk h h2:=λx o e c=>b x o (a x o e c) c
mutual
theorem Kz {h h':Heap}(t:Tk h h'):∀{v:cy}{d:D},KI h v d->KI h' v d
 |_,_,.int n t=>.int n t
 |_,_,.tup h1 h2 h3 l=>.tup (t _ _ h1 h2) h2 h3 (KA t l)
theorem KA {h h':Heap}(t:Tk h h'):∀{vs:cx}{ds:cw},sP h vs ds->sP h' vs ds
 |_,_,.nil=>.nil
 |_,_,.cons h r=>.cons (Kz t h) (KA t r)
end
theorem vR.mono {P:cy->Prop}{ld:Bool}{h h':Heap}{a:cF}{ds:cw}(S:vR P ld h a ds) (hS:∀o,h.get? a=some o->h'.get? a=some o) (t:Tk h h'):vR P ld h' a ds:=by
 obtain⟨o,es,ep,tb,h1,h2,h3,h4,h5,h6,h7⟩:=S.ex;exact⟨⟨o,es,ep,tb,hS o h1,h2,h3,h4,h5.imp λv d=>Kz t,h6,h7⟩,S.nd⟩
theorem vR.tk {P:cy->Prop}{ld:Bool}{h h':Heap}{a:cF}{ds:cw}(S:vR P ld h a ds) (hs:Heap.SameBut a h h'):Tk h h':=λb o e c=>by
 obtain⟨o',es,ep,tb,h1,h2,_⟩:=S.ex;have jZ:b≠a:=λz=>by
  subst z;rw[h1]at e;cases e;rw[h2.1]at c;exact absurd c (by decide)
 exact(hs.2 b jZ).trans e
theorem EM {P:cy->Prop}{h:Heap}{a:cF}(led:Bool) (ho:h.get? a=some {cls:=.type "set",dict:=none,data:=.set #[] 0 (.fresh 0 0 led)}):vR P led h a []:=
 ⟨⟨_,#[],0,_,ho,⟨rfl,rfl,rfl⟩,rfl,Kq led,⟨rfl,λi e he=>by simp at he⟩,by show 0*5<7*3;decide,rfl,rfl⟩,List.nodup_nil⟩
section
variable {prog:cB}{w:cC}{A:cD}{R:Result->cz->Prop}{I:cF}{fp wr:List cF}{G:Array GenState->Array GenState->Prop}{n:Nat}{P:Nat->cy->Prop}{St:Nat->cz->Prop}
theorem T1 {Pv:cy->Prop}{ld:Bool}(W:WalksS prog w A.in1 I fp wr G n P St) (S:cF) (UU:S∉fp) (val:Nat->D) (h0:Heap)
  (EN:∀i v,P i v->(∃xa,v=.ref xa)/\dY (val i)<=4/\KI h0 v (val i)/\Pv v) (hb:n<=18) (hu:A.units+9<cLine)
  (hwr:∀i (s:cz) b o,St i s->b∈wr->s.heap.get? b=some o->o.cls≠.type "tuple"):
  ∀(k i:Nat) (s:cz),n-i=k->i<=n->St i s->Tk h0 s.heap->
   (∃ds,vR Pv ld s.heap S ds/\ds.length<=i/\∀d,d∈ds↔∃m,m<i/\val m=d)->
   (∀s',Moved (S::wr) G s s'->Tk h0 s'.heap->(∃ds,vR Pv ld s'.heap S ds/\ds.length<=n/\∀d,d∈ds↔∃m,m<n/\val m=d)->R (.ok (.ret .none)) s')->
   codeAny (model prog w) A (.builtin "set.update.loop" ⟨[.ref S,.ref I],[]⟩) R s:=by
 have Ye:S∉wr:=λh=>UU (W.sub _ h)
 have KC:∀b∈wr,b∈S::wr:=λb hb=>ai _ hb
 have UW:∀{i:Nat}{s s':cz},St i s->Moved wr G s s'->Tk s.heap s'.heap:=λn5 hm b o e c=>hm.heap b o (λhb=>hwr _ _ b o n5 hb e c) e
 intro k;induction k with
 |zero=>
  intro i s hk hi n5 hT ⟨ds,hS,hl,Cp⟩ hR;have o8:i=n:=by omega
  subst o8;refine codeAny_builtin PyProof.Rows.F.entry_set_update_loop ?_;rw[bZ PyProof.Rows.F.plain_set_update_loop _];show wpAny _ A.in1 (pyNext (.ref I)>>=_) _ _ s;refine aa (W.done s _ _ n5 λs' hm=>?_)
  show wpAny _ A.in1 (ret Value.none) _ _ s';exact aj (hR s' ⟨λb o hb e=>hm.heap b o (λz=>hb (KC b z)) e,hm.gens,hm.drawn,hm.os,hm.toks⟩ (hT.trans (UW n5 hm)) ⟨ds,hS.mono (λo e=>hm.heap S o Ye e) (UW n5 hm),hl,Cp⟩)
 |succ k ih=>
  intro i s hk hi n5 hT ⟨ds,hS,hl,Cp⟩ hR;have fQ:i<n:=by omega
  refine codeAny_builtin PyProof.Rows.F.entry_set_update_loop ?_;rw[bZ PyProof.Rows.F.plain_set_update_loop _];show wpAny _ A.in1 (pyNext (.ref I)>>=_) _ _ s;refine aa (W.item i s _ _ fQ n5 λv s' hP Wi hm=>?_)
  obtain⟨⟨xa,rfl⟩,KD,hki,hpv⟩:=EN i v hP;have Yg:=hT.trans (UW n5 hm);have RF:=hS.mono (λo e=>hm.heap S o Ye e) (UW n5 hm)
  show wpAny _ A.in1 (holding [Value.ref xa] (setAdd S (.ref xa))>>=_) _ _ s';refine aa (bp ?_);unfold setAdd;refine bp ?_;have T3:=Kz Yg hki;refine aa (KI.hash 4 A.in1 s' (.ref xa) (val i) _ KD (by show A.units+1+4<cLine;omega) T3 ?_)
  refine QS (s:={s' with toks:=s'.toks+xg (val i)}) RF T3 KD hpv (by show A.units+1+8<cLine;omega) (by omega) λh' FH LR UX Gf=>?_
  have Wj:Tk s'.heap h':=RF.tk LR;refine aj ⟨plainId_quiet PyProof.Rows.F.plain_set_update_loop _,ih (i+1) _ (by omega) fQ (W.frame _ s' _ _ Wi (Nat.le_add_right _ _) λb hb o e=>?_) (Yg.trans Wj) ⟨FH,UX,?_,λd=>?_⟩ λIy Wl hT2 Wm=>?_⟩
  ·rw[LR.2 b (λh:b=S=>UU (by rw[<-h];exact hb))];exact e
  ·have:=Gf.length_eq;by_cases o8:val i∈ds
   ·rw[if_pos o8]at this;omega
   ·rw[if_neg o8,ax]at this;omega
  ·rw[Gf.mem_iff];have base:=Cp d;constructor
   ·intro hd;split at hd
    ·obtain⟨m,h1,h2⟩:=base.mp hd;exact⟨m,by omega,h2⟩
    ·rcases List.mem_cons.mp hd with rfl|hd
     ·exact⟨i,by omega,rfl⟩
     ·obtain⟨m,h1,h2⟩:=base.mp hd;exact⟨m,by omega,h2⟩
   ·rintro⟨m,h1,h2⟩
    by_cases hmi:m=i
    ·subst hmi;subst h2;split
     ·rename_i o8;exact o8
     ·exact af
    ·have:=base.mpr ⟨m,by omega,h2⟩
     split
     ·exact this
     ·exact ai _ this
  ·refine hR Iy (Moved.trans W.gtrans ?_ Wl) hT2 Wm;refine⟨λb o hb e=>?_,hm.gens,hm.drawn,hm.os,?_⟩
   ·rw[LR.2 b (λh:b=S=>hb (by rw[h];exact af))]
    exact hm.heap b o (λz=>hb (KC b z)) e
   ·exact aD hm.toks (Nat.le_add_right _ _)
end
end ST
namespace ST
open PySem PySem.Spec PyProof.Rows DL SetTable
abbrev fq (led:Bool):Obj:={cls:=.type "set",dict:=none,data:=.set #[] 0 (.fresh 0 0 led)}
section
variable {prog:cB}{w:cC}{A:cD}{E:ck}{s:cz}
def Made (P:cy->Prop) (ld:Bool) (s:cz) (val:cw) (h':Heap):Prop:=(∃ds,vR P ld h' s.heap.objs.size ds/\∀d,d∈ds↔d∈val)/\∀b o,b<s.heap.objs.size->s.heap.get? b=some o->h'.get? b=some o
theorem HK {l:cF}{items:Array cy}{val:cw}{led:Bool}(hh:A.handled=none) (hu:A.units+20<cLine) (hl:s.heap.IsList l items) (hn:items.size=val.length)
  (hit:∀(i:Nat) (v:cy),items[i]? =some v->(∃xa,v=.ref xa)/\dY (val.getD i .eD)<=4/\KI s.heap v (val.getD i .eD)) (hb:items.size<=18) {Q:PySem.Fin->cz->Prop}
  (h:∀h' tk,Made (·∈items.toList) led s val h'->Q (.done (.ret .none)) {s with heap:=h',toks:=tk}):
  wpAny (model prog w) A (Builtin.«set.__init__» ⟨[.ref s.heap.objs.size,.ref l],[]⟩) Q E {s with heap:=s.heap.push (fq led)}:=by
 obtain⟨⟨aaS,T4,Yh,QV⟩,Yi,wO,nl,Yj⟩:=hl;simp only at wO Yj;subst wO Yj;have hS:(s.heap.push (fq led)).get? s.heap.objs.size=some (fq led):=az _ rfl;have hT:Shared.TypeIs {s with heap:=s.heap.push (fq led)} (.ref s.heap.objs.size) "set":=⟨_,hS,rfl⟩
 have Wn:(s.heap.push (fq led)).get? l=some {cls:=.type "list",dict:=T4,data:=.seq items nl,slots:=QV}:=ag _ Yi;have aaT:=PySem.F.sub_list_set;have aaU:=PySem.F.sub_list_frozenset;have jZ:(Value.type "list"==Value.type "dict")=false:=by decide
 have UY:(s.heap.push (fq led)).IsList l items:=⟨_,Wn,rfl,nl,rfl⟩;unfold Builtin.«set.__init__» noKeywords Builtin.Frozenset.updateFrom;generalize hPI:pyIter=PI
 wp_walk
 subst hPI;refine wpAny_pyIter_list UY ?_;refine aa (wpAny_runValue ?_);have Yk:l<s.heap.objs.size:=aB Yi;have Wo:(s.heap.push (fq led)).objs.size=s.heap.objs.size+1:=Heap.size_push ..;have QW:l≠(s.heap.push (fq led)).objs.size:=by rw[Wo];exact aE (Nat.lt_succ_of_lt Yk)
 have UU:s.heap.objs.size∉[(s.heap.push (fq led)).objs.size,l]:=by
  rw[Wo];simp only[List.mem_cons,bK,or_false,not_or];exact⟨aE (Nat.lt_succ_self _),bz Yk⟩
 have hgS:((s.heap.push (fq led)).push {cls:=.type "list_iterator",data:=.fields #[.ref l,.int 0 0]}).get? s.heap.objs.size=some (fq led):=ag _ hS;have W:=(Walks.list (prog:=prog) (w:=w) (A:=A.in1) hh (s.heap.push (fq led)).objs.size l QW items).toS;refine T1 (Pv:=(·∈items.toList)) W s.heap.objs.size UU (λi=>val.getD i .eD) s.heap (λi v hv=>⟨(hit i v hv).1,(hit i v hv).2.1,(hit i v hv).2.2,Array.mem_toList_iff.mpr (Array.mem_of_getElem? hv)⟩) hb (by omega) (λi s' b o st hbw e c=>?_) (items.size-0) 0 _ (by omega) (bN _) ⟨⟨_,az _ rfl,rfl,rfl⟩,UY.push _⟩ (λb o e _=>ag _ (ag _ e)) ⟨[],EM led hgS,au _,λd=>⟨(λz=>by cases z),λ⟨m,hm,_⟩=>by omega⟩⟩ (λs' hm Yl ⟨ds,hSt,_,Cp⟩=>?_)
 ·have Mc:b=(s.heap.push (fq led)).objs.size:=by simpa using hbw
  obtain⟨o',e',c',_⟩:=st.1;subst Mc;rw[e]at e';cases e';rw[c]at c';exact absurd c' (by decide)
 ·obtain⟨h',g',d',Gi,Sk⟩:=s';have eg:g'=s.gens:=hm.gens;have ed:d'=s.drawn:=hm.drawn;have eo:Sk=s.os:=hm.os;subst eg ed eo;show wpAny _ _ _ _ _ _;refine aj ?_;show wpAny _ _ (ret Value.none) _ _ _;refine aj (h h' Gi ⟨⟨ds,hSt,λd=>(Cp d).trans ⟨λ⟨m,Hf,zF⟩=>?_,λhd=>?_⟩⟩,λb o hb e=>?_⟩)
  ·have:m<val.length:=by rw[<-hn];exact Hf
   rw[<-zF];show val.getD m .eD∈val;rw[ak,ah this];exact List.getElem_mem this
  ·obtain⟨m,zF⟩:=bq hd;refine⟨m,by rw[hn];exact(List.getElem?_eq_some_iff.mp zF).1,?_⟩
   show val.getD m .eD=d;rw[ak,zF];rfl
  ·have hb1:b≠s.heap.objs.size:=aE hb;have Ts:b≠(s.heap.push (fq led)).objs.size:=by rw[Wo];exact aE (Nat.lt_succ_of_lt hb)
   exact hm.heap b o (by simp only[List.mem_cons,bK,or_false,not_or];exact⟨hb1,Ts⟩) (ag _ (ag _ e))
end
end ST
namespace ST
open PySem PySem.Spec PyProof.Rows DL SetTable
section
variable {prog:cB}{w:cC}{A:cD}{E:ck}{s:cz}
theorem Nk (a:cy) {Q₁:ck}
  (h:Q₁ (.ref s.heap.objs.size) {s with heap:=s.heap.push (fq (!w.params.followText "set-order"))}):
  codeAny (model prog w) A (.call (.builtin "set.__new__") ⟨[.type "set",a],[]⟩) (wants Q₁ E) s:=by
 refine codeAny_of_tree ?_;show wpAny _ A.in1 (checkBuiltinCall "set.__new__" ⟨[.type "set",a],[]⟩>>=λ_=>again (.builtin "set.__new__" ⟨[.type "set",a],[]⟩)) _ _ s
 refine aa (wpAny_of_eq (PySem.F.newCall_set_1 a) (aj ⟨plainId_quiet PySem.F.plain_set_new _,codeAny_builtin PySem.F.entry_set_new ?_⟩));rw[bZ PySem.F.plain_set_new _];unfold Builtin.«set.__new__» Builtin.Frozenset.newClass;have KC:=sub_set_self;obtain⟨hp,g,d,tk,os⟩:=s;dsimp only
 wp_walk
 refine wpAny_askSetting (aj ?_);dsimp only;simp only[newObj];refine aa (wpAny_alloc (aj ?_));exact aj h
set_option maxHeartbeats 8000000 in
theorem yW {x:cy}{Mk:Heap->Prop}{Q:ck}
  (T6:∀{Q:PySem.Fin->cz->Prop},(∀h' tk,Mk h'->Q (.done (.ret .none)) {s with heap:=h',toks:=tk})->wpAny (model prog w) A.in1.in1 (Builtin.«set.__init__» ⟨[.ref s.heap.objs.size,x],[]⟩) Q E {s with heap:=s.heap.push (fq (!w.params.followText "set-order"))})
  (h:∀h' tk,Mk h'->Q (.ref s.heap.objs.size) {s with heap:=h',toks:=tk}):
  wpAny (model prog w) A (call (.type "set") [x]) Q E s:=by
 obtain⟨c,tl,aa0⟩:=PySem.F.called_set.mro;have Ox:=PySem.F.called_set.made;have KC:=PySem.F.called_set.sub;have h1:=PySem.F.called_set.notType;have h2:=PySem.F.called_set.canCreate;have UN:=PySem.F.typeCall_set_1 x;refine wpAny_call (codeAny_of_tree ?_);show wpAny _ _ (callAny (.type "set") _) _ _ _;refine aj ⟨Code.quiet_builtin _ (by decide +kernel),codeAny_builtin PySem.F.entry_type_call ?_⟩
 rw[Around.under_plain (weight_type_call_type "set" [x] []) rfl]
 repeat (any_goals (first|assumption|wp_step))
 refine codeAny_mono (Nk x (E:=E) (Q₁:=λobj s₁=>obj=.ref s.heap.objs.size/\s₁={s with heap:=s.heap.push (fq (!w.params.followText "set-order"))}) ⟨rfl,rfl⟩) λr s₁ hr=>?_
 cases r with
 |error e=>exact hr
 |ok fl=>
  cases fl with
  |ret obj=>
   obtain⟨rfl,rfl⟩:=hr;have hT:Shared.TypeIs {s with heap:=s.heap.push (fq (!w.params.followText "set-order"))} (.ref s.heap.objs.size) "set":=⟨_,az _ rfl,rfl⟩
   have Kw:=PySem.F.called_set.init.lookup;have hbi:=PySem.F.called_set.init.bind (.ref s.heap.objs.size)
   repeat (any_goals (first|assumption|wp_step))
   refine codeAny_mono (codeAny_call_builtin (R:=wants (λr s₂=>r=.none/\∃h' tk,s₂={s with heap:=h',toks:=tk}/\Mk h') E) PySem.F.called_set.init.plain PySem.F.entry_set_init (check_set_init_1 hT ?_)) λr₂ s₂ Wq=>?_
   ·exact T6 λh' tk hm=>⟨rfl,h',tk,rfl,hm⟩
   ·cases r₂ with
    |error e=>exact Wq
    |ok fl₂=>
     cases fl₂ with
     |ret r=>
      obtain⟨rfl,h',tk,rfl,hm⟩:=Wq
      repeat (any_goals (first|assumption|wp_step))
      exact h _ _ hm
     |_=>exact Wq.elim
  |_=>exact hr.elim
theorem yX {l:cF}{items:Array cy}{val:cw}{Q:ck}(hh:A.handled=none) (hu:A.units+40<cLine) (hl:s.heap.IsList l items) (hn:items.size=val.length)
  (hit:∀(i:Nat) (v:cy),items[i]? =some v->(∃xa,v=.ref xa)/\dY (val.getD i .eD)<=4/\KI s.heap v (val.getD i .eD)) (hb:items.size<=18)
  (h:∀h' tk,Made (·∈items.toList) (!w.params.followText "set-order") s val h'->Q (.ref s.heap.objs.size) {s with heap:=h',toks:=tk}):
  wpAny (model prog w) A (call (.type "set") [.ref l]) Q E s:=
 yW (λhQ=>HK (s:=s) (A:=A.in1.in1) hh (by show A.units+1+1+20<cLine;omega) hl hn hit hb hQ) h
end
end ST
namespace ST
open PySem PySem.Spec PyProof.Rows DL SetTable
theorem i9:Slot "set_iterator" "__next__" "set_iterator.__next__":=
 .of (owner:="set_iterator") (n:="__next__") (by rw[typeLookup_type,builtinLookup_eq_fast];kernel_rfl) (by decide +kernel) (by decide +kernel) (by decide +kernel)
  (by first|exact .inl (by decide +kernel)|exact .inr (by decide +kernel)) (by rw[isSubtype_type];kernel_rfl)
theorem sq:entryFor table "set_iterator.__next__"=some Builtin.«set_iterator.__next__»:=entryFor_of_tree (by kernel_rfl)
theorem uc (a:cy):argsOk "set_iterator.__next__" ⟨[a],[]⟩:=by
 unfold argsOk;kernel_rfl
theorem Gj {α:Type}(next:Nat->Nat):∀(fuel k:Nat) (left:List α) (out:Array α),left.length<=fuel->(pickOrder.go next fuel k left out).toList.Perm (out.toList++left)
 |0,k,left,out,h=>by
  have:left=[]:=List.length_eq_zero_iff.mp (by omega)
  subst this;unfold pickOrder.go;rw[bD]
 |fuel+1,k,left,out,h=>by
  unfold pickOrder.go;by_cases hl:left=[]
  ·subst hl;simp
  ·have M9:0<left.length:=List.length_pos_iff.mpr hl;have fQ:next k%left.length<left.length:=Nat.mod_lt _ M9;rw[ah fQ];dsimp only;refine(Gj next fuel (k+1) _ _ (by rw[List.length_eraseIdx];split<;>omega)).trans ?_
   rw[Array.toList_push,List.append_assoc];refine List.Perm.append_left _ ?_;exact(LW.sR left _ fQ)
theorem zT {α:Type}(next:Nat->Nat) (xs:Array α):(pickOrder next xs).toList.Perm xs.toList:=by
 have:=Gj next xs.size 0 xs.toList #[] (by simp)
 show(pickOrder.go next xs.size 0 xs.toList #[]).toList.Perm xs.toList
 simpa using this
abbrev xu (first:Int) (i:Nat) (S:cF) (n ep:Nat):Obj:={cls:=.type "set_iterator",data:=.fields #[rawInt first,rawInt i,.ref S,rawInt n,rawInt ep]}
def gq (w:cC) (a:cF) (ep:Nat) (es:Array (Int×cy)):Array (Int×cy):=if w.params.followText "set-order" then pickOrder (w.params.setOrder a ep) es else es
def EO (t:cE):Nat->Nat
 |0=>0
 |i+1=>t.place.getD i 0+1
def mi (w:cC) (t:cE) (i:Nat):Nat:=if w.params.followText "set-order" then 0 else EO t i
theorem ER {t:cE}(hr:fO t.place.toList) (i:Nat) (hi:i<=t.place.size):below t.place (EO t i)=i:=by
 obtain⟨h1,h2,h3⟩:=pD t.place (EO t i) hr;cases i with
 |zero=>
  show below t.place 0=0;by_cases hz:below t.place 0=0
  ·exact hz
  ·have M9:0<below t.place 0:=by omega
   have fQ:0<t.place.size:=by have BF:below t.place 0<=t.place.size:=h1;omega
   have:=h2 0 fQ M9;have Ym:t.place[0]<0:=this;omega
 |succ i=>
  have fQ:i<t.place.size:=by omega
  have hg:t.place.getD i 0=t.place[i]:=by simp[fQ]
  have Wr:EO t (i+1)=t.place[i]+1:=by show t.place.getD i 0+1=_;rw[hg]
  rw[Wr]at h1 h2 h3 ⊢;have lo:i<below t.place (t.place[i]+1):=by
   by_cases hc:below t.place (t.place[i]+1)<=i
   ·have:=h3 i fQ hc;omega
   ·omega
  by_cases hc:below t.place (t.place[i]+1)=i+1
  ·exact hc
  ·have Ng:i+1<t.place.size:=by omega
   have a1:=h2 (i+1) Ng (by omega)
   have a2:=wt hr (i:=i) (k:=i+1) (by omega) (by simpa using Ng)
   simp only[Array.getElem_toList]at a2;omega
section
variable {prog:cB}{w:cC}{A:cD}{E:ck}{s:cz}
theorem ES {a:cF}{o:Obj}{es:Array (Int×cy)}{ep:Nat}{t:cE}(ho:s.heap.get? a=some o) (hd:o.data=.set es ep t) (hf:t.fits es.size=true) (hr:fO t.place.toList) (jX:t.plain=true) (TQ:t.led= !w.params.followText "set-order")
  (i:Nat) (hi:i<=es.size) {Q:Option (cy×Nat)->cz->Prop}(h:Q ((gq w a ep es)[i]?.map λe=>(e.2,mi w t (i+1))) s):wpAny (model prog w) A (setNext a (mi w t i) i ep) Q E s:=by
 have hsz:t.place.size=es.size:=by
  simp only[SetTable.fits,Bool.and_eq_true,beq_iff_eq,decide_eq_true_eq]at hf;exact hf.1
 unfold setNext;refine aa (wpAny_setState_of ho hd hf ?_);dsimp only;unfold setsByText;refine aa (aa (wpAny_askSetting (aj ?_)));show wpAny _ _ (if w.params.followText "set-order"=true then _ else _) _ _ _
 cases hb:w.params.followText "set-order" with
 |true=>
  rw[if_pos rfl,if_neg (by simp)]
  unfold setWalk;refine aa (aa (wpAny_setState_of ho hd hf ?_));dsimp only;unfold setsByText;refine aa (aa (wpAny_askSetting (aj ?_)));show wpAny _ _ (if w.params.followText "set-order"=true then _ else _) _ _ _
  rw[hb,if_pos rfl];refine aa (wpAny_askSetting (aj ?_));refine aj ?_;have e1:mi w t i=mi w t (i+1):=by unfold mi;rw[hb];rfl
  unfold gq at h;rw[hb,if_pos rfl]at h;rw[e1];exact h
 |false=>
  rw[if_neg bc,if_neg (λhc=>by
   have h2:(!t.plain&&decide (es.size>1))=true:=hc;rw[jX]at h2;cases h2)]
  refine aa ?_;show wpAny _ _ (if(!t.led&& !es.isEmpty)=true then unsupported "set:maker-not-led" else pure ()) _ _ _
  rw[if_neg (by rw[TQ,hb];simp)]
  refine aj ?_;refine aj ?_;have e1:mi w t i=EO t i:=by unfold mi;rw[hb];rfl
  rw[e1,ER hr i (by omega)]
  unfold gq at h;rw[hb,if_neg bc]at h;by_cases fQ:i<es.size
  ·have g1:es[i]? =some es[i]:=by simp[fQ]
   have g2:t.place[i]? =some t.place[i]:=by simp[hsz,fQ]
   rw[g1]at h ⊢;rw[g2];have e2:mi w t (i+1)=t.place[i]+1:=by unfold mi EO;rw[hb];simp[hsz,fQ]
   rw[e2]at h;exact h
  ·have g1:es[i]? =none:=by simp;omega
   rw[g1]at h ⊢;exact h
end
end ST
namespace ST
open PySem PySem.Spec PyProof.Rows DL SetTable
theorem ud:Slot "set_iterator" "__iter__" "set_iterator.__iter__":=
 .of (owner:="set_iterator") (n:="__iter__") (by rw[typeLookup_type,builtinLookup_eq_fast];kernel_rfl) (by decide +kernel) (by decide +kernel) (by decide +kernel)
  (by first|exact .inl (by decide +kernel)|exact .inr (by decide +kernel)) (by rw[isSubtype_type];kernel_rfl)
theorem A7 (a:cy):argsOk "set_iterator.__iter__" ⟨[a],[]⟩:=by unfold argsOk;kernel_rfl
theorem yY:entryFor table "set_iterator.__iter__"=some Builtin.«dict_keyiterator.__iter__»:=
 entryFor_alias (id':="dict_keyiterator.__iter__") (by kernel_rfl) (by first|rfl|decide +kernel) (by decide +kernel) (by kernel_rfl)
theorem xv:entryFor table "set.__iter__"=some Builtin.«frozenset.__iter__»:=
 entryFor_alias (id':="frozenset.__iter__") (by kernel_rfl) rfl (by decide +kernel) (by kernel_rfl)
structure oQ (w:cC) (h:Heap) (S:cF) (es:Array (Int×cy)) (ep:Nat) (t:cE):Prop where
 at_:∃o,h.get? S=some o/\o.ExactSet/\o.data=.set es ep t
 fits:t.fits es.size=true
 rise:fO t.place.toList
 plain:t.plain=true
 led:t.led= !w.params.followText "set-order"
section
variable {prog:cB}{w:cC}{A:cD}{E:ck}{s:cz}
theorem Gk {I S:cF}{es:Array (Int×cy)}{ep:Nat}{t:cE}{i:Nat}(hI:s.heap.get? I=some (xu (mi w t i:Nat) i S es.size ep)) (hS:oQ w s.heap S es ep t) (hi:i<=es.size)
  {Q:PySem.Fin->cz->Prop}(h1:∀e h',(gq w S ep es)[i]? =some e->h'.get? I=some (xu (mi w t (i+1):Nat) (i+1) S es.size ep)->Heap.SameBut I s.heap h'->Q (.done (.ret e.2)) {s with heap:=h'})
  (h2:(gq w S ep es)[i]? =none->wpAny (model prog w) A (setField (.ref I) 2 .none>>=λ_=>newExc (.type "StopIteration") []>>=λe=>raiseNew e) Q E s):
  wpAny (model prog w) A (Builtin.«set_iterator.__next__» ⟨[.ref I],[]⟩) Q E s:=by
 obtain⟨o,ho,hex,hd⟩:=hS.at_;unfold Builtin.«set_iterator.__next__» slotArgs;simp only[List.isEmpty_nil,bV,aJ,↓reduceIte,bind_assoc,List.length_nil,bne_self_eq_false];refine aa (aj ?_);refine aa (wpAny_fieldsOf hI rfl ?_);show wpAny (model prog w) A (setEntries S>>=_) Q E s;refine aa (wpAny_setEntries_of ho hd hS.fits ?_);have hsz:(((es.size:Nat):Int)!=((es.size:Nat):Int))=false:=by simp
 show wpAny _ _ (if(((es.size:Nat):Int)!=((es.size:Nat):Int))=true then _ else _) _ _ _
 rw[if_neg (by rw[hsz];exact bc)]
 show wpAny _ _ (setNext S (((mi w t i:Nat):Int).toNat) (((i:Nat):Int).toNat) (((ep:Nat):Int).toNat)>>=_) _ _ _;rw[Int.toNat_natCast,Int.toNat_natCast,Int.toNat_natCast];refine aa (ES ho hd hS.fits hS.rise hS.plain hS.led i hi ?_);cases hx:(gq w S ep es)[i]? with
 |none=>exact h2 hx
 |some e=>
  dsimp only[bC];refine aa (wpAny_setField_rec hI (by simp) λha Yn Ws=>?_)
  refine aa (wpAny_setField_rec Yn (by simp) λhb hbI LR=>?_)
  exact aj (h1 e hb hx hbI (Ws.trans LR))
theorem oR (w:cC) (S:cF) (ep:Nat) (es:Array (Int×cy)):(gq w S ep es).size=es.size:=by
 unfold gq;split
 ·have:=(zT (w.params.setOrder S ep) es).length_eq
  simpa using this
 ·rfl
theorem oQ.mono {h h':Heap}{S:cF}{es:Array (Int×cy)}{ep:Nat}{t:cE}(a:oQ w h S es ep t) (k:∀o,h.get? S=some o->h'.get? S=some o):oQ w h' S es ep t:=
 ⟨let ⟨o,h1,h2⟩:=a.at_;⟨o,k o h1,h2⟩,a.fits,a.rise,a.plain,a.led⟩
theorem HL (hh:A.handled=none) (I S:cF) (jZ:S≠I) (es:Array (Int×cy)) (ep:Nat) (t:cE):
  Walks prog w A I [I,S] [I] es.size (λi v=>∃e,(gq w S ep es)[i]? =some e/\v=e.2) (λi h=>h.get? I=some (xu (mi w t i:Nat) i S es.size ep)/\oQ w h S es ep t)where
 sub:=λb hb=>by simp at hb;simp[hb]
 frame:=λi h h' st hk=>⟨hk I (by simp) _ st.1,st.2.mono λo e=>hk S (by simp) o e⟩
 item:=λi s Q E hi st hQ=>by
  have hT:s.TypeIs (.ref I) "set_iterator":=⟨_,st.1,rfl⟩;unfold pyNext;refine aa (wpAny_attempt (wpAny_callSpecial?_slot (name:=Str.ofString "__next__") hT i9 (bO i9 hT sq ?_ (uc _))));refine Gk st.1 st.2 (bh hi) (λe h' hx Yo hs=>?_) λhn=>?_
  ·exact⟨_,rfl,aj (hQ e.2 h' s.toks ⟨e,hx,rfl⟩ ⟨Yo,st.2.mono λo e=>(hs.2 S jZ).trans e⟩ λb o hb e=>(hs.2 b (by simpa using hb)).trans e)⟩
  ·have:i<(gq w S ep es).size:=by rw[oR];exact hi
   rw[aV this]at hn;cases hn
 done:=λs Q E st hQ=>by
  have hT:s.TypeIs (.ref I) "set_iterator":=⟨_,st.1,rfl⟩;unfold pyNext;refine aa (wpAny_attempt (wpAny_callSpecial?_slot (name:=Str.ofString "__next__") hT i9 (bO i9 hT sq ?_ (uc _))));refine Gk st.1 st.2 (au _) (λe h' hx Yo hs=>?_) λhn=>?_
  ·have:¬ es.size<(gq w S ep es).size:=by rw[oR];omega
   rw[Array.getElem?_eq_none (by omega)]at hx;cases hx
  ·refine aa (wpAny_setField_rec st.1 (by simp) λha Yn Ws=>?_)
   refine aa ?_;simp only[newExc,newTuple];refine aa (bT ?_ (by size_fits))
   refine aa (m:=firstArgMember _ _) (wpAny_of_eq (a:=Value.none) (by first|rfl|(simp only[firstArgMember];rfl)) ?_)
   refine bT ?_ (by size_fits)
   simp only[raiseNew];refine aa (wpAny_handled ?_)
   first|rw[show A.in1.handled=none from hh]|rw[hh]
   refine aa (aj (wpAny_throw ?_));refine aa (wpAny_isInstance (T:="StopIteration") (b:=true) ⟨_,az _ rfl,rfl⟩ isSubtype_stop ?_);exact aj (hQ _ s.toks λb o hb e=>ag _ (ag _ ((Ws.2 b (by simpa using hb)).trans e)))
 self:=λi s Q E st hQ=>by
  have hT:s.TypeIs (.ref I) "set_iterator":=⟨_,st.1,rfl⟩;refine wpAny_pyIter_slot hT ud (bO ud hT yY ?_ (A7 _));show wpAny _ _ (ret (.ref I)) _ _ s;exact aj ⟨_,rfl,"set_iterator",_,hT,i9.lookup,hQ⟩
theorem KG {S:cF}{es:Array (Int×cy)}{ep:Nat}{t:cE}(hS:oQ w s.heap S es ep t) {Q:ck}
  (h:Q (.ref s.heap.objs.size) {s with heap:=s.heap.push (xu 0 0 S es.size ep)}):wpAny (model prog w) A (pyIter (.ref S)) Q E s:=by
 obtain⟨o,ho,hex,hd⟩:=hS.at_;have hT:s.TypeIs (.ref S) "set":=⟨o,ho,hex.1⟩;refine wpAny_pyIter_slot hT PySem.F.slot_set_iter (bO PySem.F.slot_set_iter hT xv ?_ (PySem.F.args_set_iter_1 _));unfold Builtin.«frozenset.__iter__» Builtin.Frozenset.slot0 slotArgs;simp only[List.isEmpty_nil,bV,aJ,↓reduceIte,bind_assoc,List.length_nil,bne_self_eq_false];unfold Builtin.Frozenset.addrOf Builtin.Frozenset.sizeOf;refine aa (aj ?_);try dsimp only
 refine aa (aj ?_);refine aa (aa (wpAny_setEntries_of ho hd hS.fits (aj ?_)));unfold setDrawn;refine aa (aa (wpAny_setState_of ho hd hS.fits ?_));dsimp only;unfold setsByText;refine aa (aa (wpAny_askSetting (aj ?_)));refine aj ?_;rw[if_neg (λhc=>by
  have h2:(!w.params.followText "set-order"&&(!t.plain&&decide (es.size>1)))=true:=hc;rw[hS.plain,bV,Bool.false_and,Bool.and_false]at h2;cases h2)]
 refine aa (aj ?_);refine aa (wpAny_setEpoch_of ho hd hS.fits ?_);exact aa (bT (aj ⟨_,rfl,"set_iterator",_,⟨_,az _ rfl,rfl⟩,i9.lookup,h⟩))
end
end ST
namespace ST
open PySem PySem.Spec PyProof.Rows DL SetTable
section
variable {prog:cB}{w:cC}{A:cD}{E:ck}{s:cz}
theorem QX {α:Type}{M:Model}{c:Prop} [Decidable c] {x y:Sem α}{Q:α->cz->Prop}(hc:c) (h:wpAny M A x Q E s):wpAny M A (if c then x else y) Q E s:=by rw[if_pos hc];exact h
theorem KH {S:cF}{es:Array (Int×cy)}{ep:Nat}{t:cE}(hS:oQ w s.heap S es ep t) {Q:Bool->cz->Prop}(h:Q false s):wpAny (model prog w) A (Builtin.List.listLengthHint (.ref S)) Q E s:=by
 obtain⟨o,ho,hex,hd⟩:=hS.at_;have hT:s.TypeIs (.ref S) "set":=⟨o,ho,hex.1⟩;unfold Builtin.List.listLengthHint;refine aa (wpAny_specialOf hT PySem.F.slot_set_len.lookup ?_);dsimp only;have LO:splitId "set.__len__"=some ("set","__len__"):=by decide +kernel
 rw[LO];dsimp only;refine aa (wpAny_isInstance hT sub_set_self ?_);simp only[bV,aJ,bF];refine QX (by decide +kernel) ?_
 refine aa (wpAny_typeOf hT ?_);exact aj h
theorem vy {S:cF}{es:Array (Int×cy)}{ep:Nat}{t:cE}{Q:cx->cz->Prop}(hh:A.handled=none) (hS:oQ w s.heap S es ep t) (hn:es.size<=1000)
  (hQ:∀h' tk acc,(∀b o,s.heap.get? b=some o->h'.get? b=some o)->acc=(gq w S ep es).toList.map (·.2)->s.heap.objs.size<h'.objs.size->Q acc {s with heap:=h',toks:=tk}):wpAny (model prog w) A (collect (.ref S)) Q E s:=by
 obtain⟨o,ho,hex,hd⟩:=hS.at_;have Nl:S<s.heap.objs.size:=aB ho;unfold collect;refine aa (wpAny_runValue (codeAny_builtin PySem.F.entry_proto_collect ?_));rw[bZ PySem.F.plain_proto_collect _];show wpAny _ A.in1 (newList []>>=λl=>again (.builtin "list.__iadd__" ⟨[l,.ref S],[]⟩)) _ _ s
 refine aa (bT ?_);refine aj ⟨plainId_quiet PySem.F.plain_list_iadd _,codeAny_builtin PySem.F.entry_list_iadd ?_⟩;rw[bZ PySem.F.plain_list_iadd _];generalize Wu:s.heap.push {cls:=.type "list",data:=.seq ([]:cx).toArray}=g1;have UZ:g1.objs.size=s.heap.objs.size+1:=by rw[<-Wu];exact Heap.size_push ..
 have k1:∀b o,s.heap.get? b=some o->g1.get? b=some o:=λb o e=>by rw[<-Wu];exact ag _ e
 have hL1:g1.get? s.heap.objs.size=some {cls:=.type "list",data:=.seq ([]:cx).toArray}:=by rw[<-Wu];exact az _ rfl
 have Yp:oQ w g1 S es ep t:=hS.mono λo e=>k1 _ _ e
 have hT1:Shared.TypeIs {s with heap:=g1} (.ref S) "set":=⟨o,k1 _ _ ho,hex.1⟩
 show wpAny _ A.in1 (Builtin.List.listExtendWith (.ref s.heap.objs.size) (.ref S) (.ref s.heap.objs.size)) _ _ {s with heap:=g1}
 unfold Builtin.List.listExtendWith;refine aa (wpAny_typeOf hT1 ?_);have h1:Builtin.List.listSameRef (.ref s.heap.objs.size) (.ref S)=false:=by simp[Builtin.List.listSameRef];exact bz Nl
 have h2:(Value.type "set"==Value.type "list")=false:=by decide
 have h3:(Value.type "set"==Value.type "tuple")=false:=by decide
 simp only[h1,h2,h3,Bool.or_false,aJ,bF];refine aa (KG (s:={s with heap:=g1}) Yp ?_)
 generalize Yq:g1.push (xu 0 0 S es.size ep)=g2;have k2:∀b o,g1.get? b=some o->g2.get? b=some o:=λb o e=>by rw[<-Yq];exact ag _ e
 have hI2:g2.get? g1.objs.size=some (xu 0 0 S es.size ep):=by rw[<-Yq];exact az _ rfl
 have UX:oQ w g2 S es ep t:=Yp.mono λo e=>k2 _ _ e
 refine aa (bp (KH (s:={s with heap:=g2}) UX ?_))
 show wpAny _ A.in1 (rule "list.extend.makes-room">>=λ_=>Builtin.List.listTouch (.ref s.heap.objs.size)>>=λ_=>
  again (.builtin "list.extend.loop" ⟨[.ref s.heap.objs.size,.ref g1.objs.size,.ref s.heap.objs.size],[]⟩)) _ _ {s with heap:=g2}
 refine aa (wpAny_rule ?_);refine aa ?_;show wpAny _ A.in1 (updateSeq s.heap.objs.size (·.push .none)>>=λ_=>updateSeq s.heap.objs.size (·.pop)) _ _ {s with heap:=g2}
 have Yr:=k2 _ _ hL1;refine aa (wpAny_updateSeq Yr rfl ?_);have Ys:=Heap.get?_update_self (Obj.mapSeq (·.push Value.none)) Yr rfl
 refine wpAny_updateSeq Ys rfl ?_;have Yt:=Heap.get?_update_self (Obj.mapSeq (·.pop)) Ys rfl
 generalize hh3:(g2.update s.heap.objs.size (Obj.mapSeq (·.push Value.none))).update s.heap.objs.size (Obj.mapSeq (·.pop))=g3 at Yt
 have Wv:∀b o,b≠s.heap.objs.size->g2.get? b=some o->g3.get? b=some o:=λb o hb e=>by
  rw[<-hh3];exact(bA _ _ (Ne.symm hb)).trans ((bA _ _ (Ne.symm hb)).trans e)
 have QW:S≠g1.objs.size:=by rw[UZ];exact aE (Nat.lt_succ_of_lt Nl)
 have W:=(HL (prog:=prog) (w:=w) (A:=A.in1) hh g1.objs.size S QW es ep t).toS;have hLf:s.heap.objs.size∉[g1.objs.size,S]:=by
  rw[UZ];simp only[List.mem_cons,bK,or_false,not_or];exact⟨aE (Nat.lt_succ_self _),bz Nl⟩
 have Wr:((mi w t 0:Nat):Int)=0:=by unfold mi EO;split<;>rfl
 refine aj ⟨plainId_quiet PySem.F.plain_extend_loop _,codeAny_extend_loopS W (aD hn (by decide)) _ hLf _ es.size 0 _ _ _ rfl (bN _) ⟨?_,?_⟩ Yt (ItemsOf.nil _) λs' ml c' hm U0 rW=>?_⟩
 ·show g3.get? g1.objs.size=some (xu (mi w t 0:Nat) 0 S es.size ep);rw[Wr];exact Wv _ _ (by rw[UZ];exact bz (Nat.lt_succ_self _)) hI2
 ·exact UX.mono λo e=>Wv _ _ (aE Nl) e
 ·obtain⟨h',g',d',Gi,Sk⟩:=s';have eg:g'=s.gens:=hm.gens;have ed:d'=s.drawn:=hm.drawn;have eo:Sk=s.os:=hm.os;subst eg ed eo;show wpAny _ A (load s.heap.objs.size>>=_) _ _ _;refine aa (wpAny_load U0 ?_);refine aj (hQ h' Gi ml.toList (λb o e=>?_) ?_ (aB U0))
  ·have hb:b<s.heap.objs.size:=aB e;refine hm.heap b o ?_ (Wv b o (aE hb) (k2 b o (k1 b o e)));simp only[List.mem_cons,bK,or_false,not_or];exact⟨aE hb,by rw[UZ];exact aE (Nat.lt_succ_of_lt hb)⟩
  ·refine List.ext_getElem? λj=>?_
   rw[av];have hsz:=rW.1;have hwz:=oR w S ep es;by_cases hj:j<es.size
   ·have Yu:j<ml.size:=by omega
    have VN:j<(gq w S ep es).size:=by omega
    obtain⟨e,he,hv⟩:=rW.2 j ml[j] (aV Yu);have UR:(gq w S ep es).toList[j]? =some e:=by simpa using he
    rw[UR];show ml.toList[j]? =some e.2;rw[<-hv];simp[Yu]
   ·have e1:ml.toList[j]? =none:=List.getElem?_eq_none (by rw[aO];omega)
    have e2:(gq w S ep es).toList[j]? =none:=List.getElem?_eq_none (by rw[aO];omega)
    rw[e1,e2];rfl
end
end ST
namespace ST
open PySem PySem.Spec PySem.W PyProof.Rows DL SetTable
section
variable {prog:cB}{w:cC}{A:cD}{E:ck}{s:cz}{h₀:Heap}{L:cF}{m:cm}{news:cn}{vs:cx}
theorem sortedS {S:cF}{es:Array (Int×cy)}{ep:Nat}{t:cE}{Q:ck}(F:Fr h₀ L s.heap m) (N:News h₀ L s.heap news) (hh:A.handled=none) (hS:oQ w s.heap S es ep t) (T7:vs=(gq w S ep es).toList.map (·.2)) (h2:2<=vs.length) (En:vs.length<64)
  (h:∀D e1 h' tk,Fr h₀ L h' m->News h₀ L h' ((D,seqObj "list" #[] e1)::news)->(∀q∈news,q.1<D)->s.heap.objs.size<=D->
   wpAny (model prog w) A.in1.in1 (keyKind' vs.toArray) (λκ s'=>(kas_sort vs.length).kasWp (kas_ask prog w A.in1.in1 κ vs) (λp Iy=>KasFin h₀ L m D e1 (p.toList.map λi=>vs.getD i Value.none) (λs3=>Q (.ref D) s3) Iy) s') (λ_ _=>False) {s with heap:=h',toks:=tk}):
  wpAny (model prog w) A (call (.builtin "sorted") [.ref S]) Q E s:=by
 have hlen:es.size=vs.length:=by rw[T7,ae,aO,oR]
 refine Calls.call_function_entry kind_sorted plain_sorted entry_sorted (args_sorted1 _) ?_;unfold Builtin.«sorted»;refine aa (m:=checkCount "sorted" 1 1 _) (aj ?_);refine aa (vy hh hS (by omega) λg tk acc keep rW hg=>?_)
 rw[<-T7]at rW;subst rW;refine aa (wpAny_newList ?_ (by rw[bx];omega))
 have Ft:(g.push (seqObj "list" acc.toArray 0)).get? g.objs.size=some (seqObj "list" acc.toArray 0):=az _ rfl;have jN:∀b o,s.heap.get? b=some o->(g.push (seqObj "list" acc.toArray 0)).get? b=some o:=λb o q=>ag _ (keep b o q)
 have hL:L<s.heap.objs.size:=F.ns.lt;refine aa (bp (bO slot_list_sort ⟨_,Ft,rfl⟩ entry_list_sort ?body (args_list_sort _)))
 case body=>
  refine kat_list_sort (s:={s with heap:=g.push (seqObj "list" acc.toArray 0),toks:=tk}) (F.kept jN) (N.grown jN) Ft (bz (bJ hL hg)) (Heap.get?_none_of_le (aD F.above (bh (bJ hL hg))))
   (λp hp=>aE (bJ (aB (N p hp).1) hg)) h2 En λe1 h' F' N'=>?_
  refine bR (h _ e1 h' tk F' N' (λq hq=>bJ (aB (N q hq).1) hg) (bh hg)) (λκ s' hk=>?_) λ_ _ x=>x
  rw[kat_ask_eq rfl]at hk ⊢;exact kas_wp_mono hk λp Iy yT=>yT.mono λs3 hq=>⟨_,rfl,aj ⟨_,rfl,hq⟩⟩
end
end ST
namespace ST
open PySem PySem.Spec PySem.W PyProof.Rows DL SetTable
def TI (h:Heap) (v:cy) (ns:cq):Prop:=∃(a:cF) (o:Obj) (ts:cx) (n:Nat),v=.ref a/\h.get? a=some o/\o.cls=.type "tuple"/\o.data=.seq ts.toArray n/\IntsAre ts ns
section
variable {prog:cB}{w:cC}{A:cD}{E:ck}{s:cz}
theorem Gn:∀(vs:cx) {Q:List (Option cy)->cz->Prop},(∀v∈vs,∃ns,TI s.heap v ns)->(∀fs:List (Option cy),fs.length=vs.length->(∀f∈fs,∀v,f=some v->∃i t,v=Value.int i t)->Q fs s)->wpAny (model prog w) A (vs.mapM firstOfTuple') Q E s
 |[],_,_,h=>by rw[List.mapM_nil];exact aj (h [] rfl λf hf=>by cases hf)
 |v::vs,Q,t,h=>by
  obtain⟨ns,a,o,ts,n,rfl,ho,hc,hd,hi⟩:=t v af;rw[List.mapM_cons];refine aa ?_;rw[kas_first_eq];refine aa (Looks.here (show Looks (model prog w) s.heap (typeOf (.ref a)) o.cls from(Looks.ld ho).andThen .now) ?_)
  rw[hc,if_neg (by first|decide|simp)]
  refine aa (listItems_at ho hd (aj ?_));refine aa (Gn vs (Q:=λbs s'=>wpAny (model prog w) A (pure (ts.toArray[0]? ::bs)) Q E s') (λv hv=>t v (ai _ hv)) λfs hl hf=>aj (h _ (by simp[hl]) λf hm v hv=>?_))
  rcases List.mem_cons.mp hm with rfl|hm
  ·cases hi with
   |nil=>simp at hv
   |cons i t r=>
    simp at hv;exact⟨i,t,hv.symm⟩
  ·exact hf f hm v hv
theorem Oy {vs:cx}{Q:SortKind->cz->Prop}(t:∀v∈vs,∃ns,TI s.heap v ns) (h:∀κ,(κ=tuples' true\/κ=tuples' false)\/κ=general'\/κ=oneType'->Q κ s):wpAny (model prog w) A (keyKind' vs.toArray) Q E s:=by
 rw[kat_kind_eq,List.mapM_toArray,map_eq_pure_bind];refine aa (aa (Gn vs t λfs hl hf=>aj ?_))
 split
 ·refine aa (wpAny_rule ?_);have hfm:∃l:cx,(fs.toArray.filterMap id)=l.toArray/\∀v∈l,∃i t,v=Value.int i t:=by
   refine⟨fs.filterMap id,by simp,λv hv=>?_⟩
   obtain⟨f,hm,he⟩:=List.mem_filterMap.mp hv;exact hf f hm v he
  obtain⟨l,e1,e2⟩:=hfm;rw[e1,oneTypeOnly'_eq,List.mapM_toArray,map_eq_pure_bind];refine aa (aa (aa (kas_mapM (r:=Value.type "int") _ (λv hv Q' hq=>?_) (aj ?_))))
  ·obtain⟨i,t',rfl⟩:=e2 v hv;exact aj hq
  ·have fin:∀b,Q (tuples' b) s:=λb=>by cases b<;>exact h _ (.inl (by first|exact .inl rfl|exact .inr rfl))
   split
   ·exact aj (aj (fin _))
   ·exact aj (aj (fin _))
 ·split
  ·exact aj (h _ (.inr (.inl rfl)))
  ·rw[oneTypeOnly'_eq,List.mapM_toArray,map_eq_pure_bind];refine aa (aa (aa (kas_mapM (r:=Value.type "tuple") _ (λv hv Q' hq=>?_) (aj ?_))))
   ·obtain⟨ns,a,o,ts,n,rfl,ho,hc,hd,hi⟩:=t v hv;have:=Looks.here (M:=model prog w) (A:=A) (E:=E) (show Looks (model prog w) s.heap (typeOf (.ref a)) o.cls from(Looks.ld ho).andThen .now) (Q:=Q')
    rw[hc]at this;exact this hq
   ·split
    ·refine aj (aj ?_);split
     ·exact h _ (.inr (.inr rfl))
     ·exact h _ (.inr (.inl rfl))
    ·exact aj (aj (h _ (.inr (.inl rfl))))
theorem T8 {x y:cy}{ns ms:cq}{κ:SortKind}{Q:Bool->cz->Prop}(hx:TI s.heap x ns) (hy:TI s.heap y ms) (hu:A.units+8<cLine) (hκ:(κ=tuples' true\/κ=tuples' false)\/κ=general'\/κ=oneType') (h:Q (HT.lexLt ns ms) s):
  wpAny (model prog w) A (keyLt' κ x y) Q E s:=by
 obtain⟨a,o,ts,n,rfl,ho,hc,hd,hi⟩:=hx;obtain⟨a',o',Ta,n',rfl,sI,uG,NQ,zM⟩:=hy;have t1:IsTup s.heap a ts.toArray:=⟨o,ho,hc,n,hd⟩;have t2:IsTup s.heap a' Ta.toArray:=⟨o',sI,uG,n',NQ⟩;rcases hκ with hκ|rfl|rfl
 ·have key:∀b,wpAny (model prog w) A (keyLt' (tuples' b) (.ref a) (.ref a')) Q (λ_ _=>False) s:=λb=>by
   refine W.kat_lt ho hd sI NQ ?_;have s1:ts.toArray.size=ns.length:=by rw[aq,hi.length]
   have s2:Ta.toArray.size=ms.length:=by rw[aq,zM.length]
   refine L2.qw _ _ ns ms 0 _ (by simpa using hi) (by simpa using zM) (.inr trivial) ?_ h
   rw[s1,s2];by_cases h:ns.length<ms.length
   ·rw[if_pos h];exact aS h
   ·rw[if_neg h];exact aH h
  rcases hκ with rfl|rfl
  ·exact bR (key true) (λ_ _ x=>x) λ_ _ x=>x.elim
  ·exact bR (key false) (λ_ _ x=>x) λ_ _ x=>x.elim
 ·show wpAny (model prog w) A (oneLt' false (.ref a) (.ref a')) Q E s;refine kat_one _ _ (HT.D1 t1 t2 (by simpa using hi) (by simpa using zM) (by omega) ?_)
  exact h
 ·rw[keyLt'_oneType,oneLt'_eq];simp only[if_true];refine aa (wpAny_cRoomFor (by omega) ?_)
  obtain⟨⟨cls,dd,data,sl⟩,vp,Yv,n1,Yw⟩:=t1;obtain⟨⟨Pk,LP,data2,Jf⟩,vN,vk,n2,hd2⟩:=t2;simp only at Yv Yw vk hd2;subst Yv Yw vk hd2;refine aa (wpAny_callSpecialIfBound?_slot ⟨_,vp,rfl⟩ PySem.F.slot_tuple_lt ?_);refine call_meets PySem.F.slot_tuple_lt ⟨_,vp,rfl⟩ PySem.F.entry_tuple_lt (PySem.F.args_tuple_lt_2 _ _) (HT.se a a' ts.toArray Ta.toArray n1 n2 dd LP sl Jf ns ms (by simpa using hi) (by simpa using zM)) ⟨vp,vN,?_⟩
  exact bS h
end
end ST
namespace ST
open PySem PySem.Spec PySem.W PyProof.Rows DL SetTable L2
section
variable {prog:cB}{w:cC}{A:cD}{E:ck}{s:cz}
theorem ET {T:Heap}{a:cF}{vs:cx}{tk:Nat}{Q:ck}(o1:T.get? a=some (seqObj "list" vs.toArray 0)) (h2:vs.length<2)
  (h:∀h' c,h'.get? a=some (seqObj "list" vs.toArray c)->(∀b o,b≠a->T.get? b=some o->h'.get? b=some o)->Q .none {s with heap:=h',toks:=tk}):
  wpAny (model prog w) A (call (.builtin "list.sort") [.ref a]) Q E {s with heap:=T,toks:=tk}:=by
 have ha:a<T.objs.size:=aB o1;refine bO slot_list_sort ⟨_,o1,rfl⟩ entry_list_sort ?_ (args_list_sort _);rw[list_sort_plain];refine aa (listItems_at o1 rfl (aa (listUpdate_at o1 rfl ?_ (hsz:=by rw[aq,bx];omega))))
 obtain⟨e1,vp⟩:∃e1,(T.update a (Obj.mapSeq λ_=>#[])).get? a=some (seqObj "list" #[] e1):=⟨_,get?_update_seq o1 (λ_=>#[])⟩
 refine aa (seqEpoch_at vp rfl (aa (wpAny_newTuple (aa (wpAny_newList (bp ?_))) (by show vs.length<=_;rw[bx];omega))))
 have Qs:(((T.update a (Obj.mapSeq λ_=>#[])).push (seqObj "tuple" vs.toArray 0)).push (seqObj "list" #[] 0)).get? a=some (seqObj "list" #[] e1):=ag _ (ag _ vp)
 have Yx:∀b o,b≠a->T.get? b=some o->(((T.update a (Obj.mapSeq λ_=>#[])).push (seqObj "tuple" vs.toArray 0)).push (seqObj "list" #[] 0)).get? b=some o:=λb o hb e=>ag _ (ag _ ((bA _ _ (Ne.symm hb)).trans e))
 show wpAny (model prog w) _ _ _ _ {s with heap:=((T.update a (Obj.mapSeq λ_=>#[])).push (seqObj "tuple" vs.toArray 0)).push (seqObj "list" #[] 0),toks:=tk}
 generalize ((T.update a (Obj.mapSeq λ_=>#[])).push (seqObj "tuple" vs.toArray 0)).push (seqObj "list" #[] 0)=U at Qs Yx
 dsimp only;have hsz:vs.toArray.size<2:=by rw[aq];exact h2
 rw[if_pos hsz,if_pos hsz];refine aa (aj ?_);rw[StateT.run_pure];refine aa (aj ?_);dsimp only;have Eo:(vs.toArray.zip vs.toArray).map (·.2)=vs.toArray:=by
  apply Array.toList_inj.mp
  rw[Array.toList_map,Array.toList_zip];exact wY vs
 rw[show(arrOf (SortSt.mk' general' (vs.toArray.zip vs.toArray) #[] 7 none))=vs.toArray.zip vs.toArray from rfl]at *
 refine aa (seqEpoch_at Qs rfl (aa (listUpdate_at Qs rfl ?_ (hsz2:=by rw[Eo,aq,bx];omega))))
 rw[Eo];simp only[bne_self_eq_false,aJ,bF];obtain⟨c,hc⟩:∃c,(U.update a (Obj.mapSeq λ_=>vs.toArray)).get? a=some (seqObj "list" vs.toArray c):=⟨_,get?_update_seq Qs (λ_=>vs.toArray)⟩
 exact aj ⟨_,rfl,h _ c hc λb o hb e=>(bA _ _ (Ne.symm hb)).trans (Yx b o hb e)⟩
theorem yZ {S:cF}{es:Array (Int×cy)}{ep:Nat}{t:cE}{vs:cx}{Q:ck}(hh:A.handled=none) (hS:oQ w s.heap S es ep t) (T7:vs=(gq w S ep es).toList.map (·.2)) (h2:vs.length<2)
  (h:∀D h' c tk,h'.get? D=some (seqObj "list" vs.toArray c)->s.heap.objs.size<=D->(∀b o,s.heap.get? b=some o->h'.get? b=some o)->Q (.ref D) {s with heap:=h',toks:=tk}):
  wpAny (model prog w) A (call (.builtin "sorted") [.ref S]) Q E s:=by
 have hlen:es.size=vs.length:=by rw[T7,ae,aO,oR]
 refine Calls.call_function_entry kind_sorted plain_sorted entry_sorted (args_sorted1 _) ?_;unfold Builtin.«sorted»;refine aa (m:=checkCount "sorted" 1 1 _) (aj ?_);refine aa (vy hh hS (by omega) λg tk acc keep rW hg=>?_)
 rw[<-T7]at rW;subst rW;refine aa (wpAny_newList ?_ (by rw[bx];omega))
 have Ft:(g.push (seqObj "list" acc.toArray 0)).get? g.objs.size=some (seqObj "list" acc.toArray 0):=az _ rfl;refine aa (bp (ET (s:=s) (T:=g.push (seqObj "list" acc.toArray 0)) (tk:=tk) Ft h2 λh' c hD kp=>?_))
 refine aj ⟨_,rfl,h _ h' c tk hD (bh hg) λb o e=>kp b o ?_ (ag _ (keep b o e))⟩
 exact aE (bJ (aB e) hg)
end
end ST
namespace ST
open PySem PySem.Spec PySem.W PyProof.Rows DL SetTable L2
theorem Cq {α β:Type}{R:α->cy->β->Prop}:∀(vs:cx),(∀v∈vs,∃a b,R a v b)->∃l:List (α×cy×β),vs=l.map (·.2.1)/\∀p∈l,R p.1 p.2.1 p.2.2
 |[],_=>⟨[],rfl,λp hp=>by cases hp⟩
 |v::vs,h=>by
  obtain⟨a,b,r⟩:=h v af;obtain⟨l,e,hl⟩:=Cq vs λx hx=>h x (ai _ hx)
  refine⟨(a,v,b)::l,by rw[e];rfl,λp hp=>?_⟩
  rcases List.mem_cons.mp hp with rfl|hp
  ·exact r
  ·exact hl p hp
theorem Cr {h:Heap}:∀{ts:cx}{ns:cq},IntsAre ts ns->sP h ts (ns.map D.int)
 |_,_,.nil=>.nil
 |_,_,.cons n t r=>.cons (.int n t) (Cr r)
theorem TI.ki {h:Heap}{v:cy}{ns:cq}(t:TI h v ns):KI h v (.tup (ns.map D.int)):=by
 obtain⟨a,o,ts,n,rfl,ho,hc,hd,hi⟩:=t;exact .tup ho hc hd (by simpa using Cr hi)
instance:Nonempty D:=⟨.eD⟩
def keyOf (h:Heap) (v:cy):D:=Classical.epsilon (KI h v)
theorem Ct {h:Heap}{v:cy}{d:D}(k:KI h v d):keyOf h v=d:=(Classical.epsilon_spec (p:=KI h v) ⟨d,k⟩).inj k
theorem EI.keys {P:cy->Prop}{h:Heap}{es:List (Int×cy)}{ds:cw}(e:EI P h es ds):ds=es.map λx=>keyOf h x.2:=by
 refine List.ext_getElem? λi=>?_
 rw[av];cases hx:es[i]? with
 |none=>
  have:es.length<=i:=List.getElem?_eq_none_iff.mp hx;rw[List.getElem?_eq_none (by rw[<-e.1];exact this)];rfl
 |some x=>
  obtain⟨d,h1,h2⟩:=e.2 i x hx;rw[h1];exact congrArg some (Ct h2.ki).symm
section
variable {X:Cx}
theorem HM {P:cy->Prop}{R0:cF->cq->Prop}{pins:cn}{σ:L2.St}{H:Hp}{s:cz}(I:Inv X pins σ H s) {S:cF}{ds:cw}{es:Array (Int×cy)}{ep:Nat}(hE:EI P s.heap es.toList ds)
  (Ww:∀v,P v->∃(b:cF) (ns:cq),v=.ref b/\jr X.K H b (ns.map V.int)/\R0 b ns):
  ∃l:List (cF×cq),(gq X.w S ep es).toList.map (·.2)=l.map (λp=>Value.ref p.1)/\(∀p∈l,(jr X.K H p.1 (p.2.map V.int)/\R0 p.1 p.2)/\TI s.heap (.ref p.1) p.2)/\(l.map λp=>D.tup (p.2.map D.int)).Perm ds:=by
 have xt:(gq X.w S ep es).toList.Perm es.toList:=by
  unfold gq;split
  ·exact zT _ es
  ·exact List.Perm.refl _
 obtain⟨l,e1,e2⟩:=Cq (R:=λ(b:cF) v (ns:cq)=>v=.ref b/\(jr X.K H b (ns.map V.int)/\R0 b ns)/\TI s.heap v ns) ((gq X.w S ep es).toList.map (·.2)) λv hv=>by
  obtain⟨e,he,rfl⟩:=List.mem_map.mp hv;obtain⟨i,hi⟩:=bq (xt.mem_iff.mp he);obtain⟨d,_,h2⟩:=hE.2 i e hi;obtain⟨b,ns,h3,h4,h40⟩:=Ww _ h2.src;obtain⟨ts,r2,⟨o,ho,hc,n,hd⟩,_⟩:=I.tuple h4;exact⟨b,ns,h3,⟨h4,h40⟩,b,o,ts,n,h3,ho,hc,hd,intsAre_of r2⟩
 refine⟨l.map λp=>(p.1,p.2.2),?_,λp hp=>?_,?_⟩
 ·rw[e1,aW];exact bU λp hp=>(e2 p hp).1
 ·obtain⟨q,hq,rfl⟩:=List.mem_map.mp hp;obtain⟨a1,a2,a3⟩:=e2 q hq;exact⟨a2,by rw[<-a1];exact a3⟩
 ·have h5:(((gq X.w S ep es).toList.map (·.2)).map (keyOf s.heap)).Perm ds:=by
   rw[aW,hE.keys];exact xt.map _
  rw[e1,aW]at h5;rw[aW];have h6:(l.map ((keyOf s.heap)∘λp=>p.2.1))=l.map ((λp:cF×cq=>D.tup (p.2.map D.int))∘λp=>(p.1,p.2.2)):=bU λp hp=>Ct (e2 p hp).2.2.ki
  rw[<-h6];exact h5
theorem EU {P:cy->Prop}{R0:cF->cq->Prop}{pins:cn}{σ:L2.St}{H:Hp}{s:cz}(hc:X.calm=true) (hu:X.A.units+64<cLine) (I:Inv X pins σ H s) {S:cF}{ds:cw}(n5:vR P (!X.w.params.followText "set-order") s.heap S ds) (hn:ds.length<64)
  (Ww:∀v,P v->∃(b:cF) (ns:cq),v=.ref b/\jr X.K H b (ns.map V.int)/\R0 b ns) {Q:VK}
  (q:∀(D0:cF) (l:List (cF×cq)),H D0=none->(∀p∈l,R0 p.1 p.2)->(l.map (·.2)).Pairwise (λa b=>HT.lexLt b a=false)->(l.map λp=>D.tup (p.2.map D.int)).Perm ds->Q (.ref D0) (upd H D0 (.lst (l.map λp=>V.ref p.1)))):
  wpAny (model X.prog X.w) X.A (call (.builtin "sorted") [.ref S]) (EP X pins σ Q) X.xe s:=by
 obtain⟨o,es,ep,t,ho,hex,hd,W,hE,_,jX,TQ⟩:=n5.ex;have Yy:oQ X.w s.heap S es ep t:=⟨⟨o,ho,hex,hd⟩,W.fits,W.tb.rise,jX,TQ⟩;obtain⟨l,e1,e2,e3⟩:=HM (S:=S) (ep:=ep) I hE Ww;have hlen:l.length=ds.length:=by have:=e3.length_eq;rwa [ae]at this
 have hh:X.A.handled=none:=I.ok.hd hc;by_cases h2:2<=l.length
 ·obtain⟨m,F⟩:=I.fr;have N:News X.base X.env.locals s.heap (j0 X.base s.heap X.env.locals):=wC;have Wx:(l.map λp=>Value.ref p.1).length=l.length:=by rw[ae]
  refine sortedS (vs:=l.map λp=>Value.ref p.1) F N hh Yy e1.symm (by omega) (by omega) λD0 e0 h' tk F' N' fQ yC=>?_
  have D7:s.heap.get? D0=none:=Heap.get?_none_of_le yC;have vq:∀{h':Heap}{o1:Obj},Fr X.base X.env.locals h' m->News X.base X.env.locals h' ((D0,o1)::j0 X.base s.heap X.env.locals)->∀b o,b≠X.env.locals->s.heap.get? b=some o->h'.get? b=some o:=λ{h' o1} F' N' b o hb e=>by
   cases g:X.base.get? b with
   |some u=>
    have:=I.bk b u g;rw[e]at this;cases this;exact F'.keep b _ g
   |none=>exact(N' (b,o) (.tail _ (nL hb g e))).1
  have sj:=vq F' N';have QY:∀p∈l,TI h' (.ref p.1) p.2:=λp hp=>by
   obtain⟨a,o,ts,n,ea,ho,hc,hd,hi⟩:=(e2 p hp).2;cases ea;refine⟨_,o,ts,n,rfl,sj _ o (λz=>?_) ho,hc,hd,hi⟩
   obtain⟨oL,es,ep,hL,S8,_⟩:=F.ns;rw[z,hL]at ho;cases ho;rw[S8]at hd;cases hd
  refine Oy (s:={s with heap:=h',toks:=tk}) (λv hv=>?_) λκ hκ=>?_
  ·obtain⟨p,hp,rfl⟩:=List.mem_map.mp hv;exact⟨p.2,QY p hp⟩
  rw[Wx];have lu:∀i,i<l.length->(l.map λp=>Value.ref p.1).getD i Value.none=.ref (l.getD i (0,[])).1/\l.getD i (0,[])∈l:=λi hi=>by
   rw[ak,av,ak,ah hi];exact⟨rfl,List.getElem_mem hi⟩
  have cmp:∀i j (R:Bool->cz->Prop),i<l.length->j<l.length->R (HT.lexLt ((l.map (·.2)).getD i []) ((l.map (·.2)).getD j [])) {s with heap:=h',toks:=tk}->kas_ask X.prog X.w X.A.in1.in1 κ (l.map λp=>Value.ref p.1) i j R {s with heap:=h',toks:=tk}:=λi j R hi hj hR=>by
   show wpAny _ _ (keyLt' _ ((l.map λp=>Value.ref p.1).getD i Value.none) ((l.map λp=>Value.ref p.1).getD j Value.none)) _ _ _
   rw[(lu i hi).1,(lu j hj).1];have g:∀k,k<l.length->(l.map (·.2)).getD k []=(l.getD k (0,[])).2:=λk hk=>by
    rw[ak,av,ak,ah hk];rfl
   rw[g i hi,g j hj]at hR;exact T8 (QY _ (lu i hi).2) (QY _ (lu j hj).2) (by show X.A.units+1+1+8<cLine;omega) hκ hR
  refine So.rn (n:=l.length) cmp _ (So.wX (by omega)) ?_
  obtain⟨s1,s2⟩:=So.wV (lt:=λi j=>HT.lexLt ((l.map (·.2)).getD i []) ((l.map (·.2)).getD j [])) (rank:=λi=>rq (l.map (·.2)) ((l.map (·.2)).getD i [])) (λi j=>kN (lQ _ _) (lQ _ _)) l.length (by omega)
  generalize So.i6 _ (kas_sort l.length)=ar at s1 s2;have pm:ar.toList.Perm (List.range l.length):=by simpa using Array.perm_iff_toList_perm.mp s1
  have sz:ar.size=l.length:=by simpa using s1.size_eq
  have below:∀i∈ar.toList,i<l.length:=λi hi=>by simpa using pm.mem_iff.mp hi
  generalize jk:(ar.toList.map λi=>l.getD i (0,[]))=l'
  have lp:l'.Perm l:=by
   rw[<-jk];have:=pm.map λi=>l.getD i (0,[])
   have e:(List.range l.length).map (λi=>l.getD i (0,[]))=l:=mQ l (0,[])
   rw[e]at this;exact this
  have outs:(ar.toList.map λi=>(l.map λp=>Value.ref p.1).getD i Value.none)=l'.map λp=>Value.ref p.1:=by
   rw[<-jk,aW];exact bU λi hi=>(lu i (below i hi)).1
  rw[outs];refine⟨_,_,F',N',.head λp hp=>aE (fQ p hp),λh2 c F2 N2=>?_⟩
  have hD:H D0=none:=I.fX.fresh yC;have jN:=vq F2 N2;have Tc:h2.get? D0=some {cls:=.type "list",data:=.seq (l'.map λp=>Value.ref p.1).toArray c}:=(N2 _ (.head _)).1
  refine⟨.ref D0,upd H D0 (.lst (l'.map λp=>V.ref p.1)),?_,rfl,q D0 l' hD (λp hp=>(e2 p (lp.mem_iff.mp hp)).1.2) ?_ ((lp.map _).trans e3)⟩
  ·show Inv X pins σ _ {s with heap:=h2,gens:=s.gens,drawn:=s.drawn,toks:=tk}
   refine I.step (g':=s.gens) (d':=s.drawn) (t':=tk) (ch:=[]) (λ_ z=>nomatch z) (λb o h1 _ _ e _=>jN b o h1 e) (λb o h1 _ _ e _=>⟨o.slots,jN b o h1 e⟩) (λb o _ e hn=>?_) (λb o _ e=>?_) (λb xs e=>?_) (λb o xs e=>?_) (λb ps e=>⟨#[],?_⟩) (λm' hm=>?_) (λb u e=>?_) I.bare
   ·rw[cV (λz=>by rw[z,D7]at e;cases e)];exact hn
   ·by_cases hb:b=X.env.locals
    ·obtain⟨o',_,_,e',_⟩:=F2.ns;exact⟨o',by rw[hb];exact e'⟩
    ·exact⟨o,jN b o hb e⟩
   ·rw[cV (cY e hD)];exact e
   ·rw[cV (cY e hD)];exact e
   ·rw[cV (cY e hD),e];simp
   ·rw[Em hm F.ns];exact F2.ns
   ·by_cases hb:b=D0
    ·subst hb;rw[dc]at e;cases e;refine⟨by rw[ae,lp.length_eq];exact bh (kM (by omega)),_,c,?_,Tc⟩
     have aux:∀k:List (cF×cq),Vals (k.map λp=>V.ref p.1) (k.map λp=>Value.ref p.1):=λk=>by
      induction k with
      |nil=>exact .nil
      |cons p k ih=>exact .cons rfl ih
     exact aux l'
    ·rw[cV hb]at e;refine(I.fX b u e).An (λk v hk z=>jN k v ?_ z) (λk z=>by rw[cV (cY z hD)];exact z) λk xs z=>by rw[cV (cY z hD)];exact z
     rcases hk with rfl|hk
     ·intro z;rw[z,I.free]at e;cases e
     ·intro z;rw[z,I.free]at hk;cases hk
  ·rw[<-jk,aW,List.pairwise_map,List.pairwise_iff_getElem];intro i j hi hj wM;have zM:i<ar.size:=by simpa using hi
   have IB:j<ar.size:=by simpa using hj
   have le:=s2 i j (bh wM) (by omega)
   unfold So.kk at le;rw[aU,aU,aV zM,aV IB]at le;simp only[Option.getD_some]at le;have g:∀k,k<l.length->(l.map (·.2)).getD k []=(l.getD k (0,[])).2:=λk hk=>by
    rw[ak,av,ak,ah hk];rfl
   have bi:ar[i]<l.length:=below _ (by simp)
   have bj:ar[j]<l.length:=below _ (by simp)
   have e:=kN (nss:=l.map (·.2)) (a:=(l.map (·.2)).getD (ar[j]) []) (b:=(l.map (·.2)).getD (ar[i]) []) (lQ _ _) (lQ _ _)
   simp only[Array.getElem_toList,Function.comp_apply];rw[<-g _ bi,<-g _ bj,e];exact aH (by omega)
 ·refine yZ (vs:=l.map λp=>Value.ref p.1) hh Yy e1.symm (by rw[ae];omega) λD0 h' c tk hD yC keep=>?_
  have BW:H D0=none:=I.fX.fresh yC;refine⟨.ref D0,_,I.laid (t':=tk) (o:=.lst (l.map λp=>V.ref p.1)) keep yC ⟨by rw[ae];exact aD (by omega:l.length<=100) (by decide),_,c,?_,hD⟩,rfl,q D0 l BW (λp hp=>(e2 p hp).1.2) ?_ e3⟩
  ·clear e1 e2 e3 hlen h2 hD;induction l with
   |nil=>exact .nil
   |cons p l ih=>exact .cons rfl ih
  ·match l,h2 with
   |[],_=>exact List.Pairwise.nil
   |[p],_=>simp
   |_::_::_,h2=>exact absurd (by simp) h2
end
end ST
namespace L2
open PySem PySem.Spec PyProof.Rows
section
variable {κ:Type} [DecidableEq κ]
def r6 (kvs:List (κ×V)) (k:κ):Option V:=(kvs.find? λkv=>decide (kv.1=k)).map (·.2)
def putK (kvs:List (κ×V)) (k:κ) (v:V):List (κ×V):=
 if(kvs.any λkv=>decide (kv.1=k))=true then kvs.map (λkv=>if kv.1=k then(kv.1,v)else kv)else kvs++[(k,v)]
theorem qD {p:κ×V}{r:List (κ×V)}{k:κ}(e:p.1=k):r6 (p::r) k=some p.2:=by simp[r6,List.find?_cons,e]
theorem qE {p:κ×V}{r:List (κ×V)}{k:κ}(e:¬ p.1=k):r6 (p::r) k=r6 r k:=by simp[r6,List.find?_cons,e]
theorem Cu (k:κ):∀kvs:List (κ×V),(kvs.any λkv=>decide (kv.1=k))=(r6 kvs k).isSome
 |[]=>rfl
 |p::r=>by
  rw[bH];by_cases e:p.1=k
  ·simp only[qD e,aS e,Bool.true_or,Option.isSome_some]
  ·rw[qE e,aH e,Bool.false_or];exact Cu k r
theorem vz (kvs:List (κ×V)) (k:κ) (v:V):(putK kvs k v).length<=kvs.length+1:=by
 unfold putK;split
 ·rw[ae];omega
 ·rw[aR,ax,List.length_nil];omega
theorem qh.HN {o:Option V}{u:Option cy}(r:qh o u):o.isSome=u.isSome:=by
 cases o with
 |none=>cases u with
  |none=>rfl
  |some _=>exact(show False from r).elim
 |some _=>cases u with
  |none=>exact(show False from r).elim
  |some _=>rfl
theorem qh.getD {o:Option V}{u:Option cy}{d:V}{d':cy}(r:qh o u) (rd:RelV d d'):RelV (o.getD d) (u.getD d'):=by
 cases o with
 |none=>cases u with
  |none=>exact rd
  |some _=>exact(show False from r).elim
 |some _=>cases u with
  |none=>exact(show False from r).elim
  |some _=>exact r
theorem KV.val {kvs:List (κ×V)}{vs:List (κ×cy)}(r:KV kvs vs) (k:κ):qh (r6 kvs k) (valueAt vs k):=by
 unfold KV at r;induction r with
 |nil=>exact True.intro
 |@cons p q ps qs h t ih=>
  obtain⟨h1,h2⟩:=h;by_cases e:p.1=k
  ·have e':q.1=k:=h1.symm.trans e;have b:valueAt (q::qs) k=some q.2:=by simp[valueAt,List.find?_cons,e']
   rw[qD e,b];exact h2
  ·have e':¬ q.1=k:=λz=>e (h1.trans z)
   have b:valueAt (q::qs) k=valueAt qs k:=by simp[valueAt,List.find?_cons,e']
   rw[qE e,b];exact ih
theorem KV.any {kvs:List (κ×V)}{vs:List (κ×cy)}(r:KV kvs vs) (k:κ):(kvs.any λkv=>decide (kv.1=k))=vs.any λkv=>decide (kv.1=k):=by
 unfold KV at r;induction r with
 |nil=>rfl
 |cons h t ih=>rw[bH,bH,ih,h.1]
theorem KV.QZ {kvs:List (κ×V)}{vs:List (κ×cy)}(r:KV kvs vs) (k:κ) {y:V}{u:cy}(ry:RelV y u):
  KV (kvs.map λkv=>if kv.1=k then(kv.1,y)else kv) (vs.map λkv=>if kv.1=k then(kv.1,u)else kv):=by
 unfold KV at r ⊢;induction r with
 |nil=>exact .nil
 |@cons p q ps qs h t ih=>
  rw[aF,aF];refine .cons ?_ ih;obtain⟨h1,h2⟩:=h;by_cases e:p.1=k
  ·rw[if_pos e,if_pos (h1.symm.trans e)];exact⟨h1,ry⟩
  ·rw[if_neg e,if_neg (λz=>e (h1.trans z))];exact⟨h1,h2⟩
theorem KV.put {kvs:List (κ×V)}{vs:List (κ×cy)}(r:KV kvs vs) (k:κ) {y:V}{u:cy}(ry:RelV y u):KV (putK kvs k y) (stored vs k u):=by
 unfold putK stored;rw[r.any k];by_cases e:(vs.any λkv=>decide (kv.1=k))=true
 ·rw[if_pos e,if_pos e];exact r.QZ k ry
 ·rw[if_neg e,if_neg e];exact Paired.snoc r ⟨rfl,ry⟩
theorem KV.keys {kvs:List (κ×V)}{vs:List (κ×cy)}(r:KV kvs vs):kvs.map (·.1)=vs.map (·.1):=by
 unfold KV at r;induction r with
 |nil=>rfl
 |cons h t ih=>rw[aF,aF,ih,h.1]
theorem KV.length {kvs:List (κ×V)}{vs:List (κ×cy)}(r:KV kvs vs):kvs.length=vs.length:=Paired.length r
end
theorem Gp {P:cB}{w:cC}{k:Key}{u:cy}(r:RelV (kV k) u):(fy P w).is k u=true:=by
 cases k with
 |inl i=>obtain⟨t,e⟩:=(show ∃t,u=Value.int i t from r);subst e;exact BI P w i t
 |inr x=>obtain⟨t,e⟩:=(show ∃t,u=Value.str x t from r);subst e;exact BJ P w x t
theorem zU {P:cB}{w:cC}:∀{ks:List Key}{us:cx},Vals (ks.map kV) us->ItemsAre (fy P w) ks us
 |[],_,r=>by rw[List.map_nil]at r;cases r;exact .nil
 |k::ks,_,r=>by
  rw[aF]at r;cases r with
  |cons h t=>exact .cons (Gp h) (zU t)
abbrev KT (H:Hp):List (List Key×V)->List (List Key×cF×cy)->Prop:=Paired λp q=>p.1=q.1/\H q.2.1=some (.tup (p.1.map kV))/\RelV p.2 q.2.2
theorem KT.val {H:Hp}{kvs:List (List Key×V)}{xs:List (List Key×cF×cy)}(r:KT H kvs xs) (k:List Key):qh (r6 kvs k) ((atKey xs k).map (·.2)):=by
 induction r with
 |nil=>exact True.intro
 |@cons p q ps qs h t ih=>
  obtain⟨h1,_,h2⟩:=h;by_cases e:p.1=k
  ·have e':q.1=k:=h1.symm.trans e;have b:atKey (q::qs) k=some q.2:=by simp[atKey,List.find?_cons,e']
   rw[qD e,b];exact h2
  ·have e':¬ q.1=k:=λz=>e (h1.trans z)
   have b:atKey (q::qs) k=atKey qs k:=by simp[atKey,List.find?_cons,e']
   rw[qE e,b];exact ih
theorem KT.QZ {H:Hp}{kvs:List (List Key×V)}{xs:List (List Key×cF×cy)}(r:KT H kvs xs) (k:List Key) {y:V}{u:cy}(ry:RelV y u):
  KT H (kvs.map λkv=>if kv.1=k then(kv.1,y)else kv) (xs.map (putAt k u)):=by
 induction r with
 |nil=>exact .nil
 |@cons p q ps qs h t ih=>
  rw[aF,aF];refine .cons ?_ ih;obtain⟨h1,h2,h3⟩:=h;unfold putAt;by_cases e:p.1=k
  ·rw[if_pos e,if_pos (h1.symm.trans e)];exact⟨h1,h2,ry⟩
  ·rw[if_neg e,if_neg (λz=>e (h1.trans z))];exact⟨h1,h2,h3⟩
theorem KT.put {H:Hp}{kvs:List (List Key×V)}{xs:List (List Key×cF×cy)}(r:KT H kvs xs) (k:List Key) {b:cF}{y:V}{u:cy}(hb:H b=some (.tup (k.map kV))) (ry:RelV y u):
  KT H (putK kvs k y) (storedH xs k b u):=by
 have e:(kvs.any λkv=>decide (kv.1=k))=(atKey xs k).isSome:=by
  rw[Cu,(r.val k).HN,Option.isSome_map]
 unfold putK storedH;rw[e];by_cases q:(atKey xs k).isSome=true
 ·rw[if_pos q,if_pos q];exact r.QZ k ry
 ·rw[if_neg q,if_neg q];exact Paired.snoc r ⟨rfl,hb,ry⟩
theorem KT.keeps {H H':Hp}{kvs:List (List Key×V)}{xs:List (List Key×cF×cy)}(r:KT H kvs xs) (ht:∀b ys,H b=some (.tup ys)->H' b=some (.tup ys)):KT H' kvs xs:=
 Paired.OP r λ_ _ z=>⟨z.1,ht _ _ z.2.1,z.2.2⟩
section
variable {P:cB}{w:cC}{H:Hp}{h:Heap}{a:cF}
theorem Oz {u:HO}(ok:sd P w H h) (e:Rd H a u):gF P w H h a u:=e.ok ok
theorem KJ {kvs:List (Key×V)}(ok:sd P w H h) (e:Rd H a (.dK kvs)):kvs.length<=sizeLine/\(a==sysModules)=false/\∃vs,KV kvs vs/\h.DictOf (fy P w) a vs:=
 show gF P w H h a (.dK kvs)from Oz ok e
theorem OA {kvs:List (Key×V)}(ok:sd P w H h) (e:H a=some (.dK kvs)):kvs.length<=sizeLine/\(a==sysModules)=false/\∃vs,KV kvs vs/\h.DictOf (fy P w) a vs:=KJ ok (.inl e)
theorem EV {ks:List Key}(ok:sd P w H h) (e:H a=some (.tup (ks.map kV))):(tupleKind (fy P w)).is h ks a:=by
 obtain⟨_,dF,r,o,h1,h2,n,h3⟩:=(show gF P w H h a (.tup (ks.map kV))from ok a _ e)
 exact⟨o,dF.toArray,n,h1,h2,h3,by simpa using zU r⟩
theorem KL {kvs:List (List Key×V)}(ok:sd P w H h) (e:Rd H a (.dT kvs)):kvs.length<=sizeLine/\(a==sysModules)=false/\
  ∃xs,KT H kvs xs/\h.DictOfH (tupleKind (fy P w)) a xs:=by
 obtain⟨z,y,xs,r,o,es,ep,h1,h2,h3,h4,h5⟩:=(show gF P w H h a (.dT kvs)from Oz ok e)
 refine⟨z,y,xs,r,o,es,ep,h1,h2,h3,h4,λx hx=>?_,h5⟩
 have all:∀{l:List (List Key×V)}{m:List (List Key×cF×cy)},KT H l m->∀x∈m,(tupleKind (fy P w)).is h x.1 x.2.1:=by
  intro l m q;induction q with
  |nil=>intro x hx;exact nomatch hx
  |@cons p q ps qs hq t ih=>
   intro x hx;rcases List.mem_cons.mp hx with e|hx
   ·subst e;exact EV ok (by rw[<-hq.1];exact hq.2.1)
   ·exact ih x hx
 exact all r x hx
theorem T9 {kvs:List (List Key×V)}(ok:sd P w H h) (e:H a=some (.dT kvs)):kvs.length<=sizeLine/\(a==sysModules)=false/\
  ∃xs,KT H kvs xs/\h.DictOfH (tupleKind (fy P w)) a xs:=KL ok (.inl e)
end
def KN (H:Hp) (a:cF) (y:V) (r:Option V):Prop:=
 (∃kvs k,Rd H a (.dK kvs)/\y=kV k/\r=r6 kvs k)\/∃kvs k b,Rd H a (.dT kvs)/\y=.ref b/\H b=some (.tup (k.map kV))/\r=r6 kvs k
def KO (H:Hp) (a:cF) (y v:V) (H':Hp):Prop:=
 (∃kvs k,H a=some (.dK kvs)/\y=kV k/\kvs.length<sizeLine/\H'=upd H a (.dK (putK kvs k v)))\/
 ∃kvs k b,H a=some (.dT kvs)/\y=.ref b/\H b=some (.tup (k.map kV))/\kvs.length<sizeLine/\H'=upd H a (.dT (putK kvs k v))
theorem KN.k {H:Hp}{a:cF}{kvs:List (Key×V)}{k:Key}(e:H a=some (.dK kvs)):KN H a (kV k) (r6 kvs k):=.inl ⟨kvs,k,.inl e,rfl,rfl⟩
theorem KO.k {H:Hp}{a:cF}{kvs:List (Key×V)}{k:Key}{v:V}(e:H a=some (.dK kvs)) (hl:kvs.length<sizeLine):KO H a (kV k) v (upd H a (.dK (putK kvs k v))):=.inl ⟨kvs,k,e,rfl,hl,rfl⟩
section
variable {X:Cx}{pins:cn}{σ:St}{H:Hp}{s:cz}{a:cF}{y v:V}{u r:cy}{o:Option V}{A:cD}{E:ck}
theorem Inv.big (I:Inv X pins σ H s):sysModules<s.heap.objs.size:=by
 have h:mainGlobals<s.heap.objs.size:=(I.mod.glob.keeps I.bk).lt;exact bJ (by decide) h
theorem Gq {h':Heap}{t':Nat}{ob:HO}(I:Inv X pins σ H s) (mu:RK (H a)) (hs:Heap.SameBut a s.heap h') (he:∃q,h'.get? a=some q) (new:gF X.prog X.w (upd H a ob) h' a ob):
  Inv X pins σ (upd H a ob) {s with heap:=h',toks:=t'}:=
 I.write (x:=a) (e:=a) mu (.inl rfl) (λb q hb z=>(hs.2 b hb).trans z) he new
theorem Q0 {P:cB}{w:cC}{H':Hp}{h':Heap}{kvs:List (Key×V)}{vs:List (Key×cy)}(z:kvs.length<=sizeLine) (hd:(a==sysModules)=false) (rel:KV kvs vs) (dd:h'.DictOf (fy P w) a vs):
  gF P w H' h' a (.dK kvs):=⟨z,hd,vs,rel,dd⟩
theorem HP {H':Hp}{Q:Unit->cz->Prop}(hu:A.units+1<cLine) (I:Inv X pins σ H s) (g:KO H a y v H') (ry:RelV y u) (rv:RelV v r) (h:∀s',Inv X pins σ H' s'->Q () s'):
  wpAny (model X.prog X.w) A (setItem (.ref a) u r) Q E s:=by
 rcases g with⟨kvs,k,e,ey,l,eH⟩|⟨kvs,k,b,e,ey,eb,l,eH⟩
 ·subst ey eH;obtain⟨z,hd,vs,rel,dd⟩:=OA I.fX e;have hz:vs.length<=sizeLine:=by rw[<-rel.length];exact z
  have hl:(putK kvs k v).length<=sizeLine:=by have:=vz kvs k v;omega
  refine wpAny_setItem_pairs (hsz:=hz) (Gp ry) dd λh' U1 hs=>h _ ?_
  have he:∃q,h'.get? a=some q:=let ⟨q,_,_,hq,_⟩:=U1;⟨q,hq⟩;exact Gq I (by rw[e];exact True.intro) hs he (Q0 hl hd (rel.put k rv) U1)
 ·subst ey eH;cases (show u=Value.ref b from ry)
  obtain⟨z,hd,xs,rel,dd⟩:=T9 I.fX e;have hz:xs.length<=sizeLine:=by rw[<-Paired.length rel];exact z
  have hl:(putK kvs k v).length<=sizeLine:=by have:=vz kvs k v;omega
  refine wpAny_setItem_heap (hsz:=hz) (tupleKind_room_in1 hu) (EV I.fX eb) dd λh' U1 hs=>h _ ?_
  obtain⟨q,es,ep,hq,h2,h3,h4,_,h5⟩:=U1;refine Gq I (by rw[e];exact True.intro) hs ⟨q,hq⟩ ⟨hl,hd,_,(rel.put k eb rv).keeps λc ys ec=>?_,q,es,ep,hq,h2,h3,h4,h5⟩
  rw[cV (RJ ec e (λz=>nomatch z))]
  exact ec
end
section
variable {X:Cx}{pins:cn}{σ:St}{H:Hp}{s:cz}{a:cF}{kvs:List (Key×V)}{k:Key}{u:cy}{A:cD}{E:ck}
end
def Wy (i:cG):Prop:=∀ov iv,subscripted i false ov iv=operate [ov,iv] (getItem ov iv)
theorem Nm {prog:cB}{w:cC}{A:cD}{E:ck}{s:cz}{env:Env}{value slice:cG}{pos:Pos}{T id:String}{Q:ck}
  (hl:typeLookup (.type T) "__getitem__"=pure (some (.builtin id))) (hs:Wy slice)
  (h:wpAny (model prog w) A (eval value env) (λo s₁=>wpAny (model prog w) A (eval slice env) (λi s₂=>s₂.TypeIs o T/\wpAny (model prog w) A (getItem o i) Q E s₂) E s₁) E s):
  wpAny (model prog w) A (eval (.Subscript value slice pos) env) Q E s:=by
 refine Subscript_ (bR h (λo s₁ h₁=>bR h₁ (λi s₂ h₂=>?_) λ_ _ x=>x) λ_ _ x=>x)
 obtain⟨hT,h₂⟩:=h₂;unfold subscriptTail;refine aa ?_;rw[getitemInPython_of_ne hT.not_modules];refine aa (wpAny_specialOf hT hl ?_);have fin:wpAny (model prog w) A (subscripted slice false o i) (λr s₃=>wpAny (model prog w) A (letTemporaryGo value o r>>=λ_=>pure r) Q E s₃) E s₂:=by
  rw[hs o i];exact wpAny_operating (bR h₂ (λr s₃ h₃=>aa (wpAny_letTemporaryGo (aj h₃))) λ_ _ x=>x)
 first
  |exact aj (aa fin)
  |exact aa (aj (aa fin))
  |exact aa fin
def Ua (td ty tv:TE):TS:=λD σ H=>tv σ H λv H1=>td σ H1 λx H2=>ty σ H2 λy H3=>∃a H4,x=.ref a/\KO H3 a y v H4/\D.nx σ H4
section
variable {X:Cx}{o i e value:cG}{pos pos' n6:Pos}{td ty tv:TE}
theorem Nn (hu:X.A.units+1<cLine) (ho:PE X o td) (hi:PE X i ty) (hv:PE X value tv) (hs:swapsWith value (some (.Subscript o i pos')) pos.line X.env=pure false):
  PS X (.Assign [.Subscript o i pos'] value pos) (Ua td ty tv):=by
 intro pins s σ H D I h;refine wpAny_Assign_Subscript (iu (hv pins s σ H _ I h) λr s1 ⟨v,H1,I1,rv,q1⟩=>iu (ho pins s1 σ H1 _ I1 q1) λu s2 ⟨x,H2,I2,rx,q2⟩=>iu (hi pins s2 σ H2 _ I2 q2) λiv s3 ⟨y,H3,I3,ry,a,H4,ex,g,q3⟩=>?_) hs
 subst ex;obtain rfl:u=Value.ref a:=rx;exact HP hu I3 g ry rv λs4 I4=>⟨σ,H4,I4,q3⟩
end
theorem KP {P:cB}{w:cC}{H:Hp}(h:Heap) (hb:sysModules<h.objs.size):gF P w H (h.push {cls:=.type "dict",data:=.dict #[]}) h.objs.size (.dK []):=
 ⟨bN _,beq_eq_false_iff_ne.mpr (Ne.symm (aE hb)),[],.nil,Heap.DictOf.new h⟩
def Q1:TE:=λ_ H Q=>∀p,H p=none->Q (.ref p) (upd H p (.dK []))
section
variable {X:Cx}{pos:Pos}
theorem KQ:PE X (.Dict [] [] pos) Q1:=λpins s σ H Q I h=>
 wpAny_Dict_empty ⟨.ref s.heap.objs.size,_,I.laid (a:=s.heap.objs.size) (o:=.dK []) (t':=s.toks) (λ_ _ q=>ag _ q) (au _) (KP s.heap I.big),rfl,h _ (I.fX.fresh (au _))⟩
end
structure M2 (X:Cx) (o:cG) (m:Str) (apos:Pos) (e f:cG) (gm:Pos):Prop where
 base:attributeBase o m X.env (eval o X.env)=eval o X.env
 few:((backTo gm (starEach [e,f] X.env)).all (λx=> !x.1)&&(backToKw gm (keywordEach [] X.env)).all (λx=>x.1.isSome)
  &&decide (([e,f]:List cG).length+([]:List Keyword).length+(if([]:List Keyword).isEmpty then 0 else 1)<30))=true
 line:(apos.endLine==gm.line)=true
 trees:backTo gm (starEach [e,f] X.env)=[(false,eval e X.env),(false,eval f X.env)]
def Yz (H:Hp) (a:cF):Prop:=(∃kvs,Rd H a (.dK kvs))\/∃kvs,Rd H a (.dT kvs)
theorem Q2 {X:Cx}{pins:cn}{σ:St}{H:Hp}{s:cz}{a:cF}(I:Inv X pins σ H s) (d:Yz H a):
  s.TypeIs (.ref a) "dict"/\(∀b,Value.ref a=.ref b->∃ob,s.heap.get? b=some ob/\ob.dict=none)/\(a==sysModules)=false:=by
 rcases d with⟨kvs,e⟩|⟨kvs,e⟩
 ·obtain⟨_,hd,vs,_,dd⟩:=KJ I.fX e;refine⟨dd.typeIs,λb q=>?_,hd⟩
  cases q;obtain⟨ob,_,_,h1,h2,_⟩:=dd;exact⟨ob,h1,h2.2.1⟩
 ·obtain⟨_,hd,xs,_,dd⟩:=KL I.fX e;refine⟨dd.typeIs,λb q=>?_,hd⟩
  cases q;obtain⟨ob,_,_,h1,h2,_⟩:=dd;exact⟨ob,h1,h2.2.1⟩
section
variable {X:Cx}{pins:cn}{σ:St}{H:Hp}{s:cz}{a:cF}{y d:V}{u r:cy}{o:Option V}{A:cD}{E:ck}
theorem Q3 {Q:ck}(hu:A.units+1<cLine) (I:Inv X pins σ H s) (g:KN H a y o) (ry:RelV y u) (rd:RelV d r) (h:∀w' s',Inv X pins σ H s'->RelV (o.getD d) w'->Q w' s'):
  wpAny (model X.prog X.w) A (call (.builtin "dict.get") [.ref a,u,r]) Q E s:=by
 rcases g with⟨kvs,k,e,ey,l⟩|⟨kvs,k,b,e,ey,eb,l⟩
 ·subst ey;obtain⟨z,hd,vs,rel,dd⟩:=KJ I.fX e;refine call_meetsIn PySem.F.slot_dict_get dd.typeIs PySem.F.entry_dict_get (PySem.F.args_dict_get_3 _ _ _) (meets_dict_get_default (fy X.prog X.w) a (Gp ry) hd r) ⟨_,dd.mapOf,h _ _ (I.tok _) ?_⟩;rw[l];exact(rel.val k).getD rd
 ·subst ey;cases (show u=Value.ref b from ry)
  obtain⟨z,hd,xs,rel,dd⟩:=KL I.fX e;refine call_meetsIn PySem.F.slot_dict_get dd.typeIs PySem.F.entry_dict_get (PySem.F.args_dict_get_3 _ _ _) (meetsH_dict_get_default (tupleKind (fy X.prog X.w)) a b hd r) ⟨tupleKind_room_in1 hu,k,xs,EV I.fX eb,dd,h _ _ (I.tok _) ?_⟩;rw[l];exact(rel.val k).getD rd
end
def Q4 (td ty tx:TE):TE:=λσ H Q=>td σ H λx H1=>∃a,x=.ref a/\Yz H1 a/\ty σ H1 λy H2=>tx σ H2 λz H3=>∃o,KN H3 a y o/\Q (o.getD z) H3
section
variable {X:Cx}{o e f:cG}{apos gm:Pos}{td ty tx:TE}
theorem KR (hu:X.A.units+1<cLine) (ho:PE X o td) (he:PE X e ty) (hf:PE X f tx) (m:M2 X o "get" apos e f gm):PE X (.Call (.Attribute o "get" apos) [e,f] [] gm) (Q4 td ty tx):=by
 intro pins s σ H Q I h;refine wpAny_Call_method m.base m.few m.line PySem.F.plainAttrs_dict PySem.F.slot_dict_get PySem.F.type_dict_get (iu (ho pins s σ H _ I h) λu s1 ⟨x,H1,I1,rx,a,ex,d,q1⟩=>?_)
 subst ex;obtain rfl:u=Value.ref a:=rx;obtain⟨t1,t2,_⟩:=Q2 I1 d;refine⟨t1,t2,?_⟩;rw[m.trees];refine Calls.callWith_builtin rfl (Calls.evalArgs_plain (Calls.spliced_cons (iu (he pins s1 σ H1 _ I1 q1) λiv s2 ⟨y,H2,I2,ry,q2⟩=>
  Calls.spliced_cons (iu (hf pins s2 σ H2 _ I2 q2) λfv s3 ⟨z,H3,I3,rz,ov,g,q3⟩=>Calls.spliced_nil ?_))))
 exact Q3 hu I3 g ry rz λw' s4 I4 Mm=>⟨_,H3,I4,Mm,q3⟩
end
section
variable {X:Cx}{pins:cn}{σ:St}{H:Hp}{s:cz}{a:cF}{kvs:List (Key×V)}{A:cD}{E:ck}
end
section
variable {X:Cx}{pins:cn}{σ:St}{H:Hp}{s:cz}{a:cF}{y:V}{u:cy}{A:cD}{E:ck}
end
end L2
namespace L2
open PySem PySem.Spec PyProof.Rows
abbrev m7:Scope:={kind:=.function,names:=[(Str.ofString "point",.local),(Str.ofString "uses",.free)],isGenerator:=false,isCoroutine:=false,more:=[]}
abbrev mr (p:Pos):Arguments:={posonlyargs:=[],args:=[{arg:="point",annotation:=none,pos:=p}],vararg:=none,kwonlyargs:=[],kw_defaults:=[],kwarg:=none,defaults:=[]}
abbrev jA (pu pp pS pU A8 pT:Pos):cG:=.Tuple [.UnaryOp .USub (.Subscript (.Name "uses" pu) (.Name "point" pp) pS) pU,.Name "point" A8] 0 pT
section
variable {prog:cB}{w:cC}{A:cD}{E:ck}{s:cz}{f c' a cell:cF}{qual:Str}{pm za:cy}{pa pu pp pS pU A8 pT:Pos}{vs:List (Key×cy)}{p n:Int}{t tn:Tok}
theorem Cv {Q:ck}(jn:A.depth<recursionLimit)
  (hf:s.heap.get? f=some (W.kla_obj "<lambda>" qual (mr pa) (jA pu pp pS pU A8 pT) m7 [(Str.ofString "uses",cell)] pm c' za))
  (yH:s.heap.CodeRec (.ref c') qual) (Py:s.heap.NoLimit) (sZ:s.heap.IsCell cell (some (.ref a))) (dd:s.heap.DictOf (fy prog w) a vs) (hv:valueAt vs (.inl p)=some (.int n tn))
  (h:∀T h' tk RG,h'.get? T=some {cls:=.type "tuple",data:=.seq #[.int (-n) RG,.int p t]}->(∀b o,s.heap.get? b=some o->h'.get? b=some o)->s.heap.objs.size<=T->Q (.ref T) {s with heap:=h',toks:=tk}):
  wpAny (model prog w) A (call (.ref f) [.int p t]) Q E s:=by
 refine wpAny_call (W.kla_callFunE jn hf rfl rfl rfl rfl yH ?_);have hb:bindArgs (W.kla_fn "<lambda>" qual (mr pa) (jA pu pp pS pU A8 pT) m7 [(Str.ofString "uses",cell)] pm (.ref c') za) ⟨[.int p t],[]⟩=pure [(Str.ofString "point",.int p t)]:=rfl;rw[hb];refine aj (wpAny_newFunctionEnv (show ∀x∈m7.names,x.2≠.cell by decide) (by intro x hx;simp at hx;subst hx;rfl) (λh₁ Mt LR=>⟨Py.fresh _ LR,?_⟩) rfl)
 have Wz:∀b o,s.heap.get? b=some o->h₁.get? b=some o:=λb o e=>LR.extBut b o (aE (aB e)) (ag _ e)
 have hsz:s.heap.objs.size<=h₁.objs.size:=bh Mt.lt;refine W.kla_codeExpr ?_;generalize hL:s.heap.objs.size=L at *;show wpAny (model prog w) (A.deeper (W.envX qual m7 L f (.ref c') [(Str.ofString "uses",cell)])) (eval (jA pu pp pS pU A8 pT) (W.envX qual m7 L f (.ref c') [(Str.ofString "uses",cell)])) _ _ {s with heap:=h₁,toks:=s.toks+1}
 generalize hA:A.deeper (W.envX qual m7 L f (.ref c') [(Str.ofString "uses",cell)])=A';generalize s.toks+1=tk₁;refine wpAny_Tuple_spliced ?_;refine Calls.spliced_cons (UnaryOp_ (Nm PySem.F.slot_dict_getitem.lookup (λ_ _=>rfl) ?_))
 have YA:h₁.DictOf (fy prog w) a vs:=by obtain⟨o,es,ep,e,r⟩:=dd;exact⟨o,es,ep,Wz _ _ e,r⟩
 refine wpAny_Name (wpAny_loadName_free rfl rfl rfl (sZ.keeps Wz) ?_) (by decide)
 refine wpAny_Name (wpAny_loadName_local rfl rfl Mt rfl ?_) (by decide)
 refine⟨YA.mapOf.typeIs,wpAny_getItem_of (k:=Sum.inl p) (Gp (k:=Sum.inl p) (u:=.int p t) ⟨t,rfl⟩) YA.mapOf hv ?_⟩;refine neg_int ?_;refine Calls.spliced_cons (wpAny_Name (wpAny_loadName_local rfl rfl Mt rfl ?_) (by decide))
 refine Calls.spliced_nil ⟨by show(2:Nat)<=_;decide,?_⟩
 refine h _ _ _ _ (az _ rfl) (λb o e=>ag _ (Wz b o e)) ?_
 exact hsz
end
end L2
namespace L2
open PySem PySem.Spec PySem.W PySem.Calls PyProof.Rows
section
variable {prog:cB}{w:cC}{A:cD}{E:ck}{s:cz}{K:Type} [DecidableEq K] {knd:KeyKind prog w K}{d:cF}{kvs:List (K×cy)}{ep:Nat}
theorem ue {Q:cx->cz->Prop}(hh:A.handled=none) (lo:(d==sysModules)=false) (hm:s.heap.DictAt knd d kvs ep) (hn:kvs.length<=sizeLine)
  (hQ:∀h' tk (acc:cx),(∀b o,s.heap.get? b=some o->h'.get? b=some o)->acc.length=kvs.length->(∀(j:Nat) v,acc[j]? =some v->∃k x,kvs[j]? =some (k,x)/\knd.is k v=true)->s.heap.objs.size<h'.objs.size->Q acc {s with heap:=h',toks:=tk}):wpAny (model prog w) A (collect (.ref d)) Q E s:=by
 unfold collect;refine aa (wpAny_runValue (codeAny_builtin PySem.F.entry_proto_collect ?_));rw[bZ PySem.F.plain_proto_collect _];show wpAny _ A.in1 (newList []>>=λl=>again (.builtin "list.__iadd__" ⟨[l,.ref d],[]⟩)) _ _ s
 refine aa (bT ?_);refine aj ⟨plainId_quiet PySem.F.plain_list_iadd _,codeAny_builtin PySem.F.entry_list_iadd ?_⟩;rw[bZ PySem.F.plain_list_iadd _];have hS:(s.heap.push {cls:=.type "list",data:=.seq ([]:cx).toArray}).get? s.heap.objs.size=some {cls:=.type "list",data:=.seq #[]}:=az _ rfl;have fQ:=hm.lt_size;show wpAny _ A.in1 (Builtin.List.listExtendWith (.ref s.heap.objs.size) (.ref d) (.ref s.heap.objs.size)) _ _ _;have key:=kdl_extend (A:=A) (s:={s with heap:=s.heap.push {cls:=.type "list",data:=.seq ([]:cx).toArray}}) (R:=λr s'=>∃h' tk ml c',r=.ok (.ret (.ref s.heap.objs.size))/\s'={s with heap:=h',toks:=tk}/\(∀b o,b≠s.heap.objs.size->(s.heap.push {cls:=.type "list",data:=.seq ([]:cx).toArray}).get? b=some o->h'.get? b=some o)/\h'.get? s.heap.objs.size=some {cls:=.type "list",dict:=none,data:=.seq ml c',slots:=#[]}/\ItemsOf (λi v=>∃k x,kvs[i]? =some (k,x)/\knd.is k v=true) ml kvs.length)
  (kdl_dict (knd:=knd) (kvs:=kvs) (ep:=ep) lo) hh (hm.push _) s.heap.objs.size (bz fQ) (bz fQ) (.ref s.heap.objs.size) 0 hS (λh' tk ml c' hk RF rW=>⟨h',tk,ml,c',rfl,rfl,hk,RF,rW⟩) hn
 have fin:∀(h':Heap) tk ml c',(∀b o,b≠s.heap.objs.size->(s.heap.push {cls:=.type "list",data:=.seq ([]:cx).toArray}).get? b=some o->h'.get? b=some o)->h'.get? s.heap.objs.size=some {cls:=.type "list",dict:=none,data:=.seq ml c',slots:=#[]}->ItemsOf (λi v=>∃k x,kvs[i]? =some (k,x)/\knd.is k v=true) ml kvs.length->Q ml.toList {s with heap:=h',toks:=tk}:=λh' tk ml c' hk RF rW=>
  hQ h' tk ml.toList (λb o e=>hk b o (aE (aB e)) (ag _ e)) (by rw[aO];exact rW.1) (λj v e=>rW.2 j v (by rw[<-Array.getElem?_toList];exact e)) (aB RF)
 refine bR key (λr s' hr=>?_) λe s' hr=>?_
 ·cases r with
  |done f=>
   obtain⟨h',tk,ml,c',e1,e2,e3,e4,e5⟩:=hr;cases e1;subst e2;exact aa (wpAny_load e4 (aj (fin h' tk ml c' e3 e4 e5)))
  |again c=>
   refine⟨hr.1,codeAny_mono hr.2 λr s' hr=>?_⟩
   obtain⟨h',tk,ml,c',e1,e2,e3,e4,e5⟩:=hr;cases e1;subst e2;exact aa (wpAny_load e4 (aj (fin h' tk ml c' e3 e4 e5)))
 ·obtain⟨h',tk,ml,c',e1,_⟩:=hr;cases e1
end
end L2
namespace L2
open PySem PySem.Spec PySem.W PySem.Calls PyProof.Rows
section
variable {prog:cB}{w:cC}{A:cD}{E:ck}{s:cz}{K:Type} [DecidableEq K] {knd:KeyKind prog w K}{d:cF}{kvs:List (K×cy)}{ep:Nat}
 {h₀:Heap}{L:cF}{m:cm}{news:cn}{f:cF}
theorem Np {Q:ck}(F:Fr h₀ L s.heap m) (N:News h₀ L s.heap news) (hh:A.handled=none) (lo:(d==sysModules)=false) (hm:s.heap.DictAt knd d kvs ep) (h2:2<=kvs.length) (En:kvs.length<64)
  (h:∀(vs:cx) D kS e1 h' tk,vs.length=kvs.length->(∀(j:Nat) v,vs[j]? =some v->∃k x,kvs[j]? =some (k,x)/\knd.is k v=true)->Fr h₀ L h' m->News h₀ L h' ((kS,seqObj "list" #[] 0)::(D,seqObj "list" #[] e1)::news)->D<kS->(∀q∈news,q.1<D)->s.heap.objs.size<=D->
   KatKeys prog w A.in1.in1 h₀ L m kS (.ref f) (λks e s'=>wpAny (model prog w) A.in1.in1 (keyKind' (List.toArray ks)) (λκ Iy=>(kas_sort vs.length).kasWp (kas_ask prog w A.in1.in1 κ ks) (λp s3=>KatFin h₀ L m kS D ks e e1 (p.toList.map λi=>vs.getD i Value.none) (λs4=>Q (.ref D) s4) s3) Iy) (λ_ _=>False) s') vs [] 0 {s with heap:=h',toks:=tk}):
  wpAny (model prog w) A (call (.builtin "sorted") [.ref d] [(Str.ofString "key",.ref f)]) Q E s:=by
 refine call_function_entry_kw kind_sorted plain_sorted entry_sorted (ksk_s1 _ _) ?_;unfold Builtin.«sorted»;refine aa (m:=checkCount "sorted" 1 1 _) (aj ?_);refine aa (ue hh lo hm (by rw[bx];omega) λg tk vs keep hl hv hg=>?_)
 refine aa (wpAny_newList ?_ (by rw[bx];omega))
 have Ft:(g.push (seqObj "list" vs.toArray 0)).get? g.objs.size=some (seqObj "list" vs.toArray 0):=az _ rfl;have jN:∀b o,s.heap.get? b=some o->(g.push (seqObj "list" vs.toArray 0)).get? b=some o:=λb o q=>ag _ (keep b o q)
 have hL:L<s.heap.objs.size:=F.ns.lt;refine aa (bp (wpAny_call_entry_kw slot_list_sort ⟨_,Ft,rfl⟩ entry_list_sort ?body (ksk_l1 _ _)))
 case body=>
  show wpAny (model prog w) A.in1.in1 (Builtin.«list.sort» ⟨[.ref g.objs.size],[(Str.ofString "key",.ref f)]⟩) _ _ _;rw[ksk_t1];refine kat_keyed (b:=false) (s:={s with heap:=g.push (seqObj "list" vs.toArray 0),toks:=tk}) (F.kept jN) (N.grown jN) Ft (bz (bJ hL hg)) (Heap.get?_none_of_le (aD F.above (bh (bJ hL hg))))
   (λp hp=>aE (bJ (aB (N p hp).1) hg)) (by omega) (by omega) λkS e1 h' F' N' l0 l1=>?_
  refine kat_keys_mono (h vs g.objs.size kS e1 h' tk hl hv F' N' l0 (λq hq=>bJ (aB (N q hq).1) hg) (bh hg)) λks e s' jk hd=>?_
  have D4:ks.length=vs.length:=by simpa using jk
  refine bR hd (λκ Iy hk=>?_) λ_ _ x=>x
  have er:∀{α:Type}(l:List α),katRev false l=l:=λ_=>rfl
  rw[er,er,kat_ask_eq D4];rw[kat_ask_eq D4]at hk;refine kas_wp_mono hk λp s3 yT=>?_
  rw[er];exact yT.mono λs4 hq=>⟨_,rfl,aj ⟨_,rfl,hq⟩⟩
end
end L2
namespace L2
open PySem PySem.Spec PySem.W PySem.Calls PyProof.Rows
section
variable {prog:cB}{w:cC}{A:cD}{E:ck}{s:cz}{f:cF}
theorem HQ {T:Heap}{a:cF}{v:cy}{tk:Nat}{Q:ck}(o1:T.get? a=some (seqObj "list" #[v] 0))
  (KS:∀g:Heap,(∀b o,b≠a->T.get? b=some o->g.get? b=some o)->wpAny (model prog w) A.in1 (call (.ref f) [v]) (λ_ s'=>∃h' Gi,s'={s with heap:=h',toks:=Gi}/\∀b o,g.get? b=some o->h'.get? b=some o) (λ_ _=>False) {s with heap:=g,toks:=tk})
  (h:∀h' c Gi,h'.get? a=some (seqObj "list" #[v] c)->(∀b o,b≠a->T.get? b=some o->h'.get? b=some o)->Q .none {s with heap:=h',toks:=Gi}):
  wpAny (model prog w) A (call (.builtin "list.sort") [.ref a] [(Str.ofString "key",.ref f)]) Q E {s with heap:=T,toks:=tk}:=by
 have ha:a<T.objs.size:=aB o1;refine wpAny_call_entry_kw slot_list_sort ⟨_,o1,rfl⟩ entry_list_sort ?_ (ksk_l1 _ _);show wpAny (model prog w) A.in1 (Builtin.«list.sort» ⟨[.ref a],[(Str.ofString "key",.ref f)]⟩) _ _ _;rw[ksk_t1];unfold ksk_tree;refine aa (listItems_at o1 rfl (aa (listUpdate_at o1 rfl ?_ (hsz:=by show(1:Nat)<=_;rw[bx];decide) (hsz2:=bN _))))
 obtain⟨e1,vp⟩:∃e1,(T.update a (Obj.mapSeq λ_=>#[])).get? a=some (seqObj "list" #[] e1):=⟨_,get?_update_seq o1 (λ_=>#[])⟩
 refine aa (seqEpoch_at vp rfl (aa (wpAny_newTuple (aa (wpAny_newList (bp ?_))) (by show(1:Nat)<=_;rw[bx];decide))))
 have YB:∀b o,b≠a->T.get? b=some o->(((T.update a (Obj.mapSeq λ_=>#[])).push (seqObj "tuple" #[v] 0)).push (seqObj "list" #[] 0)).get? b=some o:=λb o hb e=>ag _ (ag _ ((bA _ _ (Ne.symm hb)).trans e))
 have oa:(((T.update a (Obj.mapSeq λ_=>#[])).push (seqObj "tuple" #[v] 0)).push (seqObj "list" #[] 0)).get? a=some (seqObj "list" #[] e1):=ag _ (ag _ vp)
 have ok:(((T.update a (Obj.mapSeq λ_=>#[])).push (seqObj "tuple" #[v] 0)).push (seqObj "list" #[] 0)).get? ((T.update a (Obj.mapSeq λ_=>#[])).push (seqObj "tuple" #[v] 0)).objs.size=some (seqObj "list" #[] 0):=az _ rfl
 have YC:a≠((T.update a (Obj.mapSeq λ_=>#[])).push (seqObj "tuple" #[v] 0)).objs.size:=by rw[size_push',Heap.size_update];exact aE (Nat.lt_succ_of_lt ha)
 have YD:T.objs.size<=((T.update a (Obj.mapSeq λ_=>#[])).push (seqObj "tuple" #[v] 0)).objs.size:=by rw[size_push',Heap.size_update];exact Nat.le_succ _
 show wpAny (model prog w) A.in1 (ksk_rest a (.ref f) false #[v] e1 (.ref ((T.update a (Obj.mapSeq λ_=>#[])).push (seqObj "tuple" #[v] 0)).objs.size)) _ _ {s with heap:=((T.update a (Obj.mapSeq λ_=>#[])).push (seqObj "tuple" #[v] 0)).push (seqObj "list" #[] 0),toks:=tk}
 generalize ((T.update a (Obj.mapSeq λ_=>#[])).push (seqObj "tuple" #[v] 0)).objs.size=kS at *
 generalize (((T.update a (Obj.mapSeq λ_=>#[])).push (seqObj "tuple" #[v] 0)).push (seqObj "list" #[] 0))=U at *
 unfold ksk_rest;refine aa (wpAny_rule ?_);rw[show(#[v]:Array cy)=[v].toArray from rfl,List.forIn_toArray,List.forIn_cons]
 refine aa (aa (aa (wpAny_attempt (bR (KS U YB) (λk s' hk=>?_) λ_ _ x=>x.elim))))
 obtain⟨g,Gi,rfl,kg⟩:=hk;dsimp only;have YE:=kg _ _ ok;refine aa (listUpdate_at YE rfl (aj ?_) (hsz:=bN _) (hsz2:=by show(1:Nat)<=_;rw[bx];decide))
 dsimp only;rw[List.forIn_nil];refine aj ?_;obtain⟨c1,WA⟩:∃c,(g.update kS (Obj.mapSeq (·.push k))).get? kS=some (seqObj "list" #[k] c):=⟨_,get?_update_seq YE (·.push k)⟩
 have YF:(g.update kS (Obj.mapSeq (·.push k))).get? a=some (seqObj "list" #[] e1):=(bA _ _ (Ne.symm YC)).trans (kg _ _ oa)
 have YG:∀b o,b≠a->T.get? b=some o->(g.update kS (Obj.mapSeq (·.push k))).get? b=some o:=λb o hb e=>(bA _ _ (bz (aw (aB e) YD))).trans (kg _ _ (YB b o hb e))
 show wpAny (model prog w) A.in1 (Builtin.List.listItems (.ref kS)>>=λkeys=>ksk_end a false #[v] e1 (.ref kS) keys) _ _ {s with heap:=g.update kS (Obj.mapSeq (·.push k)),toks:=Gi}
 generalize g.update kS (Obj.mapSeq (·.push k))=G at WA YF YG
 refine aa (listItems_at WA rfl ?_);unfold ksk_end;dsimp only;have hsz:(#[v]:Array cy).size<2:=by show(1:Nat)<2;decide
 rw[if_pos hsz,if_pos hsz];simp only[aJ,bF];refine aa (aj ?_);rw[StateT.run_pure];refine aa (aj ?_);unfold ksk_tail;dsimp only;have Eo:((#[k]:Array cy).zip #[v]).map (·.2)=#[v]:=by apply Array.toList_inj.mp;simp
 rw[show(arrOf (SortSt.mk' general' ((#[k]:Array cy).zip #[v]) #[] 7 none))=(#[k]:Array cy).zip #[v]from rfl,Eo]
 refine aa (listUpdate_at WA rfl ?_ (hsz:=by show(1:Nat)<=_;rw[bx];decide) (hsz2:=bN _))
 refine aa (wpAny_letGo ?_);have WC:(G.update kS (Obj.mapSeq λ_=>(#[]:Array cy))).get? a=some (seqObj "list" #[] e1):=(bA _ _ (Ne.symm YC)).trans YF
 have kp4:∀b o,b≠a->T.get? b=some o->(G.update kS (Obj.mapSeq λ_=>(#[]:Array cy))).get? b=some o:=λb o hb e=>(bA _ _ (bz (aw (aB e) YD))).trans (YG b o hb e)
 refine aa (seqEpoch_at WC rfl (aa (listUpdate_at WC rfl ?_ (hsz:=bN _) (hsz2:=by show(1:Nat)<=_;rw[bx];decide))))
 simp only[bne_self_eq_false,aJ,bF];obtain⟨c,hc⟩:∃c,((G.update kS (Obj.mapSeq λ_=>(#[]:Array cy))).update a (Obj.mapSeq λ_=>#[v])).get? a=some (seqObj "list" #[v] c):=⟨_,get?_update_seq WC (λ_=>#[v])⟩
 exact aj ⟨_,rfl,h _ c Gi hc λb o hb e=>(bA _ _ (Ne.symm hb)).trans (kp4 b o hb e)⟩
variable {K:Type} [DecidableEq K] {knd:KeyKind prog w K}{d:cF}{kvs:List (K×cy)}{ep:Nat}
theorem KU {Q:ck}(hh:A.handled=none) (lo:(d==sysModules)=false) (hm:s.heap.DictAt knd d kvs ep) (h1:kvs.length=1)
  (KS:∀(g:Heap) tk v,(∃k x,kvs[0]? =some (k,x)/\knd.is k v=true)->(∀b o,s.heap.get? b=some o->g.get? b=some o)->wpAny (model prog w) A.in1.in1 (call (.ref f) [v]) (λ_ s'=>∃h' Gi,s'={s with heap:=h',toks:=Gi}/\∀b o,g.get? b=some o->h'.get? b=some o) (λ_ _=>False) {s with heap:=g,toks:=tk})
  (h:∀D v h' c tk,(∃k x,kvs[0]? =some (k,x)/\knd.is k v=true)->h'.get? D=some (seqObj "list" #[v] c)->s.heap.objs.size<=D->(∀b o,s.heap.get? b=some o->h'.get? b=some o)->Q (.ref D) {s with heap:=h',toks:=tk}):
  wpAny (model prog w) A (call (.builtin "sorted") [.ref d] [(Str.ofString "key",.ref f)]) Q E s:=by
 refine call_function_entry_kw kind_sorted plain_sorted entry_sorted (ksk_s1 _ _) ?_;unfold Builtin.«sorted»;refine aa (m:=checkCount "sorted" 1 1 _) (aj ?_);refine aa (ue hh lo hm (by rw[h1,bx];decide) λg tk vs keep hl hv hg=>?_)
 rw[h1]at hl;obtain⟨v,rfl⟩:∃v,vs=[v]:=by
  match vs,hl with
  |[v],_=>exact⟨v,rfl⟩
 have kv:=hv 0 v rfl;refine aa (wpAny_newList ?_ (by show(1:Nat)<=_;rw[bx];decide))
 have Ft:(g.push (seqObj "list" #[v] 0)).get? g.objs.size=some (seqObj "list" #[v] 0):=az _ rfl;refine aa (bp (HQ (A:=A.in1) (s:=s) (T:=g.push (seqObj "list" #[v] 0)) (tk:=tk) Ft (λg' kp=>KS g' tk v kv λb o e=>kp b o (aE (bJ (aB e) hg)) (ag _ (keep b o e))) λh' c Gi hD kp=>?_))
 refine aj ⟨_,rfl,h _ v h' c Gi kv hD (bh hg) λb o e=>kp b o ?_ (ag _ (keep b o e))⟩
 exact aE (bJ (aB e) hg)
end
end L2
namespace L2
open PySem PySem.Spec PySem.W PySem.Calls PyProof.Rows
theorem uf {i j:Int}{t u:Tok}{c:cy}:∀(l:cx),TriplesOk l->TriplesOk (l++[.int i t,.int j u,c])
 |[],_=>trivial
 |.int _ _::.int _ _::_::rest,h=>uf rest h
theorem u3 {p q:Pos}(h1:p.line=q.line) (h2:p.col=q.col):∀l:cx,codeAmong p l=codeAmong q l:=λl=>by
 have key:∀(n:Nat) (l:cx),l.length<=n->codeAmong p l=codeAmong q l:=λn=>by
  induction n with
  |zero=>intro l hl;cases l with|nil=>rfl|cons _ _=>simp at hl
  |succ n ih=>
   intro l hl;unfold codeAmong;split
   ·rename_i line _ col _ c rest;rw[h1,h2,ih rest (by simp only[ax]at hl;omega)]
   ·rfl
 exact key l.length l (au _)
theorem KW {p q:Pos}{x y:Str}{m n:Array cy}(h:yE p x++m=yE q y++n):p.line=q.line/\p.col=q.col/\x=y:=by
 have h0:=congrArg (λa:Array cy=>a.toList) h
 simp only[yE,Array.toList_append,List.cons_append,List.nil_append]at h0;injection h0 with a1 h1
 injection h1 with a2 h2
 injection h2 with a3 _
 injection a1 with b1 _
 injection a2 with b2 _
 injection a3 with b3 _
 exact⟨Int.ofNat.inj b1,Int.ofNat.inj b2,b3⟩
theorem ug {env:Env}{cell:cF}(h:env.cells.lookup (Str.ofString "uses")=some cell):closureFor m7 env=pure [(Str.ofString "uses",cell)]:=by
 unfold closureFor;simp only[m7,List.forIn_cons,List.forIn_nil];have ec:cellOf env (Str.ofString "uses")=pure cell:=by unfold cellOf;rw[h]
 rw[ec];rfl
section
variable {X:Cx}{pins:cn}{σ:St}{H:Hp}{s:cz}{x:Str}{vS:Pos}{qual:Str}{c Pt cell:cF}{pa pu pp pS pU A8 pT:Pos}
structure Lam (X:Cx) (pins:cn) (σ:St) (H H2:Hp) (s2:cz) (f c' cell:cF) (qual:Str) (pa:Pos) (body:cG):Prop where
 inv:Inv X pins σ H2 s2
 new:H2=H\/∃u,H c'=none/\H2=upd H c' u
 fn:∃pm za,s2.heap.get? f=some (kla_obj "<lambda>" qual (mr pa) body m7 [(Str.ofString "uses",cell)] pm c' za)
 cd:s2.heap.CodeRec (.ref c') qual
 fl:f≠X.env.locals
theorem KY {Q:ck}{E:ck}(I:Inv X pins σ H s) (hT:(x,vS,qual)∈vK) (ht:tabIn X.K x=some (c,Pt)) (hq:X.env.qual++Str.ofString "<lambda>"=qual) (zV:X.env.code=.ref c) (wO:X.env.cells.lookup (Str.ofString "uses")=some cell)
  (h:∀H2 s2 f c',Lam X pins σ H H2 s2 f c' cell qual pa (jA pu pp pS pU A8 pT)->Q (.ref f) s2):
  wpAny (model X.prog X.w) X.A (eval (.Lambda (mr pa) (jA pu pp pS pU A8 pT) m7 vS) X.env) Q E s:=by
 obtain⟨⟨more,hP⟩,hC,hB⟩:=(I.ok.tb.un I.base) x c Pt vS qual hT ht;obtain⟨qs,e,tr,pos,YH,Ub,eq,r⟩:=(show zu H s.heap Pt (yE vS qual++more)from I.fX Pt _ hP)
 obtain⟨z1,z2,z3⟩:=KW eq;subst z3;have YI:CodeHd s.heap c Pt:=hC.keeps I.bk;have YJ:s.heap.BuiltinsAt X.mg Pt:=let ⟨bm,ob,b1,b2,b3,b4,b5,b6⟩:=hB;⟨bm,ob,b1,b2,b3,b4,I.bk _ _ b5,b6⟩;have hG:s.heap.Ns mainGlobals X.mg:=I.mod.glob.keeps I.bk;have hgP:mainGlobals≠Pt:=λz=>by
  obtain⟨og,es,ep,eg,hd,_⟩:=hG;rw[z,e]at eg;cases eg;cases hd
 refine kla_eval rfl ?_;rw[hq];have YK:X.env.locals<s.heap.objs.size:=I.lt;rcases r with hn|⟨c',oc,vs,t,hf,q2,q3,q4⟩
 ·have YL:codeAmong vS qs.toList=none:=by rw[u3 z1 z2];exact hn
  refine kla_makeFunction (ug wO) I.ok.glob hG zV YI e tr YL hgP YJ λc' za h' tk hx yC fQ Jo UC=>?_
  obtain⟨c2,oc,vs,t,ec,Rt,hd,hv⟩:=id Jo;cases ec;have hH:H c'=none:=I.fX.fresh yC;generalize Q5:kla_obj "<lambda>" qual (mr pa) (jA pu pp pS pU A8 pT) m7 [(Str.ofString "uses",cell)] ((X.mg "__name__").getD .none) c' za=fo;have keep:∀b o,b≠Pt->s.heap.get? b=some o->(h'.push fo).get? b=some o:=λb o hb q=>ag _ (hx b o hb q)
  have nP:∀{b:cF},H b=none->b≠Pt:=λ{b} q z=>by rw[z,hP]at q;cases q
  refine h (upd H c' (.yD oc (.own 0))) _ _ c' ⟨?_,.inr ⟨_,hH,rfl⟩,⟨_,za,by rw[Q5];exact az _ (by rw[<-Q5];rfl)⟩,⟨c',oc,vs,t,rfl,ag _ Rt,hd,hv⟩,bz (bJ (aw YK yC) fQ)⟩
  refine I.un (h':=h'.push fo) (t':=tk) ⟨λb o q n _ _=>keep b o (nP n) q,λb o q n _ _=>⟨o.slots,keep b o (nP n) q⟩,λb o q n _=>?_,λb o q _=>?_,λb xs q=>(cV (cY q hH)).trans q,λb o u q=>(cV (cY q hH)).trans q,λb ps q=>⟨#[],by rw[cV (cY q hH),q];simp⟩⟩ ?_
  ·rw[cV (aE (aw (aB q) yC))];exact n
  ·by_cases hb:b=Pt
   ·subst hb;exact⟨_,ag _ UC⟩
   ·exact⟨o,keep b o hb q⟩
  ·intro b u q;by_cases hb:b=c'
   ·subst hb;rw[dc]at q;cases q;exact⟨ag _ Rt,oc,ag _ Rt⟩
   ·rw[cV hb]at q;by_cases YM:b=Pt
    ·subst YM;rw[hP]at q;cases q;refine⟨_,ag _ UC,?_,pos,qual,Ub,eq,.inr ⟨c',oc,vs,t,?_,dc,hd,hv⟩⟩
     ·rw[Array.toList_append];exact uf _ tr
     ·rw[Array.toList_append,<-u3 z1 z2];exact codeAmong_snoc _ tr YL
    ·refine(I.fX b u q).An (λk v hk z=>keep k v ?_ z) (λk z=>(cV (cY z hH)).trans z) (λk xs z=>(cV (cY z hH)).trans z) λk ob u' z=>(cV (cY z hH)).trans z
     rcases hk with rfl|hk
     ·exact YM
     ·intro z;rw[z,hP]at hk;cases hk
 ·have hf':codeAmong vS qs.toList=some (.ref c'):=by rw[u3 z1 z2];exact hf
  refine kla_makeFunctionHit (ug wO) I.ok.glob hG zV YI e tr hf' YJ λza h' tk hk hsz=>?_
  obtain⟨e1,_⟩:=I.fX c' _ q2;refine h H _ _ c' ⟨I.kept (t':=tk) λb o q=>ag _ (hk b o q),.inl rfl,⟨_,za,az _ rfl⟩,⟨c',oc,vs,t,rfl,ag _ (hk _ _ e1),q3,q4⟩,bz (aw YK hsz)⟩
end
end L2
namespace ST
open PySem PySem.Spec PySem.W PyProof.Rows DL L2
def wx (kvs:List (Int×Int)):List (Key×V):=kvs.map λkv=>(.inl kv.1,.int kv.2)
def hV (kvs:List (Int×Int)):cp:=kvs.map λkv=>[-kv.2,kv.1]
structure zW (P:cB) (w:cC) (h:Heap) (f cell a:cF) (qual:Str) (pa:Pos) (body:cG) (EW:List (Key×cy)):Prop where
 fn:∃pm c' za,h.get? f=some (kla_obj "<lambda>" qual (mr pa) body m7 [(Str.ofString "uses",cell)] pm c' za)/\h.CodeRec (.ref c') qual
 lim:h.NoLimit
 cell:h.IsCell cell (some (.ref a))
 dict:h.DictOf (fy P w) a EW
theorem zW.keeps {P:cB}{w:cC}{h h':Heap}{f cell a:cF}{qual:Str}{pa:Pos}{body:cG}{EW:List (Key×cy)}(l:zW P w h f cell a qual pa body EW) (k:∀b o,h.get? b=some o->h'.get? b=some o):zW P w h' f cell a qual pa body EW where
 fn:=let ⟨pm,c',za,e,c2,oc,vs,t,z,e2,r⟩:=l.fn;⟨pm,c',za,k _ _ e,c2,oc,vs,t,z,k _ _ e2,r⟩
 lim:=l.lim.keeps k
 cell:=l.cell.keeps k
 dict:=let ⟨o,es,ep,e,r⟩:=l.dict;⟨o,es,ep,k _ _ e,r⟩
def u4:cn->cp->Prop:=Paired λp ns=>∃x y t u,p.2={cls:=.type "tuple",data:=.seq #[.int x t,.int y u]}/\ns=[x,y]
theorem u4.snoc:∀{l:cn}{nss:cp}{p:cF×Obj}{ns:cq},u4 l nss->(∃x y t u,p.2={cls:=.type "tuple",data:=.seq #[.int x t,.int y u]}/\ns=[x,y])->u4 (l++[p]) (nss++[ns])
 |_,_,_,_,.nil,h=>.cons h .nil
 |_,_,_,_,.cons r t,h=>.cons r (u4.snoc t h)
theorem u4.get:∀{l:cn}{nss:cp},u4 l nss->∀(i:Nat) (ns:cq),nss[i]? =some ns->∃p,l[i]? =some p/\∃x y t u,p.2={cls:=.type "tuple",data:=.seq #[.int x t,.int y u]}/\ns=[x,y]
 |_,_,.nil,i,ns,h=>by simp at h
 |p::l,n::nss,.cons r t,0,ns,h=>by simp at h;subst h;exact⟨p,rfl,r⟩
 |p::l,n::nss,.cons r t,i+1,ns,h=>u4.get t i ns (by simpa using h)
theorem u4.length {l:cn}{nss:cp}(t:u4 l nss):l.length=nss.length:=Paired.length t
section
variable {P:cB}{w:cC}{A:cD}{s:cz}{f cell a kS D:cF}{qual:Str}{pa pu pp pS pU A8 pT:Pos}{EW:List (Key×cy)}{h₀:Heap}{L:cF}{m:cm}{news:cn}{e1:Nat}{kvs:List (Int×Int)}
theorem Cw {Fin:cx->Nat->cz->Prop}(jn:A.depth<recursionLimit) (WE:D<kS) (YN:∀q∈news,q.1<D)
  (stays:∀h' o1 o2 fY,Fr h₀ L h' m->News h₀ L h' ((kS,o1)::(D,o2)::(fY++news))->zW P w h' f cell a qual pa (jA pu pp pS pU A8 pT) EW)
  (EN:∀kv∈kvs,∃tn,valueAt EW (.inl kv.1)=some (.int kv.2 tn))
  (fin:∀fY e h' tk,u4 fY (hV kvs)->Fr h₀ L h' m->News h₀ L h' ((kS,seqObj "list" (List.toArray (fY.map λp=>Value.ref p.1)) e)::(D,seqObj "list" #[] e1)::(fY++news))->(∀p∈fY,kS<p.1)->Fin (fY.map λp=>Value.ref p.1) e {s with heap:=h',toks:=tk}):
  ∀(r done:List (Int×Int)) (vs:cx) (fY:cn) (e:Nat) (h':Heap) (tk:Nat),done++r=kvs->IntsAre vs (r.map (·.1))->u4 fY (hV done)->Fr h₀ L h' m->
   News h₀ L h' ((kS,seqObj "list" (List.toArray (fY.map λp=>Value.ref p.1)) e)::(D,seqObj "list" #[] e1)::(fY++news))->(∀p∈fY,kS<p.1)->
   KatKeys P w A h₀ L m kS (.ref f) Fin vs (fY.map λp=>Value.ref p.1) e {s with heap:=h',toks:=tk}
 |[],done,vs,fY,e,h',tk,hd,hv,ht,F,N,hk=>by
  cases hv;rw[bD]at hd;subst hd;exact fin fY e h' tk ht F N hk
 |kv::r,done,vs,fY,e,h',tk,hd,hv,ht,F,N,hk=>by
  cases hv with
  |cons n t hv=>
   have la:=stays h' _ _ fY F N;obtain⟨pm,c',za,hf,hc⟩:=la.fn;obtain⟨tn,KZ⟩:=EN kv (by rw[<-hd];simp)
   refine KatKeys.cons (Cv (s:={s with heap:=h',toks:=tk}) jn hf hc la.lim la.cell la.dict KZ λT h2 U2 RG hT ext yC=>?_)
   have hkS:kS<h'.objs.size:=aB (N _ (.head _)).1;have hL:L<h'.objs.size:=F.ns.lt;have Yl:kS<T:=aw hkS yC;have N2:News h₀ L h2 ((kS,seqObj "list" (List.toArray (fY.map λp=>Value.ref p.1)) e)::(D,seqObj "list" #[] e1)::((fY++[(T,{cls:=.type "tuple",data:=.seq #[.int (-kv.2) RG,.int kv.1 t]})])++news)):=λp hp=>by
    have old:∀q∈((kS,seqObj "list" (List.toArray (fY.map λp=>Value.ref p.1)) e)::(D,seqObj "list" #[] e1)::(fY++news)),h2.get? q.1=some q.2/\q.1≠L/\h₀.get? q.1=none:=λq hq=>⟨ext _ _ (N q hq).1,(N q hq).2⟩
    rcases List.mem_cons.mp hp with rfl|hp
    ·exact old _ (.head _)
    rcases List.mem_cons.mp hp with rfl|hp
    ·exact old _ (.tail _ (.head _))
    rcases List.mem_append.mp hp with hp|hp
    ·rcases List.mem_append.mp hp with hp|hp
     ·exact old _ (.tail _ (.tail _ (bE _ hp)))
     ·rw[bw]at hp;subst hp;exact⟨hT,bz (aw hL yC),Heap.get?_none_of_le (aD F.above (bh (aw hL yC)))⟩
    ·exact old _ (.tail _ (.tail _ (aM _ hp)))
   have Ot:∀p∈fY++[((T,{cls:=.type "tuple",data:=.seq #[.int (-kv.2) RG,.int kv.1 t]}):cF×Obj)],kS<p.1:=λp hp=>by
    rcases List.mem_append.mp hp with hp|hp
    ·exact hk p hp
    ·rw[bw]at hp;subst hp;exact Yl
   refine⟨_,_,F.keeps ext,N2,.head λp hp=>?_,λh3 c3 F3 N3=>?_⟩
   ·rcases List.mem_cons.mp hp with rfl|hp
    ·exact aE WE
    ·rcases List.mem_append.mp hp with hp|hp
     ·exact bz (Ot p hp)
     ·exact aE (bJ (YN p hp) WE)
   ·have em:(fY.map λp=>Value.ref p.1)++[Value.ref T]=(fY++[((T,{cls:=.type "tuple",data:=.seq #[.int (-kv.2) RG,.int kv.1 t]}):cF×Obj)]).map λp=>Value.ref p.1:=by simp
    rw[em]at N3;show KatKeys P w A h₀ L m kS (.ref f) Fin _ ((fY.map λp=>Value.ref p.1)++[Value.ref T]) c3 {s with heap:=h3,toks:=U2}
    rw[em];refine Cw jn WE YN stays EN fin r (done++[kv]) _ _ c3 h3 U2 (by rw[<-hd];simp) hv ?_ F3 N3 Ot
    show u4 _ (hV (done++[kv]));unfold hV;rw[List.map_append];exact u4.snoc ht ⟨_,_,_,_,rfl,rfl⟩
end
end ST
namespace ST
open PySem PySem.Spec PySem.W PyProof.Rows DL L2
theorem xw {κ:Type} [DecidableEq κ]:∀{kvs:List (κ×V)}{k:κ}{v:V},(kvs.map (·.1)).Nodup->(k,v)∈kvs->r6 kvs k=some v
 |[],_,_,_,h=>by cases h
 |p::r,k,v,nd,h=>by
  rw[aF,List.nodup_cons]at nd;rcases List.mem_cons.mp h with rfl|h
  ·exact qD rfl
  ·rw[qE λz=>nd.1 (by rw[z];exact List.mem_map_of_mem (f:=(·.1)) h)]
   exact xw nd.2 h
theorem xx {α β:Type}{R:α->β->Prop}:∀{l:List α}{m:List β},Paired R l m->∀(i:Nat) (b:β),m[i]? =some b->∃a,l[i]? =some a/\R a b
 |_,_,.nil,i,b,h=>by simp at h
 |a::l,c::m,.cons r t,0,b,h=>by simp at h;subst h;exact⟨a,rfl,r⟩
 |a::l,c::m,.cons r t,i+1,b,h=>xx t i b (by simpa using h)
theorem vA:∀{vs:cx}{ns:cq},vs.length=ns.length->(∀(j:Nat) v,vs[j]? =some v->∃t,v=.int (ns.getD j 0) t)->IntsAre vs ns
 |[],[],_,_=>.nil
 |v::vs,n::ns,hl,h=>by
  obtain⟨t,e⟩:=h 0 v rfl;have e':v=.int n t:=by simpa using e
  subst e';exact .cons n t (vA (by simpa using hl) λj u hu=>by simpa using h (j+1) u (by simpa using hu))
 |[],_::_,hl,_=>by simp at hl
 |_::_,[],hl,_=>by simp at hl
theorem xy:∀{vs:cx}{ns:cq},IntsAre vs ns->∀i,i<ns.length->∃t,vs.getD i Value.none=.int (ns.getD i 0) t
 |_,_,.nil,i,h=>by simp at h
 |_,_,.cons n t r,0,h=>⟨t,rfl⟩
 |_,_,.cons n t r,i+1,h=>xy r i (by simpa using h)
section
variable {X:Cx}{pins:cn}{σ:L2.St}{H:Hp}{s:cz}{f cell a:cF}{qual:Str}{pa pu pp pS pU A8 pT:Pos}{kvs:List (Int×Int)}
theorem Cy (hc:X.calm=true) (hu:X.A.units+64<cLine) (jn:X.A.in1.in1.depth<recursionLimit) (I:Inv X pins σ H s) (hH:H a=some (.dK (wx kvs)))
  (NT:∃pm c' za,s.heap.get? f=some (kla_obj "<lambda>" qual (mr pa) (jA pu pp pS pU A8 pT) m7 [(Str.ofString "uses",cell)] pm c' za)/\s.heap.CodeRec (.ref c') qual) (sZ:s.heap.IsCell cell (some (.ref a)))
  (h1:1<=kvs.length) (En:kvs.length<64) {Q:VK}
  (q:∀(D0:cF) (l:cp),H D0=none->l.Perm (hV kvs)->l.Pairwise (λa b=>HT.lexLt b a=false)->Q (.ref D0) (upd H D0 (.lst (l.map λns=>V.int (ns.getD 1 0))))):
  wpAny (model X.prog X.w) X.A (call (.builtin "sorted") [.ref a] [(Str.ofString "key",.ref f)]) (EP X pins σ Q) X.xe s:=by
 obtain⟨z,lo,EW,rel,dd⟩:=OA I.fX hH;obtain⟨o,es,ep,ho,hex,hd,OB,K0,LQ⟩:=id dd;have YO:s.heap.DictAt (fy X.prog X.w) a EW ep:=⟨o,es,ho,hex,hd,OB,K0,LQ⟩;have hlen:EW.length=kvs.length:=by rw[<-rel.length];unfold wx;rw[ae]
 have hh:X.A.handled=none:=I.ok.hd hc;have la:zW X.prog X.w s.heap f cell a qual pa (jA pu pp pS pU A8 pT) EW:=⟨NT,I.nolimit,sZ,dd⟩;have EN:∀kv∈kvs,∃tn,valueAt EW (.inl kv.1)=some (.int kv.2 tn):=λkv Uc=>by
  have e:r6 (wx kvs) (.inl kv.1)=some (.int kv.2):=xw (by rw[rel.keys];exact LQ) (List.mem_map.mpr ⟨kv,Uc,rfl⟩)
  obtain⟨u,hw,tn,eu⟩:=qh.some_of (v:=.int kv.2) (o:=valueAt EW (.inl kv.1)) (by rw[<-e];exact rel.val _)
  exact⟨tn,by rw[hw,eu]⟩
 have isInt:∀(j:Nat) v k x,EW[j]? =some (k,x)->(fy X.prog X.w).is k v=true->∃t,v=.int ((kvs.map (·.1)).getD j 0) t:=λj v k x hk hv=>by
  obtain⟨p,hp,e1,_⟩:=xx rel j (k,x) hk;unfold wx at hp;rw[av]at hp;cases WG:kvs[j]? with
  |none=>rw[WG]at hp;cases hp
  |some kv=>
   rw[WG]at hp;cases hp;have e1':(Sum.inl kv.1:Key)=k:=e1;subst e1';obtain⟨t,e⟩:=Value.isInt_shape (k:=kv.1) (v:=v) hv;exact⟨t,by rw[e,ak,av,WG];rfl⟩
 have Q6:(hV kvs).length=kvs.length:=by unfold hV;rw[ae]
 have OD:∀i,i<kvs.length->∃kv,kvs[i]? =some kv/\(hV kvs)[i]? =some [-kv.2,kv.1]/\(hV kvs).getD i []=[-kv.2,kv.1]/\(kvs.map (·.1)).getD i 0=kv.1:=λi hi=>by
  refine⟨kvs[i],ah hi,?_,?_,?_⟩
  ·unfold hV;rw[av,ah hi];rfl
  ·unfold hV;rw[ak,av,ah hi];rfl
  ·rw[ak,av,ah hi];rfl
 by_cases h2:2<=kvs.length
 ·obtain⟨m,F⟩:=I.fr;have N:News X.base X.env.locals s.heap (j0 X.base s.heap X.env.locals):=wC;refine Np F N hh lo YO (by omega) (by omega) λvs D0 kS e1 h' tk hl hv F' N' l0 l1 yC=>?_
  have D7:s.heap.get? D0=none:=Heap.get?_none_of_le yC;have vq:∀{h':Heap}{o1 o2:Obj}{fY:cn},Fr X.base X.env.locals h' m->News X.base X.env.locals h' ((kS,o1)::(D0,o2)::(fY++j0 X.base s.heap X.env.locals))->∀b o,b≠X.env.locals->s.heap.get? b=some o->h'.get? b=some o:=λ{h' o1 o2 fY} F' N' b o hb e=>by
   cases g:X.base.get? b with
   |some u=>
    have:=I.bk b u g;rw[e]at this;cases this;exact F'.keep b _ g
   |none=>exact(N' (b,o) (.tail _ (.tail _ (aM _ (nL hb g e))))).1
  have WH:∀{b:cF}{o:Obj},s.heap.get? b=some o->(∀es ep,o.data≠.dict es ep)->b≠X.env.locals:=λ{b o} e nd zb=>by
   obtain⟨oL,es,ep,hL,S8,_⟩:=F.ns;rw[zb,hL]at e;cases e;exact nd _ _ S8
  have stays:∀h' o1 o2 fY,Fr X.base X.env.locals h' m->News X.base X.env.locals h' ((kS,o1)::(D0,o2)::(fY++j0 X.base s.heap X.env.locals))->zW X.prog X.w h' f cell a qual pa (jA pu pp pS pU A8 pT) EW:=λh' o1 o2 fY F' N'=>by
   have sj:=vq F' N';obtain⟨pm,c',za,e,c2,oc,vs2,t,zc,e2,r1,r2⟩:=NT;refine⟨⟨pm,c',za,sj _ _ (WH e λ_ _ z=>by cases z) e,c2,oc,vs2,t,zc,sj _ _ (WH e2 λ_ _ z=>by rw[r1]at z;cases z) e2,r1,r2⟩,I.ok.mod.nolimit.keeps F'.keep,?_,⟨o,es,ep,sj _ _ (λzz=>by rw[zz,I.free]at hH;cases hH) ho,hex,hd,OB,K0,LQ⟩⟩
   obtain⟨YQ,e3,e4⟩:=sZ;exact⟨YQ,sj _ _ (WH e3 λ_ _ z=>by rw[e4]at z;cases z) e3,e4⟩
  have hints:IntsAre vs (kvs.map (·.1)):=vA (by rw[ae];omega) λj v hj=>by
   obtain⟨k,x,hk,L7⟩:=hv j v hj;exact isInt j v k x hk L7
  refine Cw (s:=s) (kvs:=kvs) (news:=j0 X.base s.heap X.env.locals) (e1:=e1) jn l0 l1 stays EN (λfY e h' tk ht F' N' hk=>?_) kvs [] vs [] 0 h' tk rfl hints .nil F' N' (λp hp=>by cases hp)
  have tl:fY.length=kvs.length:=by rw[ht.length,Q6]
  have wZ:∀i,i<kvs.length->∃p,fY[i]? =some p/\(fY.map λp=>Value.ref p.1).getD i Value.none=.ref p.1/\TI h' (.ref p.1) ((hV kvs).getD i []):=λi hi=>by
   obtain⟨kv,_,ek,WI,_⟩:=OD i hi;obtain⟨p,hp,x,y,t,u,ep,ens⟩:=ht.get i _ ek;refine⟨p,hp,by rw[ak,av,hp];rfl,p.1,p.2,[.int x t,.int y u],0,rfl,(N' p (.tail _ (.tail _ (bE _ (bo hp))))).1,by rw[ep],by rw[ep],?_⟩
   rw[WI,ens];exact .cons x t (.cons y u .nil)
  refine Oy (s:={s with heap:=h',toks:=tk}) (λv hv=>?_) λκ hκ=>?_
  ·obtain⟨p,hp,rfl⟩:=List.mem_map.mp hv;obtain⟨i,hi⟩:=bq hp;have hil:i<kvs.length:=by rw[<-tl];exact(List.getElem?_eq_some_iff.mp hi).1
   obtain⟨p',EK,_,ti⟩:=wZ i hil;rw[hi]at EK;cases EK;exact⟨_,ti⟩
  rw[show vs.length=kvs.length by omega]
  have cmp:∀i j (R:Bool->cz->Prop),i<kvs.length->j<kvs.length->R (HT.lexLt ((hV kvs).getD i []) ((hV kvs).getD j [])) {s with heap:=h',toks:=tk}->kas_ask X.prog X.w X.A.in1.in1 κ (fY.map λp=>Value.ref p.1) i j R {s with heap:=h',toks:=tk}:=λi j R hi hj hR=>by
   obtain⟨p,_,ep,tp⟩:=wZ i hi;obtain⟨p',_,OT,tp'⟩:=wZ j hj;show wpAny _ _ (keyLt' _ ((fY.map λp=>Value.ref p.1).getD i Value.none) ((fY.map λp=>Value.ref p.1).getD j Value.none)) _ _ _
   rw[ep,OT];exact T8 tp tp' (by show X.A.units+1+1+8<cLine;omega) hκ hR
  refine So.rn (n:=kvs.length) cmp _ (So.wX (by omega)) ?_
  obtain⟨s1,s2⟩:=So.wV (lt:=λi j=>HT.lexLt ((hV kvs).getD i []) ((hV kvs).getD j [])) (rank:=λi=>rq (hV kvs) ((hV kvs).getD i [])) (λi j=>kN (lQ _ _) (lQ _ _)) kvs.length (by omega)
  generalize So.i6 _ (kas_sort kvs.length)=ar at s1 s2;have pm:ar.toList.Perm (List.range kvs.length):=by simpa using Array.perm_iff_toList_perm.mp s1
  have below:∀i∈ar.toList,i<kvs.length:=λi hi=>by simpa using pm.mem_iff.mp hi
  generalize jk:(ar.toList.map λi=>(hV kvs).getD i [])=l'
  have lp:l'.Perm (hV kvs):=by
   rw[<-jk];have:=pm.map λi=>(hV kvs).getD i []
   have e:(List.range kvs.length).map (λi=>(hV kvs).getD i [])=hV kvs:=by rw[<-Q6];exact mQ (hV kvs) []
   rw[e]at this;exact this
  refine⟨_,_,F',N',.head λp hp=>?_,λh2 c F2 N2=>⟨_,_,F2,N2,.tail (bz l0) (.head λp hp=>?_),λh3 c3 F3 N3=>?_⟩⟩
  ·rcases List.mem_cons.mp hp with rfl|hp
   ·exact aE l0
   ·rcases List.mem_append.mp hp with hp|hp
    ·exact bz (hk p hp)
    ·exact aE (bJ (l1 p hp) l0)
  ·rcases List.mem_append.mp hp with hp|hp
   ·exact bz (bJ l0 (hk p hp))
   ·exact aE (l1 p hp)
  have hD:H D0=none:=I.fX.fresh yC;have jN:=vq F3 N3;have Tc:h3.get? D0=some {cls:=.type "list",data:=.seq (List.toArray (ar.toList.map λi=>vs.getD i Value.none)) c3}:=(N3 _ (.tail _ (.head _))).1
  refine⟨.ref D0,upd H D0 (.lst (l'.map λns=>V.int (ns.getD 1 0))),?_,rfl,q D0 l' hD lp ?_⟩
  ·show Inv X pins σ _ {s with heap:=h3,gens:=s.gens,drawn:=s.drawn,toks:=tk}
   refine I.step (g':=s.gens) (d':=s.drawn) (t':=tk) (ch:=[]) (λ_ z=>nomatch z) (λb o h1 _ _ e _=>jN b o h1 e) (λb o h1 _ _ e _=>⟨o.slots,jN b o h1 e⟩) (λb o _ e hn=>?_) (λb o _ e=>?_) (λb xs e=>?_) (λb o xs e=>?_) (λb ps e=>⟨#[],?_⟩) (λm' hm=>?_) (λb u e=>?_) I.bare
   ·rw[cV (λz=>by rw[z,D7]at e;cases e)];exact hn
   ·by_cases hb:b=X.env.locals
    ·obtain⟨o',_,_,e',_⟩:=F3.ns;exact⟨o',by rw[hb];exact e'⟩
    ·exact⟨o,jN b o hb e⟩
   ·rw[cV (cY e hD)];exact e
   ·rw[cV (cY e hD)];exact e
   ·rw[cV (cY e hD),e];simp
   ·rw[Em hm F.ns];exact F3.ns
   ·by_cases hb:b=D0
    ·subst hb;rw[dc]at e;cases e;refine⟨by rw[ae,lp.length_eq,Q6];exact bh (kM (by omega)),_,c3,?_,Tc⟩
     rw[<-jk,aW];have aux:∀k:List Nat,(∀i∈k,i<kvs.length)->Vals (k.map ((λns:cq=>V.int (ns.getD 1 0))∘λi=>(hV kvs).getD i [])) (k.map λi=>vs.getD i Value.none):=λk=>by
      induction k with
      |nil=>intro _;exact .nil
      |cons i k ih=>
       intro hb;obtain⟨kv,_,_,WI,ek3⟩:=OD i (hb i af);obtain⟨t,et⟩:=xy hints i (by rw[ae];exact hb i af)
       refine .cons ?_ (ih λj hj=>hb j (ai _ hj))
       have ev:((λns:cq=>V.int (ns.getD 1 0))∘λi=>(hV kvs).getD i []) i=V.int kv.1:=by
        show V.int (((hV kvs).getD i []).getD 1 0)=_;rw[WI];rfl
       have rv:RelV (V.int kv.1) (vs.getD i Value.none):=by rw[et,ek3];exact⟨t,rfl⟩
       rw[<-ev]at rv;exact rv
     exact aux ar.toList below
    ·rw[cV hb]at e;refine(I.fX b u e).An (λk v hk z=>jN k v ?_ z) (λk z=>by rw[cV (cY z hD)];exact z) λk xs z=>by rw[cV (cY z hD)];exact z
     rcases hk with rfl|hk
     ·intro z;rw[z,I.free]at e;cases e
     ·intro z;rw[z,I.free]at hk;cases hk
  ·rw[<-jk,List.pairwise_map,List.pairwise_iff_getElem];intro i j hi hj wM;have sz:ar.size=kvs.length:=by simpa using s1.size_eq
   have zM:i<ar.size:=by simpa using hi
   have IB:j<ar.size:=by simpa using hj
   have le:=s2 i j (bh wM) (by omega)
   unfold So.kk at le;rw[aU,aU,aV zM,aV IB]at le;simp only[Option.getD_some]at le;have e:=kN (nss:=hV kvs) (a:=(hV kvs).getD (ar[j]) []) (b:=(hV kvs).getD (ar[i]) []) (lQ _ _) (lQ _ _);simp only[Array.getElem_toList];rw[e];exact aH (by omega)
 ·have QT:kvs.length=1:=by omega
  obtain⟨kv,rfl⟩:∃kv,kvs=[kv]:=by
   match kvs,QT with
   |[kv],_=>exact⟨kv,rfl⟩
  refine KU hh lo YO (by omega) (λg tk v hk ext=>?_) λD0 v h' c tk hk hD yC keep=>?_
  ·obtain⟨k,x,UQ,hv⟩:=hk;obtain⟨t,rfl⟩:=isInt 0 v k x UQ hv;have lg:=la.keeps ext;obtain⟨pm,c',za,hf,uG⟩:=lg.fn;obtain⟨tn,KZ⟩:=EN kv (by simp)
   exact Cv (s:={s with heap:=g,toks:=tk}) (p:=kv.1) jn hf uG lg.lim lg.cell lg.dict KZ λT h2 U2 RG hT e2 yC=>⟨h2,U2,rfl,e2⟩
  ·obtain⟨k,x,UQ,hv⟩:=hk;obtain⟨t,rfl⟩:=isInt 0 v k x UQ hv;have BW:H D0=none:=I.fX.fresh yC;exact⟨.ref D0,_,I.laid (t':=tk) (o:=.lst ([[-kv.2,kv.1]].map λns=>V.int (ns.getD 1 0))) keep yC ⟨by show(1:Nat)<=_;decide,[.int kv.1 t],c,.cons ⟨t,rfl⟩ .nil,hD⟩,rfl,q D0 [[-kv.2,kv.1]] BW (List.Perm.refl _) (by simp)⟩
end
end ST
namespace DL
open PySem PySem.Spec PyProof.Rows L2
open ST (wx hV)
def lU (kvs:List (Int×Int)):D:=.lst (kvs.map λkv=>.tup [.int kv.1,.int kv.2])
def pairD:D->Option (Int×Int)
 |.tup [.int a,.int b]=>some (a,b)
 |_=>none
def tabs:cw->Option (List (Int×Int))
 |[]=>some []
 |d::r=>(pairD d).bind λp=>(tabs r).map λl=>p::l
def A9:D->Option (List (Int×Int))
 |.lst ds=>tabs ds
 |_=>none
theorem Cz:∀kvs:List (Int×Int),tabs (kvs.map λkv=>D.tup [.int kv.1,.int kv.2])=some kvs
 |[]=>rfl
 |kv::r=>by
  show(pairD (.tup [.int kv.1,.int kv.2])).bind _=_;rw[show pairD (.tup [.int kv.1,.int kv.2])=some kv from rfl]
  simp only[ao];rw[Cz r];rfl
theorem Ba (kvs:List (Int×Int)):A9 (lU kvs)=some kvs:=Cz kvs
theorem CA {a b:List (Int×Int)}(h:lU a=lU b):a=b:=by
 have:=congrArg A9 h;rw[Ba,Ba]at this;exact aT this
theorem K1 {d:D}{p:Int×Int}(h:pairD d=some p):d=.tup [.int p.1,.int p.2]:=by
 unfold pairD at h;split at h
 ·cases h;rfl
 ·cases h
theorem Gr:∀{ds:cw}{kvs:List (Int×Int)},tabs ds=some kvs->ds=kvs.map λkv=>D.tup [.int kv.1,.int kv.2]
 |[],_,h=>by cases h;rfl
 |d::r,kvs,h=>by
  unfold tabs at h;cases h1:pairD d with
  |none=>rw[h1]at h;cases h
  |some p=>
   rw[h1]at h;simp only[ao]at h;cases h2:tabs r with
   |none=>rw[h2]at h;cases h
   |some l=>rw[h2]at h;cases h;rw[Gr h2,K1 h1];rfl
theorem Gs {k:D}{kvs:List (Int×Int)}(h:A9 k=some kvs):k=lU kvs:=by
 cases k with
 |lst ds=>exact congrArg D.lst (Gr h)
 |_=>cases h
@[reducible] def eY (a:cF):Mem where
 cell:=some a
 face:=some a
 ok:=λC H=>C a=none/\∃kvs,H a=some (.dK kvs)
 has:=λ_ H k=>∀kvs,k=lU kvs->H a=some (.dK (wx kvs))
 rel:=λC H C' H'=>(C a=none/\∃kvs,H a=some (.dK kvs))->C' a=none/\∀u,H a=some u->H' a=some u
 of0:=λ{C H C' H'} e ⟨hc,kvs,hk⟩=>⟨by
  cases q:C' a with
  |none=>rfl
  |some u=>rcases e.n a u q with z|z<;>simp_all,λu q=>e.h a u q⟩
 trans:=λ{C H C' H' C2 H2} r1 r2 ⟨hc,kvs,hk⟩=>by
  obtain⟨a1,a2⟩:=r1 ⟨hc,kvs,hk⟩;obtain⟨b1,b2⟩:=r2 ⟨a1,kvs,a2 _ hk⟩;exact⟨b1,λu q=>b2 u (a2 u q)⟩
 chg:=λ{C H C' H' b o} r hn ⟨hc,kvs,hk⟩=>by
  obtain⟨a1,a2⟩:=r ⟨hc,kvs,hk⟩;exact⟨a1,λu q=>by rw[cV (cY q hn)];exact a2 u q⟩
 give:=λ{C H C' H' b o} r hcb hb hx ⟨hc,kvs,hk⟩=>by
  obtain⟨a1,a2⟩:=r ⟨hc,kvs,hk⟩;have jZ:a≠b:=λz=>by
   have:=a2 _ hk;rw[z,hb]at this;cases this;cases hx
  exact⟨by rw[cV jZ];exact a1,a2⟩
 SS:=λr ⟨hc,kvs,hk⟩=>⟨(r ⟨hc,kvs,hk⟩).1,kvs,(r ⟨hc,kvs,hk⟩).2 _ hk⟩
 Jt:=λr h hh kvs e=>(r h).2 _ (hh kvs e)
 Rz:=λ{C H b o} ⟨hc,kvs,hk⟩ hb=>⟨hc,kvs,by rw[cV (λz=>by subst z;have:=hb _ hk;cases this)];exact hk⟩
 Hg:=λ{C H b o k} ⟨hc,WJ,hk⟩ hb hh kvs e=>by rw[cV (λz=>by subst z;have:=hb _ hk;cases this)];exact hh kvs e
 SU:=λ{C H b o} ⟨hc,kvs,hk⟩ hcb hb hx=>⟨by rw[cV (λz=>by subst z;rw[hk]at hb;cases hb;cases hx)];exact hc,kvs,hk⟩
 Ju:=λ_ _ _ _ hh=>hh
def wy (i:Nat) (fr:cc):cc:=λδ=>if noOwn δ=true/\i<δ.length then(fr (δ.set i (.memo [lU []]))).bind (rZ i)else none
section
variable {X:Cx}{e:cG}{es:List cG}{p pos pos':Pos}{x:Str}{a:cF}{C0 H0:Hp}{rest:List cH}
theorem Gu {C H C1 H1 C2 H2:Hp}(e1:mE C H C1 H1) (hn:H a=none) (e2:@Ev (eY a) C1 H1 C2 H2):mE C H C2 H2:=by
 letI:=eY a
 refine⟨e1.c.trans e2.c,λb o q=>?_,e2.s,λb u q=>?_⟩
 ·have hb:b≠a:=λz=>by subst z;rw[hn]at q;cases q
  exact e2.h b o (e1.h b o q) (.inl λz=>hb (aT z).symm)
 ·rcases e2.n b u q with z|z
  ·exact e1.n b u z
  ·exact .inr (e1.h.free z)
theorem Bb {B C0 H0 C H C2 H2:Hp}{δ δ':dR}{σ σ':L2.St}{i:Nat}(g:@Gd Mem.keep B C0 H0 δ σ C H) (hn:H a=none) (g2:@Gd (eY a) B C H δ' σ' C2 H2) (hm:mU (δ'.set i .no)=true):
  @Gd Mem.keep B C0 H0 (δ'.set i .no) σ' C2 H2:=by
 have e1:mE C0 H0 C H:=(@Gd.ev Mem.keep _ _ _ _ _ _ _ g).pX;have e2:mE C0 H0 C2 H2:=Gu e1 (e1.h.free hn) (@Gd.ev (eY a) _ _ _ _ _ _ _ g2);have x2:=@Gd.x (eY a) _ _ _ _ _ _ _ g2;have own:∀{k:Nat}{ds:cw},(δ'.set i Sl.no)[k]? =some (.own ds)->δ'[k]? =some (.own ds):=λ{k ds} q=>by
  rcases getElem?_set_cases q with⟨_,z⟩|⟨_,z⟩
  ·cases z
  ·exact z
 letI:=Mem.keep
 refine⟨@Gd.b (eY a) _ _ _ _ _ _ _ g2,e2.up,⟨e2.s,λk d q=>?_,λk ds q=>@Sx.own (eY a) _ _ _ _ x2 k ds (own q),λk l ds es b q1 q2=>@Sx.yM (eY a) _ _ _ _ x2 k l ds es b (own q1) (own q2),by rw[List.length_set];exact @Sx.len (eY a) _ _ _ _ x2,λk ks q=>(rB hm q).elim⟩,λk ds b q1 q2=>?_⟩
 ·rcases getElem?_set_cases q with⟨_,z⟩|⟨_,z⟩
  ·cases z
  ·exact @Sx.dat (eY a) _ _ _ _ x2 k d z
 ·exact e1.h.free (@Gd.fr (eY a) _ _ _ _ _ _ _ g2 k ds b (own q1) q2)
theorem EX (i:Nat) {y:Str}{py pd:Pos}{fr:cc}(hN:X.N.Nodup)
  (hr:∀(a:cF) (C1 H1:Hp),H1 a=none->@yB (eY a) X C1 H1 rest fr) (hi:X.N[i]? =some y:=by rfl) (hx:Loc X.env.scope y:=by first|exact Or.inl rfl|exact Or.inr rfl) (hs:swapsWith (.Dict [] [] pd) (some (.Name y py)) pos.line X.env=pure false:=by rfl) (hf:X.fn y=true\/X.env.scope.names.lookup y=some .local:=by first|exact .inl rfl|exact .inr rfl):
  @yB Mem.keep X C0 H0 (.Assign [.Name y py] (.Dict [] [] pd) pos::rest) (wy i fr):=λB=>by
 have ex:yA X rest (λDn σ H=>∃(a:cF) (C1 H1:Hp),H1 a=none/\@tS (eY a) B C1 H1 fr Dn σ H):=λpins s σ H Dn I ⟨a,C1,H1,hn,q⟩=>hr a C1 H1 hn B pins s σ H Dn I q
 refine(qm (wG hN hi hx (KQ (pos:=pd)) hs hf) ex).imp λDn σ H ⟨C,δ,r,gd,q,fin⟩=>?_
 unfold wy at q;split at q
 case isFalse=>cases q
 rename_i hc;obtain⟨u0,hlen⟩:=hc;cases BW:fr (δ.set i (.memo [lU []]))with
 |none=>rw[BW]at q;cases q
 |some r'=>
  rw[BW]at q;simp only[ao]at q;intro t ht;have x0:=@Gd.x Mem.keep _ _ _ _ _ _ _ gd;have sub:=@Sx.sub Mem.keep _ _ _ _ x0;have UN:C t=none:=sub.free ht;have MY:dZ C (upd H t (.dK [])):=sub.trans (eR ht);have e1:mE C0 H0 C H:=(@Gd.ev Mem.keep _ _ _ _ _ _ _ gd).pX;have e0:mE C H C (upd H t (.dK [])):=.gK sub ht;have g1:@Gd (eY t) B C H (δ.set i (.memo [lU []])) (σ.set i (some (.ref t))) C (upd H t (.dK [])):=by
   letI:=eY t
   have hl:=@Sx.len Mem.keep _ _ _ _ x0;refine⟨@Gd.b Mem.keep _ _ _ _ _ _ _ gd,e0.up,⟨MY,λk d z=>?_,λk ds z=>?_,λk l ds es b z=>?_,by simp[hl],λk ks z=>?_⟩,λk ds b z=>?_⟩
   ·rcases getElem?_set_cases z with⟨_,z⟩|⟨hk,z⟩
    ·cases z
    ·obtain⟨v,h1,h2⟩:=@Sx.dat Mem.keep _ _ _ _ x0 k d z;exact⟨v,by rw[aG (Ne.symm hk)];exact h1,h2⟩
   ·rcases getElem?_set_cases z with⟨_,z⟩|⟨hk,z⟩
    ·cases z
    ·exact(j7 u0 z).elim
   ·rcases getElem?_set_cases z with⟨_,z⟩|⟨hk,z⟩
    ·cases z
    ·exact(j7 u0 z).elim
   ·rcases getElem?_set_cases z with⟨rfl,z'⟩|⟨hk,z⟩
    ·cases z';refine⟨t,rfl,by rw[bf (by rw[<-hl];exact hlen)],⟨UN,[],dc⟩,λk hk kvs e=>?_⟩
     rw[bw]at hk;subst hk;have:=CA e;subst this;exact dc
    ·obtain⟨b,h1,_⟩:=@Sx.mem Mem.keep _ _ _ _ x0 k ks z;cases h1
   ·rcases getElem?_set_cases z with⟨_,z⟩|⟨hk,z⟩
    ·cases z
    ·exact(j7 u0 z).elim
  refine⟨t,C,H,ht,C,_,r',g1,BW,?_⟩;cases r' with
  |next δ'=>
   simp only[rZ]at q;split at q
   ·rename_i hm;cases q;exact λσ' C2 H2 g2=>fin σ' C2 H2 (Bb gd ht g2 hm)
   ·cases q
  |ret d=>
   cases q;exact λv C2 H2 ev iv=>fin v C2 H2 (@mE.up _ _ _ _ Mem.keep (Gu e1 (e1.h.free ht) ev)) iv
  |brk δ'=>
   simp only[rZ]at q;split at q
   ·rename_i hm;cases q;exact λσ' C2 H2 g2=>fin σ' C2 H2 (Bb gd ht g2 hm)
   ·cases q
  |cont δ'=>
   simp only[rZ]at q;split at q
   ·rename_i hm;cases q;exact λσ' C2 H2 g2=>fin σ' C2 H2 (Bb gd ht g2 hm)
   ·cases q
theorem EY (i:Nat) {y:Str}{py pd:Pos}{fr:cc}(hN:X.N.Nodup)
  (hr:∀(a:cF) (C1 H1:Hp),H1 a=none->@qx (eY a) X C1 H1 rest fr) (hi:X.N[i]? =some y:=by rfl) (hx:Loc X.env.scope y:=by first|exact Or.inl rfl|exact Or.inr rfl) (hs:swapsWith (.Dict [] [] pd) (some (.Name y py)) pos.line X.env=pure false:=by rfl) (hf:X.fn y=true\/X.env.scope.names.lookup y=some .local:=by first|exact .inl rfl|exact .inr rfl):
  @qx Mem.keep X C0 H0 (.Assign [.Name y py] (.Dict [] [] pd) pos::rest) (wy i fr):=
 @qx.mk Mem.keep _ _ _ _ _ (EX i hN (λa C1 H1 hn=>@qx.go (eY a) _ _ _ _ _ (hr a C1 H1 hn)) hi hx hs hf)
end
end DL
namespace DL
open PySem PySem.Spec PyProof.Rows L2
open ST (wx hV)
def EZ (kvs:List (Int×Int)) (p:Int):Int:=((kvs.find? λkv=>decide (kv.1=p)).map (·.2)).getD 0
def oS (kvs:List (Int×Int)) (p:Int):List (Int×Int):=
 if(kvs.any λkv=>decide (kv.1=p))=true then kvs.map (λkv=>if kv.1=p then(kv.1,EZ kvs p+1)else kv)else kvs++[(p,EZ kvs p+1)]
theorem Q7 (a b:Int):decide ((Sum.inl a:Key)=Sum.inl b)=decide (a=b):=by
 by_cases h:a=b
 ·subst h;simp
 ·rw[aH h,aH (λz=>h (Sum.inl.inj z))]
theorem Gv (p:Int):∀kvs:List (Int×Int),r6 (wx kvs) (.inl p)=((kvs.find? λkv=>decide (kv.1=p)).map (·.2)).map V.int
 |[]=>rfl
 |kv::r=>by
  have ih:=Gv p r;unfold wx at ih ⊢;rw[aF,List.find?_cons];by_cases h:kv.1=p
  ·rw[qD (by show(Sum.inl kv.1:Key)=_;rw[h]),aS h];rfl
  ·rw[qE (λz=>h (Sum.inl.inj z)),aH h,ih]
theorem Nq (kvs:List (Int×Int)) (p:Int):(r6 (wx kvs) (.inl p)).getD (.int 0)=.int (EZ kvs p):=by
 rw[Gv];unfold EZ;cases (kvs.find? λkv=>decide (kv.1=p))<;>rfl
theorem Nr (kvs:List (Int×Int)) (p:Int):putK (wx kvs) (.inl p) (.int (EZ kvs p+1))=wx (oS kvs p):=by
 have ha:((wx kvs).any λkv=>decide (kv.1=(Sum.inl p:Key)))=kvs.any λkv=>decide (kv.1=p):=by
  unfold wx;rw[List.any_map]
  congr 1
  funext kv
  exact Q7 kv.1 p
 unfold putK oS;rw[ha];split
 ·unfold wx;rw[aW,aW];refine bU λkv _=>?_
  simp only[Function.comp_apply];by_cases h:kv.1=p
  ·rw[if_pos (by rw[h]),if_pos h]
  ·rw[if_neg (λz=>h (Sum.inl.inj z)),if_neg h]
 ·unfold wx;rw[List.map_append];rfl
def wz (i:Nat) (f:cf):cc:=λδ=>match δ[i]?,f δ with
 |some (.memo [k]),some (.int p)=>(A9 k).bind λkvs=>if kvs.length<1000/\mU (δ.set i .no)=true then some (.next (δ.set i (.memo [lU (oS kvs p)])))else none
 |_,_=>none
section
variable {X:Cx}{o1 o2 k1 k2 e:cG}{p pos pos' apos gm pb pz U3 kp:Pos}{a:cF}{C0 H0:Hp}{i j j2:Nat}{f:cf}
theorem HR (hn:H0 a=none) (hu:X.A.units+64<cLine) (vp:PE X o1 (gI i)) (QT:@PD (eY a) X k1 f) (m:M2 X o1 "get" apos k1 (.Constant (.int 0) j pz) gm) (vN:PE X o2 (gI i)) (Ot:@PD (eY a) X k2 f)
  (hs:swapsWith (.BinOp (.Call (.Attribute o1 "get" apos) [k1,.Constant (.int 0) j pz] [] gm) .Add (.Constant (.int 1) j2 U3) pb) (some (.Subscript o2 k2 pos')) pos.line X.env=pure false:=by rfl):
  @PB (eY a) X C0 H0 (.Assign [.Subscript o2 k2 pos'] (.BinOp (.Call (.Attribute o1 "get" apos) [k1,.Constant (.int 0) j pz] [] gm) .Add (.Constant (.int 1) j2 U3) pb) pos) (wz i f):=λB=>by
 letI:=eY a
 refine(Nn (by omega) vN Ot (N1 IV (KR (by omega) vp QT DM m) DM) hs).imp λDn σ H ⟨C,δ,r,gd,q,fin⟩=>?_
 unfold wz at q;split at q
 case h_2=>cases q
 rename_i k p' hi hf;cases hk:A9 k with
 |none=>rw[hk]at q;cases q
 |some kvs=>
  rw[hk]at q;simp only[ao]at q;split at q
  case isFalse=>cases q
  rename_i hc;cases q;have ek:=Gs hk;have at_:∀{C' H':Hp},Gd B C0 H0 δ σ C' H'->σ[i]? =some (some (.ref a))/\C' a=none/\H' a=some (.dK (wx kvs)):=λ{C' H'} g=>by
   obtain⟨a',z1,z2,z3,z4⟩:=g.x.mem i [k] hi;cases z1;exact⟨z2,z3.1,z4 k (by simp) kvs ek⟩
  have lt:kvs.length<sizeLine:=aw hc.1 (by decide)
  have lt':(wx kvs).length<sizeLine:=by unfold wx;rw[ae];exact lt
  refine⟨.ref a,(at_ gd).1,a,rfl,.inl ⟨_,.inl (at_ gd).2.2⟩,C,δ,.int p',gd.x,hf,λv1 C1 H1 e1 i1=>?_⟩
  have g1:=gd.AK e1;have v1e:v1=.int p':=by cases i1;rfl
  subst v1e;refine⟨r6 (wx kvs) (.inl p'),KN.k (k:=.inl p') (at_ g1).2.2,?_⟩;refine⟨EZ kvs p',1,Nq kvs p',rfl,?_⟩;refine⟨.ref a,(at_ g1).1,C1,δ,.int p',g1.x,hf,λv2 C2 H2 e2 i2=>?_⟩
  have g2:=g1.AK e2;have v2e:v2=.int p':=by cases i2;rfl
  subst v2e;refine⟨a,upd H2 a (.dK (putK (wx kvs) (.inl p') (.int (EZ kvs p'+1)))),rfl,KO.k (k:=.inl p') (at_ g2).2.2 lt',?_⟩;rw[Nr];have hC:=(at_ g2).2.1;have hH:=(at_ g2).2.2;have xs:=g2.x;refine fin σ C2 _ ⟨g2.b,g2.ev.FG hn hC _,⟨λb u z=>?_,λn d z=>?_,λn ds z=>?_,λn l ds es b z1 z2=>?_,by rw[List.length_set];exact xs.len,λn ks z=>?_⟩,λn ds b z1 z2=>?_⟩
  ·rw[cV (λzz=>by rw[zz,hC]at z;cases z)];exact xs.sub b u z
  ·rcases getElem?_set_cases z with⟨_,z⟩|⟨_,z⟩
   ·cases z
   ·exact xs.dat n d z
  ·rcases getElem?_set_cases z with⟨_,z⟩|⟨_,z⟩
   ·cases z
   ·obtain⟨b,ys,y1,y2,y3,y4⟩:=xs.own n ds z;exact⟨b,ys,y1,y2,by rw[cV (λzz=>by rw[zz,hH]at y3;cases y3)];exact y3,y4⟩
  ·rcases getElem?_set_cases z1 with⟨_,z1⟩|⟨_,z1⟩
   ·cases z1
   rcases getElem?_set_cases z2 with⟨_,z2⟩|⟨_,z2⟩
   ·cases z2
   exact xs.yM n l ds es b z1 z2
  ·rcases getElem?_set_cases z with⟨rfl,z'⟩|⟨jZ,z'⟩
   ·cases z';refine⟨a,rfl,(at_ g2).1,⟨hC,_,dc⟩,λk' yT WJ e'=>?_⟩
    rw[bw]at yT;subst yT;have:=CA e';subst this;exact dc
   ·exact(rB hc.2 (i:=n) (ds:=ks) (by rw[aG (Ne.symm jZ)];exact z')).elim
  ·rcases getElem?_set_cases z1 with⟨_,z1⟩|⟨_,z1⟩
   ·cases z1
   ·exact g2.fr n ds b z1 z2
theorem HS (hn:H0 a=none) (hu:X.A.units+64<cLine) (vp:PE X o1 (gI i)) (QT:@WD (eY a) X k1 f) (vN:PE X o2 (gI i)) (Ot:@WD (eY a) X k2 f) (m:M2 X o1 "get" apos k1 (.Constant (.int 0) j pz) gm:=by exact⟨rfl,rfl,rfl,rfl⟩)
  (hs:swapsWith (.BinOp (.Call (.Attribute o1 "get" apos) [k1,.Constant (.int 0) j pz] [] gm) .Add (.Constant (.int 1) j2 U3) pb) (some (.Subscript o2 k2 pos')) pos.line X.env=pure false:=by rfl):
  @WB (eY a) X C0 H0 (.Assign [.Subscript o2 k2 pos'] (.BinOp (.Call (.Attribute o1 "get" apos) [k1,.Constant (.int 0) j pz] [] gm) .Add (.Constant (.int 1) j2 U3) pb) pos) (wz i f):=by
 letI:=eY a
 exact⟨HR hn hu vp QT.go m vN Ot.go hs⟩
def rE (i:Nat):cb:=λδ=>match δ[i]? with
 |some (.memo [k])=>(A9 k).bind λkvs=>if 1<=kvs.length/\kvs.length<64 then some ((gY (hV kvs)).map λns=>.int (ns.getD 1 0))else none
 |_=>none
theorem CB {x qual:Str}{c Pt:cF}{vS pa pu pp pS pU A8 pT:Pos}(hc:X.calm=true) (hu:X.A.units+64<cLine) (jn:X.A.depth+5<recursionLimit) (hg:Gl X "sorted") (hm:X.mg "sorted"=none) (hN:X.N[i]? =some (Str.ofString "uses")) (hk:X.env.kindOf (Str.ofString "uses")=some .cell)
  (hT:(x,vS,qual)∈vK) (ht:W.tabIn X.K x=some (c,Pt)) (hq:X.env.qual++Str.ofString "<lambda>"=qual) (zV:X.env.code=.ref c) (vp:PE X o1 (gI i))
  (he:backTo pos (starEach [o1] X.env)=(false,eval o1 X.env)::backTo pos (starEach [] X.env)):
  @PF (eY a) X (.Call (.Name "sorted" p) [o1] [⟨some "key",.Lambda (mr pa) (jA pu pp pS pU A8 pT) m7 vS,kp⟩] pos) (rE i):=by
 letI:=eY a
 intro pins s σ H Q I ⟨C,δ,ds,sx,q,k⟩;unfold rE at q;split at q
 case h_2=>cases q
 rename_i k' hi;cases Uc:A9 k' with
 |none=>rw[Uc]at q;cases q
 |some kvs=>
  rw[Uc]at q;simp only[ao]at q;split at q
  case isFalse=>cases q
  rename_i hlen;cases q;obtain⟨a',z1,z2,z3,z4⟩:=sx.mem i [k'] hi;cases z1;have hH:H a=some (.dK (wx kvs)):=z4 k' (by simp) kvs (Gs Uc)
  obtain⟨cell,wO⟩:=I.ok.has (Str.ofString "uses") (.inl hk);refine wpAny_Call_Name_kw (qj I hg hm i7 ?_);refine callWith_kw ?_ he (by rw[he];rfl) rfl rfl
  rw[he];refine Calls.spliced_cons (iu (vp pins s σ H (λy H'=>y=.ref a/\H'=H) I ⟨.ref a,z2,rfl,rfl⟩) λu s1 ⟨y,H1,I1,r1,e1,e2⟩=>?_)
  subst e1 e2;obtain rfl:u=Value.ref a:=r1;refine Calls.spliced_nil ?_;refine kws_cons (KY I1 hT ht hq zV wO λH2 s2 f c' L=>kws_nil ?_)
  have SN:H2 a=some (.dK (wx kvs)):=by
   rcases L.new with e|⟨u,hn,e⟩
   ·rw[e];exact hH
   ·rw[e,cV (cY hH hn)];exact hH
  have sZ:s2.heap.IsCell cell (some (.ref a)):=by
   obtain⟨m,hn,hl⟩:=L.inv.loc;obtain⟨u,r,lk⟩:=hl i (Str.ofString "uses") (.ref a) hN z2 (.inr (.inl hk));obtain rfl:u=Value.ref a:=r;rcases lk with⟨yT,_⟩|⟨_,c2,vk,Ru⟩
   ·rw[hk]at yT;cases yT
   ·rw[wO]at vk;cases vk;exact Ru
  obtain⟨pm,za,NT⟩:=L.fn;refine ST.Cy hc hu (by show X.A.depth<_;omega) L.inv SN ⟨pm,c',za,NT,L.cd⟩ sZ hlen.1 hlen.2 λD0 l hD lp pw=>?_
  have el:l=gY (hV kvs):=gC (λa b h1 h2=>HT.gX h2 h1) (lp.trans (fM _).symm) pw (tW _)
  have U4:mE C H1 C H2:=by
   rcases L.new with e|⟨u,hn,e⟩
   ·rw[e];exact .refl sx.sub
   ·rw[e];exact .gK sx.sub hn
  have hD1:H1 D0=none:=U4.h.free hD;have hv:l.map (λns=>V.int (ns.getD 1 0))=(l.map λns=>ns.getD 1 0).map V.int:=by rw[aW];rfl
  have hd:(gY (hV kvs)).map (λns=>D.int (ns.getD 1 0))=(l.map λns=>ns.getD 1 0).map D.int:=by rw[<-el,aW];rfl
  rw[hv];rw[hd]at k;exact k D0 _ C _ (U4.trans (.gK U4.s hD)).up hD1 (U4.s.free hD) dc (.ints _)
theorem CC {x qual:Str}{c Pt:cF}{vS pa pu pp pS pU A8 pT:Pos}(hc:X.calm=true) (hu:X.A.units+64<cLine) (jn:X.A.depth+5<recursionLimit) (hg:Gl X "sorted") (hm:X.mg "sorted"=none) (hN:X.N[i]? =some (Str.ofString "uses")) (hk:X.env.kindOf (Str.ofString "uses")=some .cell)
  (hT:(x,vS,qual)∈vK) (ht:W.tabIn X.K x=some (c,Pt)) (hq:X.env.qual++Str.ofString "<lambda>"=qual) (zV:X.env.code=.ref c) (vp:PE X o1 (gI i))
  (he:backTo pos (starEach [o1] X.env)=(false,eval o1 X.env)::backTo pos (starEach [] X.env):=by rfl):
  @WF (eY a) X (.Call (.Name "sorted" p) [o1] [⟨some "key",.Lambda (mr pa) (jA pu pp pS pU A8 pT) m7 vS,kp⟩] pos) (rE i):=by
 letI:=eY a
 exact⟨CB hc hu jn hg hm hN hk hT ht hq zV vp he⟩
end
end DL
namespace DL
open PySem PySem.Spec PyProof.Rows L2
theorem _root_.L2.gn.ten {k:Nat}{A:cD}(r:gn k A):A.depth+5<recursionLimit:=by have:=r.dp;omega
theorem K2 {K:W.Frag}{x:Str}{f c P:cF}{fd:cA}{oc:cy}{od:cu}{sl:cv}(a:W.nsIn K mainGlobals x=some (some (.ref f))) (l:K.lookup f=some ⟨oc,od,.func fd,sl⟩) (h:W.tabIn K x=some (c,P)):fd.code=.ref c:=by
 unfold W.tabIn at h;rw[a]at h;simp only[l]at h;split at h
 ·rename_i c' hc;split at h
  ·split at h
   ·cases h;exact hc
   ·cases h
  ·cases h
 ·cases h
theorem Nt {P:cB}{w:cC}{K:W.Frag}{mg:cm}{base:Heap}{x qual:Str}{st:cH}{f:cF}{fd:cA}{N ps:List Str}{k:Nat}(F:mN K x qual st f fd) (S:dD N ps (cO st)) {fb:cc}
  (js:∀(A:cD) (outer:List Env) (s:cz) (H:Hp) (E:XK),gn k (A.deeper (envOfC qual (cO st) s.heap.objs.size f fd.code))->∀C0 H0,@qx Mem.keep (qp iK P w K mg base N qual (cO st) f fd.code A outer s H E).DE C0 H0 (dw st) fb):
  eE P w K mg base iK (k+1) f fd ps (qf (hO N.length ps.length fb)):=by
 have key:∀fL,fd.code=fL->∀(A:cD) (outer:List Env) (s:cz) (H:Hp) (E:XK),gn k (A.deeper (envOfC qual (cO st) s.heap.objs.size f fL))->∀C0 H0,@qx Mem.keep (qp iK P w K mg base N qual (cO st) f fL A outer s H E).DE C0 H0 (dw st) fb:=λfL e=>by
  subst e;exact js
 obtain⟨oc,od,kV,doc,pm,an,fL,ct,Mb,rfl,lk,yH⟩:=id F.ex;have key:=key fL rfl;letI:Mem:=Mem.keep
 refine N5 lk yH S (λvs H Q E h=>?_) λA outer s H vs Q E hr h=>?_
 ·obtain⟨C,ds,d,_,i,q,_⟩:=h;unfold hO at q;split at q
  ·rename_i hl;rw[i.length];exact hl
  ·cases q
 ·have F':∃t,yA (qp iK P w K mg base N qual (cO st) f fL A outer s H E).DE (dw st) t/\t {nx:=λ_ H'=>Q .eD H',rt:=Q} (start N vs) H:=by
   obtain⟨C,ds,d,sub,i,q,k⟩:=h;refine⟨tS C C H fb,@qx.go Mem.keep _ _ _ _ _ (key A outer s H E hr C H) C,?_⟩;unfold hO at q;split at q
   case isFalse=>cases q
   rename_i hl;have hN:ps.length<=N.length:=by have:=S.pre;rw[<-this,bL];omega
   have sx:Sx (ds.map Sl.dat++List.replicate (N.length-ps.length) Sl.no) (L2.start N vs) C H:=by
    have lv:=i.length;refine⟨sub,λn d e=>?_,λn es e=>?_,λn m es fs a e=>?_,?_,λn ks e=>?_⟩
    ·by_cases hn:n<ds.length
     ·rw[aK (by simpa using hn),av]at e
      cases hd:ds[n]? with
      |none=>rw[hd]at e;cases e
      |some d'=>
       rw[hd]at e;cases e;obtain⟨v,h1,h2⟩:=i.get hd;refine⟨v,?_,h2⟩;unfold L2.start;rw[aK (by rw[ae,lv];exact hn),av,h1];rfl
     ·rw[aQ (by rw[ae];omega),bg]at e
      split at e<;>cases e
    ·by_cases hn:n<ds.length
     ·rw[aK (by simpa using hn),av]at e
      cases hd:ds[n]? with
      |none=>rw[hd]at e;cases e
      |some d'=>rw[hd]at e;cases e
     ·rw[aQ (by rw[ae];omega),bg]at e
      split at e<;>cases e
    ·by_cases hn:n<ds.length
     ·rw[aK (by simpa using hn),av]at e
      cases hd:ds[n]? with
      |none=>rw[hd]at e;cases e
      |some d'=>rw[hd]at e;cases e
     ·rw[aQ (by rw[ae];omega),bg]at e
      split at e<;>cases e
    ·unfold L2.start;simp only[aR,ae,List.length_replicate];omega
    ·by_cases hn:n<ds.length
     ·rw[aK (by simpa using hn),av]at e
      cases hd:ds[n]? with
      |none=>rw[hd]at e;cases e
      |some d'=>rw[hd]at e;cases e
     ·rw[aQ (by rw[ae];omega),bg]at e
      split at e<;>cases e
   have gd:Gd C C H (ds.map Sl.dat++List.replicate (N.length-ps.length) Sl.no) (L2.start N vs) C H:=⟨dZ.refl _,.refl sub,sx,λn es a e _=>by
    obtain⟨a',xs,h1,h2,h3,_⟩:=sx.own n es e;exfalso;by_cases hn:n<ds.length
    ·rw[aK (by simpa using hn),av]at e
     cases hd:ds[n]? with
     |none=>rw[hd]at e;cases e
     |some d'=>rw[hd]at e;cases e
    ·rw[aQ (by rw[ae];omega),bg]at e
     split at e<;>cases e⟩
   split at q
   ·rename_i d' hf;cases q;exact⟨C,_,_,gd,hf,λv C' H' ev i'=>k v C' H' ev.pX i'⟩
   ·rename_i δ' hf;cases q;exact⟨C,_,_,gd,hf,λσ' C' H' g'=>k .eD C' H' g'.ev.pX .eD⟩
   ·cases q
  obtain⟨t,ht,q⟩:=F';exact⟨t,ht.DE,q⟩
end DL
namespace DL
open PySem PySem.Spec PyProof.Rows L2
def qF (f:cf):cb:=λδ=>match f δ with
 |some (.lst ds)=>if ds.length<=18 then(mP ds).map λnss=>(gY nss.eraseDups).map tupI else none
 |_=>none
theorem CG {a b:cq}(h:tupI a=tupI b):a=b:=by
 have h':a.map D.int=b.map D.int:=by injection h
 have:=congrArg (List.map λd=>match d with|D.int i=>i|_=>0) h'
 simpa [aW,Function.comp_def]using this
theorem m8:∀(n:Nat) (l:cp),l.length<=n->l.eraseDups.Nodup
 |0,l,h=>by
  have:l=[]:=List.length_eq_zero_iff.mp (by omega)
  subst this;exact List.nodup_nil
 |n+1,[],_=>List.nodup_nil
 |n+1,a::l,h=>by
  rw[List.eraseDups_cons];have hl:=aX (λb=> !b==a) l
  refine List.nodup_cons.mpr ⟨λhm=>?_,m8 n _ (by simp at h;omega)⟩
  have:=List.mem_filter.mp (List.mem_eraseDups.mp hm);simp at this
section
variable [Mem] {X:Cx}{e:cG}{f:cf}{p p2 pos gm:Pos}
theorem E1 (hc:X.calm=true) (hu:X.A.units+64<cLine) (WK:Gl X "sorted") (Hf:X.mg "sorted"=none) (WL:Gl X "set") (zF:X.mg "set"=none) (ha:PO X e f)
  (Ni:starEach [.Call (.Name "set" p2) [e] [] gm] X.env=(false,eval (.Call (.Name "set" p2) [e] [] gm) X.env)::starEach [] X.env:=by exact eG rfl) (Pf:starEach [e] X.env=(false,eval e X.env)::starEach [] X.env:=by exact eG rfl):
  PF X (.Call (.Name "sorted" p) [.Call (.Name "set" p2) [e] [] gm] [] pos) (qF f):=by
 intro pins s σ H Q I ⟨C,δ,ds,x,q,k⟩;unfold qF at q;split at q
 case h_2=>cases q
 rename_i es0 hf;split at q
 case isFalse=>cases q
 rename_i h18;cases hn:mP es0 with
 |none=>rw[hn]at q;cases q
 |some nss=>
  rw[hn]at q;cases q;have ee:=uY hn;subst ee;refine wpAny_Call_Name_kw (qj I WK Hf i7 ?_);refine PyProof.Rows.callWith_builtin1 ?_ Ni rfl;rw[Ni];show wpAny _ _ (spliced ((false,eval (.Call (.Name "set" p2) [e] [] gm) X.env)::backTo pos (starEach [] X.env))) _ _ s;refine Calls.spliced_cons ?_;refine wpAny_Call_Name_kw (qj I WL zF PyProof.Rows.boot_set ?_);refine PyProof.Rows.callWith_type1 (iu ((lr ha sL Pf) gm pins s σ H (λvs H1=>∃v C1,vs=[v]/\Ev C H C1 H1/\sf C1 H1 v (.lst (nss.map tupI))) I ⟨C,δ,_,x,hf,λv C1 H1 ev iv=>⟨v,C1,rfl,ev,iv⟩⟩) λus s1 ⟨vs,H1,I1,r1,v,C1,e1,ev,iv⟩=>?_) Pf rfl
  subst e1;obtain⟨u,rfl,ru⟩:=r1.one;obtain⟨a,xs,rfl,hq,hl⟩:=iv.list (K:=X.K) ev.s;cases ru;obtain⟨dF,rv,pl,hz⟩:=I1.list hq;have hlx:xs.length=nss.length:=by rw[hl.length,ae]
  have Kw:dF.length=nss.length:=by rw[<-rv.length,hlx]
  rw[ae]at h18;have itemAt:∀(i:Nat) (w:cy),dF[i]? =some w->∃(b:cF) (ns:cq),nss[i]? =some ns/\w=.ref b/\jr X.K H1 b (ns.map V.int)/\Is C1 (.ref b) (tupI ns)/\ST.TI s1.heap w ns:=λi w hw=>by
   have hi:i<nss.length:=by rw[<-Kw];exact(List.getElem?_eq_some_iff.mp hw).1
   have Aq:nss[i]? =some nss[i]:=ah hi;obtain⟨v,hv,isv⟩:=hl.get (i:=i) (d:=tupI nss[i]) (by rw[av,Aq];rfl)
   obtain⟨w',RH,Mm⟩:=rv.get hv;rw[hw]at RH;cases RH;cases isv with
   |@tup b ys _ hb l=>
    have ey:=l.rl;subst ey;cases Mm;have YR:jr X.K H1 b (nss[i].map V.int):=jr.of (ev.s _ _ hb);obtain⟨ts,r2,⟨o,ho,uG,n,hd⟩,_⟩:=I1.tuple YR;exact⟨b,nss[i],Aq,rfl,YR,.tup hb l,b,o,ts,n,rfl,ho,uG,hd,intsAre_of r2⟩
  have hh:X.A.handled=none:=I1.ok.hd hc;refine ST.yX (val:=nss.map tupI) hh (by omega) pl.isList (by rw[aq,ae];exact Kw) (λi w hw=>?_) (by rw[aq];omega) λh' tk Ox=>?_
  ·obtain⟨b,ns,h1,h2,h3,h4,h5⟩:=itemAt i w (by simpa using hw)
   have eg:(nss.map tupI).getD i .eD=tupI ns:=by rw[ak,av,h1];rfl
   rw[eg];refine⟨⟨b,h2⟩,?_,h5.ki⟩;unfold tupI dY;have:∀l:cq,iM (l.map D.int)=0:=λl=>by
    induction l with
    |nil=>unfold iM;rfl
    |cons a l ih=>rw[aF];unfold iM dY;rw[ih];rfl
   rw[this];decide
  ·obtain⟨⟨FH,n5,Cp⟩,keep⟩:=Ox;have I2:Inv X pins σ H1 {s1 with heap:=h',toks:=tk}:=I1.kept (t':=tk) λb o eo=>keep b o (aB eo) eo
   have KC:FH.length<=nss.length:=by
    have:=bY (l₂:=nss.map tupI) n5.nd λd hd=>(Cp d).mp hd
    rwa [ae]at this
   refine Calls.spliced_nil ?_;refine ST.EU (s:={s1 with heap:=h',toks:=tk}) (R0:=λb ns=>Is C1 (.ref b) (tupI ns)) hc hu I2 n5 (by omega) (λw hw=>?_) λD0 l hD hR hpw Gf=>?_
   ·obtain⟨i,hi⟩:=bq (show w∈dF by simpa using hw)
    obtain⟨b,ns,_,h2,h3,h4,_⟩:=itemAt i w hi;exact⟨b,ns,h2,h3,h4⟩
   ·have nd2:(l.map (·.2)).Nodup:=by
     have h1:((l.map (·.2)).map tupI).Nodup:=by rw[aW];exact Gf.nodup_iff.mpr n5.nd
     exact(List.pairwise_map.mp h1).imp λjZ z=>jZ (by rw[z])
    have YS:(l.map (·.2)).Perm nss.eraseDups:=by
     refine(List.perm_ext_iff_of_nodup nd2 (m8 _ nss (au _))).mpr λns=>?_
     rw[List.mem_eraseDups];have h1:tupI ns∈FH↔ns∈l.map (·.2):=by
      rw[<-Gf.mem_iff,List.mem_map,List.mem_map];constructor
      ·rintro⟨p',EK,e'⟩;exact⟨p',EK,CG e'⟩
      ·rintro⟨p',EK,rfl⟩;exact⟨p',EK,rfl⟩
     rw[<-h1,Cp,List.mem_map];constructor
     ·rintro⟨m',JU,e'⟩;rw[<-CG e'];exact JU
     ·intro JU;exact⟨ns,JU,rfl⟩
    have es:l.map (·.2)=gY nss.eraseDups:=gC (λa b h1 h2=>HT.gX h2 h1) (YS.trans (fM _).symm) hpw (tW _)
    refine k D0 _ C1 _ (ev.trans (.gK ev.s hD)) (ev.free hD) (ev.s.free hD) dc ?_;show IsL C1 _ ((gY nss.eraseDups).map tupI);rw[<-es,aW];have aux:∀l:List (cF×cq),(∀p∈l,Is C1 (.ref p.1) (tupI p.2))->IsL C1 (l.map λp=>V.ref p.1) (l.map (tupI∘λp=>p.2)):=λl=>by
     induction l with
     |nil=>intro _;exact .nil
     |cons p l ih=>intro h;exact .cons (h p af) (ih λq hq=>h q (ai _ hq))
    exact aux l hR
theorem E2 (hc:X.calm=true) (hu:X.A.units+64<cLine) (WK:Gl X "sorted") (Hf:X.mg "sorted"=none) (WL:Gl X "set") (zF:X.mg "set"=none) (ha:WO X e f)
  (Ni:starEach [.Call (.Name "set" p2) [e] [] gm] X.env=(false,eval (.Call (.Name "set" p2) [e] [] gm) X.env)::starEach [] X.env:=by exact eG rfl) (Pf:starEach [e] X.env=(false,eval e X.env)::starEach [] X.env:=by exact eG rfl):
  WF X (.Call (.Name "sorted" p) [.Call (.Name "set" p2) [e] [] gm] [] pos) (qF f):=⟨E1 hc hu WK Hf WL zF ha.go Ni Pf⟩
end
end DL
namespace LW
open PySem DL
open L2 (lu sY)
theorem Bc {xs rest:cw}{ns:cq}(p:(xs++rest).Perm (ns.map D.int)):∃ms rs:cq,xs=ms.map D.int/\rest=rs.map D.int/\(ms++rs).Perm ns:=by
 have all:∀x∈xs++rest,∃i,x=D.int i:=λx hx=>by
  have:=p.mem_iff.mp hx;obtain⟨i,_,e⟩:=List.mem_map.mp this;exact⟨i,e.symm⟩
 have ex:∀l:cw,(∀x∈l,∃i,x=D.int i)->∃ms:cq,l=ms.map D.int:=by
  intro l;induction l with
  |nil=>intro _;exact⟨[],rfl⟩
  |cons a l ih=>
   intro h;obtain⟨i,rfl⟩:=h a af;obtain⟨ms,rfl⟩:=ih λx hx=>h x (ai _ hx)
   exact⟨i::ms,rfl⟩
 obtain⟨ms,e1⟩:=ex xs λx hx=>all x (bE _ hx)
 obtain⟨rs,e2⟩:=ex rest λx hx=>all x (aM _ hx)
 refine⟨ms,rs,e1,e2,?_⟩;subst e1 e2
 let g:D->Int:=λd=>match d with|.int i=>i|_=>0
 have hg:∀l:cq,(l.map D.int).map g=l:=λl=>by rw[aW];exact List.map_id _
 have q:=p.map g;rw[hg,List.map_append,hg,hg]at q;exact q
structure xA (many:Int) (l:cq):Prop where
 ne:l≠[]
 four:l.length<=4
 rise:l.Pairwise (·< ·)
 inn:∀p∈l,0<=p/\p<many
theorem kQ {ns:cq}(h:ns.Nodup):(sortI ns).Pairwise (·< ·):=by
 have h1:=w4 ns;have h2:(sortI ns).Nodup:=(sortI_perm ns).nodup_iff.mpr h;have:=List.Pairwise.and h1 h2;exact this.imp λ{a b} ⟨x,y⟩=>by omega
theorem Bd {ns:cq}(h:ns.length<64):j4 [.lst (ns.map D.int)]=some ((sortI ns).map D.int):=by
 simp only[j4,ae,if_pos h,jG]
theorem zX:∀(a b:cq),lD (a.map D.int) (b.map D.int)=decide (a=b)
 |[],[]=>by unfold lD;simp
 |[],_::_=>by unfold lD;simp
 |_::_,[]=>by unfold lD;simp
 |x::a,y::b=>by
  show lD (.int x::a.map D.int) (.int y::b.map D.int)=_;unfold lD dU;rw[zX a b];by_cases h1:x=y<;>by_cases h2:a=b<;>simp[h1,h2]
theorem xB (a b:cq):dU (tupI a) (tupI b)=decide (a=b):=by
 unfold tupI;unfold dU;exact zX a b
theorem u5 (a:cq) (nss:cp):memD (tupI a) (nss.map tupI)=decide (a∈nss):=by
 unfold memD;rw[List.any_map];induction nss with
 |nil=>simp
 |cons b r ih=>
  rw[bH,ih];simp only[Function.comp_apply,xB];by_cases h1:b=a
  ·simp[h1]
  ·have:¬ a=b:=λz=>h1 z.symm
   simp[h1,this]
theorem rF:∀ns:cq,iM (ns.map D.int)=0
 |[]=>by unfold iM;rfl
 |n::r=>by
  show iM (.int n::r.map D.int)=0;unfold iM dY;rw[rF r];rfl
theorem qG (ns:cq):dY (tupI ns)=1:=by
 unfold tupI dY;rw[rF]
theorem mF:∀nss:cp,iM (nss.map tupI)<=1
 |[]=>by show iM []<=1;unfold iM;omega
 |n::r=>by
  show iM (tupI n::r.map tupI)<=1;unfold iM;rw[qG];have:=mF r;omega
structure Gw (least most mx many:Int) (ls:cp):Prop where
 lo:least<=many
 hi:many<=most
 num:(ls.length:Int)<=mx
 rise:ls.Pairwise (λa b=>HT.lexLt a b=true)
 line:∀l∈ls,xA many l
def K3 (ls:cp):D:=.tup (ls.map tupI)
def u6 (many:Int) (ls:cp):D:=.tup [.int many,K3 ls]
theorem xC {nss:cp}(h:nss≠[]):intsOf (nss.map tupI)=none:=by
 cases nss with
 |nil=>exact absurd rfl h
 |cons a r=>rfl
theorem Be {nss:cp}(h:nss.length<64) (jZ:∀l∈nss,l≠[]):j4 [.lst (nss.map tupI)]=some ((gY nss).map tupI):=by
 cases nss with
 |nil=>
  simp[j4,intsOf,sortI,gY]
 |cons a r=>
  simp only[j4,ae,if_pos h,xC (List.cons_ne_nil a r),w5,ao];rw[if_pos];rw[List.all_eq_true];intro x hx;have:=jZ x hx;cases x with
  |nil=>exact absurd rfl this
  |cons _ _=>rfl
theorem xD {nss:cp}(h:nss.Nodup):(gY nss).Pairwise (λa b=>HT.lexLt a b=true):=by
 have h1:=tW nss;have h2:(gY nss).Nodup:=(fM nss).nodup_iff.mpr h;have:=List.Pairwise.and h1 h2;refine this.imp λ{a b} ⟨x,y⟩=>?_
 cases e:HT.lexLt a b with
 |true=>rfl
 |false=>exact absurd (HT.gX e x) y
theorem eJ {n np:Nat}{f:cc}{ds:cw}{d:D}(hl:ds.length=np) (h:f (ds.map Sl.dat++List.replicate (n-np) Sl.no)=some (.ret d)):hO n np f ds=some d:=by
 unfold hO;rw[if_pos hl,h]
theorem cU {f g:cc}{δ δ':dR}(h:f δ=some (.next δ')):eB f g δ=g δ':=by unfold eB;rw[h]
theorem fs3 {c least most lines many k:Int}{fd:cw}{x7 x8 x9:Sl}(hm:1<=many):∃z:Int,1<=z/\z<=4/\z<=many/\mY [cJ c,cJ least,cJ most,cJ lines,cJ many,.own fd,cJ k,x7,x8,x9,.no]=
   some (.next [cJ c,cJ least,cJ most,cJ lines,cJ many,.own fd,cJ k,cJ z,x8,x9,.no]):=by
 have h4:0<(if many<4 then many else 4):=by split<;>omega
 have a1:=pB (c:=c+7*k) (p:=9949) h4;have a2:=pC (c:=c+7*k) (p:=9949) h4;refine⟨1+gA (c+7*k) 9949 (if many<4 then many else 4),by omega,?_,?_,?_⟩
 ·have:(if many<4 then many else 4)<=4:=by split<;>omega
  omega
 ·have:(if many<4 then many else 4)<=many:=by split<;>omega
  omega
 ·simp[mY,jF,dz,cT,cL,cR,dC,dk,jE,uO,oI,DH,Hk,vo,vv (p:=9949) (by omega) h4]
theorem fs5 {c least most lines many k z:Int}{fd:cw}{x8 x9:Sl}(h1:1<=z) (h4:z<=4) (hm:z<=many):∃y:Int,1<=y/\y<=4/\y<=many/\gL [cJ c,cJ least,cJ most,cJ lines,cJ many,.own fd,cJ k,cJ z,x8,x9,.no]=
   some (.next [cJ c,cJ least,cJ most,cJ lines,cJ many,.own fd,cJ k,cJ y,x8,x9,.no]):=by
 by_cases h:0<c%3/\z=1/\1<many
 ·refine⟨2,by omega,by omega,by omega,?_⟩
  obtain⟨a,rfl,b⟩:=h;simp[gL,iO,lO,jF,rX,qB,dz,dC,dk,LS,tJ,oI,DH,BY,nI,dY,dU,a,b]
 ·refine⟨z,h1,h4,hm,?_⟩;by_cases a:0<c%3
  ·by_cases b:z=1
   ·have d:¬ 1<many:=λd=>h ⟨a,b,d⟩
    simp[gL,iO,lO,g9,rX,qB,dz,dC,dk,LS,tJ,oI,DH,BY,nI,dY,dU,a,b,d]
   ·have b':(z==1)=false:=by simpa using b
    simp[gL,iO,lO,g9,rX,qB,dz,dC,dk,LS,tJ,oI,DH,BY,nI,dY,dU,a,b']
  ·simp[gL,iO,lO,g9,rX,qB,dz,dC,dk,LS,tJ,oI,DH,BY,nI,dY,dU,a]
theorem fs6 {c least most lines many k z:Int}{fd:cw}{x8 x9:Sl}(h1:1<=many) (hm:many<=60):mZ [cJ c,cJ least,cJ most,cJ lines,cJ many,.own fd,cJ k,cJ z,x8,x9,.no]=
   some (.next [cJ c,cJ least,cJ most,cJ lines,cJ many,.own fd,cJ k,cJ z,.own ((du 0 many.toNat).map D.int),x9,.no]):=by
 have a:many<1000000:=by omega
 have b: -1000000<many:=by omega
 simp[mZ,hJ,uS,cL,cR,cP,a,b]
theorem fs7 {c least most lines many k z:Int}{fd:cw}{x9:Sl}(h1:1<=many) (hm:many<=60) (z1:1<=z) (z2:z<=many):∃ms rs:cq,(ms++rs).Perm (du 0 many.toNat)/\(ms.length:Int)=z/\
  m3 [cJ c,cJ least,cJ most,cJ lines,cJ many,.own fd,cJ k,cJ z,.own ((du 0 many.toNat).map D.int),x9,.no]=
   some (.next [cJ c,cJ least,cJ most,cJ lines,cJ many,.own fd,cJ k,cJ z,.own (rs.map D.int),.own (ms.map D.int),.no]):=by
 have hl:((du 0 many.toNat).map D.int).length=many.toNat:=by rw[ae,dP]
 have D4:((du 0 z.toNat).map D.int).length=z.toNat:=by rw[ae,dP]
 obtain⟨xs,rest,e,p,l⟩:=Ga (j:=10) (m:=8) (f:=cT dv (cL (dz jE (dz jE (dk 0) (dz uO (dC (.int 11)) (dk 6))) (dz uO (dC (.int 3)) (dk 10))) (cL (dC (.int 9941)) (cL (dz oK (dk 4) (dk 10)) cR))))
  (δ:=[cJ c,cJ least,cJ most,cJ lines,cJ many,.own fd,cJ k,cJ z,.own ((du 0 many.toNat).map D.int),x9,.no])
  ((du 0 z.toNat).map D.int) ((du 0 many.toNat).map D.int) (by omega) (λi d lc hd hk=>by
   rw[av,pf]at hd;split at hd
   ·rename_i hi;cases hd;have hp:0<many-(0+(i:Int)):=by omega
    refine⟨gA (c+11*k+3*(0+(i:Int))) 9941 (many-(0+(i:Int))),?_,pB hp,?_⟩
    ·have EK:0<many-(i:Int):=by omega
     simp[cT,cL,cR,dz,dk,dC,jE,oK,uO,oI,DH,Hk,vv (p:=9941) (by omega) EK]
    ·have:=pC (c:=c+11*k+3*(0+(i:Int))) (p:=9941) hp;omega
   ·cases hd)
 obtain⟨ms,rs,rfl,rfl,q⟩:=Bc p;refine⟨ms,rs,q,?_,?_⟩
 ·rw[ae]at l;omega
 ·have a:many.toNat<1000000:=by omega
  have b:z<1000000:=by omega
  have b': -1000000<z:=by omega
  have b2:z.toNat<1000000:=by omega
  simp only[m3,zN,aL,aN,hl,if_pos a,uS,cL,cR,cP,ao,bC,if_pos (And.intro b b'),D4,if_pos b2,e];rfl
theorem fs9 {c least most lines many k z:Int}{found:cp}{x8:Sl}{ms:cq}(hz:ms.length<64) (hd:found.length<1000000):iP [cJ c,cJ least,cJ most,cJ lines,cJ many,.own (found.map tupI),cJ k,cJ z,x8,.dat (.lst (ms.map D.int)),.no]=
   some (.next [cJ c,cJ least,cJ most,cJ lines,cJ many,.own ((if sortI ms∈found then found else found++[sortI ms]).map tupI),cJ k,cJ z,x8,.dat (.lst (ms.map D.int)),.no]):=by
 have KD:iM (found.map tupI)<=30:=aD (mF _) (by decide)
 have e1:∀x5,(cT kJ (cL (dL (jq j4 (cL (dk 9) cR))) cR)) [cJ c,cJ least,cJ most,cJ lines,cJ many,x5,cJ k,cJ z,x8,.dat (.lst (ms.map D.int)),.no]=some (tupI (sortI ms)):=λx5=>by
  simp[cT,jq,cL,cR,dk,dL,Bd hz,kJ,tupI]
 by_cases h:sortI ms∈found
 ·simp only[iP,m4,lO,qB,dz,e1,dk,aL,aN,ao,tN,si,if_pos KD,u5,if_pos h,aS h,bV,g9]
 ·simp only[iP,m4,lO,qB,dz,e1,dk,aL,aN,ao,tN,si,if_pos KD,u5,if_neg h,aH h,Bool.not_false,uR,ae,if_pos hd,List.map_append,aF,List.map_nil];rfl
theorem E3 {c least most lines many k:Int}{found:cp}{x7 x8 x9:Sl}(hm:1<=many) (zF:many<=60) (LQ:found.Nodup) (hl:∀l∈found,xA many l) (hlen:found.length<60):
  ∃(Bf:cp) (y7 y8 y9:Sl),hU [cJ c,cJ least,cJ most,cJ lines,cJ many,.own (found.map tupI),cJ k,x7,x8,x9,.no]=
   some (.next [cJ c,cJ least,cJ most,cJ lines,cJ many,.own (Bf.map tupI),cJ k,y7,y8,y9,.no])/\Bf.Nodup/\(∀l∈Bf,xA many l)/\Bf.length<=found.length+1:=by
 obtain⟨z,z1,z2,z3,e3⟩:=fs3 (c:=c) (least:=least) (most:=most) (lines:=lines) (k:=k) (fd:=found.map tupI) (x7:=x7) (x8:=x8) (x9:=x9) hm;obtain⟨y,y1,y2,y3,e5⟩:=fs5 (c:=c) (least:=least) (most:=most) (lines:=lines) (k:=k) (fd:=found.map tupI) (x8:=x8) (x9:=x9) z1 z2 z3;obtain⟨ms,rs,p,l,e7⟩:=fs7 (c:=c) (least:=least) (most:=most) (lines:=lines) (k:=k) (fd:=found.map tupI) (x9:=x9) hm zF y1 y3;have nd:(ms++rs).Nodup:=p.nodup_iff.mpr ((iQ _ _).imp λ{a b} h=>by omega)
 have nd1:ms.Nodup:=(List.nodup_append.mp nd).1;have sp:=sortI_perm ms;have ok:xA many (sortI ms):=by
  refine⟨λz=>?_,?_,kQ nd1,λx hx=>?_⟩
  ·have:=sp.length_eq;rw[z]at this;simp only[List.length_nil]at this;omega
  ·have:=sp.length_eq;omega
  ·have h1:x∈ms++rs:=bE _ (sp.mem_iff.mp hx);have h2:=(kP _ _ _).mp (p.mem_iff.mp h1);omega
 refine⟨if sortI ms∈found then found else found++[sortI ms],cJ y,.own (rs.map D.int),.dat (.lst (ms.map D.int)),?_,?_,?_,?_⟩
 ·unfold hU;rw[cU e3,cU e5,cU (fs6 hm zF),cU e7];show iP (uQ 9 _)=_;have eg:uQ 9 [cJ c,cJ least,cJ most,cJ lines,cJ many,.own (found.map tupI),cJ k,cJ y,.own (rs.map D.int),.own (ms.map D.int),.no]=[cJ c,cJ least,cJ most,cJ lines,cJ many,.own (found.map tupI),cJ k,cJ y,.own (rs.map D.int),.dat (.lst (ms.map D.int)),.no]:=rfl;rw[eg];exact fs9 (by omega) (by omega)
 ·split
  ·exact LQ
  ·rename_i h;rw[List.nodup_append];exact⟨LQ,(by simp),λa ha b hb=>by rw[bw]at hb;subst hb;intro z;subst z;exact h ha⟩
 ·split
  ·exact hl
  ·intro l jk;rcases List.mem_append.mp jk with h|h
   ·exact hl l h
   ·rw[bw]at h;subst h;exact ok
 ·split
  ·omega
  ·simp
theorem Nu {c least most lines:Int}(h1:1<=least) (h2:least<=most) (h3:most<=60) (h4:0<=lines) (h5:lines<=50):
  ∃many ls,dH [.int c,.int least,.int most,.int lines]=some (u6 many ls)/\Gw least most lines many ls:=by
 have hp:0<most-least+1:=by omega
 have hq:0<lines+1:=by omega
 have a1:=pB (c:=c) (p:=9973) hp;have a2:=pC (c:=c) (p:=9973) hp;have b1:=pB (c:=c) (p:=9967) hq;have b2:=pC (c:=c) (p:=9967) hq;obtain⟨δ',e,found,y6,y7,y8,y9,hδ,nd,hl,hn⟩:=Ck (j:=6) (f:=hU) (λn δ=>∃(found:cp) (y6 y7 y8 y9:Sl),δ=[cJ c,cJ least,cJ most,cJ lines,cJ (least+gA c 9973 (most-least+1)),.own (found.map tupI),y6,y7,y8,y9,.no]/\found.Nodup/\(∀l∈found,xA (least+gA c 9973 (most-least+1)) l)/\found.length<=n)
  ((du 0 (gA c 9967 (lines+1)).toNat).map D.int) 0 [cJ c,cJ least,cJ most,cJ lines,cJ (least+gA c 9973 (most-least+1)),.own [],.no,.no,.no,.no,.no] ⟨[],.no,.no,.no,.no,rfl,List.nodup_nil,(λ_ h=>nomatch h),au _⟩
  (λi δ d hd ⟨found,y6,y7,y8,y9,hδ,nd,hl,hn⟩=>by
   have hi:=(List.getElem?_eq_some_iff.mp hd).1;rw[ae,dP]at hi;rw[av,pf,if_pos hi]at hd;cases hd;subst hδ;obtain⟨f',z7,z8,z9,e,q1,q2,q3⟩:=E3 (c:=c) (least:=least) (most:=most) (lines:=lines) (k:=0+(i:Int)) (x7:=y7) (x8:=y8) (x9:=y9) (many:=least+gA c 9973 (most-least+1)) (by omega) (by omega) nd hl (by omega)
   exact⟨_,e,f',_,z7,z8,z9,rfl,q1,q2,by omega⟩)
 subst hδ;rw[ae,dP]at hn;refine⟨least+gA c 9973 (most-least+1),gY found,?_,⟨by omega,by omega,?_,xD nd,λl h=>hl l ((fM found).mem_iff.mp h)⟩⟩
 ·have e1:mW [cJ c,cJ least,cJ most,cJ lines,.no,.no,.no,.no,.no,.no,.no]=some (.next [cJ c,cJ least,cJ most,cJ lines,cJ (least+gA c 9973 (most-least+1)),.no,.no,.no,.no,.no,.no]):=by
   simp[mW,jF,dz,cT,cL,cR,dC,dk,cP,jE,oK,oI,vv (p:=9973) (by omega) hp]
  have e2:mX [cJ c,cJ least,cJ most,cJ lines,cJ (least+gA c 9973 (most-least+1)),.no,.no,.no,.no,.no,.no]=some (.next [cJ c,cJ least,cJ most,cJ lines,cJ (least+gA c 9973 (most-least+1)),.own [],.no,.no,.no,.no,.no]):=by
   simp[mX,hJ,rY,cR]
  have c1:gA c 9967 (lines+1)<1000000:=by omega
  have c2: -1000000<gA c 9967 (lines+1):=by omega
  have e10:lS [cJ c,cJ least,cJ most,cJ lines,cJ (least+gA c 9973 (most-least+1)),.own [],.no,.no,.no,.no,.no]=some (.next [cJ c,cJ least,cJ most,cJ lines,cJ (least+gA c 9973 (most-least+1)),.own (found.map tupI),y6,y7,y8,y9,.no]):=by
   rw[<-e];simp[lS,kK,uS,dz,cT,cL,cR,dC,dk,cP,jE,oI,vv (p:=9967) (by omega) hq,c1,c2]
  refine eJ rfl ?_;show ly [cJ c,cJ least,cJ most,cJ lines,.no,.no,.no,.no,.no,.no,.no]=_;unfold ly;rw[cU e1,cU e2,cU e10];have hs:=Be (nss:=found) (by omega) (λl h=>(hl l h).ne)
  have z:(lT [cJ c,cJ least,cJ most,cJ lines,cJ (least+gA c 9973 (most-least+1)),.own (found.map tupI),y6,y7,y8,y9,.no])=some (.ret (u6 (least+gA c 9973 (most-least+1)) (gY found))):=by
   simp[lT,eP,fi,cT,jq,cL,cR,cP,dk,dL,hs,kJ,u6,K3]
  exact z
 ·have:=(fM found).length_eq;omega
end LW
namespace LW
open PySem DL
open L2 (lu sY)
def dM (many:Int) (ls:cp) (first b g:Int):D:=.tup [u6 many ls,.int first,.int b,.int g]
structure Q8 (least most mx many:Int) (ls:cp) (first b g:Int):Prop where
 field:Gw least most mx many ls
 f0:0<=first
 f1:first<=1
 b1:1<=b
 b2:b<=2
 g1:1<=g
 g2:g<=2
theorem Q9 {c least most lines:Int}(h1:1<=least) (h2:least<=most) (h3:most<=60) (h4:0<=lines) (h5:lines<=50):
  ∃many ls first b g,dS [.int c,.int least,.int most,.int lines]=some (dM many ls first b g)/\dH [.int c,.int least,.int most,.int lines]=some (u6 many ls)/\Q8 least most lines many ls first b g:=by
 obtain⟨many,ls,e,ok⟩:=Nu (c:=c) h1 h2 h3 h4 h5;have a1:=pB (c:=c) (p:=9931) (m:=2) (by omega)
 have a2:=pC (c:=c) (p:=9931) (m:=2) (by omega)
 have a3:=pB (c:=c) (p:=9929) (m:=5) (by omega)
 have a4:=pC (c:=c) (p:=9929) (m:=5) (by omega)
 have a5:=pB (c:=c) (p:=9923) (m:=5) (by omega)
 have a6:=pC (c:=c) (p:=9923) (m:=5) (by omega)
 refine⟨many,ls,gA c 9931 2,1+gA c 9929 5/3,1+gA c 9923 5/3,?_,e,ok,a1,by omega,by omega,by omega,by omega,by omega⟩
 refine eJ rfl ?_;show mq [cJ c,cJ least,cJ most,cJ lines,.no]=_;have e1:oq [cJ c,cJ least,cJ most,cJ lines,.no]=some (.next [cJ c,cJ least,cJ most,cJ lines,.dat (u6 many ls)]):=by
  simp[oq,jF,cT,cL,cR,cP,e]
 unfold mq;rw[cU e1];simp[sk,eP,fi,cT,cL,cR,cP,dC,dz,jE,AJ,oI,DH,MA,dM,vv (c:=c) (p:=9931) (m:=2) (by omega) (by omega),vv (c:=c) (p:=9929) (m:=5) (by omega) (by omega),vv (c:=c) (p:=9923) (m:=5) (by omega) (by omega)]
theorem ja {j:Nat}{t:cg}{f:cf}{δ:dR}{p:D->Bool}{g:D->D}:∀(ds:cw),(∀d∈ds,t (δ.set j (.dat d))=some (p d))->(∀d∈ds,p d=true->f (δ.set j (.dat d))=some (g d))->iB j t f δ ds=some ((ds.filter p).map g)
 |[],_,_=>rfl
 |d::ds,h,h2=>by
  unfold iB;have ih:=ja (p:=p) (g:=g) ds (λx hx=>h x (ai _ hx)) λx hx=>h2 x (ai _ hx)
  rw[h d af];cases e:p d with
  |true=>simp only[h2 d af e,ao,ih,bC,List.filter_cons_of_pos e,aF]
  |false=>simp only[ih,bu,e,aJ,bF]
theorem xE {α:Type}(l:List α) (q:α->Bool):Ek [.lst (l.map λx=>D.bl (q x))]=some (.bl (l.all q)):=by
 have:(l.map λx=>D.bl (q x))=(l.map q).map D.bl:=by rw[aW];rfl
 rw[this];show(oN ((l.map q).map D.bl)).map _=_;rw[Hr];simp[List.all_map]
theorem Nv {α:Type}(l:List α) (i:Nat) (h:i<l.length):lu l (i:Int)=l[i]? :=by
 unfold lu sY;rw[if_pos (by omega),if_pos (by omega)]
 simp
end LW
namespace GP
open PySem DL
open L2 (lu sY)
def dM (many:Int) (ls:cp) (f b g:Int):D:=.tup [.tup [.int many,.tup (ls.map tupI)],.int f,.int b,.int g]
def gH (m l:cq):Bool:=l.all λp=>decide (p∈m)
def eZ (y l:cq):Bool:=l.any λp=>decide (p∈y)
def uh (ls:cp) (m y:cq):Option Int:=
 if ls.any (gH m)then some 0 else if ls.all (eZ y)then some 1 else none
def E4:Option Int->D
 |some i=>.int i
 |none=>.eD
theorem CH (p:Int) (m:cq):memD (.int p) (m.map D.int)=decide (p∈m):=by
 unfold memD;rw[List.any_map];induction m with
 |nil=>simp
 |cons b r ih=>
  rw[bH,ih];have:(Function.comp (λe=>dU e (D.int p)) D.int) b=decide (p=b):=by
   show dU (.int b) (.int p)=_;unfold dU;by_cases h:b=p
   ·simp[h]
   ·have h2:¬ p=b:=λz=>h z.symm
    simp[h,h2]
  rw[this];by_cases h1:p=b<;>simp[h1]
theorem Gx (p:Int) (m:cq):B0 (.int p) (tupI m)=some (.bl (decide (p∈m))):=by
 unfold B0 tupI si;simp only[ao,LW.rF,CH];rfl
theorem ui (p:Int) (m:cq):tN (.int p) (tupI m)=some (.bl (!decide (p∈m))):=by
 unfold tN tupI si;simp only[ao,LW.rF,CH];rfl
def intOf:D->Int
 |.int i=>i
 |_=>0
theorem lH (p:Int->Bool) (l:cq):(l.map D.int).filter (λd=>p (intOf d))=(l.filter p).map D.int:=by
 rw[List.filter_map];rfl
theorem Gy (m:cq):∀l:cq,gH m l=(l.filter λi=> !decide (i∈m)).isEmpty
 |[]=>rfl
 |a::l=>by
  have ih:=Gy m l;unfold gH at ih ⊢;by_cases h:a∈m
  ·simp only[List.all_cons,bu,h,decide_true,Bool.true_and,bV,ih];rfl
  ·simp[List.all_cons,bu,h]
theorem CI (y:cq):∀l:cq,eZ y l= !(l.filter λi=>decide (i∈y)).isEmpty
 |[]=>rfl
 |a::l=>by
  have ih:=CI y l;unfold eZ at ih ⊢;by_cases h:a∈y
  ·simp[bH,bu,h]
  ·simp only[bH,bu,h,decide_false,Bool.false_or,ih];rfl
def dh (m y:cq) (w:Int) (c:cq):cq×cq:=if w=0 then(sortI (m++c),y)else(m,sortI (y++c))
theorem uj {ns:cq}(h:ns.length<64):lG [tupI ns]=some ((sortI ns).map D.int):=by
 simp only[lG,tupI,ae,if_pos h,jG,bC]
theorem rG {a b:cq}(h:a.length+b.length<64):nJ (tupI a) (tupI b)=some (tupI (a++b)):=by
 have:a.length+b.length<=1000000:=by omega
 simp[nJ,tupI,this]
def nc (cell:Int) (k:Int) (ps:cq):cq:=ps.filter λp=>decide (LW.gA (cell+5*p) 9907 5=k)
def behind (c:cq) (p:Int):Bool:=match c.getLast? with|none=>true|some q=>decide (q<p)
def lV (some:cq) (c:cq):cp:=(some.filter (behind c)).map λp=>c++[p]
def qH (some:cq) (cs:cp):cp:=cs.flatMap (lV some)
def iD (some:cq):Nat->cp
 |0=>[[]]
 |k+1=>qH some (iD some k)
def ft (many:Int) (m y:cq):cq:=(du 0 many.toNat).filter λp=> !decide (p∈m++y)
theorem K5 {α:Type}(l:List α) (a:α):lu (l++[a]) (-1)=some a:=by
 unfold lu sY;have h1:¬ (0:Int)<=-1:=by omega
 have h2: -((l++[a]).length:Int)<=-1:=by simp;omega
 have h3:((-1:Int)+((l++[a]).length:Nat)).toNat=l.length:=by simp;omega
 rw[if_neg h1,if_pos h2,h3];simp
theorem Nw {G M Y W S F T:Sl}{A:Sl}{c:cq}{p:Int}:
  Jz (qB (dz nI (dk 8) (fi cR))) (qB (dz LS (dk 9) (dz jL (dk 8) (B1 (dC (.int 1)))))) [G,M,Y,W,S,F,T,A,cK c,cJ p]=some (behind c p):=by
 have e0:fi cR [G,M,Y,W,S,F,T,A,cK c,cJ p]=some (tupI []):=rfl;have e1:qB (dz nI (dk 8) (fi cR)) [G,M,Y,W,S,F,T,A,cK c,cJ p]=some (decide (c=[])):=by
  have:nI (tupI c) (tupI [])=some (.bl (decide (c=[]))):=by
   unfold nI;rw[LW.qG,LW.xB];rfl
  simp only[qB,dz,dk,aL,aN,ao,e0,this]
 unfold Jz;rw[e1];rcases List.eq_nil_or_concat c with rfl|⟨l,a,rfl⟩
 ·rfl
 ·have jZ:decide (l.concat a=[])=false:=by simp
  rw[jZ];have e2:dz jL (dk 8) (B1 (dC (.int 1))) [G,M,Y,W,S,F,T,A,cK (l.concat a),cJ p]=some (.int a):=by
   have:jL (tupI (l.concat a)) (.int (-1))=some (.int a):=by
    show lu ((l.concat a).map D.int) (-1)=_;rw[List.concat_eq_append,List.map_append];exact K5 _ _
   simp only[dz,dk,B1,dC,aL,aN,ao,this]
  have e3:behind (l.concat a) p=decide (a<p):=by simp[behind]
  rw[e3];simp only[qB,dz,dk,aL,aN,ao]at e2 ⊢;rw[e2];rfl
theorem zY (s:cq):∀k,∀c∈iD s k,c.length=k
 |0,c,h=>by simp[iD]at h;simp[h]
 |k+1,c,h=>by
  unfold iD qH at h;obtain⟨b,hb,hc⟩:=List.mem_flatMap.mp h;unfold lV at hc;obtain⟨p,_,rfl⟩:=List.mem_map.mp hc;simp[zY s k b hb]
theorem zZ (s:cq):∀cs:cp,(qH s cs).length<=cs.length*s.length
 |[]=>by simp[qH]
 |c::cs=>by
  have ih:=zZ s cs;have hl:(lV s c).length<=s.length:=by
   unfold lV;rw[ae];exact aX _ _
  have hm:(cs.length+1)*s.length=cs.length*s.length+s.length:=Nat.succ_mul _ _;have:qH s (c::cs)=lV s c++qH s cs:=by simp[qH]
  rw[this,aR,ax,hm];omega
theorem xF (s:cq):∀k,(iD s k).length<=s.length^k
 |0=>by simp[iD]
 |k+1=>aD (zZ s _) (by rw[Nat.pow_succ];exact Nat.mul_le_mul_right _ (xF s k))
def nQ (b g w:Int) (free:cq):Nat:=(if(free.length:Int)<(if w=0 then b else g)then(free.length:Int)else(if w=0 then b else g)).toNat
def pF (many b g:Int) (m y:cq) (w:Int):cp:=iD (ft many m y) (nQ b g w (ft many m y))
theorem rH (many:Int) (m y:cq):(ft many m y).length<=many.toNat:=by
 unfold ft;have:=aX (λp=> !decide (p∈m++y)) (du 0 many.toNat)
 rwa [dP]at this
abbrev fO (l:cq):Prop:=l.Pairwise (·< ·)
theorem oT:∀{a b:cq},fO a->fO b->(∀p,p∈a↔p∈b)->a=b
 |[],[],_,_,_=>rfl
 |[],y::b,_,_,h=>absurd ((h y).mpr af) (by simp)
 |x::a,[],_,_,h=>absurd ((h x).mp af) (by simp)
 |x::a,y::b,ha,hb,h=>by
  obtain⟨a1,a2⟩:=List.pairwise_cons.mp ha;obtain⟨b1,b2⟩:=List.pairwise_cons.mp hb;have e:x=y:=by
   have h1:=(h x).mp af;have h2:=(h y).mpr af;rcases List.mem_cons.mp h1 with z|z
   ·exact z
   ·rcases List.mem_cons.mp h2 with u|u
    ·exact u.symm
    ·have:=b1 x z;have:=a1 y u;omega
  subst e;rw[oT a2 b2 λp=>?_]
  constructor
  ·intro hp;have:=a1 p hp;rcases List.mem_cons.mp ((h p).mp (ai _ hp))with z|z
   ·omega
   ·exact z
  ·intro hp;have:=b1 p hp;rcases List.mem_cons.mp ((h p).mpr (ai _ hp))with z|z
   ·omega
   ·exact z
def code (l:cq):Nat->Nat
 |0=>0
 |k+1=>2*code l k+(if(k:Int)∈l then 1 else 0)
theorem uk (l:cq):∀k,code l k<2^k
 |0=>by simp[code]
 |k+1=>by
  have:=uk l k;unfold code;rw[Nat.pow_succ];split<;>omega
theorem code_inj {a b:cq}:∀k,code a k=code b k->∀i:Nat,i<k->((i:Int)∈a↔(i:Int)∈b)
 |0,_,i,h=>absurd h (by omega)
 |k+1,e,i,h=>by
  unfold code at e;have e1:code a k=code b k:=by split at e<;>split at e<;>omega
  by_cases hi:i=k
  ·subst hi;by_cases h1:(i:Int)∈a<;>by_cases h2:(i:Int)∈b<;>simp[h1,h2]at e ⊢<;>omega
  ·exact code_inj k e1 i (by omega)
structure eK (many:Int) (m y:cq):Prop where
 rm:fO m
 ry:fO y
 im:∀p∈m,0<=p/\p<many
 iy:∀p∈y,0<=p/\p<many
 dj:∀p∈m,p∉y
theorem CJ {many:Int}(hm:many<=9) {a b:cq}(ra:fO a) (rb:fO b) (ia:∀p∈a,0<=p/\p<many) (ib:∀p∈b,0<=p/\p<many) (e:code a 9=code b 9):a=b:=by
 refine oT ra rb λp=>?_
 by_cases h:0<=p/\p<9
 ·obtain⟨n,rfl⟩:∃n:Nat,p=(n:Int):=⟨p.toNat,by omega⟩
  exact code_inj 9 e n (by omega)
 ·constructor
  ·intro hp;have:=ia p hp;omega
  ·intro hp;have:=ib p hp;omega
theorem kR {l:cq}(h:fO l):l.Nodup:=h.imp λ{a b} h=>by omega
theorem iQ (n:Nat) (lo:Int):fO (du lo n):=LW.iQ n lo
theorem jv {many:Int}{l:cq}(r:fO l) (i:∀p∈l,0<=p/\p<many):l.length<=many.toNat:=by
 have:l.length<=(du 0 many.toNat).length:=(kR r).length_le_of_subset λp hp=>(LW.kP _ _ _).mpr (by have:=i p hp;omega)
 rwa [dP]at this
theorem fc {many:Int}{m y:cq}{p:Int}:p∈ft many m y↔(0<=p/\p<many)/\p∉m/\p∉y:=by
 unfold ft;rw[List.mem_filter,LW.kP];simp only[List.mem_append,not_or,Bool.not_eq_true',decide_eq_false_iff_not];constructor
 ·rintro⟨h1,h2⟩;exact⟨by omega,h2⟩
 ·rintro⟨h1,h2⟩;exact⟨by omega,h2⟩
theorem ng (many:Int) (m y:cq):fO (ft many m y):=List.Pairwise.filter _ (iQ _ _)
theorem u7 {s:cq}(hs:fO s):∀(k:Nat) (c:cq),c∈iD s k↔c.length=k/\fO c/\∀p∈c,p∈s
 |0,c=>by
  simp only[iD,bw];constructor
  ·rintro rfl;exact⟨rfl,List.Pairwise.nil,by simp⟩
  ·rintro⟨h,_⟩;exact List.length_eq_zero_iff.mp h
 |k+1,c=>by
  unfold iD qH;rw[List.mem_flatMap];constructor
  ·rintro⟨b,hb,hc⟩
   obtain⟨l,r,i⟩:=(u7 hs k b).mp hb;unfold lV at hc;obtain⟨p,hp,rfl⟩:=List.mem_map.mp hc;obtain⟨LU,UT⟩:=List.mem_filter.mp hp;refine⟨by simp[l],?_,?_⟩
   ·refine List.pairwise_append.mpr ⟨r,List.pairwise_singleton _ _,λa ha q hq=>?_⟩
    rw[bw]at hq;subst hq;rcases List.eq_nil_or_concat b with rfl|⟨l',z,rfl⟩
    ·simp at ha
    ·have hz:z<q:=by simpa [behind]using UT
     rw[List.concat_eq_append]at ha r;rcases List.mem_append.mp ha with u|u
     ·have:=(List.pairwise_append.mp r).2.2 a u z (by simp);omega
     ·rw[bw]at u;omega
   ·intro q hq;rcases List.mem_append.mp hq with u|u
    ·exact i q u
    ·rw[bw]at u;subst u;exact LU
  ·rintro⟨l,r,i⟩
   rcases List.eq_nil_or_concat c with rfl|⟨b,z,rfl⟩
   ·simp at l
   ·rw[List.concat_eq_append]at l r i ⊢;obtain⟨r1,_,r3⟩:=List.pairwise_append.mp r;refine⟨b,(u7 hs k b).mpr ⟨by simpa using l,r1,λp hp=>i p (bE _ hp)⟩,?_⟩
    unfold lV;refine List.mem_map.mpr ⟨z,List.mem_filter.mpr ⟨i z (by simp),?_⟩,rfl⟩
    unfold behind;cases hq:b.getLast? with
    |none=>rfl
    |some q=>
     have:q∈b:=List.mem_of_getLast? hq
     simpa using r3 q this z (by simp)
theorem kT {many b g:Int}{m y:cq}{w:Int}{c:cq}:c∈pF many b g m y w↔c.length=nQ b g w (ft many m y)/\fO c/\∀p∈c,p∈ft many m y:=u7 (ng many m y) _ c
theorem di {l:cq}{p:Int}:p∈sortI l↔p∈l:=(sortI_perm l).mem_iff
theorem rJ {a c:cq}(ra:fO a) (rc:fO c) (d:∀p∈c,p∉a):fO (sortI (a++c)):=by
 refine LW.kQ ?_;refine List.nodup_append.mpr ⟨kR ra,kR rc,λp hp q hq e=>?_⟩
 subst e;exact d p hq hp
theorem iR {many b g:Int}{m y:cq}{w:Int}{c:cq}(h:eK many m y) (hc:c∈pF many b g m y w):eK many (dh m y w c).1 (dh m y w c).2:=by
 obtain⟨_,rc,ic⟩:=kT.mp hc;unfold dh;split
 ·refine⟨rJ h.rm rc λp hp=>(fc.mp (ic p hp)).2.1,h.ry,λp hp=>?_,h.iy,λp hp=>?_⟩
  ·rcases List.mem_append.mp (di.mp hp)with u|u
   ·exact h.im p u
   ·exact(fc.mp (ic p u)).1
  ·rcases List.mem_append.mp (di.mp hp)with u|u
   ·exact h.dj p u
   ·exact(fc.mp (ic p u)).2.2
 ·refine⟨h.rm,rJ h.ry rc λp hp=>(fc.mp (ic p hp)).2.2,h.im,λp hp=>?_,λp hp hq=>?_⟩
  ·rcases List.mem_append.mp (di.mp hp)with u|u
   ·exact h.iy p u
   ·exact(fc.mp (ic p u)).1
  ·rcases List.mem_append.mp (di.mp hq)with u|u
   ·exact h.dj p hp u
   ·exact(fc.mp (ic p u)).2.1 hp
end GP
namespace GP
open PySem DL
open L2 (lu sY)
theorem any_congr {α:Type}{f g:α->Bool}:∀{l:List α},(∀a∈l,f a=g a)->l.any f=l.any g
 |[],_=>rfl
 |a::l,h=>by rw[bH,bH,h a af,any_congr λb hb=>h b (ai _ hb)]
structure Gm where
 many:Int
 ls:cp
 b:Int
 g:Int
structure Gm.Ok (G:Gm):Prop where
 m0:0<=G.many
 m9:G.many<=9
 li:∀l∈G.ls,∀p∈l,0<=p/\p<G.many
 ll:∀l∈G.ls,l.length<1000000
 b1:1<=G.b
 b3:G.b<=4
 g1:1<=G.g
 g3:G.g<=4
def Gm.eA (G:Gm) (m y:cq) (w:Int):cp:=pF G.many G.b G.g m y w
def Gm.free (G:Gm) (m y:cq):cq:=ft G.many m y
def Gm.over (G:Gm) (m y:cq):Option Int:=uh G.ls m y
def Gm.vT (G:Gm):Nat->cq->cq->Int->Int
 |0,m,y,w=>match G.over m y with|some i=>i|none=>1-w
 |n+1,m,y,w=>match G.over m y with
  |some i=>i
  |none=>if(G.eA m y w).any (λc=>G.vT n (dh m y w c).1 (dh m y w c).2 (1-w)==w)then w else 1-w
theorem oU {G:Gm}{m y c:cq}{w:Int}(h:eK G.many m y) (hc:c∈G.eA m y w):(G.free (dh m y w c).1 (dh m y w c).2).length+c.length<=(G.free m y).length:=by
 obtain⟨_,rc,ic⟩:=kT.mp hc;rw[<-aR];have mp:∀p,(p∈(dh m y w c).1\/p∈(dh m y w c).2)↔(p∈m\/p∈y\/p∈c):=by
  intro p;unfold dh;split<;>simp only[di,List.mem_append]
  ·constructor
   ·rintro((a|a)|a)<;>simp[a]
   ·rintro(a|a|a)<;>simp[a]
 refine bY ?_ λp hp=>?_
 ·refine List.nodup_append.mpr ⟨kR (ng _ _ _),kR rc,λp hp q hq e=>?_⟩
  subst e;have:=fc.mp hp;rcases(mp p).mpr (.inr (.inr hq))with u|u
  ·exact this.2.1 u
  ·exact this.2.2 u
 ·rcases List.mem_append.mp hp with u|u
  ·have:=fc.mp u;refine fc.mpr ⟨this.1,λz=>?_,λz=>?_⟩
   ·rcases(mp p).mpr (.inl z)with u|u
    ·exact this.2.1 u
    ·exact this.2.2 u
   ·rcases(mp p).mpr (.inr (.inl z))with u|u
    ·exact this.2.1 u
    ·exact this.2.2 u
  ·exact ic p u
theorem u9 {G:Gm}(hG:G.Ok) {m y:cq}(h:G.free m y=[]):G.over m y≠none:=by
 unfold Gm.over uh;split
 ·simp
 ·rename_i h1;rw[if_pos ?_]; · simp
  rw[List.all_eq_true];intro l hl;unfold eZ;rw[bQ];have h2:¬ gH m l=true:=λz=>h1 (bQ.mpr ⟨l,hl,z⟩)
  unfold gH at h2;rw[List.all_eq_true]at h2;have:∃p∈l,p∉m:=by
   apply bW
   intro hn;apply h2
   intro p hp;simp only[decide_eq_true_eq];apply bW
   intro z;exact hn ⟨p,hp,z⟩
  obtain⟨p,hp,Gf⟩:=this;refine⟨p,hp,?_⟩;simp only[decide_eq_true_eq];apply bW
  intro z;have:p∈G.free m y:=fc.mpr ⟨hG.li l hl p hp,Gf,z⟩;rw[h]at this;simp at this
theorem Gz {G:Gm}{m y:cq}{i:Int}(h:G.over m y=some i):i=0\/i=1:=by
 unfold Gm.over uh at h;split at h
 ·cases h;exact .inl rfl
 ·split at h
  ·cases h;exact .inr rfl
  ·cases h
theorem rK {G:Gm}(hG:G.Ok) {m y c:cq}{w:Int}(ho:G.over m y=none) (hc:c∈G.eA m y w):1<=c.length:=by
 obtain⟨l,_,_⟩:=kT.mp hc;have hf:G.free m y≠[]:=λz=>u9 hG z ho
 have h1:1<=(ft G.many m y).length:=by
  cases h:ft G.many m y with
  |nil=>exact absurd h hf
  |cons a r=>simp
 rw[l];unfold nQ;have:=hG.b1;have:=hG.g1;split<;>split<;>omega
theorem Aa {G:Gm}(hG:G.Ok):∀(n:Nat) (m y:cq) (w:Int),eK G.many m y->(G.free m y).length<=n->G.vT n m y w=G.vT (n+1) m y w
 |0,m,y,w,h,hn=>by
  have h0:G.free m y=[]:=List.length_eq_zero_iff.mp (by omega)
  unfold Gm.vT;cases ho:G.over m y with
  |some i=>rfl
  |none=>exact absurd ho (u9 hG h0)
 |n+1,m,y,w,h,hn=>by
  rw[Gm.vT,Gm.vT];cases ho:G.over m y with
  |some i=>rfl
  |none=>
   have:(G.eA m y w).any (λc=>G.vT n (dh m y w c).1 (dh m y w c).2 (1-w)==w)=(G.eA m y w).any (λc=>G.vT (n+1) (dh m y w c).1 (dh m y w c).2 (1-w)==w):=
    any_congr λc hc=>by
     have:=oU h hc;have:=rK hG ho hc;rw[Aa hG n _ _ (1-w) (iR h hc) (by omega)]
   simp only[this]
def Gm.fj (G:Gm) (m y:cq) (w:Int):Int:=G.vT 9 m y w
theorem um {G:Gm}(hG:G.Ok) (m y:cq):(G.free m y).length<=9:=by
 have:=rH G.many m y;have:=hG.m9;unfold Gm.free;omega
theorem va {G:Gm}(hG:G.Ok) {m y:cq}{w:Int}(h:eK G.many m y):G.fj m y w=(match G.over m y with
  |some i=>i
  |none=>if(G.eA m y w).any (λc=>G.fj (dh m y w c).1 (dh m y w c).2 (1-w)==w)then w else 1-w):=by
 unfold Gm.fj;rw[Aa hG 9 m y w h (um hG m y),Gm.vT]
theorem ot {G:Gm}(hG:G.Ok) {m y:cq}{w:Int}(h:eK G.many m y) (hw:w=0\/w=1):G.fj m y w=0\/G.fj m y w=1:=by
 rw[va hG h];cases ho:G.over m y with
 |some i=>exact Gz ho
 |none=>simp only;split<;>omega
def qg (m y:cq) (w:Int):D:=.tup [tupI m,tupI y,.int w]
def Ab:D->Option (cq×cq×Int)
 |.tup [.tup a,.tup b,.int w]=>match intsOf a,intsOf b with|some m,some y=>some (m,y,w)|_,_=>none
 |_=>none
theorem rL (m y:cq) (w:Int):Ab (qg m y w)=some (m,y,w):=by
 show(match intsOf (m.map D.int),intsOf (y.map D.int)with|some m,some y=>some (m,y,w)|_,_=>none)=_
 rw[jG,jG]
theorem K6 {k:D}{m y:cq}{w:Int}(h:Ab k=some (m,y,w)):k=qg m y w:=by
 unfold Ab at h;split at h
 ·rename_i a b w';split at h
  ·rename_i m' y' e1 e2;cases h;rw[jM e1,jM e2];rfl
  ·cases h
 ·cases h
def CK (k:D):Nat:=match Ab k with|some (m,y,w)=>code m 9*1024+code y 9*2+w.toNat|none=>0
open Classical in
def Gm.W (G:Gm) (k:D):Option D:=match Ab k with
 |some (m,y,w)=>if eK G.many m y/\(w=0\/w=1)then some (.int (G.fj m y w))else none
 |none=>none
theorem Bg {G:Gm}{k d:D}(h:G.W k=some d):∃m y w,k=qg m y w/\eK G.many m y/\(w=0\/w=1)/\d=.int (G.fj m y w):=by
 unfold Gm.W at h;split at h
 ·rename_i m y w e;split at h
  ·rename_i hh;cases h;exact⟨m,y,w,K6 e,hh.1,hh.2,rfl⟩
  ·cases h
 ·cases h
theorem CL {G:Gm}{m y:cq}{w:Int}(h:eK G.many m y) (hw:w=0\/w=1):G.W (qg m y w)=some (.int (G.fj m y w)):=by
 unfold Gm.W;rw[rL];simp only;rw[if_pos ⟨h,hw⟩]
theorem xG (m y:cq) (w:Int):CK (qg m y w)=code m 9*1024+code y 9*2+w.toNat:=by unfold CK;rw[rL]
theorem OE {G:Gm}(hG:G.Ok) (k k' d d':D) (h:G.W k=some d) (h':G.W k'=some d') (e:CK k=CK k'):k=k':=by
 obtain⟨m,y,w,rfl,p,hw,rfl⟩:=Bg h;obtain⟨m',y',w',rfl,p',RH,rfl⟩:=Bg h';rw[xG,xG]at e;have a1:=uk y 9;have a2:=uk y' 9;have e1:w=w':=by rcases hw with rfl|rfl<;>rcases RH with rfl|rfl<;>simp at e ⊢<;>omega
 subst e1;have e2:code y 9=code y' 9:=by rcases hw with rfl|rfl<;>simp at e<;>omega
 have e3:code m 9=code m' 9:=by omega
 rw[CJ hG.m9 p.rm p'.rm p.im p'.im e3,CJ hG.m9 p.ry p'.ry p.iy p'.iy e2]
theorem sT:∀l:cq,nN (l.map D.int)=true
 |[]=>by unfold nN;rfl
 |a::l=>by
  show nN (.int a::l.map D.int)=true;unfold nN oi;rw[sT l];rfl
theorem E5 (m y:cq) (w:Int):oi (qg m y w)=true/\dY (qg m y w)<=4:=by
 constructor
 ·have e:∀l:cq,oi (tupI l)=true:=λl=>by unfold tupI oi;exact sT l
  simp[qg,oi,nN,e]
 ·unfold qg;have h1:=LW.qG m;have h2:=LW.qG y;unfold dY iM;rw[h1];unfold iM;rw[h2];simp[iM,dY]
theorem Ud {G:Gm}(k d:D) (h:G.W k=some d):CK k<524288:=by
 obtain⟨m,y,w,rfl,p,hw,rfl⟩:=Bg h;rw[xG];have a1:=uk y 9;have a2:=uk m 9;rcases hw with rfl|rfl<;>simp<;>omega
def eh (G:Gm) (hG:G.Ok):dq:=⟨G.W,CK,524288,by decide,λk d h=>Ud k d h,λk k' d d' h h' e=>OE hG k k' d d' h h' e,λk d h=>by
 obtain⟨m,y,w,rfl,_⟩:=Bg h;exact E5 m y w⟩
def qI:dq:=⟨λ_=>none,λ_=>0,0,by decide,(λ_ _ h=>by cases h),(λ_ _ _ _ h=>by cases h),(λ_ _ h=>by cases h)⟩
def linesOf:cw->Option (cp)
 |[]=>some []
 |.tup ds::r=>match intsOf ds,linesOf r with|some l,some ls=>some (l::ls)|_,_=>none
 |_=>none
theorem qJ:∀ls:cp,linesOf (ls.map tupI)=some ls
 |[]=>rfl
 |l::ls=>by
  show(match intsOf (l.map D.int),linesOf (ls.map tupI)with|some l,some ls=>some (l::ls)|_,_=>none)=_
  rw[jG,qJ ls]
def E6:D->Option Gm
 |.tup [.tup [.int many,.tup ls],.int _,.int b,.int g]=>(linesOf ls).map λls=>⟨many,ls,b,g⟩
 |_=>none
theorem uq (many:Int) (ls:cp) (f b g:Int):E6 (dM many ls f b g)=some ⟨many,ls,b,g⟩:=by
 show(linesOf (ls.map tupI)).map _=_;rw[qJ];rfl
open Classical in
def specOf (d:D):dq:=match E6 d with
 |some G=>if h:G.Ok then eh G h else qI
 |none=>qI
theorem nR {G:Gm}(hG:G.Ok) (f:Int):specOf (dM G.many G.ls f G.b G.g)=eh G hG:=by
 unfold specOf;rw[uq];simp only;rw[dif_pos hG]
end GP
namespace GP
open PySem DL
theorem fill:∀(F:cq) (P:Int->Bool) (k:Nat),F.countP P<=k->k<=F.length->∃c:cq,c.Sublist F/\c.length=k/\∀x∈F,P x=true->x∈c
 |[],P,k,_,h2=>⟨[],List.Sublist.refl _,by simp at h2;simp[h2],by simp⟩
 |x::F,P,k,h1,h2=>by
  rw[List.countP_cons]at h1;rw[ax]at h2;by_cases hx:P x=true
  ·rw[if_pos hx]at h1;obtain⟨c,s,l,i⟩:=fill F P (k-1) (by omega) (by omega)
   refine⟨x::c,s.cons_cons x,by rw[ax];omega,λz hz pz=>?_⟩
   rcases List.mem_cons.mp hz with rfl|u
   ·exact af
   ·exact ai _ (i z u pz)
  ·rw[if_neg hx]at h1;by_cases hk:k<=F.length
   ·obtain⟨c,s,l,i⟩:=fill F P k (by omega) hk
    refine⟨c,s.cons x,l,λz hz pz=>?_⟩
    rcases List.mem_cons.mp hz with rfl|u
    ·exact absurd pz hx
    ·exact i z u pz
   ·exact⟨x::F,List.Sublist.refl _,by rw[ax];omega,λz hz _=>hz⟩
theorem nh {G:Gm}{m y A:cq}{w:Int}(ha:A.length<=(if w=0 then G.b else G.g).toNat):∃c∈G.eA m y w,∀p∈G.free m y,p∈A->p∈c:=by
 have hc:(G.free m y).countP (λp=>decide (p∈A))<=A.length:=by
  rw[List.countP_eq_length_filter];exact bY ((kR (ng _ _ _)).sublist List.filter_sublist) λp hp=>by
   have:=(List.mem_filter.mp hp).2
   simpa using this
 have vk:(G.free m y).countP (λp=>decide (p∈A))<=(G.free m y).length:=List.countP_le_length
 obtain⟨c,s,l,i⟩:=fill (G.free m y) (λp=>decide (p∈A)) (nQ G.b G.g w (G.free m y)) (by unfold nQ;split<;>omega) (by unfold nQ;split<;>omega)
 exact⟨c,kT.mpr ⟨l,(ng _ _ _).sublist s,λp hp=>s.subset hp⟩,λp hp hA=>i p hp (by simpa using hA)⟩
theorem rM {G:Gm}(hG:G.Ok) {m y c:cq}{w:Int}(hc:c∈G.eA m y w):c.length<=(if w=0 then G.b else G.g).toNat:=by
 obtain⟨l,_,_⟩:=kT.mp hc;rw[l];unfold nQ;have:=hG.b1;have:=hG.g1;split<;>split<;>omega
theorem sr {G:Gm}{m y:cq}:G.over m y=some 0↔∃l∈G.ls,∀p∈l,p∈m:=by
 unfold Gm.over uh;have e:G.ls.any (gH m)=true↔∃l∈G.ls,∀p∈l,p∈m:=by
  rw[bQ];simp only[gH,List.all_eq_true,decide_eq_true_eq]
 constructor
 ·intro h;split at h
  ·rename_i h1;exact e.mp h1
  ·split at h<;>simp at h
 ·intro h;rw[if_pos (e.mpr h)]
theorem su {G:Gm}{m y:cq}(h0:¬ ∃l∈G.ls,∀p∈l,p∈m):G.over m y=some 1↔∀l∈G.ls,∃p∈l,p∈y:=by
 have h1:¬ G.ls.any (gH m)=true:=by
  intro h;rw[bQ]at h;simp only[gH,List.all_eq_true,decide_eq_true_eq]at h;exact h0 h
 unfold Gm.over uh;rw[if_neg h1];have e:G.ls.all (eZ y)=true↔∀l∈G.ls,∃p∈l,p∈y:=by
  rw[List.all_eq_true];simp only[eZ,bQ,decide_eq_true_eq]
 constructor
 ·intro h;split at h
  ·rename_i h2;exact e.mp h2
  ·simp at h
 ·intro h;rw[if_pos (e.mpr h)]
theorem ni (G:Gm) (m y:cq):G.over m y=some 0\/G.over m y=some 1\/G.over m y=none:=by
 cases h:G.over m y with
 |none=>exact .inr (.inr rfl)
 |some i=>rcases Gz h with rfl|rfl<;>simp
theorem GA {G:Gm}(hG:G.Ok) {m y:cq}(h:eK G.many m y) (ho:G.over m y=none):G.fj m y 0=0↔∃c∈G.eA m y 0,G.fj (dh m y 0 c).1 (dh m y 0 c).2 1=0:=by
 rw[va hG h,ho];simp only;have e:(G.eA m y 0).any (λc=>G.fj (dh m y 0 c).1 (dh m y 0 c).2 (1-0)==0)=true↔∃c∈G.eA m y 0,G.fj (dh m y 0 c).1 (dh m y 0 c).2 1=0:=by
  rw[bQ];simp only[beq_iff_eq];rfl
 constructor
 ·intro h1;split at h1
  ·rename_i h2;exact e.mp h2
  ·omega
 ·intro h1;rw[if_pos (e.mpr h1)]
theorem K7 {G:Gm}(hG:G.Ok) {m y:cq}(h:eK G.many m y) (ho:G.over m y=none):G.fj m y 1=0↔∀c∈G.eA m y 1,G.fj (dh m y 1 c).1 (dh m y 1 c).2 0=0:=by
 rw[va hG h,ho];simp only;have e:(G.eA m y 1).any (λc=>G.fj (dh m y 1 c).1 (dh m y 1 c).2 (1-1)==1)=true↔∃c∈G.eA m y 1,G.fj (dh m y 1 c).1 (dh m y 1 c).2 0=1:=by
  rw[bQ];simp only[beq_iff_eq];rfl
 constructor
 ·intro h1 c hc;rcases ot (w:=0) hG (iR h hc) (.inl rfl)with z|z
  ·exact z
  ·rw[if_pos (e.mpr ⟨c,hc,z⟩)]at h1;omega
 ·intro h1;rw[if_neg]
  ·rfl
  ·intro z;obtain⟨c,hc,u⟩:=e.mp z;have:=h1 c hc;omega
theorem nj {G:Gm}(hG:G.Ok) {m y:cq}{w i:Int}(h:eK G.many m y) (ho:G.over m y=some i):G.fj m y w=i:=by
 rw[va hG h,ho]
theorem K8 (m y c:cq):dh m y 0 c=(sortI (m++c),y):=rfl
theorem K9 (m y c:cq):dh m y 1 c=(m,sortI (y++c)):=rfl
end GP
namespace GP
open PySem DL
open L2 (lu sY)
def comb:Nat->cq->cp
 |0,_=>[[]]
 |_+1,[]=>[]
 |k+1,p::r=>(comb k r).map (p:: ·)++comb (k+1) r
theorem oV:∀(k:Nat) (s c:cq),c∈comb k s->c.length=k/\∀p∈c,p∈s
 |0,s,c,h=>by simp[comb]at h;subst h;simp
 |k+1,[],c,h=>by simp[comb]at h
 |k+1,q::r,c,h=>by
  simp only[comb,List.mem_append,List.mem_map]at h;rcases h with⟨d,hd,rfl⟩|h
  ·obtain⟨h1,h2⟩:=oV k r d hd;refine⟨by simp[h1],λp hp=>?_⟩
   rcases List.mem_cons.mp hp with rfl|hp
   ·exact af
   ·exact ai _ (h2 p hp)
  ·obtain⟨h1,h2⟩:=oV (k+1) r c h;exact⟨h1,λp hp=>ai _ (h2 p hp)⟩
theorem nk:∀(k:Nat) (s:cq),s.length<k->comb k s=[]
 |0,s,h=>by omega
 |k+1,[],_=>rfl
 |k+1,p::r,h=>by
  simp only[ax]at h;simp[comb,nk k r (by omega),nk (k+1) r (by omega)]
theorem sU:∀(s:cq),comb s.length s=[s]
 |[]=>rfl
 |p::r=>by simp[comb,sU r,nk (r.length+1) r (by omega)]
theorem CM:∀(s:cq),comb 1 s=s.map λp=>[p]
 |[]=>rfl
 |p::r=>by
  have:=CM r;simp[comb,this]
theorem ext_nil (s:cq):lV s []=s.map λp=>[p]:=by
 have:s.filter (behind [])=s:=List.filter_eq_self.mpr λp _=>rfl
 simp[lV,this]
theorem vB {p q:Int}{c:cq}(h:c≠[]):behind (p::c) q=behind c q:=by
 unfold behind;rw[List.getLast?_cons];cases hc:c.getLast? with
 |none=>exact absurd (List.getLast?_eq_none_iff.mp hc) h
 |some x=>rfl
theorem xH {p:Int}{c:cq}(h:c≠[]) (hp:∀q∈c,p<q):behind c p=false:=by
 unfold behind;cases hc:c.getLast? with
 |none=>exact absurd (List.getLast?_eq_none_iff.mp hc) h
 |some x=>
  have:=hp x (List.mem_of_getLast? hc);simp;omega
theorem Nx {p:Int}{r c:cq}(h:c≠[]) (hp:∀q∈c,p<q):lV (p::r) c=lV r c:=by
 unfold lV;rw[bu,xH h hp];rfl
theorem HU {p:Int}{r c:cq}(hr:∀q∈r,p<q) (hc:∀q∈c,q∈r):lV (p::r) (p::c)=(lV r c).map (p:: ·):=by
 unfold lV;rw[aW];by_cases h:c=[]
 ·subst h;have h1:behind [p] p=false:=by simp[behind]
  have h2:r.filter (behind [p])=r:=List.filter_eq_self.mpr λq hq=>by simp[behind];exact hr q hq
  have h3:r.filter (behind [])=r:=List.filter_eq_self.mpr λq _=>rfl
  rw[bu,h1,h2,h3];rfl
 ·have h1:behind (p::c) p=false:=by rw[vB h];exact xH h λq hq=>hr q (hc q hq)
  have h2:r.filter (behind (p::c))=r.filter (behind c):=List.filter_congr λq _=>vB h
  rw[bu,h1,h2];rfl
theorem kb {α β:Type}{f g:α->List β}:∀{l:List α},(∀a∈l,f a=g a)->l.flatMap f=l.flatMap g
 |[],_=>rfl
 |a::l,h=>by rw[List.flatMap_cons,List.flatMap_cons,h a af,kb λb hb=>h b (ai _ hb)]
theorem xI:∀(k:Nat) (s:cq),fO s->comb (k+1) s=(comb k s).flatMap (lV s)
 |0,s,_=>by simp[CM,comb,ext_nil]
 |k+1,[],_=>by simp[comb]
 |k+1,p::r,h=>by
  have hr:∀q∈r,p<q:=(List.pairwise_cons.mp h).1;have rr:fO r:=(List.pairwise_cons.mp h).2;have i1:=xI k r rr;have i2:=xI (k+1) r rr;show(comb (k+1) r).map (p:: ·)++comb (k+2) r=((comb k r).map (p:: ·)++comb (k+1) r).flatMap (lV (p::r))
  rw[List.flatMap_append]
  congr 1
  ·rw[List.flatMap_map,i1,List.map_flatMap];exact kb λc hc=>(HU hr (oV k r c hc).2).symm
  ·rw[i2];refine kb λc hc=>?_
   obtain⟨h1,h2⟩:=oV (k+1) r c hc;exact(Nx (λz=>by rw[z]at h1;cases h1) λq hq=>hr q (h2 q hq)).symm
theorem xJ {s:cq}(h:fO s):∀k,iD s k=comb k s
 |0=>by cases s<;>rfl
 |k+1=>by rw[xI k s h,<-xJ h k];rfl
def r9 (c:Nat) (ps:cq):cp:=if ps.length<=c then[ps]else comb c ps
theorem xK {c:Nat}{ps:cq}(h:c<=ps.length):r9 c ps=comb c ps:=by
 unfold r9;split
 ·have:c=ps.length:=by omega
  rw[this,sU]
 ·rfl
def xM (c:Nat) (ps:cq) (k:Nat):cp:=match ps[k]? with
 |some p=>(comb c (ps.drop (k+1))).map (p:: ·)
 |none=>[]
theorem Ac:∀(c:Nat) (ps:cq),(List.range (ps.length-c)).flatMap (xM c ps)=comb (c+1) ps
 |c,[]=>by simp[comb]
 |c,p::r=>by
  by_cases h:c<=r.length
  ·have e:(p::r).length-c=(r.length-c)+1:=by simp;omega
   rw[e,List.range_succ_eq_map,List.flatMap_cons,List.flatMap_map];show xM c (p::r) 0++_=(comb c r).map (p:: ·)++comb (c+1) r
   congr 1
   rw[<-Ac c r];exact kb λk _=>rfl
  ·have e:(p::r).length-c=0:=by simp;omega
   rw[e,nk (c+1) (p::r) (by simp;omega)]
   rfl
theorem rN:∀(c:Nat) (ps:cq),(comb c ps).length<=2^ps.length
 |0,ps=>by simp[comb];exact Nat.one_le_two_pow
 |c+1,[]=>by simp[comb]
 |c+1,p::r=>by
  have h1:=rN c r;have h2:=rN (c+1) r;simp only[comb,aR,ae,ax,Nat.pow_succ];omega
theorem CN {c:Nat}{ps:cq}:(r9 c ps).length<=2^ps.length:=by
 unfold r9;split
 ·simp;exact Nat.one_le_two_pow
 ·exact rN c ps
theorem xN {many b g:Int}{m y:cq}{w:Int}(hk:0<=(if w=0 then b else g)):pF many b g m y w=r9 (if w=0 then b else g).toNat (ft many m y):=by
 unfold pF nQ;rw[xJ (ng many m y)];generalize (if w=0 then b else g)=k at hk ⊢
 by_cases h:((ft many m y).length:Int)<k
 ·rw[if_pos h,Int.toNat_natCast,sU];unfold r9;rw[if_pos (by omega)]
 ·rw[if_neg h,xK (by omega)]
end GP
namespace GP
open PySem DL
def Ra (G:Gm) (m y:cq) (G':Gm) (m' y':cq):Prop:=
 ∀l∈G.ls,(∀p∈l,p∉y)->∃l'∈G'.ls,(∀p∈l',p∉y')/\∀p∈l',p∉m'->p∈l/\p∉m
theorem Ra.sr {G G':Gm}{m y m' y':cq}(h:eK G.many m y) (d:Ra G m y G' m' y') (z:∃l∈G.ls,∀p∈l,p∈m):∃l∈G'.ls,∀p∈l,p∈m':=by
 obtain⟨l,hl,hp⟩:=z;obtain⟨l',jk,_,s⟩:=d l hl λp q=>h.dj p (hp p q)
 refine⟨l',jk,λp q=>?_⟩
 by_cases hm:p∈m'
 ·exact hm
 ·exact absurd (hp p (s p q hm).1) (s p q hm).2
theorem Ra.su {G G':Gm}{m y m' y':cq}(h:eK G.many m y) (d:Ra G m y G' m' y') (sI:G'.over m' y'=some 1):G.over m y=some 1:=by
 have U5:¬ ∃l∈G'.ls,∀p∈l,p∈m':=λz=>by rw[GP.sr.mpr z]at sI;simp at sI
 have a:=(GP.su U5).mp sI;refine(GP.su λz=>U5 (d.sr h z)).mpr λl hl=>?_
 by_cases hy:∃p∈l,p∈y
 ·exact hy
 ·obtain⟨l',jk,o,_⟩:=d l hl λp q u=>hy ⟨p,q,u⟩
  obtain⟨p,q,u⟩:=a l' jk;exact absurd u (o p q)
theorem rO {G G':Gm}(hG:G.Ok) (ID:G'.Ok) (em:G.many=G'.many) (eb:G.b=G'.b) (eg:G.g=G'.g):∀(n:Nat) (m y m' y':cq) (w:Int),eK G.many m y->eK G'.many m' y'->Ra G m y G' m' y'->(w=0\/w=1)->(G'.free m' y').length<=n->
  G.fj m y w=0->G'.fj m' y' w=0:=by
 intro n;induction n with
 |zero=>
  intro m y m' y' w h h' d hw hn HV;have h0:G'.free m' y'=[]:=List.length_eq_zero_iff.mp (by omega)
  rcases ni G' m' y' with sI|sI|sI
  ·exact nj ID h' sI
  ·rw[nj hG h (d.su h sI)]at HV;omega
  ·exact absurd sI (u9 ID h0)
 |succ n ih=>
  intro m y m' y' w h h' d hw hn HV;rcases ni G' m' y' with sI|sI|sI
  ·exact nj ID h' sI
  ·rw[nj hG h (d.su h sI)]at HV;omega
  ·have U5:¬ ∃l∈G'.ls,∀p∈l,p∈m':=λz=>by rw[GP.sr.mpr z]at sI;simp at sI
   rcases ni G m y with ho|ho|ho
   ·exact absurd (d.sr h (GP.sr.mp ho)) U5
   ·rw[nj hG h ho]at HV;omega
   ·rcases hw with rfl|rfl
    ·obtain⟨c,hc,wc⟩:=(GA hG h ho).mp HV;have hl:=rM hG hc;rw[if_pos rfl]at hl;obtain⟨c',uG,o8⟩:=nh (G:=G') (m:=m') (y:=y') (A:=c) (w:=0) (by rw[if_pos rfl];omega)
     refine(GA ID h' sI).mpr ⟨c',uG,?_⟩;have f1:=oU h' uG;have f2:=rK ID sI uG;refine ih _ _ _ _ 1 (iR h hc) (iR h' uG) ?_ (.inr rfl) (by omega) wc
     intro l jk IE;rw[K8]at IE ⊢;rw[K8];obtain⟨l',D4,o,s⟩:=d l jk IE;refine⟨l',D4,o,λp hp hm=>?_⟩
     have nm:p∉m':=λz=>hm (di.mpr (bE _ z))
     obtain⟨s1,s2⟩:=s p hp nm;refine⟨s1,λz=>?_⟩
     rcases List.mem_append.mp (di.mp z)with u|u
     ·exact s2 u
     ·exact hm (di.mpr (aM _ (o8 p (fc.mpr ⟨em▸hG.li l jk p s1,nm,o p hp⟩) u)))
    ·refine(K7 ID h' sI).mpr λc' uG=>?_
     have hl:=rM ID uG;rw[if_neg (by omega)]at hl
     obtain⟨c,hc,o8⟩:=nh (G:=G) (m:=m) (y:=y) (A:=c') (w:=1) (by rw[if_neg (by omega)];omega)
     have wc:=(K7 hG h ho).mp HV c hc;have f1:=oU h' uG;have f2:=rK ID sI uG;refine ih _ _ _ _ 0 (iR h hc) (iR h' uG) ?_ (.inl rfl) (by omega) wc
     intro l jk IE;rw[K9]at IE ⊢;rw[K9];have hy:∀p∈l,p∉y:=λp q z=>IE p q (di.mpr (bE _ z))
     obtain⟨l',D4,o,s⟩:=d l jk hy;refine⟨l',D4,λp hp z=>?_,s⟩
     rcases List.mem_append.mp (di.mp z)with u|u
     ·exact o p hp u
     ·have fr:=fc.mp ((kT.mp uG).2.2 p u);obtain⟨s1,s2⟩:=s p hp fr.2.1;exact IE p s1 (di.mpr (aM _ (o8 p (fc.mpr ⟨hG.li l jk p s1,s2,hy p s1⟩) u)))
theorem Rb {G G':Gm}(hG:G.Ok) (ID:G'.Ok) (em:G.many=G'.many) (eb:G.b=G'.b) (eg:G.g=G'.g) {m y m' y':cq}{w:Int}(h:eK G.many m y) (h':eK G'.many m' y') (hw:w=0\/w=1) (d:Ra G m y G' m' y') (d':Ra G' m' y' G m y):G.fj m y w=G'.fj m' y' w:=by
 have a:=rO hG ID em eb eg _ m y m' y' w h h' d hw (au _);have b:=rO ID hG em.symm eb.symm eg.symm _ m' y' m y w h' h d' hw (au _);rcases ot hG h hw with z|z
 ·rw[z,a z]
 ·rcases ot ID h' hw with u|u
  ·rw[b u]at z;omega
  ·rw[z,u]
theorem vb:∀(k:Nat) (ps c:cq),c.Sublist ps->c.length=k->c∈comb k ps
 |0,ps,c,_,h=>by
  have:c=[]:=List.length_eq_zero_iff.mp h;subst this;cases ps<;>simp[comb]
 |k+1,[],c,s,h=>by
  have:=s.length_le;simp at this;subst this;simp at h
 |k+1,p::r,c,s,h=>by
  simp only[comb,List.mem_append,List.mem_map];cases s with
  |cons _ s=>exact .inr (vb (k+1) r c s h)
  |cons_cons _ s=>
   rename_i c';exact .inl ⟨c',vb k r c' s (by simpa using h),rfl⟩
theorem CO {k:Nat}{ps A:cq}(hA:ps.countP (λp=>decide (p∈A))<=k):∃c∈r9 k ps,∀p∈ps,p∈A->p∈c:=by
 unfold r9;by_cases h:ps.length<=k
 ·rw[if_pos h];exact⟨ps,by simp,λp hp _=>hp⟩
 ·rw[if_neg h];obtain⟨c,s,l,i⟩:=fill ps (λp=>decide (p∈A)) k hA (by omega)
  exact⟨c,vb k ps c s l,λp hp ha=>i p hp (by simpa using ha)⟩
theorem pG {k:Nat}{ps c:cq}(h:c∈r9 k ps):(∀p∈c,p∈ps)/\c.length<=k/\(c.length=k\/∀p∈ps,p∈c):=by
 unfold r9 at h;split at h
 ·simp at h;subst h;exact⟨λp hp=>hp,by omega,.inr λp hp=>hp⟩
 ·obtain⟨h1,h2⟩:=oV k ps c h;exact⟨h2,by omega,.inl h1⟩
def Gm.at (G:Gm) (L:cp):Gm:={G with ls:=L}
structure Ny (G:Gm) (L:cp):Prop where
 li:∀l∈L,∀p∈l,0<=p/\p<G.many
 ll:∀l∈L,l.length<1000000
theorem Gm.Ok.at {G:Gm}(hG:G.Ok) {L:cp}(h:Ny G L):(G.at L).Ok:=⟨hG.m0,hG.m9,h.li,h.ll,hG.b1,hG.b3,hG.g1,hG.g3⟩
theorem mv (many:Int):eK many [] []:=⟨List.Pairwise.nil,List.Pairwise.nil,(λp h=>by cases h),(λp h=>by cases h),λp h=>by cases h⟩
theorem quick {G:Gm}(hG:G.Ok) {m y l:cq}(h:eK G.many m y) (hl:l∈G.ls) (hy:∀p∈l,p∉y) (hb:l.length<=G.b.toNat):G.fj m y 0=0:=by
 rcases ni G m y with ho|ho|ho
 ·exact nj hG h ho
 ·exfalso;have n0:¬ ∃l∈G.ls,∀p∈l,p∈m:=λz=>by rw[sr.mpr z]at ho;simp at ho
  obtain⟨p,hp,u⟩:=(su n0).mp ho l hl;exact hy p hp u
 ·obtain⟨c,hc,o8⟩:=nh (G:=G) (m:=m) (y:=y) (A:=l) (w:=0) (by rw[if_pos rfl];exact hb)
  refine(GA hG h ho).mpr ⟨c,hc,nj hG (iR h hc) (sr.mpr ⟨l,hl,λp hp=>?_⟩)⟩
  rw[K8];by_cases hm:p∈m
  ·exact di.mpr (bE _ hm)
  ·exact di.mpr (aM _ (o8 p (fc.mpr ⟨hG.li l hl p hp,hm,hy p hp⟩) hp))
theorem Ad {G:Gm}{L:cp}(h1:L≠[]) (h2:[]∉L):(G.at L).over [] []=none:=by
 have n0:¬ ∃l∈(G.at L).ls,∀p∈l,p∈([]:cq):=λ⟨l,hl,hp⟩=>by
  cases l with
  |nil=>exact h2 hl
  |cons a r=>exact absurd (hp a af) (by simp)
 rcases ni (G.at L) [] []with ho|ho|ho
 ·exact absurd (sr.mp ho) n0
 ·cases L with
  |nil=>exact absurd rfl h1
  |cons a r=>
   obtain⟨p,_,u⟩:=(su n0).mp ho a af;cases u
 ·exact ho
section
variable {G:Gm}(hG:G.Ok) {L:cp}(hL:Ny G L) (h1:L≠[]) (h2:[]∉L) {ps:cq}(nd:ps.Nodup) (DI:∀p,p∈ps↔∃l∈L,p∈l)
include hG hL DI
theorem qK {c:cq}(hc:∀p∈c,p∈ps) (hn:c.Nodup):eK G.many (sortI c) []/\eK G.many [] (sortI c):=by
 have r:fO (sortI c):=LW.kQ hn;have i:∀p∈sortI c,0<=p/\p<G.many:=λp hp=>by
  obtain⟨l,hl,EK⟩:=(DI p).mp (hc p (di.mp hp));exact hL.li l hl p EK
 exact⟨⟨r,List.Pairwise.nil,i,(λp h=>by cases h),λp _ h=>by cases h⟩,⟨List.Pairwise.nil,r,(λp h=>by cases h),i,λp h=>by cases h⟩⟩
include nd in
theorem count_le {c:cq}:ps.countP (λp=>decide (p∈c))<=c.length:=by
 rw[List.countP_eq_length_filter];exact bY (nd.sublist List.filter_sublist) λp hp=>by
  have:=(List.mem_filter.mp hp).2
  simpa using this
theorem oW {k:Nat}{c:cq}(nd:ps.Nodup) (h:c∈r9 k ps):c.Nodup:=by
 unfold r9 at h;split at h
 ·simp at h;subst h;exact nd
 ·have:∀(k:Nat) (ps c:cq),c∈comb k ps->c.Sublist ps:=by
   intro k ps;induction ps generalizing k with
   |nil=>intro c h;cases k<;>simp[comb]at h;subst h;exact List.Sublist.refl _
   |cons p r ih=>
    intro c h;cases k with
    |zero=>simp[comb]at h;subst h;exact List.nil_sublist _
    |succ k=>
     simp only[comb,List.mem_append,List.mem_map]at h;rcases h with⟨d,hd,rfl⟩|h
     ·exact(ih k d hd).cons_cons p
     ·exact(ih (k+1) c h).cons p
  exact nd.sublist (this k ps c h)
include h1 h2 nd in
theorem La:(G.at L).fj [] [] 0=0↔∃c∈r9 G.b.toNat ps,(G.at L).fj (sortI c) [] 1=0:=by
 have hA:=hG.at hL;have p0:eK (G.at L).many [] []:=mv _;rw[GA hA p0 (Ad h1 h2)];constructor
 ·rintro⟨c,hc,wc⟩
  have hl:=rM hA hc;rw[if_pos rfl]at hl;have cnt:=count_le hG hL nd DI (c:=c);obtain⟨d,hd,o8⟩:=CO (k:=G.b.toNat) (ps:=ps) (A:=c) (aD cnt hl);have pd:=(qK hG hL DI (pG hd).1 (oW hG hL DI nd hd)).1;refine⟨d,hd,rO hA hA rfl rfl rfl _ _ _ _ _ 1 (iR p0 hc) pd ?_ (.inr rfl) (au _) wc⟩;intro l jk IE;refine⟨l,jk,(λp hp z=>by cases z),λp hp hm=>⟨hp,λz=>?_⟩⟩
  rw[K8]at z;rcases List.mem_append.mp (di.mp z)with u|u
  ·cases u
  ·exact hm (di.mpr (o8 p ((DI p).mpr ⟨l,jk,hp⟩) u))
 ·rintro⟨d,hd,wd⟩
  have pd:=(qK hG hL DI (pG hd).1 (oW hG hL DI nd hd)).1;obtain⟨c,hc,o8⟩:=nh (G:=G.at L) (m:=[]) (y:=[]) (A:=d) (w:=0) (by rw[if_pos rfl];exact(pG hd).2.1)
  refine⟨c,hc,rO hA hA rfl rfl rfl _ _ _ _ _ 1 pd (iR p0 hc) ?_ (.inr rfl) (au _) wd⟩;intro l jk IE;refine⟨l,jk,(λp hp z=>by cases z),λp hp hm=>⟨hp,λz=>?_⟩⟩
  refine hm ?_;rw[K8];exact di.mpr (aM _ (o8 p (fc.mpr ⟨hL.li l jk p hp,by simp,by simp⟩) (di.mp z)))
include h1 h2 nd in
theorem Lb:(G.at L).fj [] [] 1=1↔∃c∈r9 G.g.toNat ps,(∀l∈L,l.length<=G.b.toNat->∃p∈l,p∈c)/\(G.at L).fj [] (sortI c) 0=1:=by
 have hA:=hG.at hL;have p0:eK (G.at L).many [] []:=mv _;have w1:(G.at L).fj [] [] 1=1↔∃c∈(G.at L).eA [] [] 1,(G.at L).fj (dh [] [] 1 c).1 (dh [] [] 1 c).2 0=1:=by
  have e:=K7 hA p0 (Ad h1 h2);constructor
  ·intro z;apply bW
   intro n;have:(G.at L).fj [] [] 1=0:=e.mpr λc hc=>by
    rcases ot (w:=0) hA (iR p0 hc) (.inl rfl)with u|u
    ·exact u
    ·exact absurd ⟨c,hc,u⟩ n
   omega
  ·rintro⟨c,hc,u⟩
   rcases ot (w:=1) hA p0 (.inr rfl)with z|z
   ·have:=e.mp z c hc;omega
   ·exact z
 rw[w1];constructor
 ·rintro⟨c,hc,wc⟩
  have hl:=rM hA hc;rw[if_neg (by omega)]at hl
  have cnt:=count_le hG hL nd DI (c:=c);obtain⟨d,hd,o8⟩:=CO (k:=G.g.toNat) (ps:=ps) (A:=c) (aD cnt hl);have pd:=(qK hG hL DI (pG hd).1 (oW hG hL DI nd hd)).2;have wd:(G.at L).fj [] (sortI d) 0=1:=by
   rcases ot (w:=0) hA pd (.inl rfl)with u|u
   ·exfalso;have:=rO hA hA rfl rfl rfl _ _ _ _ _ 0 pd (iR p0 hc) (λl jk IE=>⟨l,jk,λp hp z=>by
     rw[K9]at z;rcases List.mem_append.mp (di.mp z)with v|v
     ·cases v
     ·exact IE p hp (di.mpr (o8 p ((DI p).mpr ⟨l,jk,hp⟩) v)),λp hp _=>⟨hp,by simp⟩⟩) (.inl rfl) (au _) u
    omega
   ·exact u
  refine⟨d,hd,λl jk hb=>?_,wd⟩
  apply bW
  intro n;have:=quick hA pd jk (λp hp z=>n ⟨p,hp,di.mp z⟩) hb
  omega
 ·rintro⟨d,hd,_,wd⟩
  have pd:=(qK hG hL DI (pG hd).1 (oW hG hL DI nd hd)).2;obtain⟨c,hc,o8⟩:=nh (G:=G.at L) (m:=[]) (y:=[]) (A:=d) (w:=1) (by rw[if_neg (by omega)];exact(pG hd).2.1)
  refine⟨c,hc,?_⟩;rcases ot (w:=0) hA (iR p0 hc) (.inl rfl)with u|u
  ·exfalso;have:=rO hA hA rfl rfl rfl _ _ _ _ _ 0 (iR p0 hc) pd (λl jk IE=>⟨l,jk,λp hp z=>by
    refine IE p hp ?_;rw[K9];exact di.mpr (aM _ (o8 p (fc.mpr ⟨hL.li l jk p hp,bK,bK⟩) (di.mp z))),λp hp _=>⟨hp,by rw[K9];exact bK⟩⟩) (.inl rfl) (au _) u
   omega
  ·exact u
end
theorem HW {G:Gm}(hG:G.Ok) {L L':cp}(hL:Ny G L) (U0:Ny G L') {m y:cq}{w:Int}(h:eK G.many m y) (hw:w=0\/w=1)
  (d:∀l∈L,(∀p∈l,p∉y)->∃l'∈L',∀p∈l',p∈l/\p∉m) (d':∀l'∈L',∃l∈L,(∀p∈l,p∉y)/\∀p∈l,p∉m->p∈l'):
  (G.at L).fj m y w=(G.at L').fj [] [] w:=
 Rb (hG.at hL) (hG.at U0) rfl rfl rfl h (mv _) hw
  (λl hl ho=>(d l hl ho).imp λl' q=>⟨q.1,(λp _ z=>by cases z),λp hp _=>q.2 p hp⟩)
  (λl' jk _=>(d' l' jk).imp λl q=>⟨q.1,q.2.1,λp hp hm=>⟨q.2.2 p hp hm,by simp⟩⟩)
end GP
namespace GP
open PySem DL
def vC (m l:cq):cq:=l.filter λp=> !decide (p∈m)
def fP (L:cp) (m y:cq):cp:=(L.filter λl=> !eZ y l).map (vC m)
def Lc (l:cq) (ls:cp):Bool:=ls.any λo=>(!decide (o=l))&&gH l o
def Nz (ls:cp):cp:=ls.filter λl=> !Lc l ls
def g0 (L:cp) (m y:cq):cp:=Nz (gY (fP L m y).eraseDups)
theorem fH {m l:cq}{p:Int}:p∈vC m l↔p∈l/\p∉m:=by
 unfold vC;rw[List.mem_filter];simp
theorem pH {m l:cq}(h:fO l):fO (vC m l):=List.Pairwise.filter _ h
theorem CP {y l:cq}:eZ y l=false↔∀p∈l,p∉y:=by
 unfold eZ;rw[List.any_eq_false];simp
theorem GB {m l:cq}:gH m l=true↔∀p∈l,p∈m:=by
 unfold gH;rw[List.all_eq_true];simp
theorem gc {L:cp}{m y f:cq}:f∈fP L m y↔∃l∈L,(∀p∈l,p∉y)/\f=vC m l:=by
 unfold fP;rw[List.mem_map];constructor
 ·rintro⟨l,hl,rfl⟩
  obtain⟨h1,h2⟩:=List.mem_filter.mp hl;exact⟨l,h1,CP.mp (by simpa using h2),rfl⟩
 ·rintro⟨l,hl,hy,rfl⟩
  exact⟨l,List.mem_filter.mpr ⟨hl,by rw[CP.mpr hy];rfl⟩,rfl⟩
theorem Ld {l:cq}{ls:cp}:Lc l ls=false↔∀o∈ls,(∀p∈o,p∈l)->o=l:=by
 unfold Lc;rw[List.any_eq_false];constructor
 ·intro h o ho hs;have:=h o ho;rw[GB.mpr hs]at this
  simpa using this
 ·intro h o ho;by_cases hs:∀p∈o,p∈l
  ·simp[h o ho hs]
  ·have:gH l o=false:=by
    cases q:gH l o with
    |false=>rfl
    |true=>exact absurd (GB.mp q) hs
   simp[this]
theorem GC {ls:cp}{f:cq}:f∈gY ls.eraseDups↔f∈ls:=(fM _).mem_iff.trans List.mem_eraseDups
theorem iU {L:cp}{m y f:cq}:f∈g0 L m y↔f∈fP L m y/\∀o∈fP L m y,(∀p∈o,p∈f)->o=f:=by
 unfold g0 Nz;rw[List.mem_filter,GC];constructor
 ·rintro⟨h1,h2⟩
  exact⟨h1,λo ho=>Ld.mp (by simpa using h2) o (GC.mpr ho)⟩
 ·rintro⟨h1,h2⟩
  exact⟨h1,by rw[Ld.mpr λo ho=>h2 o (GC.mp ho)];rfl⟩
theorem m8 {α:Type} [BEq α] [LawfulBEq α]:∀(n:Nat) (l:List α),l.length<=n->l.eraseDups.Nodup
 |_,[],_=>by simp
 |0,_::_,h=>by simp at h
 |n+1,a::l,h=>by
  rw[List.eraseDups_cons,List.nodup_cons];refine⟨λz=>?_,m8 n _ (aD (aX _ _) (by simpa using h))⟩
  have:=(List.mem_filter.mp (List.mem_eraseDups.mp z)).2;simp at this
theorem CQ (L:cp) (m y:cq):(g0 L m y).Pairwise (λa b=>HT.lexLt a b=true):=List.Pairwise.filter _ (LW.xD (m8 _ _ (au _)))
theorem NA (a:cq):HT.lexLt a a=false:=by
 induction a with
 |nil=>rfl
 |cons x r ih=>rw[HT.jD];simp[ih]
theorem Ae {l:cp}(h:l.Pairwise λa b=>HT.lexLt a b=true):l.Nodup:=h.imp λ{a b} h z=>by subst z;rw[NA]at h;cases h
theorem lex_asymm:∀{a b:cq},HT.lexLt a b=true->HT.lexLt b a=false
 |[],[],h=>by cases h
 |[],_::_,_=>rfl
 |_::_,[],h=>by cases h
 |x::a,y::b,h=>by
  rw[HT.jD]at h ⊢;by_cases e:x=y
  ·rw[if_pos e]at h;rw[if_pos e.symm];exact lex_asymm h
  ·rw[if_neg e]at h;rw[if_neg (Ne.symm e)];have:=bM h;exact aH (by omega)
theorem NB {l k:cp}(h1:l.Pairwise λa b=>HT.lexLt a b=true) (h2:k.Pairwise λa b=>HT.lexLt a b=true) (h:∀a,a∈l↔a∈k):l=k:=
 gC (R:=λa b=>HT.lexLt b a=false) (λa b x y=>HT.gX y x) ((List.perm_ext_iff_of_nodup (Ae h1) (Ae h2)).mpr h) (h1.imp λh=>lex_asymm h) (h2.imp λh=>lex_asymm h)
theorem CS {a b:cq}(ra:fO a) (rb:fO b) (s:∀p∈a,p∈b) (ne:a≠b):a.length<b.length:=by
 have e:a=b.filter λp=>decide (p∈a):=oT ra (List.Pairwise.filter _ rb) λp=>by
  rw[List.mem_filter];exact⟨λh=>⟨s p h,aS h⟩,λh=>bM h.2⟩
 have le:(b.filter λp=>decide (p∈a)).length<=b.length:=aX _ _
 rcases Nat.lt_or_ge a.length b.length with h|h
 ·exact h
 ·have h2:(b.filter λp=>decide (p∈a)).length=b.length:=by rw[<-e]at le ⊢;omega
  have h3:=List.length_filter_eq_length_iff.mp h2;exact absurd (oT ra rb λp=>⟨s p,λhp=>bM (h3 p hp)⟩) ne
theorem oX {L:cp}{m y f:cq}(hL:∀l∈L,fO l) (h:f∈fP L m y):fO f:=by
 obtain⟨l,hl,_,rfl⟩:=gc.mp h;exact pH (hL l hl)
theorem sV {L:cp}{m y:cq}(hL:∀l∈L,fO l):∀(n:Nat) (f:cq),f.length<=n->f∈fP L m y->∃k∈g0 L m y,∀p∈k,p∈f
 |n,f,hn,hf=>by
  by_cases h:∀o∈fP L m y,(∀p∈o,p∈f)->o=f
  ·exact⟨f,iU.mpr ⟨hf,h⟩,λp hp=>hp⟩
  ·have:∃o∈fP L m y,(∀p∈o,p∈f)/\o≠f:=by
    refine bW λz=>h λo ho hs=>?_
    exact bW λz2=>z ⟨o,ho,hs,z2⟩
   obtain⟨o,ho,hs,ne⟩:=this;have lt:=CS (oX hL ho) (oX hL hf) hs ne;cases n with
   |zero=>omega
   |succ n=>
    obtain⟨k,hk,hks⟩:=sV hL n o (by omega) ho
    exact⟨k,hk,λp hp=>hs p (hks p hp)⟩
theorem HX {L:cp}{m y:cq}(hL:∀l∈L,fO l):∀l∈g0 L m y,fO l:=λl hl=>oX hL (iU.mp hl).1
theorem CT {G:Gm}{L:cp}{m y:cq}(hL:Ny G L):Ny G (g0 L m y):=by
 constructor
 ·intro l hl p hp;obtain⟨k,hk,_,rfl⟩:=gc.mp (iU.mp hl).1;exact hL.li k hk p (fH.mp hp).1
 ·intro l hl;obtain⟨k,hk,_,rfl⟩:=gc.mp (iU.mp hl).1;exact Nat.lt_of_le_of_lt (aX _ _) (hL.ll k hk)
theorem xO {G:Gm}(hG:G.Ok) {L:cp}(hL:Ny G L) (hr:∀l∈L,fO l) {m y:cq}{w:Int}(h:eK G.many m y) (hw:w=0\/w=1):(G.at L).fj m y w=(G.at (g0 L m y)).fj [] [] w:=by
 refine HW hG hL (CT hL) h hw (λl hl hy=>?_) λl' jk=>?_
 ·obtain⟨k,hk,hs⟩:=sV (m:=m) (y:=y) hr _ _ (au _) (gc.mpr ⟨l,hl,hy,rfl⟩);exact⟨k,hk,λp hp=>fH.mp (hs p hp)⟩
 ·obtain⟨l,hl,hy,rfl⟩:=gc.mp (iU.mp jk).1;exact⟨l,hl,hy,λp hp hm=>fH.mpr ⟨hp,hm⟩⟩
theorem Af {L:cp}(hr:∀l∈L,fO l) {m y m' y' M Y:cq}(hM:∀p,p∈M↔p∈m\/p∈m') (hY:∀p,p∈Y↔p∈y\/p∈y') (hd:∀p∈y',p∉m):g0 (g0 L m y) m' y'=g0 L M Y:=by
 have ba:∀b∈fP (g0 L m y) m' y',b∈fP L M Y:=λb hb=>by
  obtain⟨k,hk,Ue,rfl⟩:=gc.mp hb;obtain⟨l,hl,U6,rfl⟩:=gc.mp (iU.mp hk).1;refine gc.mpr ⟨l,hl,λp hp z=>?_,?_⟩
  ·rcases(hY p).mp z with z|z
   ·exact U6 p hp z
   ·exact Ue p (fH.mpr ⟨hp,hd p z⟩) z
  ·refine oT (pH (pH (hr l hl))) (pH (hr l hl)) λp=>?_
   rw[fH,fH,fH,hM];constructor
   ·rintro⟨⟨h1,h2⟩,h3⟩;exact⟨h1,λz=>z.elim h2 h3⟩
   ·rintro⟨h1,h2⟩;exact⟨⟨h1,λz=>h2 (.inl z)⟩,λz=>h2 (.inr z)⟩
 have ab:∀a∈fP L M Y,∃b∈fP (g0 L m y) m' y',∀p∈b,p∈a:=λa ha=>by
  obtain⟨l,hl,U6,rfl⟩:=gc.mp ha;obtain⟨k,hk,hs⟩:=sV (m:=m) (y:=y) hr _ _ (au _) (gc.mpr ⟨l,hl,λp hp z=>U6 p hp ((hY p).mpr (.inl z)),rfl⟩)
  refine⟨vC m' k,gc.mpr ⟨k,hk,λp hp z=>U6 p (fH.mp (hs p hp)).1 ((hY p).mpr (.inr z)),rfl⟩,λp hp=>?_⟩
  obtain⟨h1,h2⟩:=fH.mp hp;obtain⟨h3,h4⟩:=fH.mp (hs p h1);exact fH.mpr ⟨h3,λz=>((hM p).mp z).elim h4 h2⟩
 refine NB (CQ _ _ _) (CQ _ _ _) λf=>?_
 rw[iU,iU];constructor
 ·rintro⟨h1,h2⟩
  refine⟨ba f h1,λo ho hs=>?_⟩
  obtain⟨b,hb,YT⟩:=ab o ho;have e:=h2 b hb λp hp=>hs p (YT p hp)
  subst e;exact oT (oX hr ho) (oX hr (ba b h1)) λp=>⟨hs p,YT p⟩
 ·rintro⟨h1,h2⟩
  obtain⟨b,hb,hbf⟩:=ab f h1;have e:=h2 b (ba b hb) hbf;subst e;exact⟨hb,λo ho hs=>h2 o (ba o ho) hs⟩
def Le (G:Gm) (L:cp):Prop:=∃m y,eK G.many m y/\L=g0 G.ls m y
def vU (L:cp) (w:Int):D:=.tup [.tup (L.map tupI),.int w]
def xP:D->Option (cp×Int)
 |.tup [.tup a,.int w]=>(linesOf a).map λL=>(L,w)
 |_=>none
theorem xQ (L:cp) (w:Int):xP (vU L w)=some (L,w):=by
 show(linesOf (L.map tupI)).map _=_;rw[qJ];rfl
theorem xR:∀{ds:cw}{ls:cp},linesOf ds=some ls->ds=ls.map tupI
 |[],_,h=>by cases h;rfl
 |.tup a::r,ls,h=>by
  unfold linesOf at h;cases h1:intsOf a with
  |none=>rw[h1]at h;cases h
  |some l=>
   cases h2:linesOf r with
   |none=>rw[h1,h2]at h;cases h
   |some ls'=>rw[h1,h2]at h;cases h;rw[xR h2,jM h1];rfl
theorem HY {k:D}{L:cp}{w:Int}(h:xP k=some (L,w)):k=vU L w:=by
 unfold xP at h;split at h
 ·rename_i a w';cases h1:linesOf a with
  |none=>rw[h1]at h;cases h
  |some ls=>rw[h1]at h;cases h;rw[xR h1];rfl
 ·cases h
open Classical in
def Gm.WS (G:Gm) (k:D):Option D:=match xP k with
 |some (L,w)=>if Le G L/\(w=0\/w=1)then some (.int ((G.at L).fj [] [] w))else none
 |none=>none
theorem wA {G:Gm}{k d:D}(h:G.WS k=some d):∃L w,k=vU L w/\Le G L/\(w=0\/w=1)/\d=.int ((G.at L).fj [] [] w):=by
 unfold Gm.WS at h;split at h
 ·rename_i L w e;split at h
  ·rename_i hh;cases h;exact⟨L,w,HY e,hh.1,hh.2,rfl⟩
  ·cases h
 ·cases h
theorem Lf {G:Gm}{L:cp}{w:Int}(h:Le G L) (hw:w=0\/w=1):G.WS (vU L w)=some (.int ((G.at L).fj [] [] w)):=by
 unfold Gm.WS;rw[xQ];simp only;rw[if_pos ⟨h,hw⟩]
open Classical in
def posOf (G:Gm) (L:cp):cq×cq:=if h:Le G L then(h.choose,h.choose_spec.choose)else([],[])
theorem qL {G:Gm}{L:cp}(h:Le G L):eK G.many (posOf G L).1 (posOf G L).2/\L=g0 G.ls (posOf G L).1 (posOf G L).2:=by
 unfold posOf;rw[dif_pos h];exact h.choose_spec.choose_spec
def Rc (G:Gm) (k:D):Nat:=match xP k with|some (L,w)=>CK (qg (posOf G L).1 (posOf G L).2 w)|none=>0
theorem xS (G:Gm) (L:cp) (w:Int):Rc G (vU L w)=CK (qg (posOf G L).1 (posOf G L).2 w):=by unfold Rc;rw[xQ]
theorem GD (L:cp) (w:Int):oi (vU L w)=true/\dY (vU L w)<=4:=by
 have kl:∀L:cp,nN (L.map tupI)=true:=λL=>by
  induction L with
  |nil=>unfold nN;rfl
  |cons l r ih=>
   show nN (tupI l::r.map tupI)=true;unfold nN;rw[ih];have:oi (tupI l)=true:=by unfold tupI oi;exact sT l
   rw[this];rfl
 constructor
 ·unfold vU;simp[oi,nN,kl]
 ·have:=LW.mF L;unfold vU;simp only[dY,iM];omega
def Lg (G:Gm) (hG:G.Ok):dq:=⟨G.WS,Rc G,524288,by decide,λk d h=>by
  obtain⟨L,w,rfl,hs,hw,_⟩:=wA h;rw[xS];exact Ud _ _ (CL (qL hs).1 hw),λk k' d d' h h' e=>by
  obtain⟨L,w,rfl,hs,hw,_⟩:=wA h;obtain⟨L',w',rfl,Hc,RH,_⟩:=wA h';rw[xS,xS]at e;have:=OE hG _ _ _ _ (CL (qL hs).1 hw) (CL (qL Hc).1 RH) e;have e2:=congrArg Ab this;rw[rL,rL]at e2;injection e2 with e3
  injection e3 with e4 e5
  injection e5 with e6 e7
  rw[(qL hs).2,(qL Hc).2,e4,e6,e7],λk d h=>by
  obtain⟨L,w,rfl,_⟩:=wA h;exact GD L w⟩
open Classical in
def Lh (d:D):dq:=match E6 d with
 |some G=>if h:G.Ok then Lg G h else qI
 |none=>qI
theorem E7 {G:Gm}(hG:G.Ok) (f:Int):Lh (dM G.many G.ls f G.b G.g)=Lg G hG:=by
 unfold Lh;rw[uq];simp only;rw[dif_pos hG]
end GP
namespace PC
open PySem DL LW
noncomputable def qM:cc:=
  (eP (cT Ek (cL (dL (eS (iT (cP 1)) 2 lP (dz B0 (dk 2) (dk 0)))) cR)))
noncomputable def xT:cc:=
  qM
noncomputable def ie:cj:=hO 3 2 xT
noncomputable def pI:cc:=
  (eP (cT Cd (cL (dL (eS (iT (cP 1)) 2 lP (dz B0 (dk 2) (dk 0)))) cR)))
noncomputable def vD:cc:=
  pI
noncomputable def fu:cj:=hO 3 2 vD
noncomputable def zd:cc:=
  (eP (S0 (qB (dz nI (dk 1) (dC (.int 0)))) (dz jL (dk 0) (dC (.int 2))) (dz jL (dk 0) (dC (.int 3)))))
noncomputable def ur:cc:=
  zd
noncomputable def dW:cj:=hO 2 2 ur
noncomputable def CU (dB:cj):cc:=
  (eP (fi (cL (cP 0) cR)))
noncomputable def lJ (dB:cj):cc:=
  (lO (qB (dz VO (dk 1) (cT n8 (cL (dk 0) cR)))) (CU dB) g9)
noncomputable def CV (dB:cj):cc:=
  (eP (fi (cL (fi cR) cR)))
noncomputable def qN (dB:cj):cc:=
  (lO (qB (dz nI (dk 1) (dC (.int 0)))) (CV dB) g9)
noncomputable def vE (dB:cj):cc:=
  (hJ 2 (rY cR))
noncomputable def qO (dB:cj):cc:=
  (uR 2 (dz nJ (fi (cL (dz jL (dk 0) (dk 3)) cR)) (dk 4)))
noncomputable def ke (dB:cj):cc:=
  (qO dB)
noncomputable def qP (dB:cj):cc:=
  (kK 4 (iT (cT dB (cL (Hz (dk 0) (B2 (dz jE (dk 3) (dC (.int 1)))) Qn) (cL (dz oK (dk 1) (dC (.int 1))) cR)))) (ke dB))
noncomputable def kf (dB:cj):cc:=
  (qP dB)
noncomputable def qQ (dB:cj):cc:=
  (kK 3 (uS (cL (dz jE (dz oK (cT n8 (cL (dk 0) cR)) (dk 1)) (dC (.int 1))) cR)) (kf dB))
noncomputable def CW (dB:cj):cc:=
  (eP (cT kJ (cL (dk 2) cR)))
noncomputable def nq (dB:cj):cc:=
  (eB (lJ dB)
  (eB (qN dB)
  (eB (vE dB)
  (eB (qQ dB)
  (CW dB)))))
noncomputable def ff:Nat->cj
 |0=>λ_=>none
 |n+1=>hO 5 2 (nq (ff n))
noncomputable def p6:cc:=
  (jF 3 (dz nJ (dk 1) (dk 2)))
noncomputable def vV:cc:=
  (eP (cT kJ (cL (dL (eS (uS (cL (dz jL (dk 0) (dC (.int 0))) cR)) 4 (qB (dz tN (dk 4) (dk 3))) (cP 4))) cR)))
noncomputable def kj:cc:=
  (eB p6
  vV)
noncomputable def ig:cj:=hO 5 3 kj
noncomputable def E8:cc:=
  (eP (cT (ff 5) (cL (cT ig (cL (dz jL (dk 0) (dC (.int 0))) (cL (cP 1) (cL (cP 2) cR)))) (cL (cT dW (cL (cP 0) (cL (cP 3) cR))) cR))))
noncomputable def rP:cc:=
  E8
noncomputable def nr:cj:=hO 4 4 rP
noncomputable def E9:cc:=
  (eP (fi (cL (cT kJ (cL (dL (jq lG (cL (dz nJ (dk 0) (dk 3)) cR))) cR)) (cL (cP 1) cR))))
noncomputable def Fb:cc:=
  (lO (qB (dz nI (dk 2) (dC (.int 0)))) E9 g9)
noncomputable def Fc:cc:=
  (eP (fi (cL (cP 0) (cL (cT kJ (cL (dL (jq lG (cL (dz nJ (dk 1) (dk 3)) cR))) cR)) cR))))
noncomputable def Ag:cc:=
  (eB Fb
  Fc)
noncomputable def nt:cj:=hO 4 4 Ag
noncomputable def vF:cc:=
  (jF 3 (dz jL (dz jL (dk 0) (dC (.int 0))) (dC (.int 1))))
noncomputable def CY:cc:=
  (eP (dC (.int 0)))
noncomputable def qR:cc:=
  (lO (qB (cT Cd (cL (dL (eS (iT (cP 3)) 4 lP (cT ie (cL (cP 1) (cL (cP 4) cR))))) cR))) CY g9)
noncomputable def CZ:cc:=
  (eP (dC (.int 1)))
noncomputable def qS:cc:=
  (lO (qB (cT Ek (cL (dL (eS (iT (cP 3)) 4 lP (cT fu (cL (cP 2) (cL (cP 4) cR))))) cR))) CZ g9)
noncomputable def Dc:cc:=
  (eP (dC .eD))
noncomputable def pJ:cc:=
  (eB vF
  (eB qR
  (eB qS
  Dc)))
noncomputable def mG:cj:=hO 5 3 pJ
noncomputable def nS:cc:=
  (hJ 2 (rY cR))
noncomputable def nT:cc:=
  (hJ 3 (rY cR))
noncomputable def kn:cc:=
  (jF 5 (cT dv (cL (dz jE (dk 1) (dz uO (dC (.int 5)) (dk 4))) (cL (dC (.int 9907)) (cL (dC (.int 5)) cR)))))
noncomputable def nU:cc:=
  (uR 2 (cP 4))
noncomputable def gB:cc:=
  (lO (qB (dz nI (dk 5) (dC (.int 0)))) nU g9)
noncomputable def nV:cc:=
  (uR 3 (cP 4))
noncomputable def fJ:cc:=
  (lO (qB (dz nI (dk 5) (dC (.int 1)))) nV g9)
noncomputable def eF:cc:=
  (eB kn
  (eB gB
  fJ))
noncomputable def kr:cc:=
  (kK 4 (uS (cL (dz jL (dz jL (dk 0) (dC (.int 0))) (dC (.int 0))) cR)) eF)
noncomputable def nW:cc:=
  (eP (fi (cL (cT kJ (cL (dk 2) cR)) (cL (cT kJ (cL (dk 3) cR)) cR))))
noncomputable def jb:cc:=
  (eB nS
  (eB nT
  (eB kr
  nW)))
noncomputable def gu:cj:=hO 6 2 jb
noncomputable def sv:cc:=
  (eP (dC (.int 0)))
noncomputable def ou:cc:=
  (lO (tK (qT (dL (eS (iT (cP 3)) 4 (qB (dz tN (dk 4) (dk 1))) (cP 4))))) sv g9)
noncomputable def gf:cc:=
  ou
noncomputable def ow:cc:=
  (kK 3 (iT (dz jL (dz jL (dk 0) (dC (.int 0))) (dC (.int 1)))) gf)
noncomputable def sy:cc:=
  (eP (dC .eD))
noncomputable def oy:cc:=
  (lO (tK (qT (dL (eS (iT (cP 3)) 4 (qB (dz B0 (dk 4) (dk 2))) (cP 4))))) sy g9)
noncomputable def gg:cc:=
  oy
noncomputable def oz:cc:=
  (kK 3 (iT (dz jL (dz jL (dk 0) (dC (.int 0))) (dC (.int 1)))) gg)
noncomputable def ze:cc:=
  (eP (dC (.int 1)))
noncomputable def kx:cc:=
  (eB ow
  (eB oz
  ze))
noncomputable def fE:cj:=hO 5 3 kx
noncomputable def lW:cc:=
  (hJ 4 (eS (uS (cL (dz jL (dz jL (dk 0) (dC (.int 0))) (dC (.int 0))) cR)) 9 (qB (dz tN (dk 9) (dz nJ (dk 1) (dk 2)))) (cP 9)))
noncomputable def lX:cc:=
  (hJ 5 (rY (cL (fi cR) cR)))
noncomputable def p7:cc:=
  (hJ 7 (rY cR))
noncomputable def jB:cc:=
  (Kb 7 (eS (iL (dk 4)) 9 (Jz (qB (dz nI (dk 8) (fi cR))) (qB (dz LS (dk 9) (dz jL (dk 8) (B1 (dC (.int 1))))))) (dz nJ (dk 8) (fi (cL (cP 9) cR)))))
noncomputable def gM:cc:=
  jB
noncomputable def p8:cc:=
  (kK 8 (iL (cP 5)) gM)
noncomputable def vW:cc:=
  (jF 5 (cP 7))
noncomputable def fT:cc:=
  (eB p7
  (eB p8
  (oM 7 vW)))
noncomputable def jC:cc:=
  (kK 6 (uS (cL (cT vo (cL (dz jL (dk 0) (dz jE (dC (.int 2)) (dk 3))) (cL (cT n8 (cL (dk 4) cR)) cR))) cR)) fT)
noncomputable def vX:cc:=
  (eP (cP 5))
noncomputable def ky:cc:=
  (eB lW
  (oM 4 (eB lX
  (oM 5 (eB jC
  vX)))))
noncomputable def eU:cj:=hO 10 4 ky
noncomputable def pK:cc:=
  (eP (fi (cL (cT kJ (cL (dL (jq lG (cL (dz nJ (dk 0) (dk 3)) cR))) cR)) (cL (cP 1) cR))))
noncomputable def pL:cc:=
  (lO (qB (dz nI (dk 2) (dC (.int 0)))) pK g9)
noncomputable def uu:cc:=
  (eP (fi (cL (cP 0) (cL (cT kJ (cL (dL (jq lG (cL (dz nJ (dk 1) (dk 3)) cR))) cR)) cR))))
noncomputable def lK:cc:=
  (eB pL
  uu)
noncomputable def gD:cj:=hO 4 4 lK
end PC
namespace PC
open PySem DL GP
open LW (dv dH dS)
open L2 (lu sY)
theorem outs {m l:cq}{G Y:D}{c:Sl}(hl:l.length<1000000):
  ou [.dat G,.dat (tupI m),.dat Y,.dat (tupI l),c]=if gH m l then some (.ret (.int 0))else some (.next [.dat G,.dat (tupI m),.dat Y,.dat (tupI l),c]):=by
 have key:iB 4 (qB (dz tN (dk 4) (dk 1))) (cP 4) [.dat G,.dat (tupI m),.dat Y,.dat (tupI l),c] (l.map D.int)=some (((l.map D.int).filter λd=> !decide (intOf d∈m)).map id):=by
  refine LW.ja _ ?_ ?_
  ·intro d hd;obtain⟨i,_,rfl⟩:=List.mem_map.mp hd;simp only[qB,dz,dk,aZ,aY,aL,aN,ao,ui];rfl
  ·intro d hd _;simp[cP]
 rw[lH (λi=> !decide (i∈m))]at key
 have e:=Gy m l;have jk:(l.map D.int).length<1000000:=by simpa using hl
 unfold ou lO tK qT dL eS iT;simp only[cP,aL,aN,tupI,ao];simp only[tupI]at key;rw[if_pos jk,key];rw[e];cases hf:(l.filter λi=> !decide (i∈m))with
 |nil=>simp[Es,sv,eP,dC]
 |cons a r=>simp[Es,g9]
theorem ins {y l:cq}{G M:D}{c:Sl}(hl:l.length<1000000):
  oy [.dat G,.dat M,.dat (tupI y),.dat (tupI l),c]=if eZ y l then some (.next [.dat G,.dat M,.dat (tupI y),.dat (tupI l),c])else some (.ret .eD):=by
 have key:iB 4 (qB (dz B0 (dk 4) (dk 2))) (cP 4) [.dat G,.dat M,.dat (tupI y),.dat (tupI l),c] (l.map D.int)=some (((l.map D.int).filter λd=>decide (intOf d∈y)).map id):=by
  refine LW.ja _ ?_ ?_
  ·intro d hd;obtain⟨i,_,rfl⟩:=List.mem_map.mp hd;simp only[qB,dz,dk,aZ,aY,aL,aN,ao,Gx];rfl
  ·intro d hd _;simp[cP]
 rw[lH (λi=>decide (i∈y))]at key
 have e:=CI y l;have jk:(l.map D.int).length<1000000:=by simpa using hl
 unfold oy lO tK qT dL eS iT;simp only[cP,aL,aN,tupI,ao];simp only[tupI]at key;rw[if_pos jk,key];rw[e];cases hf:(l.filter λi=>decide (i∈y))with
 |nil=>simp[Es,sy,eP,dC]
 |cons a r=>simp[Es,g9]
theorem su {m:cq}{G Y:D}{c:Sl}:∀(ls:cp) (x:Sl),(∀l∈ls,l.length<1000000)->
  (ls.any (gH m)=true->fm 3 gf (ls.map tupI) [.dat G,cK m,.dat Y,x,c]=some (.ret (.int 0)))/\
  (ls.any (gH m)=false->∃x',fm 3 gf (ls.map tupI) [.dat G,cK m,.dat Y,x,c]=some (.next [.dat G,cK m,.dat Y,x',c]))
 |[],x,_=>⟨λh=>by simp at h,λ_=>⟨x,rfl⟩⟩
 |l::ls,x,hl=>by
  have e:=outs (m:=m) (l:=l) (G:=G) (Y:=Y) (c:=c) (hl l af);have ih:=su (m:=m) (G:=G) (Y:=Y) (c:=c) ls (cK l) λl h=>hl l (ai _ h)
  simp only[aF,fm,gf,aZ,aY,e,bH];cases h:gH m l with
  |true=>simp
  |false=>simpa [gf]using ih
theorem OF {y:cq}{G M:D}{c:Sl}:∀(ls:cp) (x:Sl),(∀l∈ls,l.length<1000000)->
  (ls.all (eZ y)=false->fm 3 gg (ls.map tupI) [.dat G,.dat M,cK y,x,c]=some (.ret .eD))/\
  (ls.all (eZ y)=true->∃x',fm 3 gg (ls.map tupI) [.dat G,.dat M,cK y,x,c]=some (.next [.dat G,.dat M,cK y,x',c]))
 |[],x,_=>⟨λh=>by simp at h,λ_=>⟨x,rfl⟩⟩
 |l::ls,x,hl=>by
  have e:=ins (y:=y) (l:=l) (G:=G) (M:=M) (c:=c) (hl l af);have ih:=OF (y:=y) (G:=G) (M:=M) (c:=c) ls (cK l) λl h=>hl l (ai _ h)
  simp only[aF,fm,gg,aZ,aY,e,List.all_cons];cases h:eZ y l with
  |false=>simp
  |true=>simpa [gg]using ih
theorem Rf {many:Int}{ls:cp}{f b g:Int}{m y:cq}(hl:∀l∈ls,l.length<1000000):
  fE [dM many ls f b g,tupI m,tupI y]=some (E4 (uh ls m y)):=by
 refine LW.eJ rfl ?_;show kx [.dat (dM many ls f b g),cK m,cK y,.no,.no]=_;have it:∀x:Sl,iT (dz jL (dz jL (dk 0) (dC (.int 0))) (dC (.int 1))) [.dat (dM many ls f b g),cK m,cK y,x,.no]=some (ls.map tupI):=λx=>rfl
 obtain⟨a1,a2⟩:=su (m:=m) (G:=dM many ls f b g) (Y:=tupI y) (c:=.no) ls .no hl;have s3:ow [.dat (dM many ls f b g),cK m,cK y,.no,.no]=fm 3 gf (ls.map tupI) [.dat (dM many ls f b g),cK m,cK y,.no,.no]:=by
  unfold ow kK;rw[it];rfl
 unfold uh;cases h:ls.any (gH m)with
 |true=>
  unfold kx eB;rw[s3,a1 h];rfl
 |false=>
  obtain⟨x,e⟩:=a2 h;unfold kx;rw[LW.cU (s3.trans e)];obtain⟨b1,b2⟩:=OF (y:=y) (G:=dM many ls f b g) (M:=tupI m) (c:=.no) ls x hl;have s6:oz [.dat (dM many ls f b g),cK m,cK y,x,.no]=fm 3 gg (ls.map tupI) [.dat (dM many ls f b g),cK m,cK y,x,.no]:=by
   unfold oz kK;rw[it];rfl
  cases h2:ls.all (eZ y)with
  |true=>
   obtain⟨x',e2⟩:=b2 h2;rw[LW.cU (s6.trans e2)];rfl
  |false=>
   unfold eB;rw[s6,b1 h2];rfl
theorem OG {m y c:cq}{w:Int}(h1:m.length+c.length<64) (h2:y.length+c.length<64):
  gD [tupI m,tupI y,.int w,tupI c]=some (.tup [tupI (dh m y w c).1,tupI (dh m y w c).2]):=by
 refine LW.eJ rfl ?_;show lK [cK m,cK y,cJ w,cK c]=_;have k1:=uj (ns:=m++c) (by simpa using h1)
 have k2:=uj (ns:=y++c) (by simpa using h2)
 unfold dh;have j1:=rG h1;have j2:=rG h2;by_cases h:w=0
 ·subst h;simp[lK,pK,pL,eB,lO,eP,qB,dz,dk,dC,nI,dY,dU,fi,cL,cR,cP,cT,dL,jq,j1,k1,kJ];rfl
 ·have hw:(w==0)=false:=by simpa using h
  simp[lK,pK,pL,uu,eB,lO,g9,hw,eP,qB,dz,dk,dC,nI,dY,dU,fi,cL,cR,cP,cT,dL,jq,j2,k2,kJ,h];rfl
end PC
namespace PC
open PySem DL GP
open LW (dv dH dS)
open L2 (lu sY)
theorem Ug {c p m:Int}(hp:0<p) (hm:0<m):dv [.int c,.int p,.int m]=some (.int (LW.gA c p m)):=LW.vv hp hm
theorem uv {G:D}{cell:Int}:∀(ps:cq) (am ay:cq) (x t:Sl),am.length+ps.length<1000000->ay.length+ps.length<1000000->
  ∃x' t',fm 4 eF (ps.map D.int) [.dat G,cJ cell,.own (am.map D.int),.own (ay.map D.int),x,t]=some (.next [.dat G,cJ cell,.own ((am++nc cell 0 ps).map D.int),.own ((ay++nc cell 1 ps).map D.int),x',t'])
 |[],am,ay,x,t,_,_=>⟨x,t,by simp[fm,nc]⟩
 |p::ps,am,ay,x,t,h1,h2=>by
  simp only[ax]at h1 h2;have e3:kn [.dat G,cJ cell,.own (am.map D.int),.own (ay.map D.int),cJ p,t]=some (.next [.dat G,cJ cell,.own (am.map D.int),.own (ay.map D.int),cJ p,cJ (LW.gA (cell+5*p) 9907 5)]):=by
   simp[kn,jF,cT,cL,cR,dz,dk,dC,jE,uO,oI,DH,Hk,Ug]
  simp only[aF,fm,aZ,aY];unfold eF;rw[LW.cU e3];by_cases c0:LW.gA (cell+5*p) 9907 5=0
  ·have b:(am.map D.int).length<1000000:=by simp;omega
   have e5:gB [.dat G,cJ cell,.own (am.map D.int),.own (ay.map D.int),cJ p,cJ (LW.gA (cell+5*p) 9907 5)]=some (.next [.dat G,cJ cell,.own ((am++[p]).map D.int),.own (ay.map D.int),cJ p,cJ (LW.gA (cell+5*p) 9907 5)]):=by
    rw[c0];simp only[gB,nU,lO,qB,dz,dk,dC,nI,dY,dU,uR,cP,aL,aN,ao,aZ,aY,if_pos b];simp
   have e7:fJ [.dat G,cJ cell,.own ((am++[p]).map D.int),.own (ay.map D.int),cJ p,cJ (LW.gA (cell+5*p) 9907 5)]=some (.next [.dat G,cJ cell,.own ((am++[p]).map D.int),.own (ay.map D.int),cJ p,cJ (LW.gA (cell+5*p) 9907 5)]):=by
    rw[c0];rfl
   rw[LW.cU e5,e7];obtain⟨x',t',ih⟩:=uv (G:=G) (cell:=cell) ps (am++[p]) ay (cJ p) (cJ (LW.gA (cell+5*p) 9907 5)) (by simp;omega) (by omega)
   refine⟨x',t',?_⟩;show fm 4 eF (ps.map D.int) _=_;rw[ih];simp[nc,bu,c0]
  ·have e5:gB [.dat G,cJ cell,.own (am.map D.int),.own (ay.map D.int),cJ p,cJ (LW.gA (cell+5*p) 9907 5)]=some (.next [.dat G,cJ cell,.own (am.map D.int),.own (ay.map D.int),cJ p,cJ (LW.gA (cell+5*p) 9907 5)]):=by
    have:(LW.gA (cell+5*p) 9907 5==0)=false:=by simpa using c0
    simp[gB,lO,g9,qB,dz,dk,dC,nI,dY,dU,this]
   rw[LW.cU e5];by_cases c1:LW.gA (cell+5*p) 9907 5=1
   ·have b:(ay.map D.int).length<1000000:=by simp;omega
    have e7:fJ [.dat G,cJ cell,.own (am.map D.int),.own (ay.map D.int),cJ p,cJ (LW.gA (cell+5*p) 9907 5)]=some (.next [.dat G,cJ cell,.own (am.map D.int),.own ((ay++[p]).map D.int),cJ p,cJ (LW.gA (cell+5*p) 9907 5)]):=by
     rw[c1];simp only[fJ,nV,lO,qB,dz,dk,dC,nI,dY,dU,uR,cP,aL,aN,ao,aZ,aY,if_pos b];simp
    rw[e7];obtain⟨x',t',ih⟩:=uv (G:=G) (cell:=cell) ps am (ay++[p]) (cJ p) (cJ (LW.gA (cell+5*p) 9907 5)) (by omega) (by simp;omega)
    refine⟨x',t',?_⟩;show fm 4 eF (ps.map D.int) _=_;rw[ih];simp[nc,bu,c1]
   ·have e7:fJ [.dat G,cJ cell,.own (am.map D.int),.own (ay.map D.int),cJ p,cJ (LW.gA (cell+5*p) 9907 5)]=some (.next [.dat G,cJ cell,.own (am.map D.int),.own (ay.map D.int),cJ p,cJ (LW.gA (cell+5*p) 9907 5)]):=by
     have:(LW.gA (cell+5*p) 9907 5==1)=false:=by simpa using c1
     simp[fJ,lO,g9,qB,dz,dk,dC,nI,dY,dU,this]
    rw[e7];obtain⟨x',t',ih⟩:=uv (G:=G) (cell:=cell) ps am ay (cJ p) (cJ (LW.gA (cell+5*p) 9907 5)) (by omega) (by omega)
    refine⟨x',t',?_⟩;show fm 4 eF (ps.map D.int) _=_;rw[ih];simp[nc,bu,c0,c1]
theorem Fd {many:Int}{ls:cp}{f b g cell:Int}(hm:many<1000000) (U7:0<=many):
  gu [dM many ls f b g,.int cell]=some (.tup [tupI (nc cell 0 (du 0 many.toNat)),tupI (nc cell 1 (du 0 many.toNat))]):=by
 refine LW.eJ rfl ?_;show jb [.dat (dM many ls f b g),cJ cell,.no,.no,.no,.no]=_;have e1:nS [.dat (dM many ls f b g),cJ cell,.no,.no,.no,.no]=some (.next [.dat (dM many ls f b g),cJ cell,.own [],.no,.no,.no]):=rfl;have e2:nT [.dat (dM many ls f b g),cJ cell,.own [],.no,.no,.no]=some (.next [.dat (dM many ls f b g),cJ cell,.own [],.own [],.no,.no]):=rfl;unfold jb;rw[LW.cU e1,LW.cU e2];obtain⟨x,t,e⟩:=uv (G:=dM many ls f b g) (cell:=cell) (du 0 many.toNat) [] [] .no .no (by rw[dP];simp;omega) (by rw[dP];simp;omega)
 have it:uS (cL (dz jL (dz jL (dk 0) (dC (.int 0))) (dC (.int 0))) cR) [.dat (dM many ls f b g),cJ cell,.own [],.own [],.no,.no]=some ((du 0 many.toNat).map D.int):=by
  have:cL (dz jL (dz jL (dk 0) (dC (.int 0))) (dC (.int 0))) cR [.dat (dM many ls f b g),cJ cell,.own [],.own [],.no,.no]=some [.int many]:=rfl;unfold uS;rw[this];exact if_pos ⟨hm,by omega⟩
 have e8:=(show kr [.dat (dM many ls f b g),cJ cell,.own [],.own [],.no,.no]=fm 4 eF ((du 0 many.toNat).map D.int) [.dat (dM many ls f b g),cJ cell,.own [],.own [],.no,.no] by unfold kr kK;rw[it];rfl).trans e
 rw[LW.cU e8];simp[nW,eP,fi,cL,cR,cT,dk,kJ,tupI]
end PC
namespace PC
open PySem DL GP
open LW (dv dH dS)
open L2 (lu sY)
theorem Rg {G M Y W F T z:Sl}{some' c:cq}{acc:cp}(hc:c.length<1000) (ha:acc.length+some'.length<=1000000) (hs:some'.length<1000000):
  jB [G,M,Y,W,.dat (.lst (some'.map D.int)),F,T,.own (acc.map tupI),cK c,z]=some (.next [G,M,Y,W,.dat (.lst (some'.map D.int)),F,T,.own ((acc++lV some' c).map tupI),cK c,z]):=by
 have key:iB 9 (Jz (qB (dz nI (dk 8) (fi cR))) (qB (dz LS (dk 9) (dz jL (dk 8) (B1 (dC (.int 1))))))) (dz nJ (dk 8) (fi (cL (cP 9) cR))) [G,M,Y,W,.dat (.lst (some'.map D.int)),F,T,.own (acc.map tupI),cK c,z] (some'.map D.int)
   =some (((some'.map D.int).filter λd=>behind c (intOf d)).map λd=>tupI (c++[intOf d])):=by
  refine LW.ja _ ?_ ?_
  ·intro d hd;obtain⟨i,_,rfl⟩:=List.mem_map.mp hd;exact Nw
  ·intro d hd _;obtain⟨i,_,rfl⟩:=List.mem_map.mp hd;have:nJ (tupI c) (tupI [i])=some (tupI (c++[i])):=by
    have:c.length+1<=1000000:=by omega
    simp[nJ,tupI,this]
   show(dz nJ (dk 8) (fi (cL (cP 9) cR))) [G,M,Y,W,.dat (.lst (some'.map D.int)),F,T,.own (acc.map tupI),cK c,cJ i]=_;have e:fi (cL (cP 9) cR) [G,M,Y,W,.dat (.lst (some'.map D.int)),F,T,.own (acc.map tupI),cK c,cJ i]=some (tupI [i]):=rfl;simp only[dz,dk,aL,aN,ao,e,this];rfl
 rw[lH (behind c),aW]at key;have Hc:(some'.map D.int).length<1000000:=by simpa using hs
 have hl:(lV some' c).length<=some'.length:=by
  unfold lV;rw[ae];exact aX _ _
 have hb:(acc.map tupI).length+(((some'.filter (behind c)).map ((λd=>tupI (c++[intOf d]))∘D.int))).length<=1000000:=by
  have:=hl;unfold lV at this;simp only[ae]at this ⊢;omega
 unfold jB Kb eS iL;simp only[dk,aL,aN,ao,if_pos Hc];rw[key];simp only[ao,if_pos hb,aZ,aY,List.map_append,lV,aW];rfl
theorem GF {G M Y W F T:Sl}{some':cq}(hs:some'.length<1000000):∀(cs acc:cp) (x z:Sl),(∀c∈cs,c.length<1000)->acc.length+cs.length*some'.length<=1000000->
  ∃x',fm 8 gM (cs.map tupI) [G,M,Y,W,.dat (.lst (some'.map D.int)),F,T,.own (acc.map tupI),x,z]=some (.next [G,M,Y,W,.dat (.lst (some'.map D.int)),F,T,.own ((acc++qH some' cs).map tupI),x',z])
 |[],acc,x,z,_,_=>⟨x,by simp[fm,qH]⟩
 |c::cs,acc,x,z,hc,ha=>by
  have hm:(cs.length+1)*some'.length=cs.length*some'.length+some'.length:=Nat.succ_mul _ _;simp only[ax,hm]at ha;have e:=Rg (G:=G) (M:=M) (Y:=Y) (W:=W) (F:=F) (T:=T) (z:=z) (some':=some') (c:=c) (acc:=acc) (hc c af) (by omega) hs
  have hl:(lV some' c).length<=some'.length:=by
   unfold lV;rw[ae];exact aX _ _
  obtain⟨x',ih⟩:=GF (G:=G) (M:=M) (Y:=Y) (W:=W) (F:=F) (T:=T) hs cs (acc++lV some' c) (cK c) z (λc h=>hc c (ai _ h)) (by rw[aR];omega)
  refine⟨x',?_⟩;simp only[aF,fm,aZ,aY];unfold gM at ih ⊢;rw[e];show fm 8 jB (cs.map tupI) _=_;rw[ih];simp[qH]
theorem NC {G M Y W T A x z:Sl}{s:cq}{k:Nat}(hs:s.length<1000000) (hk:k<1000) (hb:s.length^(k+1)<=1000000):
  ∃x',fT [G,M,Y,W,.dat (.lst (s.map D.int)),.dat (.lst ((iD s k).map tupI)),T,A,x,z]=some (.next [G,M,Y,W,.dat (.lst (s.map D.int)),.dat (.lst ((iD s (k+1)).map tupI)),T,.dat (.lst ((iD s (k+1)).map tupI)),x',z]):=by
 have e3:p7 [G,M,Y,W,.dat (.lst (s.map D.int)),.dat (.lst ((iD s k).map tupI)),T,A,x,z]=some (.next [G,M,Y,W,.dat (.lst (s.map D.int)),.dat (.lst ((iD s k).map tupI)),T,.own [],x,z]):=rfl;obtain⟨x',e⟩:=GF (G:=G) (M:=M) (Y:=Y) (W:=W) (F:=.dat (.lst ((iD s k).map tupI))) (T:=T) hs (iD s k) [] x z (λc h=>by rw[zY s k c h];exact hk) (by
  have:=Nat.mul_le_mul_right s.length (xF s k);rw[Nat.pow_succ]at hb;simp only[List.length_nil];omega)
 have e5:=(show p8 [G,M,Y,W,.dat (.lst (s.map D.int)),.dat (.lst ((iD s k).map tupI)),T,.own [],x,z]=fm 8 gM ((iD s k).map tupI) [G,M,Y,W,.dat (.lst (s.map D.int)),.dat (.lst ((iD s k).map tupI)),T,.own [],x,z]from rfl).trans e
 refine⟨x',?_⟩;unfold fT;rw[LW.cU e3,LW.cU e5];rfl
theorem GG {G M Y W z:Sl}{s:cq}:∀(ts:cq) (k:Nat) (T A x:Sl),s.length<1000000->k+ts.length<1000->(∀j,j<=k+ts.length->s.length^j<=1000000)->
  ∃T' A' x',fm 6 fT (ts.map D.int) [G,M,Y,W,.dat (.lst (s.map D.int)),.dat (.lst ((iD s k).map tupI)),T,A,x,z]=some (.next [G,M,Y,W,.dat (.lst (s.map D.int)),.dat (.lst ((iD s (k+ts.length)).map tupI)),T',A',x',z])
 |[],k,T,A,x,_,_,_=>⟨T,A,x,rfl⟩
 |t::ts,k,T,A,x,hs,hk,hb=>by
  simp only[ax]at hk hb;obtain⟨x',e⟩:=NC (G:=G) (M:=M) (Y:=Y) (W:=W) (T:=cJ t) (A:=A) (x:=x) (z:=z) (s:=s) (k:=k) hs (by omega) (hb _ (by omega))
  obtain⟨T2,A2,x2,ih⟩:=GG (G:=G) (M:=M) (Y:=Y) (W:=W) (z:=z) (s:=s) ts (k+1) (cJ t) (.dat (.lst ((iD s (k+1)).map tupI))) x' hs (by omega) (λj hj=>hb j (by omega))
  refine⟨T2,A2,x2,?_⟩;simp only[aF,fm,aZ,aY,e,ax];rw[ih,show k+1+ts.length=k+(ts.length+1) by omega]
theorem Li {many:Int}{ls:cp}{f b g w:Int}{m y:cq}(U7:0<=many) (hm:many<=12) (hb:0<=b/\b<=4) (hg:0<=g/\g<=4) (hw:w=0\/w=1) (hl:m.length+y.length<64):
  eU [dM many ls f b g,tupI m,tupI y,.int w]=some (.lst ((pF many b g m y w).map tupI)):=by
 refine LW.eJ rfl ?_;show ky [.dat (dM many ls f b g),cK m,cK y,cJ w,.no,.no,.no,.no,.no,.no]=_;have hf:=rH many m y;have WM:(ft many m y).length<=12:=by omega
 have key:iB 9 (qB (dz tN (dk 9) (dz nJ (dk 1) (dk 2)))) (cP 9) [.dat (dM many ls f b g),cK m,cK y,cJ w,.no,.no,.no,.no,.no,.no] ((du 0 many.toNat).map D.int)=some ((((du 0 many.toNat).map D.int).filter λd=> !decide (intOf d∈m++y)).map id):=by
  refine LW.ja _ ?_ ?_
  ·intro d hd;obtain⟨i,_,rfl⟩:=List.mem_map.mp hd;simp only[qB,dz,dk,aZ,aY,aL,aN,ao,rG hl,ui];rfl
  ·intro d hd _;simp[cP]
 rw[lH (λi=> !decide (i∈m++y)),List.map_id]at key
 have it:uS (cL (dz jL (dz jL (dk 0) (dC (.int 0))) (dC (.int 0))) cR) [.dat (dM many ls f b g),cK m,cK y,cJ w,.no,.no,.no,.no,.no,.no]=some ((du 0 many.toNat).map D.int):=by
  have:cL (dz jL (dz jL (dk 0) (dC (.int 0))) (dC (.int 0))) cR [.dat (dM many ls f b g),cK m,cK y,cJ w,.no,.no,.no,.no,.no,.no]=some [.int many]:=rfl;unfold uS;rw[this];exact if_pos ⟨by omega,by omega⟩
 have e1:lW [.dat (dM many ls f b g),cK m,cK y,cJ w,.no,.no,.no,.no,.no,.no]=some (.next [.dat (dM many ls f b g),cK m,cK y,cJ w,.own ((ft many m y).map D.int),.no,.no,.no,.no,.no]):=by
  have hlen:((du 0 many.toNat).map D.int).length<1000000:=by rw[ae,dP];omega
  unfold lW hJ eS;rw[it];simp only[ao,if_pos hlen];rw[key];rfl
 have e2:lX [.dat (dM many ls f b g),cK m,cK y,cJ w,.dat (.lst ((ft many m y).map D.int)),.no,.no,.no,.no,.no]=some (.next [.dat (dM many ls f b g),cK m,cK y,cJ w,.dat (.lst ((ft many m y).map D.int)),.own [tupI []],.no,.no,.no,.no]):=rfl;have em:nQ b g w (ft many m y)<=4:=by
  unfold nQ;rcases hw with rfl|rfl
  ·simp only[if_true];split<;>omega
  ·simp only[show ¬ (1:Int)=0 by omega,bF];split<;>omega
 obtain⟨T,A,x,e⟩:=GG (G:=.dat (dM many ls f b g)) (M:=cK m) (Y:=cK y) (W:=cJ w) (z:=.no) (s:=ft many m y) (du 0 (nQ b g w (ft many m y))) 0 .no .no .no (by omega) (by rw[dP];omega) (λj hj=>by
  rw[dP]at hj;have h4:j<=4:=by omega
  have h1:(ft many m y).length^j<=12^j:=Nat.pow_le_pow_left WM j;have h2:12^j<=12^4:=Nat.pow_le_pow_right (by omega) h4
  exact aD h1 (aD h2 (by decide)))
 rw[dP,Nat.zero_add]at e;have it7:uS (cL (cT vo (cL (dz jL (dk 0) (dz jE (dC (.int 2)) (dk 3))) (cL (cT n8 (cL (dk 4) cR)) cR))) cR) [.dat (dM many ls f b g),cK m,cK y,cJ w,.dat (.lst ((ft many m y).map D.int)),.dat (.lst [tupI []]),.no,.no,.no,.no]=some ((du 0 (nQ b g w (ft many m y))).map D.int):=by
  have hx:jL (dM many ls f b g) (.int (2+w))=some (.int (if w=0 then b else g)):=by rcases hw with rfl|rfl<;>rfl
  have:cL (cT vo (cL (dz jL (dk 0) (dz jE (dC (.int 2)) (dk 3))) (cL (cT n8 (cL (dk 4) cR)) cR))) cR [.dat (dM many ls f b g),cK m,cK y,cJ w,.dat (.lst ((ft many m y).map D.int)),.dat (.lst [tupI []]),.no,.no,.no,.no]=some [.int (if((ft many m y).length:Int)<(if w=0 then b else g)then((ft many m y).length:Int)else(if w=0 then b else g))]:=by
   simp[cL,cR,cT,dz,dk,dC,jE,oI,hx,n8,vo]
  unfold uS;rw[this];unfold nQ;refine if_pos ?_;rcases hw with rfl|rfl
  ·simp only[if_true];split<;>omega
  ·simp only[show ¬ (1:Int)=0 by omega,bF];split<;>omega
 have e7:=(show jC [.dat (dM many ls f b g),cK m,cK y,cJ w,.dat (.lst ((ft many m y).map D.int)),.dat (.lst [tupI []]),.no,.no,.no,.no]=fm 6 fT ((du 0 (nQ b g w (ft many m y))).map D.int) [.dat (dM many ls f b g),cK m,cK y,cJ w,.dat (.lst ((ft many m y).map D.int)),.dat (.lst [tupI []]),.no,.no,.no,.no] by unfold jC kK;rw[it7];rfl).trans e
 unfold ky;rw[LW.cU e1];show eB lX _ [.dat (dM many ls f b g),cK m,cK y,cJ w,.dat (.lst ((ft many m y).map D.int)),.no,.no,.no,.no,.no]=_;rw[LW.cU e2];show eB jC _ [.dat (dM many ls f b g),cK m,cK y,cJ w,.dat (.lst ((ft many m y).map D.int)),.dat (.lst [tupI []]),.no,.no,.no,.no]=_;rw[LW.cU e7];rfl
end PC
namespace PC
open PySem DL GP
open LW (dv dH dS)
open L2 (lu sY)
theorem lL {α:Type}{j:Nat}{f:cf}{δ:dR}{φ ψ:α->D}:∀(l:List α),(∀a∈l,f (δ.set j (.dat (φ a)))=some (ψ a))->iB j lP f δ (l.map φ)=some (l.map ψ)
 |[],_=>rfl
 |a::l,h=>by
  rw[aF];unfold iB;have e:lP (δ.set j (.dat (φ a)))=some true:=rfl;simp only[e,h a af,ao,lL l λx hx=>h x (ai _ hx),bC,aF]
theorem nu {F:cj}{f:cb}{δ:dR}{ds:cw}(h:f δ=some ds):cT F (cL (dL f) cR) δ=F [.lst ds]:=by
 simp only[cT,cL,dL,cR,h,bC,ao]
theorem iV {o:D->D->Option D}{f g:cf}{δ:dR}{x y:D}(hf:f δ=some x) (hg:g δ=some y):dz o f g δ=o x y:=by
 unfold dz;rw[hf,hg];rfl
theorem sA {f:cf}{δ:dR}{x:D}(hf:f δ=some x):cL f cR δ=some [x]:=by
 unfold cL cR;rw[hf];rfl
theorem p9 {f:cf}{g:cb}{δ:dR}{x:D}{r:cw}(hf:f δ=some x) (hg:g δ=some r):cL f g δ=some (x::r):=by
 unfold cL;rw[hf,hg];rfl
theorem dE {F:cj}{f:cb}{δ:dR}{ds:cw}(hf:f δ=some ds):cT F f δ=F ds:=by
 unfold cT;rw[hf];rfl
theorem g8 {f:cf}{δ:dR}{d:D}(hf:f δ=some d):eP f δ=some (.ret d):=by
 unfold eP;rw[hf];rfl
theorem nX {i:Nat}{f:cf}{δ:dR}{d:D}(hf:f δ=some d):jF i f δ=some (.next (δ.set i (.dat d))):=by
 unfold jF;rw[hf];rfl
theorem xU {q:cg}{f g:cc}{δ:dR}(h:q δ=some true):lO q f g δ=f δ:=by unfold lO;rw[h]
theorem oY {q:cg}{f g:cc}{δ:dR}(h:q δ=some false):lO q f g δ=g δ:=by unfold lO;rw[h]
theorem Bh {q:cg}{δ:dR}{b:Bool}(h:q δ=some b):tK q δ=some (!b):=by unfold tK;rw[h];rfl
theorem nv {f g:cc}{δ:dR}{d:D}(h:f δ=some (.ret d)):eB f g δ=some (.ret d):=by unfold eB;rw[h]
theorem iE {f:cf}{δ:dR}{b:Bool}(h:f δ=some (.bl b)):qB f δ=some b:=by
 unfold qB;rw[h]
theorem xV {α:Type}(l:List α) (q:α->Bool):Cd [.lst (l.map λx=>D.bl (q x))]=some (.bl (l.any q)):=by
 have:oN (l.map λx=>D.bl (q x))=some (l.map q):=by
  induction l with
  |nil=>rfl
  |cons a l ih=>simp[oN,ih]
 simp[Cd,this,List.any_map]
theorem GH (i:Int) (m:cq):B0 (.int i) (tupI m)=some (.bl (decide (i∈m))):=Gx i m
theorem Ah {m l:cq}(hl:l.length<1000000):ie [tupI m,tupI l]=some (.bl (gH m l)):=by
 refine LW.eJ rfl ?_;show qM [cK m,cK l,.no]=_;have key:iB 2 lP (dz B0 (dk 2) (dk 0)) [cK m,cK l,.no] (l.map D.int)=some (l.map λi=>D.bl (decide (i∈m))):=lL l λi _=>GH i m
 have jk:(l.map D.int).length<1000000:=by simpa using hl
 have e:eS (iT (cP 1)) 2 lP (dz B0 (dk 2) (dk 0)) [cK m,cK l,.no]=some (l.map λi=>D.bl (decide (i∈m))):=by
  show(if(l.map D.int).length<1000000 then _ else _)=_
  rw[if_pos jk,key]
 unfold qM eP cT cL dL;rw[e];simp only[bC,ao,cR];rw[LW.xE l (λi=>decide (i∈m))]
 rfl
theorem sW {m l:cq}(hl:l.length<1000000):fu [tupI m,tupI l]=some (.bl (eZ m l)):=by
 refine LW.eJ rfl ?_;show pI [cK m,cK l,.no]=_;have key:iB 2 lP (dz B0 (dk 2) (dk 0)) [cK m,cK l,.no] (l.map D.int)=some (l.map λi=>D.bl (decide (i∈m))):=lL l λi _=>GH i m
 have jk:(l.map D.int).length<1000000:=by simpa using hl
 have e:eS (iT (cP 1)) 2 lP (dz B0 (dk 2) (dk 0)) [cK m,cK l,.no]=some (l.map λi=>D.bl (decide (i∈m))):=by
  show(if(l.map D.int).length<1000000 then _ else _)=_
  rw[if_pos jk,key]
 unfold pI eP cT cL dL;rw[e];simp only[bC,ao,cR];rw[xV l (λi=>decide (i∈m))]
 rfl
theorem Rh {many:Int}{ls:cp}{f b g w:Int}(hw:w=0\/w=1):dW [dM many ls f b g,.int w]=some (.int (if w=0 then b else g)):=by
 rcases hw with rfl|rfl<;>rfl
theorem Dd {m y c:cq}{w:Int}(h1:m.length+c.length<64) (h2:y.length+c.length<64):
  nt [tupI m,tupI y,.int w,tupI c]=some (.tup [tupI (dh m y w c).1,tupI (dh m y w c).2]):=OG h1 h2
theorem HZ {many:Int}{ls:cp}{f b g:Int}{m y:cq}(hn:ls.length<1000000) (hl:∀l∈ls,l.length<1000000):
  mG [dM many ls f b g,tupI m,tupI y]=some (E4 (uh ls m y)):=by
 refine LW.eJ rfl ?_;show pJ [.dat (dM many ls f b g),cK m,cK y,.no,.no]=_;have e1:vF [.dat (dM many ls f b g),cK m,cK y,.no,.no]=some (.next [.dat (dM many ls f b g),cK m,cK y,.dat (.tup (ls.map tupI)),.no]):=rfl;have Aq:(ls.map tupI).length<1000000:=by simpa using hn
 have k1:iB 4 lP (cT ie (cL (cP 1) (cL (cP 4) cR))) [.dat (dM many ls f b g),cK m,cK y,.dat (.tup (ls.map tupI)),.no] (ls.map tupI)=some (ls.map λl=>D.bl (gH m l)):=lL ls λl h=>Ah (hl l h)
 have k2:iB 4 lP (cT fu (cL (cP 2) (cL (cP 4) cR))) [.dat (dM many ls f b g),cK m,cK y,.dat (.tup (ls.map tupI)),.no] (ls.map tupI)=some (ls.map λl=>D.bl (eZ y l)):=lL ls λl h=>sW (hl l h)
 have q1:qB (cT Cd (cL (dL (eS (iT (cP 3)) 4 lP (cT ie (cL (cP 1) (cL (cP 4) cR))))) cR)) [.dat (dM many ls f b g),cK m,cK y,.dat (.tup (ls.map tupI)),.no]=some (ls.any (gH m)):=by
  have e:eS (iT (cP 3)) 4 lP (cT ie (cL (cP 1) (cL (cP 4) cR))) [.dat (dM many ls f b g),cK m,cK y,.dat (.tup (ls.map tupI)),.no]=some (ls.map λl=>D.bl (gH m l)):=by
   show(if(ls.map tupI).length<1000000 then _ else _)=_
   rw[if_pos Aq,k1]
  exact iE ((nu e).trans (xV ls (gH m)))
 have q2:qB (cT Ek (cL (dL (eS (iT (cP 3)) 4 lP (cT fu (cL (cP 2) (cL (cP 4) cR))))) cR)) [.dat (dM many ls f b g),cK m,cK y,.dat (.tup (ls.map tupI)),.no]=some (ls.all (eZ y)):=by
  have e:eS (iT (cP 3)) 4 lP (cT fu (cL (cP 2) (cL (cP 4) cR))) [.dat (dM many ls f b g),cK m,cK y,.dat (.tup (ls.map tupI)),.no]=some (ls.map λl=>D.bl (eZ y l)):=by
   show(if(ls.map tupI).length<1000000 then _ else _)=_
   rw[if_pos Aq,k2]
  exact iE ((nu e).trans (LW.xE ls (eZ y)))
 unfold pJ;rw[LW.cU e1];unfold uh;have e3:qR [.dat (dM many ls f b g),cK m,cK y,.dat (.tup (ls.map tupI)),.no]=if ls.any (gH m)then some (.ret (.int 0))else some (.next [.dat (dM many ls f b g),cK m,cK y,.dat (.tup (ls.map tupI)),.no]):=by
  unfold qR lO;rw[q1];cases ls.any (gH m)<;>rfl
 have e5:qS [.dat (dM many ls f b g),cK m,cK y,.dat (.tup (ls.map tupI)),.no]=if ls.all (eZ y)then some (.ret (.int 1))else some (.next [.dat (dM many ls f b g),cK m,cK y,.dat (.tup (ls.map tupI)),.no]):=by
  unfold qS lO;rw[q2];cases ls.all (eZ y)<;>rfl
 unfold eB;rw[e3];cases ls.any (gH m)with
 |true=>rfl
 |false=>
  simp only[aJ,bF];rw[e5];cases ls.all (eZ y)<;>rfl
theorem GI {rc:cj}{ps:cq}{C:Sl}{k:Int}{p:Int}(hp:lu ps k=some p):∀(cs acc:cp) (x:Sl),(∀c∈cs,c.length<1000)->acc.length+cs.length<1000000->
  ∃x',fm 4 (ke rc) (cs.map tupI) [cK ps,C,.own (acc.map tupI),cJ k,x]=some (.next [cK ps,C,.own ((acc++cs.map (p:: ·)).map tupI),cJ k,x'])
 |[],acc,x,_,_=>⟨x,by simp[fm]⟩
 |c::cs,acc,x,hc,ha=>by
  simp only[ax]at ha;have hx:jL (tupI ps) (.int k)=some (.int p):=by
   show lu (ps.map D.int) k=_;have:lu (ps.map D.int) k=(lu ps k).map D.int:=by
    unfold lu sY;simp only[ae];split
    ·split
     ·simp
     ·rfl
    ·split
     ·simp
     ·rfl
   rw[this,hp];rfl
  have e1:dz nJ (fi (cL (dz jL (dk 0) (dk 3)) cR)) (dk 4) [cK ps,C,.own (acc.map tupI),cJ k,cK c]=some (tupI (p::c)):=by
   have e0:fi (cL (dz jL (dk 0) (dk 3)) cR) [cK ps,C,.own (acc.map tupI),cJ k,cK c]=some (tupI [p]):=by
    have:dz jL (dk 0) (dk 3) [cK ps,C,.own (acc.map tupI),cJ k,cK c]=some (.int p):=hx;unfold fi cL;rw[this];rfl
   have:nJ (tupI [p]) (tupI c)=some (tupI ([p]++c)):=by
    have h1:=hc c af;have:1+c.length<=1000000:=by omega
    simp[nJ,tupI,this]
   exact(iV e0 rfl).trans this
  have e2:qO rc [cK ps,C,.own (acc.map tupI),cJ k,cK c]=some (.next [cK ps,C,.own ((acc++[p::c]).map tupI),cJ k,cK c]):=by
   unfold qO uR;have hl:(acc.map tupI).length<1000000:=by rw[ae];omega
   simp only[aL,aN];rw[e1];simp only[ao,if_pos hl,aZ,aY,List.map_append,aF,List.map_nil]
  obtain⟨x',ih⟩:=GI (rc:=rc) (C:=C) hp cs (acc++[p::c]) (cK c) (λd hd=>hc d (ai _ hd)) (by rw[aR];simp;omega)
  refine⟨x',?_⟩;simp only[aF,fm,aZ,aY];unfold ke at ih ⊢;rw[e2];simp only;rw[ih];simp
theorem Lj (ps:cq) (k:Nat) (h:k<ps.length):cutD (ps.map D.int) (some ((k:Int)+1)) none=(ps.drop (k+1)).map D.int:=by
 unfold cutD;have e1:HT.iF (ps.map D.int).length 0 (some ((k:Int)+1))=k+1:=by
  unfold HT.iF;simp only[ae];split<;>omega
 have e2:HT.iF (ps.map D.int).length (ps.map D.int).length none=ps.length:=by simp[HT.iF]
 rw[e1,e2,List.take_of_length_le (by simp),List.map_drop]
end PC
namespace PC
open PySem DL GP
open LW (dv dH dS)
open L2 (lu sY)
theorem uw:∀(n:Nat) (lo:Int),du lo n=(List.range n).map λ(k:Nat)=>lo+(k:Int)
 |0,_=>rfl
 |n+1,lo=>by
  rw[List.range_succ_eq_map,aF,aW];show lo::du (lo+1) n=_;rw[uw n (lo+1)];simp only[Int.ofNat_zero,Int.add_zero,List.cons.injEq];refine⟨by simp,bU λk _=>?_⟩
  simp only[Function.comp];omega
theorem De {rc:cj}{ps:cq}{c:Nat}(hz:ps.length<=12):∀(ks:List Nat) (acc:cp) (x3 x4:Sl),
  (∀k∈ks,k<ps.length/\rc [tupI (ps.drop (k+1)),.int (c:Int)]=some (.tup ((comb c (ps.drop (k+1))).map tupI)))->acc.length+ks.length*4096<1000000->
  ∃x3' x4',fm 3 (kf rc) (ks.map λ(k:Nat)=>D.int (k:Int)) [cK ps,cJ ((c:Int)+1),.own (acc.map tupI),x3,x4]=
   some (.next [cK ps,cJ ((c:Int)+1),.own ((acc++ks.flatMap (xM c ps)).map tupI),x3',x4'])
 |[],acc,x3,x4,_,_=>⟨x3,x4,by simp[fm]⟩
 |k::ks,acc,x3,x4,h,ha=>by
  obtain⟨hk,hr⟩:=h k af;simp only[ax]at ha;have hp:ps[k]? =some ps[k]:=ah hk;have hat:lu ps (k:Int)=some ps[k]:=by rw[LW.Nv ps k hk,hp]
  have hm:(comb c (ps.drop (k+1))).length<=4096:=by
   refine aD (rN c _) ?_;have:(ps.drop (k+1)).length<=12:=by rw[List.length_drop];omega
   exact aD (Nat.pow_le_pow_right (by omega) this) (by decide)
  have et:xM c ps k=(comb c (ps.drop (k+1))).map (ps[k]:: ·):=by unfold xM;rw[hp]
  obtain⟨x',e⟩:=GI (rc:=rc) (C:=cJ ((c:Int)+1)) hat (comb c (ps.drop (k+1))) acc x4 (λd hd=>by
   have h1:=(oV c _ d hd).1;have h2:c<=(ps.drop (k+1)).length:=by
    rcases Nat.lt_or_ge (ps.drop (k+1)).length c with z|z
    ·rw[nk c _ z]at hd;cases hd
    ·exact z
   rw[List.length_drop]at h2;omega) (by omega)
  have e7:qP rc [cK ps,cJ ((c:Int)+1),.own (acc.map tupI),cJ (k:Int),x4]=some (.next [cK ps,cJ ((c:Int)+1),.own ((acc++xM c ps k).map tupI),cJ (k:Int),x']):=by
   have i1:Hz (dk 0) (B2 (dz jE (dk 3) (dC (.int 1)))) Qn [cK ps,cJ ((c:Int)+1),.own (acc.map tupI),cJ (k:Int),x4]=some (tupI (ps.drop (k+1))):=by
    show some (D.tup (cutD (ps.map D.int) (some ((k:Int)+1)) none))=_;rw[Lj ps k hk];rfl
   have i2:dz oK (dk 1) (dC (.int 1)) [cK ps,cJ ((c:Int)+1),.own (acc.map tupI),cJ (k:Int),x4]=some (.int (c:Int)):=by
    show some (D.int ((c:Int)+1-1))=_
    congr 2;omega
   have i3:iT (cT rc (cL (Hz (dk 0) (B2 (dz jE (dk 3) (dC (.int 1)))) Qn) (cL (dz oK (dk 1) (dC (.int 1))) cR))) [cK ps,cJ ((c:Int)+1),.own (acc.map tupI),cJ (k:Int),x4]=some ((comb c (ps.drop (k+1))).map tupI):=by
    unfold iT;rw[dE (p9 i1 (sA i2)),hr]
   unfold qP kK;rw[i3];show fm 4 (ke rc) _ _=_;rw[e,et]
  obtain⟨y3,y4,ih⟩:=De (rc:=rc) hz ks (acc++xM c ps k) (cJ (k:Int)) x' (λj hj=>h j (ai _ hj)) (by rw[aR,et,ae];omega)
  refine⟨y3,y4,?_⟩;simp only[aF,fm,aZ,aY];unfold kf at ih ⊢;rw[e7];simp only;rw[ih];simp[List.append_assoc]
theorem vd:∀(n c:Nat) (ps:cq),c<n->ps.length<=12->ff n [tupI ps,.int (c:Int)]=some (.tup ((r9 c ps).map tupI))
 |0,c,ps,h,_=>by omega
 |n+1,c,ps,h,hz=>by
  unfold ff;refine LW.eJ rfl ?_;show nq (ff n) [cK ps,cJ (c:Int),.no,.no,.no]=_;have q2:qB (dz VO (dk 1) (cT n8 (cL (dk 0) cR))) [cK ps,cJ (c:Int),.no,.no,.no]=some (decide (ps.length<=c)):=by
   have:cT n8 (cL (dk 0) cR) [cK ps,cJ (c:Int),.no,.no,.no]=some (.int (ps.length:Int)):=by
    show some (D.int ((ps.map D.int).length:Int))=_;rw[ae]
   refine iE ((iV rfl this).trans ?_);show some (D.bl (decide ((ps.length:Int)<=(c:Int))))=_
   congr 2
   exact decide_eq_decide.mpr (by omega)
  unfold nq;by_cases h1:ps.length<=c
  ·have e2:lJ (ff n) [cK ps,cJ (c:Int),.no,.no,.no]=some (.ret (.tup [tupI ps])):=by
    unfold lJ;rw[xU (by rw[q2,aS h1])]
    rfl
   rw[nv e2];unfold r9;rw[if_pos h1];rfl
  ·have e2:lJ (ff n) [cK ps,cJ (c:Int),.no,.no,.no]=some (.next [cK ps,cJ (c:Int),.no,.no,.no]):=by
    unfold lJ;rw[oY (by rw[q2,aH h1])]
    rfl
   rw[LW.cU e2,xK (by omega)]
   cases c with
   |zero=>cases ps<;>rfl
   |succ c=>
    have e4:qN (ff n) [cK ps,cJ ((c+1:Nat):Int),.no,.no,.no]=some (.next [cK ps,cJ ((c:Int)+1),.no,.no,.no]):=by
     unfold qN;have:qB (dz nI (dk 1) (dC (.int 0))) [cK ps,cJ ((c+1:Nat):Int),.no,.no,.no]=some false:=by
      refine iE ((iV rfl rfl).trans ?_);show nI (.int ((c+1:Nat):Int)) (.int 0)=_;have:dU (.int ((c+1:Nat):Int)) (.int 0)=false:=by
       simp[dU];omega
      unfold nI;rw[this];rfl
     rw[oY this];rfl
    have e5:vE (ff n) [cK ps,cJ ((c:Int)+1),.no,.no,.no]=some (.next [cK ps,cJ ((c:Int)+1),.own (([]:cp).map tupI),.no,.no]):=rfl;rw[LW.cU e4,LW.cU e5];obtain⟨x3,x4,e⟩:=De (rc:=ff n) (ps:=ps) (c:=c) hz (List.range (ps.length-c)) [] .no .no (λk hk=>by
     have:=List.mem_range.mp hk;refine⟨by omega,?_⟩
     rw[vd n c (ps.drop (k+1)) (by omega) (by rw[List.length_drop];omega),xK (by rw[List.length_drop];omega)]) (by simp;omega)
    have it:uS (cL (dz jE (dz oK (cT n8 (cL (dk 0) cR)) (dk 1)) (dC (.int 1))) cR) [cK ps,cJ ((c:Int)+1),.own (([]:cp).map tupI),.no,.no]=some ((List.range (ps.length-c)).map λ(k:Nat)=>D.int (k:Int)):=by
     have:cL (dz jE (dz oK (cT n8 (cL (dk 0) cR)) (dk 1)) (dC (.int 1))) cR [cK ps,cJ ((c:Int)+1),.own (([]:cp).map tupI),.no,.no]=some [.int ((ps.length:Int)-((c:Int)+1)+1)]:=by
      show some [D.int (((ps.map D.int).length:Int)-((c:Int)+1)+1)]=_;rw[ae]
     unfold uS;rw[this];show(if _ then some ((du 0 ((ps.length:Int)-((c:Int)+1)+1).toNat).map D.int)else none)=_
     rw[if_pos ⟨by omega,by omega⟩,show((ps.length:Int)-((c:Int)+1)+1).toNat=ps.length-c by omega,uw,aW]
     congr 1
     refine bU λk _=>?_
     simp
    have e8:qQ (ff n) [cK ps,cJ ((c:Int)+1),.own (([]:cp).map tupI),.no,.no]=some (.next [cK ps,cJ ((c:Int)+1),.own ((comb (c+1) ps).map tupI),x3,x4]):=by
     unfold qQ kK;rw[it];show fm 3 (kf (ff n)) _ _=_;rw[e,List.nil_append,Ac]
    rw[LW.cU e8];rfl
theorem ND {many:Int}{L:D}{m y:cq}(U7:0<=many) (hm:many<=12) (hl:m.length+y.length<64):
  ig [.tup [.int many,L],tupI m,tupI y]=some (tupI (ft many m y)):=by
 refine LW.eJ rfl ?_;show kj [.dat (.tup [.int many,L]),cK m,cK y,.no,.no]=_;have hf:=rH many m y;have e1:p6 [.dat (.tup [.int many,L]),cK m,cK y,.no,.no]=some (.next [.dat (.tup [.int many,L]),cK m,cK y,cK (m++y),.no]):=nX ((iV rfl rfl).trans (rG hl));have key:iB 4 (qB (dz tN (dk 4) (dk 3))) (cP 4) [.dat (.tup [.int many,L]),cK m,cK y,cK (m++y),.no] ((du 0 many.toNat).map D.int)=some ((((du 0 many.toNat).map D.int).filter λd=> !decide (intOf d∈m++y)).map id):=by
  refine LW.ja _ ?_ ?_
  ·intro d hd;obtain⟨i,_,rfl⟩:=List.mem_map.mp hd;exact iE ((iV rfl rfl).trans (ui i (m++y)))
  ·intro d hd _;simp[cP]
 rw[lH (λi=> !decide (i∈m++y)),List.map_id]at key
 have it:uS (cL (dz jL (dk 0) (dC (.int 0))) cR) [.dat (.tup [.int many,L]),cK m,cK y,cK (m++y),.no]=some ((du 0 many.toNat).map D.int):=by
  have:cL (dz jL (dk 0) (dC (.int 0))) cR [.dat (.tup [.int many,L]),cK m,cK y,cK (m++y),.no]=some [.int many]:=rfl;unfold uS;rw[this];exact if_pos ⟨by omega,by omega⟩
 unfold kj;rw[LW.cU e1];refine g8 ((nu (ds:=(ft many m y).map D.int) ?_).trans rfl);have hlen:((du 0 many.toNat).map D.int).length<1000000:=by rw[ae,dP];omega
 unfold eS;rw[it];simp only[ao,if_pos hlen];exact key
theorem Ia {many:Int}{ls:cp}{f b g w:Int}{m y:cq}(U7:0<=many) (hm:many<=12) (hb:0<=b/\b<=4) (hg:0<=g/\g<=4) (hw:w=0\/w=1) (hl:m.length+y.length<64):
  nr [dM many ls f b g,tupI m,tupI y,.int w]=some (.tup ((pF many b g m y w).map tupI)):=by
 refine LW.eJ rfl ?_;show rP [.dat (dM many ls f b g),cK m,cK y,cJ w]=_;have hf:=rH many m y;have hk:0<=(if w=0 then b else g):=by split<;>omega
 have hk4:(if w=0 then b else g)<=4:=by split<;>omega
 unfold rP;rw[xN hk];refine g8 ?_;have ea:cT dW (cL (cP 0) (cL (cP 3) cR)) [.dat (dM many ls f b g),cK m,cK y,cJ w]=some (.int ((if w=0 then b else g).toNat:Int)):=by
  refine(dE (ds:=[dM many ls f b g,.int w]) rfl).trans ((Rh hw).trans ?_)
  congr 2;omega
 have ef:cT ig (cL (dz jL (dk 0) (dC (.int 0))) (cL (cP 1) (cL (cP 2) cR))) [.dat (dM many ls f b g),cK m,cK y,cJ w]=some (tupI (ft many m y)):=
  (dE rfl).trans (ND U7 hm hl)
 exact(dE (p9 ef (sA ea))).trans (vd 5 _ _ (by omega) (by omega))
end PC
namespace PW
open PySem DL
noncomputable def BH:cw->dq:=λds=>match ds with|d::_=>GP.specOf d|[]=>GP.qI
noncomputable def U8:D->dq:=λd=>GP.Lh d
end PW
namespace PW
open PySem DL GP PC
open LW (dv dH dS)
open L2 (lu sY)
noncomputable def xW:cc:=
  (eP (S0 (qB (dz nI (dk 0) (dC (.int 0)))) (dC (.int 1)) (dC (.int 0))))
noncomputable def sC:cc:=
  xW
noncomputable def eV:cj:=hO 1 1 sC
noncomputable def sD:cc:=
  (eP (cT kJ (cL (dL (eS (iT (cP 0)) 2 (qB (dz tN (dk 2) (dk 1))) (cP 2))) cR)))
noncomputable def mw:cc:=
  sD
noncomputable def jP:cj:=hO 3 2 mw
noncomputable def qa:cc:=
  (eP (cT Cd (cL (dL (eS (iS (cP 1)) 2 lP (Ed (dz BG (dk 2) (dk 0)) (cT ie (cL (cP 0) (cL (cP 2) cR)))))) cR)))
noncomputable def kz:cc:=
  qa
noncomputable def jw:cj:=hO 3 2 kz
noncomputable def xX:cc:=
  (eP (cT Ek (cL (dL (eS (iL (dk 1)) 2 lP (cT fu (cL (cP 0) (cL (cP 2) cR))))) cR)))
noncomputable def rQ:cc:=
  xX
noncomputable def qU:cj:=hO 3 2 rQ
noncomputable def ux:cc:=
  (wz 1 (cP 3))
noncomputable def gh:cc:=
  ux
noncomputable def nY:cc:=
  (kK 3 (iT (cP 2)) gh)
noncomputable def fx:cc:=
  nY
noncomputable def kA:cc:=
  (kK 2 (iT (cP 0)) fx)
noncomputable def nZ:cc:=
  (eP (cT kJ (cL (dL (rE 1)) cR)))
noncomputable def gi:cc:=
  (eB kA
  nZ)
noncomputable def kU:cc:=
  (wy 1 gi)
noncomputable def gw:cj:=hO 4 1 kU
noncomputable def qV:cc:=
  (hJ 3 (eS (iS (cP 0)) 5 (tK (qB (cT fu (cL (cP 2) (cL (cP 5) cR))))) (cT jP (cL (cP 5) (cL (cP 1) cR)))))
noncomputable def ny:cc:=
  (hJ 4 (qF (dk 3)))
noncomputable def kB:cc:=
  (eP (cT kJ (cL (dL (eS (iL (dk 4)) 5 (tK (qB (cT jw (cL (cP 5) (cL (cP 4) cR))))) (cP 5))) cR)))
noncomputable def lz:cc:=
  (eB qV
  (oM 3 (eB ny
  (oM 4 kB))))
noncomputable def fB:cj:=hO 6 3 lz
noncomputable def kW (G:D):cc:=
  (jF 3 (cT (ff 5) (cL (cT gw (cL (cP 1) cR)) (cL (cT dW (cL (oO G 0) (cL (cP 2) cR))) cR))))
noncomputable def ve (G:D):cc:=
  (eP (cP 3))
noncomputable def kX (G:D):cc:=
  (lO (qB (dz nI (dk 2) (dC (.int 0)))) (ve G) g9)
noncomputable def oZ (G:D):cc:=
  (hJ 4 (eS (iT (cP 1)) 5 (qB (dz PX (cT n8 (cL (dk 5) cR)) (cT dW (cL (oO G 0) (cL (dC (.int 0)) cR))))) (cP 5)))
noncomputable def kY (G:D):cc:=
  (eP (cT kJ (cL (dL (eS (iT (cP 3)) 6 (qB (cT qU (cL (cP 6) (cL (cP 4) cR)))) (cP 6))) cR)))
noncomputable def hW (G:D):cc:=
  (eB (kW G)
  (eB (kX G)
  (eB (oZ G)
  (oM 4 (kY G)))))
noncomputable def gN:cj:=mV 7 3 hW
noncomputable def pM (G:D) (dA:cj):cc:=
  (jF 3 (cT Cj (cL (dL (eS (iT (cP 1)) 6 lP (cT n8 (cL (dk 6) cR)))) cR)))
noncomputable def Bi (G:D) (dA:cj):cc:=
  (eP (dC (.int 0)))
noncomputable def kC (G:D) (dA:cj):cc:=
  (lO (rX (qB (dz nI (dk 2) (dC (.int 0)))) (qB (dz PX (dk 3) (cT dW (cL (oO G 0) (cL (dC (.int 0)) cR)))))) (Bi G dA) g9)
noncomputable def pN (G:D) (dA:cj):cc:=
  (jF 5 (cT nt (cL (fi cR) (cL (fi cR) (cL (cP 2) (cL (cP 4) cR))))))
noncomputable def Bj (G:D) (dA:cj):cc:=
  (eP (cP 2))
noncomputable def uy (G:D) (dA:cj):cc:=
  (lO (qB (dz nI (j8 0 G dA (cL (cT fB (cL (cP 1) (cL (dz jL (dk 5) (dC (.int 0))) (cL (dz jL (dk 5) (dC (.int 1))) cR)))) (cL (cT eV (cL (cP 2) cR)) cR))) (dk 2))) (Bj G dA) g9)
noncomputable def fR (G:D) (dA:cj):cc:=
  (eB (pN G dA)
  (uy G dA))
noncomputable def pO (G:D) (dA:cj):cc:=
  (kK 4 (iT (j8 0 G gN (cL (cP 1) (cL (cP 2) cR)))) (fR G dA))
noncomputable def uz (G:D) (dA:cj):cc:=
  (eP (cT eV (cL (cP 2) cR)))
noncomputable def jQ (G:D) (dA:cj):cc:=
  (eB (pM G dA)
  (eB (kC G dA)
  (eB (pO G dA)
  (uz G dA))))
noncomputable def zf (G:D) (dX:cj):cc:=
  (eP (dC (.int 1)))
noncomputable def lA (G:D) (dX:cj):cc:=
  (lO (qB (dz nI (cT n8 (cL (dk 1) cR)) (dC (.int 0)))) (zf G dX) g9)
noncomputable def zg (G:D) (dX:cj):cc:=
  (eP (dC (.int 0)))
noncomputable def jx (G:D) (dX:cj):cc:=
  (lO (qB (dz B0 (fi cR) (dk 1))) (zg G dX) g9)
noncomputable def oA (G:D) (dX:cj):cc:=
  (ju (U8 G) 0 (fi (cL (cP 1) (cL (cP 2) cR))) (j8 0 G dX (cL (cP 1) (cL (cP 2) cR))))
noncomputable def oB (G:D) (dX:cj):cc:=
  (lx 0 [] (fi (cL (cP 1) (cL (cP 2) cR))) (oA G dX))
noncomputable def sE (G:D) (dX:cj):cc:=
  (eP (iN (U8 G) 0 (fi (cL (cP 1) (cL (cP 2) cR)))))
noncomputable def jc (G:D) (dX:cj):cc:=
  (eB (lA G dX)
  (eB (jx G dX)
  (eB (oB G dX)
  (sE G dX))))
mutual
noncomputable def nz:Nat->cj
 |0=>λ_=>none
 |n+1=>mV 7 3 (λG=>jQ G (g7 n))
noncomputable def g7:Nat->cj
 |0=>λ_=>none
 |n+1=>mV 3 3 (λG=>jc G (nz n))
end
noncomputable def sF (G:D):cc:=
  (eP (j8 0 G (g7 24) (cL (cT fB (cL (dz jL (dz jL (oO G 0) (dC (.int 0))) (dC (.int 1))) (cL (cP 1) (cL (cP 2) cR)))) (cL (cP 3) cR))))
noncomputable def kD (G:D):cc:=
  (sF G)
noncomputable def iW:cj:=mV 4 4 kD
noncomputable def qW (G:D):cc:=
  (jF 5 (cT nt (cL (cP 1) (cL (cP 2) (cL (cP 3) (cL (cP 4) cR))))))
noncomputable def vG (G:D):cc:=
  (eP (dz nI (j8 0 G iW (cL (dz jL (dk 5) (dC (.int 0))) (cL (dz jL (dk 5) (dC (.int 1))) (cL (cT eV (cL (cP 3) cR)) cR)))) (dk 3)))
noncomputable def nA (G:D):cc:=
  (eB (qW G)
  (vG G))
noncomputable def rR:cj:=mV 6 5 nA
noncomputable def qb:cc:=
  (eP (t8 iW (cP 0) (cL (cP 1) (cL (cP 2) (cL (cP 3) cR)))))
noncomputable def kE:cc:=
  qb
noncomputable def fC:cj:=hO 4 4 kE
noncomputable def xY:cc:=
  (eP (cT fC (cL (cP 0) (cL (fi cR) (cL (fi cR) (cL (dz jL (dk 0) (dC (.int 1))) cR))))))
noncomputable def rS:cc:=
  xY
noncomputable def lM:cj:=hO 1 1 rS
noncomputable def vY:cc:=
  (eP (fi cR))
noncomputable def hX:cc:=
  (lO (qB (dz Hq (cT mG (cL (cP 0) (cL (cP 1) (cL (cP 2) cR)))) (dC .eD))) vY g9)
noncomputable def qc (G:D):cc:=
  (eP (cT kJ (cL (dL (eS (iT (cT nr (cL (cP 0) (cL (cP 1) (cL (cP 2) (cL (cP 3) cR)))))) 5 (qB (j8 4 G rR (cL (cP 1) (cL (cP 2) (cL (cP 3) (cL (cP 5) cR)))))) (cP 5))) cR)))
noncomputable def gO (G:D):cc:=
  (qc G)
noncomputable def kF:cc:=
  (eB hX
  (wo 4 (cP 0) (λG=>(gO G))))
noncomputable def ij:cj:=hO 6 4 kF
noncomputable def lY (M:dq) (cZ:cj):cc:=
  (jF 5 (cT fE (cL (cP 0) (cL (cP 2) (cL (cP 3) cR)))))
noncomputable def qd (M:dq) (cZ:cj):cc:=
  (jF 5 (dz oK (dC (.int 1)) (dk 4)))
noncomputable def lZ (M:dq) (cZ:cj):cc:=
  (B4 [7,8] (cT gD (cL (cP 2) (cL (cP 3) (cL (cP 4) (cL (cP 6) cR))))))
noncomputable def qe (M:dq) (cZ:cj):cc:=
  (jF 5 (jJ 1 BH cZ M (cL (cP 0) (cL (cP 7) (cL (cP 8) (cL (dz oK (dC (.int 1)) (dk 4)) cR))))))
noncomputable def ma (M:dq) (cZ:cj):cc:=
  (lO (qB (dz BG (dk 5) (dk 4))) (qe M cZ) g9)
noncomputable def fU (M:dq) (cZ:cj):cc:=
  (eB (lZ M cZ)
  (ma M cZ))
noncomputable def md (M:dq) (cZ:cj):cc:=
  (kK 6 (iL (cT eU (cL (cP 0) (cL (cP 2) (cL (cP 3) (cL (cP 4) cR)))))) (fU M cZ))
noncomputable def me (M:dq) (cZ:cj):cc:=
  (lO (qB (dz UK (dk 5) (dC .eD))) (eB (qd M cZ)
  (md M cZ)) g9)
noncomputable def mf (M:dq) (cZ:cj):cc:=
  (ju M 1 (fi (cL (cP 2) (cL (cP 3) (cL (cP 4) cR)))) (cP 5))
noncomputable def mh (M:dq) (cZ:cj):cc:=
  (lx 1 [5,6,7,8] (fi (cL (cP 2) (cL (cP 3) (cL (cP 4) cR)))) (eB (lY M cZ)
  (eB (me M cZ)
  (mf M cZ))))
noncomputable def o3 (M:dq) (cZ:cj):cc:=
  (eP (iN M 1 (fi (cL (cP 2) (cL (cP 3) (cL (cP 4) cR))))))
noncomputable def iX (M:dq) (cZ:cj):cc:=
  (eB (mh M cZ)
  (o3 M cZ))
noncomputable def eC:Nat->cj
 |0=>λ_=>none
 |n+1=>xj 9 5 1 BH (λM=>iX M (eC n))
end PW
namespace K4
open PySem DL GP PC PW
open LW (dv dH dS)
open L2 (lu sY)
noncomputable def YU:DL.dR->Option dq:=λδ=>match(δ[2]? :Option DL.Sl)with|some (.dat d)=>some (GP.specOf d)|_=>none
noncomputable def xZ:cc:=
  (eP (Ed (JS "int" (dk 0)) (MD (JS "bool" (dk 0)))))
noncomputable def sG:cc:=
  xZ
noncomputable def kG:cj:=hO 1 1 sG
noncomputable def Bk:cc:=
  (jF 2 (cT dS (cL (cP 1) (cL (dC (.int 1)) (cL (dz jE (dC (.int 5)) (cT FX (cL (dz nI (dz tJ (dk 1) (dC (.int 4))) (dC (.int 0))) cR))) (cL (dC (.int 6)) cR))))))
noncomputable def NF (M:dq):cc:=
  (eP (dC (.bl false)))
noncomputable def Bl (M:dq):cc:=
  (lO (Jz (tK (qB (cT kG (cL (cT lM (cL (cP 2) cR)) cR)))) (qB (dz BG (cT lM (cL (cP 2) cR)) (jJ 3 BH (eC 10) M (cL (cP 2) (cL (fi cR) (cL (fi cR) (cL (dz jL (dk 2) (dC (.int 1))) cR)))))))) (NF M) g9)
noncomputable def Bm (M:dq):cc:=
  (hJ 4 (rY (cL (fi (cL (fi cR) (cL (fi cR) cR))) (cL (cT gu (cL (cP 2) (cL (dz AJ (dk 1) (dC (.int 7))) cR))) cR))))
noncomputable def Bn (M:dq):cc:=
  (jF 8 (jJ 3 BH (eC 10) M (cL (cP 2) (cL (cP 5) (cL (cP 6) (cL (cP 7) cR))))))
noncomputable def NG (M:dq):cc:=
  (eP (dC (.bl false)))
noncomputable def Bo (M:dq):cc:=
  (lO (qB (dz BG (cT fC (cL (cP 2) (cL (cP 5) (cL (cP 6) (cL (cP 7) cR))))) (dk 8))) (NG M) g9)
noncomputable def GJ (M:dq):cc:=
  (hJ 9 (rY cR))
noncomputable def Bp (M:dq):cc:=
  (B4 [11,12] (cT gD (cL (cP 5) (cL (cP 6) (cL (cP 7) (cL (cP 10) cR))))))
noncomputable def Lk (M:dq):cc:=
  (uR 9 (cP 10))
noncomputable def Df (M:dq):cc:=
  (lO (qB (dz nI (jJ 3 BH (eC 10) M (cL (cP 2) (cL (cP 11) (cL (cP 12) (cL (dz oK (dC (.int 1)) (dk 7)) cR))))) (dk 7))) (Lk M) g9)
noncomputable def qX (M:dq):cc:=
  (eB (Bp M)
  (Df M))
noncomputable def ya (M:dq):cc:=
  (kK 10 (iL (cT eU (cL (cP 2) (cL (cP 5) (cL (cP 6) (cL (cP 7) cR)))))) (qX M))
noncomputable def yb (M:dq):cc:=
  (jF 13 (dz Hq (cT fE (cL (cP 2) (cL (cP 5) (cL (cP 6) cR)))) (dC .eD)))
noncomputable def Ll (M:dq):cc:=
  (hJ 9 (rY cR))
noncomputable def yc (M:dq):cc:=
  (lO (qT (dk 13)) (Ll M) g9)
noncomputable def Lm (M:dq):cc:=
  (eP (dC (.bl false)))
noncomputable def yd (M:dq):cc:=
  (lO (qB (dz BG (cT ij (cL (cP 2) (cL (cP 5) (cL (cP 6) (cL (cP 7) cR))))) (cT kJ (cL (dk 9) cR)))) (Lm M) g9)
noncomputable def Ln (M:dq):cc:=
  (eP (dC (.bl false)))
noncomputable def ye (M:dq):cc:=
  (lO (rX (tK (qT (dk 13))) (qB (dz BG (dz nI (dk 8) (dk 7)) (dz BG (dk 9) (dL (rY cR)))))) (Ln M) g9)
noncomputable def qY (M:dq):cc:=
  (eB (Bn M)
  (eB (Bo M)
  (eB (GJ M)
  (eB (ya M)
  (eB (yb M)
  (eB (yc M)
  (eB (yd M)
  (ye M))))))))
noncomputable def Dg (M:dq):cc:=
  (kK 7 (iT (fi (cL (dC (.int 0)) (cL (dC (.int 1)) cR)))) (qY M))
noncomputable def qZ (M:dq):cc:=
  (Dg M)
noncomputable def yf (M:dq):cc:=
  (zQ [5,6] (iL (cP 4)) (qZ M))
noncomputable def uA (M:dq):cc:=
  (eB (Bl M)
  (eB (Bm M)
  (oM 4 (yf M))))
noncomputable def o4:cc:=
  (eB Bk
  (oM 9 (qA 3 YU (λM=>(uA M)))))
noncomputable def yg:cc:=
  (kK 1 (iL (dL (JO (dk 0) Qn (B2 (dC (.int 2)))))) o4)
noncomputable def Lo:cc:=
  (eP (dC (.bl true)))
noncomputable def Bq:cc:=
  (eB yg
  Lo)
noncomputable def GK:cj:=hO 14 1 Bq
end K4
namespace PC
open PySem DL GP
open L2 (lu sY)
theorem mH {j:Nat}{f:cc}{d:D}{ds:cw}{δ δ':dR}(h:f (δ.set j (.dat d))=some (.next δ')):fm j f (d::ds) δ=fm j f ds δ':=by simp only[fm,h]
theorem Lp {j:Nat}{f:cc}{d r:D}{ds:cw}{δ:dR}(h:f (δ.set j (.dat d))=some (.ret r)):fm j f (d::ds) δ=some (.ret r):=by simp only[fm,h]
theorem rT {j:Nat}{i:cb}{f:cc}{δ:dR}{ds:cw}{r:Option R}(h:i δ=some ds) (h2:fm j f ds δ=r):kK j i f δ=r:=by
 unfold kK;rw[h];exact h2
theorem NH {is:List Nat}{f:cf}{δ:dR}{ds:cw}(h:f δ=some (.tup ds)) (hl:ds.length=is.length):B4 is f δ=some (.next (pj is ds δ)):=by
 unfold B4;rw[h];simp only[hl,if_true]
theorem nB {α:Type}{j:Nat}{t:cg}{f:cf}{δ:dR}{φ ψ:α->D}{p:α->Bool}:∀(l:List α),(∀a∈l,t (δ.set j (.dat (φ a)))=some (p a))->(∀a∈l,p a=true->f (δ.set j (.dat (φ a)))=some (ψ a))->iB j t f δ (l.map φ)=some ((l.filter p).map ψ)
 |[],_,_=>rfl
 |a::r,h1,h2=>by
  have ih:=nB r (λb hb=>h1 b (ai _ hb)) λb hb=>h2 b (ai _ hb)
  show iB j t f δ (φ a::r.map φ)=_;unfold iB;rw[h1 a af,bu];cases hp:p a with
  |true=>
   simp only[if_true];rw[h2 a af hp,ih];rfl
  |false=>simpa using ih
theorem my {j:Nat}{i:cb}{t:cg}{f:cf}{δ:dR}{ds:cw}{r:Option (cw)}(h:i δ=some ds) (hl:ds.length<1000000) (h2:iB j t f δ ds=r):eS i j t f δ=r:=by
 unfold eS;rw[h];simp only[ao,if_pos hl];exact h2
theorem uB {i:Nat}{f:cb}{δ:dR}{ds:cw}(h:f δ=some ds):hJ i f δ=some (.next (δ.set i (.own ds))):=by
 unfold hJ;rw[h];rfl
theorem uC {x:D}(h:dY x<=30):BG x x=some (.bl false):=by
 unfold BG;rw[if_pos h,qu];rfl
theorem Uh {f g:cg}{δ:dR}{r:Option Bool}(h1:f δ=some false) (h2:g δ=r):Jz f g δ=r:=by
 unfold Jz;rw[h1];exact h2
theorem Fe {f g:cg}{δ:dR}{r:Option Bool}(h1:f δ=some true) (h2:g δ=r):rX f g δ=r:=by
 unfold rX;rw[h1];exact h2
theorem Lq {f g:cg}{δ:dR}(h1:f δ=some false):rX f g δ=some false:=by
 unfold rX;rw[h1]
theorem Lr (a b:cq):BG (tupI a) (tupI b)=some (.bl (!decide (a=b))):=by
 unfold BG;rw[if_pos (by rw[LW.qG];omega),LW.xB]
theorem pP (a b:Int):nI (.int a) (.int b)=some (.bl (decide (a=b))):=by
 have:nI (.int a) (.int b)=some (.bl (a==b)):=rfl;rw[this]
 congr 2
theorem Lu (a:cq) (L:cp):B0 (tupI a) (.tup (L.map tupI))=some (.bl (decide (a∈L))):=by
 show(if iM (L.map tupI)<=30 then some (D.bl (memD (tupI a) (L.map tupI)))else none)=_
 have:=LW.mF L;rw[if_pos (by omega),LW.u5]
end PC
namespace PW
open PySem DL GP PC
open LW (dv dH dS)
open L2 (lu sY)
open ST (hV wx)
theorem Br {w:Int}(hw:w=0\/w=1):eV [.int w]=some (.int (1-w)):=by
 refine LW.eJ rfl ?_;rcases hw with rfl|rfl<;>rfl
theorem Dh {l m:cq}(hl:l.length<1000000):jP [tupI l,tupI m]=some (tupI (vC m l)):=by
 refine LW.eJ rfl ?_;show mw [cK l,cK m,.no]=_;unfold mw sD;refine g8 ((nu (ds:=(vC m l).map D.int) ?_).trans rfl);exact my (ds:=l.map D.int) rfl (by simpa using hl) (nB l (λi _=>iE ((iV rfl rfl).trans (ui i m))) λi _ _=>rfl)
theorem NI {f g:cf}{δ:dR}{a b:Bool}(hf:f δ=some (.bl a)) (hg:g δ=some (.bl b)):Ed f g δ=some (.bl (a&&b)):=by
 unfold Ed;rw[hf];cases a
 ·rfl
 ·simpa using hg
theorem zh {l:cq}{L:cp}{S:D}(hS:S=.tup (L.map tupI)\/S=.lst (L.map tupI)) (hn:L.length<1000000) (hl:∀o∈L,o.length<1000000):jw [tupI l,S]=some (.bl (Lc l L)):=by
 refine LW.eJ rfl ?_;show kz [cK l,.dat S,.no]=_;unfold kz qa Lc;have it:iS (cP 1) [cK l,.dat S,.no]=some (L.map tupI):=by rcases hS with rfl|rfl<;>rfl
 refine g8 ((nu (ds:=L.map λo=>D.bl ((!decide (o=l))&&gH l o)) ?_).trans (xV L _))
 exact my it (by simpa using hn) (lL L λo ho=>NI ((iV rfl rfl).trans (Lr o l)) ((dE rfl).trans (Ah (hl o ho))))
theorem Lv {c:cq}{L:cp}(hn:L.length<1000000) (hl:∀o∈L,o.length<1000000):qU [tupI c,.lst (L.map tupI)]=some (.bl (L.all λl=>eZ c l)):=by
 refine LW.eJ rfl ?_;show rQ [cK c,.dat (.lst (L.map tupI)),.no]=_;unfold rQ xX;refine g8 ((nu (ds:=L.map λo=>D.bl (eZ c o)) ?_).trans (LW.xE L _))
 exact my (ds:=L.map tupI) rfl (by simpa using hn) (lL L λo ho=>(dE rfl).trans (sW (hl o ho)))
theorem yh {α:Type} [BEq α] [LawfulBEq α]:∀(n:Nat) (l:List α),l.length<=n->l.eraseDups.length<=l.length
 |_,[],_=>by simp
 |0,_::_,h=>by simp at h
 |n+1,a::l,h=>by
  rw[List.eraseDups_cons,ax,ax];have h1:=aX (λb=> !b==a) l
  have h2:=yh n (l.filter λb=> !b==a) (aD h1 (by simpa using h))
  omega
theorem Lw {L:cp}{S:D}{m y:cq}(hS:S=.tup (L.map tupI)\/S=.lst (L.map tupI)) (hn:L.length<=18) (hl:∀o∈L,o.length<1000000):fB [S,tupI m,tupI y]=some (.tup ((g0 L m y).map tupI)):=by
 refine LW.eJ rfl ?_;show lz [.dat S,cK m,cK y,.no,.no,.no]=_;have it:iS (cP 0) [.dat S,cK m,cK y,.no,.no,.no]=some (L.map tupI):=by rcases hS with rfl|rfl<;>rfl
 have k1:eS (iS (cP 0)) 5 (tK (qB (cT fu (cL (cP 2) (cL (cP 5) cR))))) (cT jP (cL (cP 5) (cL (cP 1) cR))) [.dat S,cK m,cK y,.no,.no,.no]=some ((fP L m y).map tupI):=by
  unfold fP;rw[aW];exact my it (by rw[ae];omega) (nB L (λl jk=>Bh (iE ((dE rfl).trans (sW (hl l jk))))) λl jk _=>(dE rfl).trans (Dh (hl l jk)))
 have e1:qV [.dat S,cK m,cK y,.no,.no,.no]=some (.next [.dat S,cK m,cK y,.own ((fP L m y).map tupI),.no,.no]):=uB k1;have Rv:(fP L m y).length<=18:=by unfold fP;rw[ae];exact aD (aX _ _) hn
 have hnl:∀o∈fP L m y,o.length<1000000:=λo ho=>by
  obtain⟨l,jk,_,rfl⟩:=gc.mp ho;exact Nat.lt_of_le_of_lt (aX _ _) (hl l jk)
 have hul:∀o∈gY (fP L m y).eraseDups,o.length<1000000:=λo ho=>hnl o (GC.mp ho)
 have YV:(gY (fP L m y).eraseDups).length<1000000:=by
  rw[(fM _).length_eq];exact Nat.lt_of_le_of_lt (yh _ _ (au _)) (by omega)
 have k2:qF (dk 3) [.dat S,cK m,cK y,.dat (.lst ((fP L m y).map tupI)),.no,.no]=some ((gY (fP L m y).eraseDups).map tupI):=by
  show(if((fP L m y).map tupI).length<=18 then(mP ((fP L m y).map tupI)).map _ else none)=_
  rw[if_pos (by rw[ae];exact Rv),w5];rfl
 have e2:ny [.dat S,cK m,cK y,.dat (.lst ((fP L m y).map tupI)),.no,.no]=some (.next [.dat S,cK m,cK y,.dat (.lst ((fP L m y).map tupI)),.own ((gY (fP L m y).eraseDups).map tupI),.no]):=uB k2;unfold lz;rw[LW.cU e1];show(eB ny (oM 4 kB)) [.dat S,cK m,cK y,.dat (.lst ((fP L m y).map tupI)),.no,.no]=_;rw[LW.cU e2];show kB [.dat S,cK m,cK y,.dat (.lst ((fP L m y).map tupI)),.dat (.lst ((gY (fP L m y).eraseDups).map tupI)),.no]=_;unfold kB;refine g8 ((nu (ds:=(g0 L m y).map tupI) ?_).trans rfl);unfold g0 Nz;exact my (ds:=(gY (fP L m y).eraseDups).map tupI) rfl (by rw[ae];exact YV) (nB _ (λl jk=>Bh (iE ((dE rfl).trans (zh (.inr rfl) YV hul)))) λl _ _=>rfl)
noncomputable def vZ (kvs:List (Int×Int)) (L:cp):List (Int×Int):=L.foldl (λk l=>l.foldl oS k) kvs
noncomputable def eO (L:cp):cq:=(gY (hV (vZ [] L))).map λns=>ns.getD 1 0
theorem Lx (kvs:List (Int×Int)) (p:Int):(oS kvs p).map (·.1)=if p∈kvs.map (·.1)then kvs.map (·.1)else kvs.map (·.1)++[p]:=by
 have ha:(kvs.any λkv=>decide (kv.1=p))=decide (p∈kvs.map (·.1)):=by
  rw[Bool.eq_iff_iff];simp[bQ]
 unfold oS;rw[ha];by_cases h:p∈kvs.map (·.1)
 ·rw[if_pos (aS h),if_pos h,aW];refine bU λkv _=>?_
  simp only[Function.comp_apply];split<;>rfl
 ·rw[if_neg (by rw[aH h];simp),if_neg h,List.map_append];rfl
theorem GL (kvs:List (Int×Int)) (p:Int):(oS kvs p).length<=kvs.length+1:=by
 unfold oS;split
 ·rw[ae];omega
 ·simp
theorem Ai:∀(l:cq) (kvs:List (Int×Int)),(kvs.map (·.1)).Nodup->((l.foldl oS kvs).map (·.1)).Nodup/\∀p,p∈(l.foldl oS kvs).map (·.1)↔p∈kvs.map (·.1)\/p∈l
 |[],kvs,h=>⟨h,λp=>by simp⟩
 |q::l,kvs,h=>by
  have e:=Lx kvs q;have hn:((oS kvs q).map (·.1)).Nodup:=by
   rw[e];split
   ·exact h
   ·rename_i hq;rw[List.nodup_append];exact⟨h,by simp,λa ha b hb=>by simp at hb;subst hb;intro z;subst z;exact hq ha⟩
  obtain⟨h1,h2⟩:=Ai l (oS kvs q) hn;refine⟨h1,λp=>(h2 p).trans ?_⟩
  rw[e];by_cases hq:q∈kvs.map (·.1)
  ·rw[if_pos hq,List.mem_cons];constructor
   ·rintro(z|z)
    ·exact .inl z
    ·exact .inr (.inr z)
   ·rintro(z|rfl|z)
    ·exact .inl z
    ·exact .inl hq
    ·exact .inr z
  ·rw[if_neg hq];simp only[List.mem_append,List.mem_cons,bK,or_false];constructor
   ·rintro((z|z)|z)
    ·exact .inl z
    ·exact .inr (.inl z)
    ·exact .inr (.inr z)
   ·rintro(z|z|z)
    ·exact .inl (.inl z)
    ·exact .inl (.inr z)
    ·exact .inr z
theorem yi:∀(L:cp) (kvs:List (Int×Int)),(kvs.map (·.1)).Nodup->((vZ kvs L).map (·.1)).Nodup/\∀p,p∈(vZ kvs L).map (·.1)↔p∈kvs.map (·.1)\/∃l∈L,p∈l
 |[],kvs,h=>⟨h,λp=>by simp[vZ]⟩
 |l::L,kvs,h=>by
  obtain⟨h1,h2⟩:=Ai l kvs h;obtain⟨h3,h4⟩:=yi L (l.foldl oS kvs) h1;refine⟨h3,λp=>(h4 p).trans ?_⟩
  rw[h2];constructor
  ·rintro((z|z)|⟨k,hk,z⟩)
   ·exact .inl z
   ·exact .inr ⟨l,af,z⟩
   ·exact .inr ⟨k,ai _ hk,z⟩
  ·rintro(z|⟨k,hk,z⟩)
   ·exact .inl (.inl z)
   ·rcases List.mem_cons.mp hk with rfl|hk
    ·exact .inl (.inr z)
    ·exact .inr ⟨k,hk,z⟩
theorem vf (L:cp):(eO L).Perm ((vZ [] L).map (·.1)):=by
 unfold eO;refine((fM _).map _).trans ?_;unfold hV;rw[aW];exact List.Perm.refl _
theorem kZ (L:cp):(eO L).Nodup:=(vf L).nodup_iff.mpr (yi L [] (by simp)).1
theorem iY (L:cp) (p:Int):p∈eO L↔∃l∈L,p∈l:=by
 rw[(vf L).mem_iff,(yi L [] (by simp)).2]
 simp
theorem yj {L:cp}{many:Int}(h9:many<=9) (h:∀l∈L,∀p∈l,0<=p/\p<many):(eO L).length<=9:=by
 have r:fO (sortI (eO L)):=LW.kQ (kZ L);have:=jv (many:=many) r λp hp=>by
  obtain⟨l,hl,EK⟩:=(iY L p).mp (di.mp hp);exact h l hl p EK
 rw[(sortI_perm _).length_eq]at this;omega
theorem Di {Ls:D}{x2:Sl}:∀(l:cq) (kvs:List (Int×Int)) (x3:Sl),kvs.length+l.length<=1000->(∀ks,x2≠.memo ks)->(∀ks,x3≠.memo ks)->∃y3,(∀ks,y3≠.memo ks)/\
  fm 3 gh (l.map D.int) [.dat Ls,.memo [lU kvs],x2,x3]=some (.next [.dat Ls,.memo [lU (l.foldl oS kvs)],x2,y3])
 |[],kvs,x3,_,_,h3=>⟨x3,h3,rfl⟩
 |p::l,kvs,x3,hk,h2,h3=>by
  simp only[ax]at hk;have nm:mU [.dat Ls,.no,x2,cJ p]=true:=by
   cases x2 with
   |memo ks=>exact absurd rfl (h2 ks)
   |_=>rfl
  have e:gh [.dat Ls,.memo [lU kvs],x2,cJ p]=some (.next [.dat Ls,.memo [lU (oS kvs p)],x2,cJ p]):=by
   show(A9 (lU kvs)).bind _=_;rw[Ba];show(if kvs.length<1000/\mU [.dat Ls,.no,x2,cJ p]=true then _ else _)=_
   rw[if_pos ⟨by omega,nm⟩]
   rfl
  have:=GL kvs p;obtain⟨y3,hy,ih⟩:=Di (Ls:=Ls) (x2:=x2) l (oS kvs p) (cJ p) (by omega) h2 (λks z=>by cases z)
  refine⟨y3,hy,?_⟩;rw[aF,mH (j:=3) (f:=gh) (d:=.int p) (δ:=[.dat Ls,.memo [lU kvs],x2,x3]) e,ih];rfl
theorem Aj:∀(l:cq) (kvs:List (Int×Int)),(l.foldl oS kvs).length<=kvs.length+l.length
 |[],_=>by simp
 |p::l,kvs=>by
  have:=GL kvs p;have:=Aj l (oS kvs p);simp only[List.foldl_cons,ax];omega
theorem Dj {Ls:D}:∀(L:cp) (kvs:List (Int×Int)) (x2 x3:Sl),kvs.length+(L.map (·.length)).sum<=1000->(∀ks,x3≠.memo ks)->∃y2 y3,
  fm 2 fx (L.map tupI) [.dat Ls,.memo [lU kvs],x2,x3]=some (.next [.dat Ls,.memo [lU (vZ kvs L)],y2,y3])
 |[],kvs,x2,x3,_,_=>⟨x2,x3,rfl⟩
 |l::L,kvs,x2,x3,hk,h3=>by
  simp only[aF,List.sum_cons]at hk;obtain⟨y3,hy,e⟩:=Di (Ls:=Ls) (x2:=cK l) l kvs x3 (by omega) (λks z=>by cases z) h3
  have e2:fx [.dat Ls,.memo [lU kvs],cK l,x3]=some (.next [.dat Ls,.memo [lU (l.foldl oS kvs)],cK l,y3]):=by
   unfold fx nY;exact rT (ds:=l.map D.int) rfl e
  have:=Aj l kvs;obtain⟨z2,z3,ih⟩:=Dj (Ls:=Ls) L (l.foldl oS kvs) (cK l) y3 (by omega) hy
  refine⟨z2,z3,?_⟩;rw[aF,mH (j:=2) (f:=fx) (d:=tupI l) (δ:=[.dat Ls,.memo [lU kvs],x2,x3]) e2,ih];rfl
theorem Ly {L:cp}{many:Int}(h9:many<=9) (h:∀l∈L,∀p∈l,0<=p/\p<many) (hs:(L.map (·.length)).sum<=1000) (jZ:∃l∈L,l≠[]):gw [.tup (L.map tupI)]=some (tupI (eO L)):=by
 refine LW.eJ rfl ?_;show kU [.dat (.tup (L.map tupI)),.no,.no,.no]=_;obtain⟨y2,y3,e⟩:=Dj (Ls:=.tup (L.map tupI)) L [] .no .no (by simpa using hs) (λks z=>by cases z)
 have e3:kA [.dat (.tup (L.map tupI)),.memo [lU []],.no,.no]=some (.next [.dat (.tup (L.map tupI)),.memo [lU (vZ [] L)],y2,y3]):=by
  unfold kA;exact rT (ds:=L.map tupI) rfl e
 have hl9:=yj h9 h;have fQ:(vZ [] L).length=(eO L).length:=by rw[(vf L).length_eq,ae]
 have h1:1<=(vZ [] L).length:=by
  rw[fQ];obtain⟨l,hl,D4⟩:=jZ;cases l with
  |nil=>exact absurd rfl D4
  |cons p r=>
   have:=(iY L p).mpr ⟨_,hl,af⟩;exact List.length_pos_of_mem this
 have e4:gi [.dat (.tup (L.map tupI)),.memo [lU []],.no,.no]=some (.ret (tupI (eO L))):=by
  unfold gi;rw[LW.cU e3];unfold nZ;refine g8 ((nu (ds:=(eO L).map D.int) ?_).trans rfl);show(A9 (lU (vZ [] L))).bind _=_;rw[Ba];show(if 1<=(vZ [] L).length/\(vZ [] L).length<64 then _ else _)=_
  rw[if_pos ⟨h1,by omega⟩]
  unfold eO;rw[aW];rfl
 show(if noOwn [.dat (.tup (L.map tupI)),.no,.no,.no]=true/\1<4 then(gi [.dat (.tup (L.map tupI)),.memo [lU []],.no,.no]).bind (rZ 1)else none)=_
 rw[if_pos ⟨rfl,by decide⟩,e4]
 rfl
end PW
namespace PW
open PySem DL GP PC
open LW (dv dH dS)
open L2 (lu sY)
noncomputable def dG (G:Gm) (f:Int):D:=dM G.many G.ls f G.b G.g
theorem GN {G:Gm}(hG:G.Ok) {f:Int}{m y:cq}:fE [dG G f,tupI m,tupI y]=some (E4 (G.over m y)):=Rf hG.ll
theorem Ak {G:Gm}(hG:G.Ok) {f w:Int}{m y:cq}(h:eK G.many m y) (hw:w=0\/w=1):eU [dG G f,tupI m,tupI y,.int w]=some (.lst ((G.eA m y w).map tupI)):=by
 have h1:=jv h.rm h.im;have h2:=jv h.ry h.iy;have:=hG.m9;have:=hG.m0;have:=hG.b1;have:=hG.b3;have:=hG.g1;have:=hG.g3;exact Li hG.m0 (by omega) ⟨by omega,hG.b3⟩ ⟨by omega,hG.g3⟩ hw (by omega)
theorem Lz {G:Gm}(hG:G.Ok) {w:Int}{m y c:cq}(h:eK G.many m y) (hc:c∈G.eA m y w):gD [tupI m,tupI y,.int w,tupI c]=some (.tup [tupI (dh m y w c).1,tupI (dh m y w c).2]):=by
 have h1:=jv h.rm h.im;have h2:=jv h.ry h.iy;have h3:=oU h hc;have h4:=um hG m y;have:=hG.m9;exact OG (by omega) (by omega)
section
variable {G:Gm}{f w:Int}{m y:cq}{rc:cj}{ks:cw}
theorem LA (hG:G.Ok) (h:eK G.many m y) (hw:w=0\/w=1) {c:cq}{fo:Int}{x7 x8:Sl}(hc:c∈G.eA m y w) (Q5:fo=w\/fo=1-w)
  (hr:rc [dG G f,tupI (dh m y w c).1,tupI (dh m y w c).2,.int (1-w)]=some (.int (G.fj (dh m y w c).1 (dh m y w c).2 (1-w)))):
  fU (eh G hG) rc [.dat (dG G f),.memo ks,cK m,cK y,cJ w,cJ fo,cK c,x7,x8]=
   some (.next [.dat (dG G f),.memo ks,cK m,cK y,cJ w,cJ (if fo=w then w else G.fj (dh m y w c).1 (dh m y w c).2 (1-w)),cK c,cK (dh m y w c).1,cK (dh m y w c).2]):=by
 have e3:lZ (eh G hG) rc [.dat (dG G f),.memo ks,cK m,cK y,cJ w,cJ fo,cK c,x7,x8]=some (.next [.dat (dG G f),.memo ks,cK m,cK y,cJ w,cJ fo,cK c,cK (dh m y w c).1,cK (dh m y w c).2]):=by
  have a:cT gD (cL (cP 2) (cL (cP 3) (cL (cP 4) (cL (cP 6) cR)))) [.dat (dG G f),.memo ks,cK m,cK y,cJ w,cJ fo,cK c,x7,x8]=gD [tupI m,tupI y,.int w,tupI c]:=rfl;unfold lZ B4;rw[a,Lz hG h hc];rfl
 unfold fU;rw[LW.cU e3];have q:∀r:Option R->Prop,True:=λ_=>trivial
 by_cases hf:fo=w
 ·subst hf;rw[if_pos rfl];simp[ma,lO,g9,qB,dz,dk,BG,dY,dU]
 ·rw[if_neg hf];have jZ:(fo==w)=false:=by simpa using hf
  have a:jJ 1 BH rc (eh G hG) (cL (cP 0) (cL (cP 7) (cL (cP 8) (cL (dz oK (dC (.int 1)) (dk 4)) cR)))) [.dat (dG G f),.memo ks,cK m,cK y,cJ w,cJ fo,cK c,cK (dh m y w c).1,cK (dh m y w c).2]=some (.int (G.fj (dh m y w c).1 (dh m y w c).2 (1-w))):=by
   have b:cL (cP 0) (cL (cP 7) (cL (cP 8) (cL (dz oK (dC (.int 1)) (dk 4)) cR))) [.dat (dG G f),.memo ks,cK m,cK y,cJ w,cJ fo,cK c,cK (dh m y w c).1,cK (dh m y w c).2]=some [dG G f,tupI (dh m y w c).1,tupI (dh m y w c).2,.int (1-w)]:=rfl;unfold jJ;rw[b];simp only[aL,aN,ao];rw[if_pos (show BH [dG G f,tupI (dh m y w c).1,tupI (dh m y w c).2,.int (1-w)]=eh G hG from nR hG f)]
   exact hr
  have t:qB (dz BG (dk 5) (dk 4)) [.dat (dG G f),.memo ks,cK m,cK y,cJ w,cJ fo,cK c,cK (dh m y w c).1,cK (dh m y w c).2]=some true:=by
   simp[qB,dz,dk,BG,dY,dU,jZ]
  unfold ma lO;rw[t];simp only;unfold qe jF;rw[a];rfl
theorem Dk (hG:G.Ok) (h:eK G.many m y) (hw:w=0\/w=1):∀(cs:cp) (fo:Int) (x6 x7 x8:Sl),(fo=w\/fo=1-w)->(∀c∈cs,c∈G.eA m y w)->
  (∀c∈cs,rc [dG G f,tupI (dh m y w c).1,tupI (dh m y w c).2,.int (1-w)]=some (.int (G.fj (dh m y w c).1 (dh m y w c).2 (1-w))))->
  ∃x6' x7' x8',fm 6 (fU (eh G hG) rc) (cs.map tupI) [.dat (dG G f),.memo ks,cK m,cK y,cJ w,cJ fo,x6,x7,x8]=
   some (.next [.dat (dG G f),.memo ks,cK m,cK y,cJ w,cJ (if fo=w\/cs.any (λc=>G.fj (dh m y w c).1 (dh m y w c).2 (1-w)==w)=true then w else 1-w),x6',x7',x8'])
 |[],fo,x6,x7,x8,Q5,_,_=>⟨x6,x7,x8,by
   have:fo=(if fo=w\/([]:cp).any (λc=>G.fj (dh m y w c).1 (dh m y w c).2 (1-w)==w)=true then w else 1-w):=by
    rcases Q5 with rfl|rfl
    ·simp
    ·have:¬ (1-w=w):=by omega
     simp[this]
   rw[<-this];rfl⟩
 |c::cs,fo,x6,x7,x8,Q5,hc,hr=>by
  have e:=LA (f:=f) (ks:=ks) (x7:=x7) (x8:=x8) hG h hw (hc c af) Q5 (hr c af);have RI:=ot (w:=1-w) hG (iR h (hc c af)) (by omega)
  obtain⟨a,b,d,ih⟩:=Dk hG h hw cs (if fo=w then w else G.fj (dh m y w c).1 (dh m y w c).2 (1-w)) (cK c) (cK (dh m y w c).1) (cK (dh m y w c).2) (by split<;>omega) (λc h=>hc c (ai _ h)) (λc h=>hr c (ai _ h))
  refine⟨a,b,d,?_⟩;simp only[aF,fm,aZ,aY];rw[e];simp only;rw[ih];have:((if fo=w then w else G.fj (dh m y w c).1 (dh m y w c).2 (1-w))=w\/cs.any (λc=>G.fj (dh m y w c).1 (dh m y w c).2 (1-w)==w)=true)↔(fo=w\/(c::cs).any (λc=>G.fj (dh m y w c).1 (dh m y w c).2 (1-w)==w)=true):=by
   rw[bH,Bool.or_eq_true,beq_iff_eq];by_cases hf:fo=w
   ·simp[hf]
   ·simp[hf]
  simp only[this]
theorem LB (hG:G.Ok) (h:eK G.many m y) (hw:w=0\/w=1)
  (hr:G.over m y=none->∀c∈G.eA m y w,rc [dG G f,tupI (dh m y w c).1,tupI (dh m y w c).2,.int (1-w)]=some (.int (G.fj (dh m y w c).1 (dh m y w c).2 (1-w)))):
  iX (eh G hG) rc [.dat (dG G f),.memo [],cK m,cK y,cJ w,.no,.no,.no,.no]=some (.ret (.int (G.fj m y w))):=by
 have e1:lY (eh G hG) rc [.dat (dG G f),.memo [],cK m,cK y,cJ w,.no,.no,.no,.no]=some (.next [.dat (dG G f),.memo [],cK m,cK y,cJ w,.dat (E4 (G.over m y)),.no,.no,.no]):=by
  have a:cT fE (cL (cP 0) (cL (cP 2) (cL (cP 3) cR))) [.dat (dG G f),.memo [],cK m,cK y,cJ w,.no,.no,.no,.no]=fE [dG G f,tupI m,tupI y]:=rfl;unfold lY jF;rw[a,GN hG];rfl
 have e7:∃x6 x7 x8,me (eh G hG) rc [.dat (dG G f),.memo [],cK m,cK y,cJ w,.dat (E4 (G.over m y)),.no,.no,.no]=some (.next [.dat (dG G f),.memo [],cK m,cK y,cJ w,cJ (G.fj m y w),x6,x7,x8]):=by
  rw[va hG h];cases ho:G.over m y with
  |some i=>exact⟨.no,.no,.no,rfl⟩
  |none=>
   have e2:qd (eh G hG) rc [.dat (dG G f),.memo [],cK m,cK y,cJ w,.dat .eD,.no,.no,.no]=some (.next [.dat (dG G f),.memo [],cK m,cK y,cJ w,cJ (1-w),.no,.no,.no]):=rfl;obtain⟨a,b,d,e⟩:=Dk (f:=f) (ks:=[]) (rc:=rc) hG h hw (G.eA m y w) (1-w) .no .no .no (.inr rfl) (λc hc=>hc) (hr ho)
   have e6:md (eh G hG) rc [.dat (dG G f),.memo [],cK m,cK y,cJ w,cJ (1-w),.no,.no,.no]=fm 6 (fU (eh G hG) rc) ((G.eA m y w).map tupI) [.dat (dG G f),.memo [],cK m,cK y,cJ w,cJ (1-w),.no,.no,.no]:=by
    have z:cT eU (cL (cP 0) (cL (cP 2) (cL (cP 3) (cL (cP 4) cR)))) [.dat (dG G f),.memo [],cK m,cK y,cJ w,cJ (1-w),.no,.no,.no]=eU [dG G f,tupI m,tupI y,.int w]:=rfl;unfold md kK iL;rw[z,Ak hG h hw];rfl
   refine⟨a,b,d,?_⟩;have nw:¬ (1-w=w):=by omega
   simp only[nw,false_or]at e;unfold me lO;have t:qB (dz UK (dk 5) (dC .eD)) [.dat (dG G f),.memo [],cK m,cK y,cJ w,.dat (E4 none),.no,.no,.no]=some true:=rfl;rw[t];simp only;show eB _ _ [.dat (dG G f),.memo [],cK m,cK y,cJ w,.dat .eD,.no,.no,.no]=_;rw[LW.cU e2,e6,e]
 obtain⟨x6,x7,x8,e7⟩:=e7;have e8:mf (eh G hG) rc [.dat (dG G f),.memo [],cK m,cK y,cJ w,cJ (G.fj m y w),x6,x7,x8]=some (.next [.dat (dG G f),.memo [qg m y w],cK m,cK y,cJ w,cJ (G.fj m y w),x6,x7,x8]):=by
  have k:fi (cL (cP 2) (cL (cP 3) (cL (cP 4) cR))) [.dat (dG G f),.memo [],cK m,cK y,cJ w,cJ (G.fj m y w),x6,x7,x8]=some (qg m y w):=rfl;unfold mf ju;rw[k];exact if_pos (CL h hw)
 have e9:mh (eh G hG) rc [.dat (dG G f),.memo [],cK m,cK y,cJ w,.no,.no,.no,.no]=some (.next [.dat (dG G f),.memo [qg m y w],cK m,cK y,cJ w,.no,.no,.no,.no]):=by
  have k:fi (cL (cP 2) (cL (cP 3) (cL (cP 4) cR))) [.dat (dG G f),.memo [],cK m,cK y,cJ w,.no,.no,.no,.no]=some (qg m y w):=rfl;unfold mh lx;rw[k,LW.cU e1,LW.cU e7,e8];have ko:=E5 m y w;refine if_pos ⟨ko.1,ko.2,rfl,λi s hs=>?_⟩
  match i,hs with
  |0,hs=>exact .inr (.inl hs)
  |1,hs=>exact .inr (.inl hs)
  |2,hs=>exact .inr (.inl hs)
  |3,hs=>exact .inr (.inl hs)
  |4,hs=>exact .inr (.inl hs)
  |5,hs=>cases hs;exact .inl rfl
  |6,hs=>cases hs;exact .inl rfl
  |7,hs=>cases hs;exact .inl rfl
  |8,hs=>cases hs;exact .inl rfl
  |(i+9),hs=>cases hs
 unfold iX;rw[LW.cU e9];have k:fi (cL (cP 2) (cL (cP 3) (cL (cP 4) cR))) [.dat (dG G f),.memo [qg m y w],cK m,cK y,cJ w,.no,.no,.no,.no]=some (qg m y w):=rfl;have gt:iN (eh G hG) 1 (fi (cL (cP 2) (cL (cP 3) (cL (cP 4) cR)))) [.dat (dG G f),.memo [qg m y w],cK m,cK y,cJ w,.no,.no,.no,.no]=some (.int (G.fj m y w)):=by
  have ko:=E5 m y w;unfold iN;rw[k];exact(if_pos ⟨ko.1,ko.2,bw.mpr rfl⟩).trans (CL h hw)
 unfold o3 eP;rw[gt];rfl
end
theorem Dl {G:Gm}(hG:G.Ok) {f:Int}:∀(n:Nat) (m y:cq) (w:Int),eK G.many m y->(w=0\/w=1)->(G.free m y).length<n->eC n [dG G f,tupI m,tupI y,.int w]=some (.int (G.fj m y w))
 |0,_,_,_,_,_,h=>absurd h (by omega)
 |n+1,m,y,w,h,hw,hn=>by
  have e:=LB (rc:=eC n) (f:=f) hG h hw λho c hc=>by
   have:=oU h hc;have:=rK hG ho hc;exact Dl hG n _ _ _ (iR h hc) (by omega) (by omega)
  have sp:BH [dG G f,tupI m,tupI y,.int w]=eh G hG:=nR hG f;unfold eC xj;rw[if_pos ⟨rfl,by decide⟩,sp]
  have st:startM 9 5 1 [dG G f,tupI m,tupI y,.int w]=[.dat (dG G f),.memo [],cK m,cK y,cJ w,.no,.no,.no,.no]:=rfl;simp only[st,e]
end PW
namespace PW
open PySem DL GP PC
open LW (dv dH dS)
open L2 (lu sY)
theorem o5 {n np:Nat}{fb:D->cc}{G:D}{ds:cw}{d:D}(hl:ds.length+1=np) (h:fb G (startM n np 0 ds)=some (.ret d)):mV n np fb (G::ds)=some d:=by
 show(if ds.length+1=np/\0<np then _ else _)=_
 rw[if_pos ⟨hl,by omega⟩,h]
structure nC (G:Gm):Prop where
 ok:G.Ok
 IF:G.ls.length<=18
 rise:∀l∈G.ls,fO l
structure SL (G:Gm) (L:cp):Prop where
 s:Le G L
 lo:Ny G L
 rise:∀l∈L,fO l
 IF:L.length<=18
 nine:∀l∈L,l.length<=9
 sum:(L.map (·.length)).sum<=1000
theorem LC {k:Nat}:∀(L:cp),(∀l∈L,l.length<=k)->(L.map (·.length)).sum<=L.length*k
 |[],_=>by simp
 |l::L,h=>by
  have:=LC L λx hx=>h x (ai _ hx)
  have:=h l af;simp only[aF,List.sum_cons,ax,Nat.add_mul,Nat.one_mul];omega
theorem nC.lo {G:Gm}(h:nC G):Ny G G.ls:=⟨h.ok.li,h.ok.ll⟩
theorem nC.sl {G:Gm}(h:nC G) {L:cp}(s:Le G L):SL G L:=by
 obtain⟨m,y,p,rfl⟩:=s;have r:=HX (m:=m) (y:=y) h.rise;have lo:=CT (m:=m) (y:=y) h.lo;have n:(g0 G.ls m y).length<=18:=by
  unfold g0 Nz;refine aD (aX _ _) ?_;rw[(fM _).length_eq];refine aD (yh _ _ (au _)) ?_;unfold fP;rw[ae];exact aD (aX _ _) h.IF
 have nine:∀l∈g0 G.ls m y,l.length<=9:=λl hl=>by
  have:=jv (r l hl) (lo.li l hl);have:=h.ok.m9;omega
 have:=LC _ nine;exact⟨⟨m,y,p,rfl⟩,lo,r,n,nine,by omega⟩
noncomputable def gr (G:Gm) (L:cp) (w:Int):cp:=
 if w=0 then r9 G.b.toNat (eO L)else(r9 G.g.toNat (eO L)).filter λc=>(L.filter λl=>decide ((l.length:Int)<=G.b)).all λl=>eZ c l
section
variable {G:Gm}{L:cp}{f w:Int}
theorem NJ (hG:G.Ok) (sl:SL G L) (jZ:∃l∈L,l≠[]) (hw:w=0\/w=1):gN [dG G f,.tup (L.map tupI),.int w]=some (.tup ((gr G L w).map tupI)):=by
 have b1:=hG.b1;have b3:=hG.b3;have g1:=hG.g1;have g3:=hG.g3;have IF:=sl.IF;refine o5 rfl ?_;show hW (dG G f) [.memo [],.dat (.tup (L.map tupI)),cJ w,.no,.no,.no,.no]=_;have hu:=yj hG.m9 sl.lo.li;have ea:∀v:Int,(v=0\/v=1)->dW [dG G f,.int v]=some (.int (((if v=0 then G.b else G.g).toNat:Nat):Int)):=λv hv=>by
  rw[show dG G f=dM G.many G.ls f G.b G.g from rfl,Rh hv]
  congr 2
  rcases hv with rfl|rfl<;>simp<;>omega
 have e1:kW (dG G f) [.memo [],.dat (.tup (L.map tupI)),cJ w,.no,.no,.no,.no]=some (.next [.memo [],.dat (.tup (L.map tupI)),cJ w,.dat (.tup ((r9 (if w=0 then G.b else G.g).toNat (eO L)).map tupI)),.no,.no,.no]):=by
  have k1:cT gw (cL (cP 1) cR) [.memo [],.dat (.tup (L.map tupI)),cJ w,.no,.no,.no,.no]=some (tupI (eO L)):=(dE rfl).trans (Ly hG.m9 sl.lo.li sl.sum jZ);have k2:cT dW (cL (oO (dG G f) 0) (cL (cP 2) cR)) [.memo [],.dat (.tup (L.map tupI)),cJ w,.no,.no,.no,.no]=some (.int (((if w=0 then G.b else G.g).toNat:Nat):Int)):=(dE rfl).trans (ea w hw)
  unfold kW;rw[nX ((dE (p9 k1 (sA k2))).trans (vd 5 _ _ (by split<;>omega) (by omega)))]
  rfl
 unfold hW;rw[LW.cU e1];have WN:∀k:Nat,(r9 k (eO L)).length<1000000:=λk=>by
  have h1:=CN (c:=k) (ps:=eO L);have h2:2^(eO L).length<=2^9:=Nat.pow_le_pow_right (by decide) hu
  have:(2:Nat)^9=512:=by decide
  omega
 rcases hw with rfl|rfl
 ·have e3:kX (dG G f) [.memo [],.dat (.tup (L.map tupI)),cJ 0,.dat (.tup ((r9 (if(0:Int)=0 then G.b else G.g).toNat (eO L)).map tupI)),.no,.no,.no]=some (.ret (.tup ((gr G L 0).map tupI))):=rfl
  rw[nv e3]
 ·have e3:kX (dG G f) [.memo [],.dat (.tup (L.map tupI)),cJ 1,.dat (.tup ((r9 (if(1:Int)=0 then G.b else G.g).toNat (eO L)).map tupI)),.no,.no,.no]=some (.next [.memo [],.dat (.tup (L.map tupI)),cJ 1,.dat (.tup ((r9 (if(1:Int)=0 then G.b else G.g).toNat (eO L)).map tupI)),.no,.no,.no]):=rfl
  rw[LW.cU e3];have k4:eS (iT (cP 1)) 5 (qB (dz PX (cT n8 (cL (dk 5) cR)) (cT dW (cL (oO (dG G f) 0) (cL (dC (.int 0)) cR))))) (cP 5) [.memo [],.dat (.tup (L.map tupI)),cJ 1,.dat (.tup ((r9 (if(1:Int)=0 then G.b else G.g).toNat (eO L)).map tupI)),.no,.no,.no]=some ((L.filter λl=>decide ((l.length:Int)<=G.b)).map tupI):=by
   refine my (ds:=L.map tupI) rfl (by rw[ae];omega) (nB L (λl _=>?_) λl _ _=>rfl)
   have kl:cT n8 (cL (dk 5) cR) [.memo [],.dat (.tup (L.map tupI)),cJ 1,.dat (.tup ((r9 (if(1:Int)=0 then G.b else G.g).toNat (eO L)).map tupI)),.no,cK l,.no]=some (.int (l.length:Int)):=by
    show some (D.int ((l.map D.int).length:Int))=_;rw[ae]
   have ka:cT dW (cL (oO (dG G f) 0) (cL (dC (.int 0)) cR)) [.memo [],.dat (.tup (L.map tupI)),cJ 1,.dat (.tup ((r9 (if(1:Int)=0 then G.b else G.g).toNat (eO L)).map tupI)),.no,cK l,.no]=some (.int G.b):=by
    refine(dE rfl).trans ((ea 0 (.inl rfl)).trans ?_)
    congr 2
    simp;omega
   exact iE ((iV (o:=PX) kl ka).trans rfl)
  have e4:oZ (dG G f) [.memo [],.dat (.tup (L.map tupI)),cJ 1,.dat (.tup ((r9 (if(1:Int)=0 then G.b else G.g).toNat (eO L)).map tupI)),.no,.no,.no]=some (.next [.memo [],.dat (.tup (L.map tupI)),cJ 1,.dat (.tup ((r9 (if(1:Int)=0 then G.b else G.g).toNat (eO L)).map tupI)),.own ((L.filter λl=>decide ((l.length:Int)<=G.b)).map tupI),.no,.no]):=uB k4
  rw[LW.cU e4];show kY (dG G f) [.memo [],.dat (.tup (L.map tupI)),cJ 1,.dat (.tup ((r9 (if(1:Int)=0 then G.b else G.g).toNat (eO L)).map tupI)),.dat (.lst ((L.filter λl=>decide ((l.length:Int)<=G.b)).map tupI)),.no,.no]=_
  unfold kY;refine g8 ((nu (ds:=(gr G L 1).map tupI) ?_).trans rfl);have hf:(L.filter λl=>decide ((l.length:Int)<=G.b)).length<1000000:=Nat.lt_of_le_of_lt (aX _ _) (by omega)
  refine my (ds:=(r9 (if(1:Int)=0 then G.b else G.g).toNat (eO L)).map tupI) rfl (by rw[ae];exact WN _) ?_
  exact nB _ (λc _=>iE ((dE rfl).trans (Lv hf λo ho=>by have:=sl.nine o (List.mem_filter.mp ho).1;omega))) λc _ _=>rfl
noncomputable def jo (L:cp) (w:Int) (c:cq):cp:=if w=0 then g0 L (sortI c) []else g0 L [] (sortI c)
theorem Ib {c:cq}(h:c∈gr G L w):∃k,(k=G.b.toNat\/k=G.g.toNat)/\c∈r9 k (eO L):=by
 unfold gr at h;split at h
 ·exact⟨_,.inl rfl,h⟩
 ·exact⟨_,.inr rfl,(List.mem_filter.mp h).1⟩
theorem nD (hG:G.Ok) (sl:SL G L) (jZ:∃l∈L,l≠[]) {c:cq}(h:c∈gr G L w):c.Nodup/\(∀p∈c,p∈eO L)/\c.length<=4/\c≠[]:=by
 have b1:=hG.b1;have b3:=hG.b3;have g1:=hG.g1;have g3:=hG.g3;obtain⟨k,hk,hc⟩:=Ib h;obtain⟨h1,h2,h3⟩:=pG hc;refine⟨oW hG sl.lo (iY L) (kZ L) hc,h1,by omega,λz=>?_⟩
 subst z;rcases h3 with z|z
 ·simp at z;omega
 ·obtain⟨l,hl,D4⟩:=jZ;cases l with
  |nil=>exact D4 rfl
  |cons p r=>
   have:=z p ((iY L p).mpr ⟨_,hl,af⟩);cases this
theorem Dm (hF:nC G) (sl:SL G L) {c:cq}(hc:∀p∈c,p∈eO L) (hn:c.Nodup):Le G (jo L w c):=by
 obtain⟨m,y,p,e⟩:=sl.s;have wO:∀q∈c,(0<=q/\q<G.many)/\q∉m/\q∉y:=λq hq=>by
  obtain⟨l,hl,YW⟩:=(iY L q).mp (hc q hq);refine⟨sl.lo.li l hl q YW,?_⟩;rw[e]at hl;obtain⟨k,hk,Ue,rfl⟩:=gc.mp (iU.mp hl).1;obtain⟨h1,h2⟩:=fH.mp YW;exact⟨h2,Ue q h1⟩
 have rs:fO (sortI c):=LW.kQ hn;unfold jo;split
 ·refine⟨sortI (m++sortI c),y,⟨rJ p.rm rs λq hq=>(wO q (di.mp hq)).2.1,p.ry,λq hq=>?_,p.iy,λq hq=>?_⟩,?_⟩
  ·rcases List.mem_append.mp (di.mp hq)with z|z
   ·exact p.im q z
   ·exact(wO q (di.mp z)).1
  ·rcases List.mem_append.mp (di.mp hq)with z|z
   ·exact p.dj q z
   ·exact(wO q (di.mp z)).2.2
  ·rw[e];exact Af hF.rise (λq=>by rw[di,List.mem_append]) (λq=>by simp) (λq hq=>by cases hq)
 ·refine⟨m,sortI (y++sortI c),⟨p.rm,rJ p.ry rs λq hq=>(wO q (di.mp hq)).2.2,p.im,λq hq=>?_,λq hq z=>?_⟩,?_⟩
  ·rcases List.mem_append.mp (di.mp hq)with z|z
   ·exact p.iy q z
   ·exact(wO q (di.mp z)).1
  ·rcases List.mem_append.mp (di.mp z)with z|z
   ·exact p.dj q hq z
   ·exact(wO q (di.mp z)).2.1 hq
  ·rw[e];exact Af hF.rise (λq=>by simp) (λq=>by rw[di,List.mem_append]) (λq hq=>(wO q (di.mp hq)).2.1)
theorem Ff (sl:SL G L) {c:cq}(hc:∀p∈c,p∈eO L) (jZ:c≠[]):(eO (jo L w c)).length<(eO L).length:=by
 have sub:∀p∈eO (jo L w c),p∈eO L/\p∉c:=λp hp=>by
  obtain⟨l,hl,jX⟩:=(iY _ p).mp hp;unfold jo at hl;split at hl
  ·obtain⟨k,hk,_,rfl⟩:=gc.mp (iU.mp hl).1;obtain⟨h1,h2⟩:=fH.mp jX;exact⟨(iY _ p).mpr ⟨k,hk,h1⟩,λz=>h2 (di.mpr z)⟩
  ·obtain⟨k,hk,Ue,rfl⟩:=gc.mp (iU.mp hl).1;obtain⟨h1,h2⟩:=fH.mp jX;exact⟨(iY _ p).mpr ⟨k,hk,h1⟩,λz=>Ue p h1 (di.mpr z)⟩
 obtain⟨q,r,rfl⟩:∃q r,c=q::r:=by
  cases c with
  |nil=>exact absurd rfl jZ
  |cons q r=>exact⟨q,r,rfl⟩
 have ra:fO (sortI (eO (jo L w (q::r)))):=LW.kQ (kZ _);have rb:fO (sortI (eO L)):=LW.kQ (kZ _);have:=CS ra rb (λp hp=>di.mpr (sub p (di.mp hp)).1) λz=>by
  have h1:q∈sortI (eO (jo L w (q::r))):=by rw[z];exact di.mpr (hc q af)
  exact(sub q (di.mp h1)).2 af
 rwa [(sortI_perm _).length_eq,(sortI_perm _).length_eq]at this
theorem uD (hF:nC G) (sl:SL G L) {c:cq}(hc:∀p∈c,p∈eO L) (hn:c.Nodup) {v:Int}(hv:v=0\/v=1):
  (G.at (jo L w c)).fj [] [] v=if w=0 then(G.at L).fj (sortI c) [] v else(G.at L).fj [] (sortI c) v:=by
 obtain⟨p1,p2⟩:=qK hF.ok sl.lo (iY L) hc hn;unfold jo;split
 ·exact(xO hF.ok sl.lo sl.rise p1 hv).symm
 ·exact(xO hF.ok sl.lo sl.rise p2 hv).symm
end
end PW
namespace PW
open PySem DL GP PC
open LW (dv dH dS)
open L2 (lu sY)
theorem Fg {ns:cq}(h:ns≠[]):Cj [.lst (ns.map D.int)]=some (.int (jY ns)):=by
 show(intsOf (ns.map D.int)).bind _=_;rw[jG];cases ns with
 |nil=>exact absurd rfl h
 |cons a r=>rfl
section
variable {G:Gm}{L:cp}{f w:Int}
theorem held_eq (c:cq) (hw:w=0\/w=1):g0 L (dh [] [] w c).1 (dh [] [] w c).2=jo L w c:=by
 rcases hw with rfl|rfl<;>rfl
theorem Ri (sl:SL G L) (hw:w=0\/w=1) {c:cq}(hc:c.length<=4) {rc:cj}{x3 x5 x6:Sl}{v:Int}(hv:v=0\/v=1)
  (hr:rc [dG G f,.tup ((jo L w c).map tupI),.int (1-w)]=some (.int v)):∃y5,
  fR (dG G f) rc [.memo [],.dat (.tup (L.map tupI)),cJ w,x3,cK c,x5,x6]=(if v=w then some (.ret (.int w))else some (.next [.memo [],.dat (.tup (L.map tupI)),cJ w,x3,cK c,y5,x6])):=by
 have IF:=sl.IF;have e4:pN (dG G f) rc [.memo [],.dat (.tup (L.map tupI)),cJ w,x3,cK c,x5,x6]=some (.next [.memo [],.dat (.tup (L.map tupI)),cJ w,x3,cK c,.dat (.tup [tupI (dh [] [] w c).1,tupI (dh [] [] w c).2]),x6]):=by
  unfold pN;rw[nX ((dE rfl).trans (Dd (m:=[]) (y:=[]) (c:=c) (w:=w) (by simp;omega) (by simp;omega)))]
  rfl
 refine⟨.dat (.tup [tupI (dh [] [] w c).1,tupI (dh [] [] w c).2]),?_⟩;unfold fR;rw[LW.cU e4];have ko:cT fB (cL (cP 1) (cL (dz jL (dk 5) (dC (.int 0))) (cL (dz jL (dk 5) (dC (.int 1))) cR))) [.memo [],.dat (.tup (L.map tupI)),cJ w,x3,cK c,.dat (.tup [tupI (dh [] [] w c).1,tupI (dh [] [] w c).2]),x6]=some (.tup ((jo L w c).map tupI)):=by
  rw[<-held_eq c hw];exact(dE rfl).trans (Lw (.inl rfl) IF sl.lo.ll)
 have kh:cT eV (cL (cP 2) cR) [.memo [],.dat (.tup (L.map tupI)),cJ w,x3,cK c,.dat (.tup [tupI (dh [] [] w c).1,tupI (dh [] [] w c).2]),x6]=some (.int (1-w)):=(dE rfl).trans (Br hw);have km:j8 0 (dG G f) rc (cL (cT fB (cL (cP 1) (cL (dz jL (dk 5) (dC (.int 0))) (cL (dz jL (dk 5) (dC (.int 1))) cR)))) (cL (cT eV (cL (cP 2) cR)) cR)) [.memo [],.dat (.tup (L.map tupI)),cJ w,x3,cK c,.dat (.tup [tupI (dh [] [] w c).1,tupI (dh [] [] w c).2]),x6]=some (.int v):=by
  show(cL _ _ _).bind _=_;rw[p9 ko (sA kh)];exact hr
 have kq:=iE ((iV (o:=nI) (g:=dk 2) (y:=.int w) km rfl).trans (pP v w));unfold uy;by_cases e:v=w
 ·rw[xU (by rw[kq,aS e]),if_pos e]
  rfl
 ·rw[oY (by rw[kq,aH e]),if_neg e]
  rfl
theorem LD (sl:SL G L) (hw:w=0\/w=1) {rc:cj}{x3 x6:Sl}(val:cq->Int):∀(cs:cp) (x4 x5:Sl),(∀c∈cs,c.length<=4)->(∀c∈cs,val c=0\/val c=1)->(∀c∈cs,rc [dG G f,.tup ((jo L w c).map tupI),.int (1-w)]=some (.int (val c)))->∃y4 y5,
  fm 4 (fR (dG G f) rc) (cs.map tupI) [.memo [],.dat (.tup (L.map tupI)),cJ w,x3,x4,x5,x6]=(if(cs.any λc=>val c==w)=true then some (.ret (.int w))else some (.next [.memo [],.dat (.tup (L.map tupI)),cJ w,x3,y4,y5,x6]))
 |[],x4,x5,_,_,_=>⟨x4,x5,rfl⟩
 |c::cs,x4,x5,h4,RI,hr=>by
  obtain⟨z5,e⟩:=Ri (f:=f) sl hw (h4 c af) (rc:=rc) (x3:=x3) (x5:=x5) (x6:=x6) (RI c af) (hr c af);obtain⟨y4,y5,ih⟩:=LD sl hw (rc:=rc) (x3:=x3) (x6:=x6) val cs (cK c) z5 (λa h=>h4 a (ai _ h)) (λa h=>RI a (ai _ h)) (λa h=>hr a (ai _ h))
  refine⟨y4,y5,?_⟩;rw[aF,bH];by_cases hv:val c=w
  ·rw[if_pos hv]at e;rw[Lp (j:=4) (f:=fR (dG G f) rc) (d:=tupI c) (δ:=[.memo [],.dat (.tup (L.map tupI)),cJ w,x3,x4,x5,x6]) e,if_pos (by simp[hv])]
  ·rw[if_neg hv]at e;rw[mH (j:=4) (f:=fR (dG G f) rc) (d:=tupI c) (δ:=[.memo [],.dat (.tup (L.map tupI)),cJ w,x3,x4,x5,x6]) e,ih];have:(val c==w)=false:=by simpa using hv
   rw[this,Bool.false_or]
theorem NK (hF:nC G) (sl:SL G L) (h1:L≠[]) (h2:[]∉L) (hw:w=0\/w=1):(G.at L).fj [] [] w=if((gr G L w).any λc=>(G.at (jo L w c)).fj [] [] (1-w)==w)=true then w else 1-w:=by
 have hG:=hF.ok;have jZ:∃l∈L,l≠[]:=by
  cases L with
  |nil=>exact absurd rfl h1
  |cons l r=>exact⟨l,af,λz=>h2 (by rw[<-z];exact af)⟩
 have RI:=ot (w:=w) (hG.at sl.lo) (mv (G.at L).many) hw;have key:(((gr G L w).any λc=>(G.at (jo L w c)).fj [] [] (1-w)==w)=true)↔(G.at L).fj [] [] w=w:=by
  rw[bQ];rcases hw with rfl|rfl
  ·rw[La hG sl.lo h1 h2 (kZ L) (iY L)];constructor
   ·rintro⟨c,hc,e⟩
    have co:=nD hG sl jZ hc;refine⟨c,by simpa [gr]using hc,?_⟩
    have:=uD (w:=0) hF sl co.2.1 co.1 (v:=1) (.inr rfl);rw[if_pos rfl]at this;rw[<-this]
    simpa using e
   ·rintro⟨c,hc,e⟩
    have uG:c∈gr G L 0:=by simpa [gr]using hc
    have co:=nD hG sl jZ uG;refine⟨c,uG,?_⟩;have:=uD (w:=0) hF sl co.2.1 co.1 (v:=1) (.inr rfl);rw[if_pos rfl,e]at this
    simpa using this
  ·rw[Lb hG sl.lo h1 h2 (kZ L) (iY L)];have sp:∀c,((L.filter λl=>decide ((l.length:Int)<=G.b)).all λl=>eZ c l)=true↔∀l∈L,l.length<=G.b.toNat->∃p∈l,p∈c:=λc=>by
    have b1:=hG.b1;rw[List.all_eq_true];constructor
    ·intro h l hl hb;have:=h l (List.mem_filter.mpr ⟨hl,aS (by omega)⟩)
     unfold eZ at this;rw[bQ]at this;obtain⟨p,hp,hq⟩:=this;exact⟨p,hp,bM hq⟩
    ·intro h l hl;obtain⟨UY,D4⟩:=List.mem_filter.mp hl;have hl3:=bM D4;obtain⟨p,hp,hq⟩:=h l UY (by omega)
     unfold eZ;rw[bQ];exact⟨p,hp,aS hq⟩
   constructor
   ·rintro⟨c,hc,e⟩
    have co:=nD hG sl jZ hc;have vk:c∈(r9 G.g.toNat (eO L)).filter λc=>(L.filter λl=>decide ((l.length:Int)<=G.b)).all λl=>eZ c l:=by simpa [gr]using hc
    obtain⟨c1,c2⟩:=List.mem_filter.mp vk;refine⟨c,c1,(sp c).mp c2,?_⟩;have:=uD (w:=1) hF sl co.2.1 co.1 (v:=0) (.inl rfl);rw[if_neg (by decide)]at this
    rw[<-this]
    simpa using e
   ·rintro⟨c,c1,c2,e⟩
    have uG:c∈gr G L 1:=by
     have:c∈(r9 G.g.toNat (eO L)).filter λc=>(L.filter λl=>decide ((l.length:Int)<=G.b)).all λl=>eZ c l:=List.mem_filter.mpr ⟨c1,(sp c).mpr c2⟩
     simpa [gr]using this
    have co:=nD hG sl jZ uG;refine⟨c,uG,?_⟩;have:=uD (w:=1) hF sl co.2.1 co.1 (v:=0) (.inl rfl);rw[if_neg (by decide),e]at this
    simpa using this
 by_cases hk:((gr G L w).any λc=>(G.at (jo L w c)).fj [] [] (1-w)==w)=true
 ·rw[if_pos hk];exact key.mp hk
 ·rw[if_neg hk];have YX:(G.at L).fj [] [] w≠w:=λz=>hk (key.mpr z)
  rcases hw with rfl|rfl
  ·rcases RI with h|h
   ·exact absurd h YX
   ·rw[h];rfl
  ·rcases RI with h|h
   ·rw[h];rfl
   ·exact absurd h YX
theorem Fh (hF:nC G) (sl:SL G L) (h1:L≠[]) (h2:[]∉L) (hw:w=0\/w=1) {rc:cj}
  (hr:∀c∈gr G L w,rc [dG G f,.tup ((jo L w c).map tupI),.int (1-w)]=some (.int ((G.at (jo L w c)).fj [] [] (1-w)))):
  jQ (dG G f) rc [.memo [],.dat (.tup (L.map tupI)),cJ w,.no,.no,.no,.no]=some (.ret (.int ((G.at L).fj [] [] w))):=by
 have hG:=hF.ok;have b1:=hG.b1;have IF:=sl.IF;have jZ:∃l∈L,l≠[]:=by
  cases L with
  |nil=>exact absurd rfl h1
  |cons l r=>exact⟨l,af,λz=>h2 (by rw[<-z];exact af)⟩
 have e1:pM (dG G f) rc [.memo [],.dat (.tup (L.map tupI)),cJ w,.no,.no,.no,.no]=some (.next [.memo [],.dat (.tup (L.map tupI)),cJ w,cJ (jY (L.map λl=>(l.length:Int))),.no,.no,.no]):=by
  have k:eS (iT (cP 1)) 6 lP (cT n8 (cL (dk 6) cR)) [.memo [],.dat (.tup (L.map tupI)),cJ w,.no,.no,.no,.no]=some ((L.map λl=>(l.length:Int)).map D.int):=by
   rw[aW];refine my (ds:=L.map tupI) rfl (by rw[ae];omega) (lL L λl _=>?_)
   show some (D.int ((l.map D.int).length:Int))=_;rw[ae];rfl
  have kl:cT Cj (cL (dL (eS (iT (cP 1)) 6 lP (cT n8 (cL (dk 6) cR)))) cR) [.memo [],.dat (.tup (L.map tupI)),cJ w,.no,.no,.no,.no]=some (.int (jY (L.map λl=>(l.length:Int)))):=(nu k).trans (Fg (by simpa using h1))
  unfold pM;rw[nX kl];rfl
 unfold jQ;rw[LW.cU e1];have ka:cT dW (cL (oO (dG G f) 0) (cL (dC (.int 0)) cR)) [.memo [],.dat (.tup (L.map tupI)),cJ w,cJ (jY (L.map λl=>(l.length:Int))),.no,.no,.no]=some (.int G.b):=
  (dE rfl).trans ((show dW [dM G.many G.ls f G.b G.g,.int 0]=_ from Rh (.inl rfl)).trans rfl)
 have q1:qB (dz nI (dk 2) (dC (.int 0))) [.memo [],.dat (.tup (L.map tupI)),cJ w,cJ (jY (L.map λl=>(l.length:Int))),.no,.no,.no]=some (decide (w=0)):=iE ((iV rfl rfl).trans (pP w 0))
 have q2:qB (dz PX (dk 3) (cT dW (cL (oO (dG G f) 0) (cL (dC (.int 0)) cR)))) [.memo [],.dat (.tup (L.map tupI)),cJ w,cJ (jY (L.map λl=>(l.length:Int))),.no,.no,.no]=some (decide (jY (L.map λl=>(l.length:Int))<=G.b)):=iE ((iV (o:=PX) rfl ka).trans rfl)
 obtain⟨m1,m2⟩:=xm (L.map λl=>(l.length:Int)) (by simpa using h1)
 by_cases hq:w=0/\jY (L.map λl=>(l.length:Int))<=G.b
 ·obtain⟨rfl,hb⟩:=hq;have e3:kC (dG G f) rc [.memo [],.dat (.tup (L.map tupI)),cJ 0,cJ (jY (L.map λl=>(l.length:Int))),.no,.no,.no]=some (.ret (.int 0)):=by
   unfold kC;rw[xU (Fe (q1.trans (by simp)) (q2.trans (by rw[aS hb])))]
   rfl
  rw[nv e3];obtain⟨l,hl,e⟩:=List.mem_map.mp m1;have:(G.at L).fj [] [] 0=0:=quick (hG.at sl.lo) (mv _) (l:=l) hl (λp _ z=>by cases z) (by show l.length<=G.b.toNat;omega)
  rw[this]
 ·have e3:kC (dG G f) rc [.memo [],.dat (.tup (L.map tupI)),cJ w,cJ (jY (L.map λl=>(l.length:Int))),.no,.no,.no]=some (.next [.memo [],.dat (.tup (L.map tupI)),cJ w,cJ (jY (L.map λl=>(l.length:Int))),.no,.no,.no]):=by
   unfold kC;rw[oY (by
    by_cases h0:w=0
    ·exact Fe (q1.trans (by rw[aS h0])) (q2.trans (by rw[aH λz=>hq ⟨h0,z⟩]))
    ·exact Lq (q1.trans (by rw[aH h0])))]
   rfl
  rw[LW.cU e3];have kt:iT (j8 0 (dG G f) gN (cL (cP 1) (cL (cP 2) cR))) [.memo [],.dat (.tup (L.map tupI)),cJ w,cJ (jY (L.map λl=>(l.length:Int))),.no,.no,.no]=some ((gr G L w).map tupI):=by
   have:j8 0 (dG G f) gN (cL (cP 1) (cL (cP 2) cR)) [.memo [],.dat (.tup (L.map tupI)),cJ w,cJ (jY (L.map λl=>(l.length:Int))),.no,.no,.no]=some (.tup ((gr G L w).map tupI)):=NJ (f:=f) hG sl jZ hw
   unfold iT;rw[this]
  have wok:∀c∈gr G L w,(G.at (jo L w c)).fj [] [] (1-w)=0\/(G.at (jo L w c)).fj [] [] (1-w)=1:=λc hc=>by
   have co:=nD hG sl jZ hc;have sn:=hF.sl (Dm (w:=w) hF sl co.2.1 co.1);exact ot (hG.at sn.lo) (mv _) (by omega)
  obtain⟨y4,y5,e⟩:=LD (f:=f) sl hw (rc:=rc) (x3:=cJ (jY (L.map λl=>(l.length:Int)))) (x6:=.no) (λc=>(G.at (jo L w c)).fj [] [] (1-w)) (gr G L w) .no .no (λc hc=>(nD hG sl jZ hc).2.2.1) wok hr
  have e7:=(show pO (dG G f) rc [.memo [],.dat (.tup (L.map tupI)),cJ w,cJ (jY (L.map λl=>(l.length:Int))),.no,.no,.no]=fm 4 (fR (dG G f) rc) ((gr G L w).map tupI) [.memo [],.dat (.tup (L.map tupI)),cJ w,cJ (jY (L.map λl=>(l.length:Int))),.no,.no,.no] by
   unfold pO;exact rT kt rfl).trans e
  rw[NK hF sl h1 h2 hw];by_cases ha:((gr G L w).any λc=>(G.at (jo L w c)).fj [] [] (1-w)==w)=true
  ·rw[if_pos ha]at e7 ⊢;rw[nv e7]
  ·rw[if_neg ha]at e7 ⊢;rw[LW.cU e7];unfold uz;exact g8 ((dE rfl).trans (Br hw))
end
end PW
namespace PW
open PySem DL GP PC
open LW (dv dH dS)
open L2 (lu sY)
section
variable {G:Gm}{L:cp}{f w:Int}
theorem LF:(G.at []).fj [] [] w=1:=by
 have ho:(G.at []).over [] []=some 1:=rfl;unfold Gm.fj Gm.vT;rw[ho]
theorem Ic (h:[]∈L):(G.at L).fj [] [] w=0:=by
 have ho:(G.at L).over [] []=some 0:=sr.mpr ⟨[],h,λp hp=>by cases hp⟩
 unfold Gm.fj Gm.vT;rw[ho]
theorem Dp (hF:nC G) (sl:SL G L) (hw:w=0\/w=1) {rc:cj}
  (hr:L≠[]->[]∉L->rc [dG G f,.tup (L.map tupI),.int w]=some (.int ((G.at L).fj [] [] w))):
  jc (dG G f) rc [.memo [],.dat (.tup (L.map tupI)),cJ w]=some (.ret (.int ((G.at L).fj [] [] w))):=by
 have hG:=hF.ok;unfold jc;have q2:qB (dz nI (cT n8 (cL (dk 1) cR)) (dC (.int 0))) [.memo [],.dat (.tup (L.map tupI)),cJ w]=some (decide (((L.length:Nat):Int)=0)):=by
  have k:cT n8 (cL (dk 1) cR) [.memo [],.dat (.tup (L.map tupI)),cJ w]=some (.int ((L.length:Nat):Int)):=by
   show some (D.int ((L.map tupI).length:Int))=_;rw[ae]
  exact iE ((iV (o:=nI) (g:=dC (.int 0)) (y:=.int 0) k rfl).trans (pP _ 0))
 by_cases h1:L=[]
 ·subst h1;have e2:lA (dG G f) rc [.memo [],.dat (.tup (([]:cp).map tupI)),cJ w]=some (.ret (.int 1)):=rfl;rw[nv e2,LF]
 ·have e2:lA (dG G f) rc [.memo [],.dat (.tup (L.map tupI)),cJ w]=some (.next [.memo [],.dat (.tup (L.map tupI)),cJ w]):=by
   unfold lA;rw[oY (q2.trans (by
    rw[aH];intro z;apply h1
    exact List.eq_nil_of_length_eq_zero (by omega)))]
   rfl
  rw[LW.cU e2];have q4:qB (dz B0 (fi cR) (dk 1)) [.memo [],.dat (.tup (L.map tupI)),cJ w]=some (decide ([]∈L)):=iE ((iV (o:=B0) (x:=tupI []) (y:=.tup (L.map tupI)) rfl rfl).trans (Lu [] L));by_cases h2:[]∈L
  ·have e4:jx (dG G f) rc [.memo [],.dat (.tup (L.map tupI)),cJ w]=some (.ret (.int 0)):=by
    unfold jx;rw[xU (q4.trans (by rw[aS h2]))]
    rfl
   rw[nv e4,Ic h2]
  ·have e4:jx (dG G f) rc [.memo [],.dat (.tup (L.map tupI)),cJ w]=some (.next [.memo [],.dat (.tup (L.map tupI)),cJ w]):=by
    unfold jx;rw[oY (q4.trans (by rw[aH h2]))]
    rfl
   rw[LW.cU e4];have hM:U8 (dG G f)=Lg G hG:=E7 hG f;have k:∀ks,fi (cL (cP 1) (cL (cP 2) cR)) [.memo ks,.dat (.tup (L.map tupI)),cJ w]=some (vU L w):=λks=>rfl
   have hr':=hr h1 h2;have km:j8 0 (dG G f) rc (cL (cP 1) (cL (cP 2) cR)) [.memo [],.dat (.tup (L.map tupI)),cJ w]=some (.int ((G.at L).fj [] [] w)):=hr';have e5:oA (dG G f) rc [.memo [],.dat (.tup (L.map tupI)),cJ w]=some (.next [.memo [vU L w],.dat (.tup (L.map tupI)),cJ w]):=by
    unfold oA ju;rw[k,km,hM];exact if_pos (Lf sl.s hw)
   have ko:=GD L w;have e6:oB (dG G f) rc [.memo [],.dat (.tup (L.map tupI)),cJ w]=some (.next [.memo [vU L w],.dat (.tup (L.map tupI)),cJ w]):=by
    unfold oB lx;rw[k,e5];refine if_pos ⟨ko.1,ko.2,rfl,λi s hs=>?_⟩
    match i,hs with
    |0,hs=>exact .inr (.inl hs)
    |1,hs=>exact .inr (.inl hs)
    |2,hs=>exact .inr (.inl hs)
    |(i+3),hs=>cases hs
   rw[LW.cU e6];unfold sE;refine g8 ?_;unfold iN;rw[k,hM];exact(if_pos ⟨ko.1,ko.2,bw.mpr rfl⟩).trans (Lf sl.s hw)
theorem vH (hF:nC G):∀(n:Nat),(∀L w,Le G L->(w=0\/w=1)->L≠[]->[]∉L->2*(eO L).length+2<=n->nz n [dG G f,.tup (L.map tupI),.int w]=some (.int ((G.at L).fj [] [] w)))/\
  (∀L w,Le G L->(w=0\/w=1)->2*(eO L).length+3<=n->g7 n [dG G f,.tup (L.map tupI),.int w]=some (.int ((G.at L).fj [] [] w)))
 |0=>⟨λ_ _ _ _ _ _ h=>by omega,λ_ _ _ _ h=>by omega⟩
 |n+1=>by
  obtain⟨ih1,ih2⟩:=vH hF n;refine⟨λL w s hw h1 h2 hn=>?_,λL w s hw hn=>?_⟩
  ·have sl:=hF.sl s;have jZ:∃l∈L,l≠[]:=by
    cases L with
    |nil=>exact absurd rfl h1
    |cons l r=>exact⟨l,af,λz=>h2 (by rw[<-z];exact af)⟩
   unfold nz;refine o5 rfl ?_;show jQ (dG G f) (g7 n) [.memo [],.dat (.tup (L.map tupI)),cJ w,.no,.no,.no,.no]=_;refine Fh hF sl h1 h2 hw λc hc=>?_
   have co:=nD hF.ok sl jZ hc;have fw:=Ff (w:=w) sl co.2.1 co.2.2.2;exact ih2 _ _ (Dm hF sl co.2.1 co.1) (by omega) (by omega)
  ·have sl:=hF.sl s;unfold g7;refine o5 rfl ?_;show jc (dG G f) (nz n) [.memo [],.dat (.tup (L.map tupI)),cJ w]=_;exact Dp hF sl hw λh1 h2=>ih1 L w s hw h1 h2 (by omega)
theorem vI (hF:nC G) {m y:cq}(p:eK G.many m y) (hw:w=0\/w=1):iW [dG G f,tupI m,tupI y,.int w]=some (.int (G.fj m y w)):=by
 have hG:=hF.ok;have s:Le G (g0 G.ls m y):=⟨m,y,p,rfl⟩;have sl:=hF.sl s;have hu:=yj hG.m9 sl.lo.li;refine o5 rfl ?_;show kD (dG G f) [.memo [],cK m,cK y,cJ w]=_;have ko:cT fB (cL (dz jL (dz jL (oO (dG G f) 0) (dC (.int 0))) (dC (.int 1))) (cL (cP 1) (cL (cP 2) cR))) [.memo [],cK m,cK y,cJ w]=some (.tup ((g0 G.ls m y).map tupI)):=(dE rfl).trans (Lw (.inl rfl) hF.IF hG.ll);unfold kD sF;refine g8 ?_;show(cL _ _ _).bind _=_;rw[p9 ko rfl];show g7 24 [dG G f,.tup ((g0 G.ls m y).map tupI),.int w]=_;rw[(vH (f:=f) hF 24).2 _ w s hw (by omega),<-xO hG hF.lo hF.rise p hw]
 rfl
theorem sH (hF:nC G) {m y:cq}(p:eK G.many m y) (hw:w=0\/w=1):fC [dG G f,tupI m,tupI y,.int w]=some (.int (G.fj m y w)):=by
 refine LW.eJ rfl ?_;show kE [.dat (dG G f),cK m,cK y,cJ w]=_;unfold kE qb;exact g8 (vI hF p hw)
theorem Ie (hF:nC G) (hf:f=0\/f=1):lM [dG G f]=some (.int (G.fj [] [] f)):=by
 refine LW.eJ rfl ?_;show rS [.dat (dG G f)]=_;unfold rS xY;exact g8 ((dE (F:=fC) (ds:=[dG G f,tupI [],tupI [],.int f]) rfl).trans (sH hF (mv _) hf))
theorem Ig (hF:nC G) {m y c:cq}(p:eK G.many m y) (hw:w=0\/w=1) (hc:c∈G.eA m y w):rR [dG G f,tupI m,tupI y,.int w,tupI c]=some (.bl (decide (G.fj (dh m y w c).1 (dh m y w c).2 (1-w)=w))):=by
 have hG:=hF.ok;have h1:=jv p.rm p.im;have h2:=jv p.ry p.iy;have h3:=oU p hc;have h4:=um hG m y;have:=hG.m9;refine o5 rfl ?_;show nA (dG G f) [.memo [],cK m,cK y,cJ w,cK c,.no]=_;have e1:qW (dG G f) [.memo [],cK m,cK y,cJ w,cK c,.no]=some (.next [.memo [],cK m,cK y,cJ w,cK c,.dat (.tup [tupI (dh m y w c).1,tupI (dh m y w c).2])]):=by
  unfold qW;rw[nX ((dE rfl).trans (Dd (by omega) (by omega)))]
  rfl
 unfold nA;rw[LW.cU e1];unfold vG;refine g8 ?_;have kh:cT eV (cL (cP 3) cR) [.memo [],cK m,cK y,cJ w,cK c,.dat (.tup [tupI (dh m y w c).1,tupI (dh m y w c).2])]=some (.int (1-w)):=(dE rfl).trans (Br hw);have km:j8 0 (dG G f) iW (cL (dz jL (dk 5) (dC (.int 0))) (cL (dz jL (dk 5) (dC (.int 1))) (cL (cT eV (cL (cP 3) cR)) cR))) [.memo [],cK m,cK y,cJ w,cK c,.dat (.tup [tupI (dh m y w c).1,tupI (dh m y w c).2])]=some (.int (G.fj (dh m y w c).1 (dh m y w c).2 (1-w))):=by
  show(cL _ _ _).bind _=_;rw[p9 (x:=tupI (dh m y w c).1) rfl (p9 (x:=tupI (dh m y w c).2) rfl (sA kh))];exact vI hF (iR p hc) (by omega)
 exact(iV (o:=nI) (g:=dk 3) (y:=.int w) km rfl).trans (pP _ w)
noncomputable def n4 (G:Gm) (m y:cq) (w:Int):cp:=match G.over m y with
 |some _=>[]
 |none=>(G.eA m y w).filter λc=>decide (G.fj (dh m y w c).1 (dh m y w c).2 (1-w)=w)
theorem yk (hG:G.Ok) (m y:cq) (hw:w=0\/w=1):(G.eA m y w).length<1000000:=by
 have b1:=hG.b1;have g1:=hG.g1;have h4:=um hG m y;have hk:0<=(if w=0 then G.b else G.g):=by split<;>omega
 unfold Gm.eA;rw[xN hk];have h1:=CN (c:=(if w=0 then G.b else G.g).toNat) (ps:=ft G.many m y)
 have h2:2^(ft G.many m y).length<=2^9:=Nat.pow_le_pow_right (by decide) h4
 have:(2:Nat)^9=512:=by decide
 omega
theorem Rj (hF:nC G) {m y:cq}(p:eK G.many m y) (hw:w=0\/w=1):ij [dG G f,tupI m,tupI y,.int w]=some (.tup ((n4 G m y w).map tupI)):=by
 have hG:=hF.ok;have h1:=jv p.rm p.im;have h2:=jv p.ry p.iy;have m9:=hG.m9;have m0:=hG.m0;have b1:=hG.b1;have b3:=hG.b3;have g1:=hG.g1;have g3:=hG.g3;have IF:=hF.IF;refine LW.eJ rfl ?_;show kF [.dat (dG G f),cK m,cK y,cJ w,.no,.no]=_;have kd:cT mG (cL (cP 0) (cL (cP 1) (cL (cP 2) cR))) [.dat (dG G f),cK m,cK y,cJ w,.no,.no]=some (E4 (G.over m y)):=(dE rfl).trans (HZ (by omega) hG.ll)
 unfold kF n4;cases ho:G.over m y with
 |some i=>
  have e2:hX [.dat (dG G f),cK m,cK y,cJ w,.no,.no]=some (.ret (.tup [])):=by
   unfold hX;rw[xU (iE ((iV (o:=Hq) (g:=dC .eD) (y:=.eD) kd rfl).trans (by rw[ho];rfl)))]
   rfl
  rw[nv e2];rfl
 |none=>
  have e2:hX [.dat (dG G f),cK m,cK y,cJ w,.no,.no]=some (.next [.dat (dG G f),cK m,cK y,cJ w,.no,.no]):=by
   unfold hX;rw[oY (iE ((iV (o:=Hq) (g:=dC .eD) (y:=.eD) kd rfl).trans (by rw[ho];rfl)))]
   rfl
  rw[LW.cU e2];have kc:cT nr (cL (cP 0) (cL (cP 1) (cL (cP 2) (cL (cP 3) cR)))) [.dat (dG G f),cK m,cK y,cJ w,.memo [],.no]=some (.tup ((G.eA m y w).map tupI)):=(dE rfl).trans (Ia m0 (by omega) ⟨by omega,b3⟩ ⟨by omega,g3⟩ hw (by omega))
  have it:iT (cT nr (cL (cP 0) (cL (cP 1) (cL (cP 2) (cL (cP 3) cR))))) [.dat (dG G f),cK m,cK y,cJ w,.memo [],.no]=some ((G.eA m y w).map tupI):=by
   unfold iT;rw[kc]
  have e3:gO (dG G f) [.dat (dG G f),cK m,cK y,cJ w,.memo [],.no]=some (.ret (.tup (((G.eA m y w).filter λc=>decide (G.fj (dh m y w c).1 (dh m y w c).2 (1-w)=w)).map tupI))):=by
   unfold gO qc;refine g8 ((nu (ds:=((G.eA m y w).filter λc=>decide (G.fj (dh m y w c).1 (dh m y w c).2 (1-w)=w)).map tupI) ?_).trans rfl)
   exact my it (by rw[ae];exact yk hG m y hw) (nB _ (λc hc=>iE (Ig (f:=f) hF p hw hc)) λc _ _=>rfl)
  show(if noOwn [.dat (dG G f),cK m,cK y,cJ w,.no,.no]=true/\4<6 then(some (dG G f)).bind λGd=>(gO Gd [.dat (dG G f),cK m,cK y,cJ w,.memo [],.no]).bind (rZ 4)else none)=_
  rw[if_pos ⟨rfl,by decide⟩]
  simp only[ao];rw[e3];rfl
end
end PW
namespace K4
open PySem DL GP PC PW
open LW (dv dH dS)
open L2 (lu sY)
theorem Ih {i:Nat}{Mf:cw->dq}{g:cj}{M:dq}{f:cb}{δ:dR}{ks ds:cw}(hm:δ[i]? =some (.memo ks)) (hf:f δ=some ds) (hM:Mf ds=M):jJ i Mf g M f δ=g ds:=by
 unfold jJ;rw[hm];simp only[hf,ao,if_pos hM]
theorem lB {o:D->D->Option D}{f g:cf}{δ:dR}{x y:D}{r:Option D}(hf:f δ=some x) (hg:g δ=some y) (h:o x y=r):dz o f g δ=r:=(iV hf hg).trans h
noncomputable abbrev T (S C:Sl) (g:D) (ks:cw) (sp:Sl) (m y:cq) (w:Int) (x8 x9 iZ x11 x12 x13:Sl):dR:=[S,C,.dat g,.memo ks,sp,cK m,cK y,cJ w,x8,x9,iZ,x11,x12,x13]
def pl (s:Sl):Prop:=(∃d,s=.dat d)\/s=.no
def po (s:Sl):Prop:=pl s\/∃ds,s=.own ds
theorem i0 (d:D):pl (.dat d):=.inl ⟨d,rfl⟩
section
variable {S C sp:Sl}{G:Gm}{f:Int}{ks:cw}{m y:cq}{w:Int}
theorem LG {g:cb}{δ:dR}{m y:cq}{w:Int}(hF:nC G) (hm:δ[3]? =some (.memo ks)) (p:eK G.many m y) (hw:w=0\/w=1) (hg:g δ=some [dG G f,tupI m,tupI y,.int w]):
  jJ 3 BH (eC 10) (eh G hF.ok) g δ=some (.int (G.fj m y w)):=
 (Ih hm hg (nR hF.ok f)).trans (Dl hF.ok 10 m y w p hw (by have:=um hF.ok m y;omega))
noncomputable abbrev o6 (G:Gm) (m y:cq) (w:Int) (c:cq):Bool:=decide (G.fj (dh m y w c).1 (dh m y w c).2 (1-w)=w)
theorem NL (hF:nC G) (p:eK G.many m y) (hw:w=0\/w=1) {c:cq}(hc:c∈G.eA m y w) {acc:cp}(ha:acc.length<1000000) {x8 x11 x12 x13:Sl}:
  qX (eh G hF.ok) (T S C (dG G f) ks sp m y w x8 (.own (acc.map tupI)) (cK c) x11 x12 x13)=
   some (.next (T S C (dG G f) ks sp m y w x8 (.own ((acc++(if o6 G m y w c then[c]else[])).map tupI)) (cK c) (cK (dh m y w c).1) (cK (dh m y w c).2) x13)):=by
 have e9:Bp (eh G hF.ok) (T S C (dG G f) ks sp m y w x8 (.own (acc.map tupI)) (cK c) x11 x12 x13)=
   some (.next (T S C (dG G f) ks sp m y w x8 (.own (acc.map tupI)) (cK c) (cK (dh m y w c).1) (cK (dh m y w c).2) x13)):=by
  unfold Bp;exact NH ((dE rfl).trans (Lz hF.ok p hc)) rfl
 have ew:jJ 3 BH (eC 10) (eh G hF.ok) (cL (cP 2) (cL (cP 11) (cL (cP 12) (cL (dz oK (dC (.int 1)) (dk 7)) cR)))) (T S C (dG G f) ks sp m y w x8 (.own (acc.map tupI)) (cK c) (cK (dh m y w c).1) (cK (dh m y w c).2) x13)=some (.int (G.fj (dh m y w c).1 (dh m y w c).2 (1-w))):=
  LG hF rfl (iR p hc) (by omega) rfl
 unfold qX;rw[LW.cU e9];unfold Df;have q:qB (dz nI (jJ 3 BH (eC 10) (eh G hF.ok) (cL (cP 2) (cL (cP 11) (cL (cP 12) (cL (dz oK (dC (.int 1)) (dk 7)) cR))))) (dk 7)) (T S C (dG G f) ks sp m y w x8 (.own (acc.map tupI)) (cK c) (cK (dh m y w c).1) (cK (dh m y w c).2) x13)=some (o6 G m y w c):=iE (lB ew (y:=.int w) rfl (pP _ w));cases hb:o6 G m y w c with
 |true=>
  rw[xU (q.trans (by rw[hb]))]
  show(if(acc.map tupI).length<1000000 then _ else _)=_
  rw[ae,if_pos ha];simp only[if_true,List.map_append];rfl
 |false=>
  rw[oY (q.trans (by rw[hb]))]
  simp only[aJ,bF,bD];rfl
theorem Dq (hF:nC G) (p:eK G.many m y) (hw:w=0\/w=1) {x8 x13:Sl}:∀(cs acc:cp) (iZ x11 x12:Sl),(∀c∈cs,c∈G.eA m y w)->acc.length+cs.length<1000000->pl iZ->pl x11->pl x12->∃y10 y11 y12,pl y10/\pl y11/\pl y12/\
  fm 10 (qX (eh G hF.ok)) (cs.map tupI) (T S C (dG G f) ks sp m y w x8 (.own (acc.map tupI)) iZ x11 x12 x13)=
   some (.next (T S C (dG G f) ks sp m y w x8 (.own ((acc++cs.filter (o6 G m y w)).map tupI)) y10 y11 y12 x13))
 |[],acc,iZ,x11,x12,_,_,h0,h1,h2=>⟨iZ,x11,x12,h0,h1,h2,by rw[List.filter_nil,bD];rfl⟩
 |c::cs,acc,iZ,x11,x12,hc,hl,h0,h1,h2=>by
  have jk:acc.length+(cs.length+1)<1000000:=hl;have e:=NL (S:=S) (C:=C) (sp:=sp) (f:=f) (ks:=ks) hF p hw (hc c af) (acc:=acc) (by omega) (x8:=x8) (x11:=x11) (x12:=x12) (x13:=x13)
  obtain⟨a,b,d,k0,k1,k2,ih⟩:=Dq hF p hw (x8:=x8) (x13:=x13) cs (acc++(if o6 G m y w c then[c]else[])) (cK c) (cK (dh m y w c).1) (cK (dh m y w c).2) (λc' h'=>hc c' (ai _ h')) (by split<;>simp<;>omega) (i0 _) (i0 _) (i0 _)
  refine⟨a,b,d,k0,k1,k2,?_⟩;rw[aF,mH (j:=10) (δ:=T S C (dG G f) ks sp m y w x8 (.own (acc.map tupI)) iZ x11 x12 x13) e,ih];have:(acc++(if o6 G m y w c then[c]else[]))++cs.filter (o6 G m y w)=acc++(c::cs).filter (o6 G m y w):=by
   rw[List.append_assoc,bu];cases o6 G m y w c<;>simp
  rw[this]
theorem any_filter {α:Type}(l:List α) (p:α->Bool):(l.filter p).isEmpty= !l.any p:=by
 induction l with
 |nil=>rfl
 |cons a r ih=>
  rw[bu,bH];cases h:p a<;>simp[ih]
theorem NM (L:cp):BG (.lst (L.map tupI)) (.lst [])=some (.bl (!L.isEmpty)):=by
 have:=LW.mF L;unfold BG;rw[if_pos (by simp only[dY];omega)]
 cases L<;>simp[dU,lD]
theorem Rk (hF:nC G) (p:eK G.many m y) (hw:w=0\/w=1) {x8 x9 iZ x11 x12 x13:Sl}(OH:pl iZ) (OI:pl x11) (OJ:pl x12):∃y8 y9 y10 y11 y12 y13,pl y8/\po y9/\pl y10/\pl y11/\pl y12/\pl y13/\
  qY (eh G hF.ok) (T S C (dG G f) ks sp m y w x8 x9 iZ x11 x12 x13)=some (.next (T S C (dG G f) ks sp m y w y8 y9 y10 y11 y12 y13)):=by
 have hG:=hF.ok;have e5:Bn (eh G hF.ok) (T S C (dG G f) ks sp m y w x8 x9 iZ x11 x12 x13)=some (.next (T S C (dG G f) ks sp m y w (cJ (G.fj m y w)) x9 iZ x11 x12 x13)):=by
  unfold Bn;exact nX (LG hF rfl p hw rfl)
 have e7:Bo (eh G hF.ok) (T S C (dG G f) ks sp m y w (cJ (G.fj m y w)) x9 iZ x11 x12 x13)=some (.next (T S C (dG G f) ks sp m y w (cJ (G.fj m y w)) x9 iZ x11 x12 x13)):=by
  unfold Bo;rw[oY (iE (lB ((dE (F:=fC) (ds:=[dG G f,tupI m,tupI y,.int w]) rfl).trans (sH hF p hw)) (y:=.int (G.fj m y w)) rfl (uC (by simp[dY]))))]
  rfl
 have e8:GJ (eh G hF.ok) (T S C (dG G f) ks sp m y w (cJ (G.fj m y w)) x9 iZ x11 x12 x13)=some (.next (T S C (dG G f) ks sp m y w (cJ (G.fj m y w)) (.own (([]:cp).map tupI)) iZ x11 x12 x13)):=rfl;obtain⟨a,b,d,k0,k1,k2,ec⟩:=Dq (S:=S) (C:=C) (sp:=sp) (f:=f) (ks:=ks) hF p hw (x8:=cJ (G.fj m y w)) (x13:=x13) (G.eA m y w) [] iZ x11 x12 (λ_ h=>h) (by have:=yk hG m y hw;simpa using this) OH OI OJ
 rw[List.nil_append]at ec;have e12:ya (eh G hF.ok) (T S C (dG G f) ks sp m y w (cJ (G.fj m y w)) (.own (([]:cp).map tupI)) iZ x11 x12 x13)=some (.next (T S C (dG G f) ks sp m y w (cJ (G.fj m y w)) (.own (((G.eA m y w).filter (o6 G m y w)).map tupI)) a b d x13)):=by
  unfold ya;refine rT ?_ ec;unfold iL;rw[(dE (F:=eU) (ds:=[dG G f,tupI m,tupI y,.int w]) rfl).trans (Ak hG p hw)]
 have e13:yb (eh G hF.ok) (T S C (dG G f) ks sp m y w (cJ (G.fj m y w)) (.own (((G.eA m y w).filter (o6 G m y w)).map tupI)) a b d x13)=some (.next (T S C (dG G f) ks sp m y w (cJ (G.fj m y w)) (.own (((G.eA m y w).filter (o6 G m y w)).map tupI)) a b d (.dat (.bl (G.over m y).isSome)))):=by
  unfold yb;refine nX (lB ((dE (F:=fE) (ds:=[dG G f,tupI m,tupI y]) rfl).trans (GN hG)) (y:=.eD) rfl ?_);cases G.over m y<;>rfl
 have e15:yc (eh G hF.ok) (T S C (dG G f) ks sp m y w (cJ (G.fj m y w)) (.own (((G.eA m y w).filter (o6 G m y w)).map tupI)) a b d (.dat (.bl (G.over m y).isSome)))=some (.next (T S C (dG G f) ks sp m y w (cJ (G.fj m y w)) (.own ((n4 G m y w).map tupI)) a b d (.dat (.bl (G.over m y).isSome)))):=by
  unfold yc n4;cases ho:G.over m y with
  |some i=>
   rw[xU rfl];rfl
  |none=>
   rw[oY rfl];rfl
 have e17:yd (eh G hF.ok) (T S C (dG G f) ks sp m y w (cJ (G.fj m y w)) (.own ((n4 G m y w).map tupI)) a b d (.dat (.bl (G.over m y).isSome)))=some (.next (T S C (dG G f) ks sp m y w (cJ (G.fj m y w)) (.own ((n4 G m y w).map tupI)) a b d (.dat (.bl (G.over m y).isSome)))):=by
  unfold yd;have:=LW.mF (n4 G m y w);rw[oY (iE (lB ((dE (F:=ij) (ds:=[dG G f,tupI m,tupI y,.int w]) rfl).trans (Rj hF p hw)) (y:=.tup ((n4 G m y w).map tupI)) rfl (uC (by simp only[dY];omega))))]
  rfl
 have e19:ye (eh G hF.ok) (T S C (dG G f) ks sp m y w (cJ (G.fj m y w)) (.own ((n4 G m y w).map tupI)) a b d (.dat (.bl (G.over m y).isSome)))=some (.next (T S C (dG G f) ks sp m y w (cJ (G.fj m y w)) (.own ((n4 G m y w).map tupI)) a b d (.dat (.bl (G.over m y).isSome)))):=by
  unfold ye;refine(oY ?_).trans rfl;cases ho:G.over m y with
  |some i=>exact Lq rfl
  |none=>
   refine Fe rfl (iE ?_);have k1:decide (G.fj m y w=w)= !(n4 G m y w).isEmpty:=by
    unfold n4;rw[va hG p,ho];simp only;rw[any_filter,Bool.not_not];have:(G.eA m y w).any (λc=>G.fj (dh m y w c).1 (dh m y w c).2 (1-w)==w)=(G.eA m y w).any (λc=>decide (G.fj (dh m y w c).1 (dh m y w c).2 (1-w)=w)):=any_congr λc _=>by
     by_cases h:G.fj (dh m y w c).1 (dh m y w c).2 (1-w)=w<;>simp[h]
    rw[this];cases (G.eA m y w).any (λc=>decide (G.fj (dh m y w c).1 (dh m y w c).2 (1-w)=w))<;>simp<;>omega
   refine lB (lB (x:=.int (G.fj m y w)) (y:=.int w) rfl rfl (pP _ w)) (lB (x:=.lst ((n4 G m y w).map tupI)) (y:=.lst []) rfl rfl (NM _)) ?_;rw[k1];exact uC (by simp[dY])
 refine⟨cJ (G.fj m y w),.own ((n4 G m y w).map tupI),a,b,d,.dat (.bl (G.over m y).isSome),i0 _,.inr ⟨_,rfl⟩,k0,k1,k2,i0 _,?_⟩;unfold qY;rw[LW.cU e5,LW.cU e7,LW.cU e8,LW.cU e12,LW.cU e13,LW.cU e15,LW.cU e17,e19]
end
end K4
namespace K4
open PySem DL GP PC PW
open LW (dv dH dS)
open L2 (lu sY)
theorem Rl {many:Int}{cell:Int}(h:0<=many):eK many (nc cell 0 (du 0 many.toNat)) (nc cell 1 (du 0 many.toNat)):=by
 have inr:∀k,∀p∈nc cell k (du 0 many.toNat),0<=p/\p<many:=λk p hp=>by
  have:=(LW.kP _ _ _).mp (List.mem_filter.mp hp).1;omega
 refine⟨List.Pairwise.filter _ (iQ _ _),List.Pairwise.filter _ (iQ _ _),inr 0,inr 1,λp h0 h1=>?_⟩
 have a:=bM (List.mem_filter.mp h0).2;have b:=bM (List.mem_filter.mp h1).2;rw[a]at b;cases b
theorem Ii {is:List Nat}{f:cc}{es ds:cw}{δ δ':dR}(hl:es.length=is.length) (h:f (pj is es δ)=some (.next δ')):vQ is f (.tup es::ds) δ=vQ is f ds δ':=by
 simp only[vQ,hl,if_true,h]
theorem LH {is:List Nat}{i:cb}{f:cc}{δ:dR}{ds:cw}{r:Option R}(h:i δ=some ds) (h2:vQ is f ds δ=r):zQ is i f δ=r:=by
 unfold zQ;rw[h];exact h2
noncomputable abbrev T5 (S C:Sl) (g:D) (ks:cw) (sp x5 x6 x7 x8 x9 iZ x11 x12 x13:Sl):dR:=[S,C,.dat g,.memo ks,sp,x5,x6,x7,x8,x9,iZ,x11,x12,x13]
structure Rm (x7 x8 x9 iZ x11 x12 x13:Sl):Prop where
 h7:pl x7
 h8:pl x8
 h9:po x9
 OH:pl iZ
 OI:pl x11
 OJ:pl x12
 Ui:pl x13
section
variable {S C sp:Sl}{G:Gm}{f:Int}{ks:cw}
theorem GO (hF:nC G) {m y:cq}(p:eK G.many m y):∀(ws:cq) (x7 x8 x9 iZ x11 x12 x13:Sl),(∀w∈ws,w=0\/w=1)->Rm x7 x8 x9 iZ x11 x12 x13->∃y7 y8 y9 y10 y11 y12 y13,Rm y7 y8 y9 y10 y11 y12 y13/\
  fm 7 (qY (eh G hF.ok)) (ws.map D.int) (T5 S C (dG G f) ks sp (cK m) (cK y) x7 x8 x9 iZ x11 x12 x13)=some (.next (T5 S C (dG G f) ks sp (cK m) (cK y) y7 y8 y9 y10 y11 y12 y13))
 |[],x7,x8,x9,iZ,x11,x12,x13,_,h=>⟨x7,x8,x9,iZ,x11,x12,x13,h,rfl⟩
 |w::ws,x7,x8,x9,iZ,x11,x12,x13,hw,h=>by
  obtain⟨a8,a9,a10,a11,a12,a13,h8,h9,OH,OI,OJ,Ui,e⟩:=Rk (S:=S) (C:=C) (sp:=sp) (f:=f) (ks:=ks) hF p (hw w af) (x8:=x8) (x9:=x9) (x13:=x13) h.OH h.OI h.OJ;obtain⟨b7,b8,b9,Uj,Uk,Ul,Um,hb,ih⟩:=GO hF p ws (cJ w) a8 a9 a10 a11 a12 a13 (λv hv=>hw v (ai _ hv)) ⟨i0 _,h8,h9,OH,OI,OJ,Ui⟩
  refine⟨b7,b8,b9,Uj,Uk,Ul,Um,hb,?_⟩;rw[aF,mH (j:=7) (δ:=T5 S C (dG G f) ks sp (cK m) (cK y) x7 x8 x9 iZ x11 x12 x13) e,ih]
noncomputable def ym (s:cq×cq):D:=.tup [tupI s.1,tupI s.2]
theorem GQ (hF:nC G):∀(ss:List (cq×cq)) (x5 x6 x7 x8 x9 iZ x11 x12 x13:Sl),(∀s∈ss,eK G.many s.1 s.2)->pl x5->pl x6->Rm x7 x8 x9 iZ x11 x12 x13->∃y5 y6 y7 y8 y9 y10 y11 y12 y13,pl y5/\pl y6/\Rm y7 y8 y9 y10 y11 y12 y13/\
  vQ [5,6] (qZ (eh G hF.ok)) (ss.map ym) (T5 S C (dG G f) ks sp x5 x6 x7 x8 x9 iZ x11 x12 x13)=some (.next (T5 S C (dG G f) ks sp y5 y6 y7 y8 y9 y10 y11 y12 y13))
 |[],x5,x6,x7,x8,x9,iZ,x11,x12,x13,_,h5,h6,h=>⟨x5,x6,x7,x8,x9,iZ,x11,x12,x13,h5,h6,h,rfl⟩
 |s::ss,x5,x6,x7,x8,x9,iZ,x11,x12,x13,hs,h5,h6,h=>by
  obtain⟨a7,a8,a9,a10,a11,a12,a13,ha,e⟩:=GO (S:=S) (C:=C) (sp:=sp) (f:=f) (ks:=ks) hF (hs s af) [0,1] x7 x8 x9 iZ x11 x12 x13 (by intro w hw;simpa using hw) h
  obtain⟨b5,b6,b7,b8,b9,Uj,Uk,Ul,Um,k5,k6,hb,ih⟩:=GQ hF ss (cK s.1) (cK s.2) a7 a8 a9 a10 a11 a12 a13 (λv hv=>hs v (ai _ hv)) (i0 _) (i0 _) ha
  refine⟨b5,b6,b7,b8,b9,Uj,Uk,Ul,Um,k5,k6,hb,?_⟩;have e':qZ (eh G hF.ok) (pj [5,6] [tupI s.1,tupI s.2] (T5 S C (dG G f) ks sp x5 x6 x7 x8 x9 iZ x11 x12 x13))=some (.next (T5 S C (dG G f) ks sp (cK s.1) (cK s.2) a7 a8 a9 a10 a11 a12 a13)):=by
   unfold qZ Dg;exact rT rfl e
  rw[aF];exact(Ii rfl e').trans ih
theorem Ij (i:Int):kG [.int i]=some (.bl true):=rfl
theorem Rn (hF:nC G) (hf:f=0\/f=1) {c:Int}(hm:0<=G.many/\G.many<1000000) {x4 x5 x6 x7 x8 x9 iZ x11 x12 x13:Sl}(h5:pl x5) (h6:pl x6) (h:Rm x7 x8 x9 iZ x11 x12 x13):∃y4 y5 y6 y7 y8 y9 y10 y11 y12 y13,pl y4/\pl y5/\pl y6/\Rm y7 y8 y9 y10 y11 y12 y13/\
  uA (eh G hF.ok) (T5 S (cJ c) (dG G f) [] x4 x5 x6 x7 x8 x9 iZ x11 x12 x13)=some (.next (T5 S (cJ c) (dG G f) [] y4 y5 y6 y7 y8 y9 y10 y11 y12 y13)):=by
 have hG:=hF.ok;have ew:cT lM (cL (cP 2) cR) (T5 S (cJ c) (dG G f) [] x4 x5 x6 x7 x8 x9 iZ x11 x12 x13)=some (.int (G.fj [] [] f)):=(dE (F:=lM) (ds:=[dG G f]) rfl).trans (Ie hF hf);have el:jJ 3 BH (eC 10) (eh G hF.ok) (cL (cP 2) (cL (fi cR) (cL (fi cR) (cL (dz jL (dk 2) (dC (.int 1))) cR)))) (T5 S (cJ c) (dG G f) [] x4 x5 x6 x7 x8 x9 iZ x11 x12 x13)=some (.int (G.fj [] [] f)):=LG hF rfl (mv _) hf rfl;have e3:Bl (eh G hF.ok) (T5 S (cJ c) (dG G f) [] x4 x5 x6 x7 x8 x9 iZ x11 x12 x13)=some (.next (T5 S (cJ c) (dG G f) [] x4 x5 x6 x7 x8 x9 iZ x11 x12 x13)):=by
  unfold Bl;refine(oY (Uh (Bh (b:=true) (iE ((dE (sA ew)).trans (Ij _)))) (iE (lB ew el (uC (by simp[dY])))))).trans rfl
 have e4:Bm (eh G hF.ok) (T5 S (cJ c) (dG G f) [] x4 x5 x6 x7 x8 x9 iZ x11 x12 x13)=some (.next (T5 S (cJ c) (dG G f) [] (.own ([([],[]),(nc (c/7) 0 (du 0 G.many.toNat),nc (c/7) 1 (du 0 G.many.toNat))].map ym)) x5 x6 x7 x8 x9 iZ x11 x12 x13)):=by
  have ep:cT gu (cL (cP 2) (cL (dz AJ (dk 1) (dC (.int 7))) cR)) (T5 S (cJ c) (dG G f) [] x4 x5 x6 x7 x8 x9 iZ x11 x12 x13)=some (ym (nc (c/7) 0 (du 0 G.many.toNat),nc (c/7) 1 (du 0 G.many.toNat))):=by
   have ed:dz AJ (dk 1) (dC (.int 7)) (T5 S (cJ c) (dG G f) [] x4 x5 x6 x7 x8 x9 iZ x11 x12 x13)=some (.int (c/7)):=by
    simp[dz,dk,dC,AJ,DH,MA]
   exact(dE (p9 rfl (sA ed))).trans (Fd hm.2 hm.1)
  unfold Bm;exact uB ((show ∀{δ:dR}{g:cb}{r:cw},g δ=some r->r.length<=1000->rY g δ=some r from λh hl=>by unfold rY;rw[h];simp[hl]) (p9 (x:=ym ([],[])) rfl (sA ep)) (by simp))
 obtain⟨y5,y6,y7,y8,y9,y10,y11,y12,y13,k5,k6,hk,es⟩:=GQ (S:=S) (C:=cJ c) (sp:=.dat (.lst ([([],[]),(nc (c/7) 0 (du 0 G.many.toNat),nc (c/7) 1 (du 0 G.many.toNat))].map ym))) (f:=f) (ks:=[]) hF [([],[]),(nc (c/7) 0 (du 0 G.many.toNat),nc (c/7) 1 (du 0 G.many.toNat))] x5 x6 x7 x8 x9 iZ x11 x12 x13 (by
  intro s hs;simp only[List.mem_cons,bK,or_false]at hs;rcases hs with rfl|rfl
  ·exact mv _
  ·exact Rl hm.1) h5 h6 h
 refine⟨.dat (.lst ([([],[]),(nc (c/7) 0 (du 0 G.many.toNat),nc (c/7) 1 (du 0 G.many.toNat))].map ym)),y5,y6,y7,y8,y9,y10,y11,y12,y13,i0 _,k5,k6,hk,?_⟩;unfold uA;rw[LW.cU e3,LW.cU e4];show yf (eh G hF.ok) (T5 S (cJ c) (dG G f) [] (.dat (.lst ([([],[]),(nc (c/7) 0 (du 0 G.many.toNat),nc (c/7) 1 (du 0 G.many.toNat))].map ym))) x5 x6 x7 x8 x9 iZ x11 x12 x13)=_;unfold yf;exact LH rfl es
end
theorem Uo {δ:dR}(h:∀s∈δ,po s):mU δ=true:=List.all_eq_true.mpr λs hs=>by
 rcases h s hs with(⟨d,rfl⟩|rfl)|⟨ds,rfl⟩<;>rfl
theorem Up {δ:dR}(h:∀s∈δ,pl s):noOwn δ=true:=List.all_eq_true.mpr λs hs=>by
 rcases h s hs with⟨d,rfl⟩|rfl<;>rfl
theorem NN {x:Sl}(h:po x):∃x',pl x'/\∀{x0 x1 x2 x3 x4 x5 x6 x7 x8 iZ x11 x12 x13:Sl},uQ 9 [x0,x1,x2,x3,x4,x5,x6,x7,x8,x,iZ,x11,x12,x13]=[x0,x1,x2,x3,x4,x5,x6,x7,x8,x',iZ,x11,x12,x13]:=by
 rcases h with(⟨d,rfl⟩|rfl)|⟨ds,rfl⟩
 ·exact⟨_,i0 d,rfl⟩
 ·exact⟨_,.inr rfl,rfl⟩
 ·exact⟨_,i0 (.lst ds),rfl⟩
structure St (x2 x4 x5 x6 x7 x8 x9 iZ x11 x12 x13:Sl):Prop where
 h2:pl x2
 h4:pl x4
 h5:pl x5
 h6:pl x6
 r:Rm x7 x8 x9 iZ x11 x12 x13
theorem LI (c:Int) (S:Sl) (hS:pl S) (x2 x4 x5 x6 x7 x8 x9 iZ x11 x12 x13:Sl) (h:St x2 x4 x5 x6 x7 x8 x9 iZ x11 x12 x13):∃y2 y4 y5 y6 y7 y8 y9 y10 y11 y12 y13,St y2 y4 y5 y6 y7 y8 y9 y10 y11 y12 y13/\
  o4 [S,cJ c,x2,.no,x4,x5,x6,x7,x8,x9,iZ,x11,x12,x13]=some (.next [S,cJ c,y2,.no,y4,y5,y6,y7,y8,y9,y10,y11,y12,y13]):=by
 have hz:(5:Int)+(if decide (c%4=0)then 1 else 0)<=6/\5<=(5:Int)+(if decide (c%4=0)then 1 else 0):=by split<;>omega
 obtain⟨many,ls,f,b,g,e,_,ok⟩:=LW.Q9 (c:=c) (least:=1) (most:=5+(if decide (c%4=0)then 1 else 0)) (lines:=6) (by omega) (by omega) (by omega) (by omega) (by omega)
 have h1:=ok.field.lo;have h6:=ok.field.hi;have hn:=ok.field.num;have b1:=ok.b1;have b2:=ok.b2;have g1:=ok.g1;have g2:=ok.g2;have f0:=ok.f0;have f1:=ok.f1;have hF:nC ⟨many,ls,b,g⟩:=⟨⟨by show 0<=many;omega,by show many<=9;omega,λl hl=>(ok.field.line l hl).inn,λl hl=>by have:=(ok.field.line l hl).four;omega,b1,by show b<=4;omega,g1,by show g<=4;omega⟩,by show ls.length<=18;omega,λl hl=>(ok.field.line l hl).rise⟩
 obtain⟨x9',YY,eg⟩:=NN h.r.h9;have e1:Bk [S,cJ c,x2,.no,x4,x5,x6,x7,x8,x9,iZ,x11,x12,x13]=some (.next [S,cJ c,.dat (dG ⟨many,ls,b,g⟩ f),.no,x4,x5,x6,x7,x8,x9,iZ,x11,x12,x13]):=by
  have em:dz tJ (dk 1) (dC (.int 4)) [S,cJ c,x2,.no,x4,x5,x6,x7,x8,x9,iZ,x11,x12,x13]=some (.int (c%4)):=by
   simp[dz,dk,dC,tJ,DH,BY]
  have ei:cT FX (cL (dz nI (dz tJ (dk 1) (dC (.int 4))) (dC (.int 0))) cR) [S,cJ c,x2,.no,x4,x5,x6,x7,x8,x9,iZ,x11,x12,x13]=some (.int (if decide (c%4=0)then 1 else 0)):=(dE (sA (lB em (y:=.int 0) rfl (pP _ 0)))).trans rfl
  unfold Bk;exact nX ((dE (p9 (x:=.int c) rfl (p9 (x:=.int 1) rfl (p9 (x:=.int (5+(if decide (c%4=0)then 1 else 0))) (lB (x:=.int 5) rfl ei rfl) (sA (x:=.int 6) rfl))))).trans e)
 obtain⟨y4,y5,y6,y7,y8,y9,y10,y11,y12,y13,k4,k5,k6,hk,ec⟩:=Rn (S:=S) (f:=f) (c:=c) hF (by omega) ⟨by show 0<=many;omega,by show many<1000000;omega⟩ (x4:=x4) h.h5 h.h6 ⟨h.r.h7,h.r.h8,.inl YY,h.r.OH,h.r.OI,h.r.OJ,h.r.Ui⟩
 refine⟨.dat (dG ⟨many,ls,b,g⟩ f),y4,y5,y6,y7,y8,y9,y10,y11,y12,y13,⟨i0 _,k4,k5,k6,hk⟩,?_⟩;unfold o4;rw[LW.cU e1];unfold oM;rw[eg];unfold qA;rw[if_pos ⟨Up (by
  intro s hs;simp only[List.mem_cons,bK,or_false]at hs;rcases hs with rfl|rfl|rfl|rfl|rfl|rfl|rfl|rfl|rfl|rfl|rfl|rfl|rfl|rfl
  ·exact hS
  ·exact i0 _
  ·exact i0 _
  ·exact .inr rfl
  ·exact h.h4
  ·exact h.h5
  ·exact h.h6
  ·exact h.r.h7
  ·exact h.r.h8
  ·exact YY
  ·exact h.r.OH
  ·exact h.r.OI
  ·exact h.r.OJ
  ·exact h.r.Ui),by show(3:Nat)<14;decide⟩]
 have eM:YU [S,cJ c,.dat (dG ⟨many,ls,b,g⟩ f),.no,x4,x5,x6,x7,x8,x9',iZ,x11,x12,x13]=some (eh ⟨many,ls,b,g⟩ hF.ok):=congrArg some (nR hF.ok f);rw[eM];simp only[ao];refine(congrArg (λz=>Option.bind z (rZ 3)) ec).trans ?_
 simp only[ao];unfold rZ;exact if_pos (Uo (by
  intro s hs;simp only[aZ,aY,List.mem_cons,bK,or_false]at hs;rcases hs with rfl|rfl|rfl|rfl|rfl|rfl|rfl|rfl|rfl|rfl|rfl|rfl|rfl|rfl
  ·exact .inl hS
  ·exact .inl (i0 _)
  ·exact .inl (i0 _)
  ·exact .inl (.inr rfl)
  ·exact .inl k4
  ·exact .inl k5
  ·exact .inl k6
  ·exact .inl hk.h7
  ·exact .inl hk.h8
  ·exact hk.h9
  ·exact .inl hk.OH
  ·exact .inl hk.OI
  ·exact .inl hk.OJ
  ·exact .inl hk.Ui))
theorem Dr (S:Sl) (hS:pl S):∀(cs:cq) (x1 x2 x4 x5 x6 x7 x8 x9 iZ x11 x12 x13:Sl),St x2 x4 x5 x6 x7 x8 x9 iZ x11 x12 x13->∃δ,fm 1 o4 (cs.map D.int) [S,x1,x2,.no,x4,x5,x6,x7,x8,x9,iZ,x11,x12,x13]=some (.next δ)
 |[],x1,x2,x4,x5,x6,x7,x8,x9,iZ,x11,x12,x13,_=>⟨_,rfl⟩
 |c::cs,x1,x2,x4,x5,x6,x7,x8,x9,iZ,x11,x12,x13,h=>by
  obtain⟨a2,a4,a5,a6,a7,a8,a9,a10,a11,a12,a13,ha,e⟩:=LI c S hS x2 x4 x5 x6 x7 x8 x9 iZ x11 x12 x13 h;obtain⟨δ,ih⟩:=Dr S hS cs (cJ c) a2 a4 a5 a6 a7 a8 a9 a10 a11 a12 a13 ha;refine⟨δ,?_⟩;rw[aF,mH (j:=1) (f:=o4) (d:=.int c) (δ:=[S,x1,x2,.no,x4,x5,x6,x7,x8,x9,iZ,x11,x12,x13]) e,ih]
theorem NO (ns:cq) (_:ns.length<=63):GK [.lst (ns.map D.int)]=some (.bl true):=by
 refine LW.eJ rfl ?_;show Bq [.dat (.lst (ns.map D.int)),.no,.no,.no,.no,.no,.no,.no,.no,.no,.no,.no,.no,.no]=_;have WR:cutD (ns.map D.int) none (some 2)=(ns.take 2).map D.int:=by
  show((ns.map D.int).drop 0).take (min 2 (ns.map D.int).length-0)=_;rw[List.drop_zero,Nat.sub_zero,List.map_take];rcases Nat.le_total 2 (ns.map D.int).length with q|q
  ·rw[Nat.min_eq_left q]
  ·rw[Nat.min_eq_right q,List.take_of_length_le (au _),List.take_of_length_le q]
 have n:pl .no:=.inr rfl;obtain⟨δ,e⟩:=Dr (.dat (.lst (ns.map D.int))) (i0 _) (ns.take 2) .no .no .no .no .no .no .no .no .no .no .no .no ⟨n,n,n,n,n,n,.inl n,n,n,n,n⟩;have e22:yg [.dat (.lst (ns.map D.int)),.no,.no,.no,.no,.no,.no,.no,.no,.no,.no,.no,.no,.no]=some (.next δ):=by
  have it:iL (dL (JO (dk 0) Qn (B2 (dC (.int 2))))) [.dat (.lst (ns.map D.int)),.no,.no,.no,.no,.no,.no,.no,.no,.no,.no,.no,.no,.no]=some (cutD (ns.map D.int) none (some 2)):=rfl;rw[WR]at it;unfold yg;exact rT it e
 unfold Bq;rw[LW.cU e22];rfl
end K4
namespace K4
open PySem PySem.Spec PyProof.Rows L2 DL LW PC PW
noncomputable def top (i:Nat):cH:=PySem.Challenge.pw_fieldclaim_k04_whole_who_has_its_way.main.body.getD i (.Pass ⟨0,0,0,0⟩)
noncomputable abbrev lb:cH:=top 9
theorem yn:dD ["points","line","point"] ["points","line"] (cO lb):={}
noncomputable abbrev jR:cH:=top 10
theorem vJ:dD ["points","line","point"] ["points","line"] (cO jR):={}
noncomputable abbrev jd:cH:=top 6
theorem Bs:dD ["game","whose"] ["game","whose"] (cO jd):={}
noncomputable abbrev ik:cH:=top 7
theorem zi:dD ["hand"] ["hand"] (cO ik):={}
noncomputable abbrev lh:cH:=top 11
theorem pQ:dD ["points","count","told","k","rest"] ["points","count"] (cO lh):={}
noncomputable abbrev gP:cH:=top 8
theorem nE:dD ["field","mine","yours","taken","point"] ["field","mine","yours"] (cO gP):={}
noncomputable abbrev mI:cH:=top 3
theorem Ik:dD ["game","mine","yours","whose"] ["game","mine","yours","whose"] (cO mI):={}
noncomputable abbrev mJ:cH:=top 5
theorem Il:dD ["mine","yours","whose","claim"] ["mine","yours","whose","claim"] (cO mJ):={}
noncomputable abbrev lj:cH:=top 4
theorem pR:dD ["game","mine","yours","lines","line"] ["game","mine","yours"] (cO lj):={}
noncomputable abbrev je:cH:=top 18
theorem uE:dD ["line","mine","point"] ["line","mine"] (cO je):={}
noncomputable abbrev gQ:cH:=top 19
theorem rf:dD ["line","lines","other"] ["line","lines"] (cO gQ):={}
noncomputable abbrev mK:cH:=top 20
theorem Am:dD ["points","lines","line"] ["points","lines"] (cO mK):={}
noncomputable abbrev fV:cH:=top 21
theorem jf:dD ["lines","uses","line","point"] ["lines"] (cO fV):={}
noncomputable abbrev ip:cH:=top 17
theorem lC:dD ["lines","mine","yours","needed","unlike","line"] ["lines","mine","yours"] (cO ip):={}
noncomputable abbrev gx:cH:=inClass (top 16) 5
theorem hZ:dD ["self","lines","whose","tried","pressing","line","claim"] ["self","lines","whose"] (cO gx):={}
noncomputable abbrev jS:cH:=inClass (top 16) 4
theorem lN:dD ["self","lines","whose","shortest","claim","held","line"] ["self","lines","whose"] (cO jS):={}
noncomputable abbrev jg:cH:=inClass (top 16) 3
theorem Bu:dD ["self","lines","whose"] ["self","lines","whose"] (cO jg):={}
noncomputable abbrev jh:cH:=inClass (top 16) 1
theorem Bv:dD ["self","mine","yours","whose"] ["self","mine","yours","whose"] (cO jh):={}
noncomputable abbrev lq:cH:=inClass (top 16) 2
theorem yo:dD ["self","mine","yours","whose","claim","held"] ["self","mine","yours","whose","claim"] (cO lq):={}
noncomputable abbrev gR:cH:=top 14
theorem yp:dD ["game","mine","yours","whose"] ["game","mine","yours","whose"] (cO gR):={}
noncomputable abbrev mL:cH:=top 13
theorem Im:dD ["game"] ["game"] (cO mL):={}
noncomputable abbrev gS:cH:=top 15
theorem nF:dD ["game","mine","yours","whose","search","claim"] ["game","mine","yours","whose"] (cO gS):={}
noncomputable abbrev jT:cH:=top 24
theorem Ds:dD ["_law_cell_here","_law_prime","_law_many"] ["_law_cell_here","_law_prime","_law_many"] (cO jT):={}
noncomputable abbrev iq:cH:=top 25
theorem fS:dD ["_law_cell_here","_law_least","_law_most","_law_lines","_law_many","_law_found","_law_k","_law_size","_law_left","_law_line","_law_n"] ["_law_cell_here","_law_least","_law_most","_law_lines"] (cO iq):={}
noncomputable abbrev ji:cH:=top 26
theorem uF:dD ["_law_cell_here","_law_least","_law_most","_law_lines","_law_field_here"] ["_law_cell_here","_law_least","_law_most","_law_lines"] (cO ji):={}
noncomputable abbrev fW:cH:=top 27
theorem gT:dD ["_law_game_here","_law_cell_here","_law_mine","_law_yours","_law_point","_law_turn"] ["_law_game_here","_law_cell_here"] (cO fW):={}
noncomputable abbrev jj:cH:=top 28
theorem kH:dD ["_law_game_here","_law_mine","_law_yours","_law_line","_law_point"] ["_law_game_here","_law_mine","_law_yours"] (cO jj):={}
noncomputable abbrev gU:cH:=top 29
theorem fF:dD ["_law_game_here","_law_mine","_law_yours","_law_whose","_law_some","_law_found","_law_turn","_law_more","_law_claim","_law_point"] ["_law_game_here","_law_mine","_law_yours","_law_whose"] (cO gU):={}
noncomputable abbrev jU:cH:=top 30
theorem Dt:dD ["_law_mine","_law_yours","_law_whose","_law_claim"] ["_law_mine","_law_yours","_law_whose","_law_claim"] (cO jU):={}
noncomputable abbrev gW:cH:=top 31
theorem gj:dD ["_law_game_here","_law_known","_law_mine","_law_yours","_law_whose","_law_found","_law_claim","_law_left","_law_right"] ["_law_game_here","_law_known","_law_mine","_law_yours","_law_whose"] (cO gW):={}
noncomputable abbrev ir:cH:=top 32
theorem zj:dD ["_law_found"] ["_law_found"] (cO ir):={}
noncomputable abbrev pV:cH:=top 33
theorem jK:dD ["_law_script","_law_cell_here","_law_game_here","_law_known","_law_spots","_law_mine","_law_yours","_law_whose","_law_due","_law_some","_law_claim","_law_left","_law_right","_law_over_here"] ["_law_script"] (cO pV):={}
structure Bt (mg:cm):Prop where
 all:mg "all"=none
 any:mg "any"=none
 bool:mg "bool"=none
 int:mg "int"=none
 isinstance:mg "isinstance"=none
 len:mg "len"=none
 list:mg "list"=none
 min:mg "min"=none
 range:mg "range"=none
 set:mg "set"=none
 sorted:mg "sorted"=none
 tuple:mg "tuple"=none
 dQ:∃t,mg "BUILDER"=some (.int 0 t)
 mB:∃t,mg "GUARD"=some (.int 1 t)
noncomputable abbrev jV:cH:=inClass (top 16) 0
theorem Du:dD ["self","game"] ["self","game"] (cO jV):={}
noncomputable abbrev df (Cs:cF):OC:=⟨Cs,"game","known",U8⟩
section
variable {P:cB}{w:cC}{K:W.Frag}{mg:cm}{base:Heap}
theorem Fj {f:cF}{fd:cA}(F:mN K "has_all" "has_all" lb f fd) (M0:Bt mg):eE P w K mg base iK (1) f fd ["points","line"] (qf ie):=by
 refine gp F yn (λm fL A outer s H E hr C0 H0=>?_)
 have hu:=hr.units;unfold xT;exact(cW (dJ (fZ (JT rfl) (by rfl) M0.all Ei (dt (WD.o (WF.d (pk 2 rfl ⟨rfl,rfl,rfl,yn.nd⟩ (wj.weak (gk (cN 1))) (λ_ _ _ _ _=>(qy (MO hu) (cS 2) (cS 0)))))) dI))))
theorem Dv {f:cF}{fd:cA}(F:mN K "has_some" "has_some" jR f fd) (M0:Bt mg):eE P w K mg base iK (1) f fd ["points","line"] (qf fu):=by
 refine gp F vJ (λm fL A outer s H E hr C0 H0=>?_)
 have hu:=hr.units;unfold vD;exact(cW (dJ (fZ (Kd rfl) (by rfl) M0.any EA (dt (WD.o (WF.d (pk 2 rfl ⟨rfl,rfl,rfl,vJ.nd⟩ (wj.weak (gk (cN 1))) (λ_ _ _ _ _=>(qy (MO hu) (cS 2) (cS 0)))))) dI))))
theorem Bw {f:cF}{fd:cA}(F:mN K "at_a_time" "at_a_time" jd f fd) (M0:Bt mg):eE P w K mg base iK (1) f fd ["game","whose"] (qf dW):=by
 obtain⟨mM,dQ⟩:=M0.dQ;refine gp F Bs (λm fL A outer s H E hr C0 H0=>?_)
 have hu:=hr.units;unfold ur;exact(cW (dJ (B6 (eI (qv hu) (cS 1) (WD.o (iC (by rfl) dQ))) (fN (cS 0) (WD.o da) (λ_ _=>rfl)) (fN (cS 0) (WD.o da) (λ_ _=>rfl)))))
theorem zk {f:cF}{fd:cA}(F:mN K "other_hand" "other_hand" ik f fd) (M0:Bt mg):eE P w K mg base iK (1) f fd ["hand"] (qf eV):=by
 obtain⟨mM,dQ⟩:=M0.dQ;obtain⟨GR,mB⟩:=M0.mB;refine gp F zi (λm fL A outer s H E hr C0 H0=>?_)
 have hu:=hr.units;unfold sC;exact(cW (dJ (B6 (eI (qv hu) (cS 0) (WD.o (iC (by rfl) dQ))) (iC (by rfl) mB) (iC (by rfl) dQ))))
theorem Fl {f:cF}{fd:cA}{n:Nat}(F:mN K "choices" "choices" lh f fd) (M0:Bt mg) {dB:cj}(o7:iH P w K mg base (0+n) "choices" dB):eE P w K mg base iK (0+n+1) f fd ["points","count"] (qf (hO 5 2 (nq dB))):=by
 refine gp F pQ (λm fL A outer s H E hr C0 H0=>?_)
 have hu:=hr.units;unfold nq;exact(cX (gZ (eI (VP) (cS 1) (WD.o (fZ zJ (by rfl) M0.len uU (dt (cS 0) dI)))) (cW (dJ (eT (cM (cN 0) cQ)))) eN)
  (cX (gZ (eI (qv hu) (cS 1) (WD.o da)) (cW (dJ (eT (cM (eT cQ) cQ)))) eN)
  (cX (jz 2 pQ.nd (oh cQ))
  (cX (jI (f:=(kf dB)) bB rfl (jH (by rfl) M0.range (cM (j5 (WD.o (sN (WD.o (fZ zJ (by rfl) M0.len uU (dt (cS 0) dI))) (cS 1))) (WD.o da)) cQ)) (fz (i:=3) pQ.nd rfl (by first|exact Or.inl rfl|exact Or.inr rfl)) (cW (jI (f:=(ke dB)) bB rfl (gk (de o7 hr (by rfl) (cM (QG (cS 0) (JZ (WD.o (j5 (cS 3) (WD.o da)))) Of) (cM (sN (cS 1) (WD.o da)) cQ)))) (fz (i:=4) pQ.nd rfl (by first|exact Or.inl rfl|exact Or.inr rfl)) (cW (xf (pv 2) (nO (WD.o (eT (cM (fN (cS 0) (cS 3) (λ_ _=>rfl)) cQ))) (cS 4)))))))
  (cW (dJ (eQ gz (by rfl) M0.tuple fD (dt (cS 2) dI))))))))
theorem yq {f:cF}{fd:cA}(F:mN K "free_points" "free_points" gP f fd) (M0:Bt mg):eE P w K mg base iK (1) f fd ["field","mine","yours"] (qf ig):=by
 refine gp F nE (λm fL A outer s H E hr C0 H0=>?_)
 have hu:=hr.units;unfold kj;exact(cX (iA 3 nE.nd (nO (cS 1) (cS 2)))
  (cW (dJ (eQ gz (by rfl) M0.tuple fD (dt (WD.o (WF.d (i8 4 rfl ⟨rfl,rfl,rfl,nE.nd⟩ (wj.weak (jH (by rfl) M0.range (cM (fN (cS 0) (WD.o da) (λ_ _=>rfl)) cQ))) (λ_ _ _ _ _=>(eI (tT hu) (cS 4) (cS 3))) (λ_ _ _ _ _=>(cN 4))))) dI)))))
theorem Io {f:cF}{fd:cA}(F:mN K "claims" "claims" mI f fd) (M0:Bt mg) (jW:iH P w K mg base 6 "at_a_time" dW) (o7:iH P w K mg base 6 "choices" (ff 5)) (zl:iH P w K mg base 6 "free_points" ig):eE P w K mg base iK (7) f fd ["game","mine","yours","whose"] (qf nr):=by
 refine gp F Ik (λm fL A outer s H E hr C0 H0=>?_)
 have hu:=hr.units;unfold rP;exact(cW (dJ (de o7 hr (by rfl) (cM (de zl hr (by rfl) (cM (fN (cS 0) (WD.o da) (λ_ _=>rfl)) (cM (cN 1) (cM (cN 2) cQ)))) (cM (de jW hr (by rfl) (cM (cN 0) (cM (cN 3) cQ))) cQ)))))
theorem Ip {f:cF}{fd:cA}(F:mN K "behind" "behind" mJ f fd) (M0:Bt mg):eE P w K mg base iK (1) f fd ["mine","yours","whose","claim"] (qf nt):=by
 obtain⟨mM,dQ⟩:=M0.dQ;refine gp F Il (λm fL A outer s H E hr C0 H0=>?_)
 have hu:=hr.units;unfold Ag;exact(cX (gZ (eI (qv hu) (cS 2) (WD.o (iC (by rfl) dQ))) (cW (dJ (eT (cM (eQ gz (by rfl) M0.tuple fD (dt (WD.o (WF.d (mS (rC hu) (by rfl) M0.sorted i7 (dt (WD.o (nO (cS 0) (cS 3))) dI)))) dI)) (cM (cN 1) cQ))))) eN)
  (cW (dJ (eT (cM (cN 0) (cM (eQ gz (by rfl) M0.tuple fD (dt (WD.o (WF.d (mS (rC hu) (by rfl) M0.sorted i7 (dt (WD.o (nO (cS 1) (cS 3))) dI)))) dI)) cQ))))))
theorem Fm {f:cF}{fd:cA}(F:mN K "decided" "decided" lj f fd) (M0:Bt mg) (vg:iH P w K mg base 1 "has_all" ie) (nH:iH P w K mg base 1 "has_some" fu):eE P w K mg base iK (2) f fd ["game","mine","yours"] (qf mG):=by
 obtain⟨mM,dQ⟩:=M0.dQ;obtain⟨GR,mB⟩:=M0.mB;refine gp F pR (λm fL A outer s H E hr C0 H0=>?_)
 have hu:=hr.units;unfold pJ;exact(cX (iA 3 pR.nd (fN (WD.o (fN (cS 0) (WD.o da) (λ_ _=>rfl))) (WD.o da) (λ_ _=>rfl)))
  (cX (gZ (sO (fZ (Kd rfl) (by rfl) M0.any EA (dt (WD.o (WF.d (pk 4 rfl ⟨rfl,rfl,rfl,pR.nd⟩ (wj.weak (gk (cN 3))) (λ_ _ _ _ _=>(de vg hr (by rfl) (cM (cN 1) (cM (cN 4) cQ))))))) dI))) (cW (dJ (iC (by rfl) dQ))) eN)
  (cX (gZ (sO (fZ (JT rfl) (by rfl) M0.all Ei (dt (WD.o (WF.d (pk 4 rfl ⟨rfl,rfl,rfl,pR.nd⟩ (wj.weak (gk (cN 3))) (λ_ _ _ _ _=>(de nH hr (by rfl) (cM (cN 2) (cM (cN 4) cQ))))))) dI))) (cW (dJ (iC (by rfl) mB))) eN)
  (cW (dJ w9)))))
theorem Bx {f:cF}{fd:cA}(F:mN K "free_part" "free_part" je f fd) (M0:Bt mg):eE P w K mg base iK (1) f fd ["line","mine"] (qf jP):=by
 refine gp F uE (λm fL A outer s H E hr C0 H0=>?_)
 have hu:=hr.units;unfold mw;exact(cW (dJ (eQ gz (by rfl) M0.tuple fD (dt (WD.o (WF.d (i8 2 rfl ⟨rfl,rfl,rfl,uE.nd⟩ (wj.weak (gk (cN 0))) (λ_ _ _ _ _=>(eI (tT hu) (cS 2) (cS 1))) (λ_ _ _ _ _=>(cN 2))))) dI))))
theorem yr {f:cF}{fd:cA}(F:mN K "has_another" "has_another" gQ f fd) (M0:Bt mg) (vg:iH P w K mg base 1 "has_all" ie):eE P w K mg base iK (2) f fd ["line","lines"] (qf jw):=by
 refine gp F rf (λm fL A outer s H E hr C0 H0=>?_)
 have hu:=hr.units;unfold kz;exact(cW (dJ (fZ (Kd rfl) (by rfl) M0.any EA (dt (WD.o (WF.d (pk 2 rfl ⟨rfl,rfl,rfl,rf.nd⟩ (wj.weak (FZ (cN 1))) (λ_ _ _ _ _=>(J2 (qy (Eh hu) (cS 2) (cS 0)) (J1 (de vg hr (by rfl) (cM (cN 0) (cM (cN 2) cQ))))))))) dI))))
theorem Iq {f:cF}{fd:cA}(F:mN K "spoils" "spoils" mK f fd) (M0:Bt mg) (nH:iH P w K mg base 1 "has_some" fu):eE P w K mg base iK (2) f fd ["points","lines"] (qf qU):=by
 refine gp F Am (λm fL A outer s H E hr C0 H0=>?_)
 have hu:=hr.units;unfold rQ;exact(cW (dJ (fZ (JT rfl) (by rfl) M0.all Ei (dt (WD.o (WF.d (pk 2 rfl ⟨rfl,rfl,rfl,Am.nd⟩ (AX (cS 1)) (λ_ _ _ _ _=>(de nH hr (by rfl) (cM (cN 0) (cM (cN 2) cQ))))))) dI))))
theorem vh {f:cF}{fd:cA}(F:mN K "points_by_use" "points_by_use" fV f fd) (M0:Bt mg) {ct Pt:cF}(ht:W.tabIn K "points_by_use"=some (ct,Pt)) (yH:fd.code=.ref ct):eE P w K mg base iK (1) f fd ["lines"] (qf gw):=by
 refine Nt F jf (λA outer s H E hr C0 H0=>?_)
 letI:=Mem.keep
 have jn:=hr.ten;have hu:=hr.units;unfold kU;exact(EY 1 jf.nd (λa C1 H1 hn=>by letI:=eY a;unfold gi;exact(cX (jI (f:=fx) bB rfl (gk (cN 0)) (fz (i:=2) jf.nd rfl (by first|exact Or.inl rfl|exact Or.inr rfl)) (cW (jI (f:=gh) bB rfl (gk (cN 2)) (fz (i:=3) jf.nd rfl (by first|exact Or.inl rfl|exact Or.inr rfl)) (cW (HS hn hu (pv 1) (cN 3) (pv 1) (cN 3))))))
  (cW (dJ (eQ gz (by rfl) M0.tuple fD (dt (WD.o (WF.d (CC (x:="points_by_use") rfl hu jn (by rfl) M0.sorted rfl rfl (by first|exact af|simp[vK]) ht (show(Str.ofString "points_by_use"++Str.ofString ".<locals>.")++Str.ofString "<lambda>"=Str.ofString "points_by_use.<locals>.<lambda>" by decide +kernel) yH (pv 1)))) dI)))))))
theorem zm {f:cF}{fd:cA}(F:mN K "open_lines" "open_lines" ip f fd) (M0:Bt mg) (Dw:iH P w K mg base 2 "free_part" jP) (zo:iH P w K mg base 2 "has_another" jw) (nH:iH P w K mg base 2 "has_some" fu):eE P w K mg base iK (3) f fd ["lines","mine","yours"] (qf fB):=by
 refine gp F lC (λm fL A outer s H E hr C0 H0=>?_)
 have hu:=hr.units;unfold lz;exact(cX (tX 3 5 rfl ⟨rfl,rfl,rfl,lC.nd⟩ (wj.weak (FZ (cN 0))) (λ_ _ _ _ _=>(uZ (sO (de nH hr (by rfl) (cM (cN 2) (cM (cN 5) cQ)))))) (λ_ _ _ _ _=>(de Dw hr (by rfl) (cM (cN 5) (cM (cN 1) cQ)))))
  (j6 3 (cX (jz 4 lC.nd (E2 rfl hu (by rfl) M0.sorted (by rfl) M0.set (cS 3)))
  (j6 4 (cW (dJ (eQ gz (by rfl) M0.tuple fD (dt (WD.o (WF.d (i8 5 rfl ⟨rfl,rfl,rfl,lC.nd⟩ (AX (cS 4)) (λ_ _ _ _ _=>(uZ (sO (de zo hr (by rfl) (cM (cN 5) (cM (cN 4) cQ)))))) (λ_ _ _ _ _=>(cN 5))))) dI))))))))
theorem v3 {f:cF}{fd:cA}(F:mN K "worth_trying" "Search.worth_trying" gx f fd) (M0:Bt mg) {Cs:cF}(Z:lR K (df Cs)) (jW:iH P w K mg base 6 "at_a_time" dW) (o7:iH P w K mg base 6 "choices" (ff 5)) (v5:iH P w K mg base 6 "points_by_use" gw) (LJ:iH P w K mg base 6 "spoils" qU):eE P w K mg base iK (7) f fd ["self","lines","whose"] (HD (df Cs) (mV 7 3 hW)):=by
 obtain⟨mM,dQ⟩:=M0.dQ;refine t9 (df Cs) F hZ (λA G fL Ar outer s H E hr C0 H0=>?_)
 letI:=dr (df Cs) A G
 have hu:=hr.units;unfold hW;exact(cX (iA 3 hZ.nd (de o7 hr (by rfl) (cM (de v5 hr (by rfl) (cM (cN 1) cQ)) (cM (de jW hr (by rfl) (cM (wq (Y:=df Cs) Z (pv 0)) (cM (cN 2) cQ))) cQ))))
  (cX (gZ (eI (qv hu) (cS 2) (WD.o (iC (by rfl) dQ))) (cW (dJ (cN 3))) eN)
  (cX (jz 4 hZ.nd (i8 5 rfl ⟨rfl,rfl,rfl,hZ.nd⟩ (wj.weak (gk (cN 1))) (λ_ _ _ _ _=>(eI (SX) (WD.o (fZ zJ (by rfl) M0.len uU (dt (cS 5) dI))) (WD.o (de jW hr (by rfl) (cM (wq (Y:=df Cs) Z (pv 0)) (cM (iC (by rfl) dQ) cQ)))))) (λ_ _ _ _ _=>(cN 5))))
  (j6 4 (cW (dJ (eQ gz (by rfl) M0.tuple fD (dt (WD.o (WF.d (i8 6 rfl ⟨rfl,rfl,rfl,hZ.nd⟩ (wj.weak (gk (cN 3))) (λ_ _ _ _ _=>(sO (de LJ hr (by rfl) (cM (cN 6) (cM (cN 4) cQ))))) (λ_ _ _ _ _=>(cN 6))))) dI))))))))
theorem Dx {f:cF}{fd:cA}{n:Nat}(F:mN K "searched" "Search.searched" jS f fd) (M0:Bt mg) {Cs:cF}(Z:lR K (df Cs)) {dA:cj}(jW:iH P w K mg base (7+n) "at_a_time" dW) (yt:iH P w K mg base (7+n) "behind" nt) (pW:iH P w K mg base (7+n) "open_lines" fB) (mC:iH P w K mg base (7+n) "other_hand" eV) (rg:j9 P w K mg base (7+n) (df Cs) "winner_of" dA) (yu:j9 P w K mg base (7+n) (df Cs) "worth_trying" gN):eE P w K mg base iK (7+n+1) f fd ["self","lines","whose"] (HD (df Cs) (mV 7 3 (λG=>jQ G dA))):=by
 obtain⟨mM,dQ⟩:=M0.dQ;refine t9 (df Cs) F lN (λA G fL Ar outer s H E hr C0 H0=>?_)
 letI:=dr (df Cs) A G
 have hu:=hr.units;unfold jQ;exact(cX (iA 3 lN.nd (fZ (QL rfl) (by rfl) M0.min Ej (dt (WD.o (WF.d (pk 6 rfl ⟨rfl,rfl,rfl,lN.nd⟩ (wj.weak (gk (cN 1))) (λ_ _ _ _ _=>(fZ zJ (by rfl) M0.len uU (dt (cS 6) dI)))))) dI)))
  (cX (gZ (Hu.pt (wm (eI (qv hu) (cS 2) (WD.o (iC (by rfl) dQ))) (xc (eI (SX) (cS 3) (WD.o (de jW hr (by rfl) (cM (wq (Y:=df Cs) Z (pv 0)) (cM (iC (by rfl) dQ) cQ)))))))) (cW (dJ (iC (by rfl) dQ))) eN)
  (cX (jI (f:=(fR G dA)) bB rfl (gk (oP Z yu hr (pv 0) (cM (cN 1) (cM (cN 2) cQ)))) (fz (i:=4) lN.nd rfl (by first|exact Or.inl rfl|exact Or.inr rfl)) (cX (iA 5 lN.nd (de yt hr (by rfl) (cM (eT cQ) (cM (eT cQ) (cM (cN 2) (cM (cN 4) cQ))))))
  (cW (gZ (eI (qv hu) (WD.o (oP Z rg hr (pv 0) (cM (de pW hr (by rfl) (cM (cN 1) (cM (fN (cS 5) (WD.o da) (λ_ _=>rfl)) (cM (fN (cS 5) (WD.o da) (λ_ _=>rfl)) cQ)))) (cM (de mC hr (by rfl) (cM (cN 2) cQ)) cQ)))) (cS 2)) (cW (dJ (cN 2))) eN))))
  (cW (dJ (de mC hr (by rfl) (cM (cN 2) cQ)))))))
theorem By {f:cF}{fd:cA}{n:Nat}(F:mN K "winner_of" "Search.winner_of" jg f fd) (M0:Bt mg) {Cs:cF}(Z:lR K (df Cs)) {dX:cj}(Fn:j9 P w K mg base (7+n) (df Cs) "searched" dX):eE P w K mg base iK (7+n+1) f fd ["self","lines","whose"] (HD (df Cs) (mV 3 3 (λG=>jc G dX))):=by
 obtain⟨mM,dQ⟩:=M0.dQ;obtain⟨GR,mB⟩:=M0.mB;refine t9 (df Cs) F Bu (λA G fL Ar outer s H E hr C0 H0=>?_)
 letI:=dr (df Cs) A G
 have hu:=hr.units;unfold jc;exact(cX (gZ (eI (qv hu) (WD.o (fZ zJ (by rfl) M0.len uU (dt (cS 1) dI))) (WD.o da)) (cW (dJ (iC (by rfl) mB))) eN)
  (cX (gZ (eI (MO hu) (WD.o (eT cQ)) (cS 1)) (cW (dJ (iC (by rfl) dQ))) eN)
  (cX (Ki [] hu Z (eT (cM (cN 1) (cM (cN 2) cQ))) (pv 0) (cW (HF hu Z (oP Z Fn hr (pv 0) (cM (cN 1) (cM (cN 2) cQ))) (pv 0) (eT (cM (cN 1) (cM (cN 2) cQ))))))
  (cW (dJ (HE hu Z (pv 0) (eT (cM (cN 1) (cM (cN 2) cQ))) (λ_ _=>rfl)))))))
theorem Bz {f:cF}{fd:cA}(F:mN K "winner_at" "Search.winner_at" jh f fd) (M0:Bt mg) {Cs:cF}(Z:lR K (df Cs)) (pW:iH P w K mg base 32 "open_lines" fB) (rg:j9 P w K mg base 32 (df Cs) "winner_of" (g7 24)):eE P w K mg base iK (33) f fd ["self","mine","yours","whose"] (HD (df Cs) (mV 4 4 kD)):=by
 refine t9 (df Cs) F Bv (λA G fL Ar outer s H E hr C0 H0=>?_)
 letI:=dr (df Cs) A G
 have hu:=hr.units;unfold kD;exact(cW (dJ (oP Z rg hr (pv 0) (cM (de pW hr (by rfl) (cM (fN (WD.o (fN (WD.o (wq (Y:=df Cs) Z (pv 0))) (WD.o da) (λ_ _=>rfl))) (WD.o da) (λ_ _=>rfl)) (cM (cN 1) (cM (cN 2) cQ)))) (cM (cN 3) cQ)))))
theorem Fo {f:cF}{fd:cA}(F:mN K "is_good" "Search.is_good" lq f fd) (M0:Bt mg) {Cs:cF}(Z:lR K (df Cs)) (yt:iH P w K mg base 33 "behind" nt) (mC:iH P w K mg base 33 "other_hand" eV) (rh:j9 P w K mg base 33 (df Cs) "winner_at" iW):eE P w K mg base iK (34) f fd ["self","mine","yours","whose","claim"] (HD (df Cs) (mV 6 5 nA)):=by
 refine t9 (df Cs) F yo (λA G fL Ar outer s H E hr C0 H0=>?_)
 letI:=dr (df Cs) A G
 have hu:=hr.units;unfold nA;exact(cX (iA 5 yo.nd (de yt hr (by rfl) (cM (cN 1) (cM (cN 2) (cM (cN 3) (cM (cN 4) cQ))))))
  (cW (dJ (qy (qv hu) (WD.o (oP Z rh hr (pv 0) (cM (fN (cS 5) (WD.o da) (λ_ _=>rfl)) (cM (fN (cS 5) (WD.o da) (λ_ _=>rfl)) (cM (de mC hr (by rfl) (cM (cN 3) cQ)) cQ))))) (cS 3)))))
theorem yv {f:cF}{fd:cA}(F:mN K "winner_from" "winner_from" gR f fd) (M0:Bt mg) {Cs:cF}(Z:lR K (df Cs)) (yw:sQ P w K mg base 32 (df Cs) "Search") (rh:j9 P w K mg base 33 (df Cs) "winner_at" iW):eE P w K mg base iK (34) f fd ["game","mine","yours","whose"] (qf fC):=by
 refine Ez F yp (λfL A outer s H E hr C0 H0=>?_)
 letI:=Mem.keep
 have hu:=hr.units;unfold kE;exact(cW (dJ (EE Z rh hr (Tt Z yw hr (by rfl) (cN 0)) (cM (cN 1) (cM (cN 2) (cM (cN 3) cQ))))))
theorem Ir {f:cF}{fd:cA}(F:mN K "winner" "winner" mL f fd) (M0:Bt mg) (oC:iH P w K mg base 34 "winner_from" fC):eE P w K mg base iK (35) f fd ["game"] (qf lM):=by
 refine gp F Im (λm fL A outer s H E hr C0 H0=>?_)
 have hu:=hr.units;unfold rS;exact(cW (dJ (de oC hr (by rfl) (cM (cN 0) (cM (eT cQ) (cM (eT cQ) (cM (fN (cS 0) (WD.o da) (λ_ _=>rfl)) cQ)))))))
theorem yx {f:cF}{fd:cA}(F:mN K "good_claims" "good_claims" gS f fd) (M0:Bt mg) {Cs:cF}(Z:lR K (df Cs)) (yw:sQ P w K mg base 33 (df Cs) "Search") (LK:iH P w K mg base 34 "claims" nr) (Iu:iH P w K mg base 34 "decided" mG) (Iv:j9 P w K mg base 34 (df Cs) "is_good" rR):eE P w K mg base iK (35) f fd ["game","mine","yours","whose"] (qf ij):=by
 refine Ez F nF (λfL A outer s H E hr C0 H0=>?_)
 letI:=Mem.keep
 have hu:=hr.units;unfold kF;exact(cX (gZ (eI (FO) (WD.o (de Iu hr (by rfl) (cM (cN 0) (cM (cN 1) (cM (cN 2) cQ))))) (WD.o w9)) (cW (dJ (eT cQ))) eN)
  (EF 4 nF.nd (Tt Z yw hr (by rfl) (cN 0)) (λA G C1 H1=>by letI:=dr (df Cs) A G;unfold gO;exact(cW (dJ (eQ gz (by rfl) M0.tuple fD (dt (WD.o (WF.d (i8 5 rfl ⟨rfl,rfl,rfl,nF.nd⟩ (wj.weak (gk (de LK hr (by rfl) (cM (cN 0) (cM (cN 1) (cM (cN 2) (cM (cN 3) cQ))))))) (λ_ _ _ _ _=>(sO (oP Z Iv hr (pv 4) (cM (cN 1) (cM (cN 2) (cM (cN 3) (cM (cN 5) cQ))))))) (λ_ _ _ _ _=>(cN 5))))) dI)))))))
theorem Dy {f:cF}{fd:cA}(F:mN K "_law_mix" "_law_mix" jT f fd) (M0:Bt mg):eE P w K mg base iK (1) f fd ["_law_cell_here","_law_prime","_law_many"] (qf dv):=by
 refine gp F Ds (λm fL A outer s H E hr C0 H0=>?_)
 have hu:=hr.units;unfold qC;exact(cW (dJ (AW (WD.o (AW (WD.o (xb (cS 0) (WD.o da))) (cS 1))) (cS 2))))
theorem zp {f:cF}{fd:cA}(F:mN K "_law_field" "_law_field" iq f fd) (M0:Bt mg) (gE:iH P w K mg base 1 "_law_mix" dv):eE P w K mg base iK (2) f fd ["_law_cell_here","_law_least","_law_most","_law_lines"] (qf dH):=by
 refine gp F fS (λm fL A outer s H E hr C0 H0=>?_)
 have hu:=hr.units;unfold ly;exact(cX (iA 4 fS.nd (j5 (cS 1) (WD.o (de gE hr (by rfl) (cM (cN 0) (cM da (cM (j5 (WD.o (sN (cS 2) (cS 1))) (WD.o da)) cQ)))))))
  (cX (jz 5 fS.nd (oh cQ))
  (cX (jI (f:=hU) bB rfl (jH (by rfl) M0.range (cM (de gE hr (by rfl) (cM (cN 0) (cM da (cM (j5 (cS 3) (WD.o da)) cQ)))) cQ)) (fz (i:=6) fS.nd rfl (by first|exact Or.inl rfl|exact Or.inr rfl)) (cX (iA 7 fS.nd (j5 (WD.o da) (WD.o (de gE hr (by rfl) (cM (j5 (cS 0) (WD.o (xb (WD.o da) (cS 6)))) (cM da (cM (fZ (JM rfl) (by rfl) M0.min Ej (dt (WD.o da) (dt (cS 4) dI))) cQ)))))))
  (cX (gZ (Hu.pt (wm (eI (PY) (WD.o (AW (cS 0) (WD.o da))) (WD.o da)) (wm (eI (qv hu) (cS 7) (WD.o da)) (xc (eI (PY) (cS 4) (WD.o da)))))) (cW (iA 7 fS.nd da)) eN)
  (cX (jz 8 fS.nd (AY rfl (by rfl) M0.list (by rfl) M0.range (cM (cN 4) cQ)))
  (cX (MU 9 10 8 rfl (by decide) ⟨rfl,rfl,rfl,fS.nd⟩ (jH (by rfl) M0.range (cM (cN 7) cQ)) (λ_ _ _ _ _=>pv 8) (λ_ _ _ _ _=>(de gE hr (by rfl) (cM (j5 (WD.o (j5 (cS 0) (WD.o (xb (WD.o da) (cS 6))))) (WD.o (xb (WD.o da) (cS 10)))) (cM da (cM (sN (cS 4) (cS 10)) cQ))))))
  (j6 9 (cW (gZ (eI (tT hu) (WD.o (eQ gz (by rfl) M0.tuple fD (dt (WD.o (WF.d (mS (w6 hu) (by rfl) M0.sorted i7 (dt (cS 9) dI)))) dI))) (cS 5)) (cW (xf (pv 5) (eQ gz (by rfl) M0.tuple fD (dt (WD.o (WF.d (mS (w6 hu) (by rfl) M0.sorted i7 (dt (cS 9) dI)))) dI)))) eN))))))))
  (cW (dJ (eT (cM (cN 4) (cM (eQ gz (by rfl) M0.tuple fD (dt (WD.o (WF.d (mS (w6 hu) (by rfl) M0.sorted i7 (dt (cS 5) dI)))) dI)) cQ))))))))
theorem BA {f:cF}{fd:cA}(F:mN K "_law_game" "_law_game" ji f fd) (M0:Bt mg) (BB:iH P w K mg base 2 "_law_field" dH) (gE:iH P w K mg base 2 "_law_mix" dv):eE P w K mg base iK (3) f fd ["_law_cell_here","_law_least","_law_most","_law_lines"] (qf dS):=by
 refine gp F uF (λm fL A outer s H E hr C0 H0=>?_)
 have hu:=hr.units;unfold mq;exact(cX (iA 4 uF.nd (de BB hr (by rfl) (cM (cN 0) (cM (cN 1) (cM (cN 2) (cM (cN 3) cQ))))))
  (cW (dJ (eT (cM (cN 4) (cM (de gE hr (by rfl) (cM (cN 0) (cM da (cM da cQ)))) (cM (j5 (WD.o da) (WD.o (Er (WD.o (de gE hr (by rfl) (cM (cN 0) (cM da (cM da cQ))))) (WD.o da)))) (cM (j5 (WD.o da) (WD.o (Er (WD.o (de gE hr (by rfl) (cM (cN 0) (cM da (cM da cQ))))) (WD.o da)))) cQ))))))))
theorem vi {f:cF}{fd:cA}(F:mN K "_law_position" "_law_position" fW f fd) (M0:Bt mg) (gE:iH P w K mg base 1 "_law_mix" dv):eE P w K mg base iK (2) f fd ["_law_game_here","_law_cell_here"] (qf gu):=by
 refine gp F gT (λm fL A outer s H E hr C0 H0=>?_)
 have hu:=hr.units;unfold jb;exact(cX (jz 2 gT.nd (oh cQ))
  (cX (jz 3 gT.nd (oh cQ))
  (cX (jI (f:=eF) bB rfl (jH (by rfl) M0.range (cM (fN (WD.o (fN (cS 0) (WD.o da) (λ_ _=>rfl))) (WD.o da) (λ_ _=>rfl)) cQ)) (fz (i:=4) gT.nd rfl (by first|exact Or.inl rfl|exact Or.inr rfl)) (cX (iA 5 gT.nd (de gE hr (by rfl) (cM (j5 (cS 1) (WD.o (xb (WD.o da) (cS 4)))) (cM da (cM da cQ)))))
  (cX (gZ (eI (qv hu) (cS 5) (WD.o da)) (cW (xf (pv 2) (cN 4))) eN)
  (cW (gZ (eI (qv hu) (cS 5) (WD.o da)) (cW (xf (pv 3) (cN 4))) eN)))))
  (cW (dJ (eT (cM (eQ gz (by rfl) M0.tuple fD (dt (cS 2) dI)) (cM (eQ gz (by rfl) M0.tuple fD (dt (cS 3) dI)) cQ))))))))
theorem BC {f:cF}{fd:cA}(F:mN K "_law_over" "_law_over" jj f fd) (M0:Bt mg):eE P w K mg base iK (1) f fd ["_law_game_here","_law_mine","_law_yours"] (qf fE):=by
 refine gp F kH (λm fL A outer s H E hr C0 H0=>?_)
 have hu:=hr.units;unfold kx;exact(cX (jI (f:=gf) bB rfl (gk (fN (WD.o (fN (cS 0) (WD.o da) (λ_ _=>rfl))) (WD.o da) (λ_ _=>rfl))) (fz (i:=3) kH.nd rfl (by first|exact Or.inl rfl|exact Or.inr rfl)) (cW (gZ (uZ (tZ (WD.o (WF.d (i8 4 rfl ⟨rfl,rfl,rfl,kH.nd⟩ (wj.weak (gk (cN 3))) (λ_ _ _ _ _=>(eI (tT hu) (cS 4) (cS 1))) (λ_ _ _ _ _=>(cN 4))))))) (cW (dJ da)) eN)))
  (cX (jI (f:=gg) bB rfl (gk (fN (WD.o (fN (cS 0) (WD.o da) (λ_ _=>rfl))) (WD.o da) (λ_ _=>rfl))) (fz (i:=3) kH.nd rfl (by first|exact Or.inl rfl|exact Or.inr rfl)) (cW (gZ (uZ (tZ (WD.o (WF.d (i8 4 rfl ⟨rfl,rfl,rfl,kH.nd⟩ (wj.weak (gk (cN 3))) (λ_ _ _ _ _=>(eI (MO hu) (cS 4) (cS 2))) (λ_ _ _ _ _=>(cN 4))))))) (cW (dJ w9)) eN)))
  (cW (dJ da))))
theorem yy {f:cF}{fd:cA}(F:mN K "_law_claims" "_law_claims" gU f fd) (M0:Bt mg):eE P w K mg base iK (1) f fd ["_law_game_here","_law_mine","_law_yours","_law_whose"] (qf eU):=by
 refine gp F fF (λm fL A outer s H E hr C0 H0=>?_)
 have hu:=hr.units;unfold ky;exact(cX (tX 4 9 rfl ⟨rfl,rfl,rfl,fF.nd⟩ (wj.weak (jH (by rfl) M0.range (cM (fN (WD.o (fN (cS 0) (WD.o da) (λ_ _=>rfl))) (WD.o da) (λ_ _=>rfl)) cQ))) (λ_ _ _ _ _=>(eI (tT hu) (cS 9) (WD.o (nO (cS 1) (cS 2))))) (λ_ _ _ _ _=>(cN 9)))
  (j6 4 (cX (jz 5 fF.nd (oh (cM (eT cQ) cQ)))
  (j6 5 (cX (jI (f:=fT) bB rfl (jH (by rfl) M0.range (cM (fZ (JM rfl) (by rfl) M0.min Ej (dt (WD.o (fN (cS 0) (WD.o (j5 (WD.o da) (cS 3))) (λ_ _=>rfl))) (dt (WD.o (fZ zJ (by rfl) M0.len uU (dt (cS 4) dI))) dI))) cQ)) (fz (i:=6) fF.nd rfl (by first|exact Or.inl rfl|exact Or.inr rfl)) (cX (jz 7 fF.nd (oh cQ))
  (cX (jI (f:=gM) bB rfl (qz (cN 5)) (fz (i:=8) fF.nd rfl (by first|exact Or.inl rfl|exact Or.inr rfl)) (cW (QH (pv 7) (i8 9 rfl ⟨rfl,rfl,rfl,fF.nd⟩ (AX (cS 4)) (λ_ _ _ _ _=>(Hu.pt (J0 (eI (qv hu) (cS 8) (WD.o (eT cQ))) (FT (eI (PY) (cS 9) (WD.o (fN (cS 8) (WD.o (Qx (WD.o da))) (λ_ _=>rfl)))))))) (λ_ _ _ _ _=>(nO (cS 8) (WD.o (eT (cM (cN 9) cQ)))))))))
  (j6 7 (cW (iA 5 fF.nd (cN 7)))))))
  (cW (dJ (cN 5))))))))
theorem Dz {f:cF}{fd:cA}(F:mN K "_law_put" "_law_put" jU f fd) (M0:Bt mg):eE P w K mg base iK (1) f fd ["_law_mine","_law_yours","_law_whose","_law_claim"] (qf gD):=by
 refine gp F Dt (λm fL A outer s H E hr C0 H0=>?_)
 have hu:=hr.units;unfold lK;exact(cX (gZ (eI (qv hu) (cS 2) (WD.o da)) (cW (dJ (eT (cM (eQ gz (by rfl) M0.tuple fD (dt (WD.o (WF.d (mS (rC hu) (by rfl) M0.sorted i7 (dt (WD.o (nO (cS 0) (cS 3))) dI)))) dI)) (cM (cN 1) cQ))))) eN)
  (cW (dJ (eT (cM (cN 0) (cM (eQ gz (by rfl) M0.tuple fD (dt (WD.o (WF.d (mS (rC hu) (by rfl) M0.sorted i7 (dt (WD.o (nO (cS 1) (cS 3))) dI)))) dI)) cQ))))))
theorem yz {f:cF}{fd:cA}{n:Nat}(F:mN K "_law_winner" "_law_winner" gW f fd) (M0:Bt mg) {cZ:cj}(oE:iH P w K mg base (1+n) "_law_claims" eU) (rj:iH P w K mg base (1+n) "_law_over" fE) (sX:iH P w K mg base (1+n) "_law_put" gD) (jy:Ca P w K mg base (1+n) "_law_winner" 1 BH cZ):eE P w K mg base iK (1+n+1) f fd ["_law_game_here","_law_known","_law_mine","_law_yours","_law_whose"] (RD 1 BH (xj 9 5 1 BH (λM=>iX M cZ))):=by
 refine M5 1 BH F gj (λa M fL A outer s H E hr C0 H0=>?_)
 letI:=dg a M
 have hu:=hr.units;unfold iX;exact(cX (HA [5,6,7,8] hu (eT (cM (cN 2) (cM (cN 3) (cM (cN 4) cQ)))) (pv 1) (cX (iA 5 gj.nd (de rj hr (by rfl) (cM (cN 0) (cM (cN 2) (cM (cN 3) cQ)))))
  (cX (gZ (eI (VT) (cS 5) (WD.o w9)) (cX (iA 5 gj.nd (sN (WD.o da) (cS 4)))
  (cW (jI (f:=(fU M cZ)) bB rfl (qz (de oE hr (by rfl) (cM (cN 0) (cM (cN 2) (cM (cN 3) (cM (cN 4) cQ)))))) (fz (i:=6) gj.nd rfl (by first|exact Or.inl rfl|exact Or.inr rfl)) (cX (J4 [7,8] rfl (de sX hr (by rfl) (cM (cN 2) (cM (cN 3) (cM (cN 4) (cM (cN 6) cQ))))) (oF (fz (i:=7) gj.nd rfl (by first|exact Or.inl rfl|exact Or.inr rfl)) (oF (fz (i:=8) gj.nd rfl (by first|exact Or.inl rfl|exact Or.inr rfl)) Av)))
  (cW (gZ (eI (Eh hu) (cS 5) (cS 4)) (cW (iA 5 gj.nd (t6 jy hr (by rfl) (t5 (cN 0) (t4 (pv 1) (cM (cN 7) (cM (cN 8) (cM (sN (WD.o da) (cS 4)) cQ)))))))) eN)))))) eN)
  (cW (Ey hu (cN 5) (pv 1) (eT (cM (cN 2) (cM (cN 3) (cM (cN 4) cQ)))))))))
  (cW (dJ (Ex hu (pv 1) (eT (cM (cN 2) (cM (cN 3) (cM (cN 4) cQ)))) (λ_ _=>rfl)))))
theorem zq {f:cF}{fd:cA}(F:mN K "_law_whole" "_law_whole" ir f fd) (M0:Bt mg):eE P w K mg base iK (1) f fd ["_law_found"] (qf kG):=by
 refine gp F zj (λm fL A outer s H E hr C0 H0=>?_)
 have hu:=hr.units;unfold sG;exact(cW (dJ (J2 (J3 MR JN (cS 0) (by rfl) M0.isinstance (by rfl) M0.int) (J1 (Qw (J3 JR MQ (cS 0) (by rfl) M0.isinstance (by rfl) M0.bool))))))
theorem Ro {f:cF}{fd:cA}(F:mN K "law" "law" pV f fd) (M0:Bt mg) (oE:iH P w K mg base 35 "_law_claims" eU) (DA:iH P w K mg base 35 "_law_game" dS) (rj:iH P w K mg base 35 "_law_over" fE) (v7:iH P w K mg base 35 "_law_position" gu) (sX:iH P w K mg base 35 "_law_put" gD) (BD:iH P w K mg base 35 "_law_whole" kG) (jy:Ca P w K mg base 35 "_law_winner" 1 BH (eC 10)) (zr:iH P w K mg base 35 "good_claims" ij) (DB:iH P w K mg base 35 "winner" lM) (oC:iH P w K mg base 35 "winner_from" fC):eE P w K mg base iK (36) f fd ["_law_script"] (qf GK):=by
 refine Ez F jK (λfL A outer s H E hr C0 H0=>?_)
 letI:=Mem.keep
 have hu:=hr.units;unfold Bq;exact(cX (jI (f:=o4) bB rfl (qz (WF.d (Qy (cS 0) Of (JZ (WD.o da))))) (fz (i:=1) jK.nd rfl (by first|exact Or.inl rfl|exact Or.inr rfl)) (cX (iA 2 jK.nd (de DA hr (by rfl) (cM (cN 1) (cM da (cM (j5 (WD.o da) (WD.o (eQ QF (by rfl) M0.int JN (dt (WD.o (qy (qv hu) (WD.o (AW (cS 1) (WD.o da))) (WD.o da))) dI)))) (cM da cQ))))))
  (j6 9 (Cb 3 jK.nd (λa M C1 H1=>by letI:=dg a M;unfold uA;exact(cX (gZ (Hu.pt (J0 (uZ (sO (de BD hr (by rfl) (cM (de DB hr (by rfl) (cM (cN 2) cQ)) cQ)))) (FT (eI (Eh hu) (WD.o (de DB hr (by rfl) (cM (cN 2) cQ))) (WD.o (t6 jy hr (by rfl) (t5 (cN 2) (t4 (pv 3) (cM (eT cQ) (cM (eT cQ) (cM (fN (cS 2) (WD.o da) (λ_ _=>rfl)) cQ))))))))))) (cW (dJ B5)) eN)
  (cX (jz 4 jK.nd (oh (cM (eT (cM (eT cQ) (cM (eT cQ) cQ))) (cM (de v7 hr (by rfl) (cM (cN 2) (cM (Er (cS 1) (WD.o da)) cQ))) cQ))))
  (j6 4 (cW (M3 [5,6] (f:=(qZ M)) bB rfl (qz (cN 4)) (oF (fz (i:=5) jK.nd rfl (by first|exact Or.inl rfl|exact Or.inr rfl)) (oF (fz (i:=6) jK.nd rfl (by first|exact Or.inl rfl|exact Or.inr rfl)) Av)) (cW (jI (f:=(qY M)) bB rfl (gk (eT (cM da (cM da cQ)))) (fz (i:=7) jK.nd rfl (by first|exact Or.inl rfl|exact Or.inr rfl)) (cX (iA 8 jK.nd (t6 jy hr (by rfl) (t5 (cN 2) (t4 (pv 3) (cM (cN 5) (cM (cN 6) (cM (cN 7) cQ)))))))
  (cX (gZ (eI (Eh hu) (WD.o (de oC hr (by rfl) (cM (cN 2) (cM (cN 5) (cM (cN 6) (cM (cN 7) cQ)))))) (cS 8)) (cW (dJ B5)) eN)
  (cX (jz 9 jK.nd (oh cQ))
  (cX (jI (f:=(qX M)) bB rfl (qz (de oE hr (by rfl) (cM (cN 2) (cM (cN 5) (cM (cN 6) (cM (cN 7) cQ)))))) (fz (i:=10) jK.nd rfl (by first|exact Or.inl rfl|exact Or.inr rfl)) (cX (J4 [11,12] rfl (de sX hr (by rfl) (cM (cN 5) (cM (cN 6) (cM (cN 7) (cM (cN 10) cQ))))) (oF (fz (i:=11) jK.nd rfl (by first|exact Or.inl rfl|exact Or.inr rfl)) (oF (fz (i:=12) jK.nd rfl (by first|exact Or.inl rfl|exact Or.inr rfl)) Av)))
  (cW (gZ (eI (qv hu) (WD.o (t6 jy hr (by rfl) (t5 (cN 2) (t4 (pv 3) (cM (cN 11) (cM (cN 12) (cM (sN (WD.o da) (cS 7)) cQ))))))) (cS 7)) (cW (xf (pv 9) (cN 10))) eN))))
  (cX (iA 13 jK.nd (qy (FO) (WD.o (de rj hr (by rfl) (cM (cN 2) (cM (cN 5) (cM (cN 6) cQ))))) (WD.o w9)))
  (cX (gZ (tZ (cS 13)) (cW (jz 9 jK.nd (oh cQ))) eN)
  (cX (gZ (eI (Eh hu) (WD.o (de zr hr (by rfl) (cM (cN 2) (cM (cN 5) (cM (cN 6) (cM (cN 7) cQ)))))) (WD.o (eQ gz (by rfl) M0.tuple fD (dt (cS 9) dI)))) (cW (dJ B5)) eN)
  (cW (gZ (Hu.pt (wm (uZ (tZ (cS 13))) (xc (eI (Eh hu) (WD.o (qy (qv hu) (cS 8) (cS 7))) (WD.o (qy (Eh hu) (cS 9) (WD.o (WF.d (oh cQ))))))))) (cW (dJ B5)) eN)))))))))))))))))))))
  (cW (dJ B5)))
theorem DC {f:cF}{fd:cA}{Cs:cF}(F:mN K "__init__" "Search.__init__" jV f fd) (Z:lR K (df Cs)):eE P w K mg base iK 1 f fd ["self","game"] (A0 (df Cs)):=M7 (df Cs) F Du rfl (λfL Ar outer s H E=>Kh Z (pv 0) (pv 1) (pv 0) rfl rfl)
end
theorem all_mk {l:W.OpenLaw}{w:cC}{K:W.Frag}{h:Heap}{mg:cm}(X:K.In h) (G:h.Ns mainGlobals mg) (hfa:mg "law"=some (.ref fa))
  {Cs:cF}(aC:W.nsIn K mainGlobals "Search"=some (some (.ref Cs)))
  (pgC:W.plainGet K Cs Str.empty=true)
  (hdC:W.hasDictIn K Cs=true)
  (poC:W.plainOver K Cs=true)
  (saC:W.findIn K (.ref Cs) "__setattr__"=some (some (.builtin "object.__setattr__")))
  (mkC:W.makesIn K Cs=true)
  (kcC:W.keepIn K (.ref Cs)=true)
  (nGC:W.findIn K (.ref Cs) "game"=some none)
  (nKC:W.findIn K (.ref Cs) "known"=some none)
  (aI:W.findIn K (.ref Cs) "__init__"=some (some (.ref fI))) (iI:W.isFn K (.ref fI)=true) (lI:K.lookup fI=some ⟨ocI,odI,.func (W.fnOf "__init__" "Search.__init__" (dO jV) (dw jV) (cO jV) .none kVI dcI pmI anI cdI ctI),slI⟩) (cI:W.codeIn K cdI "Search.__init__"=true) (kI:W.keepIn K (.ref fI)=true)
  (a0:W.nsIn K mainGlobals "has_all"=some (some (.ref f0))) (l0:K.lookup f0=some ⟨oc0,od0,.func (W.fnOf "has_all" "has_all" (dO lb) (dw lb) (cO lb) .none kV0 dc0 pm0 an0 cd0 ct0),sl0⟩) (c0:W.codeIn K cd0 "has_all"=true) (k0:W.keepIn K (.ref f0)=true)
  (a1:W.nsIn K mainGlobals "has_some"=some (some (.ref f1))) (l1:K.lookup f1=some ⟨oc1,od1,.func (W.fnOf "has_some" "has_some" (dO jR) (dw jR) (cO jR) .none kV1 dc1 pm1 an1 cd1 ct1),sl1⟩) (c1:W.codeIn K cd1 "has_some"=true) (k1:W.keepIn K (.ref f1)=true)
  (a2:W.nsIn K mainGlobals "at_a_time"=some (some (.ref f2))) (l2:K.lookup f2=some ⟨YQ,od2,.func (W.fnOf "at_a_time" "at_a_time" (dO jd) (dw jd) (cO jd) .none kV2 dc2 YS an2 cd2 ct2),Jf⟩) (c2:W.codeIn K cd2 "at_a_time"=true) (k2:W.keepIn K (.ref f2)=true)
  (a3:W.nsIn K mainGlobals "other_hand"=some (some (.ref f3))) (l3:K.lookup f3=some ⟨oc3,od3,.func (W.fnOf "other_hand" "other_hand" (dO ik) (dw ik) (cO ik) .none kV3 dc3 pm3 an3 cd3 ct3),sl3⟩) (c3:W.codeIn K cd3 "other_hand"=true) (k3:W.keepIn K (.ref f3)=true)
  (a4:W.nsIn K mainGlobals "choices"=some (some (.ref f4))) (l4:K.lookup f4=some ⟨oc4,od4,.func (W.fnOf "choices" "choices" (dO lh) (dw lh) (cO lh) .none kV4 dc4 pm4 an4 cd4 ct4),sl4⟩) (c4:W.codeIn K cd4 "choices"=true) (k4:W.keepIn K (.ref f4)=true)
  (a5:W.nsIn K mainGlobals "free_points"=some (some (.ref f5))) (l5:K.lookup f5=some ⟨oc5,od5,.func (W.fnOf "free_points" "free_points" (dO gP) (dw gP) (cO gP) .none kV5 dc5 pm5 an5 cd5 ct5),sl5⟩) (c5:W.codeIn K cd5 "free_points"=true) (k5:W.keepIn K (.ref f5)=true)
  (a6:W.nsIn K mainGlobals "claims"=some (some (.ref f6))) (l6:K.lookup f6=some ⟨oc6,od6,.func (W.fnOf "claims" "claims" (dO mI) (dw mI) (cO mI) .none kV6 dc6 pm6 an6 cd6 ct6),sl6⟩) (c6:W.codeIn K cd6 "claims"=true) (k6:W.keepIn K (.ref f6)=true)
  (a7:W.nsIn K mainGlobals "behind"=some (some (.ref f7))) (l7:K.lookup f7=some ⟨oc7,od7,.func (W.fnOf "behind" "behind" (dO mJ) (dw mJ) (cO mJ) .none kV7 dc7 pm7 an7 cd7 ct7),sl7⟩) (c7:W.codeIn K cd7 "behind"=true) (k7:W.keepIn K (.ref f7)=true)
  (a8:W.nsIn K mainGlobals "decided"=some (some (.ref f8))) (l8:K.lookup f8=some ⟨oc8,od8,.func (W.fnOf "decided" "decided" (dO lj) (dw lj) (cO lj) .none kV8 dc8 pm8 an8 cd8 ct8),sl8⟩) (c8:W.codeIn K cd8 "decided"=true) (k8:W.keepIn K (.ref f8)=true)
  (a9:W.nsIn K mainGlobals "free_part"=some (some (.ref f9))) (l9:K.lookup f9=some ⟨oc9,od9,.func (W.fnOf "free_part" "free_part" (dO je) (dw je) (cO je) .none kV9 dc9 pm9 an9 cd9 ct9),sl9⟩) (c9:W.codeIn K cd9 "free_part"=true) (k9:W.keepIn K (.ref f9)=true)
  (a10:W.nsIn K mainGlobals "has_another"=some (some (.ref YZ))) (l10:K.lookup YZ=some ⟨acf,acg,.func (W.fnOf "has_another" "has_another" (dO gQ) (dw gQ) (cO gQ) .none ach aci acj ack WT acm),acn⟩) (c10:W.codeIn K WT "has_another"=true) (k10:W.keepIn K (.ref YZ)=true)
  (a11:W.nsIn K mainGlobals "spoils"=some (some (.ref Y0))) (l11:K.lookup Y0=some ⟨aco,acp,.func (W.fnOf "spoils" "spoils" (dO mK) (dw mK) (cO mK) .none acq acr acs acu WU acv),acw⟩) (c11:W.codeIn K WU "spoils"=true) (k11:W.keepIn K (.ref Y0)=true)
  (a12:W.nsIn K mainGlobals "points_by_use"=some (some (.ref Y1))) (l12:K.lookup Y1=some ⟨acx,acy,.func (W.fnOf "points_by_use" "points_by_use" (dO fV) (dw fV) (cO fV) .none acz acA acB acC WV acD),acE⟩) (c12:W.codeIn K WV "points_by_use"=true) (k12:W.keepIn K (.ref Y1)=true)
  (a13:W.nsIn K mainGlobals "open_lines"=some (some (.ref Y2))) (l13:K.lookup Y2=some ⟨acF,acG,.func (W.fnOf "open_lines" "open_lines" (dO ip) (dw ip) (cO ip) .none acH acI acJ acK WW acL),acM⟩) (c13:W.codeIn K WW "open_lines"=true) (k13:W.keepIn K (.ref Y2)=true)
  (a14:W.findIn K (.ref Cs) "worth_trying"=some (some (.ref WX))) (i14:W.isFn K (.ref WX)=true) (l14:K.lookup WX=some ⟨acN,acO,.func (W.fnOf "worth_trying" "Search.worth_trying" (dO gx) (dw gx) (cO gx) .none acP acQ acR acS WY acT),acU⟩) (c14:W.codeIn K WY "Search.worth_trying"=true) (k14:W.keepIn K (.ref WX)=true)
  (a15:W.findIn K (.ref Cs) "searched"=some (some (.ref WZ))) (i15:W.isFn K (.ref WZ)=true) (l15:K.lookup WZ=some ⟨acV,acW,.func (W.fnOf "searched" "Search.searched" (dO jS) (dw jS) (cO jS) .none acX acY acZ ac0 W0 ac1),ac2⟩) (c15:W.codeIn K W0 "Search.searched"=true) (k15:W.keepIn K (.ref WZ)=true)
  (a16:W.findIn K (.ref Cs) "winner_of"=some (some (.ref W3))) (i16:W.isFn K (.ref W3)=true) (l16:K.lookup W3=some ⟨ac3,ac4,.func (W.fnOf "winner_of" "Search.winner_of" (dO jg) (dw jg) (cO jg) .none ac5 ac6 ac7 ac8 W4 ac9),ada⟩) (c16:W.codeIn K W4 "Search.winner_of"=true) (k16:W.keepIn K (.ref W3)=true)
  (a17:W.findIn K (.ref Cs) "winner_at"=some (some (.ref W5))) (i17:W.isFn K (.ref W5)=true) (l17:K.lookup W5=some ⟨adb,ade,.func (W.fnOf "winner_at" "Search.winner_at" (dO jh) (dw jh) (cO jh) .none adf adg adh adi W6 adj),adk⟩) (c17:W.codeIn K W6 "Search.winner_at"=true) (k17:W.keepIn K (.ref W5)=true)
  (a18:W.findIn K (.ref Cs) "is_good"=some (some (.ref W7))) (i18:W.isFn K (.ref W7)=true) (l18:K.lookup W7=some ⟨adl,adm,.func (W.fnOf "is_good" "Search.is_good" (dO lq) (dw lq) (cO lq) .none adn ado adp adq W8 ads),adt⟩) (c18:W.codeIn K W8 "Search.is_good"=true) (k18:W.keepIn K (.ref W7)=true)
  (a19:W.nsIn K mainGlobals "winner_from"=some (some (.ref Y3))) (l19:K.lookup Y3=some ⟨adu,adw,.func (W.fnOf "winner_from" "winner_from" (dO gR) (dw gR) (cO gR) .none adx ady adz adA W9 adB),adC⟩) (c19:W.codeIn K W9 "winner_from"=true) (k19:W.keepIn K (.ref Y3)=true)
  (a20:W.nsIn K mainGlobals "winner"=some (some (.ref Y4))) (l20:K.lookup Y4=some ⟨adD,adE,.func (W.fnOf "winner" "winner" (dO mL) (dw mL) (cO mL) .none adF adG adH adI Xa adJ),adK⟩) (c20:W.codeIn K Xa "winner"=true) (k20:W.keepIn K (.ref Y4)=true)
  (a21:W.nsIn K mainGlobals "good_claims"=some (some (.ref Y5))) (l21:K.lookup Y5=some ⟨adL,adM,.func (W.fnOf "good_claims" "good_claims" (dO gS) (dw gS) (cO gS) .none adN adO adP adQ Xb adR),adS⟩) (c21:W.codeIn K Xb "good_claims"=true) (k21:W.keepIn K (.ref Y5)=true)
  (a22:W.nsIn K mainGlobals "_law_mix"=some (some (.ref Y6))) (l22:K.lookup Y6=some ⟨adT,adU,.func (W.fnOf "_law_mix" "_law_mix" (dO jT) (dw jT) (cO jT) .none adV adW adX adY Xc adZ),ad0⟩) (c22:W.codeIn K Xc "_law_mix"=true) (k22:W.keepIn K (.ref Y6)=true)
  (a23:W.nsIn K mainGlobals "_law_field"=some (some (.ref Y7))) (l23:K.lookup Y7=some ⟨ad1,ad2,.func (W.fnOf "_law_field" "_law_field" (dO iq) (dw iq) (cO iq) .none ad3 ad4 ad5 ad6 Xd ad7),ad8⟩) (c23:W.codeIn K Xd "_law_field"=true) (k23:W.keepIn K (.ref Y7)=true)
  (a24:W.nsIn K mainGlobals "_law_game"=some (some (.ref Y8))) (l24:K.lookup Y8=some ⟨ad9,aea,.func (W.fnOf "_law_game" "_law_game" (dO ji) (dw ji) (cO ji) .none aeb aec aed aee Xe aef),aeg⟩) (c24:W.codeIn K Xe "_law_game"=true) (k24:W.keepIn K (.ref Y8)=true)
  (a25:W.nsIn K mainGlobals "_law_position"=some (some (.ref Y9))) (l25:K.lookup Y9=some ⟨aeh,aei,.func (W.fnOf "_law_position" "_law_position" (dO fW) (dw fW) (cO fW) .none aej aek ael aem Xf aen),aeo⟩) (c25:W.codeIn K Xf "_law_position"=true) (k25:W.keepIn K (.ref Y9)=true)
  (a26:W.nsIn K mainGlobals "_law_over"=some (some (.ref Za))) (l26:K.lookup Za=some ⟨aep,aeq,.func (W.fnOf "_law_over" "_law_over" (dO jj) (dw jj) (cO jj) .none aer aes aet aeu Xg aev),aew⟩) (c26:W.codeIn K Xg "_law_over"=true) (k26:W.keepIn K (.ref Za)=true)
  (a27:W.nsIn K mainGlobals "_law_claims"=some (some (.ref Zb))) (l27:K.lookup Zb=some ⟨aex,aey,.func (W.fnOf "_law_claims" "_law_claims" (dO gU) (dw gU) (cO gU) .none aez aeA aeB aeC Xh aeD),aeE⟩) (c27:W.codeIn K Xh "_law_claims"=true) (k27:W.keepIn K (.ref Zb)=true)
  (a28:W.nsIn K mainGlobals "_law_put"=some (some (.ref Zc))) (l28:K.lookup Zc=some ⟨aeF,aeG,.func (W.fnOf "_law_put" "_law_put" (dO jU) (dw jU) (cO jU) .none aeH aeI aeJ aeK Xi aeL),aeM⟩) (c28:W.codeIn K Xi "_law_put"=true) (k28:W.keepIn K (.ref Zc)=true)
  (a29:W.nsIn K mainGlobals "_law_winner"=some (some (.ref Zd))) (l29:K.lookup Zd=some ⟨aeN,aeO,.func (W.fnOf "_law_winner" "_law_winner" (dO gW) (dw gW) (cO gW) .none aeP aeQ aeR aeS Xj aeT),aeU⟩) (c29:W.codeIn K Xj "_law_winner"=true) (k29:W.keepIn K (.ref Zd)=true)
  (a30:W.nsIn K mainGlobals "_law_whole"=some (some (.ref Ze))) (l30:K.lookup Ze=some ⟨aeV,aeW,.func (W.fnOf "_law_whole" "_law_whole" (dO ir) (dw ir) (cO ir) .none aeX aeY aeZ ae0 Xk ae1),ae2⟩) (c30:W.codeIn K Xk "_law_whole"=true) (k30:W.keepIn K (.ref Ze)=true)
  (a31:W.nsIn K mainGlobals "law"=some (some (.ref Zf))) (l31:K.lookup Zf=some ⟨ae3,ae4,.func (W.fnOf "law" "law" (dO pV) (dw pV) (cO pV) .none Xl Xm Xn Xo Uq Xp),ae5⟩) (c31:W.codeIn K Uq "law"=true) (k31:W.keepIn K (.ref Zf)=true)
  (z0:W.nsIn K mainGlobals "all"=some none)
  (z1:W.nsIn K mainGlobals "any"=some none)
  (z2:W.nsIn K mainGlobals "bool"=some none)
  (z3:W.nsIn K mainGlobals "int"=some none)
  (z4:W.nsIn K mainGlobals "isinstance"=some none)
  (z5:W.nsIn K mainGlobals "len"=some none)
  (z6:W.nsIn K mainGlobals "list"=some none)
  (z7:W.nsIn K mainGlobals "min"=some none)
  (z8:W.nsIn K mainGlobals "range"=some none)
  (z9:W.nsIn K mainGlobals "set"=some none)
  (z10:W.nsIn K mainGlobals "sorted"=some none)
  (z11:W.nsIn K mainGlobals "tuple"=some none)
  {t0:Tok}(y0:W.nsIn K mainGlobals "BUILDER"=some (some (.int 0 t0)))
  {t1:Tok}(y1:W.nsIn K mainGlobals "GUARD"=some (some (.int 1 t1)))
  (tq:(W.tabIn K "points_by_use").isSome=true)
  :∃fd:cA,(∀(s:cz) (v:cy),BindsTo s fd ⟨[v],[]⟩ [("_law_script",v)])/\∀base:Heap,K.In base->base.Ns mainGlobals mg->eE l.prog w K mg base iK 65 fa fd ["_law_script"] (qf GK):=by
 have e:=hfa.symm.trans (aP X G a31);cases e;have F0:=eL (st:=lb) l0 c0 k0;have b0:=F0.binds (ps:=["points","line"]) λ_ _ _ _ _ _ us hl=>match us,hl with|[_,_],_=>rfl
 have F1:=eL (st:=jR) l1 c1 k1;have b1:=F1.binds (ps:=["points","line"]) λ_ _ _ _ _ _ us hl=>match us,hl with|[_,_],_=>rfl
 have F2:=eL (st:=jd) l2 c2 k2;have b2:=F2.binds (ps:=["game","whose"]) λ_ _ _ _ _ _ us hl=>match us,hl with|[_,_],_=>rfl
 have F3:=eL (st:=ik) l3 c3 k3;have b3:=F3.binds (ps:=["hand"]) λ_ _ _ _ _ _ us hl=>match us,hl with|[_],_=>rfl
 have F4:=eL (st:=lh) l4 c4 k4;have b4:=F4.binds (ps:=["points","count"]) λ_ _ _ _ _ _ us hl=>match us,hl with|[_,_],_=>rfl
 have F5:=eL (st:=gP) l5 c5 k5;have b5:=F5.binds (ps:=["field","mine","yours"]) λ_ _ _ _ _ _ us hl=>match us,hl with|[_,_,_],_=>rfl
 have F6:=eL (st:=mI) l6 c6 k6;have b6:=F6.binds (ps:=["game","mine","yours","whose"]) λ_ _ _ _ _ _ us hl=>match us,hl with|[_,_,_,_],_=>rfl
 have F7:=eL (st:=mJ) l7 c7 k7;have b7:=F7.binds (ps:=["mine","yours","whose","claim"]) λ_ _ _ _ _ _ us hl=>match us,hl with|[_,_,_,_],_=>rfl
 have F8:=eL (st:=lj) l8 c8 k8;have b8:=F8.binds (ps:=["game","mine","yours"]) λ_ _ _ _ _ _ us hl=>match us,hl with|[_,_,_],_=>rfl
 have F9:=eL (st:=je) l9 c9 k9;have b9:=F9.binds (ps:=["line","mine"]) λ_ _ _ _ _ _ us hl=>match us,hl with|[_,_],_=>rfl
 have Zg:=eL (st:=gQ) l10 c10 k10;have Uj:=Zg.binds (ps:=["line","lines"]) λ_ _ _ _ _ _ us hl=>match us,hl with|[_,_],_=>rfl
 have Zh:=eL (st:=mK) l11 c11 k11;have Uk:=Zh.binds (ps:=["points","lines"]) λ_ _ _ _ _ _ us hl=>match us,hl with|[_,_],_=>rfl
 have Zi:=eL (st:=fV) l12 c12 k12;have Ul:=Zi.binds (ps:=["lines"]) λ_ _ _ _ _ _ us hl=>match us,hl with|[_],_=>rfl
 have Zj:=eL (st:=ip) l13 c13 k13;have Um:=Zj.binds (ps:=["lines","mine","yours"]) λ_ _ _ _ _ _ us hl=>match us,hl with|[_,_,_],_=>rfl
 have Zk:=eL (st:=gx) l14 c14 k14;have b14:=Zk.binds (ps:=["self","lines","whose"]) λ_ _ _ _ _ _ us hl=>match us,hl with|[_,_,_],_=>rfl
 have Zl:=eL (st:=jS) l15 c15 k15;have Zm:=Zl.binds (ps:=["self","lines","whose"]) λ_ _ _ _ _ _ us hl=>match us,hl with|[_,_,_],_=>rfl
 have Zn:=eL (st:=jg) l16 c16 k16;have Zo:=Zn.binds (ps:=["self","lines","whose"]) λ_ _ _ _ _ _ us hl=>match us,hl with|[_,_,_],_=>rfl
 have Zp:=eL (st:=jh) l17 c17 k17;have b17:=Zp.binds (ps:=["self","mine","yours","whose"]) λ_ _ _ _ _ _ us hl=>match us,hl with|[_,_,_,_],_=>rfl
 have Zq:=eL (st:=lq) l18 c18 k18;have b18:=Zq.binds (ps:=["self","mine","yours","whose","claim"]) λ_ _ _ _ _ _ us hl=>match us,hl with|[_,_,_,_,_],_=>rfl
 have Zr:=eL (st:=gR) l19 c19 k19;have b19:=Zr.binds (ps:=["game","mine","yours","whose"]) λ_ _ _ _ _ _ us hl=>match us,hl with|[_,_,_,_],_=>rfl
 have Zs:=eL (st:=mL) l20 c20 k20;have b20:=Zs.binds (ps:=["game"]) λ_ _ _ _ _ _ us hl=>match us,hl with|[_],_=>rfl
 have Zt:=eL (st:=gS) l21 c21 k21;have b21:=Zt.binds (ps:=["game","mine","yours","whose"]) λ_ _ _ _ _ _ us hl=>match us,hl with|[_,_,_,_],_=>rfl
 have Zu:=eL (st:=jT) l22 c22 k22;have b22:=Zu.binds (ps:=["_law_cell_here","_law_prime","_law_many"]) λ_ _ _ _ _ _ us hl=>match us,hl with|[_,_,_],_=>rfl
 have Zv:=eL (st:=iq) l23 c23 k23;have b23:=Zv.binds (ps:=["_law_cell_here","_law_least","_law_most","_law_lines"]) λ_ _ _ _ _ _ us hl=>match us,hl with|[_,_,_,_],_=>rfl
 have Zw:=eL (st:=ji) l24 c24 k24;have b24:=Zw.binds (ps:=["_law_cell_here","_law_least","_law_most","_law_lines"]) λ_ _ _ _ _ _ us hl=>match us,hl with|[_,_,_,_],_=>rfl
 have Zx:=eL (st:=fW) l25 c25 k25;have b25:=Zx.binds (ps:=["_law_game_here","_law_cell_here"]) λ_ _ _ _ _ _ us hl=>match us,hl with|[_,_],_=>rfl
 have Zy:=eL (st:=jj) l26 c26 k26;have b26:=Zy.binds (ps:=["_law_game_here","_law_mine","_law_yours"]) λ_ _ _ _ _ _ us hl=>match us,hl with|[_,_,_],_=>rfl
 have Zz:=eL (st:=gU) l27 c27 k27;have b27:=Zz.binds (ps:=["_law_game_here","_law_mine","_law_yours","_law_whose"]) λ_ _ _ _ _ _ us hl=>match us,hl with|[_,_,_,_],_=>rfl
 have ZA:=eL (st:=jU) l28 c28 k28;have b28:=ZA.binds (ps:=["_law_mine","_law_yours","_law_whose","_law_claim"]) λ_ _ _ _ _ _ us hl=>match us,hl with|[_,_,_,_],_=>rfl
 have ZC:=eL (st:=gW) l29 c29 k29;have ZD:=ZC.binds (ps:=["_law_game_here","_law_known","_law_mine","_law_yours","_law_whose"]) λ_ _ _ _ _ _ us hl=>match us,hl with|[_,_,_,_,_],_=>rfl
 have ZE:=eL (st:=ir) l30 c30 k30;have b30:=ZE.binds (ps:=["_law_found"]) λ_ _ _ _ _ _ us hl=>match us,hl with|[_],_=>rfl
 have F31:=eL (st:=pV) l31 c31 k31;have M0:Bt mg:=⟨bG X G z0,bG X G z1,bG X G z2,bG X G z3,bG X G z4,bG X G z5,bG X G z6,bG X G z7,bG X G z8,bG X G z9,bG X G z10,bG X G z11,⟨_,aP X G y0⟩,⟨_,aP X G y1⟩⟩;refine⟨W.fnOf "law" "law" (dO pV) (dw pV) (cO pV) .none Xl Xm Xn Xo Uq Xp,λs v=>.of_eq rfl,λbase _ _=>?_⟩
 have Z:lR K (df Cs):=⟨⟨pgC,hdC,poC,saC⟩,nGC,nKC⟩;have FI:=eL (st:=jV) lI cI kI;have bI:=FI.binds (ps:=["self","game"]) λ_ _ _ _ _ _ us hl=>match us,hl with|[_,_],_=>rfl
 have DD:sQ l.prog w K mg base 1 (df Cs) "Search":=⟨_,_,_,DC FI Z,⟨mkC,aI,iI,kcC⟩,aP X G aC,bI,(show Str.ofString "known"≠Str.ofString "game" by decide +kernel)⟩
 obtain⟨⟨ctq,Ptq⟩,ZF⟩:=Option.isSome_iff_exists.mp tq;have hcq:=K2 a12 l12 ZF;have C0:iH l.prog w K mg base 1 "has_all" ie:=⟨_,_,_,Fj F0 M0,aP X G a0,k0,b0⟩;have C1:iH l.prog w K mg base 1 "has_some" fu:=⟨_,_,_,Dv F1 M0,aP X G a1,k1,b1⟩;have C2:iH l.prog w K mg base 1 "at_a_time" dW:=⟨_,_,_,Bw F2 M0,aP X G a2,k2,b2⟩;have C3:iH l.prog w K mg base 1 "other_hand" eV:=⟨_,_,_,zk F3 M0,aP X G a3,k3,b3⟩;have CR:∀n:Nat,(iH l.prog w K mg base (1+n) "choices" (ff n)):=by
  intro n;induction n with
  |zero=>exact⟨_,_,_,M4,aP X G a4,k4,b4⟩
  |succ n ih=>
   exact⟨_,_,_,(Fl (n:=1+n) F4 M0 (iH.mono ih (by omega))).mono (by omega),aP X G a4,k4,b4⟩
 have C4:=(CR 5);clear CR;have C5:iH l.prog w K mg base 1 "free_points" ig:=⟨_,_,_,yq F5 M0,aP X G a5,k5,b5⟩;have C6:iH l.prog w K mg base 7 "claims" nr:=⟨_,_,_,Io F6 M0 (C2.mono (by decide)) (C4.mono (by decide)) (C5.mono (by decide)),aP X G a6,k6,b6⟩
 have C7:iH l.prog w K mg base 1 "behind" nt:=⟨_,_,_,Ip F7 M0,aP X G a7,k7,b7⟩;have C8:iH l.prog w K mg base 2 "decided" mG:=⟨_,_,_,Fm F8 M0 (C0.mono (by decide)) (C1.mono (by decide)),aP X G a8,k8,b8⟩
 have C9:iH l.prog w K mg base 1 "free_part" jP:=⟨_,_,_,Bx F9 M0,aP X G a9,k9,b9⟩;have C10:iH l.prog w K mg base 2 "has_another" jw:=⟨_,_,_,yr Zg M0 (C0.mono (by decide)),aP X G a10,k10,Uj⟩
 have C11:iH l.prog w K mg base 2 "spoils" qU:=⟨_,_,_,Iq Zh M0 (C1.mono (by decide)),aP X G a11,k11,Uk⟩
 have C12:iH l.prog w K mg base 1 "points_by_use" gw:=⟨_,_,_,vh Zi M0 ZF hcq,aP X G a12,k12,Ul⟩;have ZG:iH l.prog w K mg base 3 "open_lines" fB:=⟨_,_,_,zm Zj M0 (C9.mono (by decide)) (C10.mono (by decide)) (C1.mono (by decide)),aP X G a13,k13,Um⟩
 have C14:j9 l.prog w K mg base 7 (df Cs) "worth_trying" gN:=⟨_,_,_,v3 Zk M0 Z (C2.mono (by decide)) (C4.mono (by decide)) (C12.mono (by decide)) (C11.mono (by decide)),⟨a14,i14,k14⟩,b14,(show Str.ofString "worth_trying"≠Str.ofString "game" by decide +kernel),(show Str.ofString "worth_trying"≠Str.ofString "known" by decide +kernel)⟩
 have CR:∀n:Nat,(j9 l.prog w K mg base (8+n) (df Cs) "searched" (nz n))/\(j9 l.prog w K mg base (8+n) (df Cs) "winner_of" (g7 n)):=by
  intro n;induction n with
  |zero=>exact⟨⟨_,_,_,Ci,⟨a15,i15,k15⟩,Zm,(show Str.ofString "searched"≠Str.ofString "game" by decide +kernel),(show Str.ofString "searched"≠Str.ofString "known" by decide +kernel)⟩,⟨_,_,_,Ci,⟨a16,i16,k16⟩,Zo,(show Str.ofString "winner_of"≠Str.ofString "game" by decide +kernel),(show Str.ofString "winner_of"≠Str.ofString "known" by decide +kernel)⟩⟩
  |succ n ih=>
   exact⟨⟨_,_,_,(Dx (n:=1+n) Zl M0 Z (C2.mono (by omega)) (C7.mono (by omega)) (ZG.mono (by omega)) (C3.mono (by omega)) (j9.mono ih.2 (by omega)) (C14.mono (by omega))).mono (by omega),⟨a15,i15,k15⟩,Zm,(show Str.ofString "searched"≠Str.ofString "game" by decide +kernel),(show Str.ofString "searched"≠Str.ofString "known" by decide +kernel)⟩,⟨_,_,_,(By (n:=1+n) Zn M0 Z (j9.mono ih.1 (by omega))).mono (by omega),⟨a16,i16,k16⟩,Zo,(show Str.ofString "winner_of"≠Str.ofString "game" by decide +kernel),(show Str.ofString "winner_of"≠Str.ofString "known" by decide +kernel)⟩⟩
 have C15:=(CR 24).1;have C16:=(CR 24).2;clear CR;have ZH:j9 l.prog w K mg base 33 (df Cs) "winner_at" iW:=⟨_,_,_,Bz Zp M0 Z (ZG.mono (by decide)) (C16.mono (by decide)),⟨a17,i17,k17⟩,b17,(show Str.ofString "winner_at"≠Str.ofString "game" by decide +kernel),(show Str.ofString "winner_at"≠Str.ofString "known" by decide +kernel)⟩
 have C18:j9 l.prog w K mg base 34 (df Cs) "is_good" rR:=⟨_,_,_,Fo Zq M0 Z (C7.mono (by decide)) (C3.mono (by decide)) (ZH.mono (by decide)),⟨a18,i18,k18⟩,b18,(show Str.ofString "is_good"≠Str.ofString "game" by decide +kernel),(show Str.ofString "is_good"≠Str.ofString "known" by decide +kernel)⟩
 have ZI:iH l.prog w K mg base 34 "winner_from" fC:=⟨_,_,_,yv Zr M0 Z (DD.mono (by decide)) (ZH.mono (by decide)),aP X G a19,k19,b19⟩
 have C20:iH l.prog w K mg base 35 "winner" lM:=⟨_,_,_,Ir Zs M0 (ZI.mono (by decide)),aP X G a20,k20,b20⟩
 have C21:iH l.prog w K mg base 35 "good_claims" ij:=⟨_,_,_,yx Zt M0 Z (DD.mono (by decide)) (C6.mono (by decide)) (C8.mono (by decide)) (C18.mono (by decide)),aP X G a21,k21,b21⟩
 have Xq:iH l.prog w K mg base 1 "_law_mix" dv:=⟨_,_,_,Dy Zu M0,aP X G a22,k22,b22⟩;have C23:iH l.prog w K mg base 2 "_law_field" dH:=⟨_,_,_,zp Zv M0 (Xq.mono (by decide)),aP X G a23,k23,b23⟩
 have C24:iH l.prog w K mg base 3 "_law_game" dS:=⟨_,_,_,BA Zw M0 (C23.mono (by decide)) (Xq.mono (by decide)),aP X G a24,k24,b24⟩
 have C25:iH l.prog w K mg base 2 "_law_position" gu:=⟨_,_,_,vi Zx M0 (Xq.mono (by decide)),aP X G a25,k25,b25⟩
 have ZJ:iH l.prog w K mg base 1 "_law_over" fE:=⟨_,_,_,BC Zy M0,aP X G a26,k26,b26⟩;have ZK:iH l.prog w K mg base 1 "_law_claims" eU:=⟨_,_,_,yy Zz M0,aP X G a27,k27,b27⟩;have ZL:iH l.prog w K mg base 1 "_law_put" gD:=⟨_,_,_,Dz ZA M0,aP X G a28,k28,b28⟩;have CR:∀n:Nat,(Ca l.prog w K mg base (2+n) "_law_winner" 1 BH (eC n)):=by
  intro n;induction n with
  |zero=>exact⟨_,_,_,Kc,aP X G a29,k29,ZD⟩
  |succ n ih=>
   exact⟨_,_,_,(yz (n:=1+n) ZC M0 (ZK.mono (by omega)) (ZJ.mono (by omega)) (ZL.mono (by omega)) (Ca.mono ih (by omega))).mono (by omega),aP X G a29,k29,ZD⟩
 have C29:=(CR 10);clear CR;have C30:iH l.prog w K mg base 1 "_law_whole" kG:=⟨_,_,_,zq ZE M0,aP X G a30,k30,b30⟩;exact(Ro F31 M0 (ZK.mono (by decide)) (C24.mono (by decide)) (ZJ.mono (by decide)) (C25.mono (by decide)) (ZL.mono (by decide)) (C30.mono (by decide)) (C29.mono (by decide)) (C21.mono (by decide)) (C20.mono (by decide)) (ZI.mono (by decide))).mono (by decide)
end K4
noncomputable def K4.view:PySem.Program:={PySem.Challenge.pw_fieldclaim_k04_whole_who_has_its_way with main:={PySem.Challenge.pw_fieldclaim_k04_whole_who_has_its_way.main with body:=[K4.top 1,K4.top 2,K4.top 3,K4.top 4,K4.top 5,K4.top 6,K4.top 7,K4.top 8,K4.top 9,K4.top 10,K4.top 11,K4.top 13,K4.top 14,K4.top 15,K4.top 16,K4.top 17,K4.top 18,K4.top 19,K4.top 20,K4.top 21,K4.top 23,K4.top 24,K4.top 25,K4.top 26,K4.top 27,K4.top 28,K4.top 29,K4.top 30,K4.top 31,K4.top 32,K4.top 33]}}
open PySem PySem.W PyProof.Rows
local macro_rules|`(tactic|o_head $H)=>do let hl:=Lean.mkIdent `hl;let hw:=Lean.mkIdent `hw;let hc:=Lean.mkIdent `hc;`(tactic|(refine holds_open (q:=K4.view) (loose:=[]) (Xt:=λs=>xlAt K4.view [] s&&recOk (RowW.records (OpenRow.toRowW (OpenLaw.row PySem.Challenge.rw_fieldclaim_k04_whole_who_has_its_way))) s) (XP:=XL K4.view []) (Yf:=Hook.obs $H) (Ya:=Hook.val $H) (YP:=Hook.says $H) (N:=2638) ?$hl (Hook.of $H) (Hook.keeps $H) (λs e=>xl_of s (Bool.and_eq_true_iff.mp e).1) XL.keeps (by rfl) (by rfl) (by rfl) (λs e=>recFacts_of (Bool.and_eq_true_iff.mp e).2) (by rfl) (by first|assumption|decide +kernel) (by decide +kernel) ⟨rfl,rfl,rfl,rfl,rfl,by decide +kernel⟩ ?$hw ?$hc;(case $hl:ident=>intro w;kernel_rfl)))
set_option maxRecDepth 100000 in
set_option maxHeartbeats 0 in
theorem PySem.Challenge.cw_fieldclaim_k04_whole_who_has_its_way_holds : PySem.Challenge.rw_fieldclaim_k04_whole_who_has_its_way.Holds := by
 w_on;o_law;k_head;(case hw=>w_witness2)
 k_fill
 refine DL.Th (l:=PySem.Challenge.rw_fieldclaim_k04_whole_who_has_its_way) (x:="_law_script") (g:=K4.GK) rfl rfl (λw h Y=>by first|exact PySem.W.kIn_of Y|exact PySem.W.km_in_of Y) K4.NO ?R ?F
 case R=>intro t ht;simp only[L2.vK,bw]at ht;subst ht;kernel_rfl
 case F=>
  intro w mg fa h KX G SG;refine⟨?z,?t,?r⟩
  case z=>kernel_rfl
  case t=>kernel_rfl
  case r=>
   refine' K4.all_mk KX G SG ?aC ?pgC ?hdC ?poC ?saC ?mkC ?kcC ?nGC ?nKC ?aI ?iI ?lI ?cI ?kI ?a0 ?l0 ?c0 ?k0 ?a1 ?l1 ?c1 ?k1 ?a2 ?l2 ?c2 ?k2 ?a3 ?l3 ?c3 ?k3 ?a4 ?l4 ?c4 ?k4 ?a5 ?l5 ?c5 ?k5 ?a6 ?l6 ?c6 ?k6 ?a7 ?l7 ?c7 ?k7 ?a8 ?l8 ?c8 ?k8 ?a9 ?l9 ?c9 ?k9 ?a10 ?l10 ?c10 ?k10 ?a11 ?l11 ?c11 ?k11 ?a12 ?l12 ?c12 ?k12 ?a13 ?l13 ?c13 ?k13 ?a14 ?i14 ?l14 ?c14 ?k14 ?a15 ?i15 ?l15 ?c15 ?k15 ?a16 ?i16 ?l16 ?c16 ?k16 ?a17 ?i17 ?l17 ?c17 ?k17 ?a18 ?i18 ?l18 ?c18 ?k18 ?a19 ?l19 ?c19 ?k19 ?a20 ?l20 ?c20 ?k20 ?a21 ?l21 ?c21 ?k21 ?a22 ?l22 ?c22 ?k22 ?a23 ?l23 ?c23 ?k23 ?a24 ?l24 ?c24 ?k24 ?a25 ?l25 ?c25 ?k25 ?a26 ?l26 ?c26 ?k26 ?a27 ?l27 ?c27 ?k27 ?a28 ?l28 ?c28 ?k28 ?a29 ?l29 ?c29 ?k29 ?a30 ?l30 ?c30 ?k30 ?a31 ?l31 ?c31 ?k31 ?z0 ?z1 ?z2 ?z3 ?z4 ?z5 ?z6 ?z7 ?z8 ?z9 ?z10 ?z11 ?y0 ?y1 ?tq
   (case aC=>k_is)
   (case pgC=>k_is)
   (case hdC=>k_is)
   (case poC=>k_is)
   (case saC=>k_is)
   (case mkC=>k_is)
   (case kcC=>k_is)
   (case nGC=>k_is)
   (case nKC=>k_is)
   (case aI=>k_is)
   (case iI=>k_is)
   (case lI=>k_is)
   (case cI=>k_is)
   (case kI=>k_is)
   (case tq=>kernel_rfl)
   (case a0=>k_is);(case l0=>k_is);(case c0=>k_is);(case k0=>k_is)
   (case a1=>k_is);(case l1=>k_is);(case c1=>k_is);(case k1=>k_is)
   (case a2=>k_is);(case l2=>k_is);(case c2=>k_is);(case k2=>k_is)
   (case a3=>k_is);(case l3=>k_is);(case c3=>k_is);(case k3=>k_is)
   (case a4=>k_is);(case l4=>k_is);(case c4=>k_is);(case k4=>k_is)
   (case a5=>k_is);(case l5=>k_is);(case c5=>k_is);(case k5=>k_is)
   (case a6=>k_is);(case l6=>k_is);(case c6=>k_is);(case k6=>k_is)
   (case a7=>k_is);(case l7=>k_is);(case c7=>k_is);(case k7=>k_is)
   (case a8=>k_is);(case l8=>k_is);(case c8=>k_is);(case k8=>k_is)
   (case a9=>k_is);(case l9=>k_is);(case c9=>k_is);(case k9=>k_is)
   (case a10=>k_is);(case l10=>k_is);(case c10=>k_is);(case k10=>k_is)
   (case a11=>k_is);(case l11=>k_is);(case c11=>k_is);(case k11=>k_is)
   (case a12=>k_is);(case l12=>k_is);(case c12=>k_is);(case k12=>k_is)
   (case a13=>k_is);(case l13=>k_is);(case c13=>k_is);(case k13=>k_is)
   (case a14=>k_is);(case i14=>k_is);(case l14=>k_is);(case c14=>k_is);(case k14=>k_is)
   (case a15=>k_is);(case i15=>k_is);(case l15=>k_is);(case c15=>k_is);(case k15=>k_is)
   (case a16=>k_is);(case i16=>k_is);(case l16=>k_is);(case c16=>k_is);(case k16=>k_is)
   (case a17=>k_is);(case i17=>k_is);(case l17=>k_is);(case c17=>k_is);(case k17=>k_is)
   (case a18=>k_is);(case i18=>k_is);(case l18=>k_is);(case c18=>k_is);(case k18=>k_is)
   (case a19=>k_is);(case l19=>k_is);(case c19=>k_is);(case k19=>k_is)
   (case a20=>k_is);(case l20=>k_is);(case c20=>k_is);(case k20=>k_is)
   (case a21=>k_is);(case l21=>k_is);(case c21=>k_is);(case k21=>k_is)
   (case a22=>k_is);(case l22=>k_is);(case c22=>k_is);(case k22=>k_is)
   (case a23=>k_is);(case l23=>k_is);(case c23=>k_is);(case k23=>k_is)
   (case a24=>k_is);(case l24=>k_is);(case c24=>k_is);(case k24=>k_is)
   (case a25=>k_is);(case l25=>k_is);(case c25=>k_is);(case k25=>k_is)
   (case a26=>k_is);(case l26=>k_is);(case c26=>k_is);(case k26=>k_is)
   (case a27=>k_is);(case l27=>k_is);(case c27=>k_is);(case k27=>k_is)
   (case a28=>k_is);(case l28=>k_is);(case c28=>k_is);(case k28=>k_is)
   (case a29=>k_is);(case l29=>k_is);(case c29=>k_is);(case k29=>k_is)
   (case a30=>k_is);(case l30=>k_is);(case c30=>k_is);(case k30=>k_is)
   (case a31=>k_is);(case l31=>k_is);(case c31=>k_is);(case k31=>k_is)
   (case z0=>k_is)
   (case z1=>k_is)
   (case z2=>k_is)
   (case z3=>k_is)
   (case z4=>k_is)
   (case z5=>k_is)
   (case z6=>k_is)
   (case z7=>k_is)
   (case z8=>k_is)
   (case z9=>k_is)
   (case z10=>k_is)
   (case z11=>k_is)
   (case y0=>k_is)
   (case y1=>k_is)
