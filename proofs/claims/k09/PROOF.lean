import PyProof.Rows.All
import Wide.All
import OpenK.AllK
import Wide.FinOn
import Lean
import PyProof.EqAt
import PyProof.EqKinds
import PyProof.TupleCall
import KE.KSortTup
import KE.KLam
import KE.KTryMore
import PyProof.NsDelKeeps
import PyProof.RulesAs
import PyProof.Rows.SumAny
import PySem.SetTable
import KE.KDictList
import PyProof.TupleOfStr
import KE.KMinBuiltin
import PyProof.WalksMore
import PySem.Challenge.RW_fieldclaim_k09_whole_handicaps
set_option Elab.async false
set_option linter.all false
set_option maxRecDepth 100000
set_option maxHeartbeats 4000000
theorem aa:type_of% @PySem.wpAny_bind:=@PySem.wpAny_bind
theorem ae.{jr,Kp}:type_of% @List.length_map.{jr,Kp}:=@List.length_map
theorem af.{jr}:type_of% @List.mem_cons_self.{jr}:=@List.mem_cons_self
theorem ag:type_of% @PySem.Heap.get?_push_of_some:=@PySem.Heap.get?_push_of_some
theorem ah.{jr}:type_of% @List.getElem?_eq_getElem.{jr}:=@List.getElem?_eq_getElem
theorem ai.{jr}:type_of% @List.mem_cons_of_mem.{jr}:=@List.mem_cons_of_mem
theorem aj:type_of% @PySem.wpAny_pure:=@PySem.wpAny_pure
theorem ak.{jr}:type_of% @List.getD_eq_getElem?_getD.{jr}:=@List.getD_eq_getElem?_getD
theorem ao.{jr,Kp}:type_of% @Option.bind_some.{jr,Kp}:=@Option.bind_some
theorem aq.{u}:type_of% @List.size_toArray.{u}:=@List.size_toArray
theorem au:type_of% @Nat.le_refl:=@Nat.le_refl
theorem av.{jr,Kp}:type_of% @List.getElem?_map.{jr,Kp}:=@List.getElem?_map
theorem aw:type_of% @Nat.lt_of_lt_of_le:=@Nat.lt_of_lt_of_le
theorem ay.{u}:type_of% @List.length_cons.{u}:=@List.length_cons
theorem az:type_of% @PySem.Heap.get?_push_size:=@PySem.Heap.get?_push_size
theorem aB:type_of% @PySem.Heap.lt_size:=@PySem.Heap.lt_size
theorem aD:type_of% @Nat.le_trans:=@Nat.le_trans
theorem aE:type_of% @Nat.ne_of_lt:=@Nat.ne_of_lt
theorem aF.{u,v}:type_of% @List.map_cons.{u,v}:=@List.map_cons
theorem aG.{jr}:type_of% @List.getElem?_set_ne.{jr}:=@List.getElem?_set_ne
theorem aH:type_of% @decide_eq_false:=@decide_eq_false
theorem aI:type_of% @Bool.false_eq_true:=@Bool.false_eq_true
theorem aJ.{jr}:type_of% @List.getElem?_append_left.{jr}:=@List.getElem?_append_left
theorem aK.{jr}:type_of% @List.getElem?_cons_succ.{jr}:=@List.getElem?_cons_succ
theorem aL.{u}:type_of% @List.mem_append_right.{u}:=@List.mem_append_right
theorem aM.{jr}:type_of% @List.getElem?_cons_zero.{jr}:=@List.getElem?_cons_zero
theorem aN.{jr}:type_of% @Array.length_toList.{jr}:=@Array.length_toList
theorem aP.{jr}:type_of% @List.getElem?_append_right.{jr}:=@List.getElem?_append_right
theorem aQ.{u}:type_of% @List.length_append.{u}:=@List.length_append
theorem aR:type_of% @decide_eq_true:=@decide_eq_true
theorem aS.{u}:type_of% @Option.some.inj.{u}:=@Option.some.inj
theorem aT.{jr}:type_of% @Array.getD_eq_getD_getElem?.{jr}:=@Array.getD_eq_getD_getElem?
theorem aU.{jr}:type_of% @Array.getElem?_eq_getElem.{jr}:=@Array.getElem?_eq_getElem
theorem aV.{jr,Kp,u_3}:type_of% @List.map_map.{jr,Kp,u_3}:=@List.map_map
theorem aW.{jr}:type_of% @List.length_filter_le.{jr}:=@List.length_filter_le
theorem aZ:type_of% @Bool.false_ne_true:=@Bool.false_ne_true
theorem bc.{jr}:type_of% @List.getElem?_set_self.{jr}:=@List.getElem?_set_self
theorem bg:type_of% @Nat.le_of_lt:=@Nat.le_of_lt
theorem bh.{jr}:type_of% @List.mem_of_getElem?.{jr}:=@List.mem_of_getElem?
theorem bo:type_of% @PySem.wpAny_holding:=@PySem.wpAny_holding
theorem bp.{jr}:type_of% @List.getElem?_of_mem.{jr}:=@List.getElem?_of_mem
theorem bq.{u,jr}:type_of% @List.lookup_cons.{u,jr}:=@List.lookup_cons
theorem br.{jr}:type_of% @List.filter_cons.{jr}:=@List.filter_cons
theorem bt.{jr}:type_of% @List.mem_singleton.{jr}:=@List.mem_singleton
theorem bu:type_of% @PySem.sizeLine_eq:=@PySem.sizeLine_eq
theorem bw:type_of% @Nat.ne_of_gt:=@Nat.ne_of_gt
theorem bx:type_of% @PySem.Heap.get?_update_other:=@PySem.Heap.get?_update_other
theorem bz:type_of% @PySem.PassesOwn.never:=@PySem.PassesOwn.never
theorem bA.{jr,Kp}:type_of% @Option.map_some.{jr,Kp}:=@Option.map_some
theorem bB.{u}:type_of% @List.append_nil.{u}:=@List.append_nil
theorem bC.{u}:type_of% @List.mem_append_left.{u}:=@List.mem_append_left
theorem bD.{jr}:type_of% @if_false.{jr}:=@if_false
theorem bE:type_of% @PySem.W.mg_none_of:=@PySem.W.mg_none_of
theorem bF.{jr}:type_of% @List.any_cons.{jr}:=@List.any_cons
theorem bG:type_of% @Nat.lt_trans:=@Nat.lt_trans
theorem bH.{jr}:type_of% @List.not_mem_nil.{jr}:=@List.not_mem_nil
theorem bI.{jr}:type_of% @List.length_take.{jr}:=@List.length_take
theorem bJ:type_of% @of_decide_eq_true:=@of_decide_eq_true
theorem bK:type_of% @Nat.zero_le:=@Nat.zero_le
theorem bL:type_of% @PySem.wpAny_call_entry:=@PySem.wpAny_call_entry
theorem bM.{jr}:type_of% @beq_self_eq_true.{jr}:=@beq_self_eq_true
theorem bN.{jr}:type_of% @List.any_eq_true.{jr}:=@List.any_eq_true
theorem bO:type_of% @PySem.wpAny_mono:=@PySem.wpAny_mono
theorem bP:type_of% @PySem.wpAny_truthy_bool:=@PySem.wpAny_truthy_bool
theorem bQ:type_of% @PySem.wpAny_newObj_type:=@PySem.wpAny_newObj_type
theorem bR.{jr,Kp}:type_of% @List.map_congr_left.{jr,Kp}:=@List.map_congr_left
theorem bS:type_of% @Bool.not_true:=@Bool.not_true
theorem bT:type_of% @Classical.byContradiction:=@Classical.byContradiction
theorem bV.{jr}:type_of% @List.Nodup.length_le_of_subset.{jr}:=@List.Nodup.length_le_of_subset
theorem bW:type_of% @PySem.Around.under_plainId:=@PySem.Around.under_plainId
abbrev ck:=List (List Int)
abbrev cn:=List Int
abbrev cf:=PySem.Value->PySem.Shared->Prop
abbrev cg:=PySem.Str->Option PySem.Value
abbrev cj:=List (PySem.Addr×PySem.Obj)
abbrev cp:=Option PySem.Addr
abbrev cq:=Array (Option PySem.Value)
abbrev cw:=List PySem.Value
abbrev cx:=PySem.Value
abbrev cy:=PySem.Shared
abbrev cz:=PySem.FuncData
abbrev cA:=PySem.Program
abbrev cB:=PySem.World
abbrev cC:=PySem.Around
abbrev cD:=PySem.SetTable
abbrev cE:=PySem.Addr
abbrev cF:=PySem.Expr
abbrev cI:=PySem.Stmt
noncomputable section
namespace L2
open PySem
noncomputable def qc:List (Str×Pos×Str):=[(Str.ofString "points_by_use",⟨93,34,93,69⟩,Str.ofString "points_by_use.<locals>.<lambda>"),(Str.ofString "head_start",⟨100,33,100,96⟩,Str.ofString "head_start.<locals>.<lambda>"),(Str.ofString "curb",⟨103,33,103,94⟩,Str.ofString "curb.<locals>.<lambda>")]
end L2
namespace L2
open PySem PySem.Spec PyProof.Rows
noncomputable abbrev Key:=Sum Int Str
noncomputable def zU:Key->cx->Bool
 |.inl k,v=>Value.isInt k v
 |.inr x,v=>Value.isStrOf x v
noncomputable def W8 (w:cB):Key->Int
 |.inl k=>hashInt k
 |.inr x=>hashStr w x
theorem gp:∀{k:Key}{v:cx},zU k v=true->(∃i t,k=Sum.inl i/\v=Value.int i t)\/(∃x t,k=Sum.inr x/\v=Value.str x t)
 |.inl i,v,h=>by
  obtain⟨t,e⟩:=Value.isInt_shape (k:=i) (v:=v) h;exact .inl ⟨i,t,rfl,e⟩
 |.inr x,v,h=>by
  obtain⟨t,e⟩:=Value.isStrOf_shape (x:=x) (v:=v) h;exact .inr ⟨x,t,rfl,e⟩
theorem IK (i:Int) (t:Tok):zU (.inl i) (.int i t)=true:=by simp[zU,Value.isInt]
theorem IL (x:Str) (t:Tok):zU (.inr x) (.str x t)=true:=by simp[zU,Value.isStrOf]
theorem QK (a b:Int):decide ((Sum.inl a:Key)=Sum.inl b)=(a==b):=by
 by_cases e:a=b
 ·subst e;simp
 ·have h:¬ (Sum.inl a:Key)=Sum.inl b:=λq=>e (Sum.inl.inj q)
  rw[aH h];exact(beq_eq_false_iff_ne.mpr e).symm
theorem QL (a b:Str):decide ((Sum.inr a:Key)=Sum.inr b)=decide (a=b):=by
 by_cases e:a=b
 ·subst e;simp
 ·have h:¬ (Sum.inr a:Key)=Sum.inr b:=λq=>e (Sum.inr.inj q)
  rw[aH h,aH e]
theorem QM (a:Int) (b:Str):decide ((Sum.inl a:Key)=Sum.inr b)=false:=aH (λq=>nomatch q)
theorem QN (a:Str) (b:Int):decide ((Sum.inr a:Key)=Sum.inl b)=false:=aH (λq=>nomatch q)
def fB (prog:cA) (w:cB):PySem.KeyKind prog w Key where
 is:=zU
 hash:=W8 w
 inj:=λv a b ha hb=>by
  rcases gp ha with⟨i,t,rfl,rfl⟩|⟨x,t,rfl,rfl⟩
  ·rcases gp hb with⟨j,u,rfl,e⟩|⟨y,u,rfl,e⟩
   ·injection e with e1 _;rw[e1]
   ·exact nomatch e
  ·rcases gp hb with⟨j,u,rfl,e⟩|⟨y,u,rfl,e⟩
   ·exact nomatch e
   ·injection e with e1 _;rw[e1]
 byValue:=λk v h=>by
  rcases gp h with⟨i,t,rfl,rfl⟩|⟨x,t,rfl,rfl⟩<;>rfl
 pyHash:=λhv h=>by
  rcases gp hv with⟨i,t,rfl,rfl⟩|⟨x,t,rfl,rfl⟩
  ·exact wpAny_pyHash_int h
  ·exact wpAny_pyHash_str h
 eqBool:=λhu hv h=>by
  rcases gp hu with⟨i,t,rfl,rfl⟩|⟨x,t,rfl,rfl⟩
  ·rcases gp hv with⟨j,u,rfl,rfl⟩|⟨y,u,rfl,rfl⟩
   ·rw[QK]at h;exact wpAny_eqBool_int h
   ·rw[QM]at h;exact SeqAt.EqAt.int_str i t y u _ _ _ _ h
  ·rcases gp hv with⟨j,u,rfl,rfl⟩|⟨y,u,rfl,rfl⟩
   ·rw[QN]at h;exact SeqAt.EqAt.str_int x t j u _ _ _ _ h
   ·rw[QL]at h;exact wpAny_eqBool_str h
 «strs»:=λk x t v h=>by
  rcases gp h with⟨i,u,rfl,e⟩|⟨y,u,rfl,e⟩
  ·exact nomatch e
  ·injection e with e1 _
   subst e1;cases v<;>rfl
theorem CV (prog:cA) (w:cB) (i:Int) (t:Tok):(fB prog w).is (.inl i) (.int i t)=true:=IK i t
theorem CY (prog:cA) (w:cB) (x:Str) (t:Tok):(fB prog w).is (.inr x) (.str x t)=true:=IL x t
inductive V where
 |eV|bl (b:Bool)|int (i:Int)|str (x:Str)|Td (b:Array UInt8)|Wh (b:UInt64)|ref (a:cE)|ty (n:String)
 deriving DecidableEq
noncomputable def RelV:V->cx->Prop
 |.eV,u=>u=Value.none
 |.bl b,u=>u=Value.bool b
 |.int i,u=>∃t,u=Value.int i t
 |.str x,u=>∃t,u=Value.str x t
 |.Td b,u=>∃t,u=Value.bytes b t
 |.Wh b,u=>∃t,u=Value.float b t
 |.ref a,u=>u=Value.ref a
 |.ty n,u=>u=Value.type n
abbrev Vals:List V->cw->Prop:=Paired RelV
theorem Vals.length (r:Vals xs us):xs.length=us.length:=Paired.length r
theorem Vals.get:∀{xs:List V}{us:cw}{i:Nat}{x:V},Vals xs us->xs[i]? =some x->∃u,us[i]? =some u/\RelV x u
 |_,_,_,_,.nil,e=>by simp at e
 |_,_,0,_,.cons r _,e=>by simp at e;subst e;exact⟨_,rfl,r⟩
 |_,_,i+1,x,.cons _ t,e=>by
  obtain⟨u,h1,h2⟩:=Vals.get (i:=i) (x:=x) t (by simpa using e)
  exact⟨u,by simpa using h1,h2⟩
theorem Vals.append:∀{xs ys:List V}{us ws:cw},Vals xs us->Vals ys ws->Vals (xs++ys) (us++ws)
 |_,_,_,_,.nil,s=>s
 |_,_,_,_,.cons r t,s=>.cons r (Vals.append t s)
theorem Vals.take:∀{xs:List V}{us:cw}(n:Nat),Vals xs us->Vals (xs.take n) (us.take n)
 |_,_,0,_=>.nil
 |_,_,_+1,.nil=>.nil
 |_,_,n+1,.cons r t=>.cons r (Vals.take n t)
theorem Vals.drop:∀{xs:List V}{us:cw}(n:Nat),Vals xs us->Vals (xs.drop n) (us.drop n)
 |_,_,0,r=>r
 |_,_,_+1,.nil=>.nil
 |_,_,n+1,.cons _ t=>Vals.drop n t
def qd:Option V->Option cx->Prop
 |some v,some u=>RelV v u
 |none,none=>True
 |_,_=>False
def KV {κ:Type}:List (κ×V)->List (κ×cx)->Prop:=Paired λ(p:κ×V) (q:κ×cx)=>p.1=q.1/\RelV p.2 q.2
noncomputable def kV:Key->V
 |.inl i=>.int i
 |.inr x=>.str x
inductive HO where
 |lst (xs:List V)
 |tup (xs:List V)
 |dK (kvs:List (Key×V))|dT (kvs:List (List Key×V))
 |set (S:Int->Bool) (n:Nat)
 |ins (C dx:cE) (fs:List (Str×V))
 |own (x:cE)
 |xd (fs:List (Str×V))
 |met (f x:cE)
 |Nz (lo hi:Int)
 |yZ (o:Obj) (u:HO)
 |E6 (ps:Array cx)
 |ext (φ:Heap->Prop)
noncomputable abbrev Hp:=cE->Option HO
noncomputable def upd (H:Hp) (a:cE) (o:HO):Hp:=λb=>if b=a then some o else H b
theorem cY:upd H a o a=some o:=by unfold upd;rw[if_pos rfl]
theorem cR (h:b≠a):upd H a o b=H b:=by unfold upd;rw[if_neg h]
theorem TH {H:Hp}{a b:cE}{o u:HO}(h:H a=some o) (h':H b=some u) (d:o≠u):a≠b:=by
 intro e;subst e;rw[h]at h';exact d (aS h')
theorem cX {H:Hp}{a b:cE}{o:HO}(h:H a=some o) (h':H b=none):a≠b:=by
 intro e;subst e;rw[h]at h';cases h'
noncomputable def za (pos:Pos) (qual:Str):Array cx:=#[.int pos.line 0,.int pos.col 0,.str qual 0]
def zV (H:Hp) (h:Heap) (a:cE) (ps:Array cx):Prop:=
 ∃qs:Array cx,h.get? a=some {cls:=.none,data:=.fields qs}/\TriplesOk qs.toList/\∃pos qual more,ps=za pos qual++more/\
  (codeAmong pos qs.toList=none\/∃c oc vs t,codeAmong pos qs.toList=some (.ref c)/\H c=some (.yZ oc (.own 0))/\oc.data=.fields vs/\vs[1]? =some (.str qual t))
def IM (K:W.Frag) (mg:cg) (base:Heap) (H:Hp):Prop:=∀x c Pt pos qual,(x,pos,qual)∈qc->W.tabIn K x=some (c,Pt)->(∃more,H Pt=some (.E6 (za pos qual++more)))/\W.CodeHd base c Pt/\base.BuiltinsAt mg Pt
section
variable (P:cA) (w:cB)
def ie (H:Hp) (h:Heap) (a:cE):HO->Prop
 |.lst xs=>xs.length<=sizeLine/\∃(dD:cw) (n:Nat),Vals xs dD/\h.get? a=some {cls:=.type "list",data:=.seq dD.toArray n}
 |.tup xs=>xs.length<=sizeLine/\∃dD:cw,Vals xs dD/\IsTup h a dD.toArray
 |.dK kvs=>kvs.length<=sizeLine/\(a==sysModules)=false/\∃vs,KV kvs vs/\h.DictOf (fB P w) a vs
 |.dT kvs=>kvs.length<=sizeLine/\(a==sysModules)=false/\∃xs:List (List Key×cE×cx),
   Paired (λ(p:List Key×V) (q:List Key×cE×cx)=>p.1=q.1/\H q.2.1=some (.tup (p.1.map kV))/\RelV p.2 q.2.2) kvs xs/\
   ∃o es ep,h.get? a=some o/\o.ExactDict/\o.data=.dict es ep/\es.toList=xs.map (entryOfKey (tupleKind (fB P w)))/\(xs.map (·.1)).Nodup
 |.set S n=>h.SetOf (intKind P w) a S n
 |.ins C dx fs=>H dx=some (.own a)/\fs.length<=1000/\dx≠a/\h.get? a=some (W.instObj C dx)/\
   ∃mA,h.Ns1 dx mA/\(∀f,qd (fs.lookup f) (mA f))/\PySem.Within mA (fs.map (·.1))
 |.own _=>∃o,h.get? a=some o
 |.xd fs=>∃mA,h.Ns1 a mA/\∀f,qd (fs.lookup f) (mA f)
 |.Nz lo hi=>∃t u v,h.get? a=some {cls:=.type "range",data:=.fields #[.int lo t,.int hi u,.int 1 v]}
 |.yZ o u=>h.get? a=some o/\ie H h a u
 |.E6 ps=>zV H h a ps
 |.met f x=>h.get? a=some (W.methodObj (.ref f) (.ref x))
 |.ext φ=>φ h/\(∃o,h.get? a=some o)/\∀h1 h2:Heap,φ h1->(∀o,h1.get? a=some o->h2.get? a=some o)->φ h2
def rT (H:Hp) (h:Heap):Prop:=∀a o,H a=some o->ie P w H h a o
end
section
variable {P:cA}{w:cB}{H H':Hp}{h h':Heap}{a:cE}{o:HO}
theorem ie.lt (x:ie P w H h a o):a<h.objs.size:=by
 cases o with
 |lst xs=>obtain⟨_,_,_,_,e⟩:=x;exact aB e
 |tup xs=>obtain⟨_,_,_,p⟩:=x;exact p.lt
 |dK kvs=>obtain⟨_,_,_,_,o,_,_,e,_⟩:=x;exact aB e
 |dT kvs=>obtain⟨_,_,_,_,o,_,_,e,_⟩:=x;exact aB e
 |set S n=>obtain⟨o,_,_,_,e,_⟩:=x;exact aB e
 |ins C dx fs=>obtain⟨_,_,_,e,_⟩:=x;exact aB e
 |own y=>obtain⟨_,e⟩:=x;exact aB e
 |xd fs=>obtain⟨_,⟨_,_,_,e,_⟩,_⟩:=x;exact aB e
 |Nz lo hi=>obtain⟨_,_,_,e⟩:=x;exact aB e
 |yZ ob u=>obtain⟨e,_⟩:=x;exact aB e
 |E6 ps=>obtain⟨_,e,_⟩:=(show zV H h a ps from x);exact aB e
 |met f y=>exact aB (show h.get? a=some _ from x)
 |ext φ=>obtain⟨_,⟨_,e⟩,_⟩:=x;exact aB e
theorem Paired.QO {α β:Type}{F G:α->β->Prop}:∀{l₁:List α}{l₂:List β},Paired F l₁ l₂->(∀a b,F a b->G a b)->Paired G l₁ l₂
 |_,_,.nil,_=>.nil
 |_,_,.cons r t,f=>.cons (f _ _ r) (Paired.QO t f)
theorem ie.Be (x:ie P w H h a o) (k:∀b u,(b=a\/H b=some (.own a))->h.get? b=some u->h'.get? b=some u)
  (ho:∀b,H b=some (.own a)->H' b=some (.own a)) (ht:∀b xs,H b=some (.tup xs)->H' b=some (.tup xs)) (hz:∀b ob u,H b=some (.yZ ob u)->H' b=some (.yZ ob u):=by intro b ob u q;first|exact q|exact(cR (cX q (by assumption))).trans q):ie P w H' h' a o:=by
 induction o with
 |lst xs=>obtain⟨z,dD,n,r,e⟩:=x;exact⟨z,dD,n,r,k _ _ (.inl rfl) e⟩
 |tup xs=>obtain⟨z,dD,r,ob,e,c⟩:=x;exact⟨z,dD,r,ob,k _ _ (.inl rfl) e,c⟩
 |dK kvs=>obtain⟨z,y,vs,r,ob,es,ep,e,c⟩:=x;exact⟨z,y,vs,r,ob,es,ep,k _ _ (.inl rfl) e,c⟩
 |dT kvs=>
  obtain⟨z,y,xs,r,ob,es,ep,e,c⟩:=x;exact⟨z,y,xs,Paired.QO r λp q z=>⟨z.1,ht _ _ z.2.1,z.2.2⟩,ob,es,ep,k _ _ (.inl rfl) e,c⟩
 |set S n=>obtain⟨ob,es,ep,t,e,c⟩:=x;exact⟨ob,es,ep,t,k _ _ (.inl rfl) e,c⟩
 |ins C dx fs=>
  obtain⟨d,z,ne,e,mA,⟨od,es,ep,e2,c⟩,r⟩:=x;exact⟨ho _ d,z,ne,k _ _ (.inl rfl) e,mA,⟨od,es,ep,k _ _ (.inr d) e2,c⟩,r⟩
 |own y=>obtain⟨ob,e⟩:=x;exact⟨ob,k _ _ (.inl rfl) e⟩
 |xd fs=>obtain⟨mA,⟨od,es,ep,e,c⟩,r⟩:=x;exact⟨mA,⟨od,es,ep,k _ _ (.inl rfl) e,c⟩,r⟩
 |Nz lo hi=>obtain⟨t,u,v,e⟩:=x;exact⟨t,u,v,k _ _ (.inl rfl) e⟩
 |yZ ob u ih=>obtain⟨e,q⟩:=x;exact⟨k _ _ (.inl rfl) e,ih q⟩
 |E6 ps=>
  obtain⟨qs,e,tr,pos,qual,more,eq,r⟩:=(show zV H h a ps from x)
  exact⟨qs,k _ _ (.inl rfl) e,tr,pos,qual,more,eq,r.imp id λ⟨c,oc,vs,tt,q1,q2,q3⟩=>⟨c,oc,vs,tt,q1,hz _ _ _ q2,q3⟩⟩
 |met f y=>
  have e:h.get? a=some (W.methodObj (.ref f) (.ref y)):=x;show h'.get? a=some (W.methodObj (.ref f) (.ref y));exact k a _ (.inl rfl) e
 |ext φ=>obtain⟨p,⟨o,e⟩,st⟩:=x;exact⟨st _ _ p λo q=>k _ _ (.inl rfl) q,⟨o,k _ _ (.inl rfl) e⟩,st⟩
theorem rT.lt (x:rT P w H h) (e:H a=some o):a<h.objs.size:=(x a o e).lt
theorem rT.fresh (x:rT P w H h) (e:h.objs.size<=a):H a=none:=by
 cases q:H a with
 |none=>rfl
 |some u=>exact absurd (aw (x.lt q) e) (Nat.lt_irrefl _)
theorem rT.kept (x:rT P w H h) (k:∀b u,h.get? b=some u->h'.get? b=some u):rT P w H h':=λa o e=>
 (x a o e).Be (λb u _ q=>k b u q) (λ_ q=>q) λ_ _ q=>q
theorem rT.laid (x:rT P w H h) (k:∀b u,h.get? b=some u->h'.get? b=some u) (hp:h.objs.size<=a) (new:ie P w (upd H a o) h' a o):rT P w (upd H a o) h':=λb u e=>by
 have hn:=x.fresh hp;by_cases hb:b=a
 ·subst hb;rw[cY]at e;cases e;exact new
 ·rw[cR hb]at e;exact(x b u e).Be (λc v _ q=>k c v q) (λc q=>by rw[cR (cX q hn)];exact q) λc xs q=>by rw[cR (cX q hn)];exact q
end
def Rd (H:Hp) (a:cE) (u:HO):Prop:=H a=some u\/∃o,H a=some (.yZ o u)
theorem Rd.ok {P:cA}{w:cB}{H:Hp}{h:Heap}{a:cE}{u:HO}(r:Rd H a u) (x:rT P w H h):ie P w H h a u:=by
 rcases r with r|⟨o,r⟩
 ·exact x a u r
 ·obtain⟨_,q⟩:=x a _ r;exact q
noncomputable def TJ:Option HO->Prop
 |some (.lst _)=>True
 |some (.dK _)=>True
 |some (.dT _)=>True
 |some (.set _ _)=>True
 |some (.ins _ _ _)=>True
 |some (.ext _)=>True
 |_=>False
section
variable {P:cA}{w:cB}{H:Hp}{h h':Heap}{x e:cE}{o':HO}
theorem rT.write (ok:rT P w H h) (mu:TJ (H x)) (he:e=x\/H e=some (.own x)) (k:∀b u,b≠e->h.get? b=some u->h'.get? b=some u) (Te:∃u,h'.get? e=some u)
  (new:ie P w (upd H x o') h' x o'):rT P w (upd H x o') h':=λb u q=>by
 have TK:∀c y,H c=some (.own y)->c≠x:=λc y r z=>by subst z;rw[r]at mu;exact mu
 have W9:∀c xs,H c=some (.tup xs)->c≠x:=λc xs r z=>by subst z;rw[r]at mu;exact mu
 by_cases hb:b=x
 ·subst hb;rw[cY]at q;cases q;exact new
 ·rw[cR hb]at q;by_cases QP:b=e
  ·have q':H b=some (.own x):=by
    rcases he with z|z
    ·exact absurd (QP.trans z) hb
    ·rw[QP];exact z
   rw[q]at q';cases q';obtain⟨v,hv⟩:=Te;exact⟨v,by rw[QP];exact hv⟩
  ·refine(ok b u q).Be (λc v hc r=>k c v ?_ r) (λc r=>by rw[cR (TK c b r)];exact r) (λc xs r=>by rw[cR (W9 c xs r)];exact r) λc ob' u' r=>(cR (λz=>by subst z;rw[r]at mu;exact mu)).trans r
   rcases hc with rfl|hc
   ·exact QP
   ·rintro rfl
    rcases he with z|z
    ·exact TK c b hc z
    ·rw[hc]at z;cases z;exact hb rfl
end
structure Un (fs ex:List cE) (H H':Hp) (h h':Heap):Prop where
 keep:∀b o,h.get? b=some o->H b=none->b∉fs->b∉ex->h'.get? b=some o
 slot:∀b o,h.get? b=some o->H b=none->b∈fs->b∉ex->∃sl,h'.get? b=some {o with slots:=sl}
 free:∀b o,h.get? b=some o->H b=none->b∉ex->H' b=none
 there:∀b o,h.get? b=some o->b∉ex->∃o',h'.get? b=some o'
 fX:∀b xs,H b=some (.tup xs)->H' b=some (.tup xs)
 Bf:∀b o u,H b=some (.yZ o u)->H' b=some (.yZ o u)
 zd:∀b ps,H b=some (.E6 ps)->∃more,H' b=some (.E6 (ps++more))
section
variable {fs fs' ex ex':List cE}{H H1 H2:Hp}{h h1 h2 h':Heap}{a x e:cE}{o:HO}
theorem Un.any (u:Un fs ex H H1 h h1) (q:h.get? b=some ob) (n:H b=none) (hx:b∉ex):∃sl,h1.get? b=some {ob with slots:=sl}:=by
 by_cases hb:b∈fs
 ·exact u.slot b ob q n hb hx
 ·exact⟨ob.slots,u.keep b ob q n hb hx⟩
theorem Un.kept (k:∀b u,h.get? b=some u->h'.get? b=some u):Un fs ex H H h h':=
 ⟨λb ob q _ _ _=>k b ob q,λb ob q _ _ _=>⟨ob.slots,k b ob q⟩,λ_ _ _ n _=>n,λb ob q _=>⟨ob,k b ob q⟩,λ_ _ q=>q,λ_ _ _ q=>q,λ_ ps q=>⟨#[],by rw[q];simp⟩⟩
theorem Un.refl:Un fs ex H H h h:=Un.kept λ_ _ q=>q
theorem Un.laid (k:∀b u,h.get? b=some u->h'.get? b=some u) (hp:h.objs.size<=a) (hn:H a=none):Un fs ex H (upd H a o) h h' where
 keep:=λb u q _ _ _=>k b u q
 slot:=λb u q _ _ _=>⟨u.slots,k b u q⟩
 free:=λb u q n _=>by rw[cR (aE (aw (aB q) hp))];exact n
 there:=λb u q _=>⟨u,k b u q⟩
 fX:=λb xs q=>by rw[cR (cX q hn)];exact q
 Bf:=λb u xs q=>by rw[cR (cX q hn)];exact q
 zd:=λb ps q=>⟨#[],by rw[cR (cX q hn),q];simp⟩
theorem Un.write (mu:TJ (H x)) (he:e=x\/H e=some (.own x)) (k:∀b u,b≠e->h.get? b=some u->h'.get? b=some u) (Te:∃u,h'.get? e=some u):Un fs ex H (upd H x o) h h':=by
 have hx:∀b,H b=none->b≠x:=λb n z=>by subst z;rw[n]at mu;exact mu
 have hb:∀b,H b=none->b≠e:=λb n z=>by
  subst z;rcases he with r|r
  ·exact hx b n r
  ·rw[n]at r;cases r
 have hm:∀b u,H b=some u->¬ TJ (some u)->b≠x:=λb u q nm z=>by subst z;rw[q]at mu;exact nm mu
 refine⟨λb u q n _ _=>k b u (hb b n) q,λb u q n _ _=>⟨u.slots,k b u (hb b n) q⟩,λb u q n _=>by rw[cR (hx b n)];exact n,λb u q _=>?_,
  λb xs q=>by rw[cR (hm b _ q λz=>z)];exact q,λb u xs q=>by rw[cR (hm b _ q λz=>z)];exact q,λb ps q=>⟨#[],by rw[cR (hm b _ q λz=>z),q];simp⟩⟩
 by_cases QP:b=e
 ·subst QP;exact Te
 ·exact⟨u,k b u QP q⟩
end
noncomputable def Wi (h:Heap) (H:Hp):List cE:=(List.range h.objs.size).filter λa=>(H a).isSome
def ze (h:Heap) (H:Hp):Heap:=W.hideAll h (Wi h H)
theorem IP (h:Heap) (H:Hp):(ze h H).objs.size=h.objs.size:=W.hideAll_size _ _
theorem Kq (e:h.get? b=some o) (n:H b=none):(ze h H).get? b=some o:=
 W.hideAll_get _ e λhm=>by
  have q:(H b).isSome=true:=(List.mem_filter.mp hm).2;rw[n]at q;simp at q
theorem NK (e:(ze h H).get? b=some o):h.get? b=some o/\H b=none:=by
 have e':h.get? b=some o:=W.of_hideAll (Wi h H) e;refine⟨e',?_⟩;cases q:H b with
 |none=>rfl
 |some x=>
  have hm:b∈Wi h H:=List.mem_filter.mpr ⟨List.mem_range.mpr (aB e'),by simp[q]⟩
  have z:(ze h H).get? b=none:=W.hideAll_none (Wi h H) hm;rw[z]at e;cases e
noncomputable def jG (g h:Heap) (L:cE):cj:=(List.range h.objs.size).filterMap λa=>if a=L\/(g.get? a).isSome=true then none else(h.get? a).map λo=>(a,o)
theorem m8 (h1:a≠L) (h2:g.get? a=none) (h3:h.get? a=some o):(a,o)∈jG g h L:=
 List.mem_filterMap.mpr ⟨a,List.mem_range.mpr (aB h3),by simp[h1,h2,h3]⟩
theorem wZ (hp:p∈jG g h L):p.1≠L/\g.get? p.1=none/\h.get? p.1=some p.2:=by
 obtain⟨b,_,e⟩:=List.mem_filterMap.mp hp;split at e
 ·cases e
 ·rename_i hn;cases q:h.get? b with
  |none=>rw[q]at e;simp at e
  |some u=>
   rw[q]at e;simp only[bA,Option.some.injEq]at e;subst e;refine⟨λz=>hn (.inl z),?_,q⟩
   show g.get? b=none;cases r:g.get? b with
   |none=>rfl
   |some v=>exact(hn (.inr (by simp[r]))).elim
theorem w4 {g h:Heap}{L:cE}:News g L h (jG g h L):=λp hp=>let ⟨a,b,c⟩:=wZ hp;⟨c,a,b⟩
structure Mod (K:W.Frag) (mg:cg) (base:Heap):Prop where
 QQ:K.In base
 glob:base.Ns mainGlobals mg
 blt:∃mb,base.Ns builtinsNs mb/\∀x:Str,x≠"__name__"->mb x=bootBuiltins x
 nolimit:base.NoLimit
structure Cx where
 prog:cA
 w:cB
 K:W.Frag
 mg:cg
 base:Heap
 A:cC
 N:List Str
 s₀:cy
 H₀:Hp
 env:Env
 outer:List Env
 stack:List Env
 ex:List cE
 fn:Str->Bool
 calm:Bool
 pn:cj
 xe:cf
noncomputable def Bg (l:List Env):List cE:=l.filterMap (·.frame)
abbrev Cx.fs (X:Cx):List cE:=Bg X.outer
def Tf (sc:Scope) (x:Str):Prop:=sc.names.lookup x=some .local\/sc.names.lookup x=some .cell\/sc.names.lookup x=some .free
def Loc (sc:Scope) (x:Str):Prop:=sc.names.lookup x=some .local\/sc.names.lookup x=some .cell
def Look (env:Env) (h:Heap) (m:cg) (x:Str) (u:cx):Prop:=
 (env.kindOf x=some .local/\m x=some u)\/((env.kindOf x=some .cell\/env.kindOf x=some .free)/\∃c,env.cells.lookup x=some c/\h.IsCell c (some u))
structure Cx.Ok (X:Cx):Prop where
 mod:Mod X.K X.mg X.base
 kind:X.env.scope.kind=.function
 glob:X.env.globals=mainGlobals
 blt:X.env.builtins=builtinsNs
 above:X.s₀.heap.objs.size<=X.env.locals
 inj:∀x y c,X.env.cells.lookup x=some c->X.env.cells.lookup y=some c->x=y
 has:∀x,(X.env.kindOf x=some .cell\/X.env.kindOf x=some .free)->∃c,X.env.cells.lookup x=some c
 Tg:∀x c,X.fn x=true->X.env.cells.lookup x=some c->X.s₀.heap.objs.size<=c
 hd:X.calm=true->X.A.handled=none
 frames:X.A.frames=some X.stack
 Wj:X.stack=X.outer\/(X.stack=X.env::X.outer/\X.env.frame=some X.env.locals)
 Zg:∀b∈X.ex,b≠X.env.locals/\∀x c,X.env.cells.lookup x=some c->c≠b
 bs:∀b o,X.base.get? b=some o->X.s₀.heap.get? b=some o/\X.H₀ b=none
 Kr:X.base.objs.size<=X.s₀.heap.objs.size
 Ks:∀b o,X.base.get? b=some o->b∉X.ex
 NL:∀b∈X.ex,b∉X.fs
 rU:X.s₀.heap.FunFrames X.base X.outer
 NM:∀b∈X.fs,X.H₀ b=none
 tb:IM X.K X.mg X.base X.H₀
structure Inv (X:Cx) (cM:cj) (σ:List (Option V)) (H:Hp) (s:cy):Prop where
 ok:X.Ok
 os:s.os=X.s₀.os
 bare:AllBare s.gens
 base:Un X.fs X.ex X.H₀ H X.s₀.heap s.heap
 loc:∃m,s.heap.Ns X.env.locals m/\∀(i:Nat) (x:Str) (v:V),X.N[i]? =some x->σ[i]? =some (some v)->Tf X.env.scope x->∃u,RelV v u/\Look X.env s.heap m x u
 cell:∀x c,X.env.cells.lookup x=some c->∃v,s.heap.IsCell c v
 free:H X.env.locals=none
 pM:∀x c,X.env.cells.lookup x=some c->H c=none
 pin:∀p∈X.pn++cM,s.heap.get? p.1=some p.2/\H p.1=none/\p.1≠X.env.locals/\p.1∉X.fs/\∀v,p.2.data≠.cell v
 fJ:rT X.prog X.w H s.heap
 len:σ.length=X.N.length
section
variable {X:Cx}{cM:cj}{σ:List (Option V)}{H H':Hp}{s:cy}{h':Heap}
theorem Cx.Ok.Xa (ok:X.Ok) (e:X.base.get? b=some o):b∉X.fs:=λhb=>by
 have:=(ok.rU.mem hb).1;rw[e]at this;cases this
theorem Inv.bs (I:Inv X cM σ H s):∀b o,X.base.get? b=some o->s.heap.get? b=some o/\H b=none:=λb o e=>
 ⟨I.base.keep b o (I.ok.bs b o e).1 (I.ok.bs b o e).2 (I.ok.Xa e) (I.ok.Ks b o e),I.base.free b o (I.ok.bs b o e).1 (I.ok.bs b o e).2 (I.ok.Ks b o e)⟩
theorem Inv.bk (I:Inv X cM σ H s):∀b o,X.base.get? b=some o->s.heap.get? b=some o:=λb o e=>(I.bs b o e).1
theorem Inv.mod (I:Inv X cM σ H s):Mod X.K X.mg X.base:=I.ok.mod
theorem Inv.E7 (I:Inv X cM σ H s):X.K.In s.heap:=I.ok.mod.QQ.keeps I.bk
theorem Inv.nolimit (I:Inv X cM σ H s):s.heap.NoLimit:=I.ok.mod.nolimit.keeps I.bk
theorem Inv.fr (I:Inv X cM σ H s):∃m,Fr X.base X.env.locals s.heap m:=
 let ⟨m,hn,_⟩:=I.loc
 ⟨m,hn,I.bk,aD I.ok.Kr I.ok.above⟩
theorem Inv.lt (I:Inv X cM σ H s):X.env.locals<s.heap.objs.size:=let ⟨_,hn,_⟩:=I.loc;hn.lt
theorem Inv.sz (I:Inv X cM σ H s):X.s₀.heap.objs.size<=s.heap.objs.size:=aD I.ok.above (bg I.lt)
theorem Inv.Xb (I:Inv X cM σ H s) (h:s.heap.objs.size<=a):a∉X.fs:=λhb=>by
 obtain⟨_,o,ho,_⟩:=I.ok.rU.mem hb;exact absurd (aw (aB ho) (aD I.sz h)) (Nat.lt_irrefl _)
theorem Inv.PZ (I:Inv X cM σ H s):∀x c,X.env.cells.lookup x=some c->c≠X.env.locals:=λx c e z=>by
 obtain⟨v,o,ho,hd⟩:=I.cell x c e;obtain⟨m,⟨o',es,ep,ke,Kt,_⟩,_⟩:=I.loc;rw[z,ke]at ho;cases ho;rw[Kt]at hd;cases hd
theorem Inv.rU (I:Inv X cM σ H s):s.heap.FunFrames X.base X.outer:=by
 have all:∀(l:List Env),(∀b∈Bg l,b∈X.fs)->X.s₀.heap.FunFrames X.base l->s.heap.FunFrames X.base l:=by
  intro l;induction l with
  |nil=>intro _ _;trivial
  |cons env r ih=>
   intro hs hl;obtain⟨hk,⟨L,o,hf,hn,ho,hd⟩,hr⟩:=hl;have hL:L∈X.fs:=hs L (by unfold Bg;rw[List.filterMap_cons,hf];exact af)
   obtain⟨sl,e⟩:=I.base.slot L o ho (I.ok.NM L hL) hL λz=>I.ok.NL L z hL
   exact⟨hk,⟨L,_,hf,hn,e,hd⟩,ih (λb hb=>hs b (by unfold Bg;rw[List.filterMap_cons,hf];exact ai _ hb)) hr⟩
 exact all X.outer (λ_ hb=>hb) I.ok.rU
theorem Inv.stack (I:Inv X cM σ H s):s.heap.FunFrames X.base X.stack:=by
 rcases I.ok.Wj with e|⟨e,hf⟩
 ·rw[e];exact I.rU
 ·rw[e];obtain⟨m,hn,_⟩:=I.loc;refine .cons (by rw[I.ok.kind];decide) hf hn ?_ I.rU
  exact Heap.get?_none_of_le (aD I.ok.Kr I.ok.above)
theorem Inv.w5 (I:Inv X cM σ H s):∀b∈Bg X.stack,b∈X.env.locals::X.fs:=λb hb=>by
 rcases I.ok.Wj with e|⟨e,hf⟩
 ·rw[e]at hb;exact ai _ hb
 ·rw[e]at hb;unfold Bg at hb;rw[List.filterMap_cons,hf]at hb;exact hb
theorem Inv.Ha (I:Inv X cM σ H s):∀b∈Bg X.stack,H b=none:=λb hb=>by
 rcases List.mem_cons.mp (I.w5 b hb)with e|hb
 ·rw[e];exact I.free
 ·obtain⟨_,o,ho,_⟩:=I.ok.rU.mem hb;exact I.base.free b o ho (I.ok.NM b hb) λz=>I.ok.NL b z hb
theorem Inv.step {g':Array GenState}{t':Nat}{d':Drawn}{ch:List cE}(I:Inv X cM σ H s)
  (Kh:∀b∈ch,(b∈X.ex\/X.s₀.heap.objs.size<=b)/\b≠X.env.locals/\(∀x c,X.env.cells.lookup x=some c->c≠b)/\∀p∈X.pn++cM,p.1≠b)
  (keep:∀b o,b≠X.env.locals->b∉X.fs->b∉ch->s.heap.get? b=some o->H b=none->h'.get? b=some o)
  (slot:∀b o,b≠X.env.locals->b∈X.fs->b∉ch->s.heap.get? b=some o->H b=none->∃sl,h'.get? b=some {o with slots:=sl}) (free:∀b o,b∉ch->s.heap.get? b=some o->H b=none->H' b=none)
  (there:∀b o,b∉ch->s.heap.get? b=some o->∃o',h'.get? b=some o')
  (fX:∀b xs,H b=some (.tup xs)->H' b=some (.tup xs)) (Bf:∀b o u,H b=some (.yZ o u)->H' b=some (.yZ o u)) (zd:∀b ps,H b=some (.E6 ps)->∃more,H' b=some (.E6 (ps++more)))
  (ns:∀m,s.heap.Ns X.env.locals m->h'.Ns X.env.locals m) (fJ:rT X.prog X.w H' h') (hg:AllBare g'):
  Inv X cM σ H' {s with heap:=h',gens:=g',drawn:=d',toks:=t'}:=by
 have Zh:∀b o,X.s₀.heap.get? b=some o->b≠X.env.locals:=λb o e=>aE (aw (aB e) I.ok.above)
 have Wl:∀b o,X.s₀.heap.get? b=some o->b∉X.ex->b∉ch:=λb o e hx hb=>by
  rcases(Kh b hb).1 with z|z
  ·exact hx z
  ·exact absurd (aw (aB e) z) (Nat.lt_irrefl _)
 have cellK:∀x c,X.env.cells.lookup x=some c->∀v,s.heap.IsCell c v->h'.IsCell c v:=λx c e v ⟨o,ho,hd⟩=>by
  have TL:c∉ch:=λz=>(Kh c z).2.2.1 x c e rfl
  by_cases hc:c∈X.fs
  ·obtain⟨sl,q⟩:=slot c o (I.PZ x c e) hc TL ho (I.pM x c e);exact⟨_,q,hd⟩
  ·exact⟨o,keep c o (I.PZ x c e) hc TL ho (I.pM x c e),hd⟩
 refine⟨I.ok,I.os,hg,⟨λb o e n hb hx=>?_,λb o e n hb hx=>?_,λb o e n hx=>?_,λb o e hx=>?_,λb xs e=>fX b xs (I.base.fX b xs e),λb o xs e=>Bf b o xs (I.base.Bf b o xs e),λb ps e=>?_⟩,?_,λx c e=>?_,?_,λx c e=>?_,λp hp=>?_,fJ,I.len⟩
 ·exact keep b o (Zh b o e) hb (Wl b o e hx) (I.base.keep b o e n hb hx) (I.base.free b o e n hx)
 ·obtain⟨sl,e1⟩:=I.base.slot b o e n hb hx;obtain⟨sl',e2⟩:=slot b _ (Zh b o e) hb (Wl b o e hx) e1 (I.base.free b o e n hx);exact⟨sl',e2⟩
 ·obtain⟨o',e1⟩:=I.base.there b o e hx;exact free b o' (Wl b o e hx) e1 (I.base.free b o e n hx)
 ·obtain⟨o',e1⟩:=I.base.there b o e hx;exact there b o' (Wl b o e hx) e1
 ·obtain⟨m1,e1⟩:=I.base.zd b ps e;obtain⟨m2,e2⟩:=zd b _ e1;exact⟨m1++m2,by rw[e2,Array.append_assoc]⟩
 ·obtain⟨m,hn,hl⟩:=I.loc;refine⟨m,ns m hn,λi x v e1 e2 e3=>?_⟩
  obtain⟨u,r,l⟩:=hl i x v e1 e2 e3;refine⟨u,r,?_⟩;rcases l with l|⟨k,c,e,z⟩
  ·exact .inl l
  ·exact .inr ⟨k,c,e,cellK x c e _ z⟩
 ·obtain⟨v,z⟩:=I.cell x c e;exact⟨v,cellK x c e v z⟩
 ·obtain⟨m,⟨o,_,_,ho,_⟩,_⟩:=I.loc;exact free _ o (λz=>(Kh _ z).2.1 rfl) ho I.free
 ·obtain⟨v,o,ho,hd⟩:=I.cell x c e;exact free c o (λz=>(Kh c z).2.2.1 x c e rfl) ho (I.pM x c e)
 ·obtain⟨e,n,ne,nf,d⟩:=I.pin p hp;have TL:p.1∉ch:=λz=>(Kh p.1 z).2.2.2 p hp rfl
  exact⟨keep p.1 p.2 ne nf TL e n,free p.1 p.2 TL e n,ne,nf,d⟩
theorem Inv.un (I:Inv X cM σ H s) (u:Un X.fs [] H H' s.heap h') (fJ:rT X.prog X.w H' h'):Inv X cM σ H' {s with heap:=h',toks:=t'}:=by
 obtain⟨m,⟨o,es,ep,ho,r⟩,_⟩:=id I.loc;obtain⟨sl,hL⟩:=u.any ho I.free (by simp)
 exact I.step (g':=s.gens) (d':=s.drawn) (ch:=[]) (λ_ z=>nomatch z) (λb o _ hb _ e n=>u.keep b o e n hb (by simp)) (λb o _ hb _ e n=>u.slot b o e n hb (by simp)) (λb o _ e n=>u.free b o e n (by simp)) (λb o _ e=>u.there b o e (by simp)) u.fX u.Bf u.zd (λm' hm=>by
  obtain⟨o',Ku,QR,ke,r'⟩:=hm;rw[ho]at ke;cases ke;exact⟨_,Ku,QR,hL,r'⟩) fJ I.bare
theorem Inv.call (I:Inv X cM σ H s) (u:Un (Bg X.stack) ch H H' s.heap h') (fJ:rT X.prog X.w H' h') (hg:AllBare g') (Kh:∀b∈ch,(b∈X.ex\/X.s₀.heap.objs.size<=b)/\b≠X.env.locals/\(∀x c,X.env.cells.lookup x=some c->c≠b)/\∀p∈X.pn++cM,p.1≠b):Inv X cM σ H' {s with heap:=h',gens:=g',drawn:=d',toks:=t'}:=by
 obtain⟨m,⟨o,es,ep,ho,r⟩,_⟩:=id I.loc;obtain⟨sl,hL⟩:=u.any ho I.free λz=>(Kh _ z).2.1 rfl
 exact I.step (ch:=ch) Kh (λb o hL hb hc e n=>u.keep b o e n (λz=>(List.mem_cons.mp (I.w5 b z)).elim hL hb) hc) (λb o _ _ hc e n=>u.any e n hc) (λb o hc e n=>u.free b o e n hc) (λb o hc e=>u.there b o e hc) u.fX u.Bf u.zd (λm' hm=>by
  obtain⟨o',Ku,QR,ke,r'⟩:=hm;rw[ho]at ke;cases ke;exact⟨_,Ku,QR,hL,r'⟩) fJ hg
theorem Inv.turned (I:Inv X cM σ H s) (k:∀b o,b≠it->s.heap.get? b=some o->h'.get? b=some o) (hn:H it=none) (hL:it≠X.env.locals) (h1:it∈X.ex\/X.s₀.heap.objs.size<=it) (h2:∀x c,X.env.cells.lookup x=some c->c≠it) (h3:∀p∈X.pn++cM,p.1≠it):Inv X cM σ H {s with heap:=h',toks:=t'}:=by
 have Zi:∀b u,H b=some u->b≠it:=λb u e z=>by rw[z,hn]at e;cases e
 refine I.step (g':=s.gens) (d':=s.drawn) (ch:=[it]) (λb hb=>?_) (λb o _ _ hc e _=>k b o (λz=>hc (by simp[z])) e) (λb o _ _ hc e _=>⟨o.slots,k b o (λz=>hc (by simp[z])) e⟩) (λ_ _ _ _ n=>n)
  (λb o hc e=>⟨o,k b o (λz=>hc (by simp[z])) e⟩) (λ_ _ e=>e) (λ_ _ _ e=>e) (λb ps e=>⟨#[],by rw[e];simp⟩) (λm hm=>?_) (λb u e=>?_) I.bare
 ·have e:b=it:=by simpa using hb
  subst e;exact⟨h1,hL,h2,h3⟩
 ·obtain⟨o,es,ep,ho,r⟩:=hm;exact⟨o,es,ep,k _ o (Ne.symm hL) ho,r⟩
 ·refine(I.fJ b u e).Be (λc v hc q=>k c v ?_ q) (λ_ q=>q) λ_ _ q=>q
  rcases hc with z|z
  ·rw[z];exact Zi b u e
  ·exact Zi c _ z
theorem Inv.tok (I:Inv X cM σ H s) (t:Nat):Inv X cM σ H {s with toks:=t}:=I.un (h':=s.heap) (t':=t) Un.refl I.fJ
theorem Inv.kept (I:Inv X cM σ H s) (k:∀b u,s.heap.get? b=some u->h'.get? b=some u):Inv X cM σ H {s with heap:=h',toks:=t'}:=I.un (Un.kept k) (I.fJ.kept k)
theorem Inv.laid (I:Inv X cM σ H s) (k:∀b u,s.heap.get? b=some u->h'.get? b=some u) (hp:s.heap.objs.size<=a) (new:ie X.prog X.w (upd H a o) h' a o):Inv X cM σ (upd H a o) {s with heap:=h',toks:=t'}:=I.un (Un.laid k hp (I.fJ.fresh hp)) (I.fJ.laid k hp new)
theorem Inv.write (I:Inv X cM σ H s) (mu:TJ (H x)) (he:e=x\/H e=some (.own x)) (k:∀b u,b≠e->s.heap.get? b=some u->h'.get? b=some u) (Te:∃u,h'.get? e=some u) (new:ie X.prog X.w (upd H x o) h' x o):Inv X cM σ (upd H x o) {s with heap:=h',toks:=t'}:=I.un (Un.write mu he k Te) (I.fJ.write mu he k Te new)
theorem Inv.weak (I:Inv X cM σ H s) (hl:σ'.length=σ.length) (w:∀(i:Nat) v,σ'[i]? =some (some v)->σ[i]? =some (some v)):Inv X cM σ' H s:=
 ⟨I.ok,I.os,I.bare,I.base,let ⟨m,hn,iq⟩:=I.loc;⟨m,hn,λi x v e1 e2 e3=>iq i x v e1 (w i v e2) e3⟩,I.cell,I.free,I.pM,I.pin,I.fJ,hl.trans I.len⟩
theorem Inv.Hb (I:Inv X cM σ H s) (h:∀p∈TM,s.heap.get? p.1=some p.2/\H p.1=none/\p.1≠X.env.locals/\p.1∉X.fs/\∀v,p.2.data≠.cell v):Inv X TM σ H s:=
 ⟨I.ok,I.os,I.bare,I.base,I.loc,I.cell,I.free,I.pM,λp hp=>(List.mem_append.mp hp).elim (λz=>I.pin p (bC _ z)) (h p),I.fJ,I.len⟩
theorem qe {N:List Str}(hN:N.Nodup) {i j:Nat}{x:Str}(a:N[i]? =some x) (b:N[j]? =some x):i=j:=by
 obtain⟨h1,e1⟩:=List.getElem?_eq_some_iff.mp a;obtain⟨h2,e2⟩:=List.getElem?_eq_some_iff.mp b;exact(List.getElem_inj hN).mp (e1.trans e2.symm)
theorem zW (I:Inv X cM σ H s) (hN:X.N.Nodup) (hi:X.N[i]? =some x) (hx:Loc X.env.scope x) (r:RelV v u) (h:∀s',Inv X cM (σ.set i (some v)) H s'->(∃a,Heap.SameBut a s.heap s'.heap/\(a=X.env.locals\/X.env.cells.lookup x=some a))->Q () s') (hf:X.fn x=true\/X.env.scope.names.lookup x=some .local:=by first|exact .inl rfl|exact .inr rfl|assumption):wpAny M A (storeName X.env x u) Q E s:=by
 obtain⟨m,hn,hl⟩:=id I.loc;have Xc:(X.env.scope.kind==.class||(X.env.scope.kind==.module&&X.env.locals !=X.env.globals))=false:=by rw[I.ok.kind];rfl
 have hiσ:i<σ.length:=by rw[I.len];exact(List.getElem?_eq_some_iff.mp hi).1
 have PZ:=I.PZ;have tracked:∀{a:cE}{h':Heap},(∃o,s.heap.get? a=some o/\H a=none)->Heap.SameBut a s.heap h'->rT X.prog X.w H h':=λ{a h'} ha hs b ob e=>by
  obtain⟨_,_,P0⟩:=ha;refine(I.fJ b ob e).Be (λc w' hc q=>(hs.2 c ?_).trans q) (λ_ q=>q) λ_ _ q=>q
  rintro rfl
  rcases hc with rfl|hc
  ·rw[P0]at e;cases e
  ·rw[P0]at hc;cases hc
 rcases hx with hk|hk
 ·refine wpAny_storeName_local hk hn (λh' Bh hs=>?_) Xc
  obtain⟨oL,_,_,Hc,_⟩:=id hn;refine h _ ⟨I.ok,I.os,I.bare,⟨λb o e n hb hx=>?_,λb o e n hb hx=>?_,I.base.free,λb o e hx=>?_,I.base.fX,I.base.Bf,I.base.zd⟩,⟨_,Bh,λj y v' e1 e2 e3=>?_⟩,λy c e=>?_,I.free,I.pM,λp hp=>?_,tracked ⟨oL,Hc,I.free⟩ hs,by simpa using I.len⟩ ⟨_,hs,.inl rfl⟩
  ·exact(hs.2 b (aE (aw (aB e) I.ok.above))).trans (I.base.keep b o e n hb hx)
  ·obtain⟨sl,e1⟩:=I.base.slot b o e n hb hx;exact⟨sl,(hs.2 b (aE (aw (aB e) I.ok.above))).trans e1⟩
  ·obtain⟨o',e1⟩:=I.base.there b o e hx;exact⟨o',(hs.2 b (aE (aw (aB e) I.ok.above))).trans e1⟩
  ·by_cases hj:j=i
   ·subst hj;rw[hi]at e1;cases e1;rw[bc hiσ]at e2;cases e2;exact⟨u,r,.inl ⟨hk,by simp⟩⟩
   ·rw[aG (Ne.symm hj)]at e2;obtain⟨u',r',q⟩:=hl j y v' e1 e2 e3;refine⟨u',r',?_⟩;rcases q with⟨k,e⟩|⟨k,c,e,z⟩
    ·refine .inl ⟨k,?_⟩;have:y≠x:=λe=>hj (qe hN e1 (e▸hi))
     simp[this,e]
    ·exact .inr ⟨k,c,e,z.sameBut hs (PZ y c e)⟩
  ·obtain⟨w',z⟩:=I.cell y c e;exact⟨w',z.sameBut hs (PZ y c e)⟩
  ·obtain⟨e,n,ne,nf,d⟩:=I.pin p hp;exact⟨(hs.2 p.1 ne).trans e,n,ne,nf,d⟩
 ·have Hd:X.fn x=true:=by
   rcases hf with z|z
   ·exact z
   ·rw[z]at hk;cases hk
  obtain⟨c,hc⟩:=I.ok.has x (.inl hk);obtain⟨w',z⟩:=I.cell x c hc;refine wpAny_storeName_cell I.ok.kind hk hc z (λh' oK hs=>?_)
  obtain⟨oc,Th,Xd⟩:=id z;refine h {s with heap:=h'} ⟨I.ok,I.os,I.bare,⟨λb o e n hb hx=>?_,λb o e n hb hx=>?_,I.base.free,λb o e hx=>?_,I.base.fX,I.base.Bf,I.base.zd⟩,⟨m,hn.sameBut hs (Ne.symm (PZ x c hc)),λj y v' e1 e2 e3=>?_⟩,λy c' e=>?_,I.free,I.pM,λp hp=>?_,tracked ⟨oc,Th,I.pM x c hc⟩ hs,by simpa using I.len⟩ ⟨c,hs,.inr hc⟩
  ·exact(hs.2 b (aE (aw (aB e) (I.ok.Tg x c Hd hc)))).trans (I.base.keep b o e n hb hx)
  ·obtain⟨sl,e1⟩:=I.base.slot b o e n hb hx;exact⟨sl,(hs.2 b (aE (aw (aB e) (I.ok.Tg x c Hd hc)))).trans e1⟩
  ·obtain⟨o',e1⟩:=I.base.there b o e hx;exact⟨o',(hs.2 b (aE (aw (aB e) (I.ok.Tg x c Hd hc)))).trans e1⟩
  ·by_cases hj:j=i
   ·subst hj;rw[hi]at e1;cases e1;rw[bc hiσ]at e2;cases e2;exact⟨u,r,.inr ⟨.inl hk,c,hc,oK⟩⟩
   ·rw[aG (Ne.symm hj)]at e2;obtain⟨u',r',q⟩:=hl j y v' e1 e2 e3;refine⟨u',r',?_⟩;rcases q with q|⟨k,c',e,z'⟩
    ·exact .inl q
    ·refine .inr ⟨k,c',e,z'.sameBut hs ?_⟩
     rintro rfl
     exact hj (qe hN e1 (I.ok.inj _ _ _ e hc▸hi))
  ·by_cases P1:c'=c
   ·subst P1;exact⟨_,oK⟩
   ·obtain⟨w2,z2⟩:=I.cell y c' e;exact⟨w2,z2.sameBut hs P1⟩
  ·obtain⟨e,n,ne,nf,d⟩:=I.pin p hp;refine⟨(hs.2 p.1 ?_).trans e,n,ne,nf,d⟩;intro q;rw[q,Th]at e;have q':oc=p.2:=aS e;exact d w' (by rw[<-q'];exact Xd)
theorem CZ (I:Inv X cM σ H s) (hN:X.N.Nodup) (hi:X.N[i]? =some x) (hx:Loc X.env.scope x) (r:RelV v u) (h:∀s',Inv X cM (σ.set i (some v)) H s'->Q () s') (hf:X.fn x=true\/X.env.scope.names.lookup x=some .local:=by first|exact .inl rfl|exact .inr rfl|assumption):wpAny M A (storeName X.env x u) Q E s:=
 zW I hN hi hx r (λs' I' _=>h s' I') hf
theorem Inv.TN {s':cy}{ch:List cE}(I:Inv X cM σ H s) (ho:s'.os=s.os) (u:Un (Bg X.stack) ch H H' s.heap s'.heap) (fJ:rT X.prog X.w H' s'.heap) (hg:AllBare s'.gens)
  (Kh:∀b∈ch,(b∈X.ex\/X.s₀.heap.objs.size<=b)/\b≠X.env.locals/\(∀x c,X.env.cells.lookup x=some c->c≠b)/\∀p∈X.pn++cM,p.1≠b):Inv X cM σ H' s':=by
 obtain⟨h',g',d',t',o'⟩:=s';have e:o'=s.os:=ho;subst e;exact I.call (g':=g') (t':=t') (d':=d') u fJ hg Kh
end
abbrev XK:=cx->cp->Hp->Prop
noncomputable abbrev St:=List (Option V)
abbrev VK:=V->Hp->Prop
abbrev TE:=St->Hp->VK->Prop
abbrev TT:=St->Hp->(Bool->Hp->Prop)->Prop
abbrev TA:=St->Hp->(List V->Hp->Prop)->Prop
structure Ends where
 nx:St->Hp->Prop
 rt:VK
 bk:St->Hp->Prop:=λ_ _=>False
 ct:St->Hp->Prop:=λ_ _=>False
abbrev TS:=Ends->St->Hp->Prop
def EP (X:Cx) (cM:cj) (σ:St) (Q:VK) (u:cx) (s':cy):Prop:=∃v H',Inv X cM σ H' s'/\RelV v u/\Q v H'
def TP (X:Cx) (cM:cj) (σ:St) (Q:Bool->Hp->Prop) (b:Bool) (s':cy):Prop:=∃H',Inv X cM σ H' s'/\Q b H'
def AP (X:Cx) (cM:cj) (σ:St) (Q:List V->Hp->Prop) (us:cw) (s':cy):Prop:=∃vs H',Inv X cM σ H' s'/\Vals vs us/\Q vs H'
def SP (X:Cx) (cM:cj) (D:Ends) (f:Flow) (s':cy):Prop:=
 match f with
 |.next=>∃σ' H',Inv X cM σ' H' s'/\D.nx σ' H'
 |.brk=>∃σ' H',Inv X cM σ' H' s'/\D.bk σ' H'
 |.cont=>∃σ' H',Inv X cM σ' H' s'/\D.ct σ' H'
 |.ret u=>∃v σ' H',Inv X cM σ' H' s'/\RelV v u/\D.rt v H'
def PE (X:Cx) (e:cF) (t:TE):Prop:=
 ∀(cM:cj) (s:cy) (σ:St) (H:Hp) (Q:VK),Inv X cM σ H s->t σ H Q->wpAny (model X.prog X.w) X.A (eval e X.env) (EP X cM σ Q) X.xe s
def PT (X:Cx) (e:cF) (t:TT):Prop:=
 ∀(cM:cj) (s:cy) (σ:St) (H:Hp) (Q:Bool->Hp->Prop),Inv X cM σ H s->t σ H Q->wpAny (model X.prog X.w) X.A (isTrue e X.env (eval e X.env)) (TP X cM σ Q) X.xe s
def PW (X:Cx) (e:cF) (t:TT):Prop:=
 ∀(whole:Sem cx) (cM:cj) (s:cy) (σ:St) (H:Hp) (Q:Bool->Hp->Prop),Inv X cM σ H s->t σ H Q->wpAny (model X.prog X.w) X.A (isTrue e X.env whole) (TP X cM σ Q) X.xe s
theorem PW.pt (h:PW X e t):PT X e t:=h _
def PA (X:Cx) (es:List cF) (t:TA):Prop:=
 ∀(pos:Pos) (cM:cj) (s:cy) (σ:St) (H:Hp) (Q:List V->Hp->Prop),Inv X cM σ H s->t σ H Q->wpAny (model X.prog X.w) X.A (spliced (backTo pos (starEach es X.env))) (AP X cM σ Q) X.xe s
def PS (X:Cx) (st:cI) (t:TS):Prop:=
 ∀(cM:cj) (s:cy) (σ:St) (H:Hp) (D:Ends),Inv X cM σ H s->t D σ H->wpAny (model X.prog X.w) X.A (exec st X.env) (SP X cM D) X.xe s
def zf (X:Cx) (st:List cI) (t:TS):Prop:=
 ∀(cM:cj) (s:cy) (σ:St) (H:Hp) (D:Ends),Inv X cM σ H s->t D σ H->wpAny (model X.prog X.w) X.A (execs st X.env) (SP X cM D) X.xe s
theorem gU (h:wpAny M A t Q E s) (hQ:∀a s,Q a s->Q' a s):wpAny M A t Q' E s:=bO h hQ λ_ _ x=>x
section
variable {X:Cx}
noncomputable def gX (i:Nat):TE:=λσ H Q=>∃v,σ[i]? =some (some v)/\Q v H
noncomputable def tC (v:V):TE:=λ_ H Q=>Q v H
theorem E8 (hN:X.N[i]? =some x) (hv:Tf X.env.scope x) (hd:(x==("__debug__":Str))=false:=by decide) (uF:(x==("__classdict__":Str))=false:=by decide):PE X (.Name x pos) (gX i):=by
 intro cM s σ H Q I h;obtain⟨v,e,h⟩:=h;obtain⟨m,hn,hl⟩:=I.loc;obtain⟨u,r,l⟩:=hl i x v hN e hv;have fin:EP X cM σ Q u s:=⟨v,H,I,r,h⟩;rcases l with⟨hk,hm⟩|⟨hk,c,hc,sY⟩
 ·exact wpAny_Name (wpAny_loadName_local I.ok.kind hk hn hm fin) hd
 ·rcases hk with hk|hk
  ·exact wpAny_Name (wpAny_loadName_cell I.ok.kind hk hc sY fin) hd
  ·exact wpAny_Name (wpAny_loadName_free I.ok.kind hk hc sY fin uF) hd
theorem E9 {i j pos}:PE X (.Constant (.int i) j pos) (tC (.int i)):=λ_ _ _ H _ I h=>wpAny_Constant_int ⟨.int i,H,I.tok _,⟨_,rfl⟩,h⟩
theorem TQ {b j pos}:PE X (.Constant (.bool b) j pos) (tC (.bl b)):=λ_ _ _ H _ I h=>Constant_bool ⟨.bl b,H,I,rfl,h⟩
theorem QS {j pos}:PE X (.Constant .none j pos) (tC .eV):=λ_ _ _ H _ I h=>Constant_none ⟨.eV,H,I,rfl,h⟩
def Gl (X:Cx) (x:Str):Prop:=X.env.kindOf x=some .globalImplicit
theorem wG (I:Inv X cM σ H s) (hg:Gl X x) (hm:X.mg x=some u) (h:Q u s) (hd:(x==("__debug__":Str))=false:=by decide):wpAny (model X.prog X.w) X.A (eval (.Name x pos) X.env) Q E s:=
 Calls.Name_function_global I.ok.kind hg (Calls.loadGlobal_global (by rw[I.ok.glob];exact I.mod.glob.keeps I.bk) hm h) hd
theorem oM {E:cf}{cM:cj}{s:cy}{σ:St}{H:Hp}{x:Str}{u:cx}{pos:Pos}{Q:cf}(I:Inv X cM σ H s) (hg:Gl X x) (hm:X.mg x=none) (hv:bootBuiltins x=some u) (h:Q u s)
  (hn:x≠"__name__":=by decide) (hd:(x==("__debug__":Str))=false:=by decide):wpAny (model X.prog X.w) X.A (eval (.Name x pos) X.env) Q E s:=by
 obtain⟨mb,h1,h2⟩:=I.mod.blt;exact Calls.Name_function_global I.ok.kind hg (Calls.loadGlobal_builtin (by rw[I.ok.glob];exact I.mod.glob.keeps I.bk) hm (by rw[I.ok.blt];exact h1.keeps I.bk) ((h2 x hn).trans hv) h) hd
theorem NN (hg:Gl X x) (hm:X.mg x=some u) (r:RelV v u) (hd:(x==("__debug__":Str))=false:=by decide):PE X (.Name x pos) (tC v):=
 λ_ _ _ H _ I h=>wG I hg hm ⟨v,H,I,r,h⟩ hd
variable {a b:cF}{ta tb:TE}{pos:Pos}
def PC (X:Cx) (op:CmpOp) (a b:cF) (t:TE):Prop:=
 ∀(cM:cj) (s:cy) (σ:St) (H:Hp) (Q:VK),Inv X cM σ H s->t σ H Q->
  wpAny (model X.prog X.w) X.A (eval a X.env) (λv s₁=>wpAny (model X.prog X.w) X.A (eval b X.env) (λu s₂=>wpAny (model X.prog X.w) X.A (compareOp op v u) (EP X cM σ Q) X.xe s₂) X.xe s₁) X.xe s
noncomputable def tB (t:TE):TT:=λσ H Q=>t σ H λx H1=>∃c,x=.bl c/\Q c H1
theorem QT (h:PE X e t) (he:∀whole,isTrue e X.env whole=(do let v <-whole;standAt e.pos;holding [v] (truthy v)):=by intro _;rfl):PT X e (tB t):=by
 intro cM s σ H Q I hw;refine isTrue_plain (gU (h cM s σ H _ I hw) λv s1 ⟨x,H1,I1,r1,q1⟩=>?_) (he _)
 obtain⟨d,rfl,q⟩:=q1;cases r1;exact bP ⟨H1,I1,q⟩
variable {tA Wm:TT}{rest:List cF}
noncomputable def TR (t u:TT):TT:=λσ H Q=>t σ H λc H1=>if c=true then u σ H1 Q else Q false H1
noncomputable def Zj (t u:TT):TT:=λσ H Q=>t σ H λc H1=>if c=true then Q true H1 else u σ H1 Q
noncomputable def Xe (t:TT):TT:=λσ H Q=>t σ H λc H1=>Q (!c) H1
theorem NO (ha:PT X a tA):PW X (.BoolOp .And [a] pos) tA:=by
 intro wh cM s σ H Q I h;refine isTrue_and (gU (ha cM s σ H Q I h) λc s1 e=>?_)
 cases c with
 |true=>exact isTrue_and_nil e
 |false=>exact e
theorem QU (ha:PT X a tA):PW X (.BoolOp .Or [a] pos) tA:=by
 intro wh cM s σ H Q I h;refine isTrue_or (gU (ha cM s σ H Q I h) λc s1 e=>?_)
 cases c with
 |false=>exact isTrue_or_nil e
 |true=>exact e
theorem QV (ha:PT X a tA) (hb:PW X (.BoolOp .And (b::rest) pos) Wm):PW X (.BoolOp .And (a::b::rest) pos) (TR tA Wm):=by
 intro wh cM s σ H Q I h;refine isTrue_and (gU (ha cM s σ H _ I h) λc s1 ⟨H1,I1,q1⟩=>?_)
 cases c with
 |true=>exact hb wh cM s1 σ H1 Q I1 q1
 |false=>exact⟨H1,I1,q1⟩
theorem TU (ha:PT X a tA) (hb:PW X (.BoolOp .Or (b::rest) pos) Wm):PW X (.BoolOp .Or (a::b::rest) pos) (Zj tA Wm):=by
 intro wh cM s σ H Q I h;refine isTrue_or (gU (ha cM s σ H _ I h) λc s1 ⟨H1,I1,q1⟩=>?_)
 cases c with
 |true=>exact⟨H1,I1,q1⟩
 |false=>exact hb wh cM s1 σ H1 Q I1 q1
theorem QW (ha:PT X a tA):PT X (.UnaryOp .Not a pos) (Xe tA):=by
 intro cM s σ H Q I h;exact isTrue_not (ha cM s σ H (λc H1=>Q (!c) H1) I h)
noncomputable def TV (ta tb:TE):TE:=λσ H Q=>ta σ H λx H1=>∃c,x=.bl c/\if c=true then tb σ H1 Q else Q (.bl false) H1
theorem QX {op} (h:PE X a t):PE X (.BoolOp op [a] pos) t:=λcM s σ H Q I hw=>BoolOp_one (h cM s σ H Q I hw)
theorem QY (ha:PE X a ta) (hb:PE X (.BoolOp .And (b::rest) pos) tb):PE X (.BoolOp .And (a::b::rest) pos) (TV ta tb):=by
 intro cM s σ H Q I h;refine BoolOp_and (gU (ha cM s σ H _ I h) λv s1 ⟨x,H1,I1,r1,q1⟩=>?_)
 obtain⟨c,rfl,q1⟩:=q1;cases r1;refine bP ?_;cases c with
 |true=>exact hb cM s1 σ H1 Q I1 q1
 |false=>exact⟨.bl false,H1,I1,rfl,q1⟩
noncomputable def tIf (t:TT) (ta tb:TE):TE:=λσ H Q=>t σ H λc H1=>if c=true then ta σ H1 Q else tb σ H1 Q
theorem Kv (hc:PT X c tA) (ha:PE X a ta) (hb:PE X b tb):PE X (.IfExp c a b pos) (tIf tA ta tb):=by
 intro cM s σ H Q I h;refine wpAny_IfExp (gU (hc cM s σ H _ I h) λd s1 ⟨H1,I1,q1⟩=>?_)
 cases d with
 |true=>exact ha cM s1 σ H1 Q I1 q1
 |false=>exact hb cM s1 σ H1 Q I1 q1
end
def pZ (K:W.Frag) (H:Hp) (a:cE) (xs:List V):Prop:=
 Rd H a (.lst xs)\/
  ∃(o:Obj) (dD:Array cx) (n:Nat),K.lookup a=some o/\o.cls=.type "list"/\o.dict=none/\o.data=.seq dD n/\dD.size<=sizeLine/\Vals xs dD.toList
def kR (K:W.Frag) (H:Hp) (a:cE) (xs:List V):Prop:=
 Rd H a (.tup xs)\/
  ∃(o:Obj) (dD:Array cx) (n:Nat),K.lookup a=some o/\o.cls=.type "tuple"/\o.data=.seq dD n/\dD.size<=sizeLine/\Vals xs dD.toList
noncomputable def Xf:cx->Option V
 |.none=>some .eV
 |.bool b=>some (.bl b)
 |.int i _=>some (.int i)
 |.str x _=>some (.str x)
 |.bytes b _=>some (.Td b)
 |.float b _=>some (.Wh b)
 |.ref a=>some (.ref a)
 |.type n=>some (.ty n)
 |_=>none
theorem RelV.abs (r:RelV x u):Xf u=some x:=by
 cases x with
 |eV=>cases r;rfl
 |bl _=>cases r;rfl
 |int _=>obtain⟨t,rfl⟩:=r;rfl
 |str _=>obtain⟨t,rfl⟩:=r;rfl
 |Td _=>obtain⟨t,rfl⟩:=r;rfl
 |Wh _=>obtain⟨t,rfl⟩:=r;rfl
 |ref _=>cases r;rfl
 |ty _=>cases r;rfl
theorem RelV.inj (r:RelV x u) (q:RelV y u):x=y:=aS (r.abs.symm.trans q.abs)
theorem Vals.inj:∀{xs ys:List V}{us:cw},Vals xs us->Vals ys us->xs=ys
 |_,_,_,.nil,.nil=>rfl
 |_,_,_,.cons r t,.cons r' t'=>by rw[r.inj r',Vals.inj t t']
section
variable {X:Cx}{cM:cj}{σ:St}{H:Hp}{s:cy}{a:cE}{xs ys:List V}
theorem pZ.of {K:W.Frag}(h:H a=some (.lst xs)):pZ K H a xs:=.inl (.inl h)
theorem kR.of {K:W.Frag}(h:H a=some (.tup xs)):kR K H a xs:=.inl (.inl h)
theorem Inv.list (I:Inv X cM σ H s) (h:pZ X.K H a xs):∃dD:cw,Vals xs dD/\PlainL s.heap a dD.toArray/\xs.length<=sizeLine:=by
 rcases h with h|⟨o,dD,n,hk,hc,hd,hs,hz,r⟩
 ·obtain⟨z,dD,n,r,e⟩:=h.ok I.fJ;exact⟨dD,r,⟨_,n,e,rfl,rfl,rfl⟩,z⟩
 ·refine⟨dD.toList,r,⟨o,n,I.E7 a o hk,hc,hd,by simpa using hs⟩,?_⟩
  have e:=r.length;simp only[aN]at e;omega
theorem Inv.tuple (I:Inv X cM σ H s) (h:kR X.K H a xs):∃dD:cw,Vals xs dD/\IsTup s.heap a dD.toArray/\xs.length<=sizeLine:=by
 rcases h with h|⟨o,dD,n,hk,hc,hs,hz,r⟩
 ·obtain⟨z,dD,r,p⟩:=h.ok I.fJ;exact⟨dD,r,p,z⟩
 ·refine⟨dD.toList,r,⟨o,I.E7 a o hk,hc,n,by simpa using hs⟩,?_⟩
  have e:=r.length;simp only[aN]at e;omega
theorem Inv.Kw (I:Inv X cM σ H s) (h:pZ X.K H a xs) (h':pZ X.K H a ys):xs=ys:=by
 obtain⟨dD,r,⟨o,n,e,_,_,d⟩,_⟩:=I.list h;obtain⟨its',r',⟨o',n',e',_,_,d'⟩,_⟩:=I.list h';rw[e]at e';cases e';rw[d]at d';injection d' with d1 _
 have:dD=its':=by simpa using congrArg Array.toList d1
 subst this;exact r.inj r'
theorem Inv.IQ (I:Inv X cM σ H s) (h:kR X.K H a xs) (h':kR X.K H a ys):xs=ys:=by
 obtain⟨dD,r,⟨o,e,_,n,d⟩,_⟩:=I.tuple h;obtain⟨its',r',⟨o',e',_,n',d'⟩,_⟩:=I.tuple h';rw[e]at e';cases e';rw[d]at d';injection d' with d1 _
 have:dD=its':=by simpa using congrArg Array.toList d1
 subst this;exact r.inj r'
end
noncomputable abbrev Cx.zh (X:Cx) (E:cf):Cx:={X with xe:=E}
abbrev Cx.Dc (X:Cx):Cx:=X.zh λ_ _=>False
theorem Cx.Ok.zh {X:Cx}(ok:X.Ok) (E:cf):(X.zh E).Ok:=
 ⟨ok.mod,ok.kind,ok.glob,ok.blt,ok.above,ok.inj,ok.has,ok.Tg,ok.hd,ok.frames,ok.Wj,ok.Zg,ok.bs,ok.Kr,ok.Ks,ok.NL,ok.rU,ok.NM,ok.tb⟩
theorem Cx.Ok.qf {X:Cx}{E:cf}(ok:(X.zh E).Ok):X.Ok:=
 ⟨ok.mod,ok.kind,ok.glob,ok.blt,ok.above,ok.inj,ok.has,ok.Tg,ok.hd,ok.frames,ok.Wj,ok.Zg,ok.bs,ok.Kr,ok.Ks,ok.NL,ok.rU,ok.NM,ok.tb⟩
section
variable {X:Cx}{cM:cj}{σ:St}{H:Hp}{s:cy}{E:cf}
theorem Inv.zh (I:Inv X cM σ H s) (E:cf):Inv (X.zh E) cM σ H s:=⟨I.ok.zh E,I.os,I.bare,I.base,I.loc,I.cell,I.free,I.pM,I.pin,I.fJ,I.len⟩
theorem Inv.qf (I:Inv (X.zh E) cM σ H s):Inv X cM σ H s:=⟨I.ok.qf,I.os,I.bare,I.base,I.loc,I.cell,I.free,I.pM,I.pin,I.fJ,I.len⟩
theorem SP.qf (h:SP (X.zh E) cM D f s'):SP X cM D f s':=by
 cases f with
 |next=>obtain⟨σ',H',I,q⟩:=h;exact⟨σ',H',I.qf,q⟩
 |brk=>obtain⟨σ',H',I,q⟩:=h;exact⟨σ',H',I.qf,q⟩
 |cont=>obtain⟨σ',H',I,q⟩:=h;exact⟨σ',H',I.qf,q⟩
 |ret u=>obtain⟨v,σ',H',I,r,q⟩:=h;exact⟨v,σ',H',I.qf,r,q⟩
theorem zf.Dc {st:List cI}{t:TS}(h:zf X.Dc st t):zf X st t:=λcM s σ H D I hw=>
 bO (h cM s σ H D (I.zh _) hw) (λ_ _ q=>q.qf) λ_ _ z=>False.elim z
end
section
variable {X:Cx}{st:cI}{rest:List cI}{t u:TS}{e:cF}{te:TE}{pos:Pos}
noncomputable def TX:TS:=λD σ H=>D.nx σ H
noncomputable def Xg (t u:TS):TS:=λD σ H=>t {D with nx:=u D} σ H
theorem Bi:zf X [] TX:=λ_ _ σ H _ I h=>wpAny_execs_nil ⟨σ,H,I,h⟩
theorem qg (h1:PS X st t) (h2:zf X rest u):zf X (st::rest) (Xg t u):=by
 intro cM s σ H D I h;refine wpAny_execs_cons (gU (h1 cM s σ H {D with nx:=u D} I h) λf s1 q=>?_)
 cases f with
 |next=>
  obtain⟨σ',H',I',q⟩:=q;exact h2 cM s1 σ' H' D I' q
 |ret v=>exact q
 |brk=>exact q
 |cont=>exact q
theorem He (h1:PS X st t):zf X [st] t:=by
 intro cM s σ H D I h;refine wpAny_execs_cons (gU (h1 cM s σ H D I h) λf s1 q=>?_)
 cases f with
 |next=>exact wpAny_execs_nil q
 |ret v=>exact q
 |brk=>exact q
 |cont=>exact q
theorem Inv.quiet (I:Inv X cM σ H s):interactive X.env=false:=by simp[interactive,I.ok.kind]
noncomputable def TY (te:TE):TS:=λD σ H=>te σ H λ_ H1=>D.nx σ H1
theorem NP (he:PE X e te) (hs:swapsWith e none pos.line X.env=pure false:=by rfl):PS X (.Expr e pos) (TY te):=by
 intro cM s σ H D I h;exact wpAny_Expr_any (gU (he cM s σ H _ I h) λv s1 ⟨x,H1,I1,r1,q1⟩=>⟨σ,H1,I1,q1⟩) I.quiet hs
noncomputable def Xh (te:TE):TS:=λD σ H=>te σ H D.rt
theorem QZ (he:PE X e te):PS X (.Return (some e) pos) (Xh te):=by
 intro cM s σ H D I h;exact wpAny_Return_some (gU (he cM s σ H _ I h) λv s1 ⟨x,H1,I1,r1,q1⟩=>⟨x,σ,H1,I1,r1,q1⟩)
noncomputable def Xi (c:TT) (t u:TS):TS:=λD σ H=>c σ H λb H1=>if b=true then t D σ H1 else u D σ H1
theorem Kx (hc:PT X c tc) (ha:zf X a t) (hb:zf X b u):PS X (.If c a b pos) (Xi tc t u):=by
 intro cM s σ H D I h;refine wpAny_If (gU (hc cM s σ H _ I h) λd s1 ⟨H1,I1,q1⟩=>?_)
 cases d with
 |true=>exact ha cM s1 σ H1 D I1 q1
 |false=>exact hb cM s1 σ H1 D I1 q1
end
abbrev TG:=V->St->Hp->(St->Hp->Prop)->Prop
abbrev Ua:=List V->St->Hp->(St->Hp->Prop)->Prop
def PG (X:Cx) (target:cF) (t:TG):Prop:=
 ∀(cM:cj) (s:cy) (σ:St) (H:Hp) (v:V) (u:cx) (Q:St->Hp->Prop),Inv X cM σ H s->RelV v u->t v σ H Q->
  wpAny (model X.prog X.w) X.A (assign target X.env u) (λ_ s'=>∃σ' H',Inv X cM σ' H' s'/\Q σ' H') X.xe s
def Wn (X:Cx) (ts:List cF) (t:Ua):Prop:=
 ∀(cM:cj) (s:cy) (σ:St) (H:Hp) (vs:List V) (us:cw) (Q:St->Hp->Prop),Inv X cM σ H s->Vals vs us->t vs σ H Q->
  wpAny (model X.prog X.w) X.A (assignInOrder ((assignEach ts X.env).map (·.2)) us) (λ_ s'=>∃σ' H',Inv X cM σ' H' s'/\Q σ' H') X.xe s
abbrev Q0:=V->V->V->Hp->(Hp->Prop)->Prop
def Ub (X:Cx) (t:Q0):Prop:=
 ∀(cM:cj) (s:cy) (σ:St) (H:Hp) (o i v:V) (ov iv u:cx) (Q:Hp->Prop),Inv X cM σ H s->RelV o ov->RelV i iv->RelV v u->t o i v H Q->
  wpAny (model X.prog X.w) X.A (setItem ov iv u) (λ_ s'=>∃H',Inv X cM σ H' s'/\Q H') X.xe s
section
variable {X:Cx}{pos:Pos}
noncomputable def Hf (i:Nat):TG:=λv σ H Q=>Q (σ.set i (some v)) H
theorem gQ (hN:X.N.Nodup) (hi:X.N[i]? =some x) (hx:Loc X.env.scope x) (hf:X.fn x=true\/X.env.scope.names.lookup x=some .local:=by first|exact .inl rfl|exact .inr rfl|assumption):PG X (.Name x pos) (Hf i):=by
 intro cM s σ H v u Q I r h;exact wpAny_assign_Name (CZ I hN hi hx r (λs' I'=>⟨_,H,I',h⟩) hf)
noncomputable def Xj:Ua:=λvs σ H Q=>vs=[]/\Q σ H
noncomputable def Uc (t:TG) (u:Ua):Ua:=λvs σ H Q=>∃v r,vs=v::r/\t v σ H λσ' H'=>u r σ' H' Q
theorem NQ:Wn X [] Xj:=by
 intro cM s σ H vs us Q I r h;obtain⟨e,h⟩:=h;subst e;cases r;exact assignInOrder_nil ⟨σ,H,I,h⟩
theorem Dd (h1:PG X e t) (h2:Wn X es u) (hs:(assignEach (e::es) X.env).map (·.2)=assign e X.env::(assignEach es X.env).map (·.2):=by rfl):Wn X (e::es) (Uc t u):=by
 intro cM s σ H vs us Q I r h;obtain⟨v,vr,e1,h⟩:=h;subst e1;cases r with
 |cons r rr=>
  rw[hs];refine assignInOrder_cons (gU (h1 cM s σ H _ _ _ I r h) λ_ s1 ⟨σ1,H1,I1,q1⟩=>?_)
  exact h2 cM s1 σ1 H1 _ _ Q I1 rr q1
noncomputable def my (K:W.Frag) (n:Nat) (t:Ua):TG:=λv σ H Q=>∃a xs,v=.ref a/\kR K H a xs/\xs.length=n/\t xs σ H Q
theorem Q1 (hc:X.calm=true) (h:Wn X es t) (hn:(assignEach es X.env).length=n:=by rfl) (qh:(assignEach es X.env).findIdx? (·.1)=none:=by rfl):PG X (.Tuple es k pos) (my X.K n t):=by
 intro cM s σ H v u Q I r hw;obtain⟨a,xs,e1,hq,hl,hw⟩:=hw;subst e1;cases r;obtain⟨dD,rv,ht,hz⟩:=I.tuple hq;refine assign_Tuple_tuple (I.ok.hd hc) ht (by simp[hn,<-hl,rv.length]) qh λh' hx=>?_
 have I1:Inv X cM σ H {s with heap:=h'}:=I.kept (t':=s.toks) λb o e=>hx b o (aE (aB e)) e
 exact h cM _ σ H xs _ Q I1 (by simpa using rv) hw
noncomputable def Xk (to ti:TE) (t:Q0):TG:=λv σ H Q=>to σ H λo H1=>ti σ H1 λi H2=>t o i v H2 λH3=>Q σ H3
theorem Ky (ho:PE X o to) (hi:PE X i ti) (hs:Ub X t) (ha:∀v,assign (.Subscript o i pos) X.env v=(do
   let ov <-holding [v] (eval o X.env)
   let iv <-holding [v,ov] (eval i X.env)
   standAt pos
   holding [v,ov,iv] (setItem ov iv v)
   release [v,ov,iv] []):=by intro _;rfl):PG X (.Subscript o i pos) (Xk to ti t):=by
 intro cM s σ H v u Q I r h;rw[ha];refine aa (bo (gU (ho cM s σ H _ I h) λov s1 ⟨x,H1,I1,r1,q1⟩=>?_))
 refine aa (bo (gU (hi cM s1 σ H1 _ I1 q1) λiv s2 ⟨y,H2,I2,r2,q2⟩=>?_))
 refine aa (wpAny_standAt (aa (bo (gU (hs cM s2 σ H2 x y v ov iv u _ I2 r1 r2 r q2) λ_ s3 ⟨H3,I3,q3⟩=>?_))))
 exact wpAny_release ⟨σ,H3,I3,q3⟩
noncomputable def Ud (te:TE) (g:TG):TS:=λD σ H=>te σ H λx H1=>g x σ H1 D.nx
theorem Kz (he:PE X e te) (hg:PG X tg g) (hs:swapsWithSole [tg] e pos.line X.env=pure false:=by rfl) (hw:swappedStores [tg] e X.env=pure none:=by rfl) (h1:(assignEach [tg] X.env).map (·.2)=[assign tg X.env]:=by rfl):PS X (.Assign [tg] e pos) (Ud te g):=by
 intro cM s σ H D I h;refine wpAny_Assign_stores (gU (he cM s σ H _ I h) λv s1 ⟨x,H1,I1,r1,q1⟩=>?_) hs hw
 rw[h1];exact gU (hg cM s1 σ H1 x v _ I1 r1 q1) λ_ s2 q=>q
theorem w6 {i:Nat}{x:Str}{e:cF}{te:TE}{pos':Pos}(hN:X.N.Nodup) (hi:X.N[i]? =some x) (hx:Loc X.env.scope x) (he:PE X e te) (hs:swapsWith e (some (.Name x pos')) pos.line X.env=pure false:=by rfl) (hf:X.fn x=true\/X.env.scope.names.lookup x=some .local:=by first|exact .inl rfl|exact .inr rfl|assumption):
  PS X (.Assign [.Name x pos'] e pos) (Ud te (Hf i)):=by
 intro cM s σ H D I h;refine wpAny_Assign_Name (gU (he cM s σ H _ I h) λv s1 ⟨y,H1,I1,r1,q1⟩=>?_) hs
 exact CZ I1 hN hi hx r1 (λs2 I2=>⟨_,H1,I2,q1⟩) hf
end
section
variable {X:Cx}{pos:Pos}
end
structure It where
 go:Nat->Hp->Prop
 Q2:Nat->Hp->V->Hp->Prop
 stop:Nat->Hp->Prop
def De (X:Cx) (cM:cj) (H:Hp) (b:cE):Prop:=
 H b=none/\b≠X.env.locals/\b∉X.fs/\(b∈X.ex\/X.s₀.heap.objs.size<=b)/\(∀x c,X.env.cells.lookup x=some c->c≠b)/\∀p∈X.pn++cM,p.1≠b
theorem Inv.KA (I:Inv X cM σ H s) (hb:s.heap.objs.size<=b) (hn:H' b=none):De X cM H' b:=by
 refine⟨hn,bw (aw I.lt hb),I.Xb hb,.inr (aD I.sz hb),λx c e z=>?_,λp hp z=>?_⟩
 ·obtain⟨v,q⟩:=I.cell x c e;exact absurd (aw q.lt (by rw[z];exact hb)) (Nat.lt_irrefl _)
 ·exact absurd (aw (aB (I.pin p hp).1) (by rw[z];exact hb)) (Nat.lt_irrefl _)
structure Turn (P:cA) (w:cB) (K:W.Frag) (tg:cF) (J:It) (fp:List cE) (it:cE) (tn:Nat->Heap->Prop):Prop where
 mem:it∈fp
 obj:∀i h,tn i h->∀b∈fp,∃o,h.get? b=some o/\∀v,o.data≠.cell v
 keep:∀i h h',tn i h->(∀b∈fp,∀o,h.get? b=some o->h'.get? b=some o)->tn i h'
 item:∀(X:Cx),X.prog=P->X.w=w->X.K=K->X.calm=true->∀(i:Nat) (cM:cj) (s:cy) (σ:St) (H:Hp) (E:cf),Inv X cM σ H s->(∀b∈fp,De X cM H b)->tn i s.heap->J.go i H->
  wpAny (model P w) X.A (pyNext (.ref it)) (λr s1=>∃u,r=some u/\
   wpAny (model P w) X.A (letOwnedTupleGo tg (.ref it) u) (λ_ s2=>∃x H',Inv X cM σ H' s2/\RelV x u/\J.Q2 i H x H'/\tn (i+1) s2.heap/\∀b∈fp,H' b=none) E s1) E s
 done:∀(X:Cx),X.prog=P->X.w=w->X.K=K->X.calm=true->∀(i:Nat) (cM:cj) (s:cy) (σ:St) (H:Hp) (E:cf),Inv X cM σ H s->(∀b∈fp,De X cM H b)->tn i s.heap->J.stop i H->
  wpAny (model P w) X.A (pyNext (.ref it)) (λr s1=>r=none/\Inv X cM σ H s1) E s
 self:∀(A:cC) (i:Nat) (s:cy) (Q:cf) (E:cf),tn i s.heap->Q (.ref it) s->wpAny (model P w) A (pyIter (.ref it)) Q E s
abbrev TI:=St->Hp->(It->Hp->Prop)->Prop
def Zk (X:Cx) (cM:cj) (σ:St) (tg:cF) (R:It->Hp->Prop) (Wo:cx) (s2:cy):Prop:=
 ∃(it:cE) (fp:List cE) (tn:Nat->Heap->Prop) (J:It) (H':Hp),Wo=.ref it/\Inv X cM σ H' s2/\Turn X.prog X.w X.K tg J fp it tn/\tn 0 s2.heap/\(∀b∈fp,De X cM H' b)/\R J H'
def PI (X:Cx) (tg iter:cF) (wi:TI):Prop:=
 ∀(cM:cj) (s:cy) (σ:St) (H:Hp) (R:It->Hp->Prop),Inv X cM σ H s->wi σ H R->
  wpAny (model X.prog X.w) X.A (eval iter X.env) (λv s1=>wpAny (model X.prog X.w) X.A (pyIter v) (Zk X cM σ tg R) X.xe s1) X.xe s
theorem KC (ho:s.heap.get? it=some o) (hc:o.cls=.type n) (hd:o.data=.fields vs) (hn:["enumerate","zip","dict_itemiterator","dict_reverseitemiterator","odict_iterator","itertools.zip_longest","itertools.pairwise"].contains n=false) (hQ:Q () s):wpAny M A (letOwnedTupleGo tg (.ref it) u) Q E s:=by
 unfold letOwnedTupleGo;cases tg<;>first
  |exact aj hQ
  |(cases u<;>first
    |exact aj hQ
    |(refine aa (wpAny_load ho ?_)
      rw[hc,hd];show wpAny M A (if(["enumerate","zip","dict_itemiterator","dict_reverseitemiterator","odict_iterator","itertools.zip_longest","itertools.pairwise"].contains n&&vs[0]? ==some (rawInt _))=true then _ else _) Q E s
      rw[if_neg (by intro h;rw[hn,Bool.false_and]at h;cases h)]
      exact aj hQ))
noncomputable def Xl (K:W.Frag) (a:cE):It:=
 ⟨λi H=>∃xs x,pZ K H a xs/\xs[i]? =some x,λi H x H'=>H'=H/\∀xs,pZ K H a xs->xs[i]? =some x,λi H=>∃xs,pZ K H a xs/\xs.length<=i⟩
noncomputable def Xm (K:W.Frag) (a:cE):It:=
 ⟨λi H=>∃xs x,kR K H a xs/\xs[i]? =some x,λi H x H'=>H'=H/\∀xs,kR K H a xs->xs[i]? =some x,λi H=>∃xs,kR K H a xs/\xs.length<=i⟩
noncomputable def Wq (lo:Int) (n:Nat):It:=⟨λi _=>i<n,λi H x H'=>H'=H/\x=.int (lo+i),λi _=>n<=i⟩
theorem IS {P:cA}{w:cB}{K:W.Frag}{tg:cF}(a it:cE):Turn P w K tg (Xl K a) [it] it (λi h=>h.IsListIter it a i)where
 mem:=by simp
 obj:=λi h st b hb=>by
  have e:b=it:=by simpa using hb
  subst e;obtain⟨o,e,c,d⟩:=st;exact⟨o,e,λv z=>by rw[d]at z;cases z⟩
 keep:=λi h h' st k=>st.at λo e=>k it (by simp) o e
 item:=by
  intro X hP hw hK hc i cM s σ H E I hf st hg;subst hP hw hK;obtain⟨xs,x,hq,hx⟩:=hg;obtain⟨dD,rv,p,hz⟩:=I.list hq;obtain⟨u,hu,ru⟩:=rv.get hx;obtain⟨f0,f1,f2,f3,f4,f5⟩:=hf it (by simp)
  refine wpAny_pyNext_list_item st p.isList (x:=u) (by simpa using hu) λh' P2 sb=>?_
  have I1:Inv X cM σ H {s with heap:=h'}:=I.turned (t':=s.toks) (λb o hb e=>(sb.2 b hb).trans e) f0 f1 f3 f4 f5
  obtain⟨o,e,c,d⟩:=id P2;exact⟨u,rfl,KC (s:={s with heap:=h'}) e c d (by decide) ⟨x,H,I1,ru,⟨rfl,λys hy=>by rw[I.Kw hy hq];exact hx⟩,P2,λb hb=>(hf b hb).1⟩⟩
 done:=by
  intro X hP hw hK hc i cM s σ H E I hf st hg;subst hP hw hK;obtain⟨xs,hq,hx⟩:=hg;obtain⟨dD,rv,p,hz⟩:=I.list hq;obtain⟨f0,f1,f2,f3,f4,f5⟩:=hf it (by simp)
  have hl:=rv.length;exact wpAny_pyNext_list_end (I.ok.hd hc) st p.isList (by simp;omega) λh' eb=>⟨rfl,I.turned (t':=s.toks) (λb o hb e=>eb b o hb e) f0 f1 f3 f4 f5⟩
 self:=λ_ _ _ _ _ st h=>wpAny_pyIter_listiter st h
theorem Fb {P:cA}{w:cB}{K:W.Frag}{tg:cF}(a it:cE):Turn P w K tg (Xm K a) [it] it (λi h=>h.IsTupleIter it a i)where
 mem:=by simp
 obj:=λi h st b hb=>by
  have e:b=it:=by simpa using hb
  subst e;obtain⟨o,e,c,d⟩:=st;exact⟨o,e,λv z=>by rw[d]at z;cases z⟩
 keep:=λi h h' st k=>st.at λo e=>k it (by simp) o e
 item:=by
  intro X hP hw hK hc i cM s σ H E I hf st hg;subst hP hw hK;obtain⟨xs,x,hq,hx⟩:=hg;obtain⟨dD,rv,p,hz⟩:=I.tuple hq;obtain⟨u,hu,ru⟩:=rv.get hx;obtain⟨f0,f1,f2,f3,f4,f5⟩:=hf it (by simp)
  refine wpAny_pyNext_tuple_item st (show s.heap.IsTuple a dD.toArray from p) (x:=u) (by simpa using hu) λh' P2 sb=>?_
  have I1:Inv X cM σ H {s with heap:=h'}:=I.turned (t':=s.toks) (λb o hb e=>(sb.2 b hb).trans e) f0 f1 f3 f4 f5
  obtain⟨o,e,c,d⟩:=id P2;exact⟨u,rfl,KC (s:={s with heap:=h'}) e c d (by decide) ⟨x,H,I1,ru,⟨rfl,λys hy=>by rw[I.IQ hy hq];exact hx⟩,P2,λb hb=>(hf b hb).1⟩⟩
 done:=by
  intro X hP hw hK hc i cM s σ H E I hf st hg;subst hP hw hK;obtain⟨xs,hq,hx⟩:=hg;obtain⟨dD,rv,p,hz⟩:=I.tuple hq;obtain⟨f0,f1,f2,f3,f4,f5⟩:=hf it (by simp)
  have hl:=rv.length;exact wpAny_pyNext_tuple_end (I.ok.hd hc) st (show s.heap.IsTuple a dD.toArray from p) (by simp;omega) λh' eb=>⟨rfl,I.turned (t':=s.toks) (λb o hb e=>eb b o hb e) f0 f1 f3 f4 f5⟩
 self:=λ_ _ _ _ _ st h=>wpAny_pyIter_tupleiter st h
theorem Fc {P:cA}{w:cB}{K:PySem.W.Frag}{tg:cF}(it:cE) (lo:Int) (n:Nat):Turn P w K tg (Wq lo n) [it] it (λi h=>IsRangeIter h it (lo+(i:Nat)*1) ((n:Int)-(i:Nat)) 1)where
 mem:=by simp
 obj:=λi h st b hb=>by
  have e:b=it:=by simpa using hb
  subst e;exact⟨_,st,λv z=>by
   have z':Data.fields _=Data.cell v:=z;cases z'⟩
 keep:=λi h h' st k=>k it (by simp) _ st
 item:=by
  intro X hP hw hK hc i cM s σ H E I hf st hg;subst hP hw hK;obtain⟨f0,f1,f2,f3,f4,f5⟩:=hf it (by simp)
  have W:=Walks.range (prog:=X.prog) (w:=X.w) (I.ok.hd hc) it lo 1 n;refine W.item i s _ _ hg st λv h' tk hv P2 kk=>?_
  obtain⟨t,rfl⟩:=hv;have I1:Inv X cM σ H {s with heap:=h',toks:=tk}:=I.turned (λb o hb e=>kk b o (by simpa using hb) e) f0 f1 f3 f4 f5
  refine⟨_,rfl,KC (s:={s with heap:=h',toks:=tk}) (n:="range_iterator") P2 rfl rfl (by decide) ⟨.int (lo+i),H,I1,⟨t,?_⟩,⟨rfl,rfl⟩,P2,λb hb=>(hf b hb).1⟩⟩
  rw[Int.mul_one]
 done:=by
  intro X hP hw hK hc i cM s σ H E I hf st hg;subst hP hw hK;obtain⟨f0,f1,f2,f3,f4,f5⟩:=hf it (by simp)
  exact wpAny_pyNext_range_end (I.ok.hd hc) st (by have:n<=i:=hg;omega) λh' eb=>⟨rfl,I.turned (t':=s.toks) (λb o hb e=>eb b o hb e) f0 f1 f3 f4 f5⟩
 self:=λ_ _ _ _ _ st h=>wpAny_pyIter_rangeiter st h
section
variable {X:Cx}{tg:cF}
def Ue (K:W.Frag) (tl:TE):TI:=λσ H R=>tl σ H λx H1=>∃a,x=.ref a/\(∃xs,pZ K H1 a xs)/\R (Xl K a) H1
def Xn (K:W.Frag) (tl:TE):TI:=λσ H R=>tl σ H λx H1=>∃a,x=.ref a/\(∃xs,kR K H1 a xs)/\R (Xm K a) H1
theorem Hg (hl:PE X l tl):PI X tg l (Ue X.K tl):=by
 intro cM s σ H R I h;refine gU (hl cM s σ H _ I h) λv s1 ⟨x,H1,I1,r1,q1⟩=>?_
 obtain⟨a,e,⟨xs,hq⟩,q⟩:=q1;subst e;cases r1;obtain⟨dD,rv,p,hz⟩:=I1.list hq;refine wpAny_pyIter_list p.isList ?_;refine⟨s1.heap.objs.size,[s1.heap.objs.size],_,_,H1,rfl,I1.kept (t':=s1.toks) λb o e=>ag _ e,IS a _,⟨_,az _ rfl,rfl,rfl⟩,λb hb=>?_,q⟩
 have e:b=s1.heap.objs.size:=by simpa using hb
 subst e;exact I1.KA (au _) (I1.fJ.fresh (au _))
theorem Q3 (hl:PE X l tl):PI X tg l (Xn X.K tl):=by
 intro cM s σ H R I h;refine gU (hl cM s σ H _ I h) λv s1 ⟨x,H1,I1,r1,q1⟩=>?_
 obtain⟨a,e,⟨xs,hq⟩,q⟩:=q1;subst e;cases r1;obtain⟨dD,rv,p,hz⟩:=I1.tuple hq;refine wpAny_pyIter_tuple (show s1.heap.IsTuple a dD.toArray from p) ?_
 refine⟨s1.heap.objs.size,[s1.heap.objs.size],_,_,H1,rfl,I1.kept (t':=s1.toks) λb o e=>ag _ e,Fb a _,⟨_,az _ rfl,rfl,rfl⟩,λb hb=>?_,q⟩
 have e:b=s1.heap.objs.size:=by simpa using hb
 subst e;exact I1.KA (au _) (I1.fJ.fresh (au _))
theorem KD {cM:cj}{σ:St}{H:Hp}{s:cy}{R:It->Hp->Prop}{E:cf}{lo hi:Int}{t u v:Tok}{tk:Nat}(I:Inv X cM σ H s) (h1: -(2^62)<=lo) (h2:lo<2^62) (h3: -(2^62)<=hi) (h4:hi<2^62)
  (q:R (Wq lo (hi-lo).toNat) H):wpAny (model X.prog X.w) X.A (pyIter (.ref s.heap.objs.size)) (Zk X cM σ tg R) E {s with heap:=s.heap.push {cls:=.type "range",data:=.fields #[.int lo t,.int hi u,.int 1 v]},toks:=tk}:=by
 refine wpAny_pyIter_range (IsRange.new ..) (small_one h1 h2 h3 h4) ?_;have I1:Inv X cM σ H {s with heap:=s.heap.push {cls:=.type "range",data:=.fields #[.int lo t,.int hi u,.int 1 v]},toks:=tk}:=I.kept λb o e=>ag _ e
 refine⟨(s.heap.push {cls:=.type "range",data:=.fields #[.int lo t,.int hi u,.int 1 v]}).objs.size,[(s.heap.push {cls:=.type "range",data:=.fields #[.int lo t,.int hi u,.int 1 v]}).objs.size],_,_,H,rfl,
  I1.kept (t':=tk) λb o e=>ag _ e,Fc _ lo (hi-lo).toNat,?_,λb hb=>?_,q⟩
 ·have e1:lo+((0:Nat):Int)*1=lo:=by simp
  have e2:(((hi-lo).toNat:Nat):Int)-((0:Nat):Int)=Builtin.Range.rangeSize lo hi 1:=by rw[rangeSize_one];split<;>omega
  show IsRangeIter _ _ (lo+((0:Nat):Int)*1) ((((hi-lo).toNat:Nat):Int)-((0:Nat):Int)) 1;rw[e1,e2];exact az _ rfl
 ·have e:b=(s.heap.push {cls:=.type "range",data:=.fields #[.int lo t,.int hi u,.int 1 v]}).objs.size:=by simpa using hb
  subst e;exact I1.KA (au _) (I1.fJ.fresh (au _))
def Ug (ta:TA):TI:=λσ H R=>ta σ H λvs H1=>∃j:Int,vs=[.int j]/\-(2^62)<=j/\j<2^62/\R (Wq 0 j.toNat) H1
theorem IT (hg:Gl X "range") (hm:X.mg "range"=none) (ha:PA X [a] ta) (hs:starEach [a] X.env=[(false,eval a X.env)]:=by rfl):PI X tg (.Call (.Name "range" p) [a] [] pos) (Ug ta):=by
 intro cM s σ H R I h;refine Call_ (oM I hg hm boot_range (PyProof.Rows.callWith_type1 (gU (ha pos cM s σ H _ I h) λus s1 ⟨vs,H1,I1,r1,q1⟩=>?_) hs rfl))
 obtain⟨j,e,q1,q2,q⟩:=q1;subst e;cases r1 with
 |cons r rr=>
  cases rr;obtain⟨t,rfl⟩:=r;exact call_range_1 (KD I1 (by omega) (by omega) q1 q2 (by simpa using q))
def Xo (wi:TI) (g:TG) (tb:TS):TS:=λD σ H=>wi σ H λJ H1=>∃W:Nat->Nat->St->Hp->Prop,(∃m,W 0 m σ H1)/\∀i m σ H,W i m σ H->
 (J.stop i H/\D.nx σ H)\/(J.go i H/\∃N:St->Hp->Prop,(∀σ' H',N σ' H'->∃m',m'<m/\W (i+1) m' σ' H')/\∀x H',J.Q2 i H x H'->g x σ H' λσ2 H2=>tb {D with nx:=N,ct:=N,bk:=D.nx} σ2 H2)
noncomputable def w9 (fp:List cE) (h:Heap):cj:=fp.filterMap λb=>(h.get? b).map λo=>(b,o)
theorem oN (hb:b∈fp) (e:h.get? b=some o):(b,o)∈w9 fp h:=List.mem_filterMap.mpr ⟨b,hb,by rw[e];rfl⟩
theorem IU (hp:p∈w9 fp h):p.1∈fp/\h.get? p.1=some p.2:=by
 obtain⟨b,hb,e⟩:=List.mem_filterMap.mp hp;cases q:h.get? b with
 |none=>rw[q]at e;cases e
 |some o=>
  rw[q]at e;have e':(b,o)=p:=aS e;subst e';exact⟨hb,q⟩
theorem Inv.pinned (I:Inv X cM σ H s) (hf:∀b∈fp,De X cM H b) (ho:∀b∈fp,∃o,s.heap.get? b=some o/\∀v,o.data≠.cell v):Inv X (cM++w9 fp s.heap) σ H s:=
 I.Hb λp hp=>(List.mem_append.mp hp).elim (λz=>I.pin p (aL _ z)) λz=>by
  obtain⟨hb,e⟩:=IU z;obtain⟨f0,f1,f2,_⟩:=hf p.1 hb;obtain⟨o,e',d⟩:=ho p.1 hb;rw[e]at e';cases e';exact⟨e,f0,f1,f2,d⟩
theorem Inv.sZ (I:Inv X (cM++pl) σ H s):Inv X cM σ H s:=I.Hb λp hp=>I.pin p (aL _ (bC _ hp))
theorem Q4 (hp:PassesOwn (model X.prog X.w) X.A X.env X.xe) (hc:X.calm=true) (hi:PI X tg iter wi) (hg:PG X tg g) (hb:zf X body tb) (hs:∀x,foldedSetIterable iter X.env x=pure x:=by intro _;rfl):PS X (.For tg iter body [] pos) (Xo wi g tb):=by
 intro cM s σ H D I h;refine wpAny_For (gU (hi cM s σ H _ I h) λv s1 h1=>gU h1 λWo s2 h2=>?_) hs
 obtain⟨it,fp,tn,J,H2,e,I2,T,P4,f2,W,⟨m0,w0⟩,turn⟩:=h2;subst e;have Fd:∀{H':Hp},(∀b∈fp,H' b=none)->∀b∈fp,De X cM H' b:=λhn b hb=>⟨hn b hb,(f2 b hb).2⟩
 refine codeAny_forLoop_any (λn s'=>∃i σ' H',Inv X cM σ' H' s'/\tn i s'.heap/\(∀b∈fp,H' b=none)/\W i n σ' H') ?_ m0 ⟨0,σ,H2,I2,P4,λb hb=>(f2 b hb).1,w0⟩
 rintro n s3 ⟨i,σ3,H3,I3,Uh,Ui,w3⟩
 rcases turn i n σ3 H3 w3 with⟨stop,qn⟩|⟨go,N,hN,step⟩
 ·refine wpAny_passesOwn hp (gU (T.done X rfl rfl rfl hc i cM s3 σ3 H3 X.xe I3 (Fd Ui) Uh stop) λr s4 ⟨hr,I4⟩=>?_)
  subst hr;exact wpAny_execs_nil ⟨σ3,H3,I4,qn⟩
 ·refine wpAny_passesOwn hp (gU (T.item X rfl rfl rfl hc i cM s3 σ3 H3 X.xe I3 (Fd Ui) Uh go) λr s4 ⟨u,hr,h4⟩=>?_)
  subst hr;refine wpAny_passesOwn hp (gU h4 λ_ s5 ⟨x,H5,I5,r5,y5,Q5,Xp⟩=>?_)
  have Xq:=I5.pinned (Fd Xp) (T.obj _ _ Q5);refine wpAny_passesOwn hp (gU (hg _ s5 σ3 H5 x u _ Xq r5 (step x H5 y5)) λ_ s6 ⟨σ6,H6,I6,q6⟩=>?_)
  refine wpAny_passesOwn hp (gU (hb _ s6 σ6 H6 _ I6 q6) λf s7 q7=>?_)
  have again:∀{σ7:St}{H7:Hp},Inv X (cM++w9 fp s5.heap) σ7 H7 s7->N σ7 H7->∃m,m<n/\∃i σ' H',Inv X cM σ' H' s7/\tn i s7.heap/\(∀b∈fp,H' b=none)/\W i m σ' H':=λ{σ7 H7} I7 n7=>by
   obtain⟨m',hm,w7⟩:=hN σ7 H7 n7;refine⟨m',hm,i+1,σ7,H7,I7.sZ,T.keep _ _ _ Q5 λb hb o e=>(I7.pin (b,o) (aL _ (aL _ (oN hb e)))).1,λb hb=>?_,w7⟩
   obtain⟨o,e,d⟩:=T.obj _ _ Q5 b hb;exact(I7.pin (b,o) (aL _ (aL _ (oN hb e)))).2.1
  cases f with
  |next=>obtain⟨σ7,H7,I7,n7⟩:=q7;exact again I7 n7
  |cont=>obtain⟨σ7,H7,I7,n7⟩:=q7;exact again I7 n7
  |brk=>obtain⟨σ7,H7,I7,q7⟩:=q7;exact⟨σ7,H7,I7.sZ,q7⟩
  |ret v=>obtain⟨x7,σ7,H7,I7,r7,q7⟩:=q7;exact⟨x7,σ7,H7,I7.sZ,r7,q7⟩
end
abbrev R2:=V->V->Hp->VK->Prop
def rY (X:Cx) (f:cx->cx->Sem cx) (r:R2):Prop:=
 ∀(cM:cj) (s:cy) (σ:St) (H:Hp) (x y:V) (v u:cx) (Q:VK),Inv X cM σ H s->RelV x v->RelV y u->r x y H Q->
  wpAny (model X.prog X.w) X.A (f v u) (EP X cM σ Q) X.xe s
def i8 (X:Cx) (f:cx) (r:List V->Hp->VK->Prop):Prop:=
 ∀(cM:cj) (s:cy) (σ:St) (H:Hp) (xs:List V) (us:cw) (Q:VK),Inv X cM σ H s->Vals xs us->r xs H Q->
  wpAny (model X.prog X.w) X.A (call f us) (EP X cM σ Q) X.xe s
def Xr (X:Cx) (r:V->Hp->(Bool->Hp->Prop)->Prop):Prop:=
 ∀(cM:cj) (s:cy) (σ:St) (H:Hp) (x:V) (v:cx) (Q:Bool->Hp->Prop),Inv X cM σ H s->RelV x v->r x H Q->
  wpAny (model X.prog X.w) X.A (truthy v) (TP X cM σ Q) X.xe s
noncomputable def Ti (r:R2) (ta tb:TE):TE:=λσ H Q=>ta σ H λx H1=>tb σ H1 λy H2=>r x y H2 Q
noncomputable def rI (C:Int->Int->Prop) (g:Int->Int->V):R2:=λx y H Q=>∃i j,x=.int i/\y=.int j/\C i j/\Q (g i j) H
noncomputable def NA (g:Int->Int->V):R2:=λx y H Q=>∃i j,x=.int i/\y=.int j/\Q (g i j) H
section
variable {X:Cx}{a b c:cF}{ta tb tc:TE}{pos:Pos}
theorem Q6 (ha:PE X a ta) (hb:PE X b tb) {cM:cj}{s:cy}{σ:St}{H:Hp}{R:V->V->Hp->Prop}(I:Inv X cM σ H s)
  (h:ta σ H λx H1=>tb σ H1 λy H2=>R x y H2) {Q:cf}{f:cx->cx->Sem cx}
  (hf:∀v u s2 x y H2,Inv X cM σ H2 s2->RelV x v->RelV y u->R x y H2->wpAny (model X.prog X.w) X.A (f v u) Q X.xe s2):
  wpAny (model X.prog X.w) X.A (eval a X.env) (λv s₁=>wpAny (model X.prog X.w) X.A (eval b X.env) (λu s₂=>wpAny (model X.prog X.w) X.A (f v u) Q X.xe s₂) X.xe s₁) X.xe s:=by
 refine gU (ha cM s σ H _ I h) λv s1 ⟨x,H1,I1,r1,q1⟩=>?_
 refine gU (hb cM s1 σ H1 _ I1 q1) λu s2 ⟨y,H2,I2,r2,q2⟩=>?_
 exact hf v u s2 x y H2 I2 r1 r2 q2
theorem KG (ho:rY X (binaryOp op) r) (ha:PE X a ta) (hb:PE X b tb):PE X (.BinOp a op b pos) (Ti r ta tb):=by
 intro cM s σ H Q I h;exact wpAny_BinOp (Q6 ha hb I h λv u s2 x y H2 I2 rx ry q=>ho cM s2 σ H2 x y v u Q I2 rx ry q)
theorem Uj {f:cx->cx->Sem cx}{C:Int->Int->Prop}{g:Int->Int->Int}
  (rule:∀(i j:Int) (t u:Tok) (s:cy) (Q:cf) (E:cf),C i j->Q (.int (g i j) s.toks) {s with toks:=s.toks+1}->wpAny (model X.prog X.w) X.A (f (.int i t) (.int j u)) Q E s):
  rY X f (rI C λi j=>.int (g i j)):=by
 intro cM s σ H x y v u Q I rx ry h;obtain⟨i,j,rfl,rfl,hc,q⟩:=h;obtain⟨t,rfl⟩:=rx;obtain⟨t',rfl⟩:=ry;exact rule i j t t' s _ _ hc ⟨.int (g i j),H,I.tok _,⟨_,rfl⟩,q⟩
theorem Q7 {f:cx->cx->Sem cx}{g:Int->Int->Int}
  (rule:∀(i j:Int) (t u:Tok) (s:cy) (Q:cf) (E:cf),Q (.int (g i j) s.toks) {s with toks:=s.toks+1}->wpAny (model X.prog X.w) X.A (f (.int i t) (.int j u)) Q E s):
  rY X f (NA λi j=>.int (g i j)):=by
 intro cM s σ H x y v u Q I rx ry h;obtain⟨i,j,rfl,rfl,q⟩:=h;obtain⟨t,rfl⟩:=rx;obtain⟨t',rfl⟩:=ry;exact rule i j t t' s _ _ ⟨.int (g i j),H,I.tok _,⟨_,rfl⟩,q⟩
theorem NR {f:cx->cx->Sem cx}{g:Int->Int->Bool}
  (rule:∀(i j:Int) (t u:Tok) (s:cy) (Q:cf) (E:cf),Q (.bool (g i j)) s->wpAny (model X.prog X.w) X.A (f (.int i t) (.int j u)) Q E s):
  rY X f (NA λi j=>.bl (g i j)):=by
 intro cM s σ H x y v u Q I rx ry h;obtain⟨i,j,rfl,rfl,q⟩:=h;obtain⟨t,rfl⟩:=rx;obtain⟨t',rfl⟩:=ry;exact rule i j t t' s _ _ ⟨.bl (g i j),H,I,rfl,q⟩
def Uk (i j:Int):Prop:=0<j/\j<1073741824
def Xs (i j:Int):Prop:=0<=j/\j<=1000000/\i.natAbs<2^64
def NS (i j:Int):Prop:=(-(2^64)<i/\i<2^64)\/(-(2^64)<j/\j<2^64)
theorem NS.ok {i j:Int}(h:NS i j):IntMulOk i j:=by
 rcases h with⟨h1,h2⟩|⟨h1,h2⟩
 ·exact .of_left (intBits_le_64 h1 h2)
 ·exact .of_right (intBits_le_64 h1 h2)
theorem Fe (k:Nat):(0:Int)<=2^k:=by
 rw[two_pow_cast];exact Int.natCast_nonneg _
theorem KH:rY X (binaryOp .Add) (NA λi j=>.int (i+j)):=Q7 λ_ _ _ _ _ _ _ q=>add_int q
theorem Q8:rY X (binaryOp .Sub) (NA λi j=>.int (i-j)):=Q7 λ_ _ _ _ _ _ _ q=>sub_int q
theorem Q9:rY X (binaryOp .Mult) (rI NS λi j=>.int (i*j)):=Uj λ_ _ _ _ _ _ _ hc q=>mul_int q hc.ok
theorem NT:rY X (binaryOp .FloorDiv) (rI Uk λi j=>.int (i/j)):=Uj λi j _ _ _ _ _ hc q=>by
 have h1:(0:Int)<j:=hc.1;have h2:j<1073741824:=hc.2;exact floordiv_int (by omega) (by rw[Int.fdiv_eq_ediv_of_nonneg i (by omega)];exact q) (.inl (PyProof.noPylong_small (by omega)))
theorem Ra:rY X (binaryOp .Mod) (rI (λ_ j=>0<j) λi j=>.int (i%j)):=Uj λi j _ _ _ _ _ hc q=>by
 have h1:(0:Int)<j:=hc;exact mod_int' (by omega) (by rw[Int.fmod_eq_emod_of_nonneg i (by omega)];exact q)
theorem Rb:rY X (binaryOp .LShift) (rI Xs λi j=>.int (i*2^j.toNat)):=Uj λ_ _ _ _ _ _ _ hc q=>lshift_int_small hc.1 hc.2.1 hc.2.2 q
theorem Rc:rY X (binaryOp .RShift) (rI (λ_ j=>0<=j) λi j=>.int (i/2^j.toNat)):=Uj λi j _ _ _ _ _ hc q=>
 rshift_int hc (by rw[Int.fdiv_eq_ediv_of_nonneg i (Fe _)];exact q)
theorem Rf:rY X (binaryOp .BitAnd) (NA λi j=>.int (Builtin.bitAnd i j)):=Q7 λ_ _ _ _ _ _ _ q=>and_int q
end
section
variable {X:Cx}{a b c:cF}{ta tb tc:TE}{pos:Pos}
theorem Rg (I:Inv X cM σ H s) (q:Q (.bl k) H) (e:k=k'):EP X cM σ Q (.bool k') s:=by
 subst e;exact⟨.bl k,H,I,rfl,q⟩
theorem Ul:rY X (compareOp .Lt) (NA λi j=>.bl (decide (i<j))):=NR λ_ _ _ _ _ _ _ q=>lt_int q
theorem Um:rY X (compareOp .LtE) (NA λi j=>.bl (decide (i<=j))):=NR λ_ _ _ _ _ _ _ q=>le_int q
theorem Uo:rY X (compareOp .Gt) (NA λi j=>.bl (decide (j<i))):=NR λ_ _ _ _ _ _ _ q=>gt_int q
theorem Up:rY X (compareOp .GtE) (NA λi j=>.bl (decide (j<=i))):=NR λ_ _ _ _ _ _ _ q=>ge_int q
theorem NU:rY X (compareOp .IsNot) (λx y H Q=>y=.eV/\Q (.bl (!decide (x=.eV))) H):=by
 intro cM s σ H x y v u Q I rx ry h;obtain⟨rfl,q⟩:=h;cases ry;refine isnot_none_gen (Rg I q ?_);cases x<;>first
  |(cases rx;rfl)
  |(obtain⟨t,rfl⟩:=rx;rfl)
theorem rY.or (h:rY X f r) (h':rY X f r'):rY X f (λx y H Q=>r x y H Q\/r' x y H Q):=by
 intro cM s σ H x y v u Q I rx ry q;rcases q with q|q
 ·exact h cM s σ H x y v u Q I rx ry q
 ·exact h' cM s σ H x y v u Q I rx ry q
theorem xb (b:cF) (h:op≠.In:=by decide) (h2:op≠.NotIn:=by decide):behindInMarks op b=false:=by
 have e1:(op==CmpOp.In)=false:=by cases op<;>first|rfl|exact absurd rfl h
 have e2:(op==CmpOp.NotIn)=false:=by cases op<;>first|rfl|exact absurd rfl h2
 cases b<;>simp[behindInMarks,e1,e2]
theorem NV (ho:rY X (compareOp op) r) (ha:PE X a ta) (hb:PE X b tb) (hm:behindInMarks op b=false):PE X (.Compare a [op] [b] pos) (Ti r ta tb):=by
 intro cM s σ H Q I h;exact wpAny_Compare1 (Q6 ha hb I h λv u s2 x y H2 I2 rx ry q=>ho cM s2 σ H2 x y v u Q I2 rx ry q) hm
noncomputable def Uq (t:TE):TT:=λσ H Q=>t σ H λx H'=>∃k,x=.bl k/\Q k H'
theorem Bj (ho:rY X (compareOp op) r) (ha:PE X a ta) (hb:PE X b tb) (hm:behindInMarks op b=false):PT X (.Compare a [op] [b] pos) (Uq (Ti r ta tb)):=by
 intro cM s σ H Q I h;refine wpAny_isTrue_Compare1 (gU (ha cM s σ H _ I h) λv s1 ⟨x,H1,I1,r1,q1⟩=>gU (hb cM s1 σ H1 _ I1 q1) λu s2 ⟨y,H2,I2,r2,q2⟩=>
  gU (ho cM s2 σ H2 x y v u _ I2 r1 r2 q2) λc s3 ⟨z,H3,I3,r3,k,e,q3⟩=>?_) hm
 subst e;cases r3;exact bP ⟨H3,I3,q3⟩
def Rh (K:W.Frag) (x:V) (H:Hp) (k:Bool):Prop:=
 match x with
 |.eV=>k=false
 |.bl b=>k=b
 |.int i=>k=(i !=0)
 |.str y=>y.length<=sizeLine/\k=((y.length:Int)!=0)
 |.Td y=>y.size<=sizeLine/\k=((y.size:Int)!=0)
 |.ref p=>(∃xs,pZ K H p xs/\k= !xs.isEmpty)\/(∃xs,kR K H p xs/\k= !xs.isEmpty)\/∃kvs,H p=some (.dK kvs)/\k= !kvs.isEmpty
 |_=>False
theorem Ff (r:KV kvs vs):(!vs.isEmpty)= !kvs.isEmpty:=by
 cases r<;>rfl
theorem xc (r:Vals xs dD):(!dD.toArray.isEmpty)= !xs.isEmpty:=by
 cases r<;>simp
theorem uH:(sizeLine:Nat)<2^63:=by rw[bu];decide
theorem Ri:Xr X (λx H Q=>∃k,Rh X.K x H k/\Q k H):=by
 intro cM s σ H x v Q I rx h;obtain⟨k,e,q⟩:=h;have hl:=uH;have hs:sizeLine=16777216:=bu;cases x with
 |eV=>
  cases rx;have e':k=false:=e;subst e';exact truthy_none ⟨H,I,q⟩
 |bl b=>
  cases rx;have e':k=b:=e;subst e';exact bP ⟨H,I,q⟩
 |int i=>
  obtain⟨t,rfl⟩:=rx;have e':k=(i !=0):=e;subst e';exact PySem.P.truthy_int ⟨H,I,q⟩
 |str y=>
  obtain⟨t,rfl⟩:=rx;obtain⟨hy,e'⟩:y.length<=sizeLine/\k=((y.length:Int)!=0):=e;subst e';exact PySem.P.truthy_str (by omega) ⟨H,I.tok _,q⟩
 |Td y=>
  obtain⟨t,rfl⟩:=rx;obtain⟨hy,e'⟩:y.size<=sizeLine/\k=((y.size:Int)!=0):=e;subst e';exact W.truthy_bytes (by omega) ⟨H,I.tok _,q⟩
 |ref p=>
  cases rx;have e':(∃xs,pZ X.K H p xs/\k= !xs.isEmpty)\/(∃xs,kR X.K H p xs/\k= !xs.isEmpty)\/∃kvs,H p=some (.dK kvs)/\k= !kvs.isEmpty:=e;rcases e' with⟨xs,hx,e'⟩|⟨xs,hx,e'⟩|⟨kvs,hx,e'⟩
  ·subst e';obtain⟨dD,r,pl,hz⟩:=I.list hx;have hlen:=r.length;exact wpAny_truthy_list pl.isList (by simp only[aq];omega) ⟨H,I.tok _,by rw[xc r];exact q⟩
  ·subst e';obtain⟨dD,r,pl,hz⟩:=I.tuple hx;have hlen:=r.length;exact truthy_tuple pl (by simp only[aq];omega) ⟨H,I.tok _,by rw[xc r];exact q⟩
  ·subst e';obtain⟨hz,hS,vs,r,m⟩:kvs.length<=sizeLine/\(p==sysModules)=false/\∃vs,KV kvs vs/\s.heap.DictOf (fB X.prog X.w) p vs:=I.fJ p _ hx;have hlen:kvs.length=vs.length:=Paired.length r;exact wpAny_truthy_dict hS m (by omega) ⟨H,I.tok _,by rw[Ff r];exact q⟩
 |_=>exact(show False from e).elim
theorem KJ (ha:PE X a ta) (he:∀whole,isTrue a X.env whole=(do let v <-whole;standAt a.pos;holding [v] (truthy v))):
  PT X a (λσ H Q=>ta σ H λx H'=>∃k,Rh X.K x H' k/\Q k H'):=by
 intro cM s σ H Q I h;exact isTrue_plain (gU (ha cM s σ H _ I h) λv s1 ⟨x,H1,I1,r1,q1⟩=>Ri cM s1 σ H1 x v Q I1 r1 q1) (he _)
theorem vals1 (r:Vals [x] us):∃u,us=[u]/\RelV x u:=by
 cases r with
 |cons r1 r2=>cases r2;exact⟨_,rfl,r1⟩
theorem vals2 (r:Vals [x,y] us):∃u w',us=[u,w']/\RelV x u/\RelV y w':=by
 cases r with
 |cons r1 r2=>
  cases r2 with
  |cons r3 r4=>cases r4;exact⟨_,_,rfl,r1,r3⟩
theorem IV (hc:X.calm=true):i8 X (.builtin "min") (λxs H Q=>∃i j,xs=[.int i,.int j]/\Q (.int (if j<i then j else i)) H):=by
 intro cM s σ H xs us Q I r h;obtain⟨i,j,rfl,q⟩:=h;obtain⟨u,w',rfl,⟨t,rfl⟩,⟨t',rfl⟩⟩:=vals2 r;refine min_two_ints (I.ok.hd hc) λh' tk k=>⟨_,H,I.kept k,?_,q⟩
 by_cases hj:j<i
 ·rw[if_pos hj,if_pos hj];exact⟨_,rfl⟩
 ·rw[if_neg hj,if_neg hj];exact⟨_,rfl⟩
end
structure Fg (h:Heap) (x dx C:cE) (mA:cg):Prop where
 obj:h.get? x=some (W.instObj C dx)
 ns:h.Ns1 dx mA
 ne:dx≠x
theorem IW {h:Heap}{dx:cE}{mA:cg}(n:h.Ns1 dx mA):∃od,h.get? dx=some od/\∀name,W.lookIn name od=some (mA name):=by
 obtain⟨o,es,ep,ho,hd,hk,_,hm⟩:=n;refine⟨o,ho,λname=>?_⟩
 have e:=hm name;unfold nsFind findBy at e;rw[<-Array.find?_toList]at e;unfold W.lookIn;rw[hd];dsimp only;split
 ·rename_i y q;rw[q]at e;exact congrArg some e
 ·rename_i q;rw[q]at e;have a:es.toList.any (·.refKey)=false:=by
   rw[List.any_eq_false];intro y hy;obtain⟨z,t,Fh⟩:=hk y (Array.mem_toList_iff.mp hy);simp[DictEntry.refKey,Fh]
  have a':¬ es.toList.any (·.refKey)=true:=by rw[a];exact aZ
  rw[if_neg a'];exact congrArg some e
theorem Fg.look (I:Fg h x dx C mA):∃od,W.InstAt h x (W.instObj C dx) C (some od)/\∀name,W.lookIn name od=some (mA name):=
 let ⟨od,ho,hl⟩:=IW I.ns
 ⟨od,⟨I.obj,rfl,rfl,ho⟩,hl⟩
section
variable {prog:cA}{w:cB}{A:cC}{E:cf}{s:cy}{K:W.Frag}{x dx C f:cE}{mA:cg}{name:Str}{v:cx}
theorem get_map {expr:Bool}{Q:cf}(X:K.In s.heap) (I:Fg s.heap x dx C mA) (hg:W.plainGet K C name=true) (hh:W.hasDictIn K C=true)
  (ha:W.findIn K (.ref C) name=some none) (hv:mA name=some v) (Ki:W.handedIn v=true) (h:Q v {s with toks:=s.toks+1}):
  wpAny (model prog w) A (getAttr (.ref x) name expr) Q E s:=by
 obtain⟨od,J,hl⟩:=I.look;exact W.get_value X J (W.plainGet_of hg).1 (W.findObj_own hh ha rfl (by rw[hl,hv])) Ki h
theorem KL (X:K.In s.heap) (I:Fg s.heap x dx C mA) (hg:W.plainGet K C name=true) (hf:W.findIn K (.ref C) name=some (some (.ref f))) (ht:W.isFn K (.ref f)=true) (hv:mA name=none) (h:Q (.ref f,[.ref x]) s):wpAny (model prog w) A (getMethod (.ref x) name pl) Q E s:=by
 obtain⟨od,J,hl⟩:=I.look;exact W.method_fn X J (W.plainGet_of hg).1 (W.plainGet_of hg).2 hf (beq_iff_eq.mp ht) (by show(W.lookIn name od).map (·.isSome)=some false;rw[hl,hv];rfl) h
theorem NW (X:K.In s.heap) (I:Fg s.heap x dx C mA) (hs:W.findIn K (.ref C) "__setattr__"=some (some (.builtin "object.__setattr__"))) (hp:W.plainOver K C=true) (ht:W.takerIn K C name=some none) (hh:W.hasDictIn K C=true) (hw:PySem.Within mA ns) (hsz:ns.length<=sizeLine) (h:∀h',Fg h' x dx C (λy=>if y=name then some v else mA y)->Heap.SameBut dx s.heap h'->Q () {s with heap:=h',toks:=s.toks+2}):wpAny (model prog w) A (setAttr (.ref x) name v) Q E s:=by
 obtain⟨od,J,hl⟩:=I.look;refine W.set_plain X J hs (W.osa_open (s:={s with toks:=s.toks+1}) (r:=none) X J hp ht λb=>?_)
 obtain⟨cd,hc,Kt⟩:=W.any_some hh;have hx:s.heap.get? x=some ⟨.ref C,some dx,.plain,#[]⟩:=I.obj;refine aa (aj (aa (aa (wpAny_loadPart hx (aa (W.Looks.here (s:={s with toks:=s.toks+1}) (W.looks_clsIn X hc) ?_))))))
 rw[Kt];refine aj (a:=some dx) (aa (aj (aa ?_)));refine wpAny_nsSet1 (s:={s with toks:=s.toks+1}) I.ns λh' Tj Ur=>?_
 obtain⟨oD,esD,epD,hoD,hdD,hcD⟩:=Tj.count (PySem.Within.cons name v hw);refine aa (wpAny_lookBehind hoD (by rw[hdD];exact pastItsLine_dict (aD hcD (by rw[ay];omega))) ?_)
 exact aj (h _ ⟨(Ur.2 _ (Ne.symm I.ne)).trans I.obj,Tj,I.ne⟩ Ur)
theorem KN (X:K.In s.heap) (hm:W.makesIn K C=true) (hi:W.findIn K (.ref C) "__init__"=some (some (.ref f))) (hf:W.typeIn K (.ref f)=some (.type "function")) (h:codeAny (model prog w) (A.under (.builtin "type.__call__" ⟨.ref C::vs,kw⟩)) (.call (.ref f) ⟨.ref (s.heap.objs.size+1)::vs,kw⟩) (W.InitBack (s.heap.objs.size+1) R)
   {s with heap:=(s.heap.push W.emptyDict).push (W.instObj C s.heap.objs.size)}):codeAny (model prog w) A (.call (.ref C) ⟨vs,kw⟩) R s:=by
 obtain⟨hh,g,d,t,os⟩:=s;exact W.make_core (W.makes_of X hm) (W.looks_findIn X hi) (λself=>W.bind_fn X self hf) (.inl rfl) h
end
noncomputable def oO (f:Str) (v:V):List (Str×V)->List (Str×V)
 |[]=>[(f,v)]
 |(g,x)::r=>if g=f then(g,v)::r else(g,x)::oO f v r
theorem ir (f g:Str) (v:V):∀fs:List (Str×V),(oO f v fs).lookup g=if g=f then some v else fs.lookup g
 |[]=>by
  show List.lookup g [(f,v)]=_;by_cases h:g=f
  ·have hb:(g==f)=true:=beq_iff_eq.mpr h;simp only[List.lookup,hb,if_pos h]
  ·have hb:(g==f)=false:=beq_eq_false_iff_ne.mpr h;simp only[List.lookup,hb,if_neg h]
 |(k,x)::r=>by
  have ih:=ir f g v r;rw[show oO f v ((k,x)::r)=(if k=f then(k,v)::r else(k,x)::oO f v r)from rfl]
  by_cases hk:k=f
  ·rw[if_pos hk];by_cases h:g=k
   ·have hb:(g==k)=true:=beq_iff_eq.mpr h;simp only[List.lookup,hb,if_pos (h.trans hk)]
   ·have hb:(g==k)=false:=beq_eq_false_iff_ne.mpr h;simp only[List.lookup,hb,if_neg (λe:g=f=>h (e.trans hk.symm))]
  ·rw[if_neg hk];by_cases h:g=k
   ·have hb:(g==k)=true:=beq_iff_eq.mpr h;simp only[List.lookup,hb,if_neg (λe:g=f=>hk (h.symm.trans e))]
   ·have hb:(g==k)=false:=beq_eq_false_iff_ne.mpr h;simp only[List.lookup,hb];exact ih
theorem uI (f:Str) (v:V):∀fs:List (Str×V),f∈(oO f v fs).map (·.1)/\∀g,g∈fs.map (·.1)->g∈(oO f v fs).map (·.1)
 |[]=>⟨by simp[oO],λg h=>by simp at h⟩
 |(k,x)::r=>by
  obtain⟨i1,i2⟩:=uI f v r;rw[show oO f v ((k,x)::r)=(if k=f then(k,v)::r else(k,x)::oO f v r)from rfl]
  by_cases hk:k=f
  ·rw[if_pos hk];subst hk;exact⟨by simp,λg h=>by simpa using h⟩
  ·rw[if_neg hk];refine⟨?_,λg h=>?_⟩
   ·rw[aF];exact ai _ i1
   ·rw[aF]at h ⊢;rcases List.mem_cons.mp h with e|e
    ·exact List.mem_cons.mpr (.inl e)
    ·exact ai _ (i2 g e)
theorem vN (f:Str) (v:V):∀fs:List (Str×V),(oO f v fs).length<=fs.length+1
 |[]=>by simp[oO]
 |(k,x)::r=>by
  have ih:=vN f v r;rw[show oO f v ((k,x)::r)=(if k=f then(k,v)::r else(k,x)::oO f v r)from rfl]
  by_cases hk:k=f
  ·rw[if_pos hk,ay,ay];omega
  ·rw[if_neg hk,ay,ay];omega
theorem qd.some_of (r:qd (some v) o):∃u,o=some u/\RelV v u:=by
 cases o with
 |none=>exact(show False from r).elim
 |some u=>exact⟨u,rfl,r⟩
theorem qd.none_of (r:qd none o):o=none:=by
 cases o with
 |none=>rfl
 |some u=>exact(show False from r).elim
theorem IX (r:RelV v u):W.handedIn u=true:=by
 cases v with
 |eV=>cases (show u=Value.none from r);rfl
 |bl b=>cases (show u=Value.bool b from r);rfl
 |int i=>obtain⟨t,e⟩:=(show ∃t,u=Value.int i t from r);cases e;rfl
 |str x=>obtain⟨t,e⟩:=(show ∃t,u=Value.str x t from r);cases e;rfl
 |Td b=>obtain⟨t,e⟩:=(show ∃t,u=Value.bytes b t from r);cases e;rfl
 |Wh b=>obtain⟨t,e⟩:=(show ∃t,u=Value.float b t from r);cases e;rfl
 |ref a=>cases (show u=Value.ref a from r);rfl
 |ty n=>cases (show u=Value.type n from r);rfl
section
variable {P:cA}{w:cB}{H H':Hp}{h h':Heap}{a C dx:cE}{fs fs':List (Str×V)}
theorem ng (fJ:rT P w H h) (e:H a=some (.ins C dx fs)):∃mA,Fg h a dx C mA/\(∀f,qd (fs.lookup f) (mA f))/\PySem.Within mA (fs.map (·.1))/\fs.length<=1000/\H dx=some (.own a):=by
 obtain⟨d,z,ne,ob,mA,n,r,q⟩:=(show ie P w H h a (.ins C dx fs)from fJ a _ e)
 exact⟨mA,⟨ob,n,ne⟩,r,q,z,d⟩
end
structure NX (K:W.Frag) (C:cE):Prop where
 pg:W.plainGet K C Str.empty=true
 hd:W.hasDictIn K C=true
 po:W.plainOver K C=true
 sa:W.findIn K (.ref C) "__setattr__"=some (some (.builtin "object.__setattr__"))
theorem NX.get {K:W.Frag}{C:cE}(c:NX K C) (f:Str):W.plainGet K C f=true:=c.pg
def qi (K:W.Frag) (C:cE) (f:Str):Prop:=W.findIn K (.ref C) f=some none
theorem qi.Us {K:W.Frag}{C:cE}{f:Str}(n:qi K C f):W.takerIn K C f=some none:=by
 unfold W.takerIn;rw[show W.findIn K (.ref C) f=some none from n]
 rfl
structure Meth (K:W.Frag) (C:cE) (m:Str) (f:cE):Prop where
 at_:W.findIn K (.ref C) m=some (some (.ref f))
 fn:W.isFn K (.ref f)=true
 kp:W.keepIn K (.ref f)=true
section
variable {X:Cx}{cM:cj}{σ:St}{H:Hp}{s:cy}{a C dx:cE}{fs:List (Str×V)}{f:Str}{v:V}{A:cC}{E:cf}
theorem Fj (I:Inv X cM σ H s) (e:H a=some (.ins C dx fs)) (c:NX X.K C) (n:qi X.K C f) (l:fs.lookup f=some v) (h:∀u s',Inv X cM σ H s'->RelV v u->Q u s'):wpAny (model X.prog X.w) A (getAttr (.ref a) f b) Q E s:=by
 obtain⟨mA,O,r,_,_,_⟩:=ng I.fJ e;obtain⟨u,hu,ru⟩:=qd.some_of (v:=v) (o:=mA f) (by rw[<-l];exact r f)
 exact get_map I.E7 O (c.get f) c.hd n hu (IX ru) (h u _ (I.tok _) ru)
theorem Fl (I:Inv X cM σ H s) (e:H a=some (.ins C dx fs)) (c:NX X.K C) (k:Meth X.K C m g) (l:fs.lookup m=none) (h:Q (.ref g,[.ref a]) s):wpAny (model X.prog X.w) A (getMethod (.ref a) m pl) Q E s:=by
 obtain⟨mA,O,r,_,_,_⟩:=ng I.fJ e;have hn:mA m=none:=qd.none_of (by rw[<-l];exact r m)
 exact KL I.E7 O (c.get m) k.at_ k.fn hn h
theorem Fm (I:Inv X cM σ H s) (e:H a=some (.ins C dx fs)) (c:NX X.K C) (n:qi X.K C f) (hl:fs.length<1000) (ry:RelV y u) (h:∀s',Inv X cM σ (upd H a (.ins C dx (oO f y fs))) s'->Q () s'):wpAny (model X.prog X.w) A (setAttr (.ref a) f u) Q E s:=by
 obtain⟨mA,O,r,wi,_,ho⟩:=ng I.fJ e;have hz:(fs.map (·.1)).length<=sizeLine:=by rw[ae,bu];omega
 refine NW I.E7 O c.sa c.po n.Us c.hd wi hz λh' O' sb=>h _ ?_
 have hd:∃o,h'.get? dx=some o:=let ⟨o,_,_,e',_⟩:=O'.ns;⟨o,e'⟩;refine I.write (x:=a) (e:=dx) (by rw[e];exact True.intro) (.inr ho) (λb q hb z=>(sb.2 b hb).trans z) hd ?_
 refine⟨by rw[cR O.ne];exact ho,?_,O.ne,O'.obj,_,O'.ns,λg=>?_,λg hg=>?_⟩
 ·have:=vN f y fs;omega
 ·show qd ((oO f y fs).lookup g) (if g=f then some u else mA g)
  rw[ir];by_cases q:g=f
  ·rw[if_pos q,if_pos q];exact ry
  ·rw[if_neg q,if_neg q];exact r g
 ·by_cases q:g=f
  ·rw[q];exact(uI f y fs).1
  ·refine(uI f y fs).2 g (wi g λz=>hg ?_)
   show(if g=f then some u else mA g)=none
   rw[if_neg q];exact z
theorem Inv.made (I:Inv X cM σ H s):Inv X cM σ (upd (upd H s.heap.objs.size (.own (s.heap.objs.size+1))) (s.heap.objs.size+1) (.ins C s.heap.objs.size []))
  {s with heap:=(s.heap.push W.emptyDict).push (W.instObj C s.heap.objs.size)}:=by
 have e1:(s.heap.push W.emptyDict).get? s.heap.objs.size=some W.emptyDict:=az s.heap rfl;have e2:((s.heap.push W.emptyDict).push (W.instObj C s.heap.objs.size)).get? (s.heap.objs.size+1)=some (W.instObj C s.heap.objs.size):=by
  have:=az (s.heap.push W.emptyDict) (o:=W.instObj C s.heap.objs.size) rfl
  rwa [Heap.size_push]at this
 have e3:(s.heap.push W.emptyDict).Ns s.heap.objs.size (λ_=>none):=⟨W.emptyDict,#[],_,e1,rfl,(λe he=>absurd he (by simp)),λ_=>rfl⟩
 have I1:=I.laid (a:=s.heap.objs.size) (o:=.own (s.heap.objs.size+1)) (h':=s.heap.push W.emptyDict) (t':=s.toks) (λb u q=>ag _ q) (au _) ⟨_,e1⟩
 refine I1.laid (a:=s.heap.objs.size+1) (o:=.ins C s.heap.objs.size []) (t':=s.toks) (λb u q=>ag _ q) (Nat.le_of_eq (Heap.size_push _ _)) ?_
 have ne:s.heap.objs.size≠s.heap.objs.size+1:=aE (Nat.lt_succ_self _);refine⟨by rw[cR ne,cY],bK _,ne,e2,λ_=>none,(Heap.Ns1.of_empty e3).at λo q=>ag _ q,λ_=>True.intro,λy hy=>absurd rfl hy⟩
theorem NY {prog:cA}{w:cB}{env:Env}{e:cF}{f:Str}{pos:Pos}{s:cy}{Q:cf}(hb:attributeBase e f env (eval e env)=eval e env)
  (h:wpAny (model prog w) A (eval e env) (λo s₁=>wpAny (model prog w) A (getAttr o f true) Q E s₁) E s):wpAny (model prog w) A (eval (.Attribute e f pos) env) Q E s:=
 Attribute_any_ h (by rw[arm_eval_Attribute,hb])
end
def Ut (K:W.Frag) (ta:TE) (f:Str):TE:=λσ H Q=>ta σ H λx H1=>∃a C dx fs v,x=.ref a/\H1 a=some (.ins C dx fs)/\NX K C/\qi K C f/\fs.lookup f=some v/\Q v H1
def Xu (K:W.Frag) (ta tv:TE) (f:Str):TS:=λD σ H=>tv σ H λy H1=>ta σ H1 λx H2=>∃a C dx fs,x=.ref a/\H2 a=some (.ins C dx fs)/\NX K C/\qi K C f/\fs.length<1000/\
 D.nx σ (upd H2 a (.ins C dx (oO f y fs)))
section
variable {X:Cx}{o e value:cF}{f:Str}{pos pos' Uu:Pos}{ta tv:TE}
theorem Bk (he:PE X e ta) (hb:attributeBase e f X.env (eval e X.env)=eval e X.env):PE X (.Attribute e f pos) (Ut X.K ta f):=by
 intro cM s σ H Q I h;refine NY hb (gU (he cM s σ H _ I h) λu s1 ⟨x,H1,I1,rx,a,C,dx,fs,v,ex,ea,c,n,l,q⟩=>?_)
 subst ex;obtain rfl:u=Value.ref a:=rx;exact Fj I1 ea c n l λu' s2 I2 ru=>⟨v,H1,I2,ru,q⟩
theorem KO (ha:PE X o ta) (hv:PE X value tv) (hs:swapsWith value (some (.Attribute o f pos')) pos.line X.env=pure false):PS X (.Assign [.Attribute o f pos'] value pos) (Xu X.K ta tv f):=by
 intro cM s σ H D I h;refine plainObj_wpAny_Assign_Attribute (gU (hv cM s σ H _ I h) λu s1 ⟨y,H1,I1,ry,q⟩=>gU (ha cM s1 σ H1 _ I1 q) λov s2 ⟨x,H2,I2,rx,a,C,dx,fs,ex,ea,c,n,l,q2⟩=>?_) hs
 subst ex;obtain rfl:ov=Value.ref a:=rx;exact Fm I2 ea c n l ry λs3 I3=>⟨σ,_,I3,q2⟩
end
section
variable {X:Cx}{cM:cj}{σ:St}{H:Hp}{s:cy}{A:cC}{E:cf}{Q:cf}{c:cx}{b:Bool}
end
structure fm (k:Nat) (A:cC):Prop where
 hd:A.handled=none
 dp:A.depth+3*k+5<recursionLimit
 un:A.units+16*k+200<cLine
 gd:A.guards=some []
theorem fm.mono (r:fm k A) (h:j<=k):fm j A:=⟨r.hd,by have:=r.dp;omega,by have:=r.un;omega,r.gd⟩
theorem fm.deeper (r:fm (k+1) A) (env:Env):fm k (A.deeper env):=
 ⟨r.hd,by have:=r.dp;show A.depth+1+3*k+5<_;omega,by have:=r.un;show A.units+3+16*k+200<_;omega,r.gd⟩
theorem Fn {A:cC}{C:cE}{us:cw}{kw:List (Str×cx)}:(A.under (.builtin "type.__call__" ⟨.ref C::us,kw⟩)).depth=A.depth+1:=by
 first|rfl|simp[Around.under,Code.weight,Code.isCreation,Code.isGuard,Code.isCaller,Code.frames,Code.isFrame,guardIds]
theorem Fo {A:cC}{C:cE}{us:cw}{kw:List (Str×cx)}:(A.under (.builtin "type.__call__" ⟨.ref C::us,kw⟩)).units=A.units+1:=by
 first|rfl|simp[Around.under,Code.cUnits,Code.frames,Code.isFrame]
theorem Df {A:cC}{C:cE}{us:cw}{kw:List (Str×cx)}:(A.under (.builtin "type.__call__" ⟨.ref C::us,kw⟩)).guards=A.guards:=by
 cases A with|mk hd d fr gs u=>cases gs<;>rfl
theorem fm.make (r:fm (k+1) A) (C:cE) (us:cw) (kw:List (Str×cx)):fm k (A.under (.builtin "type.__call__" ⟨.ref C::us,kw⟩)):=
 ⟨r.hd,by have:=r.dp;rw[Fn];omega,by have:=r.un;rw[Fo];omega,Df.trans r.gd⟩
theorem fm.depth (r:fm k A):A.depth<recursionLimit:=by have:=r.dp;omega
theorem fm.units {k:Nat}{A:cC}(r:fm k A):A.units+64<cLine:=by have:=r.un;omega
noncomputable def Xv:TA:=λ_ H Q=>Q [] H
noncomputable def Uv (ta:TE) (tr:TA):TA:=λσ H Q=>ta σ H λx H1=>tr σ H1 λxs H2=>Q (x::xs) H2
section
variable {X:Cx}{e:cF}{es:List cF}{te:TE}{t:TA}{pos:Pos}
theorem uJ:PA X [] Xv:=λ_ _ _ _ H Q I h=>Calls.spliced_nil ⟨[],H,I,.nil,h⟩
theorem nh (ha:PE X e te) (hr:PA X es t) (hs:starEach (e::es) X.env=(false,eval e X.env)::starEach es X.env:=by rfl):PA X (e::es) (Uv te t):=by
 intro pos cM s σ H Q I h;rw[hs];show wpAny _ _ (spliced ((false,eval e X.env)::backTo pos (starEach es X.env))) _ _ s;refine Calls.spliced_cons (gU (ha cM s σ H _ I h) λu s1 ⟨x,H1,I1,r1,q1⟩=>?_)
 exact gU (hr pos cM s1 σ H1 _ I1 q1) λus s2 ⟨xs,H2,I2,r2,q2⟩=>⟨x::xs,H2,I2,.cons r1 r2,q2⟩
def Xw (t:TA):TE:=λσ H Q=>t σ H λxs H1=>xs.length<=sizeLine/\∀p,H1 p=none->Q (.ref p) (upd H1 p (.tup xs))
def Xx (t:TA):TE:=λσ H Q=>t σ H λxs H1=>xs.length<=sizeLine/\∀p,H1 p=none->Q (.ref p) (upd H1 p (.lst xs))
theorem Rj {x1} (h:PA X es t):PE X (.Tuple es x1 pos) (Xw t):=by
 intro cM s σ H Q I hq;refine wpAny_Tuple_spliced (gU (h pos cM s σ H _ I hq) λus s1 ⟨xs,H1,I1,r,z,q⟩=>⟨by rw[<-r.length];exact z,?_⟩)
 have hf:H1 s1.heap.objs.size=none:=I1.fJ.fresh (au _);refine⟨.ref s1.heap.objs.size,upd H1 s1.heap.objs.size (.tup xs),I1.laid (t':=s1.toks) (λb u e=>ag _ e) (au _) ?_,rfl,q _ hf⟩
 exact⟨z,us,r,⟨_,az _ rfl,rfl,_,rfl⟩⟩
theorem Rk (h:PA X es t):PE X (.List es pos) (Xx t):=by
 intro cM s σ H Q I hq;refine wpAny_List_spliced (gU (h pos cM s σ H _ I hq) λus s1 ⟨xs,H1,I1,r,z,q⟩=>⟨by rw[<-r.length];exact z,?_⟩)
 have hf:H1 s1.heap.objs.size=none:=I1.fJ.fresh (au _);refine⟨.ref s1.heap.objs.size,upd H1 s1.heap.objs.size (.lst xs),I1.laid (t':=s1.toks) (λb u e=>ag _ e) (au _) ?_,rfl,q _ hf⟩
 exact⟨z,us,0,r,az _ rfl⟩
end
abbrev Sp:=List V->Hp->VK->XK->Prop
abbrev IY:=List Env->Hp->cy->XK->cf
structure Dg (P:cA) (w:cB) (K:W.Frag) (mg:cg) (base:Heap) (A:cC) (outer:List Env) (s:cy) (H:Hp):Prop where
 frames:A.frames=some outer
 mod:Mod K mg base
 bs:∀b o,base.get? b=some o->s.heap.get? b=some o/\H b=none
 Kr:base.objs.size<=s.heap.objs.size
 rU:s.heap.FunFrames base outer
 NM:∀b∈Bg outer,H b=none
 fJ:rT P w H s.heap
 bare:AllBare s.gens
 tb:IM K mg base H
theorem IM.un {K:W.Frag}{mg:cg}{base:Heap}{fs ex:List cE}{H H':Hp}{h h':Heap}(t:IM K mg base H) (u:Un fs ex H H' h h'):IM K mg base H':=λx c Pt pos qual hm ht=>by
 obtain⟨⟨m1,e1⟩,hr⟩:=t x c Pt pos qual hm ht;obtain⟨m2,e2⟩:=u.zd Pt _ e1;exact⟨⟨m1++m2,by rw[e2,Array.append_assoc]⟩,hr⟩
def CE (outer:List Env) (P:cA) (w:cB) (H:Hp) (s:cy) (Q:VK) (u:cx) (s':cy):Prop:=
 ∃v H',s'.os=s.os/\AllBare s'.gens/\Un (Bg outer) [] H H' s.heap s'.heap/\rT P w H' s'.heap/\RelV v u/\Q v H'
def CR (CX:IY) (outer:List Env) (P:cA) (w:cB) (H:Hp) (s:cy) (Q:VK) (E:XK) (r:Result) (s':cy):Prop:=
 match r with
 |.ok (.ret u)=>CE outer P w H s Q u s'
 |.ok _=>False
 |.error e=>CX outer H s E e s'
structure dY (P:cA) (w:cB) (K:W.Frag) (mg:cg) (base:Heap) (CX:IY) (k:Nat) (f:cE) (fd:cz) (ps:List Str) (sp:Sp):Prop where
 len:∀vs H Q E,sp vs H Q E->vs.length=ps.length
 run:∀(A:cC) (outer:List Env) (s:cy) (H:Hp) (args:Args) (us:cw) (vs:List V) (Q:VK) (E:XK),fm k A->Dg P w K mg base A outer s H->BindsTo s fd args (ps.zip us)->Vals vs us->sp vs H Q E->
  codeAny (model P w) A (.call (.ref f) args) (CR CX outer P w H s Q E) s
theorem dY.mono {P:cA}{w:cB}{K:W.Frag}{mg:cg}{base:Heap}{CX:IY}{j k:Nat}{f:cE}{fd:cz}{ps:List Str}{sp:Sp}(F:dY P w K mg base CX j f fd ps sp) (h:j<=k):
  dY P w K mg base CX k f fd ps sp:=⟨F.len,λA outer s H args us vs Q E hr=>F.run A outer s H args us vs Q E (hr.mono h)⟩
theorem dY.imp {P:cA}{w:cB}{K:W.Frag}{mg:cg}{base:Heap}{CX:IY}{k:Nat}{f:cE}{fd:cz}{ps:List Str}{sp Zl:Sp}(F:dY P w K mg base CX k f fd ps sp)
  (h:∀vs H Q E,Zl vs H Q E->sp vs H Q E):dY P w K mg base CX k f fd ps Zl:=
 ⟨λvs H Q E q=>F.len vs H Q E (h _ _ _ _ q),λA outer s H args us vs Q E hr he hb hv hs=>F.run A outer s H args us vs Q E hr he hb hv (h _ _ _ _ hs)⟩
theorem Dg.make {P:cA}{w:cB}{K:W.Frag}{mg:cg}{base:Heap}{A:cC}{outer:List Env}{s:cy}{H:Hp}(e:Dg P w K mg base A outer s H) (C:cE) (us:cw) (kw:List (Str×cx)):
  Dg P w K mg base (A.under (.builtin "type.__call__" ⟨.ref C::us,kw⟩)) outer s H:=⟨by first|exact e.frames|(simpa [Around.under,Code.envs,Code.isFrame,pushEnvs]using e.frames),e.mod,e.bs,e.Kr,e.rU,e.NM,e.fJ,e.bare,e.tb⟩
section
variable {X:Cx}{cM:cj}{σ:St}{H:Hp}{s s':cy}
theorem Inv.NZ (I:Inv X cM σ H s):Dg X.prog X.w X.K X.mg X.base X.A X.stack s H:=
 ⟨I.ok.frames,I.ok.mod,I.bs,aD I.ok.Kr I.sz,I.stack,I.Ha,I.fJ,I.bare,I.ok.tb.un I.base⟩
theorem Inv.after {Q:VK}{u:cx}(I:Inv X cM σ H s) (h:CE X.stack X.prog X.w H s Q u s'):EP X cM σ Q u s':=by
 obtain⟨v,H',os,bare,un,fJ,r,q⟩:=h;obtain⟨hh,g,d,t,Uw⟩:=s';obtain rfl:Uw=s.os:=os;exact⟨v,H',I.call (h':=hh) (g':=g) (d':=d) (t':=t) (ch:=[]) un fJ bare (λb z=>absurd z (by simp)),r,q⟩
end
noncomputable def P5 (sp:Sp) (Bl:List V) (E:XK) (t:TA):TE:=λσ H Q=>t σ H λvs H1=>sp (vs++Bl) H1 Q E
def Ux (C:cE) (m:Str) (sp:Sp) (Bl:List V) (E:XK) (ta:TE) (t:TA):TE:=λσ H Q=>ta σ H λx H1=>∃a dx fs,x=.ref a/\H1 a=some (.ins C dx fs)/\fs.lookup m=none/\
 t σ H1 λvs H2=>sp (x::(vs++Bl)) H2 Q E
def Uy (C:cE) (sp:Sp) (Bl:List V) (E:XK) (t:TA):TE:=λσ H Q=>t σ H λvs H1=>∀x dx,H1 x=none->H1 dx=none->dx≠x->
 sp (.ref x::(vs++Bl)) (upd (upd H1 dx (.own x)) x (.ins C dx [])) (λv H2=>v=.eV/\Q (.ref x) H2) E
def Binds (K:W.Frag) (fd:cz) (ps:List Str) (ds:cw):Prop:=
 ∀(s:cy) (us:cw),K.In s.heap->(us++ds).length=ps.length->BindsTo s fd ⟨us,[]⟩ (ps.zip (us++ds))
theorem Binds.all {K:W.Frag}{fd:cz}{ps:List Str}(h:∀us:cw,us.length=ps.length->bindArgs fd ⟨us,[]⟩=pure (ps.zip us)):Binds K fd ps []:=λs us _ hl=>by
 rw[bB]at hl ⊢;exact .of_eq (h us hl)
def Passes (CX:IY) (X:Cx) (E:XK):Prop:=∀(cM:cj) (σ:St) (H:Hp) (s:cy) (e:cx) (s':cy),Inv X cM σ H s->CX X.stack H s E e s'->X.xe e s'
section
variable {X:Cx}{CX:IY}{k:Nat}{f C:cE}{fd:cz}{ps:List Str}{sp:Sp}{Bl:List V}{ds:cw}{E:XK}{x m:Str}{p pos apos:Pos}{e o:cF}{es:List cF}{ta:TE}{t:TA}
theorem Fp (F:dY X.prog X.w X.K X.mg X.base CX k f fd ps sp) (hr:fm k X.A) (hb:Binds X.K fd ps ds) (hd:Vals Bl ds) (hx:Passes CX X E) (I:Inv X cM σ H s) (r:Vals vs us) (h:sp (vs++Bl) H Q E):wpAny (model X.prog X.w) X.A (call (.ref f) us) (EP X cM σ Q) X.xe s:=by
 have r2:Vals (vs++Bl) (us++ds):=r.append hd;have hl:(us++ds).length=ps.length:=by rw[<-r2.length];exact F.len _ _ _ _ h
 refine wpAny_call (codeAny_mono (F.run X.A X.stack s H ⟨us,[]⟩ (us++ds) (vs++Bl) Q E hr I.NZ (hb s us I.E7 hl) r2 h) λr s' hq=>?_)
 cases r with
 |error e=>exact hx cM σ H s e s' I hq
 |ok fl=>
  cases fl with
  |ret u=>exact I.after hq
  |next=>exact False.elim hq
  |brk=>exact False.elim hq
  |cont=>exact False.elim hq
abbrev _root_.cL (e:PySem.Expr) (es:List PySem.Expr) (v:PySem.Env):Prop:=PySem.starEach (e::es) v=(false,PySem.eval e v)::PySem.starEach es v
theorem Bm (F:dY X.prog X.w X.K X.mg X.base CX k f fd ps sp) (hr:fm k X.A) (hg:Gl X x) (hm:X.mg x=some (.ref f)) (hk:W.keepIn X.K (.ref f)=true) (hb:Binds X.K fd ps ds) (hd:Vals Bl ds) (hx:Passes CX X E)
  (ha:PA X (e::es) t) (rV:(x==("__debug__":Str))=false:=by decide) (he:cL e es X.env:=by rfl) (kf:(backTo pos (starEach es X.env)).any (·.1)=false:=by rfl):
  PE X (.Call (.Name x p) (e::es) [] pos) (P5 sp Bl E t):=by
 intro cM s σ H Q I h;refine wpAny_Call_Name_kw (wG I hg hm ?_ rV);refine W.callWith_K (h₀:=X.base) I.ok.mod.QQ hk (gU (ha pos cM s σ H _ I h) λus s1 ⟨vs,H1,I1,r,q⟩=>⟨I1.E7,?_⟩) he kf
 exact Fp F hr hb hd hx I1 r q
theorem Hh {pl:Sem Bool}(he:PE X o ta) (c:NX X.K C) (hm:Meth X.K C m f) (F:dY X.prog X.w X.K X.mg X.base CX k f fd ps sp) (hr:fm k X.A) (hb:Binds X.K fd ps ds) (hd:Vals Bl ds) (hx:Passes CX X E) (ha:PA X (e::es) t)
  (qh:cL e es X.env:=by rfl) (kf:(backTo pos (starEach es X.env)).any (·.1)=false:=by rfl)
  (ht:eval (.Call (.Attribute o m apos) (e::es) [] pos) X.env=(do
   let ov <-eval o X.env
   standAt apos.atName
   let (f,first) <-holding [ov] (getMethod ov m pl)
   callWith pos f first (backTo pos (starEach (e::es) X.env)) (backToKw pos (keywordEach [] X.env))):=by rfl):
  PE X (.Call (.Attribute o m apos) (e::es) [] pos) (Ux C m sp Bl E ta t):=by
 intro cM s σ H Q I h;refine W.methodCall_KW (pl:=pl) (gU (he cM s σ H _ I h) λu s1 ⟨x,H1,I1,rx,a,dx,fs,ex,ea,l,q⟩=>?_) ht
 subst ex;obtain rfl:u=Value.ref a:=rx;refine Fl I1 ea c hm l ?_;refine W.callWith_K (first:=[.ref a]) (h₀:=X.base) I.ok.mod.QQ hm.kp (gU (ha pos cM s1 σ H1 _ I1 q) λus s2 ⟨vs,H2,I2,r,q2⟩=>⟨I2.E7,?_⟩) qh kf
 exact Fp (us:=.ref a::us) (vs:=.ref a::vs) F hr hb hd hx I2 (.cons rfl r) q2
structure Mk (K:W.Frag) (C f:cE):Prop where
 makes:W.makesIn K C=true
 init:W.findIn K (.ref C) "__init__"=some (some (.ref f))
 fn:W.isFn K (.ref f)=true
 kp:W.keepIn K (.ref C)=true
theorem KP {cM:cj}{σ:St}{H:Hp}{s:cy}{Q:VK}{us:cw}{vs:List V}(M:Mk X.K C f) (F:dY X.prog X.w X.K X.mg X.base CX k f fd ps sp) (hr:fm (k+1) X.A) (hb:Binds X.K fd ps ds) (hd:Vals Bl ds)
  (hx:Passes CX X E) (I:Inv X cM σ H s) (r:Vals vs us)
  (h:∀x dx,H x=none->H dx=none->dx≠x->sp (.ref x::(vs++Bl)) (upd (upd H dx (.own x)) x (.ins C dx [])) (λv H2=>v=.eV/\Q (.ref x) H2) E):
  wpAny (model X.prog X.w) X.A (call (.ref C) us) (EP X cM σ Q) X.xe s:=by
 have hq:=h (s.heap.objs.size+1) s.heap.objs.size (I.fJ.fresh (Nat.le_succ _)) (I.fJ.fresh (au _)) (aE (Nat.lt_succ_self _));have I2:=Inv.made (C:=C) I;have r2:Vals (V.ref (s.heap.objs.size+1)::(vs++Bl)) (Value.ref (s.heap.objs.size+1)::(us++ds)):=.cons rfl (r.append hd);have hl:(Value.ref (s.heap.objs.size+1)::us++ds).length=ps.length:=by
  have e:=r2.length;rw[F.len _ _ _ _ hq]at e;exact e.symm
 refine wpAny_call (KN (f:=f) I.E7 M.makes M.init (beq_iff_eq.mp M.fn) (codeAny_mono (F.run _ X.stack _ _ ⟨Value.ref (s.heap.objs.size+1)::us,[]⟩ (Value.ref (s.heap.objs.size+1)::(us++ds)) _ _ E (hr.make C us [])
  (I2.NZ.make C us []) (hb _ (Value.ref (s.heap.objs.size+1)::us) I2.E7 hl) r2 hq) λr s' Uz=>?_))
 cases r with
 |error e=>exact hx cM σ _ _ e s' I2 Uz
 |ok fl=>
  cases fl with
  |ret u=>
   obtain⟨v,H',I3,rv,ev,q3⟩:=I2.after Uz;subst ev;exact⟨rv,⟨V.ref (s.heap.objs.size+1),H',I3,rfl,q3⟩⟩
  |next=>exact False.elim Uz
  |brk=>exact False.elim Uz
  |cont=>exact False.elim Uz
theorem N0 (M:Mk X.K C f) (F:dY X.prog X.w X.K X.mg X.base CX k f fd ps sp) (hr:fm (k+1) X.A) (hg:Gl X x) (hm:X.mg x=some (.ref C)) (hb:Binds X.K fd ps ds) (hd:Vals Bl ds) (hx:Passes CX X E)
  (ha:PA X (e::es) t) (rV:(x==("__debug__":Str))=false:=by decide) (he:cL e es X.env:=by rfl) (kf:(backTo pos (starEach es X.env)).any (·.1)=false:=by rfl):
  PE X (.Call (.Name x p) (e::es) [] pos) (Uy C sp Bl E t):=by
 intro cM s σ H Q I h;refine wpAny_Call_Name_kw (wG I hg hm ?_ rV);refine W.callWith_K (h₀:=X.base) I.ok.mod.QQ M.kp (gU (ha pos cM s σ H _ I h) λus s1 ⟨vs,H1,I1,r,q⟩=>⟨I1.E7,?_⟩) he kf
 exact KP M F hr hb hd hx I1 r q
end
section
variable {X:Cx}{CX:IY}{k:Nat}{f C:cE}{fd:cz}{ps ks:List Str}{sp:Sp}{E:XK}{x m:Str}{p pos apos aa1:Pos}{e o:cF}{es:List cF}{kws:List Keyword}{te ta:TE}{t tk:TA}{nm:Option Str}
variable {g:cw->cw->cw}{gV:List V->List V->List V}
end
structure dt (N P:List Str) (sc:Scope):Prop where
 kind:sc.kind=.function:=by rfl
 co:sc.isCoroutine=false:=by rfl
 gen:sc.isGenerator=false:=by rfl
 nd:N.Nodup:=by decide +kernel
 pre:N.take P.length=P:=by rfl
 par:∀x∈P,sc.names.lookup x=some .local\/sc.names.lookup x=some .cell:=by decide +kernel
 Rl:∀y∈sc.names,y.2≠.free:=by decide +kernel
theorem zX {kindOf:Str->Option NameKind}{x:Str}:∀{binds:List (Str×cx)}{m:cg},(∀v,(x,v)∉binds)->bindL kindOf binds m x=m x
 |[],_,_=>rfl
 |(n,v)::r,m,h=>by
  unfold bindL;rw[zX λw hw=>h w (ai _ hw)]
  split
  ·have:x≠n:=by rintro rfl;exact h v af
   simp[this]
  ·rfl
theorem zY {kindOf:Str->Option NameKind}{x:Str}:∀{binds:List (Str×cx)}{m:cg},(∀v,(x,v)∉binds)->bindC kindOf binds m x=m x
 |[],_,_=>rfl
 |(n,v)::r,m,h=>by
  unfold bindC;rw[zY λw hw=>h w (ai _ hw)]
  split
  ·rfl
  ·have:x≠n:=by rintro rfl;exact h v af
   simp[this]
theorem zZ {kindOf:Str->Option NameKind}{x:Str}{v:cx}:∀{P:List Str}{vs:cw}{i:Nat}{m:cg},P.Nodup->P[i]? =some x->vs[i]? =some v->kindOf x=some .local->
  bindL kindOf (P.zip vs) m x=some v
 |[],_,_,_,_,h,_,_=>by simp at h
 |_::_,[],_,_,_,_,h,_=>by simp at h
 |p::P,w::vs,0,m,nd,h1,h2,hk=>by
  simp at h1 h2;subst h1;subst h2;show bindL kindOf ((p,w)::P.zip vs) m p=_;unfold bindL;rw[zX λv hv=>(List.nodup_cons.mp nd).1 (List.of_mem_zip hv).1,if_pos hk]
  simp
 |p::P,w::vs,i+1,m,nd,h1,h2,hk=>by
  show bindL kindOf ((p,w)::P.zip vs) m x=_;unfold bindL;exact zZ (i:=i) (List.nodup_cons.mp nd).2 (by simpa using h1) (by simpa using h2) hk
theorem Aa {kindOf:Str->Option NameKind}{x:Str}{v:cx}:∀{P:List Str}{vs:cw}{i:Nat}{m:cg},P.Nodup->P[i]? =some x->vs[i]? =some v->kindOf x≠some .local->
  bindC kindOf (P.zip vs) m x=some v
 |[],_,_,_,_,h,_,_=>by simp at h
 |_::_,[],_,_,_,_,h,_=>by simp at h
 |p::P,w::vs,0,m,nd,h1,h2,hk=>by
  simp at h1 h2;subst h1;subst h2;show bindC kindOf ((p,w)::P.zip vs) m p=_;unfold bindC;rw[zY λv hv=>(List.nodup_cons.mp nd).1 (List.of_mem_zip hv).1,if_neg hk]
  simp
 |p::P,w::vs,i+1,m,nd,h1,h2,hk=>by
  show bindC kindOf ((p,w)::P.zip vs) m x=_;unfold bindC;exact Aa (i:=i) (List.nodup_cons.mp nd).2 (by simpa using h1) (by simpa using h2) hk
noncomputable def start (N:List Str) (vs:List V):St:=vs.map some++List.replicate (N.length-vs.length) none
noncomputable def pX (CX:IY) (P:cA) (w:cB) (K:W.Frag) (mg:cg) (base:Heap) (N:List Str) (qual:Str) (scope:Scope) (f:cE) (cd:cx) (A:cC) (outer:List Env) (s:cy) (H:Hp) (E:XK):Cx where
 prog:=P
 w:=w
 K:=K
 mg:=mg
 base:=base
 A:=A.deeper (envOfC qual scope s.heap.objs.size f cd)
 N:=N
 s₀:=s
 H₀:=H
 env:=envOfC qual scope s.heap.objs.size f cd
 outer:=outer
 stack:=envOfC qual scope s.heap.objs.size f cd::outer
 ex:=[]
 calm:=true
 fn:=λ_=>true
 pn:=[]
 xe:=λe s'=>wpAny (model P w) (A.deeper (envOfC qual scope s.heap.objs.size f cd)) (leaving (envOfC qual scope s.heap.objs.size f cd) e) (λ_ Kj=>CX outer H s E e Kj) (λe' Kj=>CX outer H s E e' Kj) s'
theorem Dh {sc:Scope}{n:Nat}{x:Str}(h:sc.names.lookup x=some .cell):∃c,(cellsFrom n sc.names []).lookup x=some c:=by
 have q:=W.cellsFrom_some sc.names n [] (.inl h);exact Option.isSome_iff_exists.mp q
theorem IZ {CX:IY}{P:cA}{w:cB}{K:W.Frag}{mg:cg}{base:Heap}{N ps:List Str}{qual:Str}{scope:Scope}{f:cE}{cd:cx}{A:cC}{outer:List Env}{s s1:cy}{H:Hp}{E:XK}{us:cw}{vs:List V}
  (S:dt N ps scope) (hd:A.handled=none) (e0:Dg P w K mg base A outer s H) (hl:vs.length=ps.length) (r:Vals vs us)
  (x:InCallC s s.heap.objs.size (bindL (envOfC qual scope s.heap.objs.size f cd).kindOf (ps.zip us) λ_=>none) (cellsFrom (s.heap.objs.size+1) scope.names []) (bindC (envOfC qual scope s.heap.objs.size f cd).kindOf (ps.zip us) λ_=>none) s1):
  Inv (pX CX P w K mg base N qual scope f cd A outer s H E) [] (start N vs) H s1:=by
 have kf:ps.length<=N.length:=by have:=congrArg List.length S.pre;rw[bI]at this;omega
 obtain⟨h1,tk,rfl,hk⟩:=x.done;have UA:∀b:cE,b∉(pX CX P w K mg base N qual scope f cd A outer s H E).ex:=λb z=>absurd (show b∈([]:List cE)from z) (by simp)
 refine⟨⟨e0.mod,S.kind,rfl,rfl,au _,λy z c h1 h2=>?_,λy hy=>?_,λy c _ h=>?_,λ_=>hd,Around.frames_deeper e0.frames,.inr ⟨rfl,rfl⟩,λb z=>absurd z (UA b),e0.bs,e0.Kr,λb _ _=>UA b,λb z=>absurd z (UA b),e0.rU,e0.NM,e0.tb⟩,
  rfl,e0.bare,Un.kept hk,⟨_,x.toInCall.ns,λi y v h1 h2 h3=>?_⟩,λy c h=>⟨_,x.cell y c h⟩,e0.fJ.fresh (au _),λy c h=>?_,λp hp=>absurd (show p∈([]:cj)from hp) (by simp),e0.fJ.kept hk,?_⟩
 ·exact name_of_addr x.apart (PySem.mem_of_lookup h1) (PySem.mem_of_lookup h2)
 ·have hy:scope.names.lookup y=some .cell\/scope.names.lookup y=some .free:=hy;rcases hy with hy|hy
  ·exact Dh hy
  ·exact absurd rfl (S.Rl _ (PySem.mem_of_lookup hy))
 ·exact bg (x.above y c (PySem.mem_of_lookup h))
 ·have hi:i<vs.length:=by
   unfold start at h2;by_cases hi:i<vs.length
   ·exact hi
   ·rw[aP (by simpa using hi)]at h2
    rw[List.getElem?_replicate]at h2;split at h2<;>cases h2
  have ha:vs[i]? =some v:=by
   unfold start at h2;rw[aJ (by simpa using hi),av]at h2
   cases e:vs[i]? with
   |none=>rw[e]at h2;cases h2
   |some a=>rw[e]at h2;cases h2;rfl
  obtain⟨u,hu,rv⟩:=r.get ha;have hp:ps[i]? =some y:=by
   rw[<-S.pre,List.getElem?_take_of_lt (by omega)];exact h1
  have Zm:ps.Nodup:=by rw[<-S.pre];exact S.nd.sublist (List.take_sublist _ _)
  refine⟨u,rv,?_⟩;rcases S.par y (bh hp)with k|k
  ·exact .inl ⟨k,zZ Zm hp hu k⟩
  ·obtain⟨c,e⟩:=Dh (n:=s.heap.objs.size+1) k;refine .inr ⟨.inl k,c,e,?_⟩;have q:=x.cell y c e;rw[Aa Zm hp hu (by show scope.names.lookup y≠_;rw[k];decide)]at q
   exact q
 ·exact e0.fJ.fresh (bg (x.above y c (PySem.mem_of_lookup h)))
 ·unfold start;show _=N.length;rw[aQ,ae,List.length_replicate];omega
theorem P6 {CX:IY}{P:cA}{w:cB}{K:W.Frag}{mg:cg}{base:Heap}{k:Nat}{f:cE}{name qual:Str}{params:Arguments}{body:List cI}{scope:Scope}{dV kV doc pm eN ct oc:cx}{an od:cp}
  {N1:cq}{N ps:List Str}{sp:Sp}(lk:K.lookup f=some ⟨oc,od,.func (W.fnOf name qual params body scope dV kV doc pm an eN ct),N1⟩) (uF:W.codeIn K eN qual=true) (S:dt N ps scope)
  (len:∀vs H Q E,sp vs H Q E->vs.length=ps.length)
  (fY:∀(A:cC) (outer:List Env) (s:cy) (H:Hp) (vs:List V) (Q:VK) (E:XK),fm k (A.deeper (envOfC qual scope s.heap.objs.size f eN))->sp vs H Q E->
   ∃t,zf (pX CX P w K mg base N qual scope f eN A outer s H E) body t/\t {nx:=λ_ H'=>Q .eV H',rt:=Q} (start N vs) H):
  dY P w K mg base CX (k+1) f (W.fnOf name qual params body scope dV kV doc pm an eN ct) ps sp:=by
 refine⟨len,λA outer s H args us vs Q E hr e0 hb r Ab=>?_⟩
 have hl:=len _ _ _ _ Ab;have KX:K.In s.heap:=e0.mod.QQ.keeps λb o e=>(e0.bs b o e).1
 have lim:s.heap.NoLimit:=e0.mod.nolimit.keeps λb o e=>(e0.bs b o e).1
 have UB:∀y∈ps.zip us,scope.names.lookup y.1=some .local\/(scope.names.lookup y.1=some .cell/\((cellsFrom (s.heap.objs.size+1) scope.names []).lookup y.1).isSome=true):=λ⟨n,v⟩ hy=>by
  rcases S.par n (List.of_mem_zip hy).1 with q|q
  ·exact .inl q
  ·exact .inr ⟨q,W.cellsFrom_some _ _ _ (.inl q)⟩
 refine codeAny_call_function hr.depth (KX _ _ lk) rfl S.co S.gen rfl (W.codeRec_of KX uF) (hb _ _ _ _ ?_);refine wpAny_newFunctionEnv_cells S.kind UB λenv he s1 x=>?_
 subst he;refine⟨lim.keeps x.toInCall.keep,codeAny_func ?_⟩;obtain⟨t,ht,hq⟩:=fY A outer s H vs Q E (hr.deeper _) Ab;have I:Inv (pX CX P w K mg base N qual scope f eN A outer s H E) [] (start N vs) H s1:=IZ S hr.hd e0 hl r x;refine bO (ht [] s1 (start N vs) H _ I hq) (λfl s' hs=>?_) λe s' hs=>hs
 have fin:∀{σ':St}{H':Hp}{v:V}{u:cx},Inv (pX CX P w K mg base N qual scope f eN A outer s H E) [] σ' H' s'->RelV v u->Q v H'->CE outer P w H s Q u s':=
  λ{σ' H' v u} J rv q=>⟨v,H',J.os,J.bare,J.base,J.fJ,rv,q⟩
 cases fl with
 |ret u=>
  obtain⟨v,σ',H',J,rv,q⟩:=hs;exact fin J rv q
 |next=>
  obtain⟨σ',H',J,q⟩:=hs;exact fin (v:=V.eV) (u:=Value.none) J rfl q
 |brk=>
  obtain⟨_,_,_,q⟩:=hs;exact False.elim q
 |cont=>
  obtain⟨_,_,_,q⟩:=hs;exact False.elim q
section
variable {X:Cx}{x:Str}{p pos:Pos}{e:cF}{es:List cF}{t:TA}{id T:String}{r:List V->Hp->VK->Prop}
noncomputable def Wr (r:List V->Hp->VK->Prop) (t:TA):TE:=λσ H Q=>t σ H λvs H1=>r vs H1 Q
theorem Di (hc:i8 X (.builtin id) r) (hg:Gl X x) (hm:X.mg x=none) (hv:bootBuiltins x=some (.builtin id)) (ha:PA X (e::es) t) (hn:x≠"__name__":=by decide) (rV:(x==("__debug__":Str))=false:=by decide)
  (he:cL e es X.env:=by rfl) (kf:(backTo pos (starEach es X.env)).any (·.1)=false:=by rfl):PE X (.Call (.Name x p) (e::es) [] pos) (Wr r t):=by
 intro cM s σ H Q I h;refine wpAny_Call_Name_kw (oM I hg hm hv ?_ hn rV);exact PyProof.Rows.callWith_builtin1 (gU (ha pos cM s σ H _ I h) λus s1 ⟨vs,H1,I1,r1,q1⟩=>hc cM s1 σ H1 vs us Q I1 r1 q1) he kf
theorem uK (hc:i8 X (.type T) r) (hg:Gl X x) (hm:X.mg x=none) (hv:bootBuiltins x=some (.type T)) (ha:PA X (e::es) t) (hn:x≠"__name__":=by decide) (rV:(x==("__debug__":Str))=false:=by decide)
  (he:cL e es X.env:=by rfl) (kf:(backTo pos (starEach es X.env)).any (·.1)=false:=by rfl):PE X (.Call (.Name x p) (e::es) [] pos) (Wr r t):=by
 intro cM s σ H Q I h;refine wpAny_Call_Name_kw (oM I hg hm hv ?_ hn rV);exact PyProof.Rows.callWith_type1 (gU (ha pos cM s σ H _ I h) λus s1 ⟨vs,H1,I1,r1,q1⟩=>hc cM s1 σ H1 vs us Q I1 r1 q1) he kf
end
end L2
namespace HT
open PySem PyProof.Rows
noncomputable def lexLt:cn->cn->Bool
 |[],[]=>false
 |[],_::_=>true
 |_::_,[]=>false
 |x::xs,y::ys=>if x=y then lexLt xs ys else decide (x<y)
theorem iu (x y:Int) (xs ys:cn):lexLt (x::xs) (y::ys)=if x=y then lexLt xs ys else decide (x<y):=rfl
theorem zi:lexLt [] []=false:=rfl
theorem qj (y:Int) (ys:cn):lexLt [] (y::ys)=true:=rfl
theorem qk (x:Int) (xs:cn):lexLt (x::xs) []=false:=rfl
theorem KQ (A:cC) (s:cy) (a:Int) (t:Tok) (c:Int) (u:Tok):∃e,SeqAt.EqAt A s (.int a t) (.int c u) e/\(e=true↔a=c):=
 ⟨(a==c),SeqAt.EqAt.int_int a t c u,by simp⟩
theorem KR (A:cC) (s:cy) (a:Int) (t:Tok) (c:Int) (u:Tok) (prog:cA) (w:cB) (E:cf) (Q:cf) (h:Q (.bool (decide (a<c))) s):
  wpAny (model prog w) A (richCompare .Lt (.int a t) (.int c u)) Q E s:=
 (PyProof.Rows.lt_int h:wpAny (model prog w) A (compareOp .Lt (.int a t) (.int c u)) Q E s)
section
open PySem.SeqAt
open PySem.AutoSeq1 (wpAny_loadPart')
open PySem.MeetsSeq PySem.MeetsSeq2 PySem.MeetsSeq3
theorem rZ (l b:cE) (items gR:Array cx) (n n2:Nat) (dd NB:cp) (sl NC:cq) (ns ms:cn) (hi:IntsAre items.toList ns) (hj:IntsAre gR.toList ms):
  Meets (Builtin.«tuple.__lt__» ⟨[.ref l,.ref b],[]⟩)
   (λ_ R s=>s.heap.get? l=some {cls:=.type "tuple",dict:=dd,data:=.seq items n,slots:=sl}/\s.heap.get? b=some {cls:=.type "tuple",dict:=NB,data:=.seq gR n2,slots:=NC}/\
    R (.ok (.ret (.bool (lexLt ns ms)))) s):=
 .of_wp λprog w A R s h=>by
  obtain⟨hp,g,d,tk,os⟩:=s;obtain⟨hl,hb,h⟩:=h;have f2:=AutoSeq1.sub_tuple_tuple;have z1:items.size=ns.length:=by rw[<-hi.length];simp
  have z2:gR.size=ms.length:=by rw[<-hj.length];simp
  wp_walk using wpAny_loadPart' hl,wpAny_loadPart' hb,wpAny_forIn_list _ (λrest b s'=>b.1=none/\s'=⟨hp,g,d,tk,os⟩/\∃(vs ws:cw) (Bn Tn:cn),rest=vs.zip ws/\
   IntsAre vs Bn/\IntsAre ws Tn/\Bn.length+gR.size=Tn.length+items.size/\R (.ok (.ret (.bool (lexLt Bn Tn)))) ⟨hp,g,d,tk,os⟩) _
  case turn=>
   rintro⟨y,x⟩ rest b s' ⟨Kk,rfl,vs,ws,Bn,Tn,hz,Xy,P7,hlen,hR⟩
   cases Xy with
   |nil=>rw[List.zip_nil_left]at hz;cases hz
   |cons a t Xz=>
    cases P7 with
    |nil=>rw[List.zip_nil_right]at hz;cases hz
    |cons c u XA=>
     rw[List.zip_cons_cons]at hz;injection hz with hyx UC
     injection hyx with hy hx
     subst hy hx;rw[iu]at hR;simp only[ay]at hlen;obtain⟨e,he,UD⟩:=KQ A.in1 ⟨hp,g,d,tk,os⟩ a t c u;refine aa (he prog w _ _ ?_);cases e with
     |true=>
      rw[if_pos (UD.mp rfl)]at hR
      wp_walk
      exact⟨rfl,rfl,_,_,_,_,UC,Xz,XA,by omega,hR⟩
     |false=>
      rw[if_neg (λq=>absurd (UD.mpr q) aZ)]at hR
      have hri:=KR A.in1 ⟨hp,g,d,tk,os⟩ a t c u prog w
      wp_walk using hri
      exact⟨_,rfl,by simpa using hR⟩
  case fin=>
   rintro⟨b1,b2⟩ s' ⟨Kk,rfl,vs,ws,Bn,Tn,hz,Xy,P7,hlen,hR⟩
   simp only at Kk;subst Kk;have hv:lexLt Bn Tn=decide (items.size<gR.size):=by
    cases Xy with
    |nil=>
     cases P7 with
     |nil=>
      simp only[List.length_nil]at hlen;rw[zi];exact(aH (by omega)).symm
     |cons c u hw=>
      simp only[List.length_nil,ay]at hlen;rw[qj];exact(aR (by omega)).symm
    |cons a t hv=>
     cases P7 with
     |nil=>
      simp only[List.length_nil,ay]at hlen;rw[qk];exact(aH (by omega)).symm
     |cons c u hw=>
      rw[List.zip_cons_cons]at hz;cases hz
   rw[hv]at hR
   wp_walk
   exact⟨_,rfl,by simpa [Builtin.Tuple.tupleCompareSizes]using hR⟩
  case h=>
   exact⟨rfl,rfl,items.toList,gR.toList,ns,ms,rfl,hi,hj,by omega,h⟩
end
section
variable {prog:cA}{w:cB}{A:cC}{E:cf}{s:cy}
theorem sG (hl:IsTup s.heap l items) (hb:IsTup s.heap b gR) (hi:IntsAre items.toList ns) (hj:IntsAre gR.toList ms) (hu:A.units<cLine) (h:Q (.bool (lexLt ns ms)) s):wpAny (model prog w) A (compareOp .Lt (.ref l) (.ref b)) Q E s:=by
 obtain⟨⟨cls,dd,data,sl⟩,ho,hc,n,hd⟩:=id hl;obtain⟨⟨Rm,NB,data2,NC⟩,wj,tj,n2,hd2⟩:=id hb;simp only at hc hd tj hd2;subst hc hd tj hd2;exact richCompare_meets_room (op:=.Lt) ⟨_,ho,rfl⟩ ⟨_,wj,rfl⟩ PySem.F.slot_tuple_lt PySem.F.entry_tuple_lt (PySem.F.args_tuple_lt_2 _ _) (rZ l b items gR n n2 dd NB sl NC ns ms hi hj)
  ⟨ho,wj,show Value.bool (lexLt ns ms)≠Value.notImplemented/\Q (.bool (lexLt ns ms)) s from⟨(λx=>nomatch x),h⟩⟩ hu
theorem N4 (ht:IsTup s.heap t vs.toArray) (hb:IsTup s.heap b ws.toArray) (hv:vs≠[]) (h1:ws=[]->Q (.ref t) s) (h2:ws≠[]->Q (.ref s.heap.objs.size) {s with heap:=s.heap.push {cls:=.type "tuple",data:=.seq (vs++ws).toArray}}) (hsz:vs.length+ws.length<=sizeLine):wpAny (model prog w) A (binaryOp .Add (.ref t) (.ref b)) Q E s:=by
 obtain⟨⟨cls,dd,data,sl⟩,ho,hc,n,hd⟩:=id ht;obtain⟨⟨Rm,NB,data2,NC⟩,wj,tj,n2,hd2⟩:=id hb;simp only at hc hd tj hd2;subst hc hd tj hd2;have e:vs.toArray++ws.toArray=(vs++ws).toArray:=by simp
 by_cases hw:ws=[]
 ·exact concat_meets ⟨_,ho,rfl⟩ ⟨_,wj,rfl⟩ noFill_tuple_add seq_tuple_add PySem.F.slot_tuple_add PySem.F.entry_tuple_add (PySem.F.args_tuple_add_2 _ _)
   (tuple_addW1 t b vs.toArray ws.toArray n n2 dd NB sl NC (by simpa using hv) (by simp[hw])) ⟨ho,wj,h1 hw⟩
 ·refine concat_meets ⟨_,ho,rfl⟩ ⟨_,wj,rfl⟩ noFill_tuple_add seq_tuple_add PySem.F.slot_tuple_add PySem.F.entry_tuple_add (PySem.F.args_tuple_add_2 _ _)
   (tuple_addW2 t b vs.toArray ws.toArray n n2 dd NB sl NC (by simpa using hv) (by simpa using hw) (by rw[aq,aq];exact hsz)) ⟨ho,wj,?_⟩
  rw[e];exact h2 hw
noncomputable def ip (n d:Nat):Option Int->Nat
 |none=>d
 |some v=>if v<0 then(v+(n:Int)).toNat else min v.toNat n
theorem Rn (n d:Nat) (hd:d<=n) (o:Option Int):ip n d o<=n:=by
 cases o with
 |none=>exact hd
 |some v=>
  show(if v<0 then(v+(n:Int)).toNat else min v.toNat n)<=n
  by_cases hv:v<0
  ·rw[if_pos hv];omega
  ·rw[if_neg hv];exact Nat.min_le_right _ _
theorem Hi (v:Int) (n d:Nat):(if v<0 then max (v+(n:Int)) 0 else min v (n:Int))=((ip n d (some v):Nat):Int):=by
 show(if v<0 then max (v+(n:Int)) 0 else min v (n:Int))=(((if v<0 then(v+(n:Int)).toNat else min v.toNat n):Nat):Int)
 by_cases hv:v<0
 ·simp only[if_pos hv];omega
 ·simp only[if_neg hv];omega
theorem Fq (lo hi:Option Int) (n:Nat):Builtin.Slice.sliceAdjust lo hi 1 (n:Int)=(((ip n 0 lo:Nat):Int),((ip n n hi:Nat):Int)):=by
 have h1:¬ ((1:Int)<0):=by omega
 unfold Builtin.Slice.sliceAdjust;simp only[h1,bD];refine Prod.ext ?_ ?_
 ·cases lo with
  |none=>rfl
  |some v=>exact Hi v n 0
 ·cases hi with
  |none=>rfl
  |some v=>exact Hi v n n
theorem Fs (i j:Nat):Builtin.Slice.slicePlaces (i:Int) (j:Int) 1=j-i:=by
 unfold Builtin.Slice.slicePlaces;have h1:(1:Int)>0:=by omega
 simp only[h1,if_true,Int.ediv_one];split<;>omega
theorem xf (p:IsPart v o) (h:Q o s):wpAny (model prog w) A (Builtin.Slice.slicePartIndex v) Q E s:=by
 cases p with
 |none=>exact slicePart_none h
 |int i t=>exact slicePart_int h
theorem nZ {sl:cE}{vl vu:cx}{lo hi:Option Int}{n:Nat}{Q:Int×Int×Nat->cy->Prop}(hs:s.heap.IsSliceOf sl vl vu .none) (pl:IsPart vl lo) (pu:IsPart vu hi)
  (h:Q (((ip n 0 lo:Nat):Int),1,ip n n hi-ip n 0 lo) s):wpAny (model prog w) A (Builtin.Slice.sliceApplied (.ref sl) (pure (n:Int))) Q E s:=by
 obtain⟨os,Ro,Ws,UE⟩:=id hs;unfold Builtin.Slice.sliceApplied Builtin.Slice.sliceFields;refine aa (aa (wpAny_field Ro UE (x:=vl) rfl (aa (wpAny_field Ro UE (x:=vu) rfl (aa (wpAny_field Ro UE (x:=.none) rfl (aj ?_)))))));refine aa (slicePart_none ?_);show wpAny _ _ (if((1:Int)==0)=true then _ else _) _ _ s
 rw[if_neg (by decide)]
 refine aa (xf pl (aa (xf pu (aa (aj ?_)))));show wpAny _ _ (match Builtin.Slice.sliceAdjust lo hi 1 (n:Int)with|(lo,hi)=>pure (lo,(1:Int),Builtin.Slice.slicePlaces lo hi 1)) _ _ s
 rw[Fq lo hi n];show wpAny _ _ (pure (((ip n 0 lo:Nat):Int),(1:Int),Builtin.Slice.slicePlaces ((ip n 0 lo:Nat):Int) ((ip n n hi:Nat):Int) 1)) _ _ s;rw[Fs];exact aj h
theorem KS (xs:Array cx) (i k:Nat):((List.range k).filterMap λ(m:Nat)=>xs[((i:Int)+(m:Int)*1).toNat]?).toArray=((xs.toList.drop i).take k).toArray:=by
 have e:(λ(m:Nat)=>xs[((i:Int)+(m:Int)*1).toNat]?)=λm=>xs[i+m]? :=by
  funext m
  have:((i:Int)+(m:Int)*1).toNat=i+m:=by omega
  rw[this]
 rw[e];have:=pick_run xs i k;rw[List.filterMap_map]at this;have e2:((λx=>xs[x]?)∘λx=>i+x)=λm=>xs[i+m]? :=rfl
 rw[e2]at this;rw[this]
theorem tm {t sl:cE}{items:Array cx}{vl vu:cx}{lo hi:Option Int}{Q:cf}(ht:IsTup s.heap t items) (hs:s.heap.IsSliceOf sl vl vu .none) (pl:IsPart vl lo) (pu:IsPart vu hi)
  (hw:¬ (ip items.size 0 lo=0/\ip items.size items.size hi=items.size))
  (h:Q (.ref s.heap.objs.size) {s with heap:=s.heap.push {cls:=.type "tuple",data:=.seq ((items.toList.drop (ip items.size 0 lo)).take (ip items.size items.size hi-ip items.size 0 lo)).toArray}})
  (hsz:items.size<=sizeLine):wpAny (model prog w) A (getItem (.ref t) (.ref sl)) Q E s:=by
 have Hj:sizeOk (.seq ((items.toList.drop (ip items.size 0 lo)).take (ip items.size items.size hi-ip items.size 0 lo)).toArray):=by
  show((items.toList.drop (ip items.size 0 lo)).take (ip items.size items.size hi-ip items.size 0 lo)).toArray.size<=sizeLine;rw[aq,bI,List.length_drop,aN];omega
 have hj:ip items.size items.size hi<=items.size:=Rn _ _ (au _) hi;obtain⟨os,Ro,Ws,UE⟩:=id hs;have XB:s.TypeIs (.ref sl) "slice":=⟨os,Ro,Ws⟩;unfold getItem;try with_reducible refine bo ?_
 first|refine aa (aj ?_)|skip
 refine aa (wpAny_sequenceKey ht.typeIs (by decide) ?_)
 refine aa (wpAny_callSpecial?_slot (name:=Str.ofString "__getitem__") ht.typeIs PyProof.Rows.slot_tuple_getitem
  (bL PyProof.Rows.slot_tuple_getitem ht.typeIs entry_tuple_getitem ?_ (args_tuple_getitem _ _)))
 show wpAny _ _ (Builtin.Tuple.tupleItemsOf (.ref t)>>=_) _ _ s;refine aa (tupleItemsOf_ ht ?_);refine aa (wpAny_typeOf XB ?_);rw[if_pos (by decide)]
 refine aa (nZ hs pl pu ?_);have XC:¬ ((((ip items.size 0 lo:Nat):Int)==0&&(1:Int)==1&&(ip items.size items.size hi-ip items.size 0 lo)==items.size)=true):=by
  intro q;rw[Bool.and_eq_true,Bool.and_eq_true]at q;have q1:((ip items.size 0 lo:Nat):Int)=0:=eq_of_beq q.1.1;have q2:ip items.size items.size hi-ip items.size 0 lo=items.size:=eq_of_beq q.2;exact hw ⟨by omega,by omega⟩
 show wpAny _ _ (if(((ip items.size 0 lo:Nat):Int)==0&&(1:Int)==1&&(ip items.size items.size hi-ip items.size 0 lo)==items.size)=true then _ else _) _ _ s
 rw[if_neg XC,KS]
 first
  |exact aa (m:=Builtin.Tuple.tupleExact _) (bQ (aj ⟨_,rfl,aj h⟩) Hj)
  |exact aa (m:=Builtin.Tuple.tupleExact _) (bQ (aa (aj (aj ⟨_,rfl,aj h⟩))) Hj)
  |exact aa (aa (m:=Builtin.Tuple.tupleExact _) (bQ (aj (aj ⟨_,rfl,aj h⟩)) Hj))
  |exact aa (aa (m:=Builtin.Tuple.tupleExact _) (bQ (aj ⟨_,rfl,aj h⟩) Hj))
end
end HT
namespace L2
open PySem PySem.Spec PyProof.Rows
abbrev TO:=St->Hp->(Option Int->Hp->Prop)->Prop
def PO (X:Cx) (e:Option cF) (t:TO):Prop:=
 ∀(cM:cj) (s:cy) (σ:St) (H:Hp) (Q:Option Int->Hp->Prop),Inv X cM σ H s->t σ H Q->
  wpAny (model X.prog X.w) X.A (evalPart e X.env) (λu s'=>∃o H',Inv X cM σ H' s'/\IsPart u o/\Q o H') X.xe s
noncomputable def N5:TO:=λ_ H Q=>Q none H
noncomputable def UG (t:TE):TO:=λσ H Q=>t σ H λx H1=>∃i,x=.int i/\Q (some i) H1
theorem intsAre_of:∀{us:cw},Vals (ns.map V.int) us->IntsAre us ns:=by
 induction ns with
 |nil=>intro us r;rw[List.map_nil]at r;cases r;exact .nil
 |cons n ns ih=>
  intro us r;rw[aF]at r;cases r with
  |cons r1 r2=>
   obtain⟨t,e⟩:=r1;subst e;exact .cons n t (ih r2)
section
variable {X:Cx}{e:cF}{te:TE}{lo hi:Option cF}{tl th:TO}{pos p2:Pos}
theorem N6:PO X none N5:=by
 intro cM s σ H Q I h;rw[evalPart_none];exact aj ⟨none,H,I,.none,h⟩
theorem N7 (h:PE X e te):PO X (some e) (UG te):=by
 intro cM s σ H Q I hw;rw[evalPart_some];refine gU (h cM s σ H _ I hw) λu s1 ⟨x,H1,I1,r1,q1⟩=>?_
 obtain⟨i,rfl,q⟩:=q1;obtain⟨t,rfl⟩:=r1;exact⟨some i,H1,I1,.int i t,q⟩
def P8 (X:Cx) (r:V->Option Int->Option Int->Hp->VK->Prop):Prop:=
 ∀(cM:cj) (s:cy) (σ:St) (H:Hp) (x:V) (v vl vu:cx) (lo hi:Option Int) (sl:cE) (Q:VK),Inv X cM σ H s->RelV x v->s.heap.IsSliceOf sl vl vu .none->IsPart vl lo->IsPart vu hi->r x lo hi H Q->
  ∃T id,typeLookup (.type T) "__getitem__"=pure (some (.builtin id))/\s.TypeIs v T/\wpAny (model X.prog X.w) X.A (getItem v (.ref sl)) (EP X cM σ Q) X.xe s
theorem P8.or (h:P8 X r) (h':P8 X r'):P8 X (λx lo hi H Q=>r x lo hi H Q\/r' x lo hi H Q):=by
 intro cM s σ H x v vl vu lo hi sl Q I rx hs pl pu q;rcases q with q|q
 ·exact h cM s σ H x v vl vu lo hi sl Q I rx hs pl pu q
 ·exact h' cM s σ H x v vl vu lo hi sl Q I rx hs pl pu q
noncomputable def tSl (r:V->Option Int->Option Int->Hp->VK->Prop) (te:TE) (tl th:TO):TE:=λσ H Q=>te σ H λx H1=>tl σ H1 λl H2=>th σ H2 λu H3=>r x l u H3 Q
theorem Dj (hr:P8 X r) (he:PE X e te) (hl:PO X lo tl) (hu:PO X hi th):PE X (.Subscript e (.Slice lo hi none p2) pos) (tSl r te tl th):=by
 intro cM s σ H Q I h;refine Subscript_ (gU (he cM s σ H _ I h) λv s1 ⟨x,H1,I1,r1,q1⟩=>?_)
 refine wpAny_Slice (gU (hl cM s1 σ H1 _ I1 q1) λvl s2 ⟨l,H2,I2,pl,q2⟩=>gU (hu cM s2 σ H2 _ I2 q2) λvu s3 ⟨u,H3,I3,pu,q3⟩=>?_)
 rw[evalPart_none];refine aj ?_;have I4:Inv X cM σ H3 {s3 with heap:=s3.heap.push {cls:=.type "slice",data:=.fields #[vl,vu,.none]}}:=I3.kept (t':=s3.toks) λb ob q=>ag _ q
 obtain⟨T,id,hT,ht,hg⟩:=hr cM {s3 with heap:=s3.heap.push {cls:=.type "slice",data:=.fields #[vl,vu,.none]}} σ H3 x v vl vu l u s3.heap.objs.size Q I4 r1 (Heap.IsSliceOf.new ..) pl pu q3
 show wpAny (model X.prog X.w) X.A (subscriptTail e (.Slice lo hi none p2) v (.ref s3.heap.objs.size)) (EP X cM σ Q) X.xe {s3 with heap:=s3.heap.push {cls:=.type "slice",data:=.fields #[vl,vu,.none]}}
 exact tail_any (ops:=[.ref s3.heap.objs.size,v]) ht hT hg (by with_unfolding_all rfl)
def Dk (xs:List V) (lo hi:Option Int):List V:=(xs.drop (HT.ip xs.length 0 lo)).take (HT.ip xs.length xs.length hi-HT.ip xs.length 0 lo)
theorem vO (xs:List V) (lo hi:Option Int):(Dk xs lo hi).length<=xs.length:=by
 unfold Dk;rw[bI,List.length_drop];omega
def XD (K:W.Frag):V->Option Int->Option Int->Hp->VK->Prop:=λx lo hi H Q=>∃a xs,x=.ref a/\kR K H a xs/\
 ¬ (HT.ip xs.length 0 lo=0/\HT.ip xs.length xs.length hi=xs.length)/\∀p,H p=none->Q (.ref p) (upd H p (.tup (Dk xs lo hi)))
theorem Rp:P8 X (XD X.K):=by
 intro cM s σ H x v vl vu lo hi sl Q I rx hs pl pu h;obtain⟨a,xs,rfl,hx,hw,q⟩:=h;cases rx;obtain⟨dD,r,ht,hz⟩:=I.tuple hx;have hlen:dD.toArray.size=xs.length:=by rw[aq];exact r.length.symm
 refine⟨"tuple",_,PyProof.Rows.slot_tuple_getitem.lookup,ht.typeIs,?_⟩;refine HT.tm ht hs pl pu (by rw[hlen];exact hw) ?_ (by rw[hlen];exact hz)
 rw[hlen];refine⟨.ref s.heap.objs.size,_,I.laid (t':=s.toks) (o:=.tup (Dk xs lo hi)) (λb ob q=>ag _ q) (au _) ?_,rfl,q _ (I.fJ.fresh (au _))⟩
 exact⟨aD (vO xs lo hi) hz,_,(r.drop (HT.ip xs.length 0 lo)).take (HT.ip xs.length xs.length hi-HT.ip xs.length 0 lo),IsTup.new _ _⟩
def XE (K:W.Frag):R2:=λx y H Q=>∃a b ns ms,x=.ref a/\y=.ref b/\kR K H a (ns.map V.int)/\kR K H b (ms.map V.int)/\Q (.bl (HT.lexLt ns ms)) H
theorem Rq (hu:X.A.units<cLine):rY X (compareOp .Lt) (XE X.K):=by
 intro cM s σ H x y v u Q I rx ry h;obtain⟨a,b,ns,ms,rfl,rfl,ha,hb,q⟩:=h;cases rx;cases ry;obtain⟨dD,r1,p1,_⟩:=I.tuple ha;obtain⟨oP,r2,p2,_⟩:=I.tuple hb;have i1:IntsAre dD.toArray.toList ns:=intsAre_of r1;have i2:IntsAre oP.toArray.toList ms:=intsAre_of r2;exact HT.sG p1 p2 i1 i2 hu ⟨.bl (HT.lexLt ns ms),H,I,rfl,q⟩
def P9 (K:W.Frag):R2:=λx y H Q=>∃a b xs ys,x=.ref a/\y=.ref b/\kR K H a xs/\kR K H b ys/\xs≠[]/\xs.length+ys.length<=sizeLine/\
 (ys=[]->Q (.ref a) H)/\(ys≠[]->∀p,H p=none->Q (.ref p) (upd H p (.tup (xs++ys))))
theorem Vals.Bo {xs:List V}{us:cw}(r:Vals xs us):us=[]↔xs=[]:=by
 cases r with
 |nil=>simp
 |cons _ _=>simp
theorem N8:rY X (binaryOp .Add) (P9 X.K):=by
 intro cM s σ H x y v u Q I rx ry h;obtain⟨a,b,xs,ys,rfl,rfl,ha,hb,hx,hz,q1,q2⟩:=h;cases rx;cases ry;obtain⟨dD,r1,p1,_⟩:=I.tuple ha;obtain⟨oP,r2,p2,_⟩:=I.tuple hb;refine HT.N4 p1 p2 (λz=>hx (r1.Bo.mp z)) (λz=>⟨.ref a,H,I,rfl,q1 (r2.Bo.mp z)⟩) (λz=>?_) (by rw[<-r1.length,<-r2.length];exact hz)
 refine⟨.ref s.heap.objs.size,_,I.laid (t':=s.toks) (o:=.tup (xs++ys)) (λb ob q=>ag _ q) (au _) ?_,rfl,q2 (λw=>z (r2.Bo.mpr w)) _ (I.fJ.fresh (au _))⟩
 exact⟨by rw[aQ];exact hz,_,r1.append r2,IsTup.new _ _⟩
end
noncomputable def Ac (n:Nat) (i:Int):Option Nat:=if 0<=i then(if i<n then some i.toNat else none)else if -(n:Int)<=i then some (i+n).toNat else none
def mq {α:Type}(xs:List α) (i:Int):Option α:=(Ac xs.length i).bind λj=>xs[j]?
theorem N9 (h:Ac n i=some j):seqIndex? i n=some j/\j<n/\-(n:Int)<=i/\i<n:=by
 unfold Ac at h;by_cases h0:0<=i
 ·rw[if_pos h0]at h;by_cases h1:i<n
  ·rw[if_pos h1]at h;have e:i.toNat=j:=aS h;exact⟨by rw[seqIndex_of h0 h1,e],by omega,by omega,h1⟩
  ·rw[if_neg h1]at h;cases h
 ·rw[if_neg h0]at h;by_cases h1: -(n:Int)<=i
  ·rw[if_pos h1]at h;have e:(i+n).toNat=j:=aS h;exact⟨by rw[seqIndex_neg (by omega) h1,e],by omega,h1,by omega⟩
  ·rw[if_neg h1]at h;cases h
theorem Bp (h:mq xs i=some v):∃j,seqIndex? i xs.length=some j/\xs[j]? =some v/\j<xs.length/\-(xs.length:Int)<=i/\i<xs.length:=by
 unfold mq at h;cases e:Ac xs.length i with
 |none=>rw[e]at h;cases h
 |some j=>
  rw[e]at h;obtain⟨h1,h2,h3,h4⟩:=N9 e;exact⟨j,h1,h,h2,h3,h4⟩
def oQ (b:cF):Prop:=∀o i,subscripted b false o i=operate [o,i] (getItem o i)
def KU (X:Cx) (r:R2):Prop:=
 ∀(value slice:cF) (cM:cj) (s:cy) (σ:St) (H:Hp) (x y:V) (v u:cx) (Q:VK),Inv X cM σ H s->RelV x v->RelV y u->r x y H Q->
  subscripted slice false v u=operate [v,u] (getItem v u)->wpAny (model X.prog X.w) X.A (subscriptTail value slice v u) (EP X cM σ Q) X.xe s
def MtR (X:Cx) (id:String) (r:V->List V->Hp->VK->Prop):Prop:=
 ∀(cM:cj) (s:cy) (σ:St) (H:Hp) (x:V) (xs:List V) (v:cx) (us:cw) (Q:VK),Inv X cM σ H s->RelV x v->Vals xs us->r x xs H Q->
  wpAny (model X.prog X.w) X.A (call (.builtin id) (v::us)) (EP X cM σ Q) X.xe s
section
variable {X:Cx}{a b:cF}{ta tb:TE}{pos:Pos}
theorem KU.or (h:KU X r) (h':KU X r'):KU X (λx y H Q=>r x y H Q\/r' x y H Q):=by
 intro value slice cM s σ H x y v u Q I rx ry q hs;rcases q with q|q
 ·exact h value slice cM s σ H x y v u Q I rx ry q hs
 ·exact h' value slice cM s σ H x y v u Q I rx ry q hs
theorem KW (hr:KU X r) (ha:PE X a ta) (hb:PE X b tb) (hs:oQ b):PE X (.Subscript a b pos) (Ti r ta tb):=by
 intro cM s σ H Q I h;exact Subscript_ (Q6 ha hb I h λv u s2 x y H2 I2 rx ry q=>hr a b cM s2 σ H2 x y v u Q I2 rx ry q (hs _ _))
def UH (K:W.Frag):R2:=λx y H Q=>∃p xs i v,x=.ref p/\y=.int i/\pZ K H p xs/\mq xs i=some v/\Q v H
def UI (K:W.Frag):R2:=λx y H Q=>∃p xs i v,x=.ref p/\y=.int i/\kR K H p xs/\mq xs i=some v/\Q v H
def UJ:R2:=λx y H Q=>∃z i c,x=.str z/\y=.int i/\z.length<=sizeLine/\mq z.cps.toList i=some c/\Q (.str ⟨#[c]⟩) H
theorem Oa:KU X (UH X.K):=by
 intro value slice cM s σ H x y v u Q I rx ry h hs;obtain⟨p,xs,i,z,rfl,rfl,hq,he,q⟩:=h;cases rx;obtain⟨t,rfl⟩:=ry;obtain⟨dD,r,pl,hz⟩:=I.list hq;obtain⟨j,h1,h2,h3,h4,h5⟩:=Bp he;obtain⟨w,ew,Ob⟩:=r.get h2;have hl:=r.length;have hn:=uH;have fin:EP X cM σ Q w s:=⟨z,H,I,Ob,q⟩;by_cases h0:0<=i
 ·have hj:i.toNat=j:=by
   rw[seqIndex_of h0 h5]at h1;exact aS h1
  exact item_listR pl.isList h0 (by omega) (by rw[hj];simpa using ew) fin hs
 ·have hj:(i+(dD.toArray.size:Int)).toNat=j:=by
   rw[seqIndex_neg (by omega) h4]at h1
   rw[aq,<-hl];exact aS h1
  exact subscriptTail_builtinR (x:=w) pl.isList.typeIs slot_list_getitem.lookup
   (wpAny_getItem_list_neg (Q:=λr s'=>r=w/\EP X cM σ Q r s') pl.isList (by omega) (by rw[aq]<;>omega) (by omega) (by rw[hj];simpa using ew) ⟨rfl,fin⟩) hs
theorem Rr:KU X (UI X.K):=by
 intro value slice cM s σ H x y v u Q I rx ry h hs;obtain⟨p,xs,i,z,rfl,rfl,hq,he,q⟩:=h;cases rx;obtain⟨t,rfl⟩:=ry;obtain⟨dD,r,pl,hz⟩:=I.tuple hq;obtain⟨j,h1,h2,h3,h4,h5⟩:=Bp he;obtain⟨w,ew,Ob⟩:=r.get h2;have hl:=r.length;have hn:=uH;have fin:EP X cM σ Q w s:=⟨z,H,I,Ob,q⟩;exact subscriptTail_builtinR (x:=w) pl.typeIs slot_tuple_getitem.lookup
  (getItem_tuple (j:=j) (Q:=λr s'=>r=w/\EP X cM σ Q r s') pl (by omega) (by omega) (by rw[aq,<-hl];exact h1) (by simpa using ew) ⟨rfl,fin⟩) hs
theorem Rt:KU X UJ:=by
 intro value slice cM s σ H x y v u Q I rx ry h hs;obtain⟨z,i,c,rfl,rfl,hz,he,q⟩:=h;obtain⟨t,rfl⟩:=rx;obtain⟨t',rfl⟩:=ry;obtain⟨j,h1,h2,h3,h4,h5⟩:=Bp he;have hl:z.cps.toList.length=z.length:=by simp[Str.length]
 rw[hl]at h1 h4 h5;have hn:=uH;exact tail_any (typeIs_str s z t) slot_str_getitem.lookup (getItem_str (c:=c) (by
  have e1:decide (i< -(2^63:Int))=false:=aH (by omega)
  have e2:decide (i ≥ 2^63)=false:=aH (by omega)
  rw[e1,e2,Bool.or_false]) (by rw[h1];simpa using h2) ⟨.str ⟨#[c]⟩,H,I.tok _,⟨_,rfl⟩,q⟩) hs
def Zn (K:W.Frag):R2:=λx y H Q=>UH K x y H Q\/UI K x y H Q\/UJ x y H Q
theorem Ru:KU X (Zn X.K):=Oa.or (Rr.or Rt)
theorem Bq (lo hi:Option Int) (n:Nat):(sliceBounds lo hi none n).1=((HT.ip n 0 lo:Nat):Int)/\(sliceBounds lo hi none n).2.1=((HT.ip n n hi:Nat):Int)/\(sliceBounds lo hi none n).2.2=1:=by
 refine⟨?_,?_,rfl⟩
 ·cases lo with
  |none=>simp[sliceBounds,HT.ip]
  |some i=>
   simp only[sliceBounds,HT.ip,Option.getD_none,show(1:Int)>0 by decide,if_true]
   by_cases h:i<0
   ·simp only[h,if_true]<;>omega
   ·simp only[h,bD]<;>omega
 ·cases hi with
  |none=>simp[sliceBounds,HT.ip]
  |some i=>
   simp only[sliceBounds,HT.ip,Option.getD_none,show(1:Int)>0 by decide,if_true]
   by_cases h:i<0
   ·simp only[h,if_true]<;>omega
   ·simp only[h,bD]<;>omega
theorem zj (dD:cw) (lo hi:Option Int):slicePick dD.toArray lo hi none=((dD.drop (HT.ip dD.length 0 lo)).take (HT.ip dD.length dD.length hi-HT.ip dD.length 0 lo)).toArray:=by
 obtain⟨h1,h2,h3⟩:=Bq lo hi dD.toArray.size;unfold slicePick;rw[h1,h2,h3];simp only[sliceRange_one,pick_run,aq]<;>rfl
def XF (K:W.Frag):V->Option Int->Option Int->Hp->VK->Prop:=λx lo hi H Q=>∃a xs,x=.ref a/\pZ K H a xs/\∀p,H p=none->Q (.ref p) (upd H p (.lst (Dk xs lo hi)))
theorem Oc:P8 X (XF X.K):=by
 intro cM s σ H x v vl vu lo hi sl Q I rx hs pl pu h;obtain⟨a,xs,rfl,hx,q⟩:=h;cases rx;obtain⟨dD,r,ht,hz⟩:=I.list hx;have hlen:=r.length;refine⟨"list",_,slot_list_getitem.lookup,ht.isList.typeIs,?_⟩;refine wpAny_getItem_list_slice ht.isList hs pl pu .none (by simp) ?_ (by rw[aq]<;>omega)
 rw[zj,<-hlen];refine⟨.ref s.heap.objs.size,_,I.laid (t':=s.toks) (o:=.lst (Dk xs lo hi)) (λb ob q=>ag _ q) (au _) ?_,rfl,q _ (I.fJ.fresh (au _))⟩
 exact⟨aD (vO xs lo hi) hz,_,0,(r.drop (HT.ip xs.length 0 lo)).take (HT.ip xs.length xs.length hi-HT.ip xs.length 0 lo),az _ rfl⟩
theorem Br:i8 X (.builtin "len") (λxs H Q=>∃p ys,xs=[.ref p]/\(pZ X.K H p ys\/kR X.K H p ys)/\Q (.int ys.length) H):=by
 intro cM s σ H xs us Q I r h;obtain⟨p,ys,rfl,hq,q⟩:=h;obtain⟨u,rfl,rx⟩:=vals1 r;cases rx;have hn:=uH;rcases hq with hq|hq
 ·obtain⟨dD,r',pl,hz⟩:=I.list hq;have hlen:=r'.length;exact Calls.call_len_list pl.isList (by simp only[aq]<;>omega) ⟨.int ys.length,H,I.tok _,⟨s.toks+1,by rw[aq,hlen]⟩,q⟩
 ·obtain⟨dD,r',pl,hz⟩:=I.tuple hq;have hlen:=r'.length;exact len_tuple pl (by simp only[aq]<;>omega) ⟨.int ys.length,H,I.tok _,⟨s.toks+1,by rw[aq,hlen]⟩,q⟩
theorem Bs:i8 X (.builtin "len") (λxs H Q=>∃z,xs=[.str z]/\z.length<=sizeLine/\Q (.int z.length) H):=by
 intro cM s σ H xs us Q I r h;obtain⟨z,rfl,hz,q⟩:=h;obtain⟨u,rfl,t,rfl⟩:=vals1 r;have hn:=uH;exact len_str (by omega) ⟨.int z.length,H,I.tok _,⟨_,rfl⟩,q⟩
theorem i8.or (h:i8 X f r) (h':i8 X f r'):i8 X f (λxs H Q=>r xs H Q\/r' xs H Q):=by
 intro cM s σ H xs us Q I rs q;rcases q with q|q
 ·exact h cM s σ H xs us Q I rs q
 ·exact h' cM s σ H xs us Q I rs q
theorem zk:i8 X (.type "tuple") (λxs H Q=>∃p ys,xs=[.ref p]/\((pZ X.K H p ys/\∀l,H l=none->Q (.ref l) (upd H l (.tup ys)))\/(kR X.K H p ys/\Q (.ref p) H))):=by
 intro cM s σ H xs us Q I r h;obtain⟨p,ys,rfl,h⟩:=h;obtain⟨u,rfl,rx⟩:=vals1 r;cases rx;rcases h with⟨hq,q⟩|⟨hq,q⟩
 ·obtain⟨dD,r',pl,hz⟩:=I.list hq;have hlen:=r'.length;refine call_tuple_list pl.isList (λh' kp=>?_) (by simp only[aq]<;>omega)
  have I1:Inv X cM σ H {s with heap:=h'}:=I.kept (t':=s.toks) kp
  have I2:Inv X cM σ (upd H h'.objs.size (.tup ys)) {s with heap:=h'.push {cls:=.type "tuple",data:=.seq dD.toArray}}:=
   I1.laid (t':=s.toks) (λb o e=>ag _ e) (au _) (show ie X.prog X.w _ _ _ (.tup ys)from⟨hz,dD,r',IsTup.new _ _⟩)
  exact⟨.ref h'.objs.size,_,I2,rfl,q _ (I1.fJ.fresh (au _))⟩
 ·obtain⟨dD,r',pl,hz⟩:=I.tuple hq;exact call_tuple_same pl ⟨.ref p,H,I,rfl,q⟩
def Zo (K:W.Frag) (T:String) (x:V) (H:Hp):Prop:=match x with
 |.str _=>T="str"
 |.int _=>T="int"
 |.ref p=>(T="list"/\∃xs,pZ K H p xs)\/(T="tuple"/\∃o,K.lookup p=some o/\o.cls=.type "tuple"/\o.dict=none)\/
   (T="dict"/\((∃kvs,H p=some (.dK kvs))\/∃kvs,H p=some (.dT kvs)))\/(T="set"/\∃S n,H p=some (.set S n))
 |_=>False
theorem Rv (I:Inv X cM σ H s) (r:RelV x v) (ty:Zo X.K T x H):s.TypeIs v T/\∀a,v=.ref a->∃ob,s.heap.get? a=some ob/\ob.dict=none:=by
 cases x with
 |str z=>
  obtain⟨t,rfl⟩:=r;cases (show T="str" from ty)
  exact⟨typeIs_str s z t,λ_ e=>nomatch e⟩
 |int i=>
  obtain⟨t,rfl⟩:=r;cases (show T="int" from ty)
  exact⟨typeIs_int s i t,λ_ e=>nomatch e⟩
 |ref p=>
  cases r;rcases ty with⟨rfl,xs,hq⟩|⟨rfl,o,hk,hc,hd⟩|⟨rfl,hk⟩|⟨rfl,S,n,hk⟩
  ·obtain⟨dD,_,pl,_⟩:=I.list hq;refine⟨pl.isList.typeIs,λa e=>?_⟩
   cases e;obtain⟨o,n,e,c,hd,_⟩:=pl;exact⟨o,e,hd⟩
  ·refine⟨⟨o,I.E7 p o hk,hc⟩,λa e=>?_⟩
   cases e;exact⟨o,I.E7 _ o hk,hd⟩
  ·have z:∃o,s.heap.get? p=some o/\o.ExactDict:=by
    rcases hk with⟨kvs,hk⟩|⟨kvs,hk⟩
    ·obtain⟨_,_,_,_,o,_,_,e,ex,_⟩:=I.fJ p _ hk;exact⟨o,e,ex⟩
    ·obtain⟨_,_,_,_,o,_,_,e,ex,_⟩:=I.fJ p _ hk;exact⟨o,e,ex⟩
   obtain⟨o,e,ex⟩:=z;refine⟨⟨o,e,ex.1⟩,λa e2=>?_⟩
   cases e2;exact⟨o,e,ex.2.1⟩
  ·obtain⟨o,_,_,_,e,ex,_⟩:=I.fJ p _ hk;refine⟨⟨o,e,ex.1⟩,λa e2=>?_⟩
   cases e2;exact⟨o,e,ex.2.1⟩
 |_=>exact False.elim ty
noncomputable def XG (K:W.Frag) (T:String) (r:V->List V->Hp->VK->Prop) (to:TE) (t:TA):TE:=λσ H Q=>to σ H λx H1=>Zo K T x H1/\t σ H1 λxs H2=>r x xs H2 Q
variable {o e:cF}{es:List cF}{to:TE}{t:TA}{name:Str}{apos hV:Pos}{T id:String}{r:V->List V->Hp->VK->Prop}
theorem Qa (pa:PlainAttrs T) (slot:Slot T name id) (hty:typeOf (.builtin id)=pure (.type "method_descriptor")) (hm:MtR X id r) (ho:PE X o to) (ha:PA X (e::es) t)
  (Dl:attributeBase o name X.env (eval o X.env)=eval o X.env:=by rfl)
  (KY:((backTo hV (starEach (e::es) X.env)).all (λx=> !x.1)&&(backToKw hV (keywordEach [] X.env)).all (λx=>x.1.isSome)
   &&decide ((e::es).length+([]:List Keyword).length+(if([]:List Keyword).isEmpty then 0 else 1)<30))=true:=by rfl)
  (Dm:(apos.endLine==hV.line)=true:=by rfl) (hs:starEach (e::es) X.env=(false,eval e X.env)::starEach es X.env:=by rfl) (xg:(backTo hV (starEach es X.env)).any (·.1)=false:=by rfl):
  PE X (.Call (.Attribute o name apos) (e::es) [] hV) (XG X.K T r to t):=by
 intro cM s σ H Q I h;refine wpAny_Call_method_late Dl KY Dm rfl (gU (ho cM s σ H _ I h) λv s1 ⟨x,H1,I1,r1,ty,q1⟩=>?_)
 obtain⟨h1,h2⟩:=Rv I1 r1 ty;refine⟨T,id,pa,slot,hty,h1,h2,?_⟩;have hA:=ha hV cM s1 σ H1 _ I1 q1;rw[hs]at hA ⊢;refine Calls.callWith_builtin (by show(false||(backTo hV (starEach es X.env)).any (·.1))=false;rw[xg]<;>rfl) (Calls.evalArgs_plain ?_)
 exact gU hA λus s2 ⟨vs,H2,I2,r2,q2⟩=>hm cM s2 σ H2 x vs v us Q I2 r1 r2 q2
end
def Zp (X:Cx) (id:String) (r:V->List V->Hp->VK->Prop):Prop:=
 ∀(cM:cj) (s:cy) (σ:St) (H:Hp) (x:V) (xs:List V) (v:cx) (us:cw) (Q:VK),Inv X cM σ H s->RelV x v->Vals xs us->r x xs H Q->
  wpAny (model X.prog X.w) X.A (call (.builtin id) (v::us)) (EP X cM σ Q) X.xe s
theorem Vals.one:∀{x:V}{us:cw},Vals [x] us->∃u,us=[u]/\RelV x u
 |_,_,.cons r .nil=>⟨_,rfl,r⟩
theorem Vals.eraseIdx:∀{xs:List V}{us:cw}(i:Nat),Vals xs us->Vals (xs.eraseIdx i) (us.eraseIdx i)
 |_,_,_,.nil=>.nil
 |_,_,0,.cons _ t=>t
 |_,_,i+1,.cons r t=>.cons r (Vals.eraseIdx i t)
theorem mr {α:Type}:∀(l:List α) (i:Nat),(l.eraseIdx i).length<=l.length
 |[],_=>au _
 |_::_,0=>Nat.le_succ _
 |_::r,i+1=>Nat.succ_le_succ (mr r i)
section
variable {X:Cx}{cM:cj}{σ:St}{H:Hp}{s:cy}{l b:cE}{xs ys zs:List V}
theorem Inv.UK {dD its':cw}{n:Nat}{f:Array cx->Array cx}{t':Nat}(I:Inv X cM σ H s) (hH:H l=some (.lst xs))
  (e:s.heap.get? l=some {cls:=.type "list",data:=.seq dD.toArray n}) (hf:f dD.toArray=its'.toArray) (hv:Vals ys its') (hz:ys.length<=sizeLine):
  Inv X cM σ (upd H l (.lst ys)) {s with heap:=s.heap.update l (Obj.mapSeq f),toks:=t'}:=by
 have q:=PySem.IsL.update e f;rw[hf]at q;refine I.write (x:=l) (e:=l) (by rw[hH];exact trivial) (.inl rfl) (λb' u hb hu=>(bx s.heap (Obj.mapSeq f) (Ne.symm hb)).trans hu) ⟨_,q⟩ ?_
 exact⟨hz,its',_,hv,q⟩
theorem Inv.XH (I:Inv X cM σ H s) (hv:Vals ys dD) (hz:ys.length<=sizeLine):Inv X cM σ (upd H s.heap.objs.size (.lst ys)) {s with heap:=s.heap.push {cls:=.type "list",data:=.seq dD.toArray},toks:=t'}:=
 I.laid (λ_ _ q=>ag _ q) (au _) ⟨hz,dD,0,hv,az _ rfl⟩
theorem Inv.fresh (I:Inv X cM σ H s):H s.heap.objs.size=none:=I.fJ.fresh (au _)
theorem Inv.UL (I:Inv X cM σ H s) (hH:H l=some (.lst xs)):xs.length<=sizeLine/\∃(dD:cw) (n:Nat),Vals xs dD/\xs.length=dD.length/\s.heap.get? l=some {cls:=.type "list",data:=.seq dD.toArray n}:=by
 obtain⟨z,dD,n,r,e⟩:=I.fJ l _ hH;exact⟨z,dD,n,r,r.length,e⟩
end
section
variable {X:Cx}
def Hk:V->List V->Hp->VK->Prop:=λx vs H Q=>∃l xs y,x=.ref l/\vs=[y]/\H l=some (.lst xs)/\xs.length<sizeLine/\Q .eV (upd H l (.lst (xs++[y])))
theorem Ad:Zp X "list.append" Hk:=by
 intro cM s σ H x vs v us Q I rx rv h;obtain⟨l,xs,y,rfl,rfl,hH,hz,q⟩:=h;cases rx;obtain⟨u,rfl,ru⟩:=rv.one;obtain⟨z,dD,n,r,hl,e⟩:=I.UL hH;refine call_meets F.slot_list_append ⟨_,e,rfl⟩ F.entry_list_append (F.args_list_append_2 _ _) (PySem.list_append l dD.toArray n u (by rw[aq];omega)) ⟨e,?_⟩
 refine⟨.eV,_,I.UK (its':=dD++[u]) hH e (by simp) (r.append (.cons ru .nil)) ?_,rfl,q⟩
 rw[aQ,List.length_singleton];omega
def KZ:V->List V->Hp->VK->Prop:=λx vs H Q=>∃l xs i k y,x=.ref l/\vs=[.int i]/\H l=some (.lst xs)/\-(2^63)<=i/\i<2^63/\seqIndex? i xs.length=some k/\xs[k]? =some y/\Q y (upd H l (.lst (xs.eraseIdx k)))
theorem K0:Zp X "list.pop" KZ:=by
 intro cM s σ H x vs v us Q I rx rv h;obtain⟨l,xs,i,k,y,rfl,rfl,hH,h1,h2,hk,hy,q⟩:=h;cases rx;obtain⟨u,rfl,ru⟩:=rv.one;obtain⟨t,rfl⟩:=ru;obtain⟨z,dD,n,r,hl,e⟩:=I.UL hH;obtain⟨w,hw,Ob⟩:=r.get hy;refine call_meets F.slot_list_pop ⟨_,e,rfl⟩ F.entry_list_pop (F.args_list_pop_2 _ _)
  (MeetsSeq.list_pop_at l dD.toArray n i t k w (fitsIndex_both h1 h2) (by rw[aq,<-hl];exact hk) (by rw[<-Array.getElem?_toList];exact hw) (by rw[aq];omega)) ⟨e,?_⟩
 refine⟨y,_,I.UK (its':=dD.eraseIdx k) hH e ?_ (r.eraseIdx k) ?_,Ob,q⟩
 ·show dD.toArray.eraseIdxIfInBounds k=(dD.eraseIdx k).toArray;rw[List.eraseIdxIfInBounds_toArray]
 ·have:=mr xs k;omega
end
section
variable {prog:cA}{w:cB}{A:cC}{E:cf}{s:cy}
end
section
variable {X:Cx}
end
end L2
namespace Zq
open PySem PySem.W PySem.Calls PyProof.Rows
theorem wo:∀(ns:cn) (vs:cw),WellAll P h vs (ns.map WData.int)->IntsAre vs ns:=by
 intro ns;induction ns with
 |nil=>
  intro vs w;rw[List.map_nil]at w;cases w;exact .nil
 |cons n ns ih=>
  intro vs w;rw[aF]at w;cases w with
  |cons a b=>
   cases a;exact .cons _ _ (ih _ b)
theorem Ja {l:OpenLaw}{n:Nat}(hn:l.most=some n) {P:Params}{h:Heap}{args:List WData}{vals:cw}
  (Od:l.row.toRowW.claim.pre args=true) (XI:WellAll P h vals args):
  ∃a vs ns,vals=[Value.ref a]/\args=[WData.list (ns.map WData.int)]/\h.get? a=some {cls:=.type "list",data:=.seq vs.toArray}/\IntsAre vs ns/\ns.length<=n:=by
 have hsh:WShape.hasAll [] args [.list .int]=true:=(pre_splitW Od).1;have hc:l.pre.holds [] {args:=args}=true:=(pre_splitW Od).2;obtain⟨d,r,rfl,h1,h2⟩:=hasAllW_cons hsh;obtain rfl:=hasAllW_nil h2;obtain⟨xs,rfl,h3⟩:=hasW_list h1;obtain⟨ns,rfl⟩:=items_int h3;have hlen:ns.length<=n:=by
  unfold OpenLaw.pre at hc;have h4:(WTm.not (.lt (.lit (.int (n:Int))) (.len (.arg 0)))).holds [] {args:=[.list (ns.map .int)]}=true:=by
   have h4:=(holds_andW hc).1;rw[hn]at h4;exact h4
  have h5:=condW_of h4 (w_not (w_lt w_lit (w_len_list (w_arg rfl))));rw[ae]at h5;refine Nat.le_of_not_lt λq=>?_
  have q':(n:Int)<((ns.length:Nat):Int):=by omega
  first
   |(rw[aR q']at h5;exact absurd h5 (by decide))
   |(simp at h5;omega)
 cases XI with
 |cons w1 w2=>
  cases w2;cases w1 with
  |list ho xh=>exact⟨_,_,ns,rfl,rfl,ho,wo ns _ xh,hlen⟩
theorem Jb (l:OpenLaw) (args:List WData):l.row.toRowW.claim.post args (.bool true) args=true:=
 postW_of (r:=l.row.toRowW) (X:=(true==true))
  (show WShape.has [] (.bool true) .bool=true by first|rfl|decide|simp[WShape.has,WShape.arms,WShape.armsAll])
  (show(WTm.eq .res (.lit (.bool true))).value [] {args:=args,res:=some (.bool true),after:=args}=some (.bool (true==true))from w_eq_bool (w_res rfl) w_lit) rfl
theorem Dp {l:OpenLaw}{n:Nat}{q:cA}{loose:List Str}{XP:(cg)->Heap->Prop}{YP:cB->Heap->Prop}{d:DefRec}
  (hn:l.most=some n) (UM:d.params.defaults=[])
  (call:∀(w:cB) (s₀ s₁:cy) (mg mb:cg) (fa:cE) (o:Obj) (pm cd doc:cx) (a:cE) (vs:cw) (ns:cn),
   Ground q loose [] XP w s₀ mg mb s₁.heap->YP w s₁.heap->
   s₁.heap.get? fa=some o->o.data=.func (docDef d.name d.params d.body d.scope pm cd doc)->s₁.heap.CodeRec cd d.name->mg d.name=some (.ref fa)->
   s₁.heap.get? a=some {cls:=.type "list",data:=.seq vs.toArray}->IntsAre vs ns->ns.length<=n->s₁.gens=#[]->
   codeAny (model l.prog w) callerA (.call (.ref fa) ⟨[.ref a],[]⟩) (λr s'=>r=.ok (.ret (.bool true))/\OldK s₁.heap s'.heap/\s'.os=s₁.os/\AllBare s'.gens) s₁):
  WalkO q loose XP YP l.row.toRowW d [] (λf vs=>PySem.call f vs):=by
 intro w s₀ s₁ mg mb G Y fa o pm cd doc dV kV ho hd uF hD UN hg args vals as Od aa8 hrd XI UO;obtain rfl:dV=.none:=Dflts.none hD UM;obtain rfl:kV=.none:=Dflts.noKw hD;obtain⟨a,vs,ns,rfl,rfl,Rw,hints,hlen⟩:=Ja hn Od XI;refine enter_call (codeAny_mono (call w s₀ s₁ mg mb fa o pm cd doc a vs ns G Y ho (fd_plain hd) uF UN Rw hints hlen hg) λr s' hq=>?_)
 obtain⟨rfl,h2,h3,h4⟩:=hq;exact⟨.inl ⟨.bool true,.bool true,[],rfl,λ_=>rfl,.bool true,Jb l _,λ_=>⟨List.Pairwise.nil,λ_ hm=>(nomatch hm)⟩⟩,h2,h3,h4⟩
section
variable {prog:cA}{w:cB}{A:cC}{E:cf}{s:cy}{K:Frag}
end
end Zq
namespace L2
open PySem PySem.Spec PyProof.Rows
theorem rh:∀{vs:cw}{ns:cn},IntsAre vs ns->Vals (ns.map V.int) vs
 |_,_,.nil=>.nil
 |_,_,.cons n t h=>.cons ⟨t,rfl⟩ (rh h)
noncomputable def inClass (s:cI) (j:Nat):cI:=match s with
 |.ClassDef _ _ _ body _ _ _ _ _ _ _=>body.getD j (.Pass ⟨0,0,0,0⟩)
 |_=>.Pass ⟨0,0,0,0⟩
noncomputable def kT (s:cI):Arguments:=match s with
 |.FunctionDef _ a _ _ _ _ _ _ _ _=>a
 |_=>{posonlyargs:=[],args:=[],vararg:=none,kwonlyargs:=[],kw_defaults:=[],kwarg:=none,defaults:=[]}
noncomputable def eW (s:cI):List cI:=match s with
 |.FunctionDef _ _ b _ _ _ _ _ _ _=>b
 |_=>[]
noncomputable def cP (s:cI):Scope:=match s with
 |.FunctionDef _ _ _ _ _ _ sc _ _ _=>sc
 |_=>{kind:=.function,names:=[],isGenerator:=false,isCoroutine:=false}
noncomputable abbrev gY:IY:=λ_ _ _ _ _ _=>False
noncomputable abbrev E0:XK:=λ_ _ _=>False
theorem vP {X:Cx}:Passes gY X E0:=λ_ _ _ _ _ _ _ h=>h.elim
structure kU (K:W.Frag) (x qual:Str) (st:cI) (f:cE) (fd:cz):Prop where
 ex:∃(oc:cx) (od:cp) (kV doc pm:cx) (an:cp) (eN ct:cx) (N1:cq),
  fd=W.fnOf x qual (kT st) (eW st) (cP st) .none kV doc pm an eN ct/\K.lookup f=some ⟨oc,od,.func fd,N1⟩/\W.codeIn K eN qual=true
 kp:W.keepIn K (.ref f)=true
section
variable {P:cA}{w:cB}{K:W.Frag}{mg:cg}{base:Heap}
theorem kU.ok {x qual:Str}{st:cI}{f:cE}{fd:cz}{N ps:List Str}{k:Nat}{sp:Sp}(F:kU K x qual st f fd) (S:dt N ps (cP st)) (len:∀vs H Q E,sp vs H Q E->vs.length=ps.length)
  (fY:∀(eN:cx) (A:cC) (outer:List Env) (s:cy) (H:Hp) (vs:List V) (Q:VK) (E:XK),fm k (A.deeper (envOfC qual (cP st) s.heap.objs.size f eN))->sp vs H Q E->
   ∃t,zf (pX gY P w K mg base N qual (cP st) f eN A outer s H E).Dc (eW st) t/\t {nx:=λ_ H'=>Q .eV H',rt:=Q} (start N vs) H):dY P w K mg base gY (k+1) f fd ps sp:=by
 obtain⟨oc,od,kV,doc,pm,an,eN,ct,N1,rfl,lk,uF⟩:=F.ex;refine P6 lk uF S len λA outer s H vs Q E hr Ab=>?_
 obtain⟨t,h,q⟩:=fY eN A outer s H vs Q E hr Ab;exact⟨t,h.Dc,q⟩
theorem kU.binds {x qual:Str}{st:cI}{f:cE}{fd:cz}{ps:List Str}(F:kU K x qual st f fd)
  (h:∀(kV doc pm:cx) (an:cp) (eN ct:cx) (us:cw),us.length=ps.length->bindArgs (W.fnOf x qual (kT st) (eW st) (cP st) .none kV doc pm an eN ct) ⟨us,[]⟩=pure (ps.zip us)):Binds K fd ps []:=by
 obtain⟨oc,od,kV,doc,pm,an,eN,ct,N1,rfl,lk,uF⟩:=F.ex;exact .all (h kV doc pm an eN ct)
theorem K1 {x qual:Str}{st:cI}{f:cE}{oc:cx}{od an:cp}{N1:cq}{kV doc pm eN ct:cx}(l:K.lookup f=some ⟨oc,od,.func (W.fnOf x qual (kT st) (eW st) (cP st) .none kV doc pm an eN ct),N1⟩)
  (c:W.codeIn K eN qual=true) (k:W.keepIn K (.ref f)=true):kU K x qual st f (W.fnOf x qual (kT st) (eW st) (cP st) .none kV doc pm an eN ct):=⟨⟨oc,od,kV,doc,pm,an,eN,ct,N1,rfl,l,c⟩,k⟩
end
theorem kj (h:n<=1000):n<sizeLine:=Nat.lt_of_le_of_lt h (by decide)
section
variable {X:Cx}
theorem pv (i:Nat) (hN:X.N[i]? =some x:=by rfl) (hv:Tf X.env.scope x:=by first|exact Or.inl rfl|exact Or.inr (Or.inl rfl)|exact Or.inr (Or.inr rfl)) (hd:(x==("__debug__":Str))=false:=by decide) (uF:(x==("__classdict__":Str))=false:=by decide):PE X (.Name x pos) (gX i):=E8 hN hv hd uF
end
theorem Dq {A B:Prop}(h:B):if false=true then A else B:=by
 rw[if_neg aZ];exact h
theorem Bu {A B:Prop}(h:A):if true=true then A else B:=by
 rw[if_pos rfl];exact h
def dM (H H':Hp):Prop:=∀b o,H b=some o->H' b=some o
theorem dM.refl (H:Hp):dM H H:=λ_ _ h=>h
theorem dM.trans (a:dM H H1) (b:dM H1 H2):dM H H2:=λc o h=>b c o (a c o h)
theorem dM.free (e:dM H H') (h:H' l=Option.none):H l=Option.none:=by
 cases q:H l with
 |none=>rfl
 |some o=>
  rw[e l o q]at h;cases h
def uL (K:W.Frag):List (cE×Array cx):=qc.filterMap λ(t:Str×Pos×Str)=>(W.tabIn K t.1).map λq=>(q.2,za t.2.1 t.2.2)
theorem Oe {K:W.Frag}{b:cE}{ps:Array cx}(h:(b,ps)∈uL K):∃x c pos qual,(x,pos,qual)∈qc/\W.tabIn K x=some (c,b)/\ps=za pos qual:=by
 obtain⟨⟨x,pos,qual⟩,hm,he⟩:=List.mem_filterMap.mp h;cases ht:W.tabIn K x with
 |none=>rw[show W.tabIn K (x,pos,qual).1=none from ht]at he;cases he
 |some q=>
  obtain⟨c,P⟩:=q;rw[show W.tabIn K (x,pos,qual).1=some (c,P)from ht]at he
  cases he;exact⟨x,c,pos,qual,hm,ht,rfl⟩
theorem K2 {K:W.Frag}{x:Str}{c b:cE}{pos:Pos}{qual:Str}(hm:(x,pos,qual)∈qc) (ht:W.tabIn K x=some (c,b)):(b,za pos qual)∈uL K:=
 List.mem_filterMap.mpr ⟨(x,pos,qual),hm,by show(W.tabIn K x).map _=_;rw[ht];rfl⟩
theorem tu {α:Type}:∀{l:List (cE×α)}{b:cE}{v:α},(l.map (·.1)).Nodup->(b,v)∈l->l.lookup b=some v
 |[],_,_,_,h=>by cases h
 |(c,u)::r,b,v,nd,h=>by
  rw[aF,List.nodup_cons]at nd;rcases List.mem_cons.mp h with e|h
  ·cases e;simp[bq]
  ·have jg:b≠c:=λz=>nd.1 (by rw[<-z];exact List.mem_map_of_mem (f:=(·.1)) h)
   have hb:(b==c)=false:=by simpa using jg
   rw[bq,hb];exact tu nd.2 h
theorem vQ {α:Type}:∀{l:List (cE×α)}{b:cE}{v:α},l.lookup b=some v->(b,v)∈l
 |[],_,_,h=>by cases h
 |(c,u)::r,b,v,h=>by
  by_cases e:b=c
  ·subst e;simp only[bq,bM,Option.some.injEq]at h;subst h;exact af
  ·have hb:(b==c)=false:=by simpa using e
   simp only[bq,hb]at h;exact ai _ (vQ h)
def tabsOk (K:W.Frag):Bool:=W.noTabs K&&decide ((uL K).map (·.1)).Nodup
theorem Jc {P:cA}{w:cB}{K:W.Frag}{mg mb:cg}{CX:IY}{k:Nat}{fa a:cE}{fd:cz}{x:Str}{sp:Sp}{s₁:cy}{vs:cw}{ns:cn}
  (KX:K.In s₁.heap) (K3:s₁.heap.Ns mainGlobals mg) (hb:s₁.heap.Ns builtinsNs mb) (To:∀x:Str,x≠"__name__"->mb x=bootBuiltins x) (Rx:s₁.heap.NoLimit) (hg:s₁.gens=#[])
  (ha:s₁.heap.get? a=some {cls:=.type "list",data:=.seq vs.toArray}) (hi:IntsAre vs ns) (hl:ns.length<=sizeLine) (hr:fm k callerA)
  (XJ:tabsOk K=true) (hT:∀x c Pt pos qual,(x,pos,qual)∈qc->W.tabIn K x=some (c,Pt)->W.CodeHd s₁.heap c Pt/\s₁.heap.get? Pt=some (W.tabObj #[]))
  (hbm:∃bm ob,mg "__builtins__"=some (.ref bm)/\bm≠builtinsNs/\s₁.heap.get? bm=some ob/\ob.cls=.type "module"/\ob.dict=some builtinsNs/\ob.data=.plain)
  (F:∀base:Heap,K.In base->base.Ns mainGlobals mg->dY P w K mg base CX k fa fd [x] sp) (Ds:∀(s:cy) (u:cx),BindsTo s fd ⟨[u],[]⟩ [(x,u)])
  (Ab:∀H:Hp,pZ K H a (ns.map V.int)->sp [.ref a] H (λv _=>v=.bl true) λ_ _ _=>False)
  (XM:∀H e s',CX [] H s₁ (λ_ _ _=>False) e s'->False):
  codeAny (model P w) callerA (.call (.ref fa) ⟨[.ref a],[]⟩) (λr s'=>r=.ok (.ret (.bool true))/\OldK s₁.heap s'.heap/\s'.os=s₁.os/\AllBare s'.gens) s₁:=by
 have rv:=rh hi;have XN:=hi.length;obtain⟨Wu,XO⟩:=Bool.and_eq_true_iff.mp XJ;have ND:((uL K).map (·.1)).Nodup:=bJ XO
 have atT:∀{b:cE}{ps:Array cx},(uL K).lookup b=some ps->∃c pos qual,ps=za pos qual/\W.CodeHd s₁.heap c b/\s₁.heap.get? b=some (W.tabObj #[]):=λ{b ps} h=>by
  obtain⟨x,c,pos,qual,hm,ht,e⟩:=Oe (vQ h);exact⟨c,pos,qual,e,hT x c b pos qual hm ht⟩
 have core:∀H0:Hp,(∀b u,H0 b=some u->b=a/\K.lookup a=none/\u=.yZ {cls:=.type "list",data:=.seq vs.toArray} (.lst (ns.map V.int)))->pZ K H0 a (ns.map V.int)->
   codeAny (model P w) callerA (.call (.ref fa) ⟨[.ref a],[]⟩) (λr s'=>r=.ok (.ret (.bool true))/\OldK s₁.heap s'.heap/\s'.os=s₁.os/\AllBare s'.gens) s₁:=by
  intro H0 h0 hS0;have hex:∃H:Hp,(∀b u,H0 b=some u->H b=some u)/\(∀b ps,(uL K).lookup b=some ps->H b=some (.E6 ps))/\∀b u,H b=some u->(b=a/\K.lookup a=none/\u=.yZ {cls:=.type "list",data:=.seq vs.toArray} (.lst (ns.map V.int)))\/∃ps,(uL K).lookup b=some ps/\u=.E6 ps:=by
   refine⟨λb=>match(uL K).lookup b with|some ps=>some (HO.E6 ps)|none=>H0 b,λb u e=>?_,λb ps e=>?_,λb u e=>?_⟩
   ·show(match(uL K).lookup b with|some ps=>some (HO.E6 ps)|none=>H0 b)=_
    cases q:(uL K).lookup b with
    |none=>exact e
    |some ps=>
     obtain⟨c,pos,qual,_,_,e2⟩:=atT q;obtain⟨rfl,_⟩:=h0 b u e;rw[ha]at e2;cases e2
   ·show(match(uL K).lookup b with|some ps=>some (HO.E6 ps)|none=>H0 b)=_
    rw[e]
   ·have e':(match(uL K).lookup b with|some ps=>some (HO.E6 ps)|none=>H0 b)=some u:=e
    cases q:(uL K).lookup b with
    |none=>
     rw[q]at e';exact .inl (h0 b u e')
    |some ps=>
     rw[q]at e';cases e';exact .inr ⟨ps,rfl,rfl⟩
  obtain⟨H,up,ut,uo⟩:=hex;have hS:pZ K H a (ns.map V.int):=by
   rcases hS0 with h|h
   ·rcases h with h|⟨o,h⟩
    ·exact .inl (.inl (up _ _ h))
    ·exact .inl (.inr ⟨o,up _ _ h⟩)
   ·exact .inr h
  have fJ:rT P w H s₁.heap:=λb u e=>by
   rcases uo b u e with⟨rfl,_,rfl⟩|⟨ps,q,rfl⟩
   ·exact⟨ha,by rw[ae];exact hl,vs,_,rv,ha⟩
   ·obtain⟨c,pos,qual,rfl,_,e2⟩:=atT q;exact⟨#[],e2,trivial,pos,qual,#[],by simp,.inl rfl⟩
  have wH:∀{b:cE}{o:Obj},s₁.heap.get? b=some o->H b=none->(ze s₁.heap H).get? b=some o:=λe n=>Kq e n
  have UA:∀{b:cE}{o:Obj}{es:Array DictEntry}{ep:Nat},s₁.heap.get? b=some o->o.data=.dict es ep->H b=none:=λ{b o es ep} e d=>by
   cases q:H b with
   |none=>rfl
   |some u=>
    rcases uo b u q with⟨rfl,_,_⟩|⟨ps,q2,_⟩
    ·rw[ha]at e;cases e;have d':Data.seq vs.toArray _=Data.dict es ep:=d;cases d'
    ·obtain⟨c,pos,qual,_,_,e2⟩:=atT q2;rw[e]at e2;cases e2;cases d
  have Wv:∀{b:cE}{m:cg},s₁.heap.Ns b m->(ze s₁.heap H).Ns b m:=λ{b m} ⟨o,es,ep,e,d,r⟩=>⟨o,es,ep,wH e (UA e d),d,r⟩
  have Zr:K.In (ze s₁.heap H):=λb o e=>wH (KX b o e) (by
   cases q:H b with
   |none=>rfl
   |some u=>
    rcases uo b u q with⟨rfl,hk,_⟩|⟨ps,q2,_⟩
    ·rw[hk]at e;cases e
    ·obtain⟨c,pos,qual,_,_,e2⟩:=atT q2;rw[KX b o e]at e2;cases e2;have h2:=List.all_eq_true.mp Wu (b,W.tabObj #[]) (W.mem_of_lookupK e);exact absurd (show false=true from h2) aZ)
  have hM:Mod K mg (ze s₁.heap H):=⟨Zr,Wv K3,⟨mb,Wv hb,To⟩,let ⟨mc,h1,h2⟩:=Rx;⟨mc,Wv h1,h2⟩⟩;have Zs:∀{b:cE}{o:Obj}{T:String},s₁.heap.get? b=some o->o.cls=.type T->T≠"list"->H b=none:=λ{b o T} e d nl=>by
   cases q:H b with
   |none=>rfl
   |some u=>
    rcases uo b u q with⟨rfl,_,_⟩|⟨ps,q2,_⟩
    ·rw[ha]at e;cases e;injection (show Value.type "list"=Value.type T from d)with d'
     exact absurd d'.symm nl
    ·obtain⟨c,pos,qual,_,_,e2⟩:=atT q2;rw[e]at e2;cases e2;cases d
  have Ww:IM K mg (ze s₁.heap H) H:=λx c Pt pos qual hm ht=>by
   obtain⟨hC,hP⟩:=hT x c Pt pos qual hm ht;obtain⟨o,vs',file,tf,flags,tg,inF,text,tt,c1,c2,c3⟩:=hC;obtain⟨bm,ob,b1,b2,b3,b4,b5,b6⟩:=hbm;refine⟨⟨#[],by rw[ut Pt _ (tu ND (K2 hm ht))];simp⟩,⟨o,vs',file,tf,flags,tg,inF,text,tt,wH c1 (Zs c1 c2 (by decide)),c2,c3⟩,bm,ob,b1,b2,λz=>?_,λz=>?_,wH b3 (Zs b3 b4 (by decide)),b4,b5,b6⟩
   ·obtain⟨og,es,ep,e,hd,_⟩:=K3;rw[z,e]at b3;cases b3;rw[hd]at b6;cases b6
   ·rw[z,hP]at b3;cases b3;cases b4
  have e0:Dg P w K mg (ze s₁.heap H) callerA [] s₁ H:=⟨rfl,hM,λb o e=>NK e,Nat.le_of_eq (IP _ _),trivial,λb hb=>absurd (show b∈([]:List cE)from hb) (by simp),fJ,.of_eq hg,Ww⟩
  refine codeAny_mono ((F _ Zr (Wv K3)).run callerA [] s₁ H ⟨[.ref a],[]⟩ [.ref a] [.ref a] _ _ hr e0 (Ds s₁ (.ref a)) (.cons rfl .nil) (Ab H hS)) λr s' h=>?_
  cases r with
  |error e=>exact(XM H e s' h).elim
  |ok fl=>
   cases fl with
   |next=>exact False.elim h
   |brk=>exact False.elim h
   |cont=>exact False.elim h
   |ret u=>
    obtain⟨v,H',os,bare,un,UP,r',q⟩:=h;have q':v=.bl true:=q;subst q';obtain rfl:u=Value.bool true:=r';refine⟨rfl,⟨λb o e=>?_,λb o e=>un.there b o e (by simp)⟩,os,bare⟩
    cases q:H b with
    |none=>exact .inl (un.keep b o e q (by intro z;exact absurd (show b∈([]:List cE)from z) (by simp)) (by simp))
    |some u=>
     rcases uo b u q with⟨_,_,rfl⟩|⟨ps,q2,rfl⟩
     ·have z2:=un.Bf b _ _ q;obtain⟨e1,_⟩:=fJ b _ q;obtain⟨e2,_⟩:=UP b _ z2;rw[e]at e1;cases e1;exact .inl e2
     ·obtain⟨c,pos,qual,_,hC,e2⟩:=atT q2;obtain⟨more,e3⟩:=un.zd b _ q;obtain⟨qs,e4,_⟩:=(show zV H' s'.heap b (ps++more)from UP b _ e3)
      rw[e]at e2;cases e2;exact .inr (.inl ⟨(hC.tab e).isCodeTable,rfl,#[],qs,rfl,by rw[e4];simp⟩)
 cases hk:K.lookup a with
 |some o=>
  have e:=KX a o hk;rw[ha]at e;cases e;exact core (λ_=>none) (λb u z=>by cases z) (.inr ⟨_,vs.toArray,_,hk,rfl,rfl,rfl,by rw[aq,XN];exact hl,by simpa using rv⟩)
 |none=>
  refine core (λb=>if b=a then some (.yZ {cls:=.type "list",data:=.seq vs.toArray} (.lst (ns.map V.int)))else none) (λb u z=>?_) (.inl (.inr ⟨{cls:=.type "list",data:=.seq vs.toArray},if_pos rfl⟩))
  by_cases hb:b=a
  ·have z':=(if_pos hb).symm.trans z;cases z';exact⟨hb,hk,rfl⟩
  ·have z':=(if_neg hb).symm.trans z;cases z'
theorem Of {l:W.OpenLaw}{n k:Nat}{q:cA}{loose:List Str}{XP:(cg)->Heap->Prop}{YP:cB->Heap->Prop}{d:DefRec}{K:Params->W.Frag}{CX:cB->IY}{sp:cB->Sp}{x:Str}
  (hn:l.most=some n) (Tj:n<=sizeLine) (UM:d.params.defaults=[]) (hr:fm k callerA)
  (hY:∀(w:cB) (h:Heap),YP w h->(K w.params).In h)
  (K4:∀t∈qc,((recsOf q).find? λe=>e.name==t.1).isSome=true)
  (F:∀(w:cB) (mg:cg) (fa:cE) (h:Heap),(K w.params).In h->h.Ns mainGlobals mg->mg d.name=some (.ref fa)->
   tabsOk (K w.params)=true/\∃fd:cz,(∀(s:cy) (u:cx),BindsTo s fd ⟨[u],[]⟩ [(x,u)])/\
    ∀base:Heap,(K w.params).In base->base.Ns mainGlobals mg->dY l.prog w (K w.params) mg base (CX w) k fa fd [x] (sp w))
  (Ab:∀(w:cB) (H:Hp) (a:cE) (ns:cn),ns.length<=n->pZ (K w.params) H a (ns.map V.int)->sp w [.ref a] H (λv _=>v=.bl true) λ_ _ _=>False)
  (XM:∀(w:cB) (H:Hp) (s:cy) (e:cx) (s':cy),CX w [] H s (λ_ _ _=>False) e s'->False):
  W.WalkO q loose XP YP l.row.toRowW d [] (λf vs=>PySem.call f vs):=by
 refine Zq.Dp hn UM λw s₀ s₁ mg mb fa o pm cd doc a vs ns G Y ho hd uF UN Rw hints hlen hg=>?_
 have KX:=hY w _ Y;obtain⟨XJ,fd,hb,hF⟩:=F w mg fa _ KX G.T.g UN;refine Jc KX G.T.g G.T.b G.T.builtins G.T.nolimit hg Rw hints (aD hlen Tj) hr XJ (λx c Pt pos qual hm ht=>?_) (let ⟨bm,ob,b1,b2,b3,b4,b5,b6⟩:=G.T.bmain;⟨bm,ob,b1,b2,b3,b4,b5,b6⟩) hF hb (λH hS=>Ab w H a ns hlen hS) λH e s'=>XM w H s₁ e s'
 obtain⟨d',Kt⟩:=Option.isSome_iff_exists.mp (K4 _ hm);exact W.tab_of G.T KX Kt ht
theorem mB (env:Env):∀(names:List (Str×NameKind)) (x:Str),
  (names.map λ(n,k)=>if(k==NameKind.free&&env.scope.kind==.function&&env.kindOf n==some .cell)then(n,NameKind.cell)else(n,k)).lookup x=
   (names.lookup x).map λk=>if(k==NameKind.free&&env.scope.kind==.function&&env.kindOf x==some .cell)then NameKind.cell else k
 |[],_=>rfl
 |(n,k)::r,x=>by
  have ih:=mB env r x;rw[aF];show List.lookup x ((if(k==NameKind.free&&env.scope.kind==.function&&env.kindOf n==some .cell)=true then(n,NameKind.cell)else(n,k))::_)=_
  by_cases hx:x=n
  ·subst hx;by_cases hc:(k==NameKind.free&&env.scope.kind==.function&&env.kindOf x==some .cell)=true
   ·rw[if_pos hc];simp only[bq,bM,bA];rw[if_pos hc]
   ·rw[if_neg hc];simp only[bq,bM,bA];rw[if_neg hc]
  ·have hb:(x==n)=false:=by simpa using hx
   by_cases hc:(k==NameKind.free&&env.scope.kind==.function&&env.kindOf n==some .cell)=true
   ·rw[if_pos hc];simp only[bq,hb];exact ih
   ·rw[if_neg hc];simp only[bq,hb];exact ih
theorem mem_lookup {α:Type}:∀{l:List (Str×α)}{x:Str}{a:α},l.lookup x=some a->(x,a)∈l
 |[],_,_,h=>by cases h
 |(n,b)::r,x,a,h=>by
  by_cases hx:x=n
  ·subst hx;simp only[bq,bM,Option.some.injEq]at h;subst h;exact af
  ·have hb:(x==n)=false:=by simpa using hx
   simp only[bq,hb]at h;exact ai _ (mem_lookup h)
theorem xi (h:∀y∈scope.names,y.2=.free->∃c,env.cells.lookup y.1=some c):∃cl,closureFor scope env=pure cl/\(∀x c,cl.lookup x=some c->env.cells.lookup x=some c/\(x,NameKind.free)∈scope.names)/\(∀x,(x,NameKind.free)∈scope.names->∃c,cl.lookup x=some c):=by
 have loop:∀(l:List (Str×NameKind)) (acc:List (Str×cE)) (f:Str×NameKind->List (Str×cE)->Sem (ForInStep (List (Str×cE)))),
   (∀n k a,f (n,k) a=if(k==NameKind.free)=true then(do let c <-cellOf env n;pure (ForInStep.yield ((n,c)::a)))else pure (ForInStep.yield a))->
   (∀y∈l,y.2=.free->∃c,env.cells.lookup y.1=some c)->
   ∃cl,forIn l acc f=pure cl/\(∀x c,cl.lookup x=some c->acc.lookup x=some c\/(env.cells.lookup x=some c/\(x,NameKind.free)∈l))/\(∀x,((x,NameKind.free)∈l\/∃c,acc.lookup x=some c)->∃c,cl.lookup x=some c):=by
  intro l;induction l with
  |nil=>intro acc f _ _;exact⟨acc,rfl,λx c e=>.inl e,λx e=>e.elim (λz=>nomatch z) id⟩
  |cons y r ih=>
   intro acc f hf hl;obtain⟨n,k⟩:=y;have hr:∀y∈r,y.2=.free->∃c,env.cells.lookup y.1=some c:=λy hy=>hl y (ai _ hy)
   rw[List.forIn_cons,hf];by_cases hk:k=.free
   ·subst hk;obtain⟨c,hc⟩:=hl (n,.free) af rfl;have ec:cellOf env n=pure c:=by unfold cellOf;rw[hc]
    rw[if_pos (by rfl),ec]
    obtain⟨cl,e1,e2,e3⟩:=ih ((n,c)::acc) f hf hr;refine⟨cl,by simpa using e1,λx d hx=>?_,λx hx=>e3 x ?_⟩
    ·rcases e2 x d hx with z|⟨z1,z2⟩
     ·by_cases Tp:x=n
      ·subst Tp;simp only[bq,bM,Option.some.injEq]at z;subst z;exact .inr ⟨hc,af⟩
      ·have hb:(x==n)=false:=by simpa using Tp
       simp only[bq,hb]at z;exact .inl z
     ·exact .inr ⟨z1,ai _ z2⟩
    ·by_cases Tp:x=n
     ·subst Tp;exact .inr ⟨c,by simp[bq]⟩
     ·have hb:(x==n)=false:=by simpa using Tp
      rcases hx with z|⟨d,z⟩
      ·rcases List.mem_cons.mp z with z|z
       ·cases z;exact absurd rfl Tp
       ·exact .inl z
      ·exact .inr ⟨d,by simp only[bq,hb];exact z⟩
   ·have hb:(k==NameKind.free)=false:=by simpa using hk
    rw[if_neg (by rw[hb];exact aZ)]
    obtain⟨cl,e1,e2,e3⟩:=ih acc f hf hr;refine⟨cl,by simpa using e1,λx d hx=>(e2 x d hx).elim .inl λz=>.inr ⟨z.1,ai _ z.2⟩,λx hx=>e3 x ?_⟩
    rcases hx with z|z
    ·rcases List.mem_cons.mp z with z|z
     ·cases z;exact absurd rfl hk
     ·exact .inl z
    ·exact .inr z
 have ec:closureFor scope env=forIn scope.names ([]:List (Str×cE)) (λ(x:Str×NameKind) a=>if(x.2==NameKind.free)=true then(do let c <-cellOf env x.1;pure (ForInStep.yield ((x.1,c)::a)))else pure (ForInStep.yield a)):=by
  unfold closureFor;simp only[bind_pure]
 obtain⟨cl,e1,e2,e3⟩:=loop scope.names [] (λ(x:Str×NameKind) a=>if(x.2==NameKind.free)=true then(do let c <-cellOf env x.1;pure (ForInStep.yield ((x.1,c)::a)))else pure (ForInStep.yield a)) (λn k a=>rfl) h
 refine⟨cl,?_,λx c hx=>?_,λx hx=>e3 x (.inl hx)⟩
 ·rw[ec,e1]
 ·rcases e2 x c hx with z|z
  ·simp at z
  ·exact z
noncomputable def ez (X:Cx) (scope:Scope) (cl:List (Str×cE)) (C:cE) (s:cy) (H:Hp) (fp:List cE):Cx:=
 {X with s₀:=s,H₀:=H,env:=compEnvC scope cl C X.env,outer:=X.stack,ex:=fp,fn:=λ_=>false,pn:=[],xe:=λ_ _=>False}
noncomputable def ni (N:List Str) (outer names:List (Str×NameKind)) (xs:List Str):Bool:=
 names.all (λy=>(y.2!=.cell&&(y.2!=.local||xs.contains y.1|| !(N.contains y.1)))&&(y.2!=.local||names.lookup y.1==some .local)&&(y.2!=.free||((outer.lookup y.1==some .cell||outer.lookup y.1==some .free)&&names.lookup y.1==some .free)))&&xs.all λx=>names.lookup x==some .local
structure sH (X:Cx) (scope:Scope) (x:Str) (j:Nat):Prop where
 kind:scope.kind=.function
 ok:ni X.N X.env.scope.names scope.names [x]=true
 hj:X.N[j]? =some x
 nd:X.N.Nodup
abbrev K5 (X:Cx) (scope:Scope):Prop:=∀y∈scope.names,y.2≠.cell/\(y.2=.local->scope.names.lookup y.1=some .local)/\(y.2=.free->(X.env.kindOf y.1=some .cell\/X.env.kindOf y.1=some .free)/\scope.names.lookup y.1=some .free)
section
variable {X:Cx}{scope:Scope}{xs:List Str}
theorem Bv (h:ni X.N X.env.scope.names scope.names xs=true):K5 X scope:=λy hy=>by
 unfold ni at h;have h1:=(List.all_eq_true.mp (Bool.and_eq_true_iff.mp h).1) y hy;have h2:=Bool.and_eq_true_iff.mp h1;have h3:=Bool.and_eq_true_iff.mp h2.1;have h0:=Bool.and_eq_true_iff.mp h3.1;refine⟨by simpa using h0.1,λe=>?_,λe=>?_⟩
 ·have:=h3.2;rw[e]at this
  simpa using this
 ·have:=h2.2;rw[e]at this;exact(by simpa using this:(X.env.scope.names.lookup y.1=some .cell\/X.env.scope.names.lookup y.1=some .free)/\scope.names.lookup y.1=some .free)
theorem Hl (h:ni X.N X.env.scope.names scope.names xs=true) {y:Str}(hm:(y,NameKind.local)∈scope.names) {i:Nat}(e:X.N[i]? =some y):y∈xs:=by
 unfold ni at h;have h1:=(List.all_eq_true.mp (Bool.and_eq_true_iff.mp h).1) _ hm;have h2:=Bool.and_eq_true_iff.mp h1;have h3:=Bool.and_eq_true_iff.mp h2.1;have h0:=(Bool.and_eq_true_iff.mp h3.1).2;have hN:y∈X.N:=bh e;have hN':X.N.contains y=true:=by simpa using hN
 simp only[hN',bne_self_eq_false,Bool.false_or,bS,Bool.or_false]at h0
 simpa using h0
theorem K6 (h:ni X.N X.env.scope.names scope.names xs=true) {x:Str}(hx:x∈xs):scope.names.lookup x=some .local:=by
 unfold ni at h
 simpa using (List.all_eq_true.mp (Bool.and_eq_true_iff.mp h).2) x hx
end
def K7 (X:Cx) (ifs:List cF) (t:TT):Prop:=
 ∀(cM:cj) (s:cy) (σ:St) (H:Hp) (Q:Bool->Hp->Prop),Inv X cM σ H s->t σ H Q->
  wpAny (model X.prog X.w) X.A (forIn ifs true λc r=>if r=true then do let ok <-isTrue c X.env (eval c X.env);pure (ForInStep.yield ok)else pure (ForInStep.yield r)) (TP X cM σ Q) X.xe s
noncomputable def Ry:TT:=λ_ H Q=>Q true H
theorem xj:K7 X [] Ry:=λ_ _ _ H _ I h=>wpAny_tests_nil ⟨H,I,h⟩
theorem Dt (h:PT X c t):K7 X [c] t:=λcM s σ H Q I q=>wpAny_tests_one (h cM s σ H Q I q)
abbrev TZ:=St->V->Hp->(St->Hp->Prop)->Prop
def Ft (wi:TI) (Z:TZ) (tt:TT) (te:TE):TE:=λσ H Q=>wi σ H λJ H1=>∀D,H1 D=none->∃W:Nat->Nat->List V->Hp->Prop,(∃m,W 0 m [] (upd H1 D (.lst [])))/\
 ∀i m acc H,W i m acc H->(J.stop i H/\Q (.ref D) H)\/(J.go i H/\∀x H',J.Q2 i H x H'->Z σ x H' λσ' H'=>tt σ' H' λb H2=>
  if b=true then te σ' H2 λy H3=>H3 D=some (.lst acc)/\acc.length<sizeLine/\∃m',m'<m/\W (i+1) m' (acc++[y]) (upd H3 D (.lst (acc++[y])))else ∃m',m'<m/\W (i+1) m' acc H2)
abbrev K8 (wi:TI) (j:Nat) (tt:TT) (te:TE):TE:=Ft wi (λσ x H' k=>k (σ.set j (some x)) H') tt te
structure Hm (X:Cx) (scope:Scope) (tg:cF) (Z:TZ):Prop where
 kind:scope.kind=.function
 all:K5 X scope
 tgt:∀σ:St,σ.length=X.N.length->∃z:St,z.length=σ.length/\(∀(i:Nat) y v,X.N[i]? =some y->z[i]? =some (some v)->σ[i]? =some (some v)/\(y,NameKind.local)∉scope.names)/\
  ∀cl C s H fp,∃g,PG (ez X scope cl C s H fp) tg g/\∀x H' k,Z σ x H' k->g x z H' λσ' H''=>(∀(k:Nat) v,z[k]? =some (some v)->σ'[k]? =some (some v))/\k σ' H''
theorem Bw {prog:cA}{w:cB}{A:cC}{R:Result->cy->Prop}{s:cy}{elt target iter:cF}{ifs:List cF}{scope:Scope}{pos:Pos}{it acc:cx}{env:Env}(I:Nat->cy->Prop)
  (turn:∀n s,I n s->wpAny (model prog w) A (pyNext it) (λr s₁=>match r with
   |none=>R (.ok .next) s₁
   |some v=>wpAny (model prog w) A (letOwnedTupleGo target it v) (λ_ s₁=>wpAny (model prog w) A (assign target env v) (λ_ s₂=>
     wpAny (model prog w) A (forIn ifs true λc r=>if r=true then do let ok <-isTrue c env (eval c env);pure (ForInStep.yield ok)else pure (ForInStep.yield r)) (λok s₃=>
      if ok=true then wpAny (model prog w) A (eval elt env) (λx s₄=>
       wpAny (model prog w) A (call (.builtin "list.append") [acc,x]) (λ_ s₅=>∃m,m<n/\I m s₅) (λ_ _=>False) s₄) (λ_ _=>False) s₃
      else ∃m,m<n/\I m s₃) (λ_ _=>False) s₂) (λ_ _=>False) s₁) (λ_ _=>False) s₁) (λ_ _=>False) s)
  (n:Nat) (h:I n s):
  codeAny (model prog w) A (.compLoop (.ListComp elt [⟨target,iter,ifs,0⟩] scope pos) 0 it acc env) R s:=by
 refine codeAny_loop rfl I (λn s hI=>?_) n h
 show wpAny _ A ((compTurn (.ListComp elt [⟨target,iter,ifs,0⟩] scope pos) 0 it acc env).onRaise (λx=>do noteFrame x env;theTreesLotGoes x)) _ _ s
 refine wpAny_noted ?_;rw[compTurn_list];refine aa (wpAny_standAt (aa (bO (turn n s hI) (λr s₁ h₁=>?_) λ_ _ h'=>h'.elim)))
 cases r with
 |none=>exact aj h₁
 |some v=>
  refine aa (bO h₁ (λ_ s₁ h₁=>?_) λ_ _ h'=>h'.elim)
  refine aa (bO h₁ (λ_ s₂ h₂=>aa (bO h₂ (λok s₃ h₃=>?_) λ_ _ h'=>h'.elim)) λ_ _ h'=>h'.elim)
  cases ok with
  |false=>exact aj ⟨rfl,h₃⟩
  |true=>
   exact aa (aa (bO h₃ (λx s₄ h₄=>aa (bO h₄ (λ_ s₅ h₅=>aj (aj ⟨rfl,h₅⟩)) λ_ _ h'=>h'.elim)) λ_ _ h'=>h'.elim))
section
variable {X:Cx}{elt iter tg:cF}{Z:TZ}{ifs:List cF}{x:Str}{px pos:Pos}{scope:Scope}{j:Nat}{wi:TI}{tt:TT}{te:TE}
theorem xk (hc:X.calm=true) (S:Hm X scope tg Z) {cl:List (Str×cE)}(uM:closureFor scope X.env=pure cl) (CS:∀y c,cl.lookup y=some c->X.env.cells.lookup y=some c/\(y,NameKind.free)∈scope.names)
  (Og:∀y,(y,NameKind.free)∈scope.names->∃c,cl.lookup y=some c)
  (ht:∀cl C s H fp,K7 (ez X scope cl C s H fp) ifs tt) (he:∀cl C s H fp,PE (ez X scope cl C s H fp) elt te)
  {cM:cj}{σ:St}{H2:Hp}{s₂:cy}{it:cE}{fp:List cE}{tn:Nat->Heap->Prop}{J:It}{Q:VK}(I2:Inv X cM σ H2 s₂) (T:Turn X.prog X.w X.K tg J fp it tn) (P4:tn 0 s₂.heap) (f2:∀b∈fp,De X cM H2 b)
  (hR:∀D,H2 D=none->∃W:Nat->Nat->List V->Hp->Prop,(∃m,W 0 m [] (upd H2 D (.lst [])))/\
   ∀i m acc H,W i m acc H->(J.stop i H/\Q (.ref D) H)\/(J.go i H/\∀x H',J.Q2 i H x H'->Z σ x H' λσ' H'=>tt σ' H' λb H2=>
    if b=true then te σ' H2 λy H3=>H3 D=some (.lst acc)/\acc.length<sizeLine/\∃m',m'<m/\W (i+1) m' (acc++[y]) (upd H3 D (.lst (acc++[y])))else ∃m',m'<m/\W (i+1) m' acc H2))
  {RR:cx->cE->Result->cy->Prop}
  (hRR:∀D C s' H' m',s₂.heap.objs.size<=C->Inv X cM σ H' s'->s'.heap.Ns C m'->H' C=none->Q (.ref D) H'->RR (.ref D) C (.ok .next) s') {E:cf}:
  wpAny (model X.prog X.w) X.A (newList []) (λacc s₃=>wpAny (model X.prog X.w) X.A (newFunctionEnv scope X.env.globals cl [] X.env.qual none .none (some X.env)) (λUQ s₄=>
   codeAny (model X.prog X.w) X.A (.compStart (.ListComp elt [⟨tg,iter,ifs,0⟩] scope pos) 0 (.ref it) acc {UQ with scope:=relabel scope X.env}) (RR acc UQ.locals) s₄) E s₃) E s₂:=by
 have A1:=S.all;obtain⟨z,zl,z0,zg⟩:=S.tgt σ I2.len;refine bQ (wpAny_newFunctionEnv (λy hy=>(A1 y hy).1) (by intro y hy;simp at hy) (λh₁ Oh La=>?_) S.kind)
 dsimp only at Oh La ⊢;generalize UR:s₂.heap.push {cls:=.type "list",dict:=none,data:=.seq ([]:cw).toArray}=G at Oh La ⊢;have hC:G.objs.size=s₂.heap.objs.size+1:=by rw[<-UR,Heap.size_push]
 have Wx:s₂.heap.objs.size≠G.objs.size:=by rw[hC];exact aE (Nat.lt_succ_self _)
 have Fu:s₂.heap.objs.size<=G.objs.size:=by rw[hC];exact Nat.le_succ _
 have below:∀b,b<s₂.heap.objs.size->b≠G.objs.size/\b≠s₂.heap.objs.size:=λb hb=>⟨by rw[hC];exact aE (Nat.lt_succ_of_lt hb),aE hb⟩
 have old:∀b o,s₂.heap.get? b=some o->h₁.get? b=some o:=λb o e=>La.extBut b o (below b (aB e)).1 (ag _ (UR▸ag _ e))
 have lL:h₁.get? s₂.heap.objs.size=some {cls:=.type "list",data:=.seq ([]:cw).toArray 0}:=La.extBut _ _ Wx (ag _ (UR▸az _ rfl));generalize hCn:G.objs.size=C at Oh La hC Wx Fu below ⊢;generalize Fv:s₂.heap.objs.size=D at lL hC Wx Fu below ⊢;have Zt:H2 D=none:=by rw[<-Fv];exact I2.fJ.fresh (au _)
 have hC2:H2 C=none:=I2.fJ.fresh (by rw[Fv];exact Fu)
 obtain⟨W,⟨m0,w0⟩,turn⟩:=hR D Zt;have Lb:∀b∈fp,b<D:=λb hb=>by
  obtain⟨o,e,_⟩:=T.obj 0 _ P4 b hb;rw[<-Fv];exact aB e
 have ok:(ez X scope cl C s₂ H2 fp).Ok:=by
  have o:=I2.ok;refine⟨o.mod,S.kind,o.glob,o.blt,by show s₂.heap.objs.size<=C;rw[Fv];exact Fu,λy z c e1 e2=>o.inj y z c (CS y c e1).1 (CS z c e2).1,λy hy=>?_,λy c z=>(by cases z),o.hd,o.frames,.inl rfl,λb hb=>⟨?_,λy c e=>(f2 b hb).2.2.2.2.1 y c (CS y c e).1⟩,
   λb ob e=>I2.bs b ob e,aD o.Kr I2.sz,λb ob e hb=>?_,λb hb z=>?_,I2.stack,I2.Ha,I2.ok.tb.un I2.base⟩
  ·have q:((relabel scope X.env).names.lookup y=some .cell\/(relabel scope X.env).names.lookup y=some .free):=hy;have e:=mB X.env scope.names y;have fr:scope.names.lookup y=some .free:=by
    cases k:scope.names.lookup y with
    |none=>
     rw[k]at e;have e':(relabel scope X.env).names.lookup y=none:=e;rw[e']at q;rcases q with q|q<;>cases q
    |some kk=>
     by_cases hk:kk=.free
     ·rw[hk]
     ·rw[k]at e;have hb:(kk==NameKind.free)=false:=by simpa using hk
      have e':(relabel scope X.env).names.lookup y=some kk:=by
       refine e.trans ?_;simp only[bA,hb,Bool.false_and,aI,bD]
      rw[e']at q;have hm:(y,kk)∈scope.names:=mem_lookup k;rcases q with q|q
      ·exact absurd (aS q) (A1 _ hm).1
      ·exact absurd (aS q) hk
   exact Og y (mem_lookup fr)
  ·show b≠C;exact aE (aw (Lb b hb) Fu)
  ·rcases(f2 b hb).2.2.2.1 with z|z
   ·exact o.Ks b ob e z
   ·exact absurd (aw (aB e) (aD o.Kr z)) (Nat.lt_irrefl _)
  ·rcases List.mem_cons.mp (I2.w5 b z)with z|z
   ·exact(f2 b hb).2.1 z
   ·exact(f2 b hb).2.2.1 z
 have US:Un (Bg X.stack) fp H2 (upd H2 D (.lst [])) s₂.heap h₁:=Un.laid old (by rw[Fv];exact au _) Zt
 have Oi:∀y c,cl.lookup y=some c->c<D:=λy c e=>by
  obtain⟨v,z⟩:=I2.cell y c (CS y c e).1;rw[<-Fv];exact z.lt
 have Fd:∀{H':Hp},(∀b∈fp,H' b=none)->∀b∈fp,De (ez X scope cl C s₂ H2 fp) [] H' b:=λhn b hb=>
  ⟨hn b hb,aE (aw (Lb b hb) Fu),λz=>(List.mem_cons.mp (I2.w5 b z)).elim (λq=>(f2 b hb).2.1 q) λq=>(f2 b hb).2.2.1 q,.inl hb,λy c e=>(f2 b hb).2.2.2.2.1 y c (CS y c e).1,(λp hp=>nomatch hp)⟩
 have start:Inv (ez X scope cl C s₂ H2 fp) [] z (upd H2 D (.lst [])) {s₂ with heap:=h₁,toks:=s₂.toks+([]:List (Str×cx)).length}:=by
  refine⟨ok,rfl,I2.bare,US,⟨_,Oh,λi y v e1 e2 e3=>?_⟩,λy c e=>?_,?_,λy c e=>?_,(λp hp=>nomatch hp),?_,?_⟩
  ·obtain⟨m,hn,hl⟩:=I2.loc;obtain⟨e2,XC⟩:=z0 i y v e1 e2
   ·skip
    have Wy:(relabel scope X.env).names.lookup y=some .local\/(relabel scope X.env).names.lookup y=some .cell\/(relabel scope X.env).names.lookup y=some .free:=e3;have er:=mB X.env scope.names y;have Wz:(relabel scope X.env).names.lookup y=(scope.names.lookup y).map λk=>if(k==NameKind.free&&X.env.scope.kind==.function&&X.env.kindOf y==some .cell)then NameKind.cell else k:=er
    cases k:scope.names.lookup y with
    |none=>
     rw[k]at Wz;have Rz:(relabel scope X.env).names.lookup y=none:=Wz;rw[Rz]at Wy;rcases Wy with q|q|q<;>cases q
    |some kk=>
     have hm:(y,kk)∈scope.names:=mem_lookup k;obtain⟨a1,a2,a3⟩:=A1 _ hm;by_cases hk:kk=.free
     ·subst hk;obtain⟨o1,_⟩:=a3 rfl;have XQ:Tf X.env.scope y:=o1.elim (λz=>.inr (.inl z)) λz=>.inr (.inr z)
      obtain⟨u,r,l⟩:=hl i y v e1 e2 XQ;obtain⟨c',oK⟩:=Og y hm;refine⟨u,r,.inr ⟨?_,c',oK,?_⟩⟩
      ·show(relabel scope X.env).names.lookup y=some .cell\/(relabel scope X.env).names.lookup y=some .free;rw[Wz,k];simp only[bA];split
       ·exact .inl rfl
       ·exact .inr rfl
      ·rcases l with⟨l1,_⟩|⟨_,c,ec,z⟩
       ·rcases o1 with o1|o1<;>(rw[l1]at o1;cases o1)
       ·have Zu:=(CS y c' oK).1;rw[ec]at Zu;cases Zu;obtain⟨oc,ho,hd⟩:=z;exact⟨oc,old _ _ ho,hd⟩
     ·have hb:(kk==NameKind.free)=false:=by simpa using hk
      have Rz:(relabel scope X.env).names.lookup y=some kk:=by rw[Wz,k];simp only[bA,hb,Bool.false_and,aI,bD]
      rw[Rz]at Wy;rcases Wy with q|q|q
      ·
       cases q;exact absurd hm XC
      ·cases q;exact absurd rfl a1
      ·cases q;exact absurd rfl hk
  ·obtain⟨v,oc,ho,hd⟩:=I2.cell y c (CS y c e).1;exact⟨v,oc,old _ _ ho,hd⟩
  ·show upd H2 D (.lst []) C=none;rw[cR (Ne.symm Wx)];exact hC2
  ·rw[cR (aE (Oi y c e))];exact I2.pM y c (CS y c e).1
  ·exact I2.fJ.laid old (by rw[Fv];exact au _) ⟨bK _,[],0,.nil,lL⟩
  ·exact zl.trans I2.len
 have Zv:tn 0 h₁:=T.keep _ _ _ P4 λb hb o e=>old b o e
 have fr1:∀b∈fp,upd H2 D (.lst []) b=none:=λb hb=>by rw[cR (aE (Lb b hb))];exact(f2 b hb).1
 obtain⟨g,pg,hg⟩:=zg cl C s₂ H2 fp;have loop:∀s₄:cy,s₄={s₂ with heap:=h₁,toks:=s₂.toks+([]:List (Str×cx)).length}->
   codeAny (model X.prog X.w) X.A (.compLoop (.ListComp elt [⟨tg,iter,ifs,0⟩] scope pos) 0 (.ref it) (.ref D) (compEnvC scope cl C X.env)) (RR (.ref D) C) s₄:=by
  rintro s₄ rfl
  refine Bw (λn s'=>∃i acc H',Inv (ez X scope cl C s₂ H2 fp) [] z H' s'/\tn i s'.heap/\(∀b∈fp,H' b=none)/\W i n acc H') ?_ m0 ⟨0,[],_,start,Zv,fr1,w0⟩
  rintro n s3 ⟨i,acc,H3,I3,Uh,Ui,w3⟩
  rcases turn i n acc H3 w3 with⟨stop,qn⟩|⟨go,step⟩
  ·refine gU (T.done (ez X scope cl C s₂ H2 fp) rfl rfl rfl hc i [] s3 _ H3 _ I3 (Fd Ui) Uh stop) λr s4 ⟨hr,I4⟩=>?_
   subst hr;obtain⟨m',Bh,_⟩:=I4.loc;exact hRR D C s4 H3 m' (by rw[Fv];exact Fu) (I2.TN (ch:=fp) I4.os I4.base I4.fJ I4.bare λb hb=>⟨(f2 b hb).2.2.2.1,(f2 b hb).2.1,(f2 b hb).2.2.2.2.1,(f2 b hb).2.2.2.2.2⟩) Bh I4.free qn
  ·refine gU (T.item (ez X scope cl C s₂ H2 fp) rfl rfl rfl hc i [] s3 _ H3 _ I3 (Fd Ui) Uh go) λr s4 ⟨u,hr,h4⟩=>?_
   subst hr;refine gU h4 λ_ s5 ⟨y,H5,I5,r5,y5,Q5,Xp⟩=>?_
   have Xq:=I5.pinned (Fd Xp) (T.obj _ _ Q5);refine gU (pg _ s5 _ H5 y u _ Xq r5 (hg y H5 _ (step y H5 y5))) λ_ s6 ⟨σ6,H6,I6,wk,q6⟩=>?_
   refine gU (ht cl C s₂ H2 fp _ s6 _ H6 _ I6 q6) λb s7 ⟨H7,I7,q7⟩=>?_
   have again:∀{H8:Hp}{s8:cy}{RA:List V},Inv (ez X scope cl C s₂ H2 fp) ([]++w9 fp s5.heap) σ6 H8 s8->(∃m',m'<n/\W (i+1) m' RA H8)->∃m,m<n/\∃i acc H',Inv (ez X scope cl C s₂ H2 fp) [] z H' s8/\tn i s8.heap/\(∀b∈fp,H' b=none)/\W i m acc H':=λ{H8 s8 RA} I8 ⟨m',hm,w8⟩=>by
    refine⟨m',hm,i+1,RA,H8,I8.sZ.weak (zl.trans (I2.len.trans I8.len.symm)) wk,T.keep _ _ _ Q5 λb hb o e=>(I8.pin (b,o) (aL _ (aL _ (oN hb e)))).1,λb hb=>?_,w8⟩
    ·obtain⟨o,e,d⟩:=T.obj _ _ Q5 b hb;exact(I8.pin (b,o) (aL _ (aL _ (oN hb e)))).2.1
   cases b with
   |false=>exact again I7 (by simpa using q7)
   |true=>
    simp only[if_true]at q7 ⊢;refine gU (he cl C s₂ H2 fp _ s7 _ H7 _ I7 q7) λv s8 ⟨z,H8,I8,r8,hD8,hz8,q8⟩=>?_
    refine gU (Ad (X:=ez X scope cl C s₂ H2 fp) _ s8 _ H8 (.ref D) [z] (.ref D) [v] (λ_ H9=>∃m',m'<n/\W (i+1) m' (acc++[z]) H9) I8 rfl (.cons r8 .nil) ⟨D,acc,z,rfl,rfl,hD8,hz8,q8⟩) λ_ s9 ⟨_,H9,I9,_,q9⟩=>?_
    exact again I9 q9
 exact codeAny_compStart_list (loop _ rfl) (T.self _ 0 _ _ _ Zv (loop _ rfl))
theorem xl (I0:X.Ok) (S:K5 X scope):∃cl,closureFor scope X.env=pure cl/\(∀y c,cl.lookup y=some c->X.env.cells.lookup y=some c/\(y,NameKind.free)∈scope.names)/\(∀y,(y,NameKind.free)∈scope.names->∃c,cl.lookup y=some c):=
 xi λy hy e=>I0.has y.1 ((S y hy).2.2 e).1
theorem Bx (hc:X.calm=true) (S:Hm X scope tg Z) (hi:PI X tg iter wi) (ht:∀cl C s H fp,K7 (ez X scope cl C s H fp) ifs tt) (he:∀cl C s H fp,PE (ez X scope cl C s H fp) elt te)
  (hs:∀v,foldedSetIterable iter X.env v=pure v:=by intro _;rfl):PE X (.ListComp elt [⟨tg,iter,ifs,0⟩] scope pos) (Ft wi Z tt te):=by
 intro cM s σ H Q I h;obtain⟨cl,uM,CS,Og⟩:=xl I.ok S.all;rw[eval_ListComp];refine wpAny_comprehension_free (use:=none) rfl hs uM S.kind (λy hy=>(S.all y hy).2.1) (gU (hi cM s σ H _ I h) λv s1 h1=>gU h1 λWo s2 h2=>?_)
 obtain⟨it,fp,tn,J,H2,e,I2,T,P4,f2,hR⟩:=h2;subst e;refine xk hc S uM CS Og ht he I2 T P4 f2 hR (RR:=λacc C=>compPost (model X.prog X.w) X.A X.xe none (EP X cM σ Q) acc C) ?_
 intro D C s' H' m' hC I' hn hf q;refine⟨m',hn,λh' Lc=>⟨.ref D,H',?_,rfl,q⟩⟩
 exact I'.turned (t':=s'.toks) (it:=C) (λb o hb e=>(Lc.2 b hb).trans e) hf (bw (aw I2.lt hC)) (.inr (aD I2.sz hC))
  (λy c e z=>by obtain⟨v,q⟩:=I2.cell y c e;exact absurd (aw q.lt (by rw[z];exact hC)) (Nat.lt_irrefl _)) λp hp z=>absurd (aw (aB (I2.pin p hp).1) (by rw[z];exact hC)) (Nat.lt_irrefl _)
noncomputable def Du (i:Nat) (t:TE):TS:=λDn σ H=>t σ H λv H1=>Dn.nx (σ.set i (some v)) H1
theorem sH.G (S:sH X scope x j):Hm X scope (.Name x px) λσ x H' k=>k (σ.set j (some x)) H':=⟨S.kind,Bv S.ok,λσ hl=>by
 have hj:j<σ.length:=by rw[hl];exact(List.getElem?_eq_some_iff.mp S.hj).1
 have zc:∀{i v},(σ.set j none)[i]? =some (some v)->i≠j/\σ[i]? =some (some v):=λ{i v} e=>by
  by_cases h:i=j
  ·subst h;rw[bc hj]at e;cases e
  ·rw[aG (Ne.symm h)]at e;exact⟨h,e⟩
 refine⟨σ.set j none,List.length_set,λi y v e1 e2=>⟨(zc e2).2,λhm=>(zc e2).1 ?_⟩,λcl C s H fp=>⟨_,gQ (X:=ez X scope cl C s H fp) S.nd S.hj (.inl (lookup_relabel_local (K6 S.ok (by simp)))) (.inr (lookup_relabel_local (K6 S.ok (by simp)))),λx H' k h=>⟨λi v e=>?_,?_⟩⟩⟩
 ·have:=Hl S.ok hm e1;simp at this;subst this;exact qe S.nd e1 S.hj
 ·rw[aG (Ne.symm (zc e).1)];exact e
 ·rw[List.set_set];exact h⟩
theorem xm (hc:X.calm=true) (S:sH X scope x j) (hi:PI X (.Name x px) iter wi) (ht:∀cl C s H fp,K7 (ez X scope cl C s H fp) ifs tt) (he:∀cl C s H fp,PE (ez X scope cl C s H fp) elt te) (hN:X.N[i]? =some y) (hy:Loc X.env.scope y) (hf:X.fn y=true\/X.env.scope.names.lookup y=some .local) (UT:swapsWith (.ListComp elt [⟨.Name x px,iter,ifs,0⟩] scope pos) (some (.Name y py)) By.line X.env=pure true) (hs:∀v,foldedSetIterable iter X.env v=pure v:=by intro _;rfl):PS X (.Assign [.Name y py] (.ListComp elt [⟨.Name x px,iter,ifs,0⟩] scope pos) By) (Du i (K8 wi j tt te)):=by
 intro cM s σ H Dn I h;obtain⟨cl,uM,CS,Og⟩:=xl I.ok (Bv S.ok);rw[exec_Assign_Name_used _ _ _ _ UT];refine aa (wpAny_standAt (aa ?_));show wpAny _ X.A (do let _ <-comprehension (.ListComp elt [⟨.Name x px,iter,ifs,0⟩] scope pos) scope X.env _ (newList []) false (eval iter X.env) (some (assign (.Name y py) X.env))) _ _ s
 refine aa (bO (wpAny_comprehension_free (use:=some (assign (.Name y py) X.env)) (Q:=λ_ s'=>SP X cM Dn .next s') rfl hs uM S.kind (λy hy=>(Bv S.ok y hy).2.1)
  (gU (hi cM s σ H _ I h) λv s1 h1=>gU h1 λWo s2 h2=>?_)) (λ_ s' hq=>aj (aj hq)) λ_ _ e=>e)
 obtain⟨it,fp,tn,J,H2,e,I2,T,P4,f2,hR⟩:=h2;subst e;refine xk (Q:=λv H1=>Dn.nx (σ.set i (some v)) H1) hc S.G uM CS Og ht he I2 T P4 f2 hR (RR:=λacc C=>compPost (model X.prog X.w) X.A X.xe (some (assign (.Name y py) X.env)) (λ_ s'=>SP X cM Dn .next s') acc C) ?_
 intro D C s' H' m' hC I' hn Dv q;show wpAny _ X.A (assign (.Name y py) X.env (.ref D)) _ _ _;have Zw:C≠X.env.locals:=bw (aw I2.lt hC);have Zx:∀y c,X.env.cells.lookup y=some c->c≠C:=λy c e z=>by obtain⟨v,q⟩:=I2.cell y c e;exact absurd (aw q.lt (by rw[z];exact hC)) (Nat.lt_irrefl _)
 refine wpAny_assign_Name (zW (v:=.ref D) I' S.nd hN hy rfl (λs6 I6 hs6=>?_) hf)
 obtain⟨a,Jd,ha⟩:=hs6;have hCa:C≠a:=ha.elim (λz=>by rw[z];exact Zw) λz w=>Zx _ _ z w.symm
 refine⟨m',hn.sameBut Jd hCa,λh' Lc=>⟨_,H',?_,q⟩⟩
 exact I6.turned (t':=s6.toks) (it:=C) (λb o hb e=>(Lc.2 b hb).trans e) Dv Zw (.inr (aD I2.sz hC)) Zx λp hp z=>absurd (aw (aB (I2.pin p hp).1) (by rw[z];exact hC)) (Nat.lt_irrefl _)
end
end L2
namespace So
open PySem PySem.W PyProof.Rows
noncomputable def iU {α:Type}(lt:Nat->Nat->Bool):KasT α->α
 |.ret a=>a
 |.ask i j k=>iU lt (k (lt i j))
theorem mv (lt:Nat->Nat->Bool) (f:α->KasT β):∀t:KasT α,iU lt (t.bind f)=iU lt (f (iU lt t))
 |.ret _=>rfl
 |.ask i j k=>mv lt f (k (lt i j))
section
variable (rank:Nat->Int)
noncomputable def kk (p:Array Nat) (i:Nat):Int:=rank (p.getD i 0)
def Fw (p:Array Nat) (n:Nat):Prop:=∀i j,i<=j->j<n->kk rank p i<=kk rank p j
def Dec (p:Array Nat) (n:Nat):Prop:=∀i j,i<=j->j<n->kk rank p j<=kk rank p i
variable {rank}
theorem Dw (h:p[i]? =q[j]?):kk rank p i=kk rank q j:=by
 unfold kk;rw[aT,aT,h]
theorem Fx (hj:j<=p.size) (k:Nat):kk rank (kas_rev p i j) k=if i<=k/\k<j then kk rank p (i+j-1-k)else kk rank p k:=by
 have e:=getElem?_mirror_all (xs:=p) (i:=i) hj k;unfold kas_rev;split
 ·rename_i h;rw[if_pos h]at e;exact Dw e
 ·rename_i h;rw[if_neg h]at e;exact Dw e
theorem uN (hj:j<=p.size) (he:∀k,i<=k->k<j->kk rank p k=kk rank p (j-1)) (k:Nat):kk rank (kas_rev p i j) k=kk rank p k:=by
 rw[Fx hj];split
 ·rw[he _ (by omega) (by omega),he k (by omega) (by omega)]
 ·rfl
theorem jh (p:Array Nat) (i j:Nat):(kas_rev p i j).Perm p:=mirror_perm _ _ _ _
theorem xn (p:Array Nat) (i j:Nat):(kas_rev p i j).size=p.size:=(jh p i j).size_eq
theorem Fw.snoc (h:Fw rank p n) (h1:1<=n) (hx:kk rank p (n-1)<=kk rank p n):Fw rank p (n+1):=λi j zm hj=>by
 by_cases RB:j<n
 ·exact h i j zm RB
 ·have e:j=n:=by omega
  subst e;by_cases hi:i=j
  ·subst hi;exact Int.le_refl _
  ·exact Int.le_trans (h i (j-1) (by omega) (by omega)) hx
theorem Dec.snoc (h:Dec rank p n) (h1:1<=n) (hx:kk rank p n<=kk rank p (n-1)):Dec rank p (n+1):=λi j zm hj=>by
 by_cases RB:j<n
 ·exact h i j zm RB
 ·have e:j=n:=by omega
  subst e;by_cases hi:i=j
  ·subst hi;exact Int.le_refl _
  ·exact Int.le_trans hx (h i (j-1) (by omega) (by omega))
theorem Dec.congr (h:Dec rank p n) (e:∀k,kk rank q k=kk rank p k):Dec rank q n:=λi j zm hj=>by rw[e,e];exact h i j zm hj
variable {lt:Nat->Nat->Bool}(fu:∀i j,lt i j=decide (rank i<rank j))
include fu
theorem Ld {p:Array Nat}(f n:Nat):iU lt (kas_asc p (f+1) n)=if rank (p.getD n 0)<rank (p.getD (n-1) 0)then n else iU lt (kas_asc p f (n+1)):=by
 show iU lt (if lt (p.getD n 0) (p.getD (n-1) 0)=true then KasT.ret n else kas_asc p f (n+1))=_
 rw[fu];by_cases c:rank (p.getD n 0)<rank (p.getD (n-1) 0)
 ·rw[aR c,if_pos rfl,if_pos c];rfl
 ·rw[aH c,if_neg aZ,if_neg c]
theorem Bz {p:Array Nat}:∀(f n:Nat),1<=n->Fw rank p n->let m:=iU lt (kas_asc p f n);n<=m/\m<=n+f/\Fw rank p m/\(m=n+f\/kk rank p m<kk rank p (m-1))
 |0,n,h1,h=>⟨au _,au _,h,.inl rfl⟩
 |f+1,n,h1,h=>by
  dsimp only;rw[Ld fu];by_cases c:rank (p.getD n 0)<rank (p.getD (n-1) 0)
  ·rw[if_pos c];exact⟨au _,by omega,h,.inr c⟩
  ·rw[if_neg c];have ih:=Bz f (n+1) (by omega) (h.snoc h1 (by show rank _<=rank _;omega))
   dsimp only at ih;obtain⟨a,b,c',d⟩:=ih;exact⟨by omega,by omega,c',d.elim (λz=>.inl (by omega)) .inr⟩
theorem Je (f:Nat) (p:Array Nat) (n q:Nat):iU lt (kas_desc (f+1) p n q)=if rank (p.getD n 0)<rank (p.getD (n-1) 0)then(if q>0 then iU lt (kas_desc f (kas_rev p (n-(q+1)) n) (n+1) 0)else iU lt (kas_desc f p (n+1) 0))
  else if rank (p.getD (n-1) 0)<rank (p.getD n 0)then(p,n,q)else iU lt (kas_desc f p (n+1) (q+1)):=by
 show iU lt (if lt (p.getD n 0) (p.getD (n-1) 0)=true then(if q>0 then kas_desc f (kas_rev p (n-(q+1)) n) (n+1) 0 else kas_desc f p (n+1) 0)
  else .ask (p.getD (n-1) 0) (p.getD n 0) λd=>if d=true then .ret (p,n,q)else kas_desc f p (n+1) (q+1))=_
 rw[fu];by_cases c:rank (p.getD n 0)<rank (p.getD (n-1) 0)
 ·rw[aR c,if_pos rfl,if_pos c];split<;>rfl
 ·rw[aH c,if_neg aZ,if_neg c];show iU lt (if lt (p.getD (n-1) 0) (p.getD n 0)=true then KasT.ret (p,n,q)else kas_desc f p (n+1) (q+1))=_
  rw[fu];by_cases c2:rank (p.getD (n-1) 0)<rank (p.getD n 0)
  ·rw[aR c2,if_pos rfl,if_pos c2];rfl
  ·rw[aH c2,if_neg aZ,if_neg c2]
theorem tw:∀(f:Nat) (p:Array Nat) (n q:Nat),1<=n->n+f<=p.size->Dec rank p n->q+1<=n->(∀i,n-(q+1)<=i->i<n->kk rank p i=kk rank p (n-1))->
  let r:=iU lt (kas_desc f p n q);r.1.Perm p/\n<=r.2.1/\r.2.1<=n+f/\Dec rank r.1 r.2.1/\r.2.2+1<=r.2.1/\(∀i,r.2.1-(r.2.2+1)<=i->i<r.2.1->kk rank r.1 i=kk rank r.1 (r.2.1-1))
 |0,p,n,q,h1,hz,h,hq,he=>⟨Array.Perm.refl _,au _,au _,h,hq,he⟩
 |f+1,p,n,q,h1,hz,h,hq,he=>by
  dsimp only;rw[Je fu];by_cases c:rank (p.getD n 0)<rank (p.getD (n-1) 0)
  ·rw[if_pos c];have hx:kk rank p n<=kk rank p (n-1):=Int.le_of_lt c;by_cases Zy:q>0
   ·rw[if_pos Zy];have es:=uN (rank:=rank) (p:=p) (i:=n-(q+1)) (j:=n) (by omega) he
    have ih:=tw f (kas_rev p (n-(q+1)) n) (n+1) 0 (by omega) (by rw[xn];omega) ((h.snoc h1 hx).congr es) (by omega) (λi a b=>by rw[show i=n+1-1 by omega])
    dsimp only at ih;obtain⟨a,b,c',d⟩:=ih;exact⟨a.trans (jh _ _ _),by omega,by omega,d⟩
   ·rw[if_neg Zy];have ih:=tw f p (n+1) 0 (by omega) (by omega) (h.snoc h1 hx) (by omega) (λi a b=>by rw[show i=n+1-1 by omega])
    dsimp only at ih;obtain⟨a,b,c',d⟩:=ih;exact⟨a,by omega,by omega,d⟩
  ·rw[if_neg c];by_cases c2:rank (p.getD (n-1) 0)<rank (p.getD n 0)
   ·rw[if_pos c2];exact⟨Array.Perm.refl _,au _,by show n<=_;omega,h,hq,he⟩
   ·rw[if_neg c2];have ex:kk rank p n=kk rank p (n-1):=by unfold kk;omega
    have ih:=tw f p (n+1) (q+1) (by omega) (by omega) (h.snoc h1 (Int.le_of_eq ex)) (by omega) (λi a b=>by
     rw[show n+1-1=n by omega]
     by_cases hi:i=n
     ·rw[hi]
     ·rw[ex];exact he i (by omega) (by omega))
    dsimp only at ih;obtain⟨a,b,c',d⟩:=ih;exact⟨a,by omega,by omega,d⟩
theorem Ae {p:Array Nat}{n nrem:Nat}(h1:1<=n) (hn:n<=nrem) (hz:nrem<=p.size) (h:Dec rank p n):let r:=iU lt (kas_tail3 n nrem p);r.2.Perm p/\1<=r.1/\r.1<=nrem/\Fw rank r.2 r.1:=by
 dsimp only;unfold kas_tail3;rw[mv];have hi:Fw rank (kas_rev p 0 n) n:=λi j zm hj=>by
  rw[Fx (by omega),Fx (by omega),if_pos (by omega),if_pos (by omega)]
  exact h _ _ (by omega) (by omega)
 have ih:=Bz fu (p:=kas_rev p 0 n) (nrem-n) n h1 hi;dsimp only at ih;exact⟨jh _ _ _,by show 1<=iU lt (kas_asc _ _ _);omega,by show iU lt (kas_asc _ _ _)<=nrem;omega,ih.2.2.1⟩
theorem tE {p:Array Nat}{n nrem:Nat}(hn:n+1<=nrem) (hz:nrem<=p.size) (h:Dec rank p (n+1)):let r:=iU lt (kas_descPart n nrem p);r.2.Perm p/\1<=r.1/\r.1<=nrem/\Fw rank r.2 r.1:=by
 dsimp only;unfold kas_descPart;rw[mv];have ih:=tw fu (nrem-(n+1)) p (n+1) 0 (by omega) (by omega) h (by omega) (λi a b=>by rw[show i=n+1-1 by omega])
 dsimp only at ih;generalize iU lt (kas_desc (nrem-(n+1)) p (n+1) 0)=r at ih ⊢;obtain⟨a,b,c,d,e,g⟩:=ih;have sz:r.1.size=p.size:=a.size_eq;by_cases hq:r.2.2>0
 ·rw[if_pos hq];have es:=uN (rank:=rank) (p:=r.1) (i:=r.2.1-(r.2.2+1)) (j:=r.2.1) (by omega) g
  have t:=Ae fu (p:=kas_rev r.1 (r.2.1-(r.2.2+1)) r.2.1) (n:=r.2.1) (nrem:=nrem) (by omega) (by omega) (by rw[xn];omega) (d.congr es)
  exact⟨t.1.trans ((jh _ _ _).trans a),t.2⟩
 ·rw[if_neg hq];have t:=Ae fu (p:=r.1) (n:=r.2.1) (nrem:=nrem) (by omega) (by omega) (by omega) d
  exact⟨t.1.trans a,t.2⟩
theorem Jf {p:Array Nat}{nrem:Nat}(h1:1<=nrem) (hz:nrem<=p.size):let r:=iU lt (kas_count nrem p);r.2.Perm p/\1<=r.1/\r.1<=nrem/\Fw rank r.2 r.1:=by
 dsimp only;unfold kas_count;rw[mv];have ih:=Bz fu (p:=p) (nrem-1) 1 (au _) (λi j zm hj=>by have:i=j:=(by omega);subst this;exact Int.le_refl _)
 dsimp only at ih;generalize iU lt (kas_asc p (nrem-1) 1)=n at ih ⊢;obtain⟨a,b,c,d⟩:=ih;by_cases Zz:n=nrem
 ·rw[if_pos (by simpa using Zz)]
  exact⟨Array.Perm.refl _,a,by show n<=nrem;omega,c⟩
 ·rw[if_neg (by simpa using Zz)]
  have hl:kk rank p n<kk rank p (n-1):=d.resolve_left (by omega)
  by_cases Qb:n>1
  ·rw[if_pos Qb];have e0:iU lt (KasT.ask (p.getD 0 0) (p.getD (n-1) 0) λc=>if c=true then .ret (n,p)else kas_descPart n nrem (kas_rev p 0 n))=iU lt (if lt (p.getD 0 0) (p.getD (n-1) 0)=true then .ret (n,p)else kas_descPart n nrem (kas_rev p 0 n)):=rfl
   rw[e0,fu];by_cases hr:rank (p.getD 0 0)<rank (p.getD (n-1) 0)
   ·rw[aR hr,if_pos rfl];exact⟨Array.Perm.refl _,a,by show n<=nrem;omega,c⟩
   ·rw[aH hr,if_neg aZ];have xh:∀k,0<=k->k<n->kk rank p k=kk rank p (n-1):=λk _ hk=>by
     have a1:=c 0 k (by omega) hk
     have a2:=c k (n-1) (by omega) (by omega)
     have a3:¬ kk rank p 0<kk rank p (n-1):=hr;omega
    have es:=uN (rank:=rank) (p:=p) (i:=0) (j:=n) (by omega) xh
    have t:=tE fu (p:=kas_rev p 0 n) (n:=n) (nrem:=nrem) (by omega) (by rw[xn];omega) (λi j zm hj=>by
     rw[es,es];by_cases RB:j<n
     ·rw[xh i (by omega) (by omega),xh j (by omega) RB];exact Int.le_refl _
     ·have e:j=n:=by omega
      subst e;by_cases hi:i=j
      ·subst hi;exact Int.le_refl _
      ·rw[xh i (by omega) (by omega)];exact Int.le_of_lt hl)
    exact⟨t.1.trans (jh _ _ _),t.2⟩
  ·rw[if_neg Qb];have e:n=1:=by omega
   subst e;exact tE fu (by omega) hz (λi j zm hj=>by
    by_cases hi:i=j
    ·subst hi;exact Int.le_refl _
    ·have:i=0:=by omega
     have:j=1:=by omega
     subst_vars
     exact Int.le_of_lt hl)
theorem uO {p:Array Nat}{k:Nat}(hs:Fw rank p k):∀(f l r:Nat),l<=r->r<=k->r-l<=f->(∀i,i<l->kk rank p i<=kk rank p k)->(∀i,r<=i->i<k->kk rank p k<kk rank p i)->
  let m:=iU lt (kas_place p k f l r);m<=k/\(∀i,i<m->kk rank p i<=kk rank p k)/\(∀i,m<=i->i<k->kk rank p k<kk rank p i)
 |0,l,r,h1,h2,h3,UO,WA=>by
  have e:l=r:=by omega
  subst e;exact⟨h2,UO,WA⟩
 |f+1,l,r,h1,h2,h3,UO,WA=>by
  dsimp only;unfold kas_place;by_cases hg:l ≥ r
  ·rw[if_pos hg];have e:l=r:=by omega
   subst e;exact⟨h2,UO,WA⟩
  ·rw[if_neg hg];simp only[iU];rw[fu];have Lf:l<=(l+r)/2:=by omega
   have CT:(l+r)/2<r:=by omega
   generalize (l+r)/2=m at Lf CT ⊢;by_cases c:rank (p.getD k 0)<rank (p.getD m 0)
   ·rw[aR c,if_pos rfl];have ih:=uO hs f l m Lf (by omega) (by omega) UO (λi a b=>Int.lt_of_lt_of_le c (hs m i a b))
    exact ih
   ·rw[aH c,if_neg aZ];have ih:=uO hs f (m+1) r (by omega) h2 (by omega) (λi a=>Int.le_trans (hs i m (by omega) (by omega)) (by show rank _<=rank _;omega)) WA
    exact ih
theorem Af {p:Array Nat}{src d:Nat}(hs:src<p.size) (hd:d<=src) (k:Nat):kk rank (bubble p src d) k=if k=src-d then kk rank p src else if src-d<k/\k<=src then kk rank p (k-1)else kk rank p k:=by
 have e:=getElem?_bubble hs d hd k;by_cases h1:k=src-d
 ·rw[if_pos h1]at e ⊢;exact Dw e
 ·rw[if_neg h1]at e ⊢;by_cases h2:src-d<k/\k<=src
  ·rw[if_pos h2]at e ⊢;exact Dw e
  ·rw[if_neg h2]at e ⊢;exact Dw e
theorem Hn:∀(f:Nat) (p:Array Nat) (k:Nat),k+f<=p.size->Fw rank p k->let r:=iU lt (kas_bin f p k);r.Perm p/\Fw rank r (k+f)
 |0,p,k,hz,h=>⟨Array.Perm.refl _,h⟩
 |f+1,p,k,hz,h=>by
  dsimp only;unfold kas_bin;rw[mv];have pl:=uO fu h k 0 k (bK _) (au _) (by omega) (λi a=>absurd a (Nat.not_lt_zero _)) (λi a b=>by omega)
  dsimp only at pl;generalize iU lt (kas_place p k k 0 k)=l at pl ⊢;obtain⟨h1,h2,h3⟩:=pl;have ks:k<p.size:=by omega
  have inc:Fw rank (bubble p k (k-l)) (k+1):=λi j zm hj=>by
   rw[Af fu ks (by omega),Af fu ks (by omega),show k-(k-l)=l by omega]
   by_cases hi:i=l
   ·rw[if_pos hi];by_cases UU:j=l
    ·rw[if_pos UU];exact Int.le_refl _
    ·rw[if_neg UU,if_pos (by omega)]
     exact Int.le_of_lt (h3 (j-1) (by omega) (by omega))
   ·rw[if_neg hi];by_cases ZA:l<i/\i<=k
    ·rw[if_pos ZA,if_neg (by omega),if_pos (by omega)]
     exact h (i-1) (j-1) (by omega) (by omega)
    ·rw[if_neg ZA];by_cases UU:j=l
     ·rw[if_pos UU];exact h2 i (by omega)
     ·rw[if_neg UU];by_cases RC:l<j/\j<=k
      ·rw[if_pos RC];exact h i (j-1) (by omega) (by omega)
      ·rw[if_neg RC];exact h i j zm (by omega)
  have ih:=Hn f (bubble p k (k-l)) (k+1) (by rw[bubble_size];omega) inc
  dsimp only at ih;exact⟨ih.1.trans (bubble_perm _ _ _),by rw[show k+(f+1)=k+1+f by omega];exact ih.2⟩
theorem xo (n:Nat) (h1:1<=n):let r:=iU lt (kas_sort n);r.Perm (List.toArray (List.range n))/\Fw rank r n:=by
 dsimp only;unfold kas_sort;rw[mv];have hz:(List.toArray (List.range n)).size=n:=by simp
 have c:=Jf fu (p:=List.toArray (List.range n)) h1 (by omega)
 dsimp only at c;generalize iU lt (kas_count n (List.toArray (List.range n)))=r at c ⊢;obtain⟨a,b,d,e⟩:=c;have sz:r.2.size=n:=a.size_eq.trans hz;by_cases UW:r.1<n
 ·rw[if_pos UW];have m:max r.1 1=r.1:=by omega
  rw[m];have bn:=Hn fu (n-r.1) r.2 r.1 (by omega) e
  dsimp only at bn;exact⟨bn.1.trans a,by have:=bn.2;rwa [show r.1+(n-r.1)=n by omega]at this⟩
 ·rw[if_neg UW];have:r.1=n:=by omega
  exact⟨a,by show Fw rank r.2 n;rw[<-this];exact e⟩
end
end So
namespace DL
open PySem PySem.Spec PyProof.Rows L2
inductive D where
 |eV|bl (b:Bool)|int (i:Int)|str (x:Str)|tup (ds:List D)|lst (ds:List D)
mutual
inductive Is (C:Hp):V->D->Prop where
 |eV:Is C .eV .eV
 |bl (b:Bool):Is C (.bl b) (.bl b)
 |int (i:Int):Is C (.int i) (.int i)
 |str (x:Str):Is C (.str x) (.str x)
 |tup {a:cE}{xs:List V}{ds:List D}:C a=some (.tup xs)->IsL C xs ds->Is C (.ref a) (.tup ds)
 |lst {a:cE}{xs:List V}{ds:List D}:Rd C a (.lst xs)->IsL C xs ds->Is C (.ref a) (.lst ds)
inductive IsL (C:Hp):List V->List D->Prop where
 |nil:IsL C [] []
 |cons {v:V}{d:D}{vs:List V}{ds:List D}:Is C v d->IsL C vs ds->IsL C (v::vs) (d::ds)
end
theorem _root_.L2.Rd.same (e:dM C C') (h:Rd C a u):Rd C' a u:=by
 rcases h with h|⟨o,h⟩
 ·exact .inl (e _ _ h)
 ·exact .inr ⟨o,e _ _ h⟩
mutual
theorem Is.mono {C C':Hp}(e:dM C C'):∀{v:V}{d:D},Is C v d->Is C' v d
 |_,_,.eV=>.eV
 |_,_,.bl b=>.bl b
 |_,_,.int i=>.int i
 |_,_,.str x=>.str x
 |_,_,.tup h l=>.tup (e _ _ h) (IsL.mono e l)
 |_,_,.lst h l=>.lst (h.same e) (IsL.mono e l)
theorem IsL.mono {C C':Hp}(e:dM C C'):∀{vs:List V}{ds:List D},IsL C vs ds->IsL C' vs ds
 |_,_,.nil=>.nil
 |_,_,.cons h t=>.cons (Is.mono e h) (IsL.mono e t)
end
section
variable {C:Hp}
theorem IsL.length:∀{vs:List V}{ds:List D},IsL C vs ds->vs.length=ds.length
 |_,_,.nil=>rfl
 |_,_,.cons _ t=>congrArg (·+1) (IsL.length t)
theorem IsL.get:∀{vs:List V}{ds:List D}{i:Nat}{d:D},IsL C vs ds->ds[i]? =some d->∃v,vs[i]? =some v/\Is C v d
 |_,_,_,_,.nil,e=>by simp at e
 |_,_,0,_,.cons h _,e=>by simp at e;subst e;exact⟨_,rfl,h⟩
 |_,_,i+1,_,.cons _ t,e=>by
  obtain⟨v,h1,h2⟩:=IsL.get (i:=i) t (by simpa using e)
  exact⟨v,by simpa using h1,h2⟩
theorem IsL.get':∀{vs:List V}{ds:List D}{i:Nat}{v:V},IsL C vs ds->vs[i]? =some v->∃d,ds[i]? =some d/\Is C v d
 |_,_,_,_,.nil,e=>by simp at e
 |_,_,0,_,.cons h _,e=>by simp at e;subst e;exact⟨_,rfl,h⟩
 |_,_,i+1,_,.cons _ t,e=>by
  obtain⟨v,h1,h2⟩:=IsL.get' (i:=i) t (by simpa using e)
  exact⟨v,by simpa using h1,h2⟩
theorem IsL.append:∀{vs ws:List V}{ds es:List D},IsL C vs ds->IsL C ws es->IsL C (vs++ws) (ds++es)
 |_,_,_,_,.nil,s=>s
 |_,_,_,_,.cons h t,s=>.cons h (IsL.append t s)
theorem IsL.take:∀{vs:List V}{ds:List D}(n:Nat),IsL C vs ds->IsL C (vs.take n) (ds.take n)
 |_,_,0,_=>.nil
 |_,_,_+1,.nil=>.nil
 |_,_,n+1,.cons h t=>.cons h (IsL.take n t)
theorem IsL.drop:∀{vs:List V}{ds:List D}(n:Nat),IsL C vs ds->IsL C (vs.drop n) (ds.drop n)
 |_,_,0,h=>h
 |_,_,_+1,.nil=>.nil
 |_,_,n+1,.cons _ t=>IsL.drop n t
theorem IsL.eraseIdx:∀{vs:List V}{ds:List D}(n:Nat),IsL C vs ds->IsL C (vs.eraseIdx n) (ds.eraseIdx n)
 |_,_,_,.nil=>.nil
 |_,_,0,.cons _ t=>t
 |_,_,n+1,.cons h t=>.cons h (IsL.eraseIdx n t)
theorem IsL.ints (ns:cn):IsL C (ns.map V.int) (ns.map D.int):=by
 induction ns with
 |nil=>exact .nil
 |cons n r ih=>exact .cons (.int n) ih
theorem IsL.l8:∀{ns:cn}{vs:List V},IsL C vs (ns.map D.int)->vs=ns.map V.int
 |[],_,.nil=>rfl
 |n::r,_,.cons (.int _) t=>by rw[IsL.l8 t];rfl
theorem IsL.Fy:∀{bs:List Bool}{vs:List V},IsL C vs (bs.map D.bl)->vs=bs.map V.bl
 |[],_,.nil=>rfl
 |n::r,_,.cons (.bl _) t=>by rw[IsL.Fy t];rfl
theorem IsL.one (h:Is C v d):IsL C [v] [d]:=.cons h .nil
end
structure l9 (C H C' H':Hp):Prop where
 c:dM C C'
 h:dM H H'
 s:dM C' H'
 n:∀a u,C' a=some u->C a=some u\/H a=none
theorem eA (h:H p=none):dM H (upd H p o):=λb u q=>by rw[cR (cX q h)];exact q
def E3:HO->Bool
 |.ext _=>true
 |.ins _ _ _=>true
 |.own _=>true
 |.dK _=>true
 |.yZ _ _=>true
 |_=>false
class Mem where
 cell:cp
 face:cp
 ok:Hp->Hp->Prop
 has:Hp->Hp->D->Prop
 rel:Hp->Hp->Hp->Hp->Prop
 of0:∀{C H C' H':Hp},l9 C H C' H'->rel C H C' H'
 trans:∀{C H C' H' C2 H2:Hp},rel C H C' H'->rel C' H' C2 H2->rel C H C2 H2
 chg:∀{C H C' H':Hp}{a:cE}{o:HO},rel C H C' H'->H a=none->rel C H C' (upd H' a o)
 give:∀{C H C' H':Hp}{a:cE}{o:HO},rel C H C' H'->C' a=none->H' a=some o->E3 o=false->rel C H (upd C' a o) H'
 RD:∀{C H C' H':Hp},rel C H C' H'->ok C H->ok C' H'
 Fz:∀{C H C' H':Hp}{k:D},rel C H C' H'->ok C H->has C H k->has C' H' k
 Qc:∀{C H:Hp}{a:cE}{o:HO},ok C H->(∀u,H a=some u->E3 u=false)->ok C (upd H a o)
 Dx:∀{C H:Hp}{a:cE}{o:HO}{k:D},ok C H->(∀u,H a=some u->E3 u=false)->has C H k->has C (upd H a o) k
 RE:∀{C H:Hp}{a:cE}{o:HO},ok C H->C a=none->H a=some o->E3 o=false->ok (upd C a o) H
 FA:∀{C H:Hp}{a:cE}{o:HO}{k:D},ok C H->C a=none->H a=some o->E3 o=false->has C H k->has (upd C a o) H k
@[reducible] noncomputable def Mem.keep:Mem where
 cell:=none
 face:=none
 ok:=λ_ _=>True
 has:=λ_ _ _=>False
 rel:=λ_ H _ H'=>dM H H'
 of0:=λe=>e.h
 trans:=λa b=>a.trans b
 chg:=λ{_ _ _ _ a o} r h b u q=>by rw[cR (cX q h)];exact r b u q
 give:=λr _ _ _=>r
 RD:=λ_ _=>trivial
 Fz:=λ_ _ h=>h
 Qc:=λ_ _=>trivial
 Dx:=λ_ _ h=>h
 RE:=λ_ _ _ _=>trivial
 FA:=λ_ _ _ _ h=>h
structure Ev [m:Mem] (C H C' H':Hp):Prop where
 c:dM C C'
 h:∀b o,H b=some o->(m.cell≠some b\/E3 o=false)->H' b=some o
 x:∀b o,H b=some o->m.cell=some b->E3 o=true->∃o',H' b=some o'/\E3 o'=true
 s:dM C' H'
 n:∀a u,C' a=some u->C a=some u\/H a=none
 r:m.rel C H C' H'
section
variable {C H C' H' C2 H2:Hp}
theorem l9.refl (s:dM C H):l9 C H C H:=⟨dM.refl _,dM.refl _,s,λ_ _ e=>.inl e⟩
theorem l9.trans (a:l9 C H C' H') (b:l9 C' H' C2 H2):l9 C H C2 H2:=
 ⟨a.c.trans b.c,a.h.trans b.h,b.s,λp u e=>(b.n p u e).elim (a.n p u) λz=>.inr (a.h.free z)⟩
theorem l9.new (s:dM C H) (h:H p=none):l9 C H (upd C p o) (upd H p o):=
 ⟨eA (s.free h),eA h,λb u q=>by
  by_cases e:b=p
  ·subst e;rw[cY]at q ⊢;exact q
  ·rw[cR e]at q ⊢;exact s b u q,λb u q=>by
  by_cases e:b=p
  ·subst e;exact .inr h
  ·rw[cR e]at q;exact .inl q⟩
theorem l9.fF (s:dM C H) (h:H p=none):l9 C H C (upd H p o):=
 ⟨dM.refl _,eA h,s.trans (eA h),λ_ _ e=>.inl e⟩
theorem Ev.r0 (e:@Ev Mem.keep C H C' H'):l9 C H C' H':=⟨@Ev.c Mem.keep _ _ _ _ e,@Ev.r Mem.keep _ _ _ _ e,@Ev.s Mem.keep _ _ _ _ e,@Ev.n Mem.keep _ _ _ _ e⟩
variable [Mem]
theorem l9.up (e:l9 C H C' H'):Ev C H C' H':=⟨e.c,λb o q _=>e.h b o q,λb o q _ x=>⟨o,e.h b o q,x⟩,e.s,e.n,Mem.of0 e⟩
theorem Ev.free (e:Ev C H C' H') (h:H' a=none):H a=none:=by
 cases q:H a with
 |none=>rfl
 |some o=>
  cases hx:E3 o with
  |false=>rw[e.h a o q (.inr hx)]at h;cases h
  |true=>
   by_cases hc:Mem.cell=some a
   ·obtain⟨o',h1,_⟩:=e.x a o q hc hx;rw[h1]at h;cases h
   ·rw[e.h a o q (.inl hc)]at h;cases h
theorem Ev.hh (e:Ev C H C' H') (h:H a=some o) (hx:E3 o=false:=by rfl):H' a=some o:=e.h a o h (.inr hx)
theorem Ev.refl (s:dM C H):Ev C H C H:=(l9.refl s).up
theorem Ev.trans (a:Ev C H C' H') (b:Ev C' H' C2 H2):Ev C H C2 H2:=
 ⟨a.c.trans b.c,λp o q x=>b.h p o (a.h p o q x) x,λp o q c x=>let ⟨o',h1,h2⟩:=a.x p o q c x;b.x p o' h1 c h2,b.s,λp u e=>(b.n p u e).elim (a.n p u) λz=>.inr (a.free z),Mem.trans a.r b.r⟩
theorem Ev.new (s:dM C H) (h:H p=none):Ev C H (upd C p o) (upd H p o):=(l9.new s h).up
theorem Ev.fF (s:dM C H) (h:H p=none):Ev C H C (upd H p o):=(l9.fF s h).up
theorem Ev.nn (a:Ev C H C' H') (h:C p=none) (h2:H p=some u):C' p=none:=by
 cases q:C' p with
 |none=>rfl
 |some o=>rcases a.n p o q with z|z<;>simp_all
theorem Ev.Dy (e:Ev C H C' H') (hn:H a=none) (hc:C' a=none) (o:HO):Ev C H C' (upd H' a o):=
 ⟨e.c,λb u q x=>by rw[cR (cX q hn)];exact e.h b u q x,λb u q c x=>by rw[cR (cX q hn)];exact e.x b u q c x,λb u q=>by rw[cR (cX q hc)];exact e.s b u q,e.n,Mem.chg e.r hn⟩
theorem Ev.Qd (e:Ev C H C' H') {a:cE}{o:HO}(hn:H a=none) (hc:C' a=none) (ho:H' a=some o) (hx:E3 o=false:=by rfl):Ev C H (upd C' a o) H':=
 ⟨e.c.trans (eA hc),e.h,e.x,λb u z=>by
   by_cases hb:b=a
   ·subst hb;rw[cY]at z;cases z;exact ho
   ·rw[cR hb]at z;exact e.s b u z,λb u z=>by
   by_cases hb:b=a
   ·subst hb;exact .inr hn
   ·rw[cR hb]at z;exact e.n b u z,Mem.give e.r hc ho hx⟩
end
inductive Sl where
 |no|dat (d:D)|own (ds:List D)|memo (ks:List D)
noncomputable abbrev fE:=List Sl
structure Sx [m:Mem] (δ:fE) (σ:L2.St) (C H:Hp):Prop where
 sub:dM C H
 dat:∀(i:Nat) (d:D),δ[i]? =some (.dat d)->∃v,σ[i]? =some (some v)/\Is C v d
 own:∀(i:Nat) (ds:List D),δ[i]? =some (.own ds)->∃(a:cE) (xs:List V),σ[i]? =some (some (.ref a))/\C a=none/\H a=some (.lst xs)/\IsL C xs ds
 zo:∀(i j:Nat) (ds es:List D) (a:cE),δ[i]? =some (.own ds)->δ[j]? =some (.own es)->σ[i]? =some (some (.ref a))->σ[j]? =some (some (.ref a))->i=j
 len:δ.length=σ.length
 mem:∀(i:Nat) (ks:List D),δ[i]? =some (.memo ks)->∃a:cE,m.face=some a/\σ[i]? =some (some (.ref a))/\m.ok C H/\∀k∈ks,m.has C H k
section
variable [Mem] {δ:fE}{σ:L2.St}{C H C' H':Hp}
theorem Sx.ev (x:Sx δ σ C H) (e:Ev C H C' H'):Sx δ σ C' H' where
 sub:=e.s
 dat:=λi d q=>let ⟨v,h1,h2⟩:=x.dat i d q;⟨v,h1,h2.mono e.c⟩
 own:=λi ds q=>let ⟨a,xs,h1,h2,h3,h4⟩:=x.own i ds q;⟨a,xs,h1,e.nn h2 h3,e.hh h3,h4.mono e.c⟩
 zo:=x.zo
 len:=x.len
 mem:=λi ks q=>let ⟨a,h1,h2,h3,h4⟩:=x.mem i ks q;⟨a,h1,h2,Mem.RD e.r h3,λk hk=>Mem.Fz e.r h3 (h4 k hk)⟩
omit [Mem] in
theorem getElem?_set_cases {α:Type}{l:List α}{i j:Nat}{a b:α}(h:(l.set i a)[j]? =some b):(j=i/\b=a)\/(j≠i/\l[j]? =some b):=by
 by_cases e:j=i
 ·subst e;by_cases hl:j<l.length
  ·rw[bc hl]at h;exact .inl ⟨rfl,(aS h).symm⟩
  ·have:(l.set j a)[j]? =none:=by simp;omega
   rw[this]at h;cases h
 ·rw[aG (Ne.symm e)]at h;exact .inr ⟨e,h⟩
omit [Mem] in
theorem FC {α:Type}{l:List α}{i:Nat}{a b:α}(h:(l.set i a)[i]? =some b):i<l.length:=by
 by_cases hl:i<l.length
 ·exact hl
 ·have:(l.set i a)[i]? =none:=by simp;omega
  rw[this]at h;cases h
theorem Sx.qm (x:Sx δ σ C H) {i:Nat}{v:V}{d:D}(h:Is C v d):Sx (δ.set i (.dat d)) (σ.set i (some v)) C H where
 sub:=x.sub
 dat:=λk d' q=>by
  rcases getElem?_set_cases q with⟨rfl,e⟩|⟨hk,e⟩
  ·cases e;have:=FC q;exact⟨v,by rw[bc (by rw[<-x.len];exact this)],h⟩
  ·obtain⟨v',h1,h2⟩:=x.dat k d' e;exact⟨v',by rw[aG (Ne.symm hk)];exact h1,h2⟩
 own:=λk ds q=>by
  rcases getElem?_set_cases q with⟨rfl,e⟩|⟨hk,e⟩
  ·cases e
  ·obtain⟨a,xs,h1,h2⟩:=x.own k ds e;exact⟨a,xs,by rw[aG (Ne.symm hk)];exact h1,h2⟩
 zo:=λk l ds es a q1 q2 q3 q4=>by
  rcases getElem?_set_cases q1 with⟨_,e1⟩|⟨hk,e1⟩
  ·cases e1
  rcases getElem?_set_cases q2 with⟨_,e2⟩|⟨hl,e2⟩
  ·cases e2
  rw[aG (Ne.symm hk)]at q3;rw[aG (Ne.symm hl)]at q4;exact x.zo k l ds es a e1 e2 q3 q4
 len:=by simp[x.len]
 mem:=λk ks q=>by
  rcases getElem?_set_cases q with⟨rfl,e⟩|⟨hk,e⟩
  ·cases e
  ·obtain⟨a,h1,h2,h3⟩:=x.mem k ks e;exact⟨a,h1,by rw[aG (Ne.symm hk)];exact h2,h3⟩
theorem Sx.BA (x:Sx δ σ C H) {i:Nat}{a:cE}{xs:List V}{ds:List D}(hc:C a=none) (hH:H a=some (.lst xs)) (hl:IsL C xs ds)
  (hn:∀(k:Nat) (es:List D),δ[k]? =some (.own es)->σ[k]? ≠some (some (.ref a))):Sx (δ.set i (.own ds)) (σ.set i (some (.ref a))) C H where
 sub:=x.sub
 dat:=λk d' q=>by
  rcases getElem?_set_cases q with⟨rfl,e⟩|⟨hk,e⟩
  ·cases e
  ·obtain⟨v',h1,h2⟩:=x.dat k d' e;exact⟨v',by rw[aG (Ne.symm hk)];exact h1,h2⟩
 own:=λk es q=>by
  rcases getElem?_set_cases q with⟨rfl,e⟩|⟨hk,e⟩
  ·cases e;have:=FC q;exact⟨a,xs,by rw[bc (by rw[<-x.len];exact this)],hc,hH,hl⟩
  ·obtain⟨b,ys,h1,h2⟩:=x.own k es e;exact⟨b,ys,by rw[aG (Ne.symm hk)];exact h1,h2⟩
 zo:=λk l Ho es b q1 q2 q3 q4=>by
  rcases getElem?_set_cases q1 with⟨hk,e1⟩|⟨hk,e1⟩
  ·rcases getElem?_set_cases q2 with⟨iq,e2⟩|⟨iq,e2⟩
   ·rw[hk,iq]
   ·subst hk;have e3:=getElem?_set_cases q3;rcases e3 with⟨_,e3⟩|⟨z,_⟩
    ·cases e3;rw[aG (Ne.symm iq)]at q4;exact absurd q4 (hn l es e2)
    ·exact absurd rfl z
  ·rcases getElem?_set_cases q2 with⟨iq,e2⟩|⟨iq,e2⟩
   ·subst iq;rcases getElem?_set_cases q4 with⟨_,e4⟩|⟨z,_⟩
    ·cases e4;rw[aG (Ne.symm hk)]at q3;exact absurd q3 (hn k Ho e1)
    ·exact absurd rfl z
   ·rw[aG (Ne.symm hk)]at q3;rw[aG (Ne.symm iq)]at q4;exact x.zo k l Ho es b e1 e2 q3 q4
 len:=by simp[x.len]
 mem:=λk ks q=>by
  rcases getElem?_set_cases q with⟨rfl,e⟩|⟨hk,e⟩
  ·cases e
  ·obtain⟨a,h1,h2,h3⟩:=x.mem k ks e;exact⟨a,h1,by rw[aG (Ne.symm hk)];exact h2,h3⟩
theorem Sx.mut (x:Sx δ σ C H) {i:Nat}{a:cE}{ys:List V}{ds es:List D}(hi:δ[i]? =some (.own ds)) (ha:σ[i]? =some (some (.ref a))) (hl:IsL C ys es):
  Sx (δ.set i (.own es)) σ C (upd H a (.lst ys))where
 sub:=λb u q=>by
  obtain⟨a',xs,h1,h2,_⟩:=x.own i ds hi;rw[ha]at h1;cases h1;have:b≠a:=λz=>by rw[z,h2]at q;cases q
  rw[cR this];exact x.sub b u q
 dat:=λk d' q=>by
  rcases getElem?_set_cases q with⟨rfl,e⟩|⟨hk,e⟩
  ·cases e
  ·exact x.dat k d' e
 own:=λk fs q=>by
  obtain⟨a',xs,h1,h2,_⟩:=x.own i ds hi;rw[ha]at h1;cases h1;rcases getElem?_set_cases q with⟨rfl,e⟩|⟨hk,e⟩
  ·cases e;exact⟨a,ys,ha,h2,cY,hl⟩
  ·obtain⟨b,zs,FD,Jg,Lg,Oj⟩:=x.own k fs e;have:b≠a:=λz=>by subst z;exact hk (x.zo k i fs ds b e hi FD ha)
   exact⟨b,zs,FD,Jg,by rw[cR this];exact Lg,Oj⟩
 zo:=λk l Ho Ku b q1 q2 q3 q4=>by
  have Lh:∀{k:Nat}{Ku:List D},(δ.set i (Sl.own es))[k]? =some (.own Ku)->∃fs,δ[k]? =some (.own fs):=λ{k Ku} q=>by
   rcases getElem?_set_cases q with⟨rfl,e⟩|⟨hk,e⟩
   ·exact⟨ds,hi⟩
   ·exact⟨_,e⟩
  obtain⟨f1,e1⟩:=Lh q1;obtain⟨f2,e2⟩:=Lh q2;exact x.zo k l f1 f2 b e1 e2 q3 q4
 len:=by simp[x.len]
 mem:=λk ks q=>by
  obtain⟨a',xs,h1,h2,h3,_⟩:=x.own i ds hi;rw[ha]at h1;cases h1;have hx:∀u,H a=some u->E3 u=false:=λu q=>by rw[h3]at q;cases q;rfl
  rcases getElem?_set_cases q with⟨rfl,e⟩|⟨hk,e⟩
  ·cases e
  ·obtain⟨b,h1,h2,h3,h4⟩:=x.mem k ks e;exact⟨b,h1,h2,Mem.Qc h3 hx,λk hk=>Mem.Dx h3 hx (h4 k hk)⟩
theorem Sx.give (x:Sx δ σ C H) {i:Nat}{a:cE}{xs:List V}{ds:List D}(hi:δ[i]? =some (.own ds)) (ha:σ[i]? =some (some (.ref a))) (hH:H a=some (.lst xs)) (hl:IsL C xs ds):
  Sx (δ.set i (.dat (.lst ds))) σ (upd C a (.lst xs)) H:=by
 obtain⟨a',xs',h1,h2,h3,_⟩:=x.own i ds hi;rw[ha]at h1;cases h1;have sc:dM C (upd C a (.lst xs)):=eA h2;exact {
  sub:=λb u q=>by
   by_cases e:b=a
   ·subst e;rw[cY]at q;cases q;exact hH
   ·rw[cR e]at q;exact x.sub b u q
  dat:=λk d' q=>by
   rcases getElem?_set_cases q with⟨rfl,e⟩|⟨hk,e⟩
   ·cases e;exact⟨_,ha,.lst (.inl cY) (hl.mono sc)⟩
   ·obtain⟨v,q1,q2⟩:=x.dat k d' e;exact⟨v,q1,q2.mono sc⟩
  own:=λk fs q=>by
   rcases getElem?_set_cases q with⟨rfl,e⟩|⟨hk,e⟩
   ·cases e
   ·obtain⟨b,zs,FD,Jg,Lg,Oj⟩:=x.own k fs e;have:b≠a:=λz=>by subst z;exact hk (x.zo k i fs ds b e hi FD ha)
    exact⟨b,zs,FD,by rw[cR this];exact Jg,Lg,Oj.mono sc⟩
  zo:=λk l Ho Ku b q1 q2 q3 q4=>by
   rcases getElem?_set_cases q1 with⟨_,e1⟩|⟨_,e1⟩
   ·cases e1
   rcases getElem?_set_cases q2 with⟨_,e2⟩|⟨_,e2⟩
   ·cases e2
   exact x.zo k l Ho Ku b e1 e2 q3 q4
  len:=by simp[x.len]
  mem:=λk ks q=>by
   rcases getElem?_set_cases q with⟨rfl,e⟩|⟨hk,e⟩
   ·cases e
   ·obtain⟨b,h1,Jg,h3,h4⟩:=x.mem k ks e;exact⟨b,h1,Jg,Mem.RE h3 h2 hH rfl,λk hk=>Mem.FA h3 h2 hH rfl (h4 k hk)⟩}
end
variable [Mem]
def qa (C H:Hp) (v:V) (d:D):Prop:=Is C v d\/∃a xs ds,v=.ref a/\d=.lst ds/\C a=none/\H a=some (.lst xs)/\IsL C xs ds
noncomputable def tD (f:fE->Option D):TE:=λσ H Q=>∃C δ d,Sx δ σ C H/\f δ=some d/\∀v C' H',Ev C H C' H'->Is C' v d->Q v H'
noncomputable def tO (f:fE->Option D):TE:=λσ H Q=>∃C δ d,Sx δ σ C H/\f δ=some d/\∀v C' H',Ev C H C' H'->qa C' H' v d->Q v H'
noncomputable def tF (f:fE->Option (List D)):TE:=λσ H Q=>∃C δ ds,Sx δ σ C H/\f δ=some ds/\∀a xs C' H',Ev C H C' H'->H a=none->C' a=none->H' a=some (.lst xs)->IsL C' xs ds->Q (.ref a) H'
noncomputable def tQ (f:fE->Option Bool):TT:=λσ H Q=>∃C δ b,Sx δ σ C H/\f δ=some b/\∀C' H',Ev C H C' H'->Q b H'
noncomputable def WC (f:fE->Option (List D)):TA:=λσ H Q=>∃C δ ds,Sx δ σ C H/\f δ=some ds/\∀vs C' H',Ev C H C' H'->IsL C' vs ds->Q vs H'
abbrev PD (X:Cx) (e:cF) (f:fE->Option D):Prop:=PE X e (tD f)
abbrev PO (X:Cx) (e:cF) (f:fE->Option D):Prop:=PE X e (tO f)
abbrev PF (X:Cx) (e:cF) (f:fE->Option (List D)):Prop:=PE X e (tF f)
abbrev PQ (X:Cx) (e:cF) (f:fE->Option Bool):Prop:=PT X e (tQ f)
abbrev Qe (X:Cx) (es:List cF) (f:fE->Option (List D)):Prop:=PA X es (WC f)
omit [Mem] in
theorem _root_.L2.PE.imp (h:PE X e t) (m:∀σ H Q,t' σ H Q->t σ H Q):PE X e t':=λcM s σ H Q I q=>h cM s σ H Q I (m σ H Q q)
omit [Mem] in
theorem _root_.L2.PT.imp (h:PT X e t) (m:∀σ H Q,t' σ H Q->t σ H Q):PT X e t':=λcM s σ H Q I q=>h cM s σ H Q I (m σ H Q q)
omit [Mem] in
theorem _root_.L2.PW.imp (h:PW X e t) (m:∀σ H Q,t' σ H Q->t σ H Q):PW X e t':=λwhole cM s σ H Q I q=>h whole cM s σ H Q I (m σ H Q q)
omit [Mem] in
theorem _root_.L2.PA.imp (h:PA X es t) (m:∀σ H Q,t' σ H Q->t σ H Q):PA X es t':=λpos cM s σ H Q I q=>h pos cM s σ H Q I (m σ H Q q)
omit [Mem] in
theorem _root_.L2.PS.imp {X:Cx}{st:cI}{t t':TS}(h:PS X st t) (m:∀Dn σ H,t' Dn σ H->t Dn σ H):PS X st t':=λcM s σ H Dn I q=>h cM s σ H Dn I (m Dn σ H q)
omit [Mem] in
theorem _root_.L2.zf.imp {X:Cx}{st:List cI}{t t':TS}(h:zf X st t) (m:∀Dn σ H,t' Dn σ H->t Dn σ H):zf X st t':=λcM s σ H Dn I q=>h cM s σ H Dn I (m Dn σ H q)
section
variable {X:Cx}{e a b c:cF}{pos:Pos}
theorem PD.o (h:PD X e f):PO X e f:=h.imp λσ H Q ⟨C,δ,d,x,q,k⟩=>⟨C,δ,d,x,q,λv C' H' ev i=>k v C' H' ev (.inl i)⟩
noncomputable def dL (f:fE->Option (List D)):fE->Option D:=λδ=>(f δ).map D.lst
theorem PF.d (h:PF X e f):PD X e (dL f):=h.imp λσ H Q ⟨C,δ,d,x,q,k⟩=>by
 unfold dL at q;cases hf:f δ with
 |none=>rw[hf]at q;cases q
 |some ds=>
  rw[hf]at q;have q':d=.lst ds:=(aS q).symm;subst q';exact⟨C,δ,ds,x,hf,λa xs C' H' ev h1 h2 h3 h4=>k (.ref a) (upd C' a (.lst xs)) H' (ev.Qd h1 h2 h3) (.lst (.inl cY) (h4.mono (eA h2)))⟩
noncomputable def cO (i:Nat):fE->Option D:=λδ=>match δ[i]? with|some (.dat d)=>some d|_=>none
noncomputable def dk (i:Nat):fE->Option D:=λδ=>match δ[i]? with|some (.dat d)=>some d|some (.own ds)=>some (.lst ds)|_=>none
noncomputable def dC (d:D):fE->Option D:=λ_=>some d
theorem Jh (h:PE X e (gX i)):PD X e (cO i):=h.imp λσ H Q ⟨C,δ,d,x,q,k⟩=>by
 unfold cO at q;split at q
 ·rename_i d' hd;cases q;obtain⟨v,h1,h2⟩:=x.dat i _ hd;exact⟨v,h1,k v C H (.refl x.sub) h2⟩
 ·cases q
theorem Ji (h:PE X e (gX i)):PO X e (dk i):=h.imp λσ H Q ⟨C,δ,d,x,q,k⟩=>by
 unfold dk at q;split at q
 ·rename_i d' hd;cases q;obtain⟨v,h1,h2⟩:=x.dat i _ hd;exact⟨v,h1,k v C H (.refl x.sub) (.inl h2)⟩
 ·rename_i ds hd;cases q;obtain⟨a,xs,h1,h2,h3,h4⟩:=x.own i _ hd;exact⟨_,h1,k _ C H (.refl x.sub) (.inr ⟨a,xs,ds,rfl,rfl,h2,h3,h4⟩)⟩
 ·cases q
theorem wI (h:PE X e (tC v)) (hd:∀C,Is C v d):PD X e (dC d):=h.imp λσ H Q ⟨C,δ,d',x,q,k⟩=>by
 cases q;exact k v C H (.refl x.sub) (hd C)
def Qf (r:R2) (op:D->D->Option D):Prop:=∀C H x y dx dy d Q,dM C H->qa C H x dx->qa C H y dy->op dx dy=some d->(∀v C' H',l9 C H C' H'->Is C' v d->Q v H')->r x y H Q
def XR (r:R2) (op:D->D->Option (List D)):Prop:=∀C H x y dx dy ds Q,dM C H->qa C H x dx->qa C H y dy->op dx dy=some ds->(∀a xs C' H',l9 C H C' H'->H a=none->C' a=none->H' a=some (.lst xs)->IsL C' xs ds->Q (.ref a) H')->r x y H Q
noncomputable def du {α:Type}(op:D->D->Option α) (f g:fE->Option D):fE->Option α:=λδ=>(f δ).bind λx=>(g δ).bind λy=>op x y
theorem qa.ev (h:qa C H v d) (e:Ev C H C' H'):qa C' H' v d:=by
 rcases h with h|⟨a,xs,ds,h1,h2,h3,h4,h5⟩
 ·exact .inl (h.mono e.c)
 ·exact .inr ⟨a,xs,ds,h1,h2,e.nn h3 h4,e.hh h4,h5.mono e.c⟩
theorem Hq (hd:Qf r op):∀σ H Q,tD (du op f g) σ H Q->Ti r (tO f) (tO g) σ H Q:=λσ H Q ⟨C,δ,d,x,q,k⟩=>by
 unfold du at q;cases hf:f δ with
 |none=>rw[hf]at q;cases q
 |some dx=>
  cases hg:g δ with
  |none=>rw[hf,hg]at q;cases q
  |some dy=>
   rw[hf,hg]at q;refine⟨C,δ,dx,x,hf,λv C1 H1 e1 i1=>⟨C1,δ,dy,x.ev e1,hg,λu C2 H2 e2 i2=>hd C2 H2 v u dx dy d Q e2.s (i1.ev e2) i2 q λw C3 H3 e3 i3=>k w C3 H3 ((e1.trans e2).trans e3.up) i3⟩⟩
theorem UX (hd:XR r op):∀σ H Q,tF (du op f g) σ H Q->Ti r (tO f) (tO g) σ H Q:=λσ H Q ⟨C,δ,d,x,q,k⟩=>by
 unfold du at q;cases hf:f δ with
 |none=>rw[hf]at q;cases q
 |some dx=>
  cases hg:g δ with
  |none=>rw[hf,hg]at q;cases q
  |some dy=>
   rw[hf,hg]at q;refine⟨C,δ,dx,x,hf,λv C1 H1 e1 i1=>⟨C1,δ,dy,x.ev e1,hg,λu C2 H2 e2 i2=>hd C2 H2 v u dx dy d Q e2.s (i1.ev e2) i2 q λa xs C3 H3 e3 h3=>k a xs C3 H3 ((e1.trans e2).trans e3.up) ((e1.trans e2).free h3)⟩⟩
theorem tG (ho:rY X (binaryOp op) r) (hd:Qf r o) (ha:PO X a f) (hb:PO X b g):PD X (.BinOp a op b pos) (du o f g):=(KG ho ha hb).imp (Hq hd)
theorem UY (ho:rY X (binaryOp op) r) (hd:XR r o) (ha:PO X a f) (hb:PO X b g):PF X (.BinOp a op b pos) (du o f g):=(KG ho ha hb).imp (UX hd)
theorem UZ (ho:KU X r) (hd:Qf r o) (ha:PO X a f) (hb:PO X b g) (hs:oQ b):PD X (.Subscript a b pos) (du o f g):=(KW ho ha hb hs).imp (Hq hd)
noncomputable def oI (g:Int->Int->D):D->D->Option D
 |.int i,.int j=>some (g i j)
 |_,_=>none
noncomputable def FE (c:Int->Int->Bool) (g:Int->Int->D):D->D->Option D
 |.int i,.int j=>if c i j=true then some (g i j)else none
 |_,_=>none
theorem qa.int (h:qa C H v (.int i)):v=.int i:=by
 rcases h with h|⟨_,_,_,_,z,_⟩
 ·cases h;rfl
 ·cases z
theorem qa.is (h:qa C H v d) (hd:∀ds,d≠.lst ds):Is C v d:=by
 rcases h with h|⟨_,_,ds,_,z,_⟩
 ·exact h
 ·exact absurd z (hd ds)
theorem Jj (h:∀C i j,Is C (gV i j) (g i j)):Qf (NA gV) (oI g):=λC H x y dx dy d Q s ix iy q k=>by
 unfold oI at q;split at q
 ·rename_i i j;cases q;exact⟨i,j,ix.int,iy.int,k _ C H (.refl s) (h C i j)⟩
 ·cases q
theorem Dz {P:Int->Int->Prop}{c:Int->Int->Bool}{gV:Int->Int->V}{g:Int->Int->D}(hc:∀i j,c i j=true->P i j) (h:∀C i j,Is C (gV i j) (g i j)):Qf (rI P gV) (FE c g):=λC H x y dx dy d Q s ix iy q k=>by
 unfold FE at q;split at q
 ·rename_i i j;split at q
  ·rename_i P1;cases q;exact⟨i,j,ix.int,iy.int,hc i j P1,k _ C H (.refl s) (h C i j)⟩
  ·cases q
 ·cases q
def jt:=oI λi j=>.int (i+j)
def sI:=oI λi j=>.int (i-j)
noncomputable def Li (i j:Int):Bool:=(decide (-(2^64)<i)&&decide (i<2^64))||(decide (-(2^64)<j)&&decide (j<2^64))
def zp:=FE Li λi j=>.int (i*j)
noncomputable def RF (_ j:Int):Bool:=decide (0<j)&&decide (j<1073741824)
def Ol:=FE RF λi j=>.int (i/j)
noncomputable def FF (_ j:Int):Bool:=decide (0<j)
def BB:=FE FF λi j=>.int (i%j)
def RG:=oI λi j=>.bl (decide (i<=j))
def Om:=oI λi j=>.bl (decide (j<i))
def XS:=oI λi j=>.bl (decide (j<=i))
def xp (X:Cx) (op:CmpOp) (o:D->D->Option D):Prop:=∃r,rY X (compareOp op) r/\Qf r o
theorem U0:xp X .LtE RG:=⟨_,Um,Jj λ_ _ _=>.bl _⟩
theorem RH:xp X .Gt Om:=⟨_,Uo,Jj λ_ _ _=>.bl _⟩
theorem XT:xp X .GtE XS:=⟨_,Up,Jj λ_ _ _=>.bl _⟩
noncomputable def qB (f:fE->Option D):fE->Option Bool:=λδ=>match f δ with|some (.bl b)=>some b|_=>none
theorem XU {f:fE->Option D}{δ:fE}{b:Bool}(h:qB f δ=some b):f δ=some (.bl b):=by
 unfold qB at h;split at h
 ·rename_i e;cases h;exact e
 ·cases h
theorem Qg {t:TE}{f:fE->Option D}(h:∀σ H Q,tD f σ H Q->t σ H Q):∀σ H Q,tQ (qB f) σ H Q->t σ H λx H1=>∃c,x=.bl c/\Q c H1:=λσ H Q ⟨C,δ,b,x,q,k⟩=>
 h σ H _ ⟨C,δ,.bl b,x,XU q,λv C' H' ev i=>by cases i;exact⟨b,rfl,k C' H' ev⟩⟩
noncomputable def pY (f g:fE->Option Bool):fE->Option Bool:=λδ=>match f δ with|some true=>g δ|some false=>some false|none=>none
noncomputable def Oo (f g:fE->Option Bool):fE->Option Bool:=λδ=>match f δ with|some true=>some true|some false=>g δ|none=>none
noncomputable def qo (f:fE->Option Bool):fE->Option Bool:=λδ=>(f δ).map not
abbrev PQW (X:Cx) (e:cF) (f:fE->Option Bool):Prop:=PW X e (tQ f)
theorem RI:∀σ H Q,tQ (pY f g) σ H Q->TR (tQ f) (tQ g) σ H Q:=λσ H Q ⟨C,δ,b,x,q,k⟩=>by
 unfold pY at q;split at q
 ·rename_i hf;exact⟨C,δ,true,x,hf,λC' H' ev=>Bu ⟨C',δ,b,x.ev ev,q,λC2 H2 e2=>k C2 H2 (ev.trans e2)⟩⟩
 ·rename_i hf;cases q;exact⟨C,δ,false,x,hf,λC' H' ev=>Dq (k C' H' ev)⟩
 ·cases q
theorem U1:∀σ H Q,tQ (Oo f g) σ H Q->Zj (tQ f) (tQ g) σ H Q:=λσ H Q ⟨C,δ,b,x,q,k⟩=>by
 unfold Oo at q;split at q
 ·rename_i hf;cases q;exact⟨C,δ,true,x,hf,λC' H' ev=>Bu (k C' H' ev)⟩
 ·rename_i hf;exact⟨C,δ,false,x,hf,λC' H' ev=>Dq ⟨C',δ,b,x.ev ev,q,λC2 H2 e2=>k C2 H2 (ev.trans e2)⟩⟩
 ·cases q
noncomputable def Lj (f g:fE->Option D):fE->Option D:=λδ=>match f δ with|some (.bl true)=>g δ|some (.bl false)=>some (.bl false)|_=>none
noncomputable def Tq (c:fE->Option Bool) (f g:fE->Option D):fE->Option D:=λδ=>match c δ with|some true=>f δ|some false=>g δ|none=>none
end
noncomputable def isStar:cF->Bool
 |.Starred _ _=>true
 |_=>false
theorem fH {e:cF}{es:List cF}{env:Env}(h:isStar e=false):starEach (e::es) env=(false,eval e env)::starEach es env:=by
 cases e<;>first|(cases h;done)|(rw[starEach];intro _ _ z;cases z)
def noStar (es:List cF):Bool:=es.all λe=> !isStar e
theorem gh:∀{es:List cF},noStar es=true->(backTo pos (starEach es env)).any (·.1)=false
 |[],_=>rfl
 |e::es,h=>by
  unfold noStar at h;rw[List.all_cons,Bool.and_eq_true]at h;rw[fH (by simpa using h.1)]
  unfold backTo;rw[aF,bF];have:=gh (pos:=pos) (env:=env) (es:=es) h.2;unfold backTo at this;rw[this];rfl
theorem U2 (h:isStar e=false):((backTo pos (starEach [e] env)).all (λx=> !x.1)&&(backToKw pos (keywordEach [] env)).all (λx=>x.1.isSome)
   &&decide ([e].length+([]:List Keyword).length+(if([]:List Keyword).isEmpty then 0 else 1)<30))=true:=by
 rw[fH h];rfl
section
variable {X:Cx}{e:cF}{es:List cF}{pos p:Pos}{x:Str}
noncomputable def aY:fE->Option (List D):=λ_=>some []
noncomputable def aO (f:fE->Option D) (g:fE->Option (List D)):fE->Option (List D):=λδ=>(f δ).bind λd=>(g δ).map λds=>d::ds
theorem wJ:Qe X [] aY:=(uJ (X:=X)).imp λσ H Q ⟨C,δ,ds,x,q,k⟩=>by cases q;exact k [] C H (.refl x.sub) .nil
theorem tH (ha:PD X e f) (hr:Qe X es g) (hs:cL e es X.env:=by exact fH rfl):Qe X (e::es) (aO f g):=(nh ha hr hs).imp λσ H Q ⟨C,δ,ds,x,q,k⟩=>by
 unfold aO at q;cases hf:f δ with
 |none=>rw[hf]at q;cases q
 |some d=>
  cases hg:g δ with
  |none=>rw[hf,hg]at q;cases q
  |some r=>
   rw[hf,hg]at q;cases q;exact⟨C,δ,d,x,hf,λv C1 H1 e1 i1=>⟨C1,δ,r,x.ev e1,hg,λvs C2 H2 e2 i2=>k _ C2 H2 (e1.trans e2) (.cons (i1.mono e2.c) i2)⟩⟩
inductive zq (C H:Hp):List V->List D->Prop where
 |nil:zq C H [] []
 |cons {v:V}{d:D}{vs:List V}{ds:List D}:qa C H v d->zq C H vs ds->zq C H (v::vs) (d::ds)
noncomputable def XW (f:fE->Option (List D)):TA:=λσ H Q=>∃C δ ds,Sx δ σ C H/\f δ=some ds/\∀vs C' H',Ev C H C' H'->zq C' H' vs ds->Q vs H'
abbrev PAO (X:Cx) (es:List cF) (f:fE->Option (List D)):Prop:=PA X es (XW f)
noncomputable def eT (f:fE->Option (List D)):fE->Option D:=λδ=>(f δ).bind λds=>if ds.length<=1000 then some (.tup ds)else none
noncomputable def zr (f:fE->Option (List D)):fE->Option (List D):=λδ=>(f δ).bind λds=>if ds.length<=1000 then some ds else none
noncomputable def rj (g:List D->Option D):Sp:=λvs H Q _=>∃C ds d,dM C H/\IsL C vs ds/\g ds=some d/\∀v C' H',l9 C H C' H'->Is C' v d->Q v H'
noncomputable def cN (g:List D->Option D) (f:fE->Option (List D)):fE->Option D:=λδ=>(f δ).bind g
theorem Oq:∀σ H Q,tD (cN g f) σ H Q->P5 (rj g) [] E (WC f) σ H Q:=λσ H Q ⟨C,δ,d,x,q,k⟩=>by
 unfold cN at q;cases hf:f δ with
 |none=>rw[hf]at q;cases q
 |some ds=>
  rw[hf]at q;exact⟨C,δ,ds,x,hf,λvs C1 H1 e1 i1=>⟨C1,ds,d,e1.s,by rw[bB];exact i1,q,λv C2 H2 e2 i2=>k v C2 H2 (e1.trans e2.up) i2⟩⟩
theorem Ot (F:dY X.prog X.w X.K X.mg X.base gY k f fd ps (rj g)) (hr:fm k X.A) (hg:Gl X x) (hm:X.mg x=some (.ref f)) (hk:W.keepIn X.K (.ref f)=true) (hb:Binds X.K fd ps []) (ha:Qe X (e::es) fa) (rV:(x==("__debug__":Str))=false:=by decide) (he:cL e es X.env:=by exact fH rfl) (kf:(backTo pos (starEach es X.env)).any (·.1)=false:=by exact gh rfl):PD X (.Call (.Name x p) (e::es) [] pos) (cN g fa):=(Bm F hr hg hm hk hb .nil vP ha rV he kf).imp Oq
def CD (r:List V->Hp->VK->Prop) (g:List D->Option D):Prop:=∀C H vs ds d Q,dM C H->zq C H vs ds->g ds=some d->(∀v C' H',l9 C H C' H'->Is C' v d->Q v H')->r vs H Q
def CF (r:List V->Hp->VK->Prop) (g:List D->Option (List D)):Prop:=∀C H vs ds d Q,dM C H->zq C H vs ds->g ds=some d->(∀a xs C' H',l9 C H C' H'->H a=none->C' a=none->H' a=some (.lst xs)->IsL C' xs d->Q (.ref a) H')->r vs H Q
def vR (X:Cx) (f:cx) (g:List D->Option D):Prop:=∃r,i8 X f r/\CD r g
def Hr (X:Cx) (f:cx) (g:List D->Option (List D)):Prop:=∃r,i8 X f r/\CF r g
noncomputable def iz (g:List D->Option (List D)) (f:fE->Option (List D)):fE->Option (List D):=λδ=>(f δ).bind g
theorem Qh (hd:CD r g):∀σ H Q,tD (cN g f) σ H Q->Wr r (XW f) σ H Q:=λσ H Q ⟨C,δ,d,x,q,k⟩=>by
 unfold cN at q;cases hf:f δ with
 |none=>rw[hf]at q;cases q
 |some ds=>
  rw[hf]at q;exact⟨C,δ,ds,x,hf,λvs C1 H1 e1 i1=>hd C1 H1 vs ds d Q e1.s i1 q λv C2 H2 e2 i2=>k v C2 H2 (e1.trans e2.up) i2⟩
theorem U3 (hd:CF r g):∀σ H Q,tF (iz g f) σ H Q->Wr r (XW f) σ H Q:=λσ H Q ⟨C,δ,d,x,q,k⟩=>by
 unfold iz at q;cases hf:f δ with
 |none=>rw[hf]at q;cases q
 |some ds=>
  rw[hf]at q;exact⟨C,δ,ds,x,hf,λvs C1 H1 e1 i1=>hd C1 H1 vs ds d Q e1.s i1 q λa xs C2 H2 e2 h2=>k a xs C2 H2 (e1.trans e2.up) (e1.free h2)⟩
end
end DL
namespace DL
open PySem PySem.Spec PyProof.Rows L2
variable [Mem]
structure Gd (B C0 H0:Hp) (δ:fE) (σ:L2.St) (C H:Hp):Prop where
 b:dM B C
 ev:Ev C0 H0 C H
 x:Sx δ σ C H
 fr:∀(i:Nat) (ds:List D) (a:cE),δ[i]? =some (.own ds)->σ[i]? =some (some (.ref a))->H0 a=none
inductive R where
 |next (δ:fE)|ret (d:D)|brk (δ:fE)|cont (δ:fE)
abbrev _root_.bX:=fE->Option (List D)
abbrev _root_.bY:=fE->Option R
abbrev _root_.bZ:=fE->Option D
abbrev _root_.cb:=fE->Option Bool
noncomputable abbrev _root_.cc:=List D->Option D
noncomputable abbrev _root_.cu:=List D
noncomputable def Fi (B C0 H0:Hp) (Dn:Ends):R->Prop
 |.next δ=>∀σ C H,Gd B C0 H0 δ σ C H->Dn.nx σ H
 |.ret d=>∀v C H,Ev C0 H0 C H->Is C v d->Dn.rt v H
 |.brk δ=>∀σ C H,Gd B C0 H0 δ σ C H->Dn.bk σ H
 |.cont δ=>∀σ C H,Gd B C0 H0 δ σ C H->Dn.ct σ H
def tS (B C0 H0:Hp) (f:bY):TS:=λDn σ H=>∃C δ r,Gd B C0 H0 δ σ C H/\f δ=some r/\Fi B C0 H0 Dn r
def PB (X:Cx) (C0 H0:Hp) (st:cI) (f:bY):Prop:=∀B,PS X st (tS B C0 H0 f)
def Jk (X:Cx) (C0 H0:Hp) (st:List cI) (f:bY):Prop:=∀B,zf X st (tS B C0 H0 f)
section
variable {B C0 H0 C H C' H':Hp}{δ:fE}{σ:L2.St}
theorem Gd.DA (g:Gd B C0 H0 δ σ C H) (e:Ev C H C' H'):Gd B C0 H0 δ σ C' H':=⟨g.b.trans e.c,g.ev.trans e,g.x.ev e,g.fr⟩
theorem Gd.qm (g:Gd B C0 H0 δ σ C H) (h:Is C v d):Gd B C0 H0 (δ.set i (.dat d)) (σ.set i (some v)) C H:=
 ⟨g.b,g.ev,g.x.qm h,λk ds a q1 q2=>by
  rcases getElem?_set_cases q1 with⟨_,e⟩|⟨hk,e⟩
  ·cases e
  ·rw[aG (Ne.symm hk)]at q2;exact g.fr k ds a e q2⟩
theorem Gd.BA (g:Gd B C0 H0 δ σ C H) (e:Ev C H C' H') (hn:H a=none) (hc:C' a=none) (hH:H' a=some (.lst xs)) (hl:IsL C' xs ds):Gd B C0 H0 (δ.set i (.own ds)) (σ.set i (some (.ref a))) C' H':=
 ⟨g.b.trans e.c,g.ev.trans e,(g.x.ev e).BA hc hH hl (λk es q z=>by
   obtain⟨b,ys,h1,h2,h3,_⟩:=g.x.own k es q;rw[z]at h1;cases h1;rw[hn]at h3;cases h3),
  λk es b q1 q2=>by
   rcases getElem?_set_cases q1 with⟨rfl,e1⟩|⟨hk,e1⟩
   ·rcases getElem?_set_cases q2 with⟨_,e2⟩|⟨z,_⟩
    ·cases e2;exact g.ev.free hn
    ·exact absurd rfl z
   ·rw[aG (Ne.symm hk)]at q2;exact g.fr k es b e1 q2⟩
theorem Gd.mut (g:Gd B C0 H0 δ σ C H) (hi:δ[i]? =some (.own ds)) (ha:σ[i]? =some (some (.ref a))) (hl:IsL C ys es):Gd B C0 H0 (δ.set i (.own es)) σ C (upd H a (.lst ys)):=by
 obtain⟨a',xs,h1,h2,h3,_⟩:=g.x.own i ds hi;rw[ha]at h1;cases h1;refine⟨g.b,g.ev.Dy (g.fr i ds a hi ha) h2 _,g.x.mut hi ha hl,λk fs b q1 q2=>?_⟩
 rcases getElem?_set_cases q1 with⟨rfl,e1⟩|⟨hk,e1⟩
 ·exact g.fr k ds b hi q2
 ·exact g.fr k fs b e1 q2
noncomputable def uP (i:Nat) (δ:fE):fE:=match δ[i]? with|some (.own ds)=>δ.set i (.dat (.lst ds))|_=>δ
theorem Gd.give (g:Gd B C0 H0 δ σ C H) (i:Nat):∃C',Gd B C0 H0 (uP i δ) σ C' H:=by
 unfold uP;split
 ·rename_i ds hi;obtain⟨a,xs,h1,h2,h3,h4⟩:=g.x.own i ds hi;refine⟨upd C a (.lst xs),g.b.trans (eA h2),g.ev.Qd (g.fr i ds a hi h1) h2 h3,g.x.give hi h1 h3 h4,λk fs b q1 q2=>?_⟩
  ·rcases getElem?_set_cases q1 with⟨_,e1⟩|⟨hk,e1⟩
   ·cases e1
   ·exact g.fr k fs b e1 q2
 ·exact⟨C,g⟩
end
section
variable {X:Cx}{C0 H0:Hp}{st:cI}{XX rest:List cI}{e:cF}{pos:Pos}{f g:bY}
noncomputable def jH:bY:=λδ=>some (.next δ)
noncomputable def eI (f g:bY):bY:=λδ=>match f δ with|some (.next δ')=>g δ'|r=>r
def r6 (i:Nat) (f:bY):bY:=λδ=>f (uP i δ)
noncomputable def eM (f:bZ):bY:=λδ=>(f δ).map .ret
noncomputable def j8 (i:Nat) (f:bZ):bY:=λδ=>(f δ).map λd=>.next (δ.set i (.dat d))
noncomputable def j9 (i:Nat) (f:bX):bY:=λδ=>(f δ).map λds=>.next (δ.set i (.own ds))
theorem RJ {B:Hp}{i:Nat}{f:bZ}{t:TE}(h:∀σ H Q,tD f σ H Q->t σ H Q):∀Dn σ H,tS B C0 H0 (j8 i f) Dn σ H->t σ H λv H1=>Dn.nx (σ.set i (some v)) H1:=λDn σ H ⟨C,δ,r,gd,q,k⟩=>by
 unfold j8 at q;cases hf:f δ with
 |none=>rw[hf]at q;cases q
 |some d=>
  rw[hf]at q;cases q;exact h σ H _ ⟨C,δ,d,gd.x,hf,λv C' H' ev i=>k _ C' H' ((gd.DA ev).qm i)⟩
theorem Lk {B:Hp}{i:Nat}{f:bX}{t:TE}(h:∀σ H Q,tF f σ H Q->t σ H Q):∀Dn σ H,tS B C0 H0 (j9 i f) Dn σ H->t σ H λv H1=>Dn.nx (σ.set i (some v)) H1:=λDn σ H ⟨C,δ,r,gd,q,k⟩=>by
 unfold j9 at q;cases hf:f δ with
 |none=>rw[hf]at q;cases q
 |some ds=>
  rw[hf]at q;cases q;exact h σ H _ ⟨C,δ,ds,gd.x,hf,λa xs C' H' ev h1 h2 h3 h4=>k _ C' H' (gd.BA ev h1 h2 h3 h4)⟩
noncomputable def oR (c:cb) (f g:bY):bY:=λδ=>match c δ with|some true=>f δ|some false=>g δ|none=>none
noncomputable def zt (i:Nat) (f:bZ):bY:=λδ=>match δ[i]? with
 |some (.own ds)=>(f δ).bind λd=>if ds.length<1000000 then some (.next (δ.set i (.own (ds++[d]))))else none
 |_=>none
omit [Mem] in
theorem rk (h:n<1000000):n<sizeLine:=aw h (by decide)
theorem Jl {i:Nat}{o:cF}{f:bZ}{apos:Pos}{t:TA}(ht:PA X [e] t) (ho:PE X o (gX i)) (he:∀σ H Q,WC (aO f aY) σ H Q->t σ H Q)
  (call:PE X (.Call (.Attribute o "append" apos) [e] [] pos) (XG X.K "list" Hk (gX i) t)) {pos':Pos}(hs:swapsWith (.Call (.Attribute o "append" apos) [e] [] pos) none pos'.line X.env=pure false:=by rfl):
  PB X C0 H0 (.Expr (.Call (.Attribute o "append" apos) [e] [] pos) pos') (zt i f):=λB=>(NP call hs).imp λDn σ H ⟨C,δ,r,gd,q,k⟩=>by
 unfold zt at q;split at q
 ·rename_i ds hi;cases hf:f δ with
  |none=>rw[hf]at q;cases q
  |some d=>
   rw[hf]at q;simp only[ao]at q;split at q
   ·rename_i hz;cases q;obtain⟨a,xs,h1,h2,h3,h4⟩:=gd.x.own i ds hi;refine⟨_,h1,.inl ⟨rfl,_,pZ.of h3⟩,he σ H _ ⟨C,δ,[d],gd.x,by unfold aO aY;rw[hf];rfl,λvs C' H' ev i'=>?_⟩⟩
    cases i' with
    |cons i1 i2=>
     cases i2;refine⟨a,xs,_,rfl,rfl,ev.hh h3,by rw[h4.length];exact rk hz,k σ C' _ ((gd.DA ev).mut hi h1 ((h4.mono ev.c).append (.one i1)))⟩
   ·cases q
 ·cases q
end
def Wk (J:It) (ds:cu) (C:Hp):Prop:=∀i C' H',dM C C'->dM C' H'->(∀d,ds[i]? =some d->J.go i H'/\∀x H3,J.Q2 i H' x H3->H3=H'/\Is C' x d)/\(ds.length<=i->J.stop i H')
def WkE (J:It) (ds:cu) (C H:Hp):Prop:=∀i C' H',Ev C H C' H'->(∀d,ds[i]? =some d->J.go i H'/\∀x H3,J.Q2 i H' x H3->H3=H'/\Is C' x d)/\(ds.length<=i->J.stop i H')
noncomputable def tI (f:bX):TI:=λσ H R=>∃C δ ds,Sx δ σ C H/\f δ=some ds/\∀J C' H',Ev C H C' H'->Wk J ds C'->R J H'
noncomputable def XY (f:bX):TI:=λσ H R=>∃C δ ds,Sx δ σ C H/\f δ=some ds/\∀J C' H',Ev C H C' H'->WkE J ds C' H'->R J H'
omit [Mem] in
theorem _root_.L2.PI.imp (h:PI X tg e t) (m:∀σ H Q,t' σ H Q->t σ H Q):PI X tg e t':=λcM s σ H Q I q=>h cM s σ H Q I (m σ H Q q)
abbrev U4 (X:Cx) (tg e:cF) (f:bX):Prop:=PI X tg e (tI f)
abbrev ZC (X:Cx) (tg e:cF) (f:bX):Prop:=PI X tg e (XY f)
section
variable {X:Cx}{tg e:cF}
theorem U4.weak (h:U4 X tg e f):ZC X tg e f:=h.imp λσ H R ⟨C,δ,ds,x,q,k⟩=>⟨C,δ,ds,x,q,λJ C' H' ev wk=>k J C' H' ev λi C2 H2 e2=>wk i C2 H2 e2.c e2.s⟩
noncomputable def iL (f:bZ):bX:=λδ=>match f δ with|some (.lst ds)=>some ds|_=>none
noncomputable def iT (f:bZ):bX:=λδ=>match f δ with|some (.tup ds)=>some ds|_=>none
theorem Ag {K:W.Frag}{C:Hp}{a:cE}{xs:List V}{ds:cu}(h:Rd C a (.lst xs)) (hl:IsL C xs ds):Wk (Xl K a) ds C:=λi C' H' sc sh=>by
 have hq:pZ K H' a xs:=.inl ((h.same sc).same sh);refine⟨λd hd=>?_,λhi=>⟨xs,hq,by rw[hl.length];exact hi⟩⟩
 obtain⟨v,hv,is⟩:=hl.get hd;exact⟨⟨xs,v,hq,hv⟩,λx H3 ⟨e1,e2⟩=>⟨e1,by
  have:=e2 xs hq;rw[hv]at this;cases this;exact is.mono sc⟩⟩
theorem Ll {K:W.Frag}{C:Hp}{a:cE}{xs:List V}{ds:cu}(h:C a=some (.tup xs)) (hl:IsL C xs ds):Wk (Xm K a) ds C:=λi C' H' sc sh=>by
 have hq:kR K H' a xs:=kR.of (sh _ _ (sc _ _ h));refine⟨λd hd=>?_,λhi=>⟨xs,hq,by rw[hl.length];exact hi⟩⟩
 obtain⟨v,hv,is⟩:=hl.get hd;exact⟨⟨xs,v,hq,hv⟩,λx H3 ⟨e1,e2⟩=>⟨e1,by
  have:=e2 xs hq;rw[hv]at this;cases this;exact is.mono sc⟩⟩
theorem DB (h:PD X e f):U4 X tg e (iL f):=(Hg h).imp λσ H R ⟨C,δ,ds,x,q,k⟩=>by
 unfold iL at q;split at q
 ·rename_i es hf;cases q;refine⟨C,δ,_,x,hf,λv C' H' ev i=>?_⟩
  cases i with
  |lst hr hl=>exact⟨_,rfl,⟨_,.inl (hr.same ev.s)⟩,k _ C' H' ev (Ag hr hl)⟩
 ·cases q
theorem Hs (h:PD X e f):U4 X tg e (iT f):=(Q3 h).imp λσ H R ⟨C,δ,ds,x,q,k⟩=>by
 unfold iT at q;split at q
 ·rename_i es hf;cases q;refine⟨C,δ,_,x,hf,λv C' H' ev i=>?_⟩
  cases i with
  |tup hr hl=>exact⟨_,rfl,⟨_,kR.of (ev.s _ _ hr)⟩,k _ C' H' ev (Ll hr hl)⟩
 ·cases q
noncomputable def dg (lo:Int):Nat->cn
 |0=>[]
 |n+1=>lo::dg (lo+1) n
omit [Mem] in
theorem oS:∀(n i:Nat) (lo:Int),(dg lo n)[i]? =if i<n then some (lo+i)else none
 |0,i,lo=>by simp[dg]
 |n+1,0,lo=>by simp[dg]
 |n+1,i+1,lo=>by
  show(dg (lo+1) n)[i]? =_;rw[oS n i (lo+1)];by_cases h:i<n
  ·rw[if_pos h,if_pos (by omega)];congr 1;omega
  ·rw[if_neg h,if_neg (by omega)]
omit [Mem] in
theorem dQ:∀(n:Nat) (lo:Int),(dg lo n).length=n
 |0,_=>rfl
 |n+1,lo=>congrArg (·+1) (dQ n (lo+1))
theorem FG {lo:Int}{n:Nat}{C:Hp}:Wk (Wq lo n) ((dg lo n).map D.int) C:=λi C' H' sc sh=>by
 refine⟨λd hd=>?_,λhi=>?_⟩
 ·rw[av,oS]at hd;split at hd
  ·rename_i h;cases hd;exact⟨h,λx H3 ⟨e1,e2⟩=>⟨e1,by rw[e2];exact .int _⟩⟩
  ·cases hd
 ·rw[ae,dQ]at hi;exact hi
def uQ (f:bX):bX:=λδ=>match f δ with|some [.int j]=>if j<1000000/\-1000000<j then some ((dg 0 j.toNat).map D.int)else none|_=>none
noncomputable def iV (j:Nat) (f:bY):cu->bY
 |[],δ=>some (.next δ)
 |d::ds,δ=>match f (δ.set j (.dat d))with
  |some (.next δ')=>iV j f ds δ'
  |some (.cont δ')=>iV j f ds δ'
  |some (.brk δ')=>some (.next δ')
  |some (.ret r)=>some (.ret r)
  |none=>none
def oT (j:Nat) (i:bX) (f:bY):bY:=λδ=>(i δ).bind λds=>iV j f ds δ
noncomputable def lq (j:Nat) (t:cb) (f:bZ) (δ:fE):cu->Option (cu)
 |[]=>some []
 |d::ds=>match t (δ.set j (.dat d))with
  |some true=>(f (δ.set j (.dat d))).bind λy=>(lq j t f δ ds).map λys=>y::ys
  |some false=>lq j t f δ ds
  |none=>none
def dU (i:bX) (j:Nat) (t:cb) (f:bZ):bX:=λδ=>(i δ).bind λds=>if ds.length<1000000 then lq j t f δ ds else none
noncomputable def jd:cb:=λ_=>some true
theorem Lm:∀σ H Q,tQ jd σ H Q->Ry σ H Q:=λσ H Q ⟨C,δ,b,x,q,k⟩=>by cases q;exact k C H (.refl x.sub)
theorem FH (ht:∀σ H Q,tQ t σ H Q->tt σ H Q):∀σ H Q,tF (dU i j t f) σ H Q->K8 (XY i) j tt (tD f) σ H Q:=λσ H Q ⟨C,δ,ys,x,q,k⟩=>by
 unfold dU at q;cases hf:i δ with
 |none=>rw[hf]at q;cases q
 |some ds=>
  rw[hf]at q;simp only[ao]at q;split at q
  case isFalse=>cases q
  rename_i hz;refine⟨C,δ,ds,x,hf,λJ C1 H1 ev wk A hA=>?_⟩
  refine⟨λn m acc H'=>∃C' done rest,m=ds.length-n/\n<=ds.length/\Ev C1 H1 C' H'/\C' A=none/\H' A=some (.lst acc)/\IsL C' acc done/\done.length<=n/\lq j t f δ (ds.drop n)=some rest/\ys=done++rest,
   ⟨ds.length,C1,[],ys,by simp,bK _,.fF ev.s hA,ev.s.free hA,cY,.nil,au _,by simpa using q,rfl⟩,?_⟩
  rintro n m acc H2 ⟨C2,done,rest,rfl,hn,e2,a2,b2,l2,XZ,q2,ey⟩
  have w:=wk n C2 H2 e2;by_cases fu:n<ds.length
  ·have hd:ds[n]? =some ds[n]:=ah fu;obtain⟨go,yl⟩:=w.1 _ hd;rw[List.drop_eq_getElem_cons fu]at q2;refine .inr ⟨go,λv H3 y=>?_⟩
   obtain⟨rfl,is⟩:=yl v H3 y;have x2:Sx δ σ C2 H3:=x.ev (ev.trans e2);have x3:=x2.qm (i:=j) is;unfold lq at q2;split at q2
   ·rename_i X0;refine ht _ _ _ ⟨C2,_,true,x3,X0,λC4 H4 e4=>Bu ?_⟩
    cases Jm:f (δ.set j (.dat ds[n]))with
    |none=>rw[Jm]at q2;cases q2
    |some y=>
     rw[Jm]at q2;simp only[ao]at q2;cases hr:lq j t f δ (ds.drop (n+1))with
     |none=>rw[hr]at q2;cases q2
     |some rs=>
      rw[hr]at q2;cases q2;refine⟨C4,_,y,x3.ev e4,Jm,λu C5 H5 e5 i5=>?_⟩
      have Kl:=e4.trans e5;have Tr:=Kl.hh b2;have a5:=Kl.nn a2 b2;refine⟨Tr,?_,ds.length-(n+1),by omega,C5,done++[y],rs,rfl,fu,(e2.trans Kl).Dy hA a5 _,a5,cY,(l2.mono Kl.c).append (.one i5),?_,hr,?_⟩
      ·rw[l2.length];exact rk (by omega)
      ·rw[aQ,List.length_singleton];omega
      ·rw[ey,List.append_assoc];rfl
   ·rename_i X0;refine ht _ _ _ ⟨C2,_,false,x3,X0,λC4 H4 e4=>Dq ?_⟩
    exact⟨ds.length-(n+1),by omega,C4,done,rest,rfl,fu,e2.trans e4,e4.nn a2 b2,e4.hh b2,l2.mono e4.c,by omega,q2,ey⟩
   ·cases q2
  ·have e:n=ds.length:=by omega
   subst e;rw[List.drop_length]at q2;unfold lq at q2;cases q2;rw[bB]at ey;subst ey;exact .inl ⟨w.2 (au _),k A acc C2 H2 (ev.trans e2) (ev.free hA) a2 b2 l2⟩
end
section
variable {X:Cx}{elt iter:cF}{x:Str}{px pos:Pos}{scope:Scope}{i:bX}{t:cb}{f:bZ}
variable {C0 H0:Hp}{y:Str}{py By:Pos}
end
end DL
namespace DL
open PySem PySem.Spec PyProof.Rows L2
noncomputable def iA (n:Nat) (np:Nat) (f:bY) (ds:cu):Option D:=
 if ds.length=np then(match f (ds.map Sl.dat++List.replicate (n-np) Sl.no)with|some (.ret d)=>some d|some (.next _)=>some .eV|_=>none)else none
section
variable [Mem] {C H:Hp}{N ps:List Str}{vs:List V}{ds:cu}{d:D}{δ:fE}{σ:L2.St}{fb:bY}{Q:VK}{sc:Scope}
theorem n4 (gd:Gd C C H δ σ C H) (q:(match fb δ with|some (.ret d)=>some d|some (.next _)=>some .eV|_=>none)=some d) (k:∀v C' H',Ev C H C' H'->Is C' v d->Q v H'):tS C C H fb {nx:=λ_ H'=>Q .eV H',rt:=Q} σ H:=by
 split at q
 ·rename_i d' hf;cases q;exact⟨C,_,_,gd,hf,λv C' H' ev i'=>k v C' H' ev i'⟩
 ·rename_i δ' hf;cases q;exact⟨C,_,_,gd,hf,λσ' C' H' g'=>k .eV C' H' g'.ev .eV⟩
 ·cases q
theorem uR (hn:n<vs.length):(L2.start N vs)[n]? =some vs[n]? :=by
 unfold L2.start;rw[aJ (by rw[ae];exact hn),av,ah hn];rfl
theorem Qi (sx:Sx δ σ C H) (no:∀(n:Nat) es,δ[n]? ≠some (Sl.own es)):Gd C C H δ σ C H:=⟨dM.refl _,.refl sx.sub,sx,λn es a e _=>absurd e (no n es)⟩
theorem Ht (S:dt N ps sc):ps.length<=N.length:=by have:=S.pre;rw[<-this,bI];omega
theorem DC (S:dt N ps sc) (sub:dM C H) (i:IsL C vs ds) (hl:ds.length=ps.length):Gd C C H (ds.map Sl.dat++List.replicate (N.length-ps.length) Sl.no) (L2.start N vs) C H:=by
 have ge:∀{n:Nat}{x:Sl},(ds.map Sl.dat++List.replicate (N.length-ps.length) Sl.no)[n]? =some x->(∃d,ds[n]? =some d/\x=.dat d)\/x=.no:=λ{n x} e=>by
  by_cases hn:n<ds.length
  ·rw[aJ (by simpa using hn),av,ah hn]at e
   cases e;exact .inl ⟨_,ah hn,rfl⟩
  ·rw[aP (by rw[ae];omega),List.getElem?_replicate]at e
   split at e<;>cases e
   exact .inr rfl
 have no:∀(n:Nat) es,(ds.map Sl.dat++List.replicate (N.length-ps.length) Sl.no)[n]? ≠some (Sl.own es):=λn es e=>by rcases ge e with⟨_,_,q⟩|q<;>cases q
 have lv:=i.length;have:=Ht S;refine Qi ⟨sub,λn d e=>?_,λn es e=>absurd e (no n es),λn m es fs a e=>absurd e (no n es),?_,λn ks e=>by rcases ge e with⟨_,_,q⟩|q<;>cases q⟩ no
 ·rcases ge e with⟨_,hd,q⟩|q<;>cases q
  obtain⟨v,h1,h2⟩:=i.get hd;exact⟨v,by rw[uR (List.getElem?_eq_some_iff.mp h1).1,h1],h2⟩
 ·unfold L2.start;simp only[aQ,ae,List.length_replicate];omega
end
theorem Qj {P:cA}{w:cB}{K:W.Frag}{mg:cg}{base:Heap}{x qual:Str}{st:cI}{f:cE}{fd:cz}{N ps:List Str}{k:Nat}(F:kU K x qual st f fd) (S:dt N ps (cP st)) {fb:bY}
  (fY:∀(eN:cx) (A:cC) (outer:List Env) (s:cy) (H:Hp) (E:XK),fm k (A.deeper (envOfC qual (cP st) s.heap.objs.size f eN))->∀C0 H0,@Jk Mem.keep (pX gY P w K mg base N qual (cP st) f eN A outer s H E).Dc C0 H0 (eW st) fb):
  dY P w K mg base gY (k+1) f fd ps (rj (iA N.length ps.length fb)):=by
 letI:Mem:=Mem.keep
 refine F.ok S (λvs H Q E h=>?_) (λeN A outer s H vs Q E hr h=>?_)
 all_goals
  obtain⟨C,ds,d,sub,i,q,k⟩:=h;unfold iA at q;split at q
  case isFalse=>cases q
  rename_i hl
 ·rw[i.length];exact hl
 ·exact⟨tS C C H fb,fY eN A outer s H E hr C H C,n4 (DC S sub i hl) q λv C' H' ev i'=>k v C' H' ev.r0 i'⟩
mutual
noncomputable def jf:D->D->Bool
 |.eV,.eV=>true
 |.bl a,.bl b=>a==b
 |.bl a,.int b=>(if a then 1 else 0)==b
 |.int a,.bl b=>a==(if b then 1 else 0)
 |.int a,.int b=>a==b
 |.str a,.str b=>a==b
 |.tup a,.tup b=>lM a b
 |.lst a,.lst b=>lM a b
 |_,_=>false
noncomputable def lM:cu->cu->Bool
 |[],[]=>true
 |a::as,b::bs=>jf a b&&lM as bs
 |_,_=>false
end
mutual
noncomputable def eh:D->Nat
 |.tup ds=>ju ds+1
 |.lst ds=>ju ds+1
 |_=>0
noncomputable def ju:cu->Nat
 |[]=>0
 |d::ds=>max (eh d) (ju ds)
end
theorem lr:∀{ds:cu}{d:D},d∈ds->eh d<=ju ds
 |e::r,d,h=>by
  unfold ju;rcases List.mem_cons.mp h with h|h
  ·subst h;omega
  ·have:=lr h;omega
mutual
theorem tJ:∀d:D,jf d d=true
 |.eV=>by unfold jf;rfl
 |.bl b=>by unfold jf;simp
 |.int i=>by unfold jf;simp
 |.str x=>by unfold jf;simp
 |.tup ds=>by unfold jf;exact uT ds
 |.lst ds=>by unfold jf;exact uT ds
theorem uT:∀ds:cu,lM ds ds=true
 |[]=>by unfold lM;rfl
 |d::ds=>by unfold lM;rw[tJ d,uT ds];rfl
end
theorem mC:∀(as bs:cu),lM as bs=((List.range (min as.length bs.length)).all (λj=>jf (as.getD j .eV) (bs.getD j .eV))&&as.length==bs.length)
 |[],[]=>by unfold lM;rfl
 |[],b::bs=>by unfold lM;simp
 |a::as,[]=>by unfold lM;simp
 |a::as,b::bs=>by
  unfold lM;rw[mC as bs];have e:min (a::as).length (b::bs).length=min as.length bs.length+1:=by simp only[ay];omega
  rw[e,List.range_succ_eq_map,List.all_cons,List.all_map];simp only[ay,List.getD_cons_zero,Nat.add_left_inj,Nat.add_eq,Nat.add_zero,Bool.and_assoc]
  congr 1
  have e2:(as.length+1==bs.length+1)=(as.length==bs.length):=by
   rw[Bool.eq_iff_iff];simp
  rw[e2]
  congr 1
mutual
theorem Is.inj {C:Hp}:∀{v:V}{d e:D},Is C v d->Is C v e->d=e
 |_,_,_,.eV,.eV=>rfl
 |_,_,_,.bl _,.bl _=>rfl
 |_,_,_,.int _,.int _=>rfl
 |_,_,_,.str _,.str _=>rfl
 |_,_,_,.tup h l,.tup h' l'=>by
  rw[h]at h';cases h';rw[IsL.inj l l']
 |_,_,_,.lst h l,.lst h' l'=>by
  have:∀{a:cE}{xs ys:List V},Rd C a (.lst xs)->Rd C a (.lst ys)->xs=ys:=λ{a xs ys} p q=>by
   rcases p with p|⟨o,p⟩<;>rcases q with q|⟨o',q⟩<;>(rw[p]at q;cases q)<;>rfl
  cases this h h';rw[IsL.inj l l']
 |_,_,_,.tup h l,.lst h' l'=>by
  rcases h' with q|⟨o',q⟩<;>(rw[h]at q;cases q)
 |_,_,_,.lst h l,.tup h' l'=>by
  rcases h with q|⟨o',q⟩<;>(rw[h']at q;cases q)
theorem IsL.inj {C:Hp}:∀{vs:List V}{ds es:cu},IsL C vs ds->IsL C vs es->ds=es
 |_,_,_,.nil,.nil=>rfl
 |_,_,_,.cons h t,.cons h' t'=>by rw[Is.inj h h',IsL.inj t t']
end
section
variable {X:Cx}{cM:cj}{σ:L2.St}{C H:Hp}{s:cy}
inductive Kd (s:cy):cx->D->Prop
 |eV:Kd s .none .eV
 |bl (b:Bool):Kd s (.bool b) (.bl b)
 |int (i:Int) (t:Tok):Kd s (.int i t) (.int i)
 |str (x:Str) (t:Tok):Kd s (.str x t) (.str x)
 |tup {a:cE}{dD:Array cx}{ds:cu}:s.heap.IsTuple a dD->Kd s (.ref a) (.tup ds)
 |lst {a:cE}{dD:Array cx}{ds:cu}:s.heap.IsList a dD->Kd s (.ref a) (.lst ds)
theorem Ah (I:Inv X cM σ H s) (sub:dM C H) {v:V}{d:D}{u:cx}(iv:Is C v d) (ru:RelV v u):Kd s u d:=by
 cases iv with
 |eV=>cases ru;exact .eV
 |bl b=>cases ru;exact .bl b
 |int b=>obtain⟨t,rfl⟩:=ru;exact .int b t
 |str b=>obtain⟨t,rfl⟩:=ru;exact .str b t
 |tup h l=>cases ru;obtain⟨dD,_,p,_⟩:=I.tuple (kR.of (K:=X.K) (sub _ _ h));exact .tup p
 |lst h l=>cases ru;obtain⟨dD,_,p,_⟩:=I.list (.inl (h.same sub));exact .lst p.isList
theorem uU (I:Inv X cM σ H s) (sub:dM C H) (iv:Is C v (.tup ds)) (ru:RelV v (.ref a)):∃dD xs,v=.ref a/\IsTup s.heap a dD.toArray/\dD.toArray.size=ds.length/\IsL C xs ds/\Vals xs dD:=by
 cases iv with
 |@tup b xs _ h l=>
  cases ru;obtain⟨dD,r,p,_⟩:=I.tuple (kR.of (K:=X.K) (sub _ _ h));exact⟨dD,xs,rfl,p,by rw[aq,<-r.length,l.length],l,r⟩
theorem uV (I:Inv X cM σ H s) (sub:dM C H) (iv:Is C v (.lst ds)) (ru:RelV v (.ref a)):∃dD xs,v=.ref a/\s.heap.IsList a dD.toArray/\dD.toArray.size=ds.length/\IsL C xs ds/\Vals xs dD:=by
 cases iv with
 |@lst b xs _ h l=>
  cases ru;obtain⟨dD,r,p,_⟩:=I.list (.inl (h.same sub));exact⟨dD,xs,rfl,p.isList,by rw[aq,<-r.length,l.length],l,r⟩
def Ou (C:Hp) (s:cy) (A:cC) (n:Nat):Prop:=∀{d e:D}{v w:V}{u z:cx},eh d<=n->Is C v d->Is C w e->RelV v u->RelV w z->SeqAt.EqAt A s u z (jf d e)
section
variable {A:cC}{n:Nat}{d e:D}{v w:V}{u z:cx}
theorem tK (ih:Ou C s A.in1 n) {xs ys:List V}{ds es:cu}{dD oP:cw}(hn:eh (.tup ds)<=n+1) (l1:IsL C xs ds) (l2:IsL C ys es) (r1:Vals xs dD) (r2:Vals ys oP):
  ∀j (h1:j<dD.toArray.size) (h2:j<oP.toArray.size),SeqAt.EqAt A.in1 s dD.toArray[j] oP.toArray[j] (jf (ds.getD j .eV) (es.getD j .eV)):=λj h1 h2=>by
 have FD:j<dD.length:=by simpa using h1
 have Jg:j<oP.length:=by simpa using h2
 have g1:xs[j]? =some (xs[j]'(by rw[r1.length];exact FD)):=ah _
 have g2:ys[j]? =some (ys[j]'(by rw[r2.length];exact Jg)):=ah _
 obtain⟨u1,q1,k1⟩:=r1.get g1;obtain⟨u2,q2,k2⟩:=r2.get g2;obtain⟨d1,e1,i1⟩:=l1.get' g1;obtain⟨d2,e2,i2⟩:=l2.get' g2;have w1:dD.toArray[j]=u1:=by
  rw[ah FD]at q1
  simpa using aS q1
 have w2:oP.toArray[j]=u2:=by
  rw[ah Jg]at q2
  simpa using aS q2
 rw[w1,w2,ak,ak,e1,e2];unfold eh at hn;exact ih (aD (lr (bh e1)) (by omega)) i1 i2 k1 k2
theorem Ln (I:Inv X cM σ H s) (sub:dM C H) (ih:Ou C s A.in1 n) (hd:eh d<=n+1) (hu:A.units<cLine) (iv:Is C v d) (iw:Is C w e) (ru:RelV v u) (rz:RelV w z):SeqAt.RcAt A s u z (jf d e):=by
 cases Ah I sub iv ru<;>cases Ah I sub iw rz<;>unfold jf<;>try (with_reducible first|exact .none_none|exact .none_bool _|exact .none_int _ _|exact .none_str _ _|exact .none_tuple ‹_› ‹_› |exact .none_list ‹_› ‹_› |exact .bool_none _|exact .bool_bool _ _|exact .bool_int _ _ _|exact .bool_str _ _ _|exact .bool_tuple _ ‹_› ‹_› |exact .bool_list _ ‹_› ‹_› |exact .int_none _ _|exact .int_bool _ _ _|exact .int_int _ _ _ _|exact .int_str _ _ _ _|exact .int_tuple _ _ ‹_› ‹_› |exact .int_list _ _ ‹_› ‹_› |exact .str_none _ _|exact .str_bool _ _ _|exact .str_int _ _ _ _|exact .str_str _ _ _ _|exact .str_tuple _ _ ‹_› ‹_› |exact .str_list _ _ ‹_› ‹_› |exact .tuple_none ‹_› ‹_› |exact .tuple_bool _ ‹_› ‹_› |exact .tuple_int _ _ ‹_› ‹_› |exact .tuple_str _ _ ‹_› ‹_› |exact .tuple_list ‹_› ‹_› ‹_› |exact .list_none ‹_› ‹_› |exact .list_bool _ ‹_› ‹_› |exact .list_int _ _ ‹_› ‹_› |exact .list_str _ _ ‹_› ‹_› |exact .list_tuple ‹_› ‹_› ‹_›)
 ·obtain⟨dD,xs,_,p1,e1,l,r1⟩:=uU I sub iv ru;obtain⟨oP,ys,_,p2,e2,l2,r2⟩:=uU I sub iw rz;have q:=SeqAt.RcAt.tuples p1 p2 hu (tK ih hd l l2 r1 r2);rw[e1,e2]at q;rw[mC];exact q
 ·obtain⟨dD,xs,_,p1,e1,l,r1⟩:=uV I sub iv ru;obtain⟨oP,ys,_,p2,e2,l2,r2⟩:=uV I sub iw rz;rw[mC];by_cases hl:dD.toArray.size=oP.toArray.size
  ·have q:=SeqAt.RcAt.lists p1 p2 hl hu (tK ih hd l l2 r1 r2);rw[<-e1,<-e2,<-hl,Nat.min_self,bM,Bool.and_true];exact q
  ·have q:=SeqAt.RcAt.lists_lengths p1 p2 (by simpa using hl) hu
   rw[<-e1,<-e2,beq_false_of_ne hl,Bool.and_false];exact q
end
theorem BC (I:Inv X cM σ H s) (sub:dM C H):∀(n:Nat) (A:cC),A.units+n<cLine->Ou C s A n
 |n,A,hu,d,e,v,w,u,z,hd,iv,iw,ru,rz=>by
  have Lo:A.units<cLine:=by omega
  have step:∀{a b:cE},1<=eh d->(v=.ref a->w=.ref a->d=e)->u=.ref a->z=.ref b->v=.ref a->w=.ref b->SeqAt.EqAt A s u z (jf d e):=λ{a b} h1 hj e1 e2 e3 e4=>by
   cases n with
   |zero=>omega
   |succ n=>
    subst e1 e2;by_cases Jn:a=b
    ·subst Jn;rw[<-hj e3 e4,tJ];exact .same _
    ·exact .of_refs Jn (Ln I sub (BC I sub n A.in1 (by show A.units+1+n<cLine;omega)) hd Lo iv iw ru rz)
  cases Ah I sub iv ru<;>cases Ah I sub iw rz<;>try (unfold jf;first|(with_reducible first|exact .none_none|exact .none_bool _|exact .none_int _ _|exact .none_str _ _|exact .none_tuple ‹_› ‹_› |exact .none_list ‹_› ‹_› |exact .bool_none _|exact .bool_bool _ _|exact .bool_int _ _ _|exact .bool_str _ _ _|exact .bool_tuple _ ‹_› ‹_› |exact .bool_list _ ‹_› ‹_› |exact .int_none _ _|exact .int_bool _ _ _|exact .int_int _ _ _ _|exact .int_str _ _ _ _|exact .int_tuple _ _ ‹_› ‹_› |exact .int_list _ _ ‹_› ‹_› |exact .str_none _ _|exact .str_bool _ _ _|exact .str_int _ _ _ _|exact .str_str _ _ _ _|exact .str_tuple _ _ ‹_› ‹_› |exact .str_list _ _ ‹_› ‹_› |exact .tuple_none ‹_› ‹_› |exact .tuple_bool _ ‹_› ‹_› |exact .tuple_int _ _ ‹_› ‹_› |exact .tuple_str _ _ ‹_› ‹_› |exact .tuple_list ‹_› ‹_› ‹_› |exact .list_none ‹_› ‹_› |exact .list_bool _ ‹_› ‹_› |exact .list_int _ _ ‹_› ‹_› |exact .list_str _ _ ‹_› ‹_› |exact .list_tuple ‹_› ‹_› ‹_›)|with_reducible exact .same _)
  ·obtain⟨_,_,e1,_⟩:=uU I sub iv ru;obtain⟨_,_,e2,_⟩:=uU I sub iw rz;exact step (by unfold eh;omega) (λh1 h2=>by rw[h1]at iv;rw[h2]at iw;exact Is.inj iv iw) rfl rfl e1 e2
  ·obtain⟨_,_,e1,_⟩:=uV I sub iv ru;obtain⟨_,_,e2,_⟩:=uV I sub iw rz;exact step (by unfold eh;omega) (λh1 h2=>by rw[h1]at iv;rw[h2]at iw;exact Is.inj iv iw) rfl rfl e1 e2
section
variable {A:cC}{d e:D}{v w:V}{u z:cx}
theorem RK (I:Inv X cM σ H s) (sub:dM C H) (hd:eh d<=30) (hu:A.units+40<cLine) (iv:Is C v d) (iw:Is C w e) (ru:RelV v u) (rz:RelV w z):SeqAt.RcAt A s u z (jf d e):=
 Ln I sub (BC I sub 30 A.in1 (by show A.units+1+30<cLine;omega)) (by omega) (by omega) iv iw ru rz
theorem RL (I:Inv X cM σ H s) (sub:dM C H) (hd:eh d<=30) (hu:A.units+40<cLine) (iv:Is C v d) (iw:Is C w e) (ru:RelV v u) (rz:RelV w z):SeqAt.RcNeAt A s u z (!(jf d e)):=by
 have ih:Ou C s A.in1 30:=BC I sub 30 A.in1 (by show A.units+1+30<cLine;omega)
 have Lo:A.units<cLine:=by omega
 cases Ah I sub iv ru<;>cases Ah I sub iw rz<;>unfold jf<;>(try simp only[Bool.not_false,bS])<;>try (with_reducible first|exact .none_none|exact .none_bool _|exact .none_int _ _|exact .none_str _ _|exact .none_tuple ‹_› ‹_› |exact .none_list ‹_› ‹_› |exact .bool_none _|exact .bool_bool _ _|exact .bool_int _ _ _|exact .bool_str _ _ _|exact .bool_tuple _ ‹_› ‹_› |exact .bool_list _ ‹_› ‹_› |exact .int_none _ _|exact .int_bool _ _ _|exact .int_int _ _ _ _|exact .int_str _ _ _ _|exact .int_tuple _ _ ‹_› ‹_› |exact .int_list _ _ ‹_› ‹_› |exact .str_none _ _|exact .str_bool _ _ _|exact .str_int _ _ _ _|exact .str_str _ _ _ _|exact .str_tuple _ _ ‹_› ‹_› |exact .str_list _ _ ‹_› ‹_› |exact .tuple_none ‹_› ‹_› |exact .tuple_bool _ ‹_› ‹_› |exact .tuple_int _ _ ‹_› ‹_› |exact .tuple_str _ _ ‹_› ‹_› |exact .tuple_list ‹_› ‹_› ‹_› |exact .list_none ‹_› ‹_› |exact .list_bool _ ‹_› ‹_› |exact .list_int _ _ ‹_› ‹_› |exact .list_str _ _ ‹_› ‹_› |exact .list_tuple ‹_› ‹_› ‹_›)
 ·obtain⟨dD,xs,_,p1,e1,l,r1⟩:=uU I sub iv ru;obtain⟨oP,ys,_,p2,e2,l2,r2⟩:=uU I sub iw rz;have q:=SeqAt.RcNeAt.tuples p1 p2 Lo (tK ih (by omega) l l2 r1 r2)
  rw[e1,e2]at q;rw[mC];exact q
 ·obtain⟨dD,xs,_,p1,e1,l,r1⟩:=uV I sub iv ru;obtain⟨oP,ys,_,p2,e2,l2,r2⟩:=uV I sub iw rz;rw[mC];by_cases hl:dD.toArray.size=oP.toArray.size
  ·have q:=SeqAt.RcNeAt.lists p1 p2 hl Lo (tK ih (Nat.le_succ_of_le hd) l l2 r1 r2);rw[<-e1,<-e2,<-hl,Nat.min_self,bM,Bool.and_true];exact q
  ·have q:=SeqAt.RcNeAt.lists_lengths p1 p2 (by simpa using hl) Lo
   rw[<-e1,<-e2,beq_false_of_ne hl,Bool.and_false];exact q
end
end
variable [Mem]
theorem qa.list {K:W.Frag}{C H:Hp}{v:V}{ds:cu}(s:dM C H) (h:qa C H v (.lst ds)):∃a xs,v=.ref a/\pZ K H a xs/\IsL C xs ds:=by
 rcases h with h|⟨a,xs,es,h1,h2,h3,h4,h5⟩
 ·cases h with
  |lst h l=>exact⟨_,_,rfl,.inl (h.same s),l⟩
 ·cases h2;exact⟨a,xs,h1,pZ.of h4,h5⟩
theorem qa.tup {K:W.Frag}{C H:Hp}{v:V}{ds:cu}(s:dM C H) (h:qa C H v (.tup ds)):∃a xs,v=.ref a/\kR K H a xs/\IsL C xs ds/\C a=some (.tup xs):=by
 rcases h with h|⟨a,xs,es,h1,h2,_⟩
 ·cases h with
  |tup h l=>exact⟨_,_,rfl,kR.of (s _ _ h),l,h⟩
 ·cases h2
theorem IsL.mq (l:IsL C xs ds) (h:mq ds i=some d):∃v,L2.mq xs i=some v/\Is C v d:=by
 unfold L2.mq at h ⊢;rw[l.length];cases hk:Ac ds.length i with
 |none=>rw[hk]at h;cases h
 |some j=>
  rw[hk]at h;exact l.get h
def gM:D->D->Option D
 |.lst ds,.int i=>mq ds i
 |.tup ds,.int i=>mq ds i
 |.str z,.int i=>if z.length<=1000000 then(mq z.cps.toList i).map λc=>.str ⟨#[c]⟩else none
 |_,_=>none
section
variable {X:Cx}{a b c e o:cF}{pos:Pos}{f g h:bZ}
theorem U5:Qf (Zn X.K) gM:=λC H x y dx dy d Q s ix iy q k=>by
 unfold gM at q;split at q
 ·rename_i ds i;obtain⟨p,xs,rfl,hq,l⟩:=ix.list (K:=X.K) s;obtain⟨v,h1,h2⟩:=l.mq q;exact .inl ⟨p,xs,i,v,rfl,iy.int,hq,h1,k v C H (.refl s) h2⟩
 ·rename_i ds i;obtain⟨p,xs,rfl,hq,l,_⟩:=ix.tup (K:=X.K) s;obtain⟨v,h1,h2⟩:=l.mq q;exact .inr (.inl ⟨p,xs,i,v,rfl,iy.int,hq,h1,k v C H (.refl s) h2⟩)
 ·rename_i z i;split at q
  ·rename_i hz;cases hc:mq z.cps.toList i with
   |none=>rw[hc]at q;cases q
   |some c=>
    rw[hc]at q;cases q;have:=ix.is (λ_ z=>by cases z)
    cases this;exact .inr (.inr ⟨z,i,c,rfl,iy.int,aD hz (by decide),hc,k _ C H (.refl s) (.str _)⟩)
  ·cases q
 ·cases q
def lN (d e:D):Option D:=if eh d<=30 then some (.bl (jf d e))else none
theorem qa.both (h:qa C H v d):∃C',dM C C'/\(dM C H->dM C' H)/\Is C' v d:=by
 rcases h with h|⟨a,xs,ds,rfl,rfl,h3,h4,h5⟩
 ·exact⟨C,dM.refl _,id,h⟩
 ·refine⟨upd C a (.lst xs),eA h3,λs b u q=>?_,.lst (.inl cY) (h5.mono (eA h3))⟩
  by_cases e:b=a
  ·subst e;rw[cY]at q;cases q;exact h4
  ·rw[cR e]at q;exact s b u q
theorem qa.two {C H:Hp}{v w:V}{d e:D}(s:dM C H) (h:qa C H v d) (h':qa C H w e):∃C',dM C' H/\Is C' v d/\Is C' w e:=by
 obtain⟨C1,a1,b1,i1⟩:=h.both;have s1:=b1 s;rcases h' with h'|⟨a,xs,ds,rfl,rfl,h3,h4,h5⟩
 ·exact⟨C1,s1,i1,h'.mono a1⟩
 ·cases q:C1 a with
  |none=>
   refine⟨upd C1 a (.lst xs),λb u z=>?_,i1.mono (eA q),.lst (.inl cY) ((h5.mono a1).mono (eA q))⟩
   by_cases e:b=a
   ·subst e;rw[cY]at z;cases z;exact h4
   ·rw[cR e]at z;exact s1 b u z
  |some u=>
   have:=s1 a u q;rw[h4]at this;cases this;exact⟨C1,s1,i1,.lst (.inl q) (h5.mono a1)⟩
theorem n5 (hu:X.A.units+64<cLine):xp X .Eq lN:=by
 refine⟨λx y H Q=>∃C dx dy,dM C H/\Is C x dx/\Is C y dy/\eh dx<=30/\Q (.bl (jf dx dy)) H,?_,?_⟩
 ·rintro cM s σ H x y v u Q I rx ry ⟨C,dx,dy,sub,ix,iy,hd,q⟩
  have fin:EP X cM σ Q (.bool (jf dx dy)) s:=⟨.bl _,H,I,rfl,q⟩;exact RK I sub hd (by omega) ix iy rx ry X.prog X.w _ _ fin
 ·intro C H x y dx dy d Q s ix iy q k;unfold lN at q;split at q
  ·rename_i hd;cases q;obtain⟨C',s',i1,i2⟩:=qa.two s ix iy;exact⟨C',dx,dy,s',i1,i2,hd,k _ C H (.refl s) (.bl _)⟩
  ·cases q
def Ai (d e:D):Option D:=if eh d<=30 then some (.bl (!(jf d e)))else none
theorem FJ (hu:X.A.units+64<cLine):xp X .NotEq Ai:=by
 refine⟨λx y H Q=>∃C dx dy,dM C H/\Is C x dx/\Is C y dy/\eh dx<=30/\Q (.bl (!(jf dx dy))) H,?_,?_⟩
 ·rintro cM s σ H x y v u Q I rx ry ⟨C,dx,dy,sub,ix,iy,hd,q⟩
  have fin:EP X cM σ Q (.bool (!(jf dx dy))) s:=⟨.bl _,H,I,rfl,q⟩;exact RL I sub hd (by omega) ix iy rx ry X.prog X.w _ _ fin
 ·intro C H x y dx dy d Q s ix iy q k;unfold Ai at q;split at q
  ·rename_i hd;cases q;obtain⟨C',s',i1,i2⟩:=qa.two s ix iy;exact⟨C',dx,dy,s',i1,i2,hd,k _ C H (.refl s) (.bl _)⟩
  ·cases q
noncomputable def r9:D->Option (cu)
 |.lst ds=>some ds
 |.tup ds=>some ds
 |_=>none
def memD (d:D) (ds:cu):Bool:=ds.any λe=>jf e d
def BD (d e:D):Option D:=(r9 e).bind λds=>if ju ds<=30 then some (.bl (memD d ds))else none
def BE (d e:D):Option D:=(r9 e).bind λds=>if ju ds<=30 then some (.bl (!(memD d ds)))else none
theorem tL {cM:cj}{σ:L2.St}{C H:Hp}{s:cy}(I:Inv X cM σ H s) (sub:dM C H) {A:cC}(hu:A.units+31<cLine) {d:D}{w:V}{z:cx}(iw:Is C w d) (rz:RelV w z):
  ∀{xs:List V}{ds:cu}{dD:cw},ju ds<=30->IsL C xs ds->Vals xs dD->∃e:cx->Bool,(∀y∈dD,SeqAt.EqAt A.in1 s y z (e y))/\dD.any e=memD d ds:=λ{xs ds dD} hn l r=>by
 classical
 have one:∀{v:V}{u:cx}{c:D},c∈ds->Is C v c->RelV v u->SeqAt.EqAt A.in1 s u z (jf c d):=λ{v u c} hc i ru=>
  BC I sub 30 A.in1 (by show A.units+1+30<cLine;omega) (aD (lr hc) hn) i iw ru rz
 let e:cx->Bool:=λu=>if h:∃v c,c∈ds/\Is C v c/\RelV v u then jf h.choose_spec.choose d else false
 have he:∀{v u c},c∈ds->Is C v c->RelV v u->e u=jf c d:=λ{v u c} hc i ru=>by
  have hx:∃v c,c∈ds/\Is C v c/\RelV v u:=⟨v,c,hc,i,ru⟩;show(if h:∃v c,c∈ds/\Is C v c/\RelV v u then jf h.choose_spec.choose d else false)=_
  rw[dif_pos hx];obtain⟨h1,h2,h3⟩:=hx.choose_spec.choose_spec;have ev:hx.choose=v:=h3.inj ru;have ec:hx.choose_spec.choose=c:=by
   have Jg:Is C v hx.choose_spec.choose:=by rw[<-ev];exact h2
   exact Jg.inj i
  rw[ec]
 refine⟨e,λy hy=>?_,?_⟩
 ·obtain⟨j,hj,ej⟩:=List.getElem_of_mem hy;have g1:xs[j]? =some (xs[j]'(by rw[r.length];exact hj)):=ah _
  obtain⟨u1,q1,k1⟩:=r.get g1;obtain⟨c,e1,i1⟩:=l.get' g1;have hc:=bh e1;rw[ah hj]at q1;have eu:u1=y:=by rw[<-ej];exact(aS q1).symm
  subst eu;rw[he hc i1 k1];exact one hc i1 k1
 ·have aux:∀{xs:List V}{es:cu}{dD:cw},(∀c∈es,c∈ds)->IsL C xs es->Vals xs dD->dD.any e=es.any λc=>jf c d:=by
   intro xs es dD hs l;induction es generalizing xs dD with
   |nil=>cases l;intro r;cases r;rfl
   |cons c es ih=>
    intro r;cases l with
    |cons i l=>
     cases r with
     |cons rr r=>
      rw[bF,bF,he (hs c af) i rr,ih (λc hc=>hs c (ai _ hc)) l r]
  exact aux (λc hc=>hc) l r
theorem Ov (hu:X.A.units+64<cLine):xp X .In BD:=by
 refine⟨λx y H Q=>∃C dx ds,dM C H/\Is C x dx/\(Is C y (.lst ds)\/Is C y (.tup ds))/\ju ds<=30/\Q (.bl (memD dx ds)) H,?_,?_⟩
 ·rintro cM s σ H x y v u Q I rx ry ⟨C,dx,ds,sub,ix,iy,hd,q⟩
  rcases iy with iy|iy
  ·cases iy with
   |lst h l=>
    cases ry;obtain⟨dD,r,pl,hz⟩:=I.list (.inl (h.same sub));obtain⟨e,h1,h2⟩:=tL I sub (A:=X.A) (by omega) ix rx hd l r
    refine SeqAt.in_listAt e pl.isList (λw hw=>h1 w (by simpa using hw)) ⟨.bl _,H,I,rfl,?_⟩
    rw[show dD.toArray.any e=dD.any e by simp,h2]
    exact q
  ·cases iy with
   |tup h l=>
    cases ry;obtain⟨dD,r,pl,hz⟩:=I.tuple (kR.of (K:=X.K) (sub _ _ h));obtain⟨e,h1,h2⟩:=tL I sub (A:=X.A) (by omega) ix rx hd l r
    refine SeqAt.in_tupleAt e pl (λw hw=>h1 w (by simpa using hw)) ⟨.bl _,H,I,rfl,?_⟩
    rw[show dD.toArray.any e=dD.any e by simp,h2]
    exact q
 ·intro C H x y dx dy d Q s ix iy q k;unfold BD at q;cases hs:r9 dy with
  |none=>rw[hs]at q;cases q
  |some ds=>
   rw[hs]at q;simp only[ao]at q;split at q
   ·rename_i hd;cases q;obtain⟨C',s',i1,i2⟩:=qa.two s ix iy;refine⟨C',dx,ds,s',i1,?_,hd,k _ C H (.refl s) (.bl _)⟩;unfold r9 at hs;split at hs
    ·cases hs;exact .inl i2
    ·cases hs;exact .inr i2
    ·cases hs
   ·cases q
theorem BF (hu:X.A.units+64<cLine):xp X .NotIn BE:=by
 refine⟨λx y H Q=>∃C dx ds,dM C H/\Is C x dx/\(Is C y (.lst ds)\/Is C y (.tup ds))/\ju ds<=30/\Q (.bl (!(memD dx ds))) H,?_,?_⟩
 ·rintro cM s σ H x y v u Q I rx ry ⟨C,dx,ds,sub,ix,iy,hd,q⟩
  rcases iy with iy|iy
  ·cases iy with
   |lst h l=>
    cases ry;obtain⟨dD,r,pl,hz⟩:=I.list (.inl (h.same sub));obtain⟨e,h1,h2⟩:=tL I sub (A:=X.A) (by omega) ix rx hd l r
    refine SeqAt.notIn_listAt e pl.isList (λw hw=>h1 w (by simpa using hw)) ⟨.bl _,H,I,rfl,?_⟩
    rw[show dD.toArray.any e=dD.any e by simp,h2]
    exact q
  ·cases iy with
   |tup h l=>
    cases ry;obtain⟨dD,r,pl,hz⟩:=I.tuple (kR.of (K:=X.K) (sub _ _ h));obtain⟨e,h1,h2⟩:=tL I sub (A:=X.A) (by omega) ix rx hd l r
    refine SeqAt.notIn_tupleAt e pl (λw hw=>h1 w (by simpa using hw)) ⟨.bl _,H,I,rfl,?_⟩
    rw[show dD.toArray.any e=dD.any e by simp,h2]
    exact q
 ·intro C H x y dx dy d Q s ix iy q k;unfold BE at q;cases hs:r9 dy with
  |none=>rw[hs]at q;cases q
  |some ds=>
   rw[hs]at q;simp only[ao]at q;split at q
   ·rename_i hd;cases q;obtain⟨C',s',i1,i2⟩:=qa.two s ix iy;refine⟨C',dx,ds,s',i1,?_,hd,k _ C H (.refl s) (.bl _)⟩;unfold r9 at hs;split at hs
    ·cases hs;exact .inl i2
    ·cases hs;exact .inr i2
    ·cases hs
   ·cases q
noncomputable def WE:D->D->Option Bool
 |.eV,.eV=>some true
 |.bl a,.bl b=>some (a==b)
 |.bl _,.eV=>some false
 |.int _,.eV=>some false
 |.str _,.eV=>some false
 |.tup _,.eV=>some false
 |.lst _,.eV=>some false
 |.eV,.bl _=>some false
 |_,_=>none
def Ox (d e:D):Option D:=(WE d e).map λb=>.bl (!b)
theorem U6 {C H:Hp}{x y:V}{dx dy:D}{b:Bool}(ix:qa C H x dx) (iy:qa C H y dy) (h:WE dx dy=some b):
  (∃p q,x=.bl p/\y=.bl q/\b=(p==q))\/(y=.eV/\b=decide (x=.eV))\/(x=.eV/\(∃q,y=.bl q)/\b=false):=by
 unfold WE at h;split at h
 ·cases h;have:=ix.is (λ_ z=>by cases z);cases this
  have:=iy.is (λ_ z=>by cases z);cases this
  exact .inr (.inl ⟨rfl,by simp⟩)
 ·rename_i p q;cases h;have:=ix.is (λ_ z=>by cases z);cases this
  have:=iy.is (λ_ z=>by cases z);cases this
  exact .inl ⟨p,q,rfl,rfl,rfl⟩
 ·cases h;have:=ix.is (λ_ z=>by cases z);cases this
  have:=iy.is (λ_ z=>by cases z);cases this
  exact .inr (.inl ⟨rfl,by simp⟩)
 ·cases h;have:=ix.is (λ_ z=>by cases z);cases this
  have:=iy.is (λ_ z=>by cases z);cases this
  exact .inr (.inl ⟨rfl,by simp⟩)
 ·cases h;have:=ix.is (λ_ z=>by cases z);cases this
  have:=iy.is (λ_ z=>by cases z);cases this
  exact .inr (.inl ⟨rfl,by simp⟩)
 ·cases h;have:=ix.is (λ_ z=>by cases z);cases this
  have:=iy.is (λ_ z=>by cases z);cases this
  exact .inr (.inl ⟨rfl,by simp⟩)
 ·cases h;have:=iy.is (λ_ z=>by cases z);cases this
  rcases ix with ix|⟨a,xs,ds,rfl,_⟩
  ·cases ix;exact .inr (.inl ⟨rfl,by simp⟩)
  ·exact .inr (.inl ⟨rfl,by simp⟩)
 ·rename_i q;cases h;have:=ix.is (λ_ z=>by cases z);cases this
  have:=iy.is (λ_ z=>by cases z);cases this
  exact .inr (.inr ⟨rfl,⟨q,rfl⟩,rfl⟩)
 ·cases h
theorem Hu:xp X .IsNot Ox:=by
 refine⟨λx y H Q=>∃b,((∃p q,x=.bl p/\y=.bl q/\b=(p==q))\/(y=.eV/\b=decide (x=.eV))\/(x=.eV/\(∃q,y=.bl q)/\b=false))/\Q (.bl (!b)) H,?_,?_⟩
 ·rintro cM s σ H x y v u Q I rx ry ⟨b,h,q⟩
  rcases h with⟨p,p',rfl,rfl,rfl⟩|⟨rfl,rfl⟩|⟨rfl,⟨p,rfl⟩,rfl⟩
  ·cases rx;cases ry;exact isnot_bool ⟨.bl _,H,I,rfl,q⟩
  ·exact NU cM s σ H x .eV v u Q I rx ry ⟨rfl,q⟩
  ·cases rx;cases ry;exact wpAny_isNot_other (by rfl) (by intro z;cases z) ⟨.bl _,H,I,rfl,q⟩
 ·intro C H x y dx dy d Q s ix iy q k;unfold Ox at q;cases hb:WE dx dy with
  |none=>rw[hb]at q;cases q
  |some b=>rw[hb]at q;cases q;exact⟨b,U6 ix iy hb,k _ C H (.refl s) (.bl _)⟩
noncomputable def intsOf:cu->Option (cn)
 |[]=>some []
 |.int i::r=>(intsOf r).map λns=>i::ns
 |_=>none
omit [Mem] in
theorem hJ:∀{ds:cu}{ns:cn},intsOf ds=some ns->ds=ns.map D.int
 |[],_,h=>by cases h;rfl
 |.int i::r,ns,h=>by
  unfold intsOf at h;cases hr:intsOf r with
  |none=>rw[hr]at h;cases h
  |some ms=>rw[hr]at h;cases h;rw[hJ hr];rfl
omit [Mem] in
theorem jv (ns:cn):intsOf (ns.map D.int)=some ns:=by
 induction ns with
 |nil=>rfl
 |cons n r ih=>show(intsOf (r.map D.int)).map _=_;rw[ih];rfl
def WG:D->D->Option D
 |.int i,.int j=>some (.bl (decide (i<j)))
 |.tup a,.tup b=>(intsOf a).bind λns=>(intsOf b).map λms=>.bl (HT.lexLt ns ms)
 |_,_=>none
theorem U7 (hu:X.A.units+64<cLine):xp X .Lt WG:=by
 refine⟨_,Ul.or (Rq (by omega)),?_⟩
 intro C H x y dx dy d Q s ix iy q k;unfold WG at q;split at q
 ·rename_i i j;cases q;exact .inl ⟨i,j,ix.int,iy.int,k _ C H (.refl s) (.bl _)⟩
 ·rename_i a b;cases ha:intsOf a with
  |none=>rw[ha]at q;cases q
  |some ns=>
   cases hb:intsOf b with
   |none=>rw[ha,hb]at q;cases q
   |some ms=>
    rw[ha,hb]at q;cases q;obtain⟨p,xs,rfl,h1,l1,_⟩:=ix.tup (K:=X.K) s;obtain⟨p',ys,rfl,h2,l2,_⟩:=iy.tup (K:=X.K) s;rw[hJ ha]at l1;rw[hJ hb]at l2;cases l1.l8;cases l2.l8;exact .inr ⟨p,p',ns,ms,rfl,rfl,h1,h2,k _ C H (.refl s) (.bl _)⟩
 ·cases q
noncomputable def iB:cc
 |[.lst ds]=>some (.int ds.length)
 |[.tup ds]=>some (.int ds.length)
 |[.str z]=>if z.length<=1000000 then some (.int z.length)else none
 |_=>none
theorem zq.one (h:zq C H vs [d]):∃v,vs=[v]/\qa C H v d:=by
 cases h with|cons h t=>cases t;exact⟨_,rfl,h⟩
theorem zq.two {C H:Hp}{vs:List V}{d e:D}(h:zq C H vs [d,e]):∃v w,vs=[v,w]/\qa C H v d/\qa C H w e:=by
 cases h with|cons h t=>cases t with|cons h2 t=>cases t;exact⟨_,_,rfl,h,h2⟩
theorem sd:vR X (.builtin "len") iB:=by
 refine⟨_,Br.or Bs,?_⟩;intro C H vs ds d Q s i q k;unfold iB at q;split at q
 ·cases q;obtain⟨v,rfl,j⟩:=i.one;obtain⟨p,xs,rfl,hq,l⟩:=j.list (K:=X.K) s;exact .inl ⟨p,xs,rfl,.inl hq,by rw[l.length];exact k _ C H (.refl s) (.int _)⟩
 ·cases q;obtain⟨v,rfl,j⟩:=i.one;obtain⟨p,xs,rfl,hq,l,_⟩:=j.tup (K:=X.K) s;exact .inl ⟨p,xs,rfl,.inr hq,by rw[l.length];exact k _ C H (.refl s) (.int _)⟩
 ·split at q
  ·rename_i hz;cases q;obtain⟨v,rfl,j⟩:=i.one;have:=j.is (λ_ z=>by cases z);cases this
   exact .inr ⟨_,rfl,aD hz (by decide),k _ C H (.refl s) (.int _)⟩
  ·cases q
 ·cases q
noncomputable def my:cc
 |[.lst ds]=>some (.tup ds)
 |[.tup ds]=>some (.tup ds)
 |_=>none
theorem jm:vR X (.type "tuple") my:=by
 refine⟨_,zk,?_⟩;intro C H vs ds d Q s i q k;unfold my at q;split at q
 ·cases q;obtain⟨v,rfl,j⟩:=i.one;obtain⟨p,xs,rfl,hq,l⟩:=j.list (K:=X.K) s;exact⟨p,xs,rfl,.inl ⟨hq,λt ht=>k _ _ _ (.new s ht) (.tup cY (l.mono (eA (s.free ht))))⟩⟩
 ·cases q;obtain⟨v,rfl,j⟩:=i.one;obtain⟨p,xs,rfl,hq,l,hc⟩:=j.tup (K:=X.K) s;exact⟨p,xs,rfl,.inr ⟨hq,k _ C H (.refl s) (.tup hc l)⟩⟩
 ·cases q
noncomputable def Hv:cc
 |[.int i,.int j]=>some (.int (if j<i then j else i))
 |_=>none
theorem RM (hc:X.calm=true):vR X (.builtin "min") Hv:=by
 refine⟨_,IV hc,?_⟩;intro C H vs ds d Q s i q k;unfold Hv at q;split at q
 ·rename_i i' j';cases q;obtain⟨v,w,rfl,i1,i2⟩:=i.two;exact⟨i',j',by rw[i1.int,i2.int],k _ C H (.refl s) (.int _)⟩
 ·cases q
noncomputable def Jo:D->D->Option (cu)
 |.lst a,.lst b=>if a.length+b.length<=1000000 then some (a++b)else none
 |_,_=>none
end
end DL
namespace DL
open PySem PySem.Spec PyProof.Rows L2
variable [Mem]
omit [Mem] in
theorem gF:bootBuiltins "tuple"=some (.type "tuple"):=by decide +kernel
omit [Mem] in
theorem Oy:bootBuiltins "list"=some (.type "list"):=by decide +kernel
omit [Mem] in
theorem mD:bootBuiltins "len"=some (.builtin "len"):=by decide +kernel
omit [Mem] in
theorem FL:bootBuiltins "all"=some (.builtin "all"):=by decide +kernel
omit [Mem] in
theorem BG:bootBuiltins "min"=some (.builtin "min"):=by decide +kernel
omit [Mem] in
theorem jy:bootBuiltins "sorted"=some (.builtin "sorted"):=by decide +kernel
theorem qa.Qk (s:dM C H) (h:qa C H v (.lst ds)):∃a xs,v=.ref a/\Rd H a (.lst xs)/\IsL C xs ds:=by
 rcases h with h|⟨a,xs,es,h1,h2,h3,h4,h5⟩
 ·cases h with
  |lst h l=>exact⟨_,_,rfl,h.same s,l⟩
 ·cases h2;exact⟨a,xs,h1,.inl h4,h5⟩
section
variable {X:Cx}{a b c e o:cF}{pos p p2:Pos}{f g h:bZ}
theorem Oz:rY X (binaryOp .Add) (λx y H Q=>∃l b xs zs,x=.ref l/\y=.ref b/\Rd H l (.lst xs)/\Rd H b (.lst zs)/\xs.length+zs.length<=sizeLine/\∀p,H p=none->Q (.ref p) (upd H p (.lst (xs++zs)))):=by
 intro cM s σ H x y v u Q I rx ry h;obtain⟨l,b,xs,zs,rfl,rfl,hH,hB,hz,q⟩:=h;cases rx;cases ry;obtain⟨z,dD,n,r,e⟩:=hH.ok I.fJ;obtain⟨z2,oP,n2,r2,e2⟩:=hB.ok I.fJ;have l1:=r.length;have l2:=r2.length;refine PySem.P.add_list e e2 ?_ (by rw[aq,aq];omega)
 have ea:dD.toArray++oP.toArray=(dD++oP).toArray:=by simp
 rw[ea];exact⟨.ref _,_,I.XH (t':=s.toks) (r.append r2) (by rw[aQ];omega),rfl,q _ I.fresh⟩
theorem OA:XR (λx y H Q=>∃l b xs zs,x=.ref l/\y=.ref b/\Rd H l (.lst xs)/\Rd H b (.lst zs)/\xs.length+zs.length<=sizeLine/\∀p,H p=none->Q (.ref p) (upd H p (.lst (xs++zs)))) Jo:=λC H x y dx dy ds Q s ix iy q k=>by
 unfold Jo at q;split at q
 ·split at q
  ·rename_i hz;cases q;obtain⟨p1,xs,rfl,h1,l1⟩:=ix.Qk s;obtain⟨p2,ys,rfl,h2,l2⟩:=iy.Qk s;exact⟨p1,p2,xs,ys,rfl,rfl,h1,h2,by rw[l1.length,l2.length];exact aD hz (by decide),λt ht=>k t _ C _ (.fF s ht) ht (s.free ht) cY (l1.append l2)⟩
  ·cases q
 ·cases q
def cutD (ds:cu) (lo hi:Option Int):cu:=(ds.drop (HT.ip ds.length 0 lo)).take (HT.ip ds.length ds.length hi-HT.ip ds.length 0 lo)
noncomputable def OB:fE->Option (Option Int):=λ_=>some none
noncomputable def zu (f:bZ):fE->Option (Option Int):=λδ=>match f δ with|some (.int i)=>some (some i)|_=>none
noncomputable def tP (f:fE->Option (Option Int)):TO:=λσ H Q=>∃C δ o,Sx δ σ C H/\f δ=some o/\∀C' H',Ev C H C' H'->Q o H'
omit [Mem] in
theorem _root_.L2.PO.imp {X:Cx}{e:Option cF}{t t':TO}(h:L2.PO X e t) (m:∀σ H Q,t' σ H Q->t σ H Q):L2.PO X e t':=λcM s σ H Q I q=>h cM s σ H Q I (m σ H Q q)
def OD (f:bZ) (lo hi:fE->Option (Option Int)):bX:=λδ=>match f δ with
 |some (.lst ds)=>(lo δ).bind λl=>(hi δ).map λu=>cutD ds l u
 |_=>none
theorem IsL.cut (l:IsL C xs ds) (lo hi:Option Int):IsL C (Dk xs lo hi) (cutD ds lo hi):=by
 unfold Dk cutD;rw[l.length];exact(l.drop _).take _
theorem DD (hc:X.calm=true):i8 X (.builtin "all") (λxs H Q=>∃(p:cE) (bs:List Bool),xs=[.ref p]/\pZ X.K H p (bs.map V.bl)/\Q (.bl (bs.all id)) H):=by
 intro cM s σ H xs us Q I r h;obtain⟨p,bs,rfl,hq,q⟩:=h;obtain⟨u,rfl,r1⟩:=vals1 r;cases r1;obtain⟨dD,rv,pl,hz⟩:=I.list hq;have fu:p<s.heap.objs.size:=by obtain⟨o,n,e,_⟩:=pl;exact aB e
 have hlen:=rv.length;rw[ae]at hlen;have U8:∀(i:Nat) (v:cx),dD.toArray[i]? =some v->v=.bool (bs.getD i false):=λi v hv=>by
  have Ki:dD[i]? =some v:=by simpa using hv
  have hi:i<dD.length:=(List.getElem?_eq_some_iff.mp Ki).1;have g1:(bs.map V.bl)[i]? =some (.bl (bs.getD i false)):=by
   rw[av,ah (by omega),ak,ah (by omega)];rfl
  obtain⟨w,h1,h2⟩:=rv.get g1;rw[Ki]at h1;cases h1;exact h2
 refine call_all_walk (wpAny_pyIter_list pl.isList ⟨s.heap.objs.size,_,_,_,_,_,λi=>bs.getD i false,rfl,Walks.list (A:=X.A.in1) (I.ok.hd hc) s.heap.objs.size p (aE fu) dD.toArray,⟨⟨_,az _ rfl,rfl,rfl⟩,?_⟩,λi v s' Q' E' hv hQ=>?_,λh' tk kk=>?_⟩)
 ·obtain⟨o,n,e,h1,h2,h3⟩:=pl;exact⟨o,ag _ e,h1,n,h3⟩
 ·rw[U8 i v hv];exact bP hQ
 ·have I1:L2.Inv X cM σ H {s with heap:=s.heap.push {cls:=.type "list_iterator",data:=.fields #[.ref p,.int 0 0]}}:=I.kept (t':=s.toks) λb o e=>ag _ e
  obtain⟨f0,f1,f2,f3,f4,f5⟩:=I.KA (H':=H) (au _) (I.fJ.fresh (au _));have I2:=I1.turned (t':=tk) (h':=h') (it:=s.heap.objs.size) (λb o hb e=>kk b o (by simpa using hb) e) f0 f1 f3 f4 f5
  refine⟨.bl (bs.all id),H,I2,?_,q⟩;show Value.bool _=Value.bool _
  congr 1
  rw[aq,<-hlen];clear U8 hlen;rw[Bool.eq_iff_iff];simp only[List.all_eq_true,List.mem_range,id];constructor
  ·intro h b hb;obtain⟨i,hi,e⟩:=List.getElem_of_mem hb;have:=h i hi;rw[ak,ah hi]at this;rw[<-e];exact this
  ·intro h i hi;rw[ak,ah hi];exact h _ (List.getElem_mem hi)
noncomputable def n6:cu->Option (List Bool)
 |[]=>some []
 |.bl i::r=>(n6 r).map λns=>i::ns
 |_=>none
omit [Mem] in
theorem xq:∀{ds:cu}{ns:List Bool},n6 ds=some ns->ds=ns.map D.bl
 |[],_,h=>by cases h;rfl
 |.bl i::r,ns,h=>by
  unfold n6 at h;cases hr:n6 r with
  |none=>rw[hr]at h;cases h
  |some ms=>rw[hr]at h;cases h;rw[xq hr];rfl
omit [Mem] in
theorem Jp (ns:List Bool):n6 (ns.map D.bl)=some ns:=by
 induction ns with
 |nil=>rfl
 |cons n r ih=>show(n6 (r.map D.bl)).map _=_;rw[ih];rfl
def FN:cc
 |[.lst ds]=>(n6 ds).map λbs=>.bl (bs.all id)
 |_=>none
theorem Lp (hc:X.calm=true):vR X (.builtin "all") FN:=by
 refine⟨_,DD hc,?_⟩;intro C H vs ds d Q s i q k;unfold FN at q;split at q
 ·rename_i es;cases hb:n6 es with
  |none=>rw[hb]at q;cases q
  |some bs=>
   rw[hb]at q;cases q;obtain⟨v,rfl,j⟩:=i.one;obtain⟨p,xs,rfl,hq,l⟩:=j.list (K:=X.K) s;rw[xq hb]at l;cases l.Fy;exact⟨p,bs,rfl,hq,k _ C H (.refl s) (.bl _)⟩
 ·cases q
theorem Aj (hg:Gl X "range") (hm:X.mg "range"=none) (ha:PA X [a] ta) (hs:starEach [a] X.env=[(false,eval a X.env)]:=by exact fH rfl):PE X (.Call (.Name "range" p) [a] [] pos) (λσ H Q=>ta σ H λvs H1=>∃j:Int,vs=[.int j]/\∀t,H1 t=none->Q (.ref t) (upd H1 t (.Nz 0 j))):=by
 intro cM s σ H Q I h;refine Call_ (oM I hg hm boot_range (PyProof.Rows.callWith_type1 (gU (ha pos cM s σ H _ I h) λus s1 ⟨vs,H1,I1,r1,q1⟩=>?_) hs rfl))
 obtain⟨j,e,q⟩:=q1;subst e;obtain⟨u,rfl,t,rfl⟩:=vals1 r1;refine call_range_1 ⟨.ref s1.heap.objs.size,_,I1.laid (o:=.Nz 0 j) (λb o e=>ag _ e) (au _) ?_,rfl,q _ (I1.fJ.fresh (au _))⟩
 exact⟨_,_,_,az _ rfl⟩
theorem se:∀(dD:cw) (lo:Int),dD.length=n->(∀(j:Nat) (v:cx),dD[j]? =some v->∃t,v=Value.int (lo+(j:Int)) t)->Vals ((dg lo n).map V.int) dD:=by
 induction n with
 |zero=>intro dD lo hl _;cases dD with|nil=>exact .nil|cons _ _=>simp at hl
 |succ n ih=>
  intro dD lo hl h;cases dD with
  |nil=>simp at hl
  |cons v r=>
   refine .cons ?_ (ih r (lo+1) (by simpa using hl) λj w hw=>?_)
   ·obtain⟨t,e⟩:=h 0 v rfl;exact⟨t,by rw[e];simp⟩
   ·obtain⟨t,e⟩:=h (j+1) w (by simpa using hw)
    exact⟨t,by rw[e];congr 1;omega⟩
theorem zv (hc:X.calm=true):i8 X (.type "list") (λxs H Q=>∃(p:cE) (hi:Int),xs=[.ref p]/\H p=some (.Nz 0 hi)/\hi<1000000/\-1000000<hi/\∀l,H l=none->Q (.ref l) (upd H l (.lst ((dg 0 hi.toNat).map V.int)))):=by
 intro cM s σ H xs us Q I r h;obtain⟨p,hi,rfl,hp,h1,h2,q⟩:=h;obtain⟨u,rfl,rx⟩:=vals1 r;cases rx;obtain⟨t,u,v,e⟩:=I.fJ p _ hp;refine call_list_range (n:=hi.toNat) (I.ok.hd hc) e (small_one (by omega) (by omega) (by omega) (by omega)) ?_ (by omega) λh' tk gN c' kp e' it=>?_
 ·rw[rangeSize_one];split<;>omega
 ·refine⟨.ref s.heap.objs.size,_,I.laid (t':=tk) kp (au _) (show ie X.prog X.w _ h' _ (.lst ((dg 0 hi.toNat).map V.int))from⟨?_,gN.toList,c',?_,by simpa using e'⟩),rfl,q _ (I.fJ.fresh (au _))⟩
  ·rw[ae,dQ];exact bg (rk (by omega))
  ·refine se gN.toList 0 (by simpa using it.1) λj v hv=>?_
   obtain⟨t,e⟩:=it.2 j v (by simpa using hv)
   exact⟨t,by rw[e];congr 1;omega⟩
end
end DL
namespace So
open PySem PySem.W PyProof.Rows
noncomputable def nH {α:Type}(n:Nat) (P:α->Prop):KasT α->Prop
 |.ret a=>P a
 |.ask i j k=>i<n/\j<n/\∀b,nH n P (k b)
theorem nH.bind {α β:Type}{n:Nat}{P:α->Prop}{R:β->Prop}{f:α->KasT β}(hf:∀a,P a->nH n R (f a)):∀{t:KasT α},nH n P t->nH n R (t.bind f)
 |.ret a,h=>hf a h
 |.ask i j k,h=>⟨h.1,h.2.1,λb=>nH.bind hf (h.2.2 b)⟩
def Al (p:Array Nat) (n:Nat):Prop:=0<n/\∀x∈p,x<n
theorem Al.at (h:Al p n) (i:Nat):p.getD i 0<n:=by
 rw[aT];cases e:p[i]? with
 |none=>exact h.1
 |some x=>exact h.2 x (Array.mem_of_getElem? e)
theorem Al.perm (h:Al p n) (e:q.Perm p):Al q n:=⟨h.1,λx hx=>h.2 x (e.mem_iff.mp hx)⟩
theorem BH (h:Al p n):∀(f m:Nat),nH n (λ_=>True) (kas_asc p f m)
 |0,_=>trivial
 |f+1,m=>⟨h.at _,h.at _,λb=>by
  cases b with
  |true=>exact trivial
  |false=>exact BH h f (m+1)⟩
theorem tM:∀(f:Nat) (p:Array Nat) (m q:Nat),Al p n->nH n (λr=>Al r.1 n) (kas_desc f p m q)
 |0,_,_,_,h=>h
 |f+1,p,m,q,h=>⟨h.at _,h.at _,λb=>by
  cases b with
  |true=>
   show nH n _ (if q>0 then _ else _)
   split
   ·exact tM f _ _ _ (h.perm (jh _ _ _))
   ·exact tM f _ _ _ h
  |false=>exact⟨h.at _,h.at _,λb=>by
    cases b with
    |true=>exact h
    |false=>exact tM f _ _ _ h⟩⟩
theorem Ak (h:Al p n):nH n (λr=>Al r.2 n) (kas_tail3 m k p):=
 nH.bind (n:=n) (R:=λr:Nat×Array Nat=>Al r.2 n) (P:=λ_=>True) (f:=λm'=>KasT.ret (m',kas_rev p 0 m)) (λ_ _=>(h.perm (jh _ _ _):Al (kas_rev p 0 m) n)) (BH (h.perm (jh _ _ _)) _ _)
theorem tN (h:Al p n):nH n (λr=>Al r.2 n) (kas_descPart m k p):=
 nH.bind (λr hr=>by
  split
  ·exact Ak (hr.perm (jh _ _ _))
  ·exact Ak hr) (tM _ _ _ _ h)
theorem Jq (h:Al p n):nH n (λr=>Al r.2 n) (kas_count k p):=
 nH.bind (λm _=>by
  split
  ·exact h
  ·split
   ·exact⟨h.at _,h.at _,λb=>by
     cases b with
     |true=>exact h
     |false=>exact tN (h.perm (jh _ _ _))⟩
   ·exact tN h) (BH h _ _)
theorem uW (h:Al p n):∀(f l r:Nat),nH n (λ_=>True) (kas_place p k f l r)
 |0,_,_=>trivial
 |f+1,l,r=>by
  unfold kas_place;split
  ·exact trivial
  ·exact⟨h.at _,h.at _,λb=>by
    cases b with
    |true=>exact uW h f _ _
    |false=>exact uW h f _ _⟩
theorem Hw {n:Nat}:∀(f:Nat) (p:Array Nat) (k:Nat),Al p n->nH n (λr=>Al r n) (kas_bin f p k)
 |0,_,_,h=>h
 |f+1,p,k,h=>nH.bind (λl _=>Hw f _ _ (h.perm (bubble_perm _ _ _))) (uW h _ _ _)
theorem xr (hn:0<n):nH n (λr=>Al r n) (kas_sort n):=
 nH.bind (λr hr=>by
  split
  ·exact Hw _ _ _ hr
  ·exact hr) (Jq ⟨hn,λx hx=>by simpa using hx⟩)
theorem rl (hc:∀i j (Q:Bool->cy->Prop),i<n->j<n->Q (lt i j) s->cmp i j Q s):∀(t:KasT α),nH n P t->Q (iU lt t) s->t.kasWp cmp Q s
 |.ret _,_,h=>h
 |.ask i j k,a,h=>hc i j _ a.1 a.2.1 (rl hc (k (lt i j)) (a.2.2 _) h)
end So
namespace HT
theorem ma:∀a:cn,lexLt a a=false
 |[]=>rfl
 |x::a=>by rw[iu,if_pos rfl];exact ma a
theorem lu:∀{a b c:cn},lexLt a b=true->lexLt b c=true->lexLt a c=true
 |[],[],_,h,_=>by cases h
 |[],_::_,[],_,h=>by cases h
 |[],_::_,_::_,_,_=>rfl
 |_::_,[],_,h,_=>by cases h
 |_::_,_::_,[],_,h=>by cases h
 |x::a,y::b,z::c,h1,h2=>by
  rw[iu]at h1 h2 ⊢;split at h1
  ·rename_i e;subst e;split at h2
   ·rename_i e2;subst e2;rw[if_pos rfl];exact lu h1 h2
   ·rename_i e2;rw[if_neg e2];exact h2
  ·rename_i e;have q1:x<y:=bJ h1;split at h2
   ·rename_i e2;subst e2;rw[if_neg e];exact h1
   ·have q2:y<z:=bJ h2;rw[if_neg (by omega)];exact aR (by omega)
theorem fR:∀{a b:cn},lexLt a b=false->lexLt b a=false->a=b
 |[],[],_,_=>rfl
 |[],_::_,h,_=>by cases h
 |_::_,[],_,h=>by cases h
 |x::a,y::b,h1,h2=>by
  rw[iu]at h1 h2;by_cases e:x=y
  ·subst e;rw[if_pos rfl]at h1 h2;rw[fR h1 h2]
  ·rw[if_neg e]at h1;rw[if_neg (Ne.symm e)]at h2;have q1:=of_decide_eq_false h1;have q2:=of_decide_eq_false h2;omega
end HT
namespace L2
open PySem PySem.Spec PyProof.Rows
theorem rT.has (x:rT P w H h) (e:H a=some o):∃ob,h.get? a=some ob:=by
 have q:=x a o e;cases o with
 |lst xs=>obtain⟨_,_,_,_,e⟩:=q;exact⟨_,e⟩
 |tup xs=>obtain⟨_,_,_,ob,e,_⟩:=q;exact⟨ob,e⟩
 |dK kvs=>obtain⟨_,_,_,_,o,_,_,e,_⟩:=q;exact⟨_,e⟩
 |dT kvs=>obtain⟨_,_,_,_,o,_,_,e,_⟩:=q;exact⟨_,e⟩
 |set S n=>obtain⟨o,_,_,_,e,_⟩:=q;exact⟨_,e⟩
 |ins C dx fs=>obtain⟨_,_,_,e,_⟩:=q;exact⟨_,e⟩
 |own y=>obtain⟨_,e⟩:=q;exact⟨_,e⟩
 |xd fs=>obtain⟨_,⟨_,_,_,e,_⟩,_⟩:=q;exact⟨_,e⟩
 |Nz lo hi=>obtain⟨_,_,_,e⟩:=q;exact⟨_,e⟩
 |yZ ob u=>obtain⟨e,_⟩:=q;exact⟨_,e⟩
 |E6 ps=>obtain⟨_,e,_⟩:=(show zV H h a ps from q);exact⟨_,e⟩
 |met f y=>exact⟨_,(show h.get? a=some _ from q)⟩
 |ext φ=>obtain⟨_,⟨_,e⟩,_⟩:=q;exact⟨_,e⟩
theorem xt:∀vs:cw,(vs.zip vs).map (·.2)=vs
 |[]=>rfl
 |v::r=>congrArg (v:: ·) (xt r)
theorem Am {α:Type}{p q:α->Bool}:∀{l:List α},(∀x∈l,p x=true->q x=true)->(∃x∈l,q x=true/\p x=false)->l.countP p<l.countP q
 |[],_,h=>by obtain⟨x,hx,_⟩:=h;cases hx
 |y::l,hs,h=>by
  have Lc:∀x∈l,p x=true->q x=true:=λx hx=>hs x (ai _ hx)
  have le:l.countP p<=l.countP q:=List.countP_mono_left Lc;rw[List.countP_cons,List.countP_cons];obtain⟨x,hx,h1,h2⟩:=h;rcases List.mem_cons.mp hx with rfl|hx
  ·rw[h1,h2];simp only[if_true,aI,bD];omega
  ·have ih:=Am Lc ⟨x,hx,h1,h2⟩;cases hp:p y with
   |false=>simp only[aI,bD];omega
   |true=>rw[hs y af hp];simp only[if_true];omega
def rn (nss:ck) (a:cn):Int:=((([]:cn)::nss).countP λx=>HT.lexLt x a:Nat)
theorem lO (nss:ck) (i:Nat):nss.getD i []∈([]:cn)::nss:=by
 rw[ak];cases e:nss[i]? with
 |none=>exact af
 |some x=>exact ai _ (bh e)
theorem kr (ha:a∈([]:cn)::nss) (hb:b∈([]:cn)::nss):HT.lexLt a b=decide (rn nss a<rn nss b):=by
 unfold rn;cases h:HT.lexLt a b with
 |true=>
  have:=Am (l:=([]:cn)::nss) (p:=λx=>HT.lexLt x a) (q:=λx=>HT.lexLt x b) (λx _ hx=>HT.lu hx h) ⟨a,ha,h,HT.ma a⟩
  exact(aR (by omega)).symm
 |false=>
  refine(aH ?_).symm;have:(([]:cn)::nss).countP (λx=>HT.lexLt x b)<=(([]:cn)::nss).countP (λx=>HT.lexLt x a):=List.countP_mono_left λx _ hx=>by
   cases h2:HT.lexLt b a with
   |true=>exact HT.lu hx h2
   |false=>rw[HT.fR h h2];exact hx
  omega
noncomputable def Hx (K:W.Frag) (H:Hp):List V->ck->Prop:=Paired λv ns=>∃a,v=.ref a/\kR K H a (ns.map V.int)
theorem qp:∀(us zs:cw) (ns ms:cn) (i:Nat) (fin:Bool),IntsAre us ns->IntsAre zs ms->
  (bb=true\/True)->fin=(if ns.length<ms.length then true else false)->Q (HT.lexLt ns ms) s->W.KatLex prog w A bb fin Q (us.zip zs) i s
 |[],zs,ns,ms,i,fin,h1,h2,_,e,q=>by
  cases h1;show Q fin s;rw[e];cases h2 with
  |nil=>exact q
  |cons n t h=>rw[HT.qj]at q;simpa using q
 |_::_,[],ns,ms,i,fin,h1,h2,_,e,q=>by
  cases h2;cases h1 with
  |cons n t h=>
   show Q fin s;rw[e];rw[HT.qk]at q
   simpa using q
 |u::us,z::zs,ns,ms,i,fin,h1,h2,hb,e,q=>by
  cases h1 with
  |cons n t h1=>
   cases h2 with
   |cons m t' h2=>
    refine W.kat_cons (wpAny_eqBool_int ?_);rw[HT.iu]at q;by_cases RN:n=m
    ·subst RN;rw[bM];rw[if_pos rfl]at q;refine W.kat_yes (qp us zs _ _ (i+1) fin h1 h2 hb ?_ q);rw[e];simp only[ay,Nat.add_lt_add_iff_right]
    ·have jg:(n==m)=false:=by simpa using RN
     rw[jg];rw[if_neg RN]at q;refine W.kat_no ?_;cases To:(bb&&i==0)with
     |true=>exact oneLt_int q
     |false=>exact W.kat_one _ _ (lt_int q)
theorem FO {h:Heap}{a:cE}{m m':cg}(x:h.Ns a m) (y:h.Ns a m'):m=m':=by
 obtain⟨o,es,ep,e,d,_,f⟩:=x;obtain⟨o',Ku,QR,e',d',_,f'⟩:=y;rw[e]at e';cases e';rw[d]at d';injection d' with d1 _
 subst d1
 funext n
 rw[<-f,<-f']
section
variable {X:Cx}
theorem uX:i8 X (.builtin "sorted") (λxs H Q=>∃(p:cE) (ns:cn),xs=[.ref p]/\pZ X.K H p (ns.map V.int)/\ns.length<64/\∀(l:cE) (ms:cn),H l=none->ms.Perm ns->ms.Pairwise (·<= ·)->Q (.ref l) (upd H l (.lst (ms.map V.int)))):=by
 intro cM s σ H xs us Q I r h;obtain⟨p,ns,rfl,hq,zw,q⟩:=h;obtain⟨u,rfl,rx⟩:=vals1 r;cases rx;obtain⟨dD,rv,pl,hz⟩:=I.list hq;have hi:IntsAre dD ns:=intsAre_of rv;have hl:=hi.length;refine sorted_ints pl.isList hi (by omega) λout Bn a1 a2 a3=>?_
 obtain⟨e,he⟩:=sortedAll_at s.heap dD out;refine⟨.ref (s.heap.objs.size+1),_,I.laid (t':=s.toks) (o:=.lst (Bn.map V.int)) (λb o z=>sortedAll_old z) (Nat.le_succ _) ?_,rfl,q _ Bn (I.fJ.fresh (Nat.le_succ _)) a2 a3⟩
 refine⟨?_,out.toList,e,rh a1,by simpa using he⟩
 have:=a2.length_eq;rw[ae];exact bg (kj (by omega))
theorem BI (hl:s.heap.IsList l vs.toArray) (h2:vs.length<2) (h:Q (.ref (s.heap.objs.size+1)) {s with heap:=sortedAll s.heap vs vs.toArray}):wpAny (model prog w) A (call (.builtin "sorted") [.ref l]) Q E s:=by
 refine Calls.call_function_entry kind_sorted plain_sorted entry_sorted (args_sorted1 _) ?_;unfold Builtin.«sorted»;refine aa (m:=checkCount "sorted" 1 1 _) (aj (aa (collect_list hl (aa (wpAny_newList ?_ (hsz:=by rw[bu];omega))) (by rw[bu];omega))))
 have z1:((s.heap.push (seqObj "list" #[] 0)).update s.heap.objs.size (Obj.mapSeq (·++vs.toArray))).objs.size=s.heap.objs.size+1:=by rw[Heap.size_update,size_push']
 generalize hG:(s.heap.push (seqObj "list" #[] 0)).update s.heap.objs.size (Obj.mapSeq (·++vs.toArray))=G at z1
 have h':Q (.ref (s.heap.objs.size+1)) {s with heap:=sortedHeap (G.push (seqObj "list" vs.toArray 0)) (s.heap.objs.size+1) vs vs.toArray}:=by rw[<-hG];exact h
 have o1:(G.push (seqObj "list" vs.toArray 0)).get? (s.heap.objs.size+1)=some (seqObj "list" vs.toArray 0):=by rw[<-z1];exact az _ rfl
 show wpAny _ _ (do let _ <-holding [Value.ref G.objs.size] (call (.builtin "list.sort") [Value.ref G.objs.size]);ret (Value.ref G.objs.size)) _ _ {s with heap:=G.push (seqObj "list" vs.toArray 0)}
 rw[z1];generalize hT:G.push (seqObj "list" vs.toArray 0)=T at o1 h';generalize s.heap.objs.size+1=a at o1 h';have ha:a<T.objs.size:=aB o1;refine aa (bo (bL slot_list_sort ⟨_,o1,rfl⟩ entry_list_sort ?_ (args_list_sort _)));rw[list_sort_plain];refine aa (listItems_at o1 rfl (aa (listUpdate_at o1 rfl ?_ (hsz:=by rw[aq,bu];omega))))
 obtain⟨e1,vS⟩:∃e1,(T.update a (Obj.mapSeq λ_=>#[])).get? a=some (seqObj "list" #[] e1):=⟨_,get?_update_seq o1 (λ_=>#[])⟩
 refine aa (seqEpoch_at vS rfl (aa (wpAny_newTuple (aa (wpAny_newList (bo ?_))) (by show vs.length<=_;rw[bu];omega))))
 have RO:(((T.update a (Obj.mapSeq λ_=>#[])).push (seqObj "tuple" vs.toArray 0)).push (seqObj "list" #[] 0)).get? a=some (seqObj "list" #[] e1):=by
  rw[Heap.get?_push_ne _ _ _ (by rw[size_push',Heap.size_update];exact aE (Nat.lt_succ_of_lt ha)),Heap.get?_push_ne _ _ _ (by rw[Heap.size_update];exact aE ha)]
  exact vS
 show wpAny (model prog w) _ _ _ _ {s with heap:=((T.update a (Obj.mapSeq λ_=>#[])).push (seqObj "tuple" vs.toArray 0)).push (seqObj "list" #[] 0)}
 dsimp only;have hsz:vs.toArray.size<2:=by rw[aq];exact h2
 rw[if_pos hsz,if_pos hsz];refine aa (aj ?_);rw[StateT.run_pure];refine aa (aj ?_);dsimp only;have FP:(vs.toArray.zip vs.toArray).map (·.2)=vs.toArray:=by
  apply Array.toList_inj.mp
  rw[Array.toList_map,Array.toList_zip];exact xt vs
 rw[show(arrOf (SortSt.mk' general' (vs.toArray.zip vs.toArray) #[] 7 none))=vs.toArray.zip vs.toArray from rfl]at *
 refine aa (seqEpoch_at RO rfl (aa (listUpdate_at RO rfl ?_ (hsz2:=by rw[FP,aq,bu];omega))))
 rw[FP];simp only[bne_self_eq_false,aI,bD];exact aj ⟨_,rfl,aj ⟨_,rfl,h'⟩⟩
theorem pN:i8 X (.builtin "sorted") (λxs H Q=>∃(p:cE) (vs:List V),xs=[.ref p]/\pZ X.K H p vs/\vs.length<2/\∀l,H l=none->Q (.ref l) (upd H l (.lst vs))):=by
 intro cM s σ H xs us Q I r h;obtain⟨p,vs,rfl,hq,h2,q⟩:=h;obtain⟨u,rfl,rx⟩:=vals1 r;cases rx;obtain⟨dD,rv,pl,hz⟩:=I.list hq;have hl:=rv.length;refine BI pl.isList (by omega) ?_
 obtain⟨e,he⟩:=sortedAll_at s.heap dD dD.toArray;exact⟨.ref (s.heap.objs.size+1),_,I.laid (t':=s.toks) (o:=.lst vs) (λb o z=>sortedAll_old z) (Nat.le_succ _) ⟨hz,dD,e,rv,he⟩,rfl,q _ (I.fJ.fresh (Nat.le_succ _))⟩
theorem oU {α β:Type}{F:α->β->Prop}{l:List α}{m:List β}(t:Paired F l m):∀{i:Nat}{v:α},l[i]? =some v->∃w,m[i]? =some w/\F v w:=by
 induction t with
 |nil=>intro i v e;simp at e
 |cons x t ih=>
  intro i v e;cases i with
  |zero=>simp at e;subst e;exact⟨_,rfl,x⟩
  |succ i=>exact ih (by simpa using e)
theorem DE (hu:X.A.units+64<cLine) {cM:cj}{s:cy}{σ:St}{H:Hp}{Q:VK}{p:cE}{vs:List V}{nss:ck}{P:V->cn->Prop}{RR:cw->cn->Prop}(I:Inv X cM σ H s) (hq:pZ X.K H p vs) (ht:Paired P vs nss) (h2:2<=vs.length) (zw:vs.length<64)
  (hP:∀v l,l∈nss->P v l->∃a xs,v=.ref a/\kR X.K H a xs/\∀ts,Vals xs ts->RR ts l/\∃i t r,ts=.int i t::r)
  (hc:∀h' ts NF l l' R bb,(∀b o,(∀m,¬ s.heap.Ns b m)->s.heap.get? b=some o->h'.get? b=some o)->RR ts l->RR NF l'->R (HT.lexLt l l') {s with heap:=h'}->W.KatLex X.prog X.w X.A.in1.in1 bb (decide (ts.toArray.size<NF.toArray.size)) R (ts.toArray.toList.zip NF.toArray.toList) 0 {s with heap:=h'})
  (q:∀(l:cE) (ix:List Nat),H l=none->ix.Perm (List.range vs.length)->(ix.map λi=>nss.getD i []).Pairwise (λa b=>HT.lexLt b a=false)->Q (.ref l) (upd H l (.lst (ix.map λi=>vs.getD i .eV)))):wpAny (model X.prog X.w) X.A (call (.builtin "sorted") [.ref p]) (EP X cM σ Q) X.xe s:=by
 obtain⟨dD,rv,pl,hz⟩:=I.list hq;have hlen:=rv.length;have ZD:=Paired.length ht;obtain⟨m,F⟩:=I.fr;have N:News X.base X.env.locals s.heap (jG X.base s.heap X.env.locals):=w4;have xu:∀i,i<vs.length->∃(a:cE) (o:Obj) (ts:cw) (n:Nat),dD.getD i Value.none=.ref a/\a≠X.env.locals/\s.heap.get? a=some o/\o.cls=.type "tuple"/\o.data=.seq ts.toArray n/\RR ts (nss.getD i [])/\∃i t r,ts=.int i t::r:=λi hi=>by
  have g1:vs[i]? =some vs[i]:=ah hi;obtain⟨w,h1,h3⟩:=rv.get g1;obtain⟨l,e1,e2⟩:=oU ht g1;obtain⟨a,xs,e3,e4,e5⟩:=hP _ l (bh e1) e2;rw[e3]at h3;cases h3;obtain⟨ts,r2,⟨o,ho,hc,n,hd⟩,_⟩:=I.tuple e4;obtain⟨e6,e7⟩:=e5 ts r2;refine⟨a,o,ts,n,?_,?_,ho,hc,hd,?_,e7⟩
  ·rw[ak,h1];rfl
  ·intro z;obtain⟨oL,es,ep,hL,RP,_⟩:=F.ns;rw[z,hL]at ho;cases ho;rw[RP]at hd;cases hd
  ·rw[ak,e1];exact e6
 refine W.kat_sorted F N pl.isList (by omega) (by omega) λD e1 h' F' N' fu=>?_
 have Fv:s.heap.get? D=none:=by
  cases e:s.heap.get? D with
  |none=>rfl
  |some o=>
   have n1:=(N' (D,_) (.head _)).2.1;have n2:=(N' (D,_) (.head _)).2.2;exact absurd (fu (D,o) (m8 n1 n2 e)) (Nat.lt_irrefl _)
 have vT:∀{h':Heap}{o1:Obj},Fr X.base X.env.locals h' m->News X.base X.env.locals h' ((D,o1)::jG X.base s.heap X.env.locals)->∀b o,b≠X.env.locals->s.heap.get? b=some o->h'.get? b=some o:=λ{h' o1} F' N' b o hb e=>by
  cases g:X.base.get? b with
  |some u=>
   have:=I.bk b u g;rw[e]at this;cases this;exact F'.keep b _ g
  |none=>exact(N' (b,o) (.tail _ (m8 hb g e))).1
 have qq:=vT F' N';have U9:∃fs:cw,fs.length=dD.length/\W.KatTups h' dD fs/\∀v∈fs,∃i t,v=Value.int i t:=by
  have aux:∀(l:cw),(∀v∈l,∃(a:cE) (o:Obj) (n:Nat) (k:Int) (t:Tok) (r:cw),v=.ref a/\h'.get? a=some o/\o.cls=.type "tuple"/\o.data=.seq (Value.int k t::r).toArray n)->∃fs:cw,fs.length=l.length/\W.KatTups h' l fs/\∀v∈fs,∃i t,v=Value.int i t:=by
   intro l;induction l with
   |nil=>intro _;exact⟨[],rfl,.nil,λv hv=>nomatch hv⟩
   |cons v l ih=>
    intro h;obtain⟨fs,l1,l2,l3⟩:=ih λw hw=>h w (ai _ hw)
    obtain⟨a,o,n,k,t,r,rfl,e2,e3,e4⟩:=h v af;refine⟨Value.int k t::fs,by simp[l1],.cons e2 e3 e4 (by simp) l2,λw hw=>?_⟩
    rcases List.mem_cons.mp hw with rfl|hw
    ·exact⟨k,t,rfl⟩
    ·exact l3 w hw
  refine aux dD λv hv=>?_
  obtain⟨i,hi,e⟩:=List.getElem_of_mem hv;obtain⟨a,o,_,n,b1,b3,b4,b5,b6,_,k,t,r,rfl⟩:=xu i (by omega)
  refine⟨a,o,n,k,t,r,?_,qq a o b3 b4,b5,b6⟩;rw[ak,ah hi]at b1;rw[<-e];exact b1
 obtain⟨fs,f1,f2,f3⟩:=U9;refine W.kat_kind (T:=.type "int") f2 (by omega) (λv hv=>?_) (by decide) ?_
 ·obtain⟨i,t,rfl⟩:=f3 v hv;exact λA Q E s' k q=>aj q
 rw[<-hlen];have cmp:∀i j (R:Bool->cy->Prop),i<vs.length->j<vs.length->R (HT.lexLt (nss.getD i []) (nss.getD j [])) {s with heap:=h'}->W.kas_ask X.prog X.w X.A.in1.in1 (tuples' (Value.type "int"!=Value.type "tuple")) dD i j R {s with heap:=h'}:=λi j R hi hj hR=>by
  obtain⟨a,o,ts,n,b1,b3,b4,b5,b6,b7,_⟩:=xu i hi;obtain⟨a',o',NF,n',c1,c3,c4,c5,c6,c7,_⟩:=xu j hj;show wpAny _ _ (keyLt' _ (dD.getD i Value.none) (dD.getD j Value.none)) _ _ _;rw[b1,c1];exact W.kat_lt (qq a o b3 b4) b6 (qq a' o' c3 c4) c6 (hc h' ts NF _ _ R _ (λb o nb e=>qq b o (λz=>nb m (z▸F.ns)) e) b7 c7 hR)
 refine So.rl (n:=vs.length) cmp _ (So.xr (by omega)) ?_
 obtain⟨s1,s2⟩:=So.xo (lt:=λi j=>HT.lexLt (nss.getD i []) (nss.getD j [])) (rank:=λi=>rn nss (nss.getD i [])) (λi j=>kr (lO _ _) (lO _ _)) vs.length (by omega)
 generalize So.iU _ (W.kas_sort vs.length)=ar at s1 s2;have pm:ar.toList.Perm (List.range vs.length):=by simpa using Array.perm_iff_toList_perm.mp s1
 have sz:ar.size=vs.length:=by simpa using s1.size_eq
 have below:∀i∈ar.toList,i<vs.length:=λi hi=>by simpa using pm.mem_iff.mp hi
 refine⟨_,_,F',N',.head λp hp=>aE (fu p hp),λh2 c F2 N2=>?_⟩
 have hD:H D=none:=by
  cases e:H D with
  |none=>rfl
  |some u=>obtain⟨o,z⟩:=I.fJ.has e;rw[Fv]at z;cases z
 have vl:Vals (ar.toList.map λi=>vs.getD i .eV) (ar.toList.map λi=>dD.getD i Value.none):=by
  have aux:∀(l:List Nat),(∀i∈l,i<vs.length)->Vals (l.map λi=>vs.getD i .eV) (l.map λi=>dD.getD i Value.none):=by
   intro l;induction l with
   |nil=>intro _;exact .nil
   |cons i l ih=>
    intro h;refine .cons ?_ (ih λk hk=>h k (ai _ hk))
    have hi:=h i af;show RelV (vs.getD i .eV) (dD.getD i Value.none);obtain⟨w,e1,e2⟩:=rv.get (ah hi);rw[ak,ak,e1,ah hi];exact e2
  exact aux _ below
 have jz:=vT F2 N2;have Va:h2.get? D=some {cls:=.type "list",data:=.seq (ar.toList.map λi=>dD.getD i Value.none).toArray c}:=(N2 _ (.head _)).1
 refine⟨.ref D,upd H D (.lst (ar.toList.map λi=>vs.getD i .eV)),?_,rfl,q D ar.toList hD pm ?_⟩
 ·show Inv X cM σ _ {s with heap:=h2,gens:=s.gens,drawn:=s.drawn,toks:=s.toks}
  refine I.step (g':=s.gens) (d':=s.drawn) (t':=s.toks) (ch:=[]) (λ_ z=>nomatch z) (λb o h1 _ _ e _=>jz b o h1 e) (λb o h1 _ _ e _=>⟨o.slots,jz b o h1 e⟩) (λb o _ e hn=>?_) (λb o _ e=>?_) (λb xs e=>?_) (λb o xs e=>?_) (λb ps e=>⟨#[],?_⟩) (λm' hm=>?_) (λb u e=>?_) I.bare
  ·rw[cR (λz=>by rw[z,Fv]at e;cases e)];exact hn
  ·by_cases hb:b=X.env.locals
   ·obtain⟨o',_,_,e',_⟩:=F2.ns;exact⟨o',by rw[hb];exact e'⟩
   ·exact⟨o,jz b o hb e⟩
  ·rw[cR (cX e hD)];exact e
  ·rw[cR (cX e hD)];exact e
  ·rw[cR (cX e hD),e];simp
  ·rw[FO hm F.ns];exact F2.ns
  ·by_cases hb:b=D
   ·subst hb;rw[cY]at e;cases e;exact⟨by rw[ae,aN,sz];exact bg (kj (by omega)),_,c,vl,Va⟩
   ·rw[cR hb]at e;refine(I.fJ b u e).Be (λk v hk z=>jz k v ?_ z) (λk z=>by rw[cR (cX z hD)];exact z) λk xs z=>by rw[cR (cX z hD)];exact z
    rcases hk with rfl|hk
    ·intro z;rw[z,I.free]at e;cases e
    ·intro z;rw[z,I.free]at hk;cases hk
 ·rw[List.pairwise_map,List.pairwise_iff_getElem];intro i j hi hj zm;have xv:i<ar.size:=by simpa using hi
  have BJ:j<ar.size:=by simpa using hj
  have le:=s2 i j (bg zm) (by omega)
  unfold So.kk at le;rw[aT,aT,aU xv,aU BJ]at le;simp only[Option.getD_some]at le;have e:=kr (nss:=nss) (a:=nss.getD (ar[j]) []) (b:=nss.getD (ar[i]) []) (lO _ _) (lO _ _);simp only[Array.getElem_toList];rw[e];exact aH (by omega)
theorem uY (hu:X.A.units+64<cLine):i8 X (.builtin "sorted") (λxs H Q=>∃(p:cE) (vs:List V) (nss:ck),xs=[.ref p]/\pZ X.K H p vs/\Hx X.K H vs nss/\2<=vs.length/\vs.length<64/\(∀ns∈nss,ns≠[])/\
  ∀(l:cE) (ix:List Nat),H l=none->ix.Perm (List.range vs.length)->(ix.map λi=>nss.getD i []).Pairwise (λa b=>HT.lexLt b a=false)->Q (.ref l) (upd H l (.lst (ix.map λi=>vs.getD i .eV)))):=by
 intro cM s σ H xs us Q I r h;obtain⟨p,vs,nss,rfl,hq,ht,h2,zw,jg,q⟩:=h;obtain⟨u,rfl,rx⟩:=vals1 r;cases rx;refine DE hu (RR:=IntsAre) I hq ht h2 zw (λv l hl ⟨a,e1,e2⟩=>⟨a,_,e1,e2,λts r=>?_⟩) (λh' ts NF l l' R bb _ b7 c7 hR=>qp _ _ l l' 0 _ (by simpa using b7) (by simpa using c7) (.inr trivial) ?_ hR) q
 ·have b:=intsAre_of r;refine⟨b,?_⟩;cases b with
  |nil=>exact absurd rfl (jg _ hl)
  |cons i t b=>exact⟨i,t,_,rfl⟩
 ·rw[aq,aq,b7.length,c7.length];by_cases h:l.length<l'.length
  ·rw[if_pos h];exact aR h
  ·rw[if_neg h];exact aH h
end
end L2
namespace DL
open PySem PySem.Spec PyProof.Rows L2
variable [Mem]
noncomputable def Lq (a b:Int):Bool:=decide (a<=b)
def sortI (ns:cn):cn:=ns.mergeSort Lq
def Vb (a b:cn):Bool:= !(HT.lexLt b a)
def fZ (nss:ck):ck:=nss.mergeSort Vb
omit [Mem] in
theorem sortI_perm (ns:cn):(sortI ns).Perm ns:=List.mergeSort_perm _ _
omit [Mem] in
theorem xw (ns:cn):(sortI ns).Pairwise (·<= ·):=
 (List.pairwise_mergeSort (le:=Lq) (λa b c h1 h2=>by simp only[Lq,decide_eq_true_eq]at *; omega) (λa b=>by simp only[Lq,Bool.or_eq_true,decide_eq_true_eq];omega) ns).imp λ{a b} h=>by simpa [Lq]using h
omit [Mem] in
theorem eE (nss:ck):(fZ nss).Perm nss:=List.mergeSort_perm _ _
omit [Mem] in
theorem n8 (nss:ck):(fZ nss).Pairwise (λa b=>HT.lexLt b a=false):=
 (List.pairwise_mergeSort (le:=Vb) (λa b c h1 h2=>by
  simp only[Vb,Bool.not_eq_true']at *;cases h:HT.lexLt c a with
  |false=>rfl
  |true=>
   cases hb:HT.lexLt b c with
   |true=>rw[HT.lu hb h]at h1;cases h1
   |false=>rw[HT.fR hb h2]at h1;rw[h1]at h;cases h) (λa b=>by
  simp only[Vb,Bool.or_eq_true,Bool.not_eq_true'];cases h:HT.lexLt b a with
  |false=>exact .inl rfl
  |true=>
   right;cases h2:HT.lexLt a b with
   |false=>rfl
   |true=>have:=HT.lu h h2;rw[HT.ma]at this;cases this) nss).imp λ{a b} h=>by simpa [Vb]using h
omit [Mem] in
theorem fC {α:Type}{R:α->α->Prop}(Vc:∀a b,R a b->R b a->a=b):∀{l m:List α},l.Perm m->l.Pairwise R->m.Pairwise R->l=m
 |[],m,h,_,_=>by have:=h.length_eq;cases m with|nil=>rfl|cons _ _=>cases this
 |a::l,m,h,p,q=>by
  cases m with
  |nil=>exact absurd h.length_eq (by simp)
  |cons b m=>
   have Jn:a=b:=by
    by_cases e:a=b
    ·exact e
    ·have h1:a∈m:=(List.mem_cons.mp (h.mem_iff.mp af)).resolve_left e;have h2:b∈l:=(List.mem_cons.mp (h.mem_iff.mpr af)).resolve_left (Ne.symm e);exact Vc a b ((List.pairwise_cons.mp p).1 b h2) ((List.pairwise_cons.mp q).1 a h1)
   subst Jn;rw[fC Vc ((List.perm_cons a).mp h) (List.pairwise_cons.mp p).2 (List.pairwise_cons.mp q).2]
noncomputable def tupI (ns:cn):D:=.tup (ns.map D.int)
noncomputable abbrev _root_.cJ (i:Int):DL.Sl:=.dat (.int i)
abbrev _root_.cK (l:List Int):DL.Sl:=.dat (tupI l)
def mE:cu->Option (ck)
 |[]=>some []
 |.tup ds::r=>(intsOf ds).bind λns=>(mE r).map λnss=>ns::nss
 |_=>none
omit [Mem] in
theorem uZ:∀{ds:cu}{nss:ck},mE ds=some nss->ds=nss.map tupI
 |[],_,h=>by cases h;rfl
 |.tup es::r,nss,h=>by
  unfold mE at h;cases h1:intsOf es with
  |none=>rw[h1]at h;cases h
  |some ns=>
   cases h2:mE r with
   |none=>rw[h1,h2]at h;cases h
   |some ms=>rw[h1,h2]at h;cases h;rw[uZ h2,hJ h1];rfl
omit [Mem] in
theorem xx (nss:ck):mE (nss.map tupI)=some nss:=by
 induction nss with
 |nil=>rfl
 |cons n r ih=>show(intsOf (n.map D.int)).bind _=_;rw[jv];show(mE (r.map tupI)).map _=_;rw[ih];rfl
def jI:cu->Option (cu)
 |[.lst ds]=>if ds.length<64 then
   (match intsOf ds with
   |some ns=>some ((sortI ns).map D.int)
   |none=>(mE ds).bind λnss=>if nss.all (λns=> !ns.isEmpty)=true then some ((fZ nss).map tupI)else none)
  else none
 |_=>none
theorem IsL.Hy {K:W.Frag}{C H:Hp}(s:dM C H):∀{nss:ck}{vs:List V},IsL C vs (nss.map tupI)->Hx K H vs nss
 |[],_,.nil=>.nil
 |ns::r,_,.cons h t=>by
  cases h with
  |tup h l=>
   cases l.l8;exact .cons ⟨_,rfl,kR.of (s _ _ h)⟩ (IsL.Hy s t)
theorem IsL.places (l:IsL C vs ds):∀(ix:List Nat),(∀i∈ix,i<ds.length)->IsL C (ix.map λi=>vs.getD i .eV) (ix.map λi=>ds.getD i .eV)
 |[],_=>.nil
 |i::ix,h=>by
  refine .cons ?_ (IsL.places l ix λk hk=>h k (ai _ hk))
  have hi:=h i af;obtain⟨v,h1,h2⟩:=l.get (ah hi);show Is C (vs.getD i .eV) (ds.getD i .eV);rw[ak,ak,h1,ah hi];exact h2
omit [Mem] in
theorem jJ {α:Type}(l:List α) (d:α):(List.range l.length).map (λi=>l.getD i d)=l:=by
 apply List.ext_getElem
 ·simp
 ·intro i h1 h2;simp[ak,ah h2]
omit [Mem] in
theorem tR {α β:Type}(f:α->β) (l:List α) (a:α) (b:β) (ix:List Nat) (h:∀i∈ix,i<l.length):(ix.map λi=>(l.map f).getD i b)=(ix.map λi=>l.getD i a).map f:=by
 rw[aV];apply bR
 intro i hi;have:=h i hi;simp[ak,av,ah this]
section
variable {X:Cx}
theorem xy (hu:X.A.units+64<cLine):Hr X (.builtin "sorted") jI:=by
 refine⟨_,uX.or (pN.or (uY hu)),?_⟩;intro C H vs ds d Q s i q k;unfold jI at q;split at q
 ·rename_i es;split at q
  case isFalse=>cases q
  rename_i zw;obtain⟨v,rfl,j⟩:=i.one;obtain⟨p,xs,rfl,hq,l⟩:=j.list (K:=X.K) s;split at q
  ·rename_i ns hi;cases q;rw[hJ hi]at l zw;cases l.l8;refine .inl ⟨p,ns,rfl,hq,by simpa using zw,λt ms ht pm pw=>?_⟩
   have e:ms=sortI ns:=fC (λa b h1 h2=>Int.le_antisymm h1 h2) (pm.trans (sortI_perm ns).symm) pw (xw ns)
   subst e;exact k t _ C _ (.fF s ht) ht (s.free ht) cY (.ints _)
  ·cases hn:mE es with
   |none=>rw[hn]at q;cases q
   |some nss=>
    rw[hn]at q;simp only[ao]at q;split at q
    ·rename_i xh;cases q;have ee:=uZ hn;subst ee;have lv:=l.length;rw[ae]at lv zw;by_cases h2:xs.length<2
     ·refine .inr (.inl ⟨p,xs,rfl,hq,h2,λt ht=>?_⟩)
      have e:fZ nss=nss:=by
       have:nss.length<2:=by omega
       match nss,this with
       |[],_=>exact List.Perm.eq_nil (eE [])
       |[a],_=>exact List.perm_singleton.mp (eE [a])
      rw[e]at k;exact k t xs C _ (.fF s ht) ht (s.free ht) cY l
     ·refine .inr (.inr ⟨p,xs,nss,rfl,hq,l.Hy s,by omega,by omega,λns K3=>?_,λt ix ht pm pw=>?_⟩)
      ·have:=List.all_eq_true.mp xh ns K3;intro z;subst z;simp at this
      ·have lt:∀i∈ix,i<(nss.map tupI).length:=λi hi=>by
        have:=pm.mem_iff.mp hi;rw[List.mem_range]at this;rw[ae];omega
       have lt':∀i∈ix,i<nss.length:=λi hi=>by have:=lt i hi;rwa [ae]at this
       have e:(ix.map λi=>nss.getD i [])=fZ nss:=by
        refine fC (λa b h1 h2=>HT.fR h2 h1) ?_ pw (n8 nss)
        have e1:(ix.map λi=>nss.getD i []).Perm ((List.range nss.length).map λi=>nss.getD i []):=List.Perm.map _ (by rw[<-lv];exact pm)
        rw[jJ]at e1;exact e1.trans (eE nss).symm
       have ll:=l.places ix lt;rw[tR tupI nss [] .eV ix lt',e]at ll;exact k t _ C _ (.fF s ht) ht (s.free ht) cY ll
    ·cases q
 ·cases q
end
section
variable {X:Cx}{e:cF}{pos:Pos}{C0 H0:Hp}{f:bZ}
theorem Gd.fF (g:Gd B C0 H0 δ σ C H) (h0:H0 a=none) (hc:C a=none) (hn:∀(k:Nat) (es:cu),δ[k]? =some (.own es)->σ[k]? ≠some (some (.ref a))) (hx:∀u,H a=some u->E3 u=false) (o:HO):Gd B C0 H0 δ σ C (upd H a o):=
 ⟨g.b,g.ev.Dy h0 hc o,⟨λb u q=>by rw[cR (cX q hc)];exact g.x.sub b u q,g.x.dat,λk ds q=>by
   obtain⟨b,xs,h1,h2,h3,h4⟩:=g.x.own k ds q;exact⟨b,xs,h1,h2,by rw[cR (λz=>hn k ds q (by rw[h1,z]))];exact h3,h4⟩,g.x.zo,g.x.len,λk ks q=>by
   obtain⟨b,h1,h2,h3,h4⟩:=g.x.mem k ks q;exact⟨b,h1,h2,Mem.Qc h3 hx,λk hk=>Mem.Dx h3 hx (h4 k hk)⟩⟩,g.fr⟩
theorem Gd.OE (g:Gd B C0 H0 δ σ C H) (h0:H0 a=none) (hc:C a=none) (hH:H a=some (.lst xs)) (hl:IsL C xs ds) (hn:∀(k:Nat) (es:cu),δ[k]? =some (.own es)->σ[k]? ≠some (some (.ref a))):Gd B C0 H0 (δ.set i (.own ds)) (σ.set i (some (.ref a))) C H:=
 ⟨g.b,g.ev,g.x.BA hc hH hl hn,λk es b q1 q2=>by
  rcases getElem?_set_cases q1 with⟨rfl,e1⟩|⟨hk,e1⟩
  ·rcases getElem?_set_cases q2 with⟨_,e2⟩|⟨z,_⟩
   ·cases e2;exact h0
   ·exact absurd rfl z
  ·rw[aG (Ne.symm hk)]at q2;exact g.fr k es b e1 q2⟩
noncomputable def BK (j m:Nat) (f:bZ) (δ:fE):cu->cu->Option (cu×cu)
 |ls,[]=>some ([],ls)
 |ls,d::ds=>match f ((δ.set m (.own ls)).set j (.dat d))with
  |some (.int i)=>if 0<=i then(match ls[i.toNat]? with
   |some x=>(BK j m f δ (ls.eraseIdx i.toNat) ds).map λr=>(x::r.1,r.2)
   |none=>none)else none
  |_=>none
def DF (k j m:Nat) (i:bX) (f:bZ):bY:=λδ=>match δ[m]? with
 |some (.own ls)=>if ls.length<1000000 then(i δ).bind λds=>if ds.length<1000000 then(BK j m f δ ls ds).map λr=>.next ((δ.set m (.own r.2)).set k (.own r.1))else none else none
 |_=>none
omit [Mem] in
theorem getElem?_set_own {δ:fE}{m k:Nat}{ls es:cu}(hm:∃fs,δ[m]? =some (Sl.own fs)) (h:(δ.set m (Sl.own ls))[k]? =some (.own es)):∃fs,δ[k]? =some (.own fs):=by
 rcases getElem?_set_cases h with⟨rfl,_⟩|⟨_,e⟩
 ·exact hm
 ·exact⟨_,e⟩
theorem Lr {B:Hp}{k j m:Nat}{i:bX}{tt:TT}(X1:m≠j) (ht:∀σ H Q,tQ jd σ H Q->tt σ H Q) {K:W.Frag}:∀Dn σ H,tS B C0 H0 (DF k j m i f) Dn σ H->
  Du k (K8 (tI i) j tt (XG K "list" KZ (gX m) (WC (aO f aY)))) Dn σ H:=λDn σ H ⟨C,δ,r,gd,q,kk⟩=>by
 unfold DF at q;split at q
 case h_2=>cases q
 rename_i ls hm;split at q
 case isFalse=>cases q
 rename_i hzl;cases hf:i δ with
 |none=>rw[hf]at q;cases q
 |some ds=>
  rw[hf]at q;simp only[ao]at q;split at q
  case isFalse=>cases q
  rename_i hz;cases hp:BK j m f δ ls ds with
  |none=>rw[hp]at q;cases q
  |some pr=>
   rw[hp]at q;cases q;obtain⟨ys,rem⟩:=pr;refine⟨C,δ,ds,gd.x,hf,λJ C1 H1 ev wk A hA=>?_⟩
   have g1:=gd.DA ev;have Vd:∀(k:Nat) (es:cu),δ[k]? =some (.own es)->σ[k]? ≠some (some (.ref A)):=λk es e z=>by
    obtain⟨a,xs,h1,_,h3,_⟩:=g1.x.own k es e;rw[z]at h1;cases h1;rw[hA]at h3;cases h3
   have RQ:∀(ls:cu) (k:Nat) (es:cu),(δ.set m (.own ls))[k]? =some (.own es)->σ[k]? ≠some (some (.ref A)):=λls k es e=>by
    obtain⟨fs,e'⟩:=getElem?_set_own ⟨_,hm⟩ e;exact Vd k fs e'
   have X2:H0 A=none:=g1.ev.free hA;have dm:δ.set m (.own ls)=δ:=by
    apply List.ext_getElem?
    intro n;by_cases e:n=m
    ·subst e;rw[bc (List.getElem?_eq_some_iff.mp hm).1,hm]
    ·rw[aG (Ne.symm e)]
   refine⟨λn mm acc H'=>∃C' lc done rest,mm=ds.length-n/\n<=ds.length/\Gd B C0 H0 (δ.set m (.own lc)) σ C' H'/\dM C1 C'/\C' A=none/\H' A=some (.lst acc)/\IsL C' acc done/\done.length<=n/\lc.length<1000000/\BK j m f δ lc (ds.drop n)=some (rest,rem)/\ys=done++rest,
    ⟨ds.length,C1,ls,[],ys,by simp,bK _,by rw[dm];exact g1.fF X2 (ev.s.free hA) Vd (λu q=>by rw[hA]at q;cases q) _,dM.refl _,ev.s.free hA,cY,.nil,au _,hzl,by simpa using hp,rfl⟩,?_⟩
   rintro n mm acc H2 ⟨C2,lc,done,rest,rfl,hn,g2,sc,a2,b2,l2,XZ,hlc,q2,ey⟩
   have w:=wk n C2 H2 sc g2.x.sub;by_cases fu:n<ds.length
   ·have hd:ds[n]? =some ds[n]:=ah fu;obtain⟨go,yl⟩:=w.1 _ hd;rw[List.drop_eq_getElem_cons fu]at q2;refine .inr ⟨go,λv H3 y=>?_⟩
    obtain⟨rfl,is⟩:=yl v H3 y;have x3:=g2.x.qm (i:=j) is;unfold BK at q2;split at q2
    case h_2=>cases q2
    rename_i ii hfi;split at q2
    case isFalse=>cases q2
    rename_i hi0;split at q2
    case h_2=>cases q2
    rename_i x hx;cases hr:BK j m f δ (lc.eraseIdx ii.toNat) (ds.drop (n+1))with
    |none=>rw[hr]at q2;cases q2
    |some pr=>
     rw[hr]at q2;cases q2;have hml:m<δ.length:=(List.getElem?_eq_some_iff.mp hm).1;have om:(δ.set m (.own lc))[m]? =some (.own lc):=bc hml;obtain⟨a,xs,h1,h2,h3,h4⟩:=g2.x.own m lc om;refine ht _ _ _ ⟨C2,_,true,x3,rfl,λC4 H4 e4=>Bu ?_⟩
     have g4:=g2.DA e4;have Lg:=e4.hh h3;refine⟨.ref a,by rw[aG (Ne.symm X1)];exact h1,.inl ⟨rfl,_,pZ.of Lg⟩,C4,_,[.int ii],x3.ev e4,by unfold aO aY;rw[hfi];rfl,λvs C5 H5 e5 i5=>?_⟩
     cases i5 with
     |cons i51 i52=>
      cases i52;cases i51;have Kl:=e4.trans e5;have g5:=g2.DA Kl;have hH5:=Kl.hh h3;have l5:=h4.mono Kl.c;obtain⟨vx,ZE,isx⟩:=l5.get hx;have hlen:xs.length=lc.length:=l5.length;have abA:ii.toNat<xs.length:=(List.getElem?_eq_some_iff.mp ZE).1;have aA:a≠A:=λz=>RQ lc m lc om (by rw[h1,z])
      have Tr:H5 A=some (.lst acc):=Kl.hh b2;have a5:=Kl.nn a2 b2;refine⟨a,xs,ii,ii.toNat,vx,rfl,rfl,hH5,by omega,by omega,seqIndex_of hi0 (by omega),ZE,?_⟩
      refine⟨by rw[cR (Ne.symm aA)];exact Tr,by rw[l2.length];exact rk (by omega),ds.length-(n+1),by omega,C5,lc.eraseIdx ii.toNat,done++[x],pr.1,rfl,fu,?_,sc.trans Kl.c,a5,cY,(l2.mono Kl.c).append (.one isx),?_,?_,hr,?_⟩
      ·have g6:=g5.mut (es:=lc.eraseIdx ii.toNat) om h1 (l5.eraseIdx ii.toNat);rw[List.set_set]at g6;exact g6.fF X2 a5 (RQ _) (λu q=>by rw[cR (Ne.symm aA),Tr]at q;cases q;rfl) _
      ·rw[aQ,List.length_singleton];omega
      ·exact Nat.lt_of_le_of_lt (mr _ _) hlc
      ·rw[ey,List.append_assoc];rfl
   ·have e:n=ds.length:=by omega
    subst e;rw[List.drop_length]at q2;unfold BK at q2;cases q2;rw[bB]at ey;subst ey;refine .inl ⟨w.2 (au _),kk _ C2 H2 ?_⟩;exact g2.OE X2 a2 b2 l2 (RQ _)
variable {elt o iter:cF}{x y:Str}{px py By apos hV:Pos}{scope:Scope}{i:bX}
end
end DL
namespace DL
open PySem PySem.Spec PyProof.Rows L2
def j7 (P:cA) (w:cB) (K:W.Frag) (mg:cg) (base:Heap) (k:Nat) (x:Str) (g:cc):Prop:=
 ∃f fd ps,dY P w K mg base gY k f fd ps (rj g)/\mg x=some (.ref f)/\W.keepIn K (.ref f)=true/\Binds K fd ps []
theorem j7.mono {P:cA}{w:cB}{K:W.Frag}{mg:cg}{base:Heap}{j k:Nat}{x:Str}{g:cc}(c:j7 P w K mg base j x g) (h:j<=k:=by omega):j7 P w K mg base k x g:=
 let ⟨f,fd,ps,F,r⟩:=c;⟨f,fd,ps,F.mono h,r⟩
section
variable {X:Cx}{e:cF}{es:List cF}{p pos:Pos}{x:Str}
end
noncomputable def BL (K:W.Frag):Bool:=K.all λp=>match p.2.data with
 |.seq _ _=>(match p.2.cls with|.type t=>t !="list"|_=>true)
 |_=>true
theorem mem_of_lookup {K:W.Frag}{a:cE}{o:Obj}(e:K.lookup a=some o):(a,o)∈K:=by
 induction K with
 |nil=>cases e
 |cons p r ih=>
  obtain⟨b,u⟩:=p;rw[bq]at e;by_cases h:a=b
  ·subst h;simp only[bM]at e;cases e;exact af
  ·have hb:(a==b)=false:=by simpa using h
   simp only[hb]at e;exact ai _ (ih e)
theorem FQ {K:W.Frag}(h:BL K=true) {a:cE}{o:Obj}{dD:Array cx}{n:Nat}(e:K.lookup a=some o) (hc:o.cls=.type "list") (hs:o.data=.seq dD n):False:=by
 have:=List.all_eq_true.mp h _ (mem_of_lookup e);simp only[hs,hc]at this;simp at this
theorem Ve {l:W.OpenLaw}{q:cA}{loose:List Str}{XP:(cg)->Heap->Prop}{YP:cB->Heap->Prop}{d:DefRec}{K:Params->W.Frag}{x:Str}{g:cc}(hn:l.most=some 63) (UM:d.params.defaults=[])
  (hY:∀(w:cB) (h:Heap),YP w h->(K w.params).In h)
  (hg:∀ns:cn,ns.length<=63->g [.lst (ns.map D.int)]=some (.bl true))
  (K4:∀t∈qc,((recsOf q).find? λe=>e.name==t.1).isSome=true)
  (F:∀(w:cB) (mg:cg) (fa:cE) (h:Heap),(K w.params).In h->h.Ns mainGlobals mg->mg d.name=some (.ref fa)->
   BL (K w.params)=true/\tabsOk (K w.params)=true/\∃fd:cz,(∀(s:cy) (u:cx),BindsTo s fd ⟨[u],[]⟩ [(x,u)])/\∀base:Heap,(K w.params).In base->base.Ns mainGlobals mg->dY l.prog w (K w.params) mg base gY 65 fa fd [x] (rj g)):
  W.WalkO q loose XP YP l.row.toRowW d [] (λf vs=>PySem.call f vs):=
 L2.Of (n:=63) (k:=65) (x:=x) (CX:=λ_=>gY) (sp:=λw vs H Q E=>BL (K w.params)=true->rj g vs H Q E) hn (by decide) UM ⟨rfl,by decide,by decide,rfl⟩ hY K4
  (λw mg fa h k1 k2 k3=>by
   obtain⟨z,tz,fd,b,f⟩:=F w mg fa h k1 k2 k3;exact⟨tz,fd,b,λbase e1 e2=>(f base e1 e2).imp λvs H Q E h=>h z⟩)
  (λw H a ns hl hS hz=>by
   have hr:Rd H a (.lst (ns.map V.int)):=by
    rcases hS with h|⟨o,dD,n,e1,e2,_,e4,_⟩
    ·exact h
    ·exact(FQ hz e1 e2 e4).elim
   exact⟨H,[.lst (ns.map D.int)],.bl true,dM.refl H,.cons (.lst hr (.ints ns)) .nil,hg ns hl,λv C' H' ev i=>by cases i;rfl⟩)
  λ_ _ _ _ _ z=>z
variable [Mem]
structure WD (X:Cx) (e:cF) (f:bZ):Prop where
 go:PD X e f
structure WO (X:Cx) (e:cF) (f:bZ):Prop where
 go:PO X e f
structure WF (X:Cx) (e:cF) (f:bX):Prop where
 go:PF X e f
structure WQ (X:Cx) (e:cF) (f:cb):Prop where
 go:PQ X e f
structure Hz (X:Cx) (e:cF) (f:cb):Prop where
 go:PQW X e f
structure HA (X:Cx) (es:List cF) (f:bX):Prop where
 go:Qe X es f
structure Ts (X:Cx) (es:List cF) (f:bX):Prop where
 go:PAO X es f
structure wK (X:Cx) (tg e:cF) (f:bX):Prop where
 go:U4 X tg e f
structure Tt (X:Cx) (tg e:cF) (f:bX):Prop where
 go:ZC X tg e f
structure WB (X:Cx) (C0 H0:Hp) (st:cI) (f:bY):Prop where
 go:PB X C0 H0 st f
structure qb (X:Cx) (C0 H0:Hp) (st:List cI) (f:bY):Prop where
 go:Jk X C0 H0 st f
structure WP (X:Cx) (e:Option cF) (f:fE->Option (Option Int)):Prop where
 go:L2.PO X e (tP f)
section
variable {X:Cx}{e tg:cF}{pos:Pos}
theorem cQ (i:Nat) (hN:X.N[i]? =some x:=by rfl) (hv:Tf X.env.scope x:=by first|exact Or.inl rfl|exact Or.inr (Or.inl rfl)|exact Or.inr (Or.inr rfl)) (hd:(x==("__debug__":Str))=false:=by decide) (uF:(x==("__classdict__":Str))=false:=by decide):WO X (.Name x pos) (dk i):=⟨Ji (E8 hN hv hd uF)⟩
theorem bf (i:Nat) (hN:X.N[i]? =some x:=by rfl) (hv:Tf X.env.scope x:=by first|exact Or.inl rfl|exact Or.inr (Or.inl rfl)|exact Or.inr (Or.inr rfl)) (hd:(x==("__debug__":Str))=false:=by decide) (uF:(x==("__classdict__":Str))=false:=by decide):WD X (.Name x pos) (cO i):=⟨Jh (E8 hN hv hd uF)⟩
theorem WD.o (h:WD X e f):WO X e f:=⟨h.go.o⟩
theorem WF.d (h:WF X e f):WD X e (dL f):=⟨h.go.d⟩
theorem Hz.pt (h:Hz X e f):WQ X e f:=⟨h.go.pt⟩
theorem wK.weak (h:wK X tg e f):Tt X tg e f:=⟨h.go.weak⟩
theorem Lu:WP X none OB:=⟨N6.imp λσ H Q ⟨C,δ,o,x,q,k⟩=>by cases q;exact k C H (.refl x.sub)⟩
theorem FR (h:WO X e f):WP X (some e) (zu f):=⟨(N7 h.go).imp λσ H Q ⟨C,δ,o,x,q,k⟩=>by
 unfold zu at q;split at q
 ·rename_i i hf;cases q;exact⟨C,δ,_,x,hf,λv C' H' ev i'=>⟨i,i'.int,k C' H' ev⟩⟩
 ·cases q⟩
end
end DL
namespace DL
open PySem PySem.Spec PyProof.Rows L2
theorem hW {P:cA}{w:cB}{K:W.Frag}{mg:cg}{base:Heap}{x qual:Str}{st:cI}{f:cE}{fd:cz}{N ps:List Str}{k:Nat}(F:kU K x qual st f fd) (S:dt N ps (cP st)) {fb:bY}
  (fY:∀(m:Mem) (eN:cx) (A:cC) (outer:List Env) (s:cy) (H:Hp) (E:XK),fm k (A.deeper (envOfC qual (cP st) s.heap.objs.size f eN))->∀C0 H0,qb (pX gY P w K mg base N qual (cP st) f eN A outer s H E).Dc C0 H0 (eW st) fb):
  dY P w K mg base gY (k+1) f fd ps (rj (iA N.length ps.length fb)):=Qj F S λeN A outer s H E hr C0 H0=>@qb.go Mem.keep _ _ _ _ _ (fY Mem.keep eN A outer s H E hr C0 H0)
variable [Mem]
section
variable {C:Hp}
end
section
variable {C H C' H' C2 H2:Hp}
variable [Mem]
end
section
variable [Mem] {δ:fE}{σ:L2.St}{C H C' H':Hp}
end
variable [Mem]
section
variable {X:Cx}{e a b c:cF}{pos:Pos}
theorem dc:WD X (.Constant (.int i) j pos) (dC (.int i)):=⟨wI E9 λ_=>.int i⟩
theorem HB:WD X (.Constant (.bool i) j pos) (dC (.bl i)):=⟨wI TQ λ_=>.bl i⟩
theorem qr:WD X (.Constant .none j pos) (dC .eV):=⟨wI QS λ_=>.eV⟩
theorem gB (hg:Gl X x) (hm:X.mg x=some (.int i t)) (hd:(x==("__debug__":Str))=false:=by decide):WD X (.Name x pos) (dC (.int i)):=⟨wI (NN (v:=.int i) hg hm ⟨t,rfl⟩ hd) λ_=>.int i⟩
theorem jK (ha:WO X a f) (hb:WO X b g):WD X (.BinOp a .Add b pos) (du jt f g):=⟨tG KH (Jj λ_ _ _=>.int _) ha.go hb.go⟩
theorem xA (ha:WO X a f) (hb:WO X b g):WD X (.BinOp a .Sub b pos) (du sI f g):=⟨tG Q8 (Jj λ_ _ _=>.int _) ha.go hb.go⟩
theorem BM {f g:bZ}(ha:WO X a f) (hb:WO X b g):WD X (.BinOp a .Mult b pos) (du zp f g):=⟨tG Q9 (Dz (λi j h=>by
 unfold Li at h;unfold NS
 simpa using h) λ_ _ _=>.int _) ha.go hb.go⟩
theorem Lv (ha:WO X a f) (hb:WO X b g):WD X (.BinOp a .FloorDiv b pos) (du Ol f g):=⟨tG NT (Dz (λi j h=>by
 unfold RF at h;unfold Uk
 simpa using h) λ_ _ _=>.int _) ha.go hb.go⟩
theorem FT (ha:WO X a f) (hb:WO X b g):WD X (.BinOp a .Mod b pos) (du BB f g):=⟨tG Ra (Dz (λi j h=>by
 unfold FF at h
 simpa using h) λ_ _ _=>.int _) ha.go hb.go⟩
theorem oV (c:xp X op o) (ha:WO X a f) (hb:WO X b g) (hm:behindInMarks op b=false:=by first|exact xb _|rfl):WD X (.Compare a [op] [b] pos) (du o f g):=⟨by
 have ha:=ha.go;have hb:=hb.go;obtain⟨r,ho,hd⟩:=c;exact(NV ho ha hb hm).imp (Hq hd)⟩
theorem sJ (h:WD X e f) (he:∀whole,isTrue e X.env whole=(do let v <-whole;standAt e.pos;holding [v] (truthy v)):=by intro _;rfl):WQ X e (qB f):=⟨by have h:=h.go;exact(QT h he).imp (Qg λ_ _ _ h=>h)⟩
theorem eD (c:xp X op o) (ha:WO X a f) (hb:WO X b g) (hm:behindInMarks op b=false:=by first|exact xb _|rfl):WQ X (.Compare a [op] [b] pos) (qB (du o f g)):=⟨by
 have ha:=ha.go;have hb:=hb.go;obtain⟨r,ho,hd⟩:=c;exact(Bj ho ha hb hm).imp (Qg (Hq hd))⟩
theorem xB (ha:WQ X a f):Hz X (.BoolOp .And [a] pos) f:=⟨NO ha.go⟩
theorem BN (ha:WQ X a f):Hz X (.BoolOp .Or [a] pos) f:=⟨QU ha.go⟩
theorem wL {rest:List cF}{f g:cb}(ha:WQ X a f) (hb:Hz X (.BoolOp .And (b::rest) pos) g):Hz X (.BoolOp .And (a::b::rest) pos) (pY f g):=⟨(QV ha.go hb.go).imp RI⟩
theorem BO {rest:List cF}{f g:cb}(ha:WQ X a f) (hb:Hz X (.BoolOp .Or (b::rest) pos) g):Hz X (.BoolOp .Or (a::b::rest) pos) (Oo f g):=⟨(TU ha.go hb.go).imp U1⟩
theorem xC (ha:WQ X a f):WQ X (.UnaryOp .Not a pos) (qo f):=⟨(QW ha.go).imp λσ H Q ⟨C,δ,b,x,q,k⟩=>by
 unfold qo at q;cases hf:f δ with
 |none=>rw[hf]at q;cases q
 |some c=>
  rw[hf]at q;cases q;exact⟨C,δ,c,x,hf,k⟩⟩
theorem RS (h:WD X a f):WD X (.BoolOp op [a] pos) f:=⟨QX h.go⟩
theorem RT {rest:List cF}{f g:bZ}(ha:WD X a f) (hb:WD X (.BoolOp .And (b::rest) pos) g):WD X (.BoolOp .And (a::b::rest) pos) (Lj f g):=⟨(QY ha.go hb.go).imp λσ H Q ⟨C,δ,d,x,q,k⟩=>by
 unfold Lj at q;split at q
 ·rename_i hf;exact⟨C,δ,_,x,hf,λv C' H' ev i=>by cases i;exact⟨true,rfl,Bu ⟨C',δ,d,x.ev ev,q,λu C2 H2 e2 i2=>k u C2 H2 (ev.trans e2) i2⟩⟩⟩
 ·rename_i hf;cases q;exact⟨C,δ,_,x,hf,λv C' H' ev i=>by cases i;exact⟨false,rfl,Dq (k _ C' H' ev (.bl _))⟩⟩
 ·cases q⟩
theorem xD (hc:WQ X c q) (ha:WD X a f) (hb:WD X b g):WD X (.IfExp c a b pos) (Tq q f g):=⟨(Kv hc.go ha.go hb.go).imp λσ H Q ⟨C,δ,d,x,h,k⟩=>by
 unfold Tq at h;split at h
 ·rename_i hf;exact⟨C,δ,true,x,hf,λC' H' ev=>Bu ⟨C',δ,d,x.ev ev,h,λu C2 H2 e2 i2=>k u C2 H2 (ev.trans e2) i2⟩⟩
 ·rename_i hf;exact⟨C,δ,false,x,hf,λC' H' ev=>Dq ⟨C',δ,d,x.ev ev,h,λu C2 H2 e2 i2=>k u C2 H2 (ev.trans e2) i2⟩⟩
 ·cases h⟩
end
section
variable {X:Cx}{e:cF}{es:List cF}{pos p:Pos}{x:Str}
theorem bU:HA X [] aY:=⟨wJ⟩
theorem aX (ha:WD X e f) (hr:HA X es g) (hs:cL e es X.env:=by exact fH rfl):HA X (e::es) (aO f g):=⟨tH ha.go hr.go hs⟩
theorem dI:Ts X [] aY:=⟨(uJ (X:=X)).imp λσ H Q ⟨C,δ,ds,x,q,k⟩=>by cases q;exact k [] C H (.refl x.sub) .nil⟩
theorem dw (ha:WO X e f) (hr:Ts X es g) (hs:cL e es X.env:=by exact fH rfl):Ts X (e::es) (aO f g):=⟨(nh ha.go hr.go hs).imp λσ H Q ⟨C,δ,ds,x,q,k⟩=>by
 unfold aO at q;cases hf:f δ with
 |none=>rw[hf]at q;cases q
 |some d=>
  cases hg:g δ with
  |none=>rw[hf,hg]at q;cases q
  |some r=>
   rw[hf,hg]at q;cases q;exact⟨C,δ,d,x,hf,λv C1 H1 e1 i1=>⟨C1,δ,r,x.ev e1,hg,λvs C2 H2 e2 i2=>k _ C2 H2 (e1.trans e2) (.cons (i1.ev e2) i2)⟩⟩⟩
theorem fi (h:HA X es f):WD X (.Tuple es k pos) (eT f):=⟨(Rj h.go).imp λσ H Q ⟨C,δ,d,x,q,k⟩=>by
 unfold eT at q;cases hf:f δ with
 |none=>rw[hf]at q;cases q
 |some ds=>
  rw[hf]at q;simp only[ao]at q;split at q
  ·rename_i hz;cases q;refine⟨C,δ,ds,x,hf,λvs C1 H1 e1 i1=>⟨?_,λp hp=>k _ _ _ (e1.trans (.new e1.s hp)) (.tup cY (i1.mono (eA (e1.s.free hp))))⟩⟩
   rw[i1.length];exact bg (kj hz)
  ·cases q⟩
theorem xE (h:HA X es f):WF X (.List es pos) (zr f):=⟨(Rk h.go).imp λσ H Q ⟨C,δ,d,x,q,k⟩=>by
 unfold zr at q;cases hf:f δ with
 |none=>rw[hf]at q;cases q
 |some ds=>
  rw[hf]at q;simp only[ao]at q;split at q
  ·rename_i hz;cases q;refine⟨C,δ,_,x,hf,λvs C1 H1 e1 i1=>⟨?_,λp hp=>k p vs C1 _ (e1.trans (.fF e1.s hp)) (e1.free hp) (e1.s.free hp) cY i1⟩⟩
   rw[i1.length];exact bg (kj hz)
  ·cases q
⟩
theorem eX {id:String}{g:cc}{f:bX}(hc:vR X (.builtin id) g) (hg:Gl X x) (hm:X.mg x=none) (hv:bootBuiltins x=some (.builtin id)) (ha:Ts X (e::es) f) (hn:x≠"__name__":=by decide) (rV:(x==("__debug__":Str))=false:=by decide) (he:cL e es X.env:=by exact fH rfl) (kf:(backTo pos (starEach es X.env)).any (·.1)=false:=by exact gh rfl):WD X (.Call (.Name x p) (e::es) [] pos) (cN g f):=⟨by
 have ha:=ha.go;obtain⟨r,h1,h2⟩:=hc;exact(Di h1 hg hm hv ha hn rV he kf).imp (Qh h2)⟩
theorem n9 {id:String}{g:cu->Option (cu)}{f:bX}(hc:Hr X (.builtin id) g) (hg:Gl X x) (hm:X.mg x=none) (hv:bootBuiltins x=some (.builtin id)) (ha:Ts X (e::es) f) (hn:x≠"__name__":=by decide) (rV:(x==("__debug__":Str))=false:=by decide) (he:cL e es X.env:=by exact fH rfl) (kf:(backTo pos (starEach es X.env)).any (·.1)=false:=by exact gh rfl):WF X (.Call (.Name x p) (e::es) [] pos) (iz g f):=⟨by
 have ha:=ha.go;obtain⟨r,h1,h2⟩:=hc;exact(Di h1 hg hm hv ha hn rV he kf).imp (U3 h2)⟩
theorem gk (hc:vR X (.type T) g) (hg:Gl X x) (hm:X.mg x=none) (hv:bootBuiltins x=some (.type T)) (ha:Ts X (e::es) f) (hn:x≠"__name__":=by decide) (rV:(x==("__debug__":Str))=false:=by decide) (he:cL e es X.env:=by exact fH rfl) (kf:(backTo pos (starEach es X.env)).any (·.1)=false:=by exact gh rfl):WD X (.Call (.Name x p) (e::es) [] pos) (cN g f):=⟨by
 have ha:=ha.go;obtain⟨r,h1,h2⟩:=hc;exact(uK h1 hg hm hv ha hn rV he kf).imp (Qh h2)⟩
end
variable [Mem]
section
variable {B C0 H0 C H C' H':Hp}{δ:fE}{σ:L2.St}
end
section
variable {X:Cx}{C0 H0:Hp}{st:cI}{XX rest:List cI}{e:cF}{pos:Pos}{f g:bY}
theorem fj:qb X C0 H0 [] jH:=⟨λB=>Bi.imp λDn σ H ⟨C,δ,r,g,q,k⟩=>by cases q;exact k σ C H g⟩
theorem da (h:WB X C0 H0 st f):qb X C0 H0 [st] f:=⟨λB=>He (h.go B)⟩
theorem cZ (h:WB X C0 H0 st f) (h2:qb X C0 H0 rest g):qb X C0 H0 (st::rest) (eI f g):=⟨λB=>(qg (h.go B) (h2.go B)).imp λDn σ H ⟨C,δ,r,gd,q,k⟩=>by
 unfold eI at q;split at q
 ·rename_i δ' hf;exact⟨C,δ,.next δ',gd,hf,λσ' C' H' g'=>⟨C',δ',r,g',q,k⟩⟩
 ·rename_i hn;refine⟨C,δ,r,gd,q,?_⟩;cases r with
  |next δ'=>exact absurd q (hn δ')
  |ret d=>exact k
  |brk δ'=>exact k
  |cont δ'=>exact k
⟩
theorem oh (i:Nat) (h:qb X C0 H0 XX f):qb X C0 H0 XX (r6 i f):=⟨λB=>(h.go B).imp λDn σ H ⟨C,δ,r,gd,q,k⟩=>by
 obtain⟨C',g'⟩:=gd.give i;exact⟨C',_,r,g',q,k⟩⟩
theorem dH {f:bZ}(he:WD X e f):WB X C0 H0 (.Return (some e) pos) (eM f):=⟨λB=>(QZ he.go).imp λDn σ H ⟨C,δ,r,gd,q,k⟩=>by
 unfold eM at q;cases hf:f δ with
 |none=>rw[hf]at q;cases q
 |some d=>
  rw[hf]at q;cases q;exact⟨C,δ,d,gd.x,hf,λv C' H' ev i=>k v C' H' (gd.ev.trans ev) i⟩⟩
theorem gT (i:Nat) {x:Str}{pos':Pos}{f:bZ}(hN:X.N.Nodup) (he:WD X e f) (hi:X.N[i]? =some x:=by rfl) (hx:Loc X.env.scope x:=by first|exact Or.inl rfl|exact Or.inr rfl) (hs:swapsWith e (some (.Name x pos')) pos.line X.env=pure false:=by rfl) (hf:X.fn x=true\/X.env.scope.names.lookup x=some .local:=by first|exact .inl rfl|exact .inr rfl):WB X C0 H0 (.Assign [.Name x pos'] e pos) (j8 i f):=⟨λB=>(w6 hN hi hx he.go hs hf).imp (RJ λ_ _ _ h=>h)⟩
theorem nj (i:Nat) {x:Str}{pos':Pos}{f:bX}(hN:X.N.Nodup) (he:WF X e f) (hi:X.N[i]? =some x:=by rfl) (hx:Loc X.env.scope x:=by first|exact Or.inl rfl|exact Or.inr rfl) (hs:swapsWith e (some (.Name x pos')) pos.line X.env=pure false:=by rfl) (hf:X.fn x=true\/X.env.scope.names.lookup x=some .local:=by first|exact .inl rfl|exact .inr rfl):WB X C0 H0 (.Assign [.Name x pos'] e pos) (j9 i f):=⟨λB=>(w6 hN hi hx he.go hs hf).imp (Lk λ_ _ _ h=>h)⟩
theorem i9 (hc:WQ X c q) (ha:qb X C0 H0 a f) (hb:qb X C0 H0 b g):WB X C0 H0 (.If c a b pos) (oR q f g):=⟨λB=>(Kx hc.go (ha.go B) (hb.go B)).imp λDn σ H ⟨C,δ,r,gd,h,k⟩=>by
 unfold oR at h;split at h
 ·rename_i hf;exact⟨C,δ,true,gd.x,hf,λC' H' ev=>Bu ⟨C',δ,r,gd.DA ev,h,k⟩⟩
 ·rename_i hf;exact⟨C,δ,false,gd.x,hf,λC' H' ev=>Dq ⟨C',δ,r,gd.DA ev,h,k⟩⟩
 ·cases h
⟩
end
section
variable {X:Cx}{tg e:cF}
theorem xF (h:WD X e f):wK X tg e (iL f):=⟨DB h.go⟩
theorem gC (h:WD X e f):wK X tg e (iT f):=⟨Hs h.go⟩
theorem tT (h:WO X e f):Tt X tg e (iL f):=⟨(Hg h.go).imp λσ H R ⟨C,δ,ds,x,q,k⟩=>by
 unfold iL at q;split at q
 ·rename_i es hf;cases q;refine⟨C,δ,_,x,hf,λv C' H' ev i=>?_⟩
  rcases i with i|⟨a,xs,Ho,rfl,e2,h2,h3,h4⟩
  ·cases i with
   |lst hr hl=>exact⟨_,rfl,⟨_,.inl (hr.same ev.s)⟩,k _ C' H' ev λi C2 H2 e2=>Ag hr hl i C2 H2 e2.c e2.s⟩
  ·cases e2;refine⟨a,rfl,⟨xs,pZ.of h3⟩,k _ C' H' ev λi C2 H2 e2=>?_⟩
   have hq:pZ X.K H2 a xs:=pZ.of (e2.hh h3);refine⟨λd hd=>?_,λhi=>⟨xs,hq,by rw[h4.length];exact hi⟩⟩
   obtain⟨v,hv,is⟩:=h4.get hd;exact⟨⟨xs,v,hq,hv⟩,λx H3 ⟨z1,z2⟩=>⟨z1,by
    have:=z2 xs hq;rw[hv]at this;cases this;exact is.mono e2.c⟩⟩
 ·cases q
⟩
theorem iC (hg:Gl X "range") (hm:X.mg "range"=none) (ha:HA X [a] f) (hs:starEach [a] X.env=[(false,eval a X.env)]:=by exact fH rfl):wK X tg (.Call (.Name "range" p) [a] [] pos) (uQ f):=⟨(IT hg hm ha.go hs).imp λσ H R ⟨C,δ,ds,x,q,k⟩=>by
 unfold uQ at q;split at q
 ·rename_i j hf;split at q
  ·rename_i hj;cases q;refine⟨C,δ,_,x,hf,λvs C' H' ev i=>?_⟩
   cases i with
   |cons i1 i2=>
    cases i2;cases i1;exact⟨j,rfl,by omega,by omega,k _ C' H' ev FG⟩
  ·cases q
 ·cases q
⟩
theorem lP (hp:PassesOwn (model X.prog X.w) X.A X.env X.xe) (hc:X.calm=true) (hi:wK X tg iter i) (hg:PG X tg (Hf j)) (hb:qb X C0 H0 body f) (hs:∀x,foldedSetIterable iter X.env x=pure x:=by intro _;rfl):WB X C0 H0 (.For tg iter body [] pos) (oT j i f):=⟨λB cM s σ H Dn I h=>by
 obtain⟨C,δ,r,gd,q,k⟩:=h;unfold oT at q;cases hf:i δ with
 |none=>rw[hf]at q;cases q
 |some ds=>
  rw[hf]at q;simp only[ao]at q;have main:∀J C1 H1,Ev C H C1 H1->Wk J ds C1->∃W:Nat->Nat->L2.St->Hp->Prop,(∃m,W 0 m σ H1)/\∀i m σ H,W i m σ H->
    (J.stop i H/\Dn.nx σ H)\/(J.go i H/\∃N:L2.St->Hp->Prop,(∀σ' H',N σ' H'->∃m',m'<m/\W (i+1) m' σ' H')/\∀x H',J.Q2 i H x H'->Hf j x σ H' λσ2 H2=>tS C1 C0 H0 f {Dn with nx:=N,ct:=N,bk:=Dn.nx} σ2 H2):=by
   intro J C1 H1 ev wk;have bs:dM B C1:=gd.b.trans ev.c;refine⟨λn m σ H=>∃C δ,m=ds.length-n/\n<=ds.length/\Gd C1 C0 H0 δ σ C H/\iV j f (ds.drop n) δ=some r,⟨ds.length,C1,δ,by simp,bK _,⟨dM.refl _,gd.ev.trans ev,gd.x.ev ev,gd.fr⟩,by simpa using q⟩,?_⟩
   rintro n m σ2 H2 ⟨C2,δ2,rfl,hn,g2,q2⟩
   have w:=wk n C2 H2 g2.b g2.x.sub;by_cases fu:n<ds.length
   ·have hd:ds[n]? =some ds[n]:=ah fu;obtain⟨go,yl⟩:=w.1 _ hd;rw[List.drop_eq_getElem_cons fu]at q2;refine .inr ⟨go,λσ' H'=>∃C' δ',Gd C1 C0 H0 δ' σ' C' H'/\iV j f (ds.drop (n+1)) δ'=some r,λσ' H' ⟨C',δ',g',q'⟩=>⟨ds.length-(n+1),by omega,C',δ',rfl,fu,g',q'⟩,λx H3 y=>?_⟩
    obtain⟨rfl,is⟩:=yl x H3 y;have g3:=g2.qm (i:=j) is;unfold iV at q2;show tS C1 C0 H0 f {Dn with nx:=_,ct:=_,bk:=Dn.nx} (σ2.set j (some x)) _
    cases RU:f (δ2.set j (.dat ds[n]))with
    |none=>rw[RU]at q2;cases q2
    |some rb=>
     rw[RU]at q2;refine⟨C2,δ2.set j (.dat ds[n]),rb,g3,RU,?_⟩;cases rb with
     |next δ'=>exact λσ' C' H' g'=>⟨C',δ',g',q2⟩
     |cont δ'=>exact λσ' C' H' g'=>⟨C',δ',g',q2⟩
     |brk δ'=>
      cases q2;exact λσ' C' H' g'=>k σ' C' H' ⟨bs.trans g'.b,g'.ev,g'.x,g'.fr⟩
     |ret d=>
      cases q2;exact k
   ·have e:n=ds.length:=by omega
    subst e;rw[List.drop_length]at q2;unfold iV at q2;cases q2;exact .inl ⟨w.2 (au _),k σ2 C2 H2 ⟨bs.trans g2.b,g2.ev,g2.x,g2.fr⟩⟩
  refine Q4 (tb:=λX3 σ' H'=>∃C1,tS C1 C0 H0 f X3 σ' H') hp hc hi.go hg (λcM s σ H X3 I ⟨C1,h⟩=>hb.go C1 cM s σ H X3 I h) hs cM s σ H Dn I ?_
  refine⟨C,δ,ds,gd.x,hf,λJ C1 H1 ev wk=>?_⟩
  obtain⟨W,w0,st⟩:=main J C1 H1 ev wk;refine⟨W,w0,λi m σ H w=>?_⟩
  rcases st i m σ H w with z|⟨go,N,hN,hy⟩
  ·exact .inl z
  ·exact .inr ⟨go,N,hN,λx H' y=>⟨C1,hy x H' y⟩⟩⟩
end
section
variable {X:Cx}{elt iter:cF}{x:Str}{px pos:Pos}{scope:Scope}{i:bX}{t:cb}{f:bZ}
theorem md (j:Nat) (hc:X.calm=true) (S:sH X scope x j) (hi:Tt X (.Name x px) iter i) (he:∀cl C s H fp,WD (ez X scope cl C s H fp) elt f) (hs:∀v,foldedSetIterable iter X.env v=pure v:=by intro _;rfl):WF X (.ListComp elt [⟨.Name x px,iter,[],0⟩] scope pos) (dU i j jd f):=⟨(Bx hc S.G hi.go (λ_ _ _ _ _=>xj) (λcl C s H fp=>(he cl C s H fp).go) hs).imp (FH Lm)⟩
theorem iW (j:Nat) (hc:X.calm=true) (S:sH X scope x j) (hi:Tt X (.Name x px) iter i) (ht:∀cl C s H fp,WQ (ez X scope cl C s H fp) c t) (he:∀cl C s H fp,WD (ez X scope cl C s H fp) elt f) (hs:∀v,foldedSetIterable iter X.env v=pure v:=by intro _;rfl):WF X (.ListComp elt [⟨.Name x px,iter,[c],0⟩] scope pos) (dU i j t f):=⟨(Bx hc S.G hi.go (λcl C s H fp=>Dt ((λcl C s H fp=>(ht cl C s H fp).go) cl C s H fp)) (λcl C s H fp=>(he cl C s H fp).go) hs).imp (FH λ_ _ _ h=>h)⟩
variable {C0 H0:Hp}{y:Str}{py By:Pos}
theorem tU (k j:Nat) (hc:X.calm=true) (S:sH X scope x j) (hi:Tt X (.Name x px) iter i) (ht:∀cl C s H fp,WQ (ez X scope cl C s H fp) c t) (he:∀cl C s H fp,WD (ez X scope cl C s H fp) elt f) (hN:X.N[k]? =some y:=by rfl) (hy:Loc X.env.scope y:=by first|exact Or.inl rfl|exact Or.inr rfl) (hf:X.fn y=true\/X.env.scope.names.lookup y=some .local:=by first|exact .inl rfl|exact .inr rfl) (UT:swapsWith (.ListComp elt [⟨.Name x px,iter,[c],0⟩] scope pos) (some (.Name y py)) By.line X.env=pure true:=by rfl) (hs:∀v,foldedSetIterable iter X.env v=pure v:=by intro _;rfl):WB X C0 H0 (.Assign [.Name y py] (.ListComp elt [⟨.Name x px,iter,[c],0⟩] scope pos) By) (j9 k (dU i j t f)):=⟨λB=>
 (xm hc S hi.go (λcl C s H fp=>Dt ((λcl C s H fp=>(ht cl C s H fp).go) cl C s H fp)) (λcl C s H fp=>(he cl C s H fp).go) hN hy hf UT hs).imp (Lk (FH λ_ _ _ h=>h))⟩
end
section
variable {X:Cx}{cM:cj}{σ:L2.St}{C H:Hp}{s:cy}
end
variable [Mem]
section
variable {X:Cx}{a b c e o:cF}{pos:Pos}{f g h:bZ}
theorem eJ (ha:WO X a f) (hb:WO X b g) (hs:oQ b):WD X (.Subscript a b pos) (du gM f g):=⟨UZ Ru U5 ha.go hb.go hs⟩
end
variable [Mem]
section
variable {X:Cx}{a b c e o:cF}{pos p p2:Pos}{f g h:bZ}
theorem OF (ha:WO X a f) (hb:WO X b g):WF X (.BinOp a .Add b pos) (du Jo f g):=⟨UY Oz OA ha.go hb.go⟩
theorem RV {lo hi:Option cF}{fl fh:fE->Option (Option Int)}(he:WO X e f) (hl:WP X lo fl) (hh:WP X hi fh):WF X (.Subscript e (.Slice lo hi none p2) pos) (OD f fl fh):=⟨(Dj Oc he.go hl.go hh.go).imp λσ H Q ⟨C,δ,ds,x,q,k⟩=>by
 unfold OD at q;split at q
 ·rename_i es hf;cases h1:fl δ with
  |none=>rw[h1]at q;cases q
  |some l=>
   cases h2:fh δ with
   |none=>rw[h1,h2]at q;cases q
   |some u=>
    rw[h1,h2]at q;cases q;refine⟨C,δ,_,x,hf,λv C1 H1 e1 i1=>⟨C1,δ,l,x.ev e1,h1,λC2 H2 e2=>⟨C2,δ,u,x.ev (e1.trans e2),h2,λC3 H3 e3=>?_⟩⟩⟩
    obtain⟨p,xs,rfl,hq,ll⟩:=((i1.ev e2).ev e3).list (K:=X.K) e3.s;have ev:=(e1.trans e2).trans e3;exact⟨p,xs,rfl,hq,λt ht=>k t _ C3 _ (ev.trans (.fF e3.s ht)) (ev.free ht) (e3.s.free ht) cY (ll.cut l u)⟩
 ·cases q⟩
theorem BP {f:bX}{p' pos':Pos}(hc:X.calm=true) (hg:Gl X "list") (hm:X.mg "list"=none) (Vf:Gl X "range") (BQ:X.mg "range"=none) (ha:HA X [a] f) (hs:starEach [a] X.env=[(false,eval a X.env)]:=by exact fH rfl) (he:starEach [.Call (.Name "range" p') [a] [] pos'] X.env=(false,eval (.Call (.Name "range" p') [a] [] pos') X.env)::starEach [] X.env:=by exact fH rfl) (kf:(backTo pos (starEach [] X.env)).any (·.1)=false:=by exact gh rfl):WF X (.Call (.Name "list" p) [.Call (.Name "range" p') [a] [] pos'] [] pos) (uQ f):=⟨(uK (zv hc) hg hm Oy (nh (Aj Vf BQ ha.go hs) uJ he) (by decide) (by decide) he kf).imp λσ H Q ⟨C,δ,ds,x,q,k⟩=>by
  unfold uQ at q;split at q
  ·rename_i j hf;split at q
   ·rename_i hj;cases q;refine⟨C,δ,_,x,hf,λvs C' H' ev i=>?_⟩
    cases i with
    |cons i1 i2=>
     cases i2;cases i1;refine⟨j,rfl,λt ht=>⟨t,j,rfl,cY,hj.1,hj.2,λl hl=>?_⟩⟩
     have e1:=Ev.fF (o:=HO.Nz 0 j) ev.s ht;exact k l _ C' _ ((ev.trans e1).trans (.fF e1.s hl)) (ev.free (e1.free hl)) (ev.s.free (e1.free hl)) cY (.ints _)
   ·cases q
  ·cases q⟩
end
variable [Mem]
section
variable {X:Cx}
end
section
variable {X:Cx}{e:cF}{pos:Pos}{C0 H0:Hp}{f:bZ}
theorem BR (ho:PE X o (gX i)) (he:WD X e f) (An:cL e [] X.env:=by exact fH rfl) (Dl:attributeBase o "append" X.env (eval o X.env)=eval o X.env:=by rfl) (KY:((backTo pos (starEach [e] X.env)).all (λx=> !x.1)&&(backToKw pos (keywordEach [] X.env)).all (λx=>x.1.isSome)
   &&decide ([e].length+([]:List Keyword).length+(if([]:List Keyword).isEmpty then 0 else 1)<30))=true:=by exact U2 rfl) (Dm:(apos.endLine==pos.line)=true:=by rfl) (xg:(backTo pos (starEach [] X.env)).any (·.1)=false:=by exact gh rfl) (hs:swapsWith (.Call (.Attribute o "append" apos) [e] [] pos) none pos'.line X.env=pure false:=by rfl):WB X C0 H0 (.Expr (.Call (.Attribute o "append" apos) [e] [] pos) pos') (zt i f):=⟨Jl (tH he.go wJ An) ho (λ_ _ _ h=>h) (Qa PySem.F.plainAttrs_list PySem.F.slot_list_append PySem.F.type_list_append Ad ho (tH he.go wJ An) Dl KY Dm An xg) hs⟩
variable {elt o iter:cF}{x y:Str}{px py By apos hV:Pos}{scope:Scope}{i:bX}
theorem OG (k j m:Nat) (hc:X.calm=true) (X1:m≠j) (S:sH X scope x j) (hi:wK X (.Name x px) iter i) (ho:∀cl C s H fp,PE (ez X scope cl C s H fp) o (gX m)) (he:∀cl C s H fp,WD (ez X scope cl C s H fp) e f) (An:∀cl C s H fp,starEach [e] (ez X scope cl C s H fp).env=(false,eval e (ez X scope cl C s H fp).env)::starEach [] (ez X scope cl C s H fp).env:=by intros;exact fH rfl) (Dl:∀cl C s H fp,attributeBase o "pop" (ez X scope cl C s H fp).env (eval o (ez X scope cl C s H fp).env)=eval o (ez X scope cl C s H fp).env:=by intros;rfl) (KY:∀cl C s H fp,((backTo hV (starEach [e] (ez X scope cl C s H fp).env)).all (λx=> !x.1)&&(backToKw hV (keywordEach [] (ez X scope cl C s H fp).env)).all (λx=>x.1.isSome)
   &&decide ([e].length+([]:List Keyword).length+(if([]:List Keyword).isEmpty then 0 else 1)<30))=true:=by intros;exact U2 rfl) (Dm:(apos.endLine==hV.line)=true:=by rfl) (xg:∀cl C s H fp,(backTo hV (starEach [] (ez X scope cl C s H fp).env)).any (·.1)=false:=by intros;rfl) (hN:X.N[k]? =some y:=by rfl) (hy:Loc X.env.scope y:=by first|exact Or.inl rfl|exact Or.inr rfl) (hf:X.fn y=true\/X.env.scope.names.lookup y=some .local:=by first|exact .inl rfl|exact .inr rfl) (UT:swapsWith (.ListComp (.Call (.Attribute o "pop" apos) [e] [] hV) [⟨.Name x px,iter,[],0⟩] scope pos) (some (.Name y py)) By.line X.env=pure true:=by rfl) (hs:∀v,foldedSetIterable iter X.env v=pure v:=by intro _;rfl):WB X C0 H0 (.Assign [.Name y py] (.ListComp (.Call (.Attribute o "pop" apos) [e] [] hV) [⟨.Name x px,iter,[],0⟩] scope pos) By) (DF k j m i f):=⟨λB=>
 (xm hc S hi.go (λ_ _ _ _ _=>xj) (λcl C s H fp=>Qa PySem.F.plainAttrs_list PySem.F.slot_list_pop PySem.F.type_list_pop K0 (ho cl C s H fp) (tH ((λcl C s H fp=>(he cl C s H fp).go) cl C s H fp) wJ (An cl C s H fp)) (Dl cl C s H fp) (KY cl C s H fp) Dm (An cl C s H fp) (xg cl C s H fp)) hN hy hf UT hs).imp (Lr X1 Lm)⟩
end
section
variable {X:Cx}{e:cF}{es:List cF}{p pos:Pos}{x:Str}
theorem dq (c:j7 X.prog X.w X.K X.mg X.base k x g) (hr:fm k X.A) (hg:Gl X x) (ha:HA X (e::es) fa) (rV:(x==("__debug__":Str))=false:=by decide) (he:cL e es X.env:=by exact fH rfl) (kf:(backTo pos (starEach es X.env)).any (·.1)=false:=by exact gh rfl):WD X (.Call (.Name x p) (e::es) [] pos) (cN g fa):=⟨by
 have ha:=ha.go;obtain⟨f,fd,ps,F,hm,hk,hb⟩:=c;exact Ot F hr hg hm hk hb ha rV he kf⟩
end
end DL
namespace DL
open PySem PySem.Spec PyProof.Rows L2
variable [Mem]
noncomputable def RW:D->Option Bool
 |.eV=>some false
 |.bl b=>some b
 |.int i=>some (i !=0)
 |.str z=>if z.length<=1000000 then some ((z.length:Int)!=0)else none
 |.tup ds=>some (!ds.isEmpty)
 |.lst ds=>some (!ds.isEmpty)
def qT (f:bZ):cb:=λδ=>(f δ).bind RW
theorem IsL.isEmpty (l:IsL C xs ds):xs.isEmpty=ds.isEmpty:=by cases l<;>rfl
theorem OH {K:W.Frag}{C H:Hp}{v:V}{d:D}{b:Bool}(s:dM C H) (i:qa C H v d) (h:RW d=some b):Rh K v H b:=by
 cases d with
 |eV=>cases h;have:=i.is (λ_ z=>by cases z);cases this;rfl
 |bl c=>cases h;have:=i.is (λ_ z=>by cases z);cases this;rfl
 |int c=>cases h;have:=i.is (λ_ z=>by cases z);cases this;rfl
 |str z=>
  simp only[RW]at h;split at h
  ·rename_i hz;cases h;have:=i.is (λ_ z=>by cases z);cases this
   exact⟨aD hz (by decide),rfl⟩
  ·cases h
 |tup ds=>
  cases h;obtain⟨a,xs,rfl,hq,l,_⟩:=i.tup (K:=K) s;exact .inr (.inl ⟨xs,hq,by rw[l.isEmpty]⟩)
 |lst ds=>
  cases h;obtain⟨a,xs,rfl,hq,l⟩:=i.list (K:=K) s;exact .inl ⟨xs,hq,by rw[l.isEmpty]⟩
section
variable {X:Cx}{a b c e o:cF}{pos p p2:Pos}{f g h:bZ}
theorem Lw:rY X (binaryOp .Add) (λx y H Q=>∃a b ys,x=.ref a/\y=.ref b/\kR X.K H a []/\kR X.K H b ys/\Q (.ref b) H):=by
 intro cM s σ H x y v u Q I rx ry h;obtain⟨a,b,ys,rfl,rfl,ha,hb,q⟩:=h;cases rx;cases ry;obtain⟨dD,r1,p1,_⟩:=I.tuple ha;obtain⟨oP,r2,p2,_⟩:=I.tuple hb;have e0:dD=[]:=by cases r1;rfl
 obtain⟨⟨cls,dd,data,sl⟩,ho,hc,n,hd⟩:=id p1;obtain⟨⟨Rm,NB,data2,NC⟩,wj,tj,n2,hd2⟩:=id p2;simp only at hc hd tj hd2;subst hc hd tj hd2;exact concat_meets ⟨_,ho,rfl⟩ ⟨_,wj,rfl⟩ noFill_tuple_add seq_tuple_add PySem.F.slot_tuple_add PySem.F.entry_tuple_add (PySem.F.args_tuple_add_2 _ _)
   (tuple_addW0 a b dD.toArray oP.toArray n n2 dd NB sl NC (by simp[e0])) ⟨ho,wj,⟨.ref b,H,I,rfl,q⟩⟩
noncomputable def mF:D->D->Option D
 |.tup a,.tup b=>if a.length+b.length<=1000000 then some (.tup (a++b))else none
 |_,_=>none
theorem OI:Qf (λx y H Q=>(∃a b ys,x=.ref a/\y=.ref b/\kR X.K H a []/\kR X.K H b ys/\Q (.ref b) H)\/P9 X.K x y H Q) mF:=λC H x y dx dy d Q s ix iy q k=>by
 unfold mF at q;split at q
 ·rename_i ds es;split at q
  ·rename_i hz;cases q;obtain⟨a,xs,rfl,hq,l,hc⟩:=ix.tup (K:=X.K) s;obtain⟨b,ys,rfl,WH,l2,tj⟩:=iy.tup (K:=X.K) s;cases ds with
   |nil=>
    cases l;exact .inl ⟨a,b,ys,rfl,rfl,hq,WH,k _ C H (.refl s) (.tup tj l2)⟩
   |cons d0 ds=>
    refine .inr ⟨a,b,xs,ys,rfl,rfl,hq,WH,(λz=>by rw[z]at l;cases l),by rw[l.length,l2.length];exact aD hz (by decide),λz=>?_,λz t ht=>?_⟩
    ·subst z;cases l2;exact k _ C H (.refl s) (.tup hc (by rw[bB];exact l))
    ·exact k _ _ _ (.new s ht) (.tup cY ((l.append l2).mono (eA (s.free ht))))
  ·cases q
 ·cases q
theorem IsL.RX {C:Hp}{xs:List V}{ds:cu}(l:IsL C xs ds) {lo hi:Option Int}(h:HT.ip xs.length 0 lo=0/\HT.ip xs.length xs.length hi=xs.length):IsL C xs (cutD ds lo hi):=by
 unfold cutD;rw[<-l.length,h.1,h.2,List.drop_zero,Nat.sub_zero,l.length,List.take_length];exact l
end
end DL
namespace DL
open PySem PySem.Spec PyProof.Rows L2
instance:DecidableEq D:=Classical.typeDecidableEq D
mutual
inductive KI (h:Heap):cx->D->Prop where
 |int (n:Int) (t:Tok):KI h (.int n t) (.int n)
 |tup {a:cE}{o:Obj}{items:Array cx}{n:Nat}{ds:cu}:h.get? a=some o->o.cls=.type "tuple"->o.data=.seq items n->sL h items.toList ds->KI h (.ref a) (.tup ds)
inductive sL (h:Heap):cw->cu->Prop where
 |nil:sL h [] []
 |cons {v:cx}{d:D}{vs:cw}{ds:cu}:KI h v d->sL h vs ds->sL h (v::vs) (d::ds)
end
theorem sL.length:∀{vs:cw}{ds:cu},sL h vs ds->vs.length=ds.length
 |_,_,.nil=>rfl
 |_,_,.cons _ t=>congrArg (·+1) t.length
theorem sL.get {h:Heap}:∀{vs:cw}{ds:cu}{i:Nat}{v:cx},sL h vs ds->vs[i]? =some v->∃d,ds[i]? =some d/\KI h v d
 |_,_,_,_,.nil,e=>by simp at e
 |_,_,0,_,.cons h _,e=>⟨_,rfl,by simp only[aM,Option.some.injEq]at e;subst e;exact h⟩
 |_,_,i+1,_,.cons _ t,e=>by
  obtain⟨d,h1,h2⟩:=t.get (i:=i) (by simpa using e)
  exact⟨d,by simpa using h1,h2⟩
mutual
theorem KI.inj {h:Heap}:∀{v:cx}{d e:D},KI h v d->KI h v e->d=e
 |_,_,_,.int n t,.int _ _=>rfl
 |_,_,_,.tup h1 h2 h3 l,.tup FD Jg Lg l'=>by
  rw[h1]at FD;cases FD;rw[h3]at Lg;injection Lg with e1 _;subst e1
  rw[l.inj l']
theorem sL.inj {h:Heap}:∀{vs:cw}{ds es:cu},sL h vs ds->sL h vs es->ds=es
 |_,_,_,.nil,.nil=>rfl
 |_,_,_,.cons h t,.cons h' t'=>by rw[h.inj h',t.inj t']
end
mutual
theorem KI.keeps {h h':Heap}{x:cE}{ox:Obj}{es:Array DictEntry}{ep:Nat}(ho:h.get? x=some ox) (hd:ox.data=.dict es ep) (hs:Heap.SameBut x h h'):∀{v:cx}{d:D},KI h v d->KI h' v d
 |_,_,.int n t=>.int n t
 |_,_,@KI.tup _ a o items n ds h1 h2 h3 l=>by
  have jg:a≠x:=by
   rintro rfl
   rw[ho]at h1;cases h1;rw[hd]at h3;exact nomatch h3
  exact .tup ((hs.2 a jg).trans h1) h2 h3 (sL.keeps ho hd hs l)
theorem sL.keeps {h h':Heap}{x:cE}{ox:Obj}{es:Array DictEntry}{ep:Nat}(ho:h.get? x=some ox) (hd:ox.data=.dict es ep) (hs:Heap.SameBut x h h'):∀{vs:cw}{ds:cu},sL h vs ds->sL h' vs ds
 |_,_,.nil=>.nil
 |_,_,.cons h t=>.cons (KI.keeps ho hd hs h) (sL.keeps ho hd hs t)
end
mutual
noncomputable def eQ:D->Int
 |.int n=>hashInt n
 |.tup ds=>reduceHash (Builtin.Tuple.tupleHashOf (mG ds))
 |_=>0
noncomputable def mG:cu->cn
 |[]=>[]
 |d::ds=>eQ d::mG ds
end
mutual
noncomputable def xG:D->Nat
 |.tup ds=>pO ds+1
 |_=>1
noncomputable def pO:cu->Nat
 |[]=>0
 |d::ds=>xG d+pO ds
end
theorem oW:∀a b:cu,mG (a++b)=mG a++mG b
 |[],b=>by simp[mG]
 |x::a,b=>by simp[mG,oW a b]
theorem oX:∀a b:cu,pO (a++b)=pO a+pO b
 |[],b=>by simp[pO]
 |x::a,b=>by simp[pO,oX a b,Nat.add_assoc]
section
variable {prog:cA}{w:cB}{E:cf}
theorem KI.hash (n:Nat):∀(A:cC) (s:cy) (v:cx) (d:D) (Q:Int->cy->Prop),eh d<=n->A.units+n<cLine->KI s.heap v d->Q (eQ d) {s with toks:=s.toks+xG d}->wpAny (model prog w) A (pyHash v) Q E s:=by
 induction n with
 |zero=>
  intro A s v d Q hn hu k h;cases k with
  |int i t=>
   unfold eQ xG at h;exact wpAny_pyHash_int h
  |tup h1 h2 h3 l=>unfold eh at hn;omega
 |succ n ih=>
  intro A s v d Q hn hu k h;cases k with
  |int i t=>
   unfold eQ xG at h;exact wpAny_pyHash_int h
  |@tup a o items m ds ho hc hd l=>
   have hT:s.TypeIs (.ref a) "tuple":=⟨o,ho,hc⟩;have Bh:ju ds<=n:=by unfold eh at hn;omega
   unfold eQ xG at h;unfold pyHash
   first|unfold pyHashByItsType|skip
   first|refine aa (wpAny_cRoomFor_or (.inr (by omega)) ?_)|skip
   refine aa (wpAny_specialOf hT F.slot_tuple_hash.lookup ?_);show wpAny _ _ (if(some (Value.builtin "tuple.__hash__")==some Value.none)=true then _ else _) Q E s
   rw[if_neg (by rw[beq_builtin_none];exact aZ)]
   refine aa (wpAny_specialOf hT F.slot_tuple_hash.lookup ?_);show wpAny _ _ (callSpecialIfBoundUnlessNone? (.ref a) "__hash__" _>>=_) Q E s;refine aa (wpAny_callSpecialIfBoundUnlessNone?_slot hT F.slot_tuple_hash (bL F.slot_tuple_hash hT F.entry_tuple_hash ?_ (F.args_tuple_hash_1 _)));show wpAny _ _ (Builtin.Tuple.tupleItemsOf (.ref a)>>=_) _ _ s;refine aa (wpAny_tupleItemsOf ho hd ?_);refine aa ?_;rw[<-Array.forIn_toList];refine wpAny_forIn_list _
    (λrest (b:Array Int) s'=>∃done left,ds=done++left/\sL s.heap rest left/\b.toList=mG done/\s'={s with toks:=s.toks+pO done})
    _ ?_ ?_ _ _ ⟨[],ds,rfl,l,by simp[mG],by simp[pO]⟩
   ·rintro x rest b s' ⟨done,left,rfl,hl,hb,rfl⟩
    cases hl with
    |@cons _ k _ Tu h1 iq=>
     have hk:eh k<=n:=aD (lr (aL _ af)) Bh;refine aa (ih _ {s with toks:=s.toks+pO done} x k _ hk ?_ h1 ?_)
     ·show A.units+1+n<cLine;omega
     ·first
       |exact aj ⟨done++[k],Tu,by simp,iq,by simp[hb,oW,mG],by simp[Nat.add_assoc,oX,pO]⟩
       |exact aa (aj (aj ⟨done++[k],Tu,by simp,iq,by simp[hb,oW,mG],by simp[Nat.add_assoc,oX,pO]⟩))
   ·rintro b s' ⟨done,left,rfl,hl,hb,rfl⟩
    cases hl;rw[bB]at h;show wpAny _ _ (retInt (Builtin.Tuple.tupleHashOf b.toList)) _ _ _;rw[hb];refine wpAny_ret_mkInt ?_;show wpAny _ _ (if(decide (-(2:Int)^63<=Builtin.Tuple.tupleHashOf (mG done))&&decide (Builtin.Tuple.tupleHashOf (mG done)<2^63))=true then _ else _) Q E _
    unfold reduceHash at h;by_cases hr:(decide (-(2:Int)^63<=Builtin.Tuple.tupleHashOf (mG done))&&decide (Builtin.Tuple.tupleHashOf (mG done)<2^63))=true
    ·rw[if_pos hr];rw[if_pos hr]at h;exact aj (by simpa [Nat.add_assoc]using h)
    ·rw[if_neg hr];rw[if_neg hr]at h;exact aa (wpAny_rule (aj (by simpa [Nat.add_assoc]using h)))
theorem KI.eq (n:Nat):∀(A:cC) (s:cy) (u v:cx) (d e:D),eh d<=n->A.units+n<cLine->KI s.heap u d->KI s.heap v e->SeqAt.EqAt A s u v (jf d e):=by
 induction n with
 |zero=>
  intro A s u v d e hn hu ku kv;have Lo:A.units<cLine:=by omega
  cases ku with
  |int i t=>
   cases kv with
   |int j t'=>unfold jf;exact SeqAt.EqAt.int_int i t j t'
   |@tup b o2 gR n2 es wj tj hd2 l2=>unfold jf;exact SeqAt.EqAt.int_tuple i t (items:=gR) ⟨o2,wj,tj,n2,hd2⟩ Lo
  |tup h1 h2 h3 l=>unfold eh at hn;omega
 |succ n ih=>
  intro A s u v d e hn hu ku kv;have Lo:A.units<cLine:=by omega
  cases ku with
  |int i t=>
   cases kv with
   |int j t'=>unfold jf;exact SeqAt.EqAt.int_int i t j t'
   |@tup b o2 gR n2 es wj tj hd2 l2=>unfold jf;exact SeqAt.EqAt.int_tuple i t (items:=gR) ⟨o2,wj,tj,n2,hd2⟩ Lo
  |@tup a o items m ds ho hc hd l=>
   have Bh:ju ds<=n:=by unfold eh at hn;omega
   have p1:IsTup s.heap a items:=⟨o,ho,hc,m,hd⟩;cases kv with
   |int j t'=>unfold jf;exact SeqAt.EqAt.tuple_int j t' p1 Lo
   |@tup b o2 gR n2 es wj tj hd2 l2=>
    have p2:IsTup s.heap b gR:=⟨o2,wj,tj,n2,hd2⟩;by_cases Jn:a=b
    ·subst Jn;have e:=KI.inj (KI.tup ho hc hd l) (KI.tup wj tj hd2 l2);rw[<-e,tJ];exact SeqAt.EqAt.same _
    ·have hits:∀j (h1:j<items.size) (h2:j<gR.size),SeqAt.EqAt A.in1 s items[j] gR[j] (jf (ds.getD j .eV) (es.getD j .eV)):=λj h1 h2=>by
      obtain⟨d1,e1,i1⟩:=l.get (i:=j) (v:=items[j]) (by simp[h1])
      obtain⟨d2,e2,i2⟩:=l2.get (i:=j) (v:=gR[j]) (by simp[h2])
      rw[ak,ak,e1,e2];exact ih A.in1 s _ _ d1 d2 (aD (lr (bh e1)) Bh) (by show A.units+1+n<cLine;omega) i1 i2
     have q:=SeqAt.RcAt.tuples p1 p2 Lo hits;have z1:items.size=ds.length:=by rw[<-aN,l.length]
     have z2:gR.size=es.length:=by rw[<-aN,l2.length]
     unfold jf;rw[mC];rw[z1,z2]at q;exact SeqAt.EqAt.of_refs Jn q
mutual
theorem KI.jf {h h':Heap}:∀{u v:cx}{d e:D},KI h u d->KI h' v e->jf d e=decide (d=e)
 |_,_,_,_,.int i t,.int j t'=>by unfold DL.jf;by_cases e:i=j<;>simp[e]
 |_,_,_,_,.int i t,.tup _ _ _ _=>by unfold DL.jf;simp
 |_,_,_,_,.tup _ _ _ _,.int j t'=>by unfold DL.jf;simp
 |_,_,_,_,.tup _ _ _ l,.tup _ _ _ l'=>by
  unfold DL.jf;rw[sL.lM l l'];simp
theorem sL.lM {h h':Heap}:∀{us vs:cw}{ds es:cu},sL h us ds->sL h' vs es->lM ds es=decide (ds=es)
 |_,_,_,_,.nil,.nil=>by unfold DL.lM;simp
 |_,_,_,_,.nil,.cons _ _=>by unfold DL.lM;simp
 |_,_,_,_,.cons _ _,.nil=>by unfold DL.lM;simp
 |_,_,_,_,.cons a b,.cons a' b'=>by
  unfold DL.lM;rw[KI.jf a a',sL.lM b b'];simp[Bool.decide_and]
end
theorem KI.quiet (n:Nat):∀(A:cC) (s:cy) (u:cx) (d:D) (Q:Bool->cy->Prop),eh d<=n->KI s.heap u d->Q true s->wpAny (model prog w) A (eqIsQuiet n u) Q E s:=by
 induction n with
 |zero=>
  intro A s u d Q hn k h;cases k with
  |int i t=>rw[eqIsQuiet_byValue _ rfl];exact aj h
  |tup h1 h2 h3 l=>unfold eh at hn;omega
 |succ n ih=>
  intro A s u d Q hn k h;cases k with
  |int i t=>rw[eqIsQuiet_byValue _ rfl];exact aj h
  |@tup a o items m ds ho hc hd l=>
   have hT:s.TypeIs (.ref a) "tuple":=⟨o,ho,hc⟩;have Bh:ju ds<=n:=by unfold eh at hn;omega
   unfold eqIsQuiet;refine aa (wpAny_specialOf hT F.slot_tuple_eq.lookup ?_);show wpAny _ _ (isInstance (.ref a) (.type "tuple")>>=_) _ _ s;refine aa (wpAny_isInstance hT isSubtype_tuple_tuple ?_);simp only[bS,aI,bD];refine aa (wpAny_seqItems ho hd ?_);refine aa ?_;show wpAny _ _ (forIn items _ _) _ _ s;rw[<-Array.forIn_toList];refine wpAny_forIn_list _ (λrest r s'=>r.1=none/\s'=s/\∃es,(∀e∈es,eh e<=n)/\sL s.heap rest es) _ ?_ ?_ _ _ ⟨rfl,rfl,ds,λe he=>aD (lr he) Bh,l⟩
   ·rintro v rest r s' ⟨hr,rfl,es,he,hk⟩
    cases hk with
    |cons k1 k2=>
     refine aa (ih A s' v _ _ (he _ af) k1 ?_);simp only[bS,aI,bD];exact aj ⟨rfl,rfl,_,λe h=>he e (ai _ h),k2⟩
   ·rintro⟨r1,r2⟩ s' ⟨hr,rfl,_⟩
    simp only at hr;subst hr;exact aj h
end
def me (prog:cA) (w:cB):HeapKind prog w D where
 is:=λh d a=>KI h (.ref a) d/\eh d<=4
 hash:=eQ
 draws:=xG
 room:=λA=>A.units+8<cLine
 inj:=λhx hy=>hx.1.inj hy.1
 keeps:=λx ho hd hs=>⟨x.1.keeps ho hd hs,x.2⟩
 pyHash:=λhu hk h=>KI.hash 4 _ _ _ _ _ hk.2 (by omega) hk.1 h
 eqBool:=λhu hx hy h=>KI.eq 4 _ _ _ _ _ _ hx.2 (by omega) hx.1 hy.1 _ _ _ _ (by rw[KI.jf hx.1 hy.1];exact h)
 quiet:=λhk h=>KI.quiet 8 _ _ _ _ _ (aD hk.2 (by decide)) hk.1 h
mutual
noncomputable def oi:D->Bool
 |.int _=>true
 |.tup ds=>nq ds
 |_=>false
noncomputable def nq:cu->Bool
 |[]=>true
 |d::ds=>oi d&&nq ds
end
section
variable {X:Cx}{cM:cj}{σ:L2.St}{C H:Hp}{s:cy}
mutual
theorem Is.ki (I:Inv X cM σ H s) (sub:dM C H):∀(d:D) {v:V}{u:cx},oi d=true->Is C v d->RelV v u->KI s.heap u d
 |.int i,_,_,_,is,ru=>by
  cases is;obtain⟨t,rfl⟩:=ru;exact .int i t
 |.tup ds,_,_,hk,is,ru=>by
  cases is with
  |tup h l=>
   cases ru;obtain⟨dD,r,⟨o,ho,hc,n,hd⟩,_⟩:=I.tuple (kR.of (K:=X.K) (sub _ _ h));unfold oi at hk;exact .tup ho hc hd (by have:=IsL.ZF I sub ds hk l r;simpa using this)
 |.eV,_,_,hk,_,_=>by unfold oi at hk;cases hk
 |.bl _,_,_,hk,_,_=>by unfold oi at hk;cases hk
 |.str _,_,_,hk,_,_=>by unfold oi at hk;cases hk
 |.lst _,_,_,hk,_,_=>by unfold oi at hk;cases hk
theorem IsL.ZF (I:Inv X cM σ H s) (sub:dM C H):∀(ds:cu) {vs:List V}{us:cw},nq ds=true->IsL C vs ds->Vals vs us->sL s.heap us ds
 |[],_,_,_,l,r=>by
  cases l;cases r;exact .nil
 |d::ds,_,_,hk,l,r=>by
  cases l with
  |cons h t=>
   cases r with
   |cons r rs=>
    unfold nq at hk;rw[Bool.and_eq_true]at hk;exact .cons (Is.ki I sub d hk.1 h r) (IsL.ZF I sub ds hk.2 t rs)
end
end
structure dP where
 W:D->Option D
 enc:D->Nat
 N:Nat
 hN:N<=16777216
 lt:∀k d,W k=some d->enc k<N
 inj:∀k k' d d',W k=some d->W k'=some d'->enc k=enc k'->k=k'
 key:∀k d,W k=some d->oi k=true/\eh k<=4
def ja (a:cE) (xs:List (D×cE×cx)):Heap->Prop:=λh=>∃o es ep,h.get? a=some o/\o.ExactDict/\o.data=.dict es ep/\es.toList=xs.map (λx=>(⟨eQ x.1,.ref x.2.1,x.2.2⟩:DictEntry))/\(xs.map (·.1)).Nodup
structure dS (a:cE) (M:dP) (C H:Hp) (xs:List (D×cE×cx)):Prop where
 h:H a=some (.ext (ja a xs))
 c:C a=none
 sm:(a==sysModules)=false
 nd:(xs.map (·.1)).Nodup
 ent:∀x∈xs,Is C (.ref x.2.1) x.1/\∃v d,RelV v x.2.2/\Is C v d/\M.W x.1=some d
theorem Ao:∀(N:Nat) (l:List Nat),l.Nodup->(∀x∈l,x<N)->l.length<=N
 |0,l,_,h=>by
  cases l with
  |nil=>exact au _
  |cons a r=>exact absurd (h a af) (Nat.not_lt_zero _)
 |N+1,l,nd,h=>by
  have h1:=Ao N (l.erase N) (nd.erase N) (λx hx=>by
   have:=(nd.mem_erase_iff.mp hx);have:=h x this.2;omega)
  have h2:l.length<=(l.erase N).length+1:=by
   rw[List.length_erase];split<;>omega
  omega
theorem dS.len (m:dS a M C H xs):xs.length<=M.N:=by
 have h:=Ao M.N (xs.map λx=>M.enc x.1) ?_ ?_
 ·simpa using h
 ·have nd:=m.nd;rw[List.Nodup,List.pairwise_map]at nd ⊢;refine List.Pairwise.imp_of_mem (λ{x y} hx hy jg he=>?_) nd
  obtain⟨_,v,d,_,_,w1⟩:=m.ent x hx;obtain⟨_,v',d',_,_,w2⟩:=m.ent y hy;exact jg (M.inj _ _ _ _ w1 w2 he)
 ·intro n hn;obtain⟨x,hx,rfl⟩:=List.mem_map.mp hn;obtain⟨_,v,d,_,_,w1⟩:=m.ent x hx;exact M.lt _ _ w1
section
variable {a:cE}{M:dP}{C H C' H':Hp}{xs:List (D×cE×cx)}
theorem dS.RY (m:dS a M C H xs) (e:l9 C H C' H'):dS a M C' H' xs where
 h:=e.h _ _ m.h
 c:=by
  cases q:C' a with
  |none=>rfl
  |some u=>
   rcases e.n a u q with z|z
   ·rw[m.c]at z;cases z
   ·rw[m.h]at z;cases z
 sm:=m.sm
 nd:=m.nd
 ent:=λx hx=>let ⟨h1,v,d,h2,h3,h4⟩:=m.ent x hx;⟨h1.mono e.c,v,d,h2,h3.mono e.c,h4⟩
theorem dS.zx (m:dS a M C H xs) {b:cE}{o:HO}(hb:b≠a):dS a M C (upd H b o) xs where
 h:=by rw[cR (Ne.symm hb)];exact m.h
 c:=m.c
 sm:=m.sm
 nd:=m.nd
 ent:=m.ent
theorem dS.zy (m:dS a M C H xs) {b:cE}{o:HO}(hb:b≠a) (hc:C b=none):dS a M (upd C b o) H xs where
 h:=m.h
 c:=by rw[cR (Ne.symm hb)];exact m.c
 sm:=m.sm
 nd:=m.nd
 ent:=λx hx=>let ⟨h1,v,d,h2,h3,h4⟩:=m.ent x hx;⟨h1.mono (eA hc),v,d,h2,h3.mono (eA hc),h4⟩
theorem dS.ne (m:dS a M C H xs) (h:∀u,H b=some u->E3 u=false):b≠a:=λz=>by
 subst z;have:=h _ m.h;cases this
theorem dS.Ql (m:dS a M C H xs) {b:cE}(h:H b=none):b≠a:=λz=>by
 subst z;rw[m.h]at h;cases h
end
@[reducible] noncomputable def dh (a:cE) (M:dP):Mem where
 cell:=some a
 face:=some a
 ok:=λC H=>∃xs,dS a M C H xs
 has:=λC H k=>∃xs,dS a M C H xs/\k∈xs.map (·.1)
 rel:=λC H C' H'=>((∃xs,dS a M C H xs)->∃xs,dS a M C' H' xs)/\∀k,(∃xs,dS a M C H xs/\k∈xs.map (·.1))->∃xs,dS a M C' H' xs/\k∈xs.map (·.1)
 of0:=λe=>⟨λ⟨xs,m⟩=>⟨xs,m.RY e⟩,λk ⟨xs,m,hk⟩=>⟨xs,m.RY e,hk⟩⟩
 trans:=λr1 r2=>⟨λh=>r2.1 (r1.1 h),λk h=>r2.2 k (r1.2 k h)⟩
 chg:=λ{_ _ _ _ b o} r hb=>⟨λ⟨xs,m⟩=>let ⟨ys,m'⟩:=r.1 ⟨xs,m⟩;⟨ys,m'.zx (m.Ql hb)⟩,λk ⟨xs,m,hk⟩=>let ⟨ys,m',oY⟩:=r.2 k ⟨xs,m,hk⟩;⟨ys,m'.zx (m.Ql hb),oY⟩⟩
 give:=λ{_ _ _ H' b o} r hc ho hx=>⟨λh=>let ⟨ys,m'⟩:=r.1 h;⟨ys,m'.zy (m'.ne λu q=>by rw[ho]at q;cases q;exact hx) hc⟩,λk h=>let ⟨ys,m',oY⟩:=r.2 k h;⟨ys,m'.zy (m'.ne λu q=>by rw[ho]at q;cases q;exact hx) hc,oY⟩⟩
 RD:=λr h=>r.1 h
 Fz:=λr _ h=>r.2 _ h
 Qc:=λ⟨xs,m⟩ h=>⟨xs,m.zx (m.ne h)⟩
 Dx:=λ_ h ⟨xs,m,hk⟩=>⟨xs,m.zx (m.ne h),hk⟩
 RE:=λ⟨xs,m⟩ hc ho hx=>⟨xs,m.zy (m.ne λu q=>by rw[ho]at q;cases q;exact hx) hc⟩
 FA:=λ_ hc ho hx ⟨xs,m,hk⟩=>⟨xs,m.zy (m.ne λu q=>by rw[ho]at q;cases q;exact hx) hc,hk⟩
section
variable {X:Cx}{M:dP}{a:cE}{cM:cj}{σ:L2.St}{C H:Hp}{s:cy}{xs ys:List (D×cE×cx)}
theorem dS.dict (I:Inv X cM σ H s) (sub:dM C H) (m:dS a M C H xs):s.heap.DictOfH (me X.prog X.w) a xs:=by
 obtain⟨⟨o,es,ep,h1,h2,h3,h4,h5⟩,_⟩:=I.fJ a _ m.h;exact⟨o,es,ep,h1,h2,h3,h4,λx hx=>by
  obtain⟨h1,v,d,_,_,w⟩:=m.ent x hx;obtain⟨k1,k2⟩:=M.key _ _ w;exact⟨Is.ki I sub _ k1 h1 rfl,k2⟩,h5⟩
theorem dS.keys_eq (I:Inv X cM σ H s) (sub:dM C H) (m:dS a M C H xs) (m':dS a M C H ys):xs.map (·.1)=ys.map (·.1):=by
 obtain⟨o,es,ep,h1,h2,h3,h4,h5,h6⟩:=m.dict I sub;obtain⟨o',Ku,QR,FD,Jg,Lg,Oj,ZG,h6'⟩:=m'.dict I sub;rw[h1]at FD;cases FD;rw[h3]at Lg;injection Lg with e1 _;subst e1
 rw[h4]at Oj;clear h1 h2 Jg h3 h4 h6 h6' m m';induction xs generalizing ys with
 |nil=>cases ys with
  |nil=>rfl
  |cons _ _=>cases Oj
 |cons x xs ih=>
  cases ys with
  |nil=>cases Oj
  |cons y ys=>
   rw[aF,aF]at Oj;injection Oj with e1 e2
   have ea:x.2.1=y.2.1:=by
    have:(entryOfKey (me X.prog X.w) x).key=(entryOfKey (me X.prog X.w) y).key:=congrArg DictEntry.key e1;injection this
   have k1:=(h5 x af).1;have k2:=(ZG y af).1;rw[ea]at k1;rw[aF,aF,k1.inj k2,ih (λx hx=>h5 x (ai _ hx)) (λx hx=>ZG x (ai _ hx)) e2]
theorem rq:(atKey xs k).isSome=true↔k∈xs.map (·.1):=by
 unfold atKey;rw[Option.isSome_map,List.find?_isSome];constructor
 ·rintro⟨x,hx,e⟩
  exact List.mem_map.mpr ⟨x,hx,by simpa using e⟩
 ·intro h;obtain⟨x,hx,e⟩:=List.mem_map.mp h;exact⟨x,hx,by simpa using e⟩
theorem Jr (h:atKey xs k=some p):(k,p)∈xs:=by
 unfold atKey at h;cases q:xs.find? (λx=>decide (x.1=k))with
 |none=>rw[q]at h;cases h
 |some x=>
  rw[q]at h;cases h;have h1:=List.mem_of_find?_eq_some q;have h2:=List.find?_some q;have h3:x.1=k:=by simpa using h2
  rw[<-h3];exact h1
def Vg (g:Bool->Bool) (a:cE) (M:dP):R2:=λx y H Q=>∃C ds xs,dM C H/\Is C x (.tup ds)/\oi (.tup ds)=true/\eh (.tup ds)<=4/\y=.ref a/\dS a M C H xs/\Q (.bl (g (atKey xs (.tup ds)).isSome)) H
theorem Lx (hu:X.A.units+64<cLine) (he:∀v u,compareOp op v u=(do return .bool (g (<-contains u v)))):rY X (compareOp op) (Vg g a M):=by
 intro cM s σ H x y v u Q I rx ry h;obtain⟨C,ds,xs,sub,is,hk,hd,rfl,m,q⟩:=h;cases is with
 |@tup p ws _ hp l=>
  cases rx;cases ry;have Fh:(me X.prog X.w).is s.heap (.tup ds) p:=⟨Is.ki I sub _ hk (.tup hp l) rfl,hd⟩;have hm:=m.dict I sub;rw[he];refine aa ?_;unfold contains;try with_reducible refine bo ?_
  refine aa (wpAny_specialOf hm.typeIs slot_dict_contains.lookup ?_);show wpAny _ _ (if(some (Value.builtin "dict.__contains__")==some Value.none)=true then _ else _) _ X.xe s
  rw[if_neg (by rw[beq_builtin_none];exact aZ)]
  refine aa (wpAny_callSpecialUnlessNone?_slot (name:=Str.ofString "__contains__") hm.typeIs slot_dict_contains
   (bL slot_dict_contains hm.typeIs entry_dict_contains ?_ (args_dict_contains _ _)))
  show wpAny _ _ (dictGet a (.ref p)>>=_) _ _ s;have jb:(me X.prog X.w).room X.A.in1:=by show X.A.units+1+8<cLine;omega
  refine aa (wpAny_dictGet_heap jb Fh hm ?_);cases hf:atKey xs (.tup ds)with
  |some p'=>
   rw[hf]at q;show wpAny _ _ (ret (.bool true)) _ _ _;exact aj ⟨_,rfl,bP (aj ⟨.bl _,H,I.tok _,rfl,q⟩)⟩
  |none=>
   rw[hf]at q;show wpAny _ _ (Builtin.Dict.pendingKey? a (.ref p)>>=_) _ _ _;exact aa (wpAny_pendingKey_other m.sm (aj ⟨_,rfl,bP (aj ⟨.bl _,H,I.tok _,rfl,q⟩)⟩))
theorem tV (hu:X.A.units+64<cLine):rY X (compareOp .NotIn) (Vg (!·) a M):=Lx hu λ_ _=>rfl
def Vh (a:cE) (M:dP):R2:=λx y H Q=>∃C ds xs,dM C H/\x=.ref a/\Is C y (.tup ds)/\oi (.tup ds)=true/\eh (.tup ds)<=4/\dS a M C H xs/\D.tup ds∈xs.map (·.1)/\∀v d,M.W (.tup ds)=some d->Is C v d->Q v H
theorem HC (hu:X.A.units+64<cLine):KU X (Vh a M):=by
 intro value slice cM s σ H x y v u Q I rx ry h hs;obtain⟨C,ds,xs,sub,rfl,is,hk,hd,m,m6,q⟩:=h;cases is with
 |@tup p ws _ hp l=>
  cases rx;cases ry;have Fh:(me X.prog X.w).is s.heap (.tup ds) p:=⟨Is.ki I sub _ hk (.tup hp l) rfl,hd⟩;have hm:=m.dict I sub;have jb:(me X.prog X.w).room X.A.in1:=by show X.A.units+1+8<cLine;omega
  cases hf:atKey xs (.tup ds)with
  |none=>
   have:=rq.mpr m6;rw[hf]at this;cases this
  |some pv=>
   obtain⟨_,v',d,r,i,w⟩:=m.ent _ (Jr hf);exact tail_any (ops:=[.ref a,.ref p]) hm.typeIs slot_dict_getitem.lookup (wpAny_getItem_heap jb Fh hm hf ⟨v',H,I.tok _,r,q v' d w i⟩) hs
theorem xH {xs:List (D×cE×cx)}{k:D}{v:cx}:(xs.map (putAt k v)).map (·.1)=xs.map (·.1):=by
 rw[aV];apply bR
 intro x _;unfold putAt;simp only[Function.comp_apply];split<;>rfl
def Vi (a:cE) (M:dP):Q0:=λo i v H Q=>∃C ds d xs,dM C H/\o=.ref a/\Is C i (.tup ds)/\Is C v d/\M.W (.tup ds)=some d/\dS a M C H xs/\
 ∀ys,dS a M C (upd H a (.ext (ja a ys))) ys->(∀k,(∃zs,dS a M C H zs/\k∈zs.map (·.1))->k∈ys.map (·.1))->D.tup ds∈ys.map (·.1)->Q (upd H a (.ext (ja a ys)))
theorem DG (hu:X.A.units+64<cLine):Ub X (Vi a M):=by
 intro cM s σ H o i v ov iv u Q I ro ri rv h;obtain⟨C,ds,d,xs,sub,rfl,is,ZH,hw,m,q⟩:=h;obtain⟨hk,hd⟩:=M.key _ _ hw;cases is with
 |@tup p ws _ hp l=>
  cases ro;cases ri;have Fh:(me X.prog X.w).is s.heap (.tup ds) p:=⟨Is.ki I sub _ hk (.tup hp l) rfl,hd⟩;have hm:=m.dict I sub;have jb:(me X.prog X.w).room X.A.in1:=by show X.A.units+1+8<cLine;omega
  refine wpAny_setItem_heap jb Fh hm (λh' BQ Lc=>?_) (aD m.len (aD M.hN (by decide)))
  have keys:(storedH xs (.tup ds) p u).map (·.1)=if(atKey xs (.tup ds)).isSome then xs.map (·.1)else xs.map (·.1)++[.tup ds]:=by
   unfold storedH;split
   ·exact xH
   ·simp
  have m6:D.tup ds∈(storedH xs (.tup ds) p u).map (·.1):=by
   rw[keys];split
   ·rename_i hh;exact rq.mp hh
   ·exact aL _ af
  have hold:∀k∈xs.map (·.1),k∈(storedH xs (.tup ds) p u).map (·.1):=λk h=>by
   rw[keys];split
   ·exact h
   ·exact bC _ h
  obtain⟨oo,es,ep,g1,g2,g3,g4,g5,g6⟩:=BQ;have m':dS a M C (upd H a (.ext (ja a (storedH xs (.tup ds) p u)))) (storedH xs (.tup ds) p u):=by
   refine⟨cY,m.c,m.sm,g6,λx hx=>?_⟩
   unfold storedH at hx;split at hx
   ·obtain⟨y,hy,rfl⟩:=List.mem_map.mp hx;obtain⟨h1,v',d',r,i',w⟩:=m.ent y hy;unfold putAt;split
    ·rename_i e;refine⟨h1,v,d,rv,ZH,?_⟩;show M.W y.1=some d;rw[e];exact hw
    ·exact⟨h1,v',d',r,i',w⟩
   ·rcases List.mem_append.mp hx with hx|hx
    ·exact m.ent x hx
    ·rw[bt]at hx;subst hx;exact⟨.tup hp l,v,d,rv,ZH,hw⟩
  have ok:ie X.prog X.w (upd H a (.ext (ja a (storedH xs (.tup ds) p u)))) h' a (.ext (ja a (storedH xs (.tup ds) p u))):=
   ⟨⟨oo,es,ep,g1,g2,g3,g4,g6⟩,⟨oo,g1⟩,λh1 h2 ⟨o1,e1,p1,q1,q2⟩ st=>⟨o1,e1,p1,st _ q1,q2⟩⟩
  refine⟨_,I.write (e:=a) (by rw[m.h];exact trivial) (.inl rfl) (λb ob hb hq=>(Lc.2 b hb).trans hq) ⟨oo,g1⟩ ok,q _ m' (λk ⟨zs,mz,hz⟩=>hold k (by rw[m.keys_eq I sub mz];exact hz)) m6⟩
end
def Js (δ' δ:fE):Prop:=δ'.length=δ.length/\∀(i:Nat) (s:Sl),δ'[i]? =some s->s=.no\/δ[i]? =some s\/∃ks Tu,s=.memo Tu/\δ[i]? =some (.memo ks)/\∀k∈Tu,k∈ks
section
variable [Mem] {δ δ':fE}{σ:L2.St}{B C0 H0 C H:Hp}
theorem Js.own (w:Js δ' δ) {i:Nat}{ds:cu}(q:δ'[i]? =some (.own ds)):δ[i]? =some (.own ds):=by
 rcases w.2 i _ q with z|z|⟨_,_,z,_⟩
 ·cases z
 ·exact z
 ·cases z
theorem Sx.weak (x:Sx δ σ C H) (w:Js δ' δ):Sx δ' σ C H where
 sub:=x.sub
 dat:=λi d q=>by
  rcases w.2 i _ q with z|z|⟨_,_,z,_⟩
  ·cases z
  ·exact x.dat i d z
  ·cases z
 own:=λi ds q=>x.own i ds (w.own q)
 zo:=λi j ds es a q1 q2 q3 q4=>x.zo i j ds es a (w.own q1) (w.own q2) q3 q4
 len:=w.1.trans x.len
 mem:=λi ks q=>by
  rcases w.2 i _ q with z|z|⟨ks1,ks2,z,z2,z3⟩
  ·cases z
  ·exact x.mem i ks z
  ·cases z;obtain⟨a,h1,h2,h3,h4⟩:=x.mem i ks1 z2;exact⟨a,h1,h2,h3,λk hk=>h4 k (z3 k hk)⟩
theorem Gd.weak (g:Gd B C0 H0 δ σ C H) (w:Js δ' δ):Gd B C0 H0 δ' σ C H:=⟨g.b,g.ev,g.x.weak w,λk ds a q1 q2=>g.fr k ds a (w.own q1) q2⟩
theorem Sx.Ap (x:Sx δ σ C H) {i:Nat}{ks:cu}{k:D}(hi:δ[i]? =some (.memo ks)) (hk:Mem.has C H k):Sx (δ.set i (.memo (k::ks))) σ C H where
 sub:=x.sub
 dat:=λj d q=>by
  rcases getElem?_set_cases q with⟨rfl,e⟩|⟨hj,e⟩
  ·cases e
  ·exact x.dat j d e
 own:=λj ds q=>by
  rcases getElem?_set_cases q with⟨rfl,e⟩|⟨hj,e⟩
  ·cases e
  ·exact x.own j ds e
 zo:=λj l ds es a q1 q2 q3 q4=>by
  rcases getElem?_set_cases q1 with⟨_,e⟩|⟨_,e1⟩
  ·cases e
  rcases getElem?_set_cases q2 with⟨_,e⟩|⟨_,e2⟩
  ·cases e
  exact x.zo j l ds es a e1 e2 q3 q4
 len:=by simp[x.len]
 mem:=λj ls q=>by
  rcases getElem?_set_cases q with⟨rfl,e⟩|⟨hj,e⟩
  ·cases e;obtain⟨a,h1,h2,h3,h4⟩:=x.mem j ks hi;refine⟨a,h1,h2,h3,λc hc=>?_⟩
   rcases List.mem_cons.mp hc with rfl|hc
   ·exact hk
   ·exact h4 c hc
  ·exact x.mem j ls e
theorem Gd.Ap (g:Gd B C0 H0 δ σ C H) {i:Nat}{ks:cu}{k:D}(hi:δ[i]? =some (.memo ks)) (hk:Mem.has C H k):Gd B C0 H0 (δ.set i (.memo (k::ks))) σ C H:=
 ⟨g.b,g.ev,g.x.Ap hi hk,λj ds a q1 q2=>by
  rcases getElem?_set_cases q1 with⟨_,e⟩|⟨_,e⟩
  ·cases e
  ·exact g.fr j ds a e q2⟩
end
def forget (fs:List Nat) (δ:fE):fE:=fs.foldl (λδ i=>δ.set i .no) δ
theorem nJ:∀(fs:List Nat) (δ:fE),(forget fs δ).length=δ.length
 |[],_=>rfl
 |i::fs,δ=>by
  show(forget fs (δ.set i .no)).length=_;rw[nJ fs,List.length_set]
theorem xI:∀(fs:List Nat) (δ:fE) (i:Nat) (s:Sl),(forget fs δ)[i]? =some s->s=.no\/δ[i]? =some s
 |[],_,_,_,h=>.inr h
 |j::fs,δ,i,s,h=>by
  rcases xI fs (δ.set j .no) i s h with z|z
  ·exact .inl z
  ·rcases getElem?_set_cases z with⟨_,e⟩|⟨_,e⟩
   ·exact .inl e
   ·exact .inr e
theorem vU (fs:List Nat) (δ:fE) (i:Nat) (k:D) (ks:cu):Js ((forget fs δ).set i (.memo [k])) (δ.set i (.memo (k::ks))):=by
 refine⟨by simp[nJ],λj s q=>?_⟩
 rcases getElem?_set_cases q with⟨rfl,e⟩|⟨hj,e⟩
 ·have hl:j<δ.length:=by have:=FC q;rwa [nJ]at this
  exact .inr (.inr ⟨k::ks,[k],e,by rw[bc hl],λc hc=>by rw[bt]at hc;subst hc;exact af⟩)
 ·rcases xI fs δ j s e with z|z
  ·exact .inl z
  ·exact .inr (.inl (by rw[aG (Ne.symm hj)];exact z))
open Classical in
def kW (i:Nat) (fs:List Nat) (fk:bZ) (fb:bY):bY:=λδ=>match δ[i]?,fk δ,fb δ with
 |some (.memo _),some (.tup ds),some (.next δ2)=>if oi (.tup ds)=true/\eh (.tup ds)<=4/\Js ((forget fs δ).set i (.memo [.tup ds])) δ2 then some (.next ((forget fs δ).set i (.memo [.tup ds])))else none
 |_,_,_=>none
def jL (M:dP) (i:Nat) (fk:bZ):bZ:=λδ=>match δ[i]?,fk δ with
 |some (.memo ks),some (.tup ds)=>if oi (.tup ds)=true/\eh (.tup ds)<=4/\D.tup ds∈ks then M.W (.tup ds)else none
 |_,_=>none
noncomputable def ji (M:dP) (i:Nat) (fk fe:bZ):bY:=λδ=>match δ[i]?,fk δ,fe δ with
 |some (.memo ks),some (.tup ds),some d=>if M.W (.tup ds)=some d then some (.next (δ.set i (.memo (.tup ds::ks))))else none
 |_,_,_=>none
section
variable {X:Cx}{a:cE}{M:dP}{C0 H0:Hp}{e k o:cF}{body:List cI}{pos pos' p p2:Pos}{i:Nat}
theorem Jt (fs:List Nat) (hu:X.A.units+64<cLine) (hk:@PD (dh a M) X k fk) (ho:PE X o (gX i)) (hb:@Jk (dh a M) X C0 H0 body fb) (hm:behindInMarks .NotIn o=false:=by first|exact xb _|rfl):@PB (dh a M) X C0 H0 (.If (.Compare k [.NotIn] [o] pos) body [] pos') (kW i fs fk fb):=λB=>by
 letI:=dh a M
 refine(Kx (Bj (tV (a:=a) (M:=M) hu) hk ho hm) (hb B) Bi).imp λDn σ H ⟨C,δ,r,gd,q,fin⟩=>?_
 unfold kW at q;split at q
 ·rename_i ks ds δ2 hi Ly RU;split at q
  ·rename_i hc;obtain⟨c1,c2,c3⟩:=hc;cases q;refine⟨C,δ,.tup ds,gd.x,Ly,λv C1 H1 e1 i1=>?_⟩
   have g1:=gd.DA e1;obtain⟨a',h1,h2,⟨xs,m⟩,h4⟩:=g1.x.mem i ks hi;cases h1;refine⟨.ref a,h2,C1,ds,xs,e1.s,i1,c1,c2,rfl,m,_,rfl,?_⟩;cases hs:(atKey xs (.tup ds)).isSome with
   |true=>exact Dq (fin σ C1 H1 ((g1.Ap hi ⟨xs,m,rq.mp hs⟩).weak (vU fs δ i _ ks)))
   |false=>exact Bu ⟨C1,δ,.next δ2,g1,RU,λσ' C' H' g'=>fin σ' C' H' (g'.weak c3)⟩
  ·cases q
 ·cases q
theorem FU (hu:X.A.units+64<cLine) (ho:PE X o (gX i)) (hk:@PD (dh a M) X k fk) (hs:oQ k):@PD (dh a M) X (.Subscript o k pos) (jL M i fk):=by
 letI:=dh a M
 refine(KW (HC (a:=a) (M:=M) hu) ho hk hs).imp λσ H Q ⟨C,δ,d,x,q,fin⟩=>?_
 unfold jL at q;split at q
 ·rename_i ks ds hi Ly;split at q
  ·rename_i hc;obtain⟨c1,c2,c3⟩:=hc;obtain⟨a',h1,h2,_,_⟩:=x.mem i ks hi;cases h1;refine⟨.ref a,h2,C,δ,.tup ds,x,Ly,λv C1 H1 e1 i1=>?_⟩
   obtain⟨a',h1,_,_,h4⟩:=(x.ev e1).mem i ks hi;obtain⟨xs,m,hx⟩:=h4 _ c3;refine⟨C1,ds,xs,e1.s,rfl,i1,c1,c2,m,hx,λw d' hw iw=>?_⟩
   rw[q]at hw;cases hw;exact fin w C1 H1 e1 iw
  ·cases q
 ·cases q
theorem DH (s:dM C H) (m:dS a M C H xs) (m':dS a M C (upd H a (.ext (ja a ys))) ys) (hk:∀k,(∃zs,dS a M C H zs/\k∈zs.map (·.1))->k∈ys.map (·.1)):@Ev (dh a M) C H C (upd H a (.ext (ja a ys))):=by
 letI:=dh a M
 refine⟨dM.refl _,λb o q h=>?_,λb o q h x=>?_,λb u q=>?_,λb u q=>.inl q,⟨λ_=>⟨ys,m'⟩,λk h=>⟨ys,m',hk k h⟩⟩⟩
 ·have:b≠a:=λz=>by
   subst z;rcases h with h|h
   ·exact h rfl
   ·rw[m.h]at q;cases q;cases h
  rw[cR this];exact q
 ·cases h;exact⟨_,cY,rfl⟩
 ·rw[cR (cX q m.c)];exact s b u q
theorem FV (hu:X.A.units+64<cLine) (he:@PD (dh a M) X e fe) (ho:PE X o (gX i)) (hk:@PD (dh a M) X k fk) (ha:∀v,assign (.Subscript o k p) X.env v=(do
   let ov <-holding [v] (eval o X.env)
   let iv <-holding [v,ov] (eval k X.env)
   standAt p
   holding [v,ov,iv] (setItem ov iv v)
   release [v,ov,iv] []):=by intro _;rfl) (hs:swapsWithSole [.Subscript o k p] e pos.line X.env=pure false:=by rfl) (hw:swappedStores [.Subscript o k p] e X.env=pure none:=by rfl) (h1:(assignEach [.Subscript o k p] X.env).map (·.2)=[assign (.Subscript o k p) X.env]:=by rfl):@PB (dh a M) X C0 H0 (.Assign [.Subscript o k p] e pos) (ji M i fk fe):=λB=>by
 letI:=dh a M
 refine(Kz he (Ky ho hk (DG (a:=a) (M:=M) hu) ha) hs hw h1).imp λDn σ H ⟨C,δ,r,gd,q,fin⟩=>?_
 unfold ji at q;split at q
 ·rename_i ks ds d hi Ly Jm;split at q
  ·rename_i hc;cases q;refine⟨C,δ,d,gd.x,Jm,λv C1 H1 e1 i1=>?_⟩
   have g1:=gd.DA e1;obtain⟨a',z1,z2,_,_⟩:=g1.x.mem i ks hi;cases z1;refine⟨.ref a,z2,C1,δ,.tup ds,g1.x,Ly,λkv C2 H2 e2 i2=>?_⟩
   have g2:=g1.DA e2;obtain⟨a',z1,z2,⟨xs,m⟩,_⟩:=g2.x.mem i ks hi;refine⟨C2,ds,d,xs,e2.s,rfl,i2,i1.mono e2.c,hc,m,λys m' oY m6=>fin σ C2 _ ?_⟩
   have ev:=DH e2.s m m' oY;exact(g2.DA ev).Ap hi ⟨ys,m',m6⟩
  ·cases q
 ·cases q
end
noncomputable def tAM [m:Mem] (i j:Nat) (f:bX):TA:=λσ H Q=>∃C δ ds ks,Sx δ σ C H/\δ[i]? =some (.memo ks)/\f δ=some ds/\∀vs C' H' a,Ev C H C' H'->m.face=some a->vs[j]? =some (.ref a)->IsL C' (vs.eraseIdx j) ds->Q vs H'
abbrev X4 [Mem] (X:Cx) (es:List cF) (i j:Nat) (f:bX):Prop:=PA X es (tAM i j f)
def Tv (j:Nat) (Mf:cu->dP) (g:cc):Sp:=λvs H Q _=>∃C ds d a,dM C H/\vs[j]? =some (.ref a)/\IsL C (vs.eraseIdx j) ds/\(∃xs,dS a (Mf ds) C H xs)/\g ds=some d/\∀v C' H',@Ev (dh a (Mf ds)) C H C' H'->Is C' v d->Q v H'
open Classical in
noncomputable def jM (i:Nat) (Mf:cu->dP) (g:cc) (M:dP) (f:bX):bZ:=λδ=>match δ[i]? with
 |some (.memo _)=>(f δ).bind λds=>if Mf ds=M then g ds else none
 |_=>none
section
variable {X:Cx}{e:cF}{es:List cF}{p pos:Pos}{x:Str}{a:cE}{M:dP}
theorem Ju (F:dY X.prog X.w X.K X.mg X.base gY k f fd ps (Tv j Mf g)) (hr:fm k X.A) (hg:Gl X x) (hm:X.mg x=some (.ref f)) (hk:W.keepIn X.K (.ref f)=true) (hb:Binds X.K fd ps []) (ha:@X4 (dh a M) X (e::es) i j fa) (rV:(x==("__debug__":Str))=false:=by decide) (he:cL e es X.env:=by exact fH rfl) (kf:(backTo pos (starEach es X.env)).any (·.1)=false:=by exact gh rfl):@PD (dh a M) X (.Call (.Name x p) (e::es) [] pos) (jM i Mf g M fa):=by
 letI:=dh a M
 refine(Bm F hr hg hm hk hb .nil vP ha rV he kf).imp λσ H Q ⟨C,δ,d,x,q,fin⟩=>?_
 unfold jM at q;split at q
 ·rename_i ks hi;cases hf:fa δ with
  |none=>rw[hf]at q;cases q
  |some ds=>
   rw[hf]at q;simp only[ao]at q;split at q
   ·rename_i hM;refine⟨C,δ,ds,ks,x,hi,hf,λvs C1 H1 a' e1 h1 h2 i1=>?_⟩
    cases h1;obtain⟨a',z1,z2,ok,_⟩:=(x.ev e1).mem i ks hi;rw[bB];subst hM;exact⟨C1,ds,d,a,e1.s,h2,i1,ok,q,λv C2 H2 e2 i2=>fin v C2 H2 (e1.trans e2) i2⟩
   ·cases q
 ·cases q
end
noncomputable def startM (n np j:Nat) (ds:cu):fE:=(ds.take j).map Sl.dat++.memo []::(ds.drop j).map Sl.dat++List.replicate (n-np) Sl.no
def Aq (n np j:Nat) (Mf:cu->dP) (fb:dP->bY) (ds:cu):Option D:=
 if ds.length+1=np/\j<np then(match fb (Mf ds) (startM n np j ds)with|some (.ret d)=>some d|some (.next _)=>some .eV|_=>none)else none
theorem FW (hl:ds.length+1=np) (hj:j<np) (i:Nat):(startM n np j ds)[i]? =if i<j then(ds[i]?).map Sl.dat else if i=j then some (.memo [])else if i<np then(ds[i-1]?).map Sl.dat else if i<np+(n-np)then some .no else none:=by
 unfold startM;have l1:((ds.take j).map Sl.dat).length=j:=by rw[ae,bI];omega
 have l2:((ds.drop j).map Sl.dat).length=ds.length-j:=by rw[ae,List.length_drop]
 rw[List.append_assoc];by_cases h1:i<j
 ·rw[if_pos h1,aJ (by omega),av,List.getElem?_take_of_lt h1]
 ·rw[if_neg h1,aP (by omega),l1]
  by_cases h2:i=j
  ·subst h2;rw[if_pos rfl,Nat.sub_self];rfl
  ·rw[if_neg h2,List.cons_append];obtain⟨r,hr⟩:∃r,i-j=r+1:=⟨i-j-1,by omega⟩
   rw[hr,aK];by_cases h3:i<np
   ·rw[if_pos h3,aJ (by omega),av,List.getElem?_drop]
    congr 2
    omega
   ·rw[if_neg h3,aP (by omega),List.getElem?_replicate]
    congr 1
    rw[eq_iff_iff];constructor<;>intro _<;>omega
theorem u0 [m:Mem] (S:dt N ps sc) (sub:dM C H) (hj:vs[j]? =some (.ref a)) (i:IsL C (vs.eraseIdx j) ds) (hl:ds.length+1=ps.length/\j<ps.length) (hf:m.face=some a) (ok:m.ok C H):Gd C C H (startM N.length ps.length j ds) (L2.start N vs) C H:=by
 have ZI:j<vs.length:=(List.getElem?_eq_some_iff.mp hj).1;have h1:=i.length;rw[List.length_eraseIdx_of_lt ZI]at h1;have:=Ht S;have ge:∀{n:Nat}{x:Sl},(startM N.length ps.length j ds)[n]? =some x->(∃d v,vs[n]? =some v/\Is C v d/\x=.dat d)\/n=j/\x=.memo []\/x=.no:=λ{n x} e=>by
  rw[FW hl.1 hl.2]at e;split at e
  ·rename_i h;cases hd:ds[n]? with
   |none=>rw[hd]at e;cases e
   |some d'=>
    rw[hd]at e;cases e;obtain⟨v,g1,g2⟩:=i.get hd;rw[List.getElem?_eraseIdx,if_pos h]at g1;exact .inl ⟨_,v,g1,g2,rfl⟩
  ·split at e
   ·cases e;exact .inr (.inl ⟨by assumption,rfl⟩)
   ·split at e
    ·cases hd:ds[n-1]? with
     |none=>rw[hd]at e;cases e
     |some d'=>
      rw[hd]at e;cases e;obtain⟨v,g1,g2⟩:=i.get hd;rw[List.getElem?_eraseIdx,if_neg (by omega),show n-1+1=n by omega]at g1
      exact .inl ⟨_,v,g1,g2,rfl⟩
    ·split at e<;>cases e
     exact .inr (.inr rfl)
 have no:∀(n:Nat) es,(startM N.length ps.length j ds)[n]? ≠some (Sl.own es):=λn es e=>by rcases ge e with⟨_,_,_,_,q⟩|⟨_,q⟩|q<;>cases q
 refine Qi ⟨sub,λn d e=>?_,λn es e=>absurd e (no n es),λn m es fs a e=>absurd e (no n es),?_,λn ks e=>?_⟩ no
 ·rcases ge e with⟨_,v,h1,h2,q⟩|⟨_,q⟩|q<;>cases q
  exact⟨v,by rw[uR (List.getElem?_eq_some_iff.mp h1).1,h1],h2⟩
 ·unfold L2.start startM;simp only[aQ,ae,List.length_replicate,ay,bI,List.length_drop];omega
 ·rcases ge e with⟨_,_,_,_,q⟩|⟨rfl,q⟩|q<;>cases q
  exact⟨a,hf,by rw[uR ZI,hj],ok,λk hk=>by cases hk⟩
theorem mr {C:Hp}{vs:List V}{ds:cu}{j n:Nat}{v:V}(hj:vs[j]? =some v) (i:IsL C (vs.eraseIdx j) ds) (hl:ds.length+1=n):vs.length=n:=by
 have h1:=i.length;have h2:j<vs.length:=(List.getElem?_eq_some_iff.mp hj).1;rw[List.length_eraseIdx_of_lt h2]at h1;omega
theorem RZ {P:cA}{w:cB}{K:W.Frag}{mg:cg}{base:Heap}{x qual:Str}{st:cI}{f:cE}{fd:cz}{N ps:List Str}{k:Nat}(j:Nat) (Mf:cu->dP) (F:kU K x qual st f fd) (S:dt N ps (cP st)) {fb:dP->bY}
  (fY:∀(a:cE) (M:dP) (eN:cx) (A:cC) (outer:List Env) (s:cy) (H:Hp) (E:XK),fm k (A.deeper (envOfC qual (cP st) s.heap.objs.size f eN))->∀C0 H0,@Jk (dh a M) (pX gY P w K mg base N qual (cP st) f eN A outer s H E).Dc C0 H0 (eW st) (fb M)):
  dY P w K mg base gY (k+1) f fd ps (Tv j Mf (Aq N.length ps.length j Mf fb)):=by
 refine F.ok S (λvs H Q E h=>?_) (λeN A outer s H vs Q E hr h=>?_)
 all_goals
  obtain⟨C,ds,d,a,sub,hj,i,ok,q,fin⟩:=h;unfold Aq at q;split at q
  case isFalse=>cases q
  rename_i hl
 ·exact mr hj i hl.1
 ·letI:=dh a (Mf ds)
  exact⟨tS C C H (fb (Mf ds)),fY a (Mf ds) eN A outer s H E hr C H C,n4 (u0 S sub hj i hl rfl ok) q fin⟩
section
variable {X:Cx}{e:cF}{es:List cF}{p pos pos':Pos}{x:Str}{a:cE}{M:dP}{C0 H0:Hp}{rest:List cI}
theorem _root_.L2.Inv.X5 (I:Inv X cM σ H s):sysModules<s.heap.objs.size:=by
 have h:mainGlobals<s.heap.objs.size:=(I.mod.glob.keeps I.bk).lt;exact bG (by decide) h
def Vj:TE:=λ_ H Q=>∀p,H p=none->(p==sysModules)=false->Q (.ref p) (upd H p (.ext (ja p [])))
theorem HD:PE X (.Dict [] [] pos) Vj:=λcM s σ H Q I h=>
 wpAny_Dict_empty ⟨.ref s.heap.objs.size,_,I.laid (a:=s.heap.objs.size) (o:=.ext (ja s.heap.objs.size [])) (t':=s.toks) (λ_ _ q=>ag _ q) (au _)
  ⟨⟨_,#[],0,az _ rfl,⟨rfl,rfl,rfl⟩,rfl,rfl,List.nodup_nil⟩,⟨_,az _ rfl⟩,λh1 h2 ⟨o1,e1,p1,q1,q2⟩ st=>⟨o1,e1,p1,st _ q1,q2⟩⟩,rfl,
  h _ (I.fJ.fresh (au _)) (beq_eq_false_iff_ne.mpr (Ne.symm (aE I.X5)))⟩
theorem xJ {C H:Hp}{p:cE}(hc:C p=none) (hs:(p==sysModules)=false) (hH:H p=some (.ext (ja p []))):dS p M C H []:=⟨hH,hc,hs,List.nodup_nil,λ_ h=>by cases h⟩
theorem Lz (e1:l9 C H C1 H1) (hn:H a=none) (e2:@Ev (dh a M) C1 H1 C2 H2):l9 C H C2 H2:=by
 letI:=dh a M
 refine⟨e1.c.trans e2.c,λb o q=>?_,e2.s,λb u q=>?_⟩
 ·have hb:b≠a:=λz=>by subst z;rw[hn]at q;cases q
  exact e2.h b o (e1.h b o q) (.inl λz=>hb (aS z).symm)
 ·rcases e2.n b u q with z|z
  ·exact e1.n b u z
  ·exact .inr (e1.h.free z)
noncomputable def noOwn (δ:fE):Bool:=δ.all λs=>match s with|.own _=>false|_=>true
noncomputable def nL (δ:fE):Bool:=δ.all λs=>match s with|.memo _=>false|_=>true
theorem jN {δ:fE}(h:noOwn δ=true) {i:Nat}{ds:cu}(q:δ[i]? =some (.own ds)):False:=by
 have:=List.all_eq_true.mp h _ (bh q);cases this
theorem rA {δ:fE}(h:nL δ=true) {i:Nat}{ds:cu}(q:δ[i]? =some (.memo ds)):False:=by
 have:=List.all_eq_true.mp h _ (bh q);cases this
def u3 (i:Nat):R->Option R
 |.next δ=>if nL (δ.set i .no)=true then some (.next (δ.set i .no))else none
 |.ret d=>some (.ret d)
 |.brk δ=>if nL (δ.set i .no)=true then some (.brk (δ.set i .no))else none
 |.cont δ=>if nL (δ.set i .no)=true then some (.cont (δ.set i .no))else none
def qt (i:Nat) (Mo:fE->Option dP) (fr:dP->bY):bY:=λδ=>
 if noOwn δ=true/\i<δ.length then(Mo δ).bind λM=>(fr M (δ.set i (.memo []))).bind (u3 i)else none
theorem FX (g:@Gd Mem.keep B C0 H0 δ σ C H) (hn:H a=none) (g2:@Gd (dh a M) B C (upd H a (.ext (ja a []))) δ' σ' C2 H2) (hm:nL (δ'.set i .no)=true):@Gd Mem.keep B C0 H0 (δ'.set i .no) σ' C2 H2:=by
 have e0:l9 C H C (upd H a (.ext (ja a []))):=.fF (@Sx.sub Mem.keep _ _ _ _ (@Gd.x Mem.keep _ _ _ _ _ _ _ g)) hn;have e1:l9 C0 H0 C H:=(@Gd.ev Mem.keep _ _ _ _ _ _ _ g).r0;have e2:l9 C0 H0 C2 H2:=Lz (e1.trans e0) (e1.h.free hn) (@Gd.ev (dh a M) _ _ _ _ _ _ _ g2);have x2:=@Gd.x (dh a M) _ _ _ _ _ _ _ g2;have own:∀{k:Nat}{ds:cu},(δ'.set i Sl.no)[k]? =some (.own ds)->δ'[k]? =some (.own ds):=λ{k ds} q=>by
  rcases getElem?_set_cases q with⟨_,z⟩|⟨_,z⟩
  ·cases z
  ·exact z
 letI:=Mem.keep
 refine⟨@Gd.b (dh a M) _ _ _ _ _ _ _ g2,e2.up,⟨e2.s,λk d q=>?_,λk ds q=>@Sx.own (dh a M) _ _ _ _ x2 k ds (own q),λk l ds es b q1 q2=>@Sx.zo (dh a M) _ _ _ _ x2 k l ds es b (own q1) (own q2),by rw[List.length_set];exact @Sx.len (dh a M) _ _ _ _ x2,λk ks q=>(rA hm q).elim⟩,λk ds b q1 q2=>?_⟩
 ·rcases getElem?_set_cases q with⟨_,z⟩|⟨_,z⟩
  ·cases z
  ·exact @Sx.dat (dh a M) _ _ _ _ x2 k d z
 ·exact(e1.trans e0).h.free (@Gd.fr (dh a M) _ _ _ _ _ _ _ g2 k ds b (own q1) q2)
theorem DI (i:Nat) (hN:X.N.Nodup) (hr:∀(a:cE) (M:dP) (C1 H1:Hp),@Jk (dh a M) X C1 H1 rest (fr M)) (hi:X.N[i]? =some y:=by rfl) (hx:Loc X.env.scope y:=by first|exact Or.inl rfl|exact Or.inr rfl) (hs:swapsWith (.Dict [] [] pd) (some (.Name y py)) pos.line X.env=pure false:=by rfl) (hf:X.fn y=true\/X.env.scope.names.lookup y=some .local:=by first|exact .inl rfl|exact .inr rfl):@Jk Mem.keep X C0 H0 (.Assign [.Name y py] (.Dict [] [] pd) pos::rest) (qt i Mo fr):=λB=>by
 have ex:zf X rest (λDn σ H=>∃(a:cE) (M:dP) (C1 H1:Hp),@tS (dh a M) B C1 H1 (fr M) Dn σ H):=λcM s σ H Dn I ⟨a,M,C1,H1,q⟩=>hr a M C1 H1 B cM s σ H Dn I q
 refine(qg (w6 hN hi hx (HD (pos:=pd)) hs hf) ex).imp λDn σ H ⟨C,δ,r,gd,q,fin⟩=>?_
 unfold qt at q;split at q
 case isFalse=>cases q
 rename_i hc;obtain⟨u4,hlen⟩:=hc;cases hM:Mo δ with
 |none=>rw[hM]at q;cases q
 |some M=>
  rw[hM]at q;simp only[ao]at q;cases Dv:fr M (δ.set i (.memo []))with
  |none=>rw[Dv]at q;cases q
  |some r'=>
   rw[Dv]at q;simp only[ao]at q;intro t ht hsm;have x0:=@Gd.x Mem.keep _ _ _ _ _ _ _ gd;have sub:=@Sx.sub Mem.keep _ _ _ _ x0;have WI:C t=none:=sub.free ht;have OJ:dM C (upd H t (.ext (ja t []))):=sub.trans (eA ht);have e1:l9 C0 H0 C H:=(@Gd.ev Mem.keep _ _ _ _ _ _ _ gd).r0;have e0:l9 C H C (upd H t (.ext (ja t []))):=.fF sub ht;have g1:@Gd (dh t M) B C (upd H t (.ext (ja t []))) (δ.set i (.memo [])) (σ.set i (some (.ref t))) C (upd H t (.ext (ja t []))):=by
    letI:=dh t M
    have hl:=@Sx.len Mem.keep _ _ _ _ x0;refine⟨@Gd.b Mem.keep _ _ _ _ _ _ _ gd,.refl OJ,⟨OJ,λk d z=>?_,λk ds z=>?_,λk l ds es b z=>?_,by simp[hl],λk ks z=>?_⟩,λk ds b z=>?_⟩
    ·rcases getElem?_set_cases z with⟨_,z⟩|⟨hk,z⟩
     ·cases z
     ·obtain⟨v,h1,h2⟩:=@Sx.dat Mem.keep _ _ _ _ x0 k d z;exact⟨v,by rw[aG (Ne.symm hk)];exact h1,h2⟩
    ·rcases getElem?_set_cases z with⟨_,z⟩|⟨hk,z⟩
     ·cases z
     ·exact(jN u4 z).elim
    ·rcases getElem?_set_cases z with⟨_,z⟩|⟨hk,z⟩
     ·cases z
     ·exact(jN u4 z).elim
    ·rcases getElem?_set_cases z with⟨rfl,z'⟩|⟨hk,z⟩
     ·cases z';exact⟨t,rfl,by rw[bc (by rw[<-hl];exact hlen)],⟨[],xJ WI hsm cY⟩,λk hk=>by cases hk⟩
     ·obtain⟨b,h1,_⟩:=@Sx.mem Mem.keep _ _ _ _ x0 k ks z;cases h1
    ·rcases getElem?_set_cases z with⟨_,z⟩|⟨hk,z⟩
     ·cases z
     ·exact(jN u4 z).elim
   refine⟨t,M,C,_,C,_,r',g1,Dv,?_⟩;cases r' with
   |next δ'=>
    simp only[u3]at q;split at q
    ·rename_i hm;cases q;exact λσ' C2 H2 g2=>fin σ' C2 H2 (FX gd ht g2 hm)
    ·cases q
   |ret d=>
    cases q;exact λv C2 H2 ev iv=>fin v C2 H2 (@l9.up _ _ _ _ Mem.keep (Lz (e1.trans e0) (e1.h.free ht) ev)) iv
   |brk δ'=>
    simp only[u3]at q;split at q
    ·rename_i hm;cases q;exact λσ' C2 H2 g2=>fin σ' C2 H2 (FX gd ht g2 hm)
    ·cases q
   |cont δ'=>
    simp only[u3]at q;split at q
    ·rename_i hm;cases q;exact λσ' C2 H2 g2=>fin σ' C2 H2 (FX gd ht g2 hm)
    ·cases q
end
end DL
namespace HT
open PySem PySem.Spec PyProof.Rows
section
variable {prog:cA}{w:cB}{A:cC}{E:cf}{s:cy}
theorem rW {t sl:cE}{items:Array cx}{vl vu:cx}{lo hi:Option Int}{Q:cf}(ht:IsTup s.heap t items) (hs:s.heap.IsSliceOf sl vl vu .none) (pl:IsPart vl lo) (pu:IsPart vu hi)
  (hw:ip items.size 0 lo=0/\ip items.size items.size hi=items.size)
  (h:Q (.ref t) s):wpAny (model prog w) A (getItem (.ref t) (.ref sl)) Q E s:=by
 obtain⟨os,Ro,Ws,UE⟩:=id hs;have XB:s.TypeIs (.ref sl) "slice":=⟨os,Ro,Ws⟩;unfold getItem;try with_reducible refine bo ?_
 first|refine aa (aj ?_)|skip
 refine aa (wpAny_sequenceKey ht.typeIs (by decide) ?_)
 refine aa (wpAny_callSpecial?_slot (name:=Str.ofString "__getitem__") ht.typeIs PyProof.Rows.slot_tuple_getitem
  (bL PyProof.Rows.slot_tuple_getitem ht.typeIs entry_tuple_getitem ?_ (args_tuple_getitem _ _)))
 show wpAny _ _ (Builtin.Tuple.tupleItemsOf (.ref t)>>=_) _ _ s;refine aa (tupleItemsOf_ ht ?_);refine aa (wpAny_typeOf XB ?_);rw[if_pos (by decide)]
 refine aa (nZ hs pl pu ?_);have X6:(((ip items.size 0 lo:Nat):Int)==0&&(1:Int)==1&&(ip items.size items.size hi-ip items.size 0 lo)==items.size)=true:=by
  rw[hw.1,hw.2];simp
 show wpAny _ _ (if(((ip items.size 0 lo:Nat):Int)==0&&(1:Int)==1&&(ip items.size items.size hi-ip items.size 0 lo)==items.size)=true then _ else _) _ _ s
 rw[if_pos X6];unfold Builtin.Tuple.tupleIsExact;refine aa (aa (wpAny_typeOf ht.typeIs (aj ?_)));rw[if_pos (by decide)]
 first
  |exact aa (wpAny_rule (aa (aj ⟨_,rfl,aj h⟩)))
  |exact aa (wpAny_rule (aj ⟨_,rfl,aj h⟩))
end
end HT
namespace DL
open PySem PySem.Spec PyProof.Rows L2
variable [Mem]
section
variable {X:Cx}{a b c e o:cF}{pos p p2:Pos}{f g h:bZ}
theorem OK:P8 X (λx lo hi H Q=>∃a xs,x=.ref a/\kR X.K H a xs/\(HT.ip xs.length 0 lo=0/\HT.ip xs.length xs.length hi=xs.length)/\Q (.ref a) H):=by
 intro cM s σ H x v vl vu lo hi sl Q I rx hs pl pu h;obtain⟨a,xs,rfl,hx,hw,q⟩:=h;cases rx;obtain⟨dD,r,ht,hz⟩:=I.tuple hx;have hlen:dD.toArray.size=xs.length:=by rw[aq];exact r.length.symm
 refine⟨"tuple",_,PyProof.Rows.slot_tuple_getitem.lookup,ht.typeIs,?_⟩;exact HT.rW ht hs pl pu (by rw[hlen];exact hw) ⟨.ref a,H,I,rfl,q⟩
def DJ (f:bZ) (lo hi:fE->Option (Option Int)):bZ:=λδ=>match f δ with
 |some (.tup ds)=>(lo δ).bind λl=>(hi δ).map λu=>.tup (cutD ds l u)
 |_=>none
end
end DL
namespace DL
open PySem PySem.Spec PyProof.Rows L2
variable [Mem]
section
variable {X:Cx}
end
section
variable {X:Cx}{a b c e o:cF}{pos p p2:Pos}{f g h:bZ}{C0 H0:Hp}
noncomputable def Vk (i j:Int):Bool:=decide (0<=j)&&decide (j<=1000000)&&decide (i.natAbs<2^64)
def Vl:=FE Vk λi j=>.int (i*2^j.toNat)
noncomputable def Vm (_ j:Int):Bool:=decide (0<=j)
def Vn:=FE Vm λi j=>.int (i/2^j.toNat)
def Vo:=oI λi j=>.int (Builtin.bitAnd i j)
end
end DL
namespace DL
open PySem PySem.Spec PyProof.Rows L2
variable [Mem]
variable [Mem]
section
variable {X:Cx}{a b c e o:cF}{pos p p2:Pos}{f g h:bZ}
theorem xK (ha:WO X e f) (he:∀whole,isTrue e X.env whole=(do let v <-whole;standAt e.pos;holding [v] (truthy v)):=by intro _;rfl):WQ X e (qT f):=⟨(KJ ha.go he).imp λσ H Q ⟨C,δ,b,x,q,k⟩=>by
 unfold qT at q;cases hf:f δ with
 |none=>rw[hf]at q;cases q
 |some d=>
  rw[hf]at q;exact⟨C,δ,d,x,hf,λv C' H' ev i=>⟨b,OH ev.s i q,k C' H' ev⟩⟩⟩
theorem rB (ha:WO X a f) (hb:WO X b g):WD X (.BinOp a .Add b pos) (du mF f g):=⟨tG (Lw.or N8) OI ha.go hb.go⟩
end
variable [Mem]
section
variable {X:Cx}{a b c e o:cF}{pos p p2:Pos}{f g h:bZ}
theorem LA {lo hi:Option cF}{fl fh:fE->Option (Option Int)}(he:WO X e f) (hl:WP X lo fl) (hh:WP X hi fh):WD X (.Subscript e (.Slice lo hi none p2) pos) (DJ f fl fh):=⟨(Dj (OK.or Rp) he.go hl.go hh.go).imp λσ H Q ⟨C,δ,d,x,q,k⟩=>by
 unfold DJ at q;split at q
 ·rename_i es hf;cases h1:fl δ with
  |none=>rw[h1]at q;cases q
  |some l=>
   cases h2:fh δ with
   |none=>rw[h1,h2]at q;cases q
   |some u=>
    rw[h1,h2]at q;cases q;refine⟨C,δ,_,x,hf,λv C1 H1 e1 i1=>⟨C1,δ,l,x.ev e1,h1,λC2 H2 e2=>⟨C2,δ,u,x.ev (e1.trans e2),h2,λC3 H3 e3=>?_⟩⟩⟩
    obtain⟨p,xs,rfl,hq,ll,hc⟩:=((i1.ev e2).ev e3).tup (K:=X.K) e3.s;have ev:=(e1.trans e2).trans e3;by_cases hw:HT.ip xs.length 0 l=0/\HT.ip xs.length xs.length u=xs.length
    ·exact .inl ⟨p,xs,rfl,hq,hw,k _ C3 H3 ev (.tup hc (ll.RX hw))⟩
    ·exact .inr ⟨p,xs,rfl,hq,hw,λt ht=>k _ _ _ (ev.trans (.new e3.s ht)) (.tup cY ((ll.cut l u).mono (eA (e3.s.free ht))))⟩
 ·cases q⟩
end
variable [Mem]
section
variable {X:Cx}
end
section
variable {X:Cx}{a b c e o:cF}{pos p p2:Pos}{f g h:bZ}{C0 H0:Hp}
theorem R1 (ha:WO X a f) (hb:WO X b g):WD X (.BinOp a .LShift b pos) (du Vl f g):=⟨tG Rb (Dz (λi j h=>by
 simp only[Vk,Bool.and_eq_true,decide_eq_true_eq]at h;exact⟨h.1.1,h.1.2,h.2⟩) λ_ _ _=>.int _) ha.go hb.go⟩
theorem R3 (ha:WO X a f) (hb:WO X b g):WD X (.BinOp a .RShift b pos) (du Vn f g):=⟨tG Rc (Dz (λi j h=>by simpa [Vm]using h) λ_ _ _=>.int _) ha.go hb.go⟩
theorem Jv (ha:WO X a f) (hb:WO X b g):WD X (.BinOp a .BitAnd b pos) (du Vo f g):=⟨tG Rf (Jj λ_ _ _=>.int _) ha.go hb.go⟩
end
end DL
namespace DL
open PySem PySem.Spec PyProof.Rows L2
section
variable [Mem] {X:Cx}{C0 H0:Hp}{st:cI}{pos:Pos}
end
def FY (P:cA) (w:cB) (K:W.Frag) (mg:cg) (base:Heap) (k:Nat) (x:Str) (j:Nat) (Mf:cu->dP) (g:cc):Prop:=
 ∃f fd ps,dY P w K mg base gY k f fd ps (Tv j Mf g)/\mg x=some (.ref f)/\W.keepIn K (.ref f)=true/\Binds K fd ps []
theorem FY.mono {P:cA}{w:cB}{K:W.Frag}{mg:cg}{base:Heap}{k l:Nat}{x:Str}{j:Nat}{Mf:cu->dP}{g:cc}(c:FY P w K mg base k x j Mf g) (h:k<=l:=by omega):FY P w K mg base l x j Mf g:=
 let ⟨f,fd,ps,F,r⟩:=c;⟨f,fd,ps,F.mono h,r⟩
theorem OL {P:cA}{w:cB}{K:W.Frag}{mg:cg}{base:Heap}{k:Nat}{f:cE}{fd:cz}{ps:List Str}:dY P w K mg base gY k f fd ps (rj λ_=>none):=
 ⟨(λvs H Q E ⟨_,_,_,_,_,q,_⟩=>by cases q),λA outer s H args us vs Q E _ _ _ _ ⟨_,_,_,_,_,q,_⟩=>by cases q⟩
theorem LB {P:cA}{w:cB}{K:W.Frag}{mg:cg}{base:Heap}{k:Nat}{f:cE}{fd:cz}{ps:List Str}{j:Nat}{Mf:cu->dP}:dY P w K mg base gY k f fd ps (Tv j Mf λ_=>none):=
 ⟨(λvs H Q E ⟨_,_,_,_,_,_,_,_,q,_⟩=>by cases q),λA outer s H args us vs Q E _ _ _ _ ⟨_,_,_,_,_,_,_,_,q,_⟩=>by cases q⟩
structure Vp [Mem] (X:Cx) (es:List cF) (i j:Nat) (f:bX):Prop where
 go:X4 X es i j f
section
variable {X:Cx}{e k o:cF}{es:List cF}{body rest:List cI}{p pos pos' p2:Pos}{x:Str}{a:cE}{M:dP}{C0 H0:Hp}{i:Nat}
theorem qu [Mem] (ho:PE X e (gX i)) (hr:HA X es f) (hs:cL e es X.env:=by exact fH rfl):Vp X (e::es) i 0 f:=⟨(nh ho hr.go hs).imp λσ H Q ⟨C,δ,ds,ks,x,hi,q,k⟩=>by
 obtain⟨a,h1,h2,_,_⟩:=x.mem i ks hi;exact⟨.ref a,h2,C,δ,ds,x,q,λvs C' H' ev il=>k (.ref a::vs) C' H' a ev h1 rfl il⟩⟩
theorem jO [Mem] (ha:WD X e f) (hr:Vp X es i j g) (hs:cL e es X.env:=by exact fH rfl):Vp X (e::es) i (j+1) (aO f g):=⟨(nh ha.go hr.go hs).imp λσ H Q ⟨C,δ,ds,ks,x,hi,q,k⟩=>by
 unfold aO at q;cases hf:f δ with
 |none=>rw[hf]at q;cases q
 |some d=>
  cases hg:g δ with
  |none=>rw[hf,hg]at q;cases q
  |some r=>
   rw[hf,hg]at q;cases q;exact⟨C,δ,d,x,hf,λv C1 H1 e1 i1=>⟨C1,δ,r,ks,x.ev e1,hi,hg,λvs C2 H2 a e2 h1 h2 i2=>k (v::vs) C2 H2 a (e1.trans e2) h1 h2 (.cons (i1.mono e2.c) i2)⟩⟩⟩
theorem xM (c:FY X.prog X.w X.K X.mg X.base l x j Mf g) (hr:fm l X.A) (hg:Gl X x) (ha:@Vp (dh a M) X (e::es) i j fa) (rV:(x==("__debug__":Str))=false:=by decide) (he:cL e es X.env:=by exact fH rfl) (kf:(backTo pos (starEach es X.env)).any (·.1)=false:=by exact gh rfl):@WD (dh a M) X (.Call (.Name x p) (e::es) [] pos) (jM i Mf g M fa):=by
 obtain⟨f,fd,ps,F,hm,hk,hb⟩:=c;letI:=dh a M
 exact⟨Ju F hr hg hm hk hb ha.go rV he kf⟩
theorem Jw (fs:List Nat) {fk:bZ}{fb:bY}(hu:X.A.units+64<cLine) (hk:@WD (dh a M) X k fk) (ho:PE X o (gX i)) (hb:@qb (dh a M) X C0 H0 body fb) (hm:behindInMarks .NotIn o=false:=by first|exact xb _|rfl):
  @WB (dh a M) X C0 H0 (.If (.Compare k [.NotIn] [o] pos) body [] pos') (kW i fs fk fb):=by
 letI:=dh a M
 exact⟨Jt fs hu hk.go ho hb.go hm⟩
theorem FZ (hu:X.A.units+64<cLine) (ho:PE X o (gX i)) (hk:@WD (dh a M) X k fk) (hs:oQ k):@WD (dh a M) X (.Subscript o k pos) (jL M i fk):=by
 letI:=dh a M
 exact⟨FU hu ho hk.go hs⟩
theorem Ga (hu:X.A.units+64<cLine) (he:@WD (dh a M) X e fe) (ho:PE X o (gX i)) (hk:@WD (dh a M) X k fk) (ha:∀v,assign (.Subscript o k p) X.env v=(do
   let ov <-holding [v] (eval o X.env)
   let iv <-holding [v,ov] (eval k X.env)
   standAt p
   holding [v,ov,iv] (setItem ov iv v)
   release [v,ov,iv] []):=by intro _;rfl) (hs:swapsWithSole [.Subscript o k p] e pos.line X.env=pure false:=by rfl) (hw:swappedStores [.Subscript o k p] e X.env=pure none:=by rfl) (h1:(assignEach [.Subscript o k p] X.env).map (·.2)=[assign (.Subscript o k p) X.env]:=by rfl):@WB (dh a M) X C0 H0 (.Assign [.Subscript o k p] e pos) (ji M i fk fe):=by
 letI:=dh a M
 exact⟨FV hu he.go ho hk.go ha hs hw h1⟩
theorem DK (i:Nat) (hN:X.N.Nodup) (hr:∀(a:cE) (M:dP) (C1 H1:Hp),@qb (dh a M) X C1 H1 rest (fr M)) (hi:X.N[i]? =some y:=by rfl) (hx:Loc X.env.scope y:=by first|exact Or.inl rfl|exact Or.inr rfl) (hs:swapsWith (.Dict [] [] pd) (some (.Name y py)) pos.line X.env=pure false:=by rfl) (hf:X.fn y=true\/X.env.scope.names.lookup y=some .local:=by first|exact .inl rfl|exact .inr rfl):@qb Mem.keep X C0 H0 (.Assign [.Name y py] (.Dict [] [] pd) pos::rest) (qt i Mo fr):=
 @qb.mk Mem.keep _ _ _ _ _ (DI i hN (λa M C1 H1=>@qb.go (dh a M) _ _ _ _ _ (hr a M C1 H1)) hi hx hs hf)
end
theorem LC {P:cA}{w:cB}{K:W.Frag}{mg:cg}{base:Heap}{x qual:Str}{st:cI}{f:cE}{fd:cz}{N ps:List Str}{k:Nat}(F:kU K x qual st f fd) (S:dt N ps (cP st)) {fb:bY}
  (fY:∀(eN:cx) (A:cC) (outer:List Env) (s:cy) (H:Hp) (E:XK),fm k (A.deeper (envOfC qual (cP st) s.heap.objs.size f eN))->∀C0 H0,@qb Mem.keep (pX gY P w K mg base N qual (cP st) f eN A outer s H E).Dc C0 H0 (eW st) fb):
  dY P w K mg base gY (k+1) f fd ps (rj (iA N.length ps.length fb)):=Qj F S λeN A outer s H E hr C0 H0=>@qb.go Mem.keep _ _ _ _ _ (fY eN A outer s H E hr C0 H0)
theorem OM {P:cA}{w:cB}{K:W.Frag}{mg:cg}{base:Heap}{x qual:Str}{st:cI}{f:cE}{fd:cz}{N ps:List Str}{k:Nat}(j:Nat) (Mf:cu->dP) (F:kU K x qual st f fd) (S:dt N ps (cP st)) {fb:dP->bY}
  (fY:∀(a:cE) (M:dP) (eN:cx) (A:cC) (outer:List Env) (s:cy) (H:Hp) (E:XK),fm k (A.deeper (envOfC qual (cP st) s.heap.objs.size f eN))->∀C0 H0,@qb (dh a M) (pX gY P w K mg base N qual (cP st) f eN A outer s H E).Dc C0 H0 (eW st) (fb M)):
  dY P w K mg base gY (k+1) f fd ps (Tv j Mf (Aq N.length ps.length j Mf fb)):=RZ j Mf F S λa M eN A outer s H E hr C0 H0=>@qb.go (dh a M) _ _ _ _ _ (fY a M eN A outer s H E hr C0 H0)
theorem Gb:bootBuiltins "any"=some (.builtin "any"):=by decide +kernel
section
variable {X:Cx}
theorem DM (hc:X.calm=true):i8 X (.builtin "any") (λxs H Q=>∃(p:cE) (bs:List Bool),xs=[.ref p]/\pZ X.K H p (bs.map V.bl)/\Q (.bl (bs.any id)) H):=by
 intro cM s σ H xs us Q I r h;obtain⟨p,bs,rfl,hq,q⟩:=h;obtain⟨u,rfl,r1⟩:=vals1 r;cases r1;obtain⟨dD,rv,pl,hz⟩:=I.list hq;have fu:p<s.heap.objs.size:=by obtain⟨o,n,e,_⟩:=pl;exact aB e
 have hlen:=rv.length;rw[ae]at hlen;have U8:∀(i:Nat) (v:cx),dD.toArray[i]? =some v->v=.bool (bs.getD i false):=λi v hv=>by
  have Ki:dD[i]? =some v:=by simpa using hv
  have hi:i<dD.length:=(List.getElem?_eq_some_iff.mp Ki).1;have g1:(bs.map V.bl)[i]? =some (.bl (bs.getD i false)):=by
   rw[av,ah (by omega),ak,ah (by omega)];rfl
  obtain⟨w,h1,h2⟩:=rv.get g1;rw[Ki]at h1;cases h1;exact h2
 refine call_any_walk (wpAny_pyIter_list pl.isList ⟨s.heap.objs.size,_,_,_,_,_,λi=>bs.getD i false,rfl,Walks.list (A:=X.A.in1) (I.ok.hd hc) s.heap.objs.size p (aE fu) dD.toArray,⟨⟨_,az _ rfl,rfl,rfl⟩,?_⟩,λi v s' Q' E' hv hQ=>?_,λh' tk kk=>?_⟩)
 ·obtain⟨o,n,e,h1,h2,h3⟩:=pl;exact⟨o,ag _ e,h1,n,h3⟩
 ·rw[U8 i v hv];exact bP hQ
 ·have I1:L2.Inv X cM σ H {s with heap:=s.heap.push {cls:=.type "list_iterator",data:=.fields #[.ref p,.int 0 0]}}:=I.kept (t':=s.toks) λb o e=>ag _ e
  obtain⟨f0,f1,f2,f3,f4,f5⟩:=I.KA (H':=H) (au _) (I.fJ.fresh (au _));have I2:=I1.turned (t':=tk) (h':=h') (it:=s.heap.objs.size) (λb o hb e=>kk b o (by simpa using hb) e) f0 f1 f3 f4 f5
  refine⟨.bl (bs.any id),H,I2,?_,q⟩;show Value.bool _=Value.bool _
  congr 1
  rw[aq,<-hlen];clear U8 hlen;rw[Bool.eq_iff_iff];simp only[bN,List.mem_range,id];constructor
  ·rintro⟨i,hi,h⟩
   rw[ak,ah hi]at h;exact⟨_,List.getElem_mem hi,h⟩
  ·rintro⟨b,hb,h⟩
   obtain⟨i,hi,e⟩:=List.getElem_of_mem hb;refine⟨i,hi,?_⟩;rw[ak,ah hi];show bs[i]=true;rw[e];exact h
def DN:cc
 |[.lst ds]=>(n6 ds).map λbs=>.bl (bs.any id)
 |_=>none
theorem LD (hc:X.calm=true):vR X (.builtin "any") DN:=by
 refine⟨_,DM hc,?_⟩;intro C H vs ds d Q s i q k;unfold DN at q;split at q
 ·rename_i es;cases hb:n6 es with
  |none=>rw[hb]at q;cases q
  |some bs=>
   rw[hb]at q;cases q;letI:=Mem.keep
   obtain⟨v,rfl,j⟩:=i.one;obtain⟨p,xs,rfl,hq,l⟩:=j.list (K:=X.K) s;rw[xq hb]at l;cases l.Fy;exact⟨p,bs,rfl,hq,k _ C H (.refl s) (.bl _)⟩
 ·cases q
end
end DL
namespace L2
open PySem PySem.Spec PyProof.Rows
section
variable {prog:cA}{w:cB}{A:cC}{E:cf}{s:cy}
theorem DO (ht:IsTup s.heap t vs.toArray) (hQ:Q vs {s with heap:=(s.heap.push (seqObj "list" #[] 0)).update s.heap.objs.size (Obj.mapSeq (·++vs.toArray))}) (hsz:vs.length<=sizeLine):wpAny (model prog w) A (collect (.ref t)) Q E s:=by
 obtain⟨o,ho,hc,n,hd⟩:=id ht;unfold collect;refine aa (wpAny_runValue (codeAny_builtin F.entry_proto_collect ?_));rw[bW F.plain_proto_collect _];show wpAny _ A.in1 (newList []>>=λl=>again (.builtin "list.__iadd__" ⟨[l,.ref t],[]⟩)) _ _ s
 refine aa (bQ ?_);refine aj ⟨plainId_quiet F.plain_list_iadd _,codeAny_builtin F.entry_list_iadd ?_⟩;rw[bW F.plain_list_iadd _];show wpAny _ A.in1 (Builtin.List.listExtendWith (.ref s.heap.objs.size) (.ref t) (.ref s.heap.objs.size)) _ _ _;have hS:(s.heap.push {cls:=.type "list",data:=.seq ([]:cw).toArray}).get? s.heap.objs.size=some {cls:=.type "list",data:=.seq #[] 0}:=az _ rfl;have hS₂:=Heap.get?_update_self (Obj.mapSeq (·++vs.toArray)) hS rfl
 have ON:wpAny (model prog w) A (match Value.ref s.heap.objs.size with
   |Value.ref a=>do
    match(<-load a).data with
     |Data.seq xs _=>pure xs.toList
     |_=>unsupported "internal:collect"
   |_=>unsupported "internal:collect") Q E {s with heap:=(s.heap.push {cls:=.type "list",data:=.seq ([]:cw).toArray}).update s.heap.objs.size (Obj.mapSeq (·++vs.toArray))}:=by
  show wpAny _ A (load s.heap.objs.size>>=_) _ _ _;refine aa (wpAny_load hS₂ ?_);refine aj ?_;have e:((#[]:Array cx)++vs.toArray).toList=vs:=by simp
  show Q ((#[]:Array cx)++vs.toArray).toList _;rw[e];exact hQ
 refine bO (wpAny_extend_seq (hsz:=by rw[aq];exact hsz) (A:=A) (R:=λr s'=>r=.ok (.ret (.ref s.heap.objs.size))/\s'={s with heap:=(s.heap.push {cls:=.type "list",data:=.seq ([]:cw).toArray}).update s.heap.objs.size (Obj.mapSeq (·++vs.toArray))})
  (s:={s with heap:=s.heap.push {cls:=.type "list",data:=.seq ([]:cw).toArray}}) _ t _ 0 (.inr rfl) hS (ag _ ho) hc hd ⟨rfl,rfl⟩) (λfin s' h=>?_) (λe s' h=>?_)
 ·cases fin with
  |done f=>
   obtain⟨e,rfl⟩:=h;cases e;exact ON
  |again c'=>exact⟨h.1,codeAny_mono h.2 λr Kj hr=>by obtain⟨rfl,rfl⟩:=hr;exact ON⟩
 ·exact absurd h.1 (by simp)
theorem BS {t:cE}{vs:cw}{ns:cn}{Q:cf}(ht:IsTup s.heap t vs.toArray) (hI:IntsAre vs ns) (zw:vs.length<64)
  (h:∀(out:Array cx) (Bn:cn),IntsAre out.toList Bn->Bn.Perm ns->Bn.Pairwise (·<= ·)->Q (.ref (s.heap.objs.size+1)) {s with heap:=sortedAll s.heap vs out}):
  wpAny (model prog w) A (call (.builtin "sorted") [.ref t]) Q E s:=by
 refine Calls.call_function_entry kind_sorted plain_sorted entry_sorted (args_sorted1 _) ?_;unfold Builtin.«sorted»;refine aa (m:=checkCount "sorted" 1 1 _) (aj ?_);refine aa (DO ht ?_ (by rw[bu];omega))
 refine aa (wpAny_newList ?_ (hsz:=by rw[bu];omega))
 have hsz:((s.heap.push (seqObj "list" #[] 0)).update s.heap.objs.size (Obj.mapSeq (·++vs.toArray))).objs.size=s.heap.objs.size+1:=by
  rw[Heap.size_update,size_push']
 have Hc:(((s.heap.push (seqObj "list" #[] 0)).update s.heap.objs.size (Obj.mapSeq (·++vs.toArray))).push (seqObj "list" vs.toArray 0)).get? (s.heap.objs.size+1)=some (seqObj "list" vs.toArray 0):=by
  rw[<-hsz];exact az _ rfl
 show wpAny _ _ _ _ _ {s with heap:=((s.heap.push (seqObj "list" #[] 0)).update s.heap.objs.size (Obj.mapSeq (·++vs.toArray))).push (seqObj "list" vs.toArray 0)}
 rw[hsz];refine aa (bo (bL slot_list_sort ⟨_,Hc,rfl⟩ entry_list_sort (list_sort_tree Hc hI zw λout Bn a1 a2 a3=>⟨_,rfl,?_⟩) (args_list_sort _)))
 exact aj ⟨_,rfl,h out Bn a1 a2 a3⟩
end
section
variable {X:Cx}
theorem tW:i8 X (.builtin "sorted") (λxs H Q=>∃(p:cE) (ns:cn),xs=[.ref p]/\kR X.K H p (ns.map V.int)/\ns.length<64/\∀(l:cE) (ms:cn),H l=none->ms.Perm ns->ms.Pairwise (·<= ·)->Q (.ref l) (upd H l (.lst (ms.map V.int)))):=by
 intro cM s σ H xs us Q I r h;obtain⟨p,ns,rfl,hq,zw,q⟩:=h;obtain⟨u,rfl,rx⟩:=vals1 r;cases rx;obtain⟨dD,rv,pl,hz⟩:=I.tuple hq;have hi:IntsAre dD ns:=intsAre_of rv;have hl:=hi.length;refine BS pl hi (by omega) λout Bn a1 a2 a3=>?_
 obtain⟨e,he⟩:=sortedAll_at s.heap dD out;refine⟨.ref (s.heap.objs.size+1),_,I.laid (t':=s.toks) (o:=.lst (Bn.map V.int)) (λb o z=>sortedAll_old z) (Nat.le_succ _) ?_,rfl,q _ Bn (I.fJ.fresh (Nat.le_succ _)) a2 a3⟩
 refine⟨?_,out.toList,e,rh a1,by simpa using he⟩
 have:=a2.length_eq;rw[ae];exact bg (kj (by omega))
end
end L2
namespace DL
open PySem PySem.Spec PyProof.Rows L2
section
variable {X:Cx}
def ly:cu->Option (cu)
 |[.tup ds]=>if ds.length<64 then(intsOf ds).map λns=>(sortI ns).map D.int else none
 |_=>none
theorem As (hu:X.A.units+64<cLine):Hr X (.builtin "sorted") ly:=by
 refine⟨_,tW,?_⟩;intro C H vs ds d Q s i q k;unfold ly at q;split at q
 ·rename_i es;split at q
  ·rename_i zw;cases hn:intsOf es with
   |none=>rw[hn]at q;cases q
   |some ns=>
    rw[hn]at q;cases q;letI:=Mem.keep
    obtain⟨v,rfl,j⟩:=i.one;obtain⟨p,xs,rfl,hq,l,_⟩:=j.tup (K:=X.K) s;have e:=hJ hn;subst e;cases l.l8;rw[ae]at zw;refine⟨p,ns,rfl,hq,zw,λt ms ht pm pw=>?_⟩
    have e:ms=sortI ns:=fC (λa b h1 h2=>by omega) (pm.trans (sortI_perm ns).symm) pw (xw ns)
    subst e;exact k t _ C _ (.fF s ht) ht (s.free ht) cY (.ints _)
  ·cases q
 ·cases q
end
structure OC where
 cl:cE
 fG:Str
 fK:Str
 Mf:D->dP
structure gz where
 o:cE
 dx:cE
 a:cE
structure gA (Y:OC) (A:gz) (G:D) (C H:Hp) (xs:List (D×cE×cx)):Prop where
 h:∃fs gv,H A.o=some (.ins Y.cl A.dx fs)/\fs.lookup Y.fG=some gv/\fs.lookup Y.fK=some (.ref A.a)/\(∀m,m≠Y.fG->m≠Y.fK->fs.lookup m=none)/\Is C gv G
 c:C A.o=none
 m:dS A.a (Y.Mf G) C H xs
section
variable {Y:OC}{A:gz}{G:D}{C H C' H':Hp}{xs:List (D×cE×cx)}
theorem gA.RY (m:gA Y A G C H xs) (e:l9 C H C' H'):gA Y A G C' H' xs where
 h:=let ⟨fs,gv,h1,h2,h3,h4,h5⟩:=m.h;⟨fs,gv,e.h _ _ h1,h2,h3,h4,h5.mono e.c⟩
 c:=by
  obtain⟨fs,gv,h1,_⟩:=m.h;cases q:C' A.o with
  |none=>rfl
  |some u=>
   rcases e.n A.o u q with z|z
   ·rw[m.c]at z;cases z
   ·rw[h1]at z;cases z
 m:=m.m.RY e
theorem gA.zx (m:gA Y A G C H xs) {b:cE}{o:HO}(hb:b≠A.o) (Vq:b≠A.a):gA Y A G C (upd H b o) xs where
 h:=let ⟨fs,gv,h1,h2⟩:=m.h;⟨fs,gv,by rw[cR (Ne.symm hb)];exact h1,h2⟩
 c:=m.c
 m:=m.m.zx Vq
theorem gA.zy (m:gA Y A G C H xs) {b:cE}{o:HO}(hb:b≠A.o) (Vq:b≠A.a) (hc:C b=none):gA Y A G (upd C b o) H xs where
 h:=let ⟨fs,gv,h1,h2,h3,h4,h5⟩:=m.h;⟨fs,gv,h1,h2,h3,h4,h5.mono (eA hc)⟩
 c:=by rw[cR (Ne.symm hb)];exact m.c
 m:=m.m.zy Vq hc
theorem gA.ne (m:gA Y A G C H xs) (h:∀u,H b=some u->E3 u=false):b≠A.o/\b≠A.a:=by
 refine⟨λz=>?_,m.m.ne h⟩
 obtain⟨fs,gv,h1,_⟩:=m.h;subst z;have:=h _ h1;cases this
theorem gA.Ql (m:gA Y A G C H xs) (h:H b=none):b≠A.o/\b≠A.a:=by
 refine⟨λz=>?_,m.m.Ql h⟩
 obtain⟨fs,gv,h1,_⟩:=m.h;subst z;rw[h1]at h;cases h
theorem gA.Qm (m:gA Y A G C H xs) {b:cE}{o:HO}(ho:H b=some o) (hx:E3 o=false):b≠A.o/\b≠A.a:=m.ne λu q=>by rw[ho]at q;cases q;exact hx
theorem gA.oa (m:gA Y A G C H xs):A.o≠A.a:=λz=>by
 obtain⟨fs,gv,h1,_⟩:=m.h;have:=m.m.h;rw[<-z,h1]at this;cases this
end
@[reducible] noncomputable def cT (Y:OC) (A:gz) (G:D):Mem where
 cell:=some A.a
 face:=some A.o
 ok:=λC H=>∃xs,gA Y A G C H xs
 has:=λC H k=>∃xs,gA Y A G C H xs/\k∈xs.map (·.1)
 rel:=λC H C' H'=>((∃xs,gA Y A G C H xs)->∃xs,gA Y A G C' H' xs)/\∀k,(∃xs,gA Y A G C H xs/\k∈xs.map (·.1))->∃xs,gA Y A G C' H' xs/\k∈xs.map (·.1)
 of0:=λe=>⟨λ⟨xs,m⟩=>⟨xs,m.RY e⟩,λk ⟨xs,m,hk⟩=>⟨xs,m.RY e,hk⟩⟩
 trans:=λr1 r2=>⟨λh=>r2.1 (r1.1 h),λk h=>r2.2 k (r1.2 k h)⟩
 chg:=λ{_ _ _ _ b o} r hb=>⟨λ⟨xs,m⟩=>let ⟨ys,m'⟩:=r.1 ⟨xs,m⟩;⟨ys,m'.zx (m.Ql hb).1 (m.Ql hb).2⟩,λk ⟨xs,m,hk⟩=>let ⟨ys,m',oY⟩:=r.2 k ⟨xs,m,hk⟩;⟨ys,m'.zx (m.Ql hb).1 (m.Ql hb).2,oY⟩⟩
 give:=λ{_ _ _ H' b o} r hc ho hx=>⟨λh=>let ⟨ys,m'⟩:=r.1 h;⟨ys,m'.zy (m'.Qm ho hx).1 (m'.Qm ho hx).2 hc⟩,λk h=>let ⟨ys,m',oY⟩:=r.2 k h;⟨ys,m'.zy (m'.Qm ho hx).1 (m'.Qm ho hx).2 hc,oY⟩⟩
 RD:=λr h=>r.1 h
 Fz:=λr _ h=>r.2 _ h
 Qc:=λ⟨xs,m⟩ h=>⟨xs,m.zx (m.ne h).1 (m.ne h).2⟩
 Dx:=λ_ h ⟨xs,m,hk⟩=>⟨xs,m.zx (m.ne h).1 (m.ne h).2,hk⟩
 RE:=λ{_ _ b o} ⟨xs,m⟩ hc ho hx=>⟨xs,m.zy (m.Qm ho hx).1 (m.Qm ho hx).2 hc⟩
 FA:=λ{_ _ b o k} _ hc ho hx ⟨xs,m,hk⟩=>⟨xs,m.zy (m.Qm ho hx).1 (m.Qm ho hx).2 hc,hk⟩
noncomputable def oj (G:D) (i:Nat):bZ:=λδ=>match δ[i]? with
 |some (.memo _)=>some G
 |_=>none
structure lQ (K:W.Frag) (Y:OC):Prop where
 cl:NX K Y.cl
 nG:qi K Y.cl Y.fG
 nK:qi K Y.cl Y.fK
section
variable {X:Cx}{Y:OC}{A:gz}{G:D}{C0 H0:Hp}{e k o:cF}{body:List cI}{pos pos' p p2 po:Pos}{i:Nat}
theorem OO (Z:lQ X.K Y) (ho:PE X o (gX i)) (hb:attributeBase o Y.fG X.env (eval o X.env)=eval o X.env):@PD (cT Y A G) X (.Attribute o Y.fG po) (oj G i):=by
 letI:=cT Y A G
 refine(Bk ho hb).imp λσ H Q ⟨C,δ,d,x,q,fin⟩=>?_
 unfold oj at q;split at q
 ·rename_i ks hi;cases q;obtain⟨a',h1,h2,⟨xs,m⟩,_⟩:=x.mem i ks hi;cases h1;obtain⟨fs,gv,g1,g2,g3,g4,g5⟩:=m.h;exact⟨.ref A.o,h2,A.o,Y.cl,A.dx,fs,gv,rfl,g1,Z.cl,Z.nG,g2,fin gv C H (.refl x.sub) g5⟩
 ·cases q
theorem R4 (Z:lQ X.K Y) (x:@Sx (cT Y A G) δ σ C H) (hi:δ[i]? =some (.memo ks)) (q:Q (.ref A.a) H):Ut X.K (gX i) Y.fK σ H Q:=by
 obtain⟨a',h1,h2,⟨xs,m⟩,_⟩:=@Sx.mem (cT Y A G) _ _ _ _ x i ks hi;cases h1;obtain⟨fs,gv,g1,g2,g3,g4,g5⟩:=m.h;exact⟨.ref A.o,h2,A.o,Y.cl,A.dx,fs,_,rfl,g1,Z.cl,Z.nK,g3,q⟩
theorem LF (fs:List Nat) (hu:X.A.units+64<cLine) (Z:lQ X.K Y) (hk:@PD (cT Y A G) X k fk) (ho:PE X o (gX i)) (hb:attributeBase o Y.fK X.env (eval o X.env)=eval o X.env) (X7:@Jk (cT Y A G) X C0 H0 body fb) (hm:behindInMarks .NotIn (.Attribute o Y.fK po)=false):@PB (cT Y A G) X C0 H0 (.If (.Compare k [.NotIn] [.Attribute o Y.fK po] pos) body [] pos') (kW i fs fk fb):=λB=>by
 letI:=cT Y A G
 refine(Kx (Bj (tV (a:=A.a) (M:=Y.Mf G) hu) hk (Bk ho hb) hm) (X7 B) Bi).imp λDn σ H ⟨C,δ,r,gd,q,fin⟩=>?_
 unfold kW at q;split at q
 ·rename_i ks ds δ2 hi Ly RU;split at q
  ·rename_i hc;obtain⟨c1,c2,c3⟩:=hc;cases q;refine⟨C,δ,.tup ds,gd.x,Ly,λv C1 H1 e1 i1=>?_⟩
   have g1:=gd.DA e1;obtain⟨a',h1,h2,⟨xs,m⟩,h4⟩:=g1.x.mem i ks hi;refine R4 Z g1.x hi ⟨C1,ds,xs,e1.s,i1,c1,c2,rfl,m.m,_,rfl,?_⟩;cases hs:(atKey xs (.tup ds)).isSome with
   |true=>exact Dq (fin σ C1 H1 ((g1.Ap hi ⟨xs,m,rq.mp hs⟩).weak (vU fs δ i _ ks)))
   |false=>exact Bu ⟨C1,δ,.next δ2,g1,RU,λσ' C' H' g'=>fin σ' C' H' (g'.weak c3)⟩
  ·cases q
 ·cases q
theorem Jx (hu:X.A.units+64<cLine) (Z:lQ X.K Y) (ho:PE X o (gX i)) (hb:attributeBase o Y.fK X.env (eval o X.env)=eval o X.env) (hk:@PD (cT Y A G) X k fk) (hs:oQ k):@PD (cT Y A G) X (.Subscript (.Attribute o Y.fK po) k pos) (jL (Y.Mf G) i fk):=by
 letI:=cT Y A G
 refine(KW (HC (a:=A.a) (M:=Y.Mf G) hu) (Bk ho hb) hk hs).imp λσ H Q ⟨C,δ,d,x,q,fin⟩=>?_
 unfold jL at q;split at q
 ·rename_i ks ds hi Ly;split at q
  ·rename_i hc;obtain⟨c1,c2,c3⟩:=hc;refine R4 Z x hi ⟨C,δ,.tup ds,x,Ly,λv C1 H1 e1 i1=>?_⟩
   obtain⟨a',h1,_,_,h4⟩:=(x.ev e1).mem i ks hi;obtain⟨xs,m,hx⟩:=h4 _ c3;refine⟨C1,ds,xs,e1.s,rfl,i1,c1,c2,m.m,hx,λw d' hw iw=>?_⟩
   rw[q]at hw;cases hw;exact fin w C1 H1 e1 iw
  ·cases q
 ·cases q
theorem Ge (s:dM C H) (m:gA Y A G C H xs) (m':dS A.a (Y.Mf G) C (upd H A.a (.ext (ja A.a ys))) ys) (hk:∀k,(∃zs,dS A.a (Y.Mf G) C H zs/\k∈zs.map (·.1))->k∈ys.map (·.1)):gA Y A G C (upd H A.a (.ext (ja A.a ys))) ys/\@Ev (cT Y A G) C H C (upd H A.a (.ext (ja A.a ys))):=by
 letI:=cT Y A G
 have m2:gA Y A G C (upd H A.a (.ext (ja A.a ys))) ys:=⟨let ⟨fs,gv,h1,h2⟩:=m.h;⟨fs,gv,by rw[cR m.oa];exact h1,h2⟩,m.c,m'⟩
 refine⟨m2,dM.refl _,λb o q h=>?_,λb o q h x=>?_,λb u q=>?_,λb u q=>.inl q,⟨λ_=>⟨ys,m2⟩,λk ⟨zs,mz,hz⟩=>⟨ys,m2,hk k ⟨zs,mz.m,hz⟩⟩⟩⟩
 ·have:b≠A.a:=λz=>by
   subst z;rcases h with h|h
   ·exact h rfl
   ·rw[m.m.h]at q;cases q;cases h
  rw[cR this];exact q
 ·cases h;exact⟨_,cY,rfl⟩
 ·rw[cR (cX q m.m.c)];exact s b u q
theorem Jy {fk fe:bZ}(hu:X.A.units+64<cLine) (Z:lQ X.K Y) (he:@PD (cT Y A G) X e fe) (ho:PE X o (gX i)) (hb:attributeBase o Y.fK X.env (eval o X.env)=eval o X.env) (hk:@PD (cT Y A G) X k fk)
  (ha:∀v,assign (.Subscript (.Attribute o Y.fK po) k p) X.env v=(do
   let ov <-holding [v] (eval (.Attribute o Y.fK po) X.env)
   let iv <-holding [v,ov] (eval k X.env)
   standAt p
   holding [v,ov,iv] (setItem ov iv v)
   release [v,ov,iv] []))
  (hs:swapsWithSole [.Subscript (.Attribute o Y.fK po) k p] e pos.line X.env=pure false) (hw:swappedStores [.Subscript (.Attribute o Y.fK po) k p] e X.env=pure none) (h1:(assignEach [.Subscript (.Attribute o Y.fK po) k p] X.env).map (·.2)=[assign (.Subscript (.Attribute o Y.fK po) k p) X.env]):
  @PB (cT Y A G) X C0 H0 (.Assign [.Subscript (.Attribute o Y.fK po) k p] e pos) (ji (Y.Mf G) i fk fe):=λB=>by
 letI:=cT Y A G
 refine(Kz he (Ky (Bk ho hb) hk (DG (a:=A.a) (M:=Y.Mf G) hu) ha) hs hw h1).imp λDn σ H ⟨C,δ,r,gd,q,fin⟩=>?_
 unfold ji at q;split at q
 ·rename_i ks ds d hi Ly Jm;split at q
  ·rename_i hc;cases q;refine⟨C,δ,d,gd.x,Jm,λv C1 H1 e1 i1=>?_⟩
   have g1:=gd.DA e1;refine R4 Z g1.x hi ⟨C1,δ,.tup ds,g1.x,Ly,λkv C2 H2 e2 i2=>?_⟩
   have g2:=g1.DA e2;obtain⟨a',z1,z2,⟨xs,m⟩,_⟩:=g2.x.mem i ks hi;refine⟨C2,ds,d,xs,e2.s,rfl,i2,i1.mono e2.c,hc,m.m,λys m' oY m6=>fin σ C2 _ ?_⟩
   obtain⟨m2,ev⟩:=Ge e2.s m m' oY;exact(g2.DA ev).Ap hi ⟨ys,m2,m6⟩
  ·cases q
 ·cases q
end
def Km (Y:OC) (g:cc):Sp:=λvs H Q _=>∃C G ds d A ws,dM C H/\vs=.ref A.o::ws/\IsL C ws ds/\(∃xs,gA Y A G C H xs)/\g (G::ds)=some d/\∀v C' H',@Ev (cT Y A G) C H C' H'->Is C' v d->Q v H'
noncomputable def eO (i:Nat) (G:D) (g:cc) (f:bX):bZ:=λδ=>match δ[i]? with
 |some (.memo _)=>(f δ).bind λds=>g (G::ds)
 |_=>none
noncomputable def tX (g:cc) (fg:bZ) (fa:bX):bZ:=λδ=>(fg δ).bind λG=>(fa δ).bind λds=>g (G::ds)
section
variable {X:Cx}{Y:OC}{A:gz}{G:D}{C0 H0:Hp}{e o:cF}{es:List cF}{pos p po apos:Pos}{i k:Nat}{m x:Str}{f:cE}{fd:cz}{ps:List Str}{g:cc}{fa:bX}
theorem LG (Z:lQ X.K Y) (ho:PE X o (gX i)) (hm:Meth X.K Y.cl m f) (h1:m≠Y.fG) (h2:m≠Y.fK) (F:dY X.prog X.w X.K X.mg X.base gY k f fd ps (Km Y g)) (hr:fm k X.A) (hb:Binds X.K fd ps []) (ha:@Qe (cT Y A G) X (e::es) fa) (qh:cL e es X.env) (kf:(backTo pos (starEach es X.env)).any (·.1)=false) (ht:eval (.Call (.Attribute o m apos) (e::es) [] pos) X.env=(do
   let ov <-eval o X.env
   standAt apos.atName
   let (f,first) <-holding [ov] (getMethod ov m pl)
   callWith pos f first (backTo pos (starEach (e::es) X.env)) (backToKw pos (keywordEach [] X.env)))):@PD (cT Y A G) X (.Call (.Attribute o m apos) (e::es) [] pos) (eO i G g fa):=by
 letI:=cT Y A G
 refine(Hh ho Z.cl hm F hr hb .nil vP ha qh kf ht).imp λσ H Q ⟨C,δ,d,x,q,fin⟩=>?_
 unfold eO at q;split at q
 ·rename_i ks hi;cases hf:fa δ with
  |none=>rw[hf]at q;cases q
  |some ds=>
   rw[hf]at q;simp only[ao]at q;obtain⟨a',z1,z2,⟨xs,mm⟩,_⟩:=x.mem i ks hi;cases z1;obtain⟨fs,gv,g1,g2,g3,g4,g5⟩:=mm.h;refine⟨.ref A.o,z2,A.o,A.dx,fs,rfl,g1,g4 m h1 h2,C,δ,ds,x,hf,λvs C1 H1 e1 i1=>?_⟩
   obtain⟨_,_,_,ok,_⟩:=(x.ev e1).mem i ks hi;show Km Y g (V.ref A.o::(vs++[])) H1 Q E0;rw[bB];exact⟨C1,G,ds,d,A,vs,e1.s,rfl,i1,ok,q,λv C2 H2 e2 i2=>fin v C2 H2 (e1.trans e2) i2⟩
 ·cases q
end
def pP (n np:Nat) (fb:D->bY):cc
 |G::ds=>if ds.length+1=np/\0<np then(match fb G (startM n np 0 ds)with|some (.ret d)=>some d|some (.next _)=>some .eV|_=>none)else none
 |[]=>none
theorem R5 {P:cA}{w:cB}{K:W.Frag}{mg:cg}{base:Heap}{x qual:Str}{st:cI}{f:cE}{fd:cz}{N ps:List Str}{k:Nat}(Y:OC) (F:kU K x qual st f fd) (S:dt N ps (cP st)) {fb:D->bY}
  (fY:∀(A:gz) (G:D) (eN:cx) (Ar:cC) (outer:List Env) (s:cy) (H:Hp) (E:XK),fm k (Ar.deeper (envOfC qual (cP st) s.heap.objs.size f eN))->∀C0 H0,@Jk (cT Y A G) (pX gY P w K mg base N qual (cP st) f eN Ar outer s H E).Dc C0 H0 (eW st) (fb G)):
  dY P w K mg base gY (k+1) f fd ps (Km Y (pP N.length ps.length fb)):=by
 refine F.ok S (λvs H Q E h=>?_) (λeN Ar outer s H vs Q E hr h=>?_)
 all_goals
  obtain⟨C,G,ds,d,A,ws,sub,rfl,i,ok,q,fin⟩:=h;simp only[pP]at q;split at q
  case isFalse=>cases q
  rename_i hl
 ·rw[ay,i.length];exact hl.1
 ·letI:=cT Y A G
  exact⟨tS C C H (fb G),fY A G eN Ar outer s H E hr C H C,n4 (u0 (j:=0) S sub rfl i hl rfl ok) q fin⟩
def xN (Y:OC) (H:Hp) (x dx p:cE) (gv:V):Hp:=upd (upd (upd H x (.ins Y.cl dx (oO Y.fG gv []))) p (.ext (ja p []))) x (.ins Y.cl dx (oO Y.fK (.ref p) (oO Y.fG gv [])))
def LH (Y:OC):TS:=λDn σ H=>∃x dx gv,σ[0]? =some (some (.ref x))/\σ[1]? =some (some gv)/\H x=some (.ins Y.cl dx [])/\∀p,p≠x->H p=none->(p==sysModules)=false->Dn.nx σ (xN Y H x dx p gv)
def BU (Y:OC):Sp:=λvs H Q _=>∃x dx gv,vs=[.ref x,gv]/\H x=some (.ins Y.cl dx [])/\∀p,p≠x->H p=none->(p==sysModules)=false->Q .eV (xN Y H x dx p gv)
section
variable {X:Cx}{Y:OC}{e0 e1 e2:cF}{p1 p2 p3 p4 p5:Pos}
theorem LI (Z:lQ X.K Y) (h0:PE X e0 (gX 0)) (h1:PE X e1 (gX 1)) (h2:PE X e2 (gX 0))
  (s1:swapsWith e1 (some (.Attribute e0 Y.fG p1)) p2.line X.env=pure false) (s2:swapsWith (.Dict [] [] p4) (some (.Attribute e2 Y.fK p3)) p5.line X.env=pure false):
  zf X [.Assign [.Attribute e0 Y.fG p1] e1 p2,.Assign [.Attribute e2 Y.fK p3] (.Dict [] [] p4) p5] (LH Y):=λcM s σ H Dn I h=>by
 obtain⟨x,dx,gv,q0,q1,hx,fin⟩:=h;refine qg (KO h0 h1 s1) (He (KO h2 (HD (pos:=p4)) s2)) cM s σ H Dn I ?_;refine⟨gv,q1,.ref x,q0,x,Y.cl,dx,[],rfl,hx,Z.cl,Z.nG,by decide,?_⟩
 intro p hp hs;have jg:p≠x:=λz=>by subst z;rw[cY]at hp;cases hp
 refine⟨.ref x,q0,x,Y.cl,dx,_,rfl,by rw[cR (Ne.symm jg),cY],Z.cl,Z.nK,by show(1:Nat)<1000;decide,?_⟩
 exact fin p jg (by rw[cR jg]at hp;exact hp) hs
end
theorem OP {P:cA}{w:cB}{K:W.Frag}{mg:cg}{base:Heap}{x qual:Str}{st:cI}{f:cE}{fd:cz}{N:List Str}{p1 p2:Str}{k:Nat}(Y:OC) (F:kU K x qual st f fd) (S:dt N [p1,p2] (cP st)) (hN:N.length=2)
  (fY:∀(eN:cx) (Ar:cC) (outer:List Env) (s:cy) (H:Hp) (E:XK),zf (pX gY P w K mg base N qual (cP st) f eN Ar outer s H E).Dc (eW st) (LH Y)):
  dY P w K mg base gY (k+1) f fd [p1,p2] (BU Y):=by
 refine F.ok S (λvs H Q E h=>?_) (λeN Ar outer s H vs Q E hr h=>?_)
 ·obtain⟨x,dx,gv,rfl,_⟩:=h;rfl
 ·obtain⟨x,dx,gv,rfl,hx,fin⟩:=h;refine⟨LH Y,fY eN Ar outer s H E,x,dx,gv,?_,?_,hx,fin⟩<;>rfl
def HE (Y:OC) (fg:bZ):TE:=λσ H Q=>∃C δ G,@Sx Mem.keep δ σ C H/\fg δ=some G/\∀A C' H',l9 C H C' H'->H A.o=none->H A.a=none->gA Y A G C' H' []->Q (.ref A.o) H'
section
variable {X:Cx}{Y:OC}{A:gz}{G:D}{C0 H0:Hp}{e o:cF}{es:List cF}{pos p po apos:Pos}{i k:Nat}{m x:Str}{f:cE}{fd:cz}{ps:List Str}{g:cc}{fa:bX}{fg:bZ}{rest:List cI}
theorem OQ (Z:lQ X.K Y) (X8:Y.fK≠Y.fG) (M:Mk X.K Y.cl f) (F:dY X.prog X.w X.K X.mg X.base gY k f fd ps (BU Y)) (hr:fm (k+1) X.A) (hg:Gl X x) (hm:X.mg x=some (.ref Y.cl)) (hb:Binds X.K fd ps [])
  (ha:@PD Mem.keep X e fg) (rV:(x==("__debug__":Str))=false:=by decide) (he:cL e [] X.env:=by exact fH rfl) (kf:(backTo pos (starEach [] X.env)).any (·.1)=false:=by exact gh rfl):
  PE X (.Call (.Name x p) [e] [] pos) (HE Y fg):=by
 letI:=Mem.keep
 refine(N0 M F hr hg hm hb .nil vP (nh ha uJ he) rV he kf).imp λσ H Q ⟨C,δ,G,sx,q,fin⟩=>?_
 refine⟨C,δ,G,sx,q,λv C1 H1 e1 i1=>?_⟩
 intro x dx hx Qn jg;refine⟨x,dx,v,rfl,cY,λp hp WJ E4=>⟨rfl,?_⟩⟩
 have e1:=e1.r0;have hpd:p≠dx:=λz=>by
  subst z;rw[cR hp,cY]at WJ;cases WJ
 have NG:H1 p=none:=by rw[cR hp,cR hpd]at WJ;exact WJ
 have hH:∀b,b≠x->b≠p->b≠dx->xN Y (upd (upd H1 dx (.own x)) x (.ins Y.cl dx [])) x dx p v b=H1 b:=λb n1 n2 n3=>by
  unfold xN;rw[cR n1,cR n2,cR n1,cR n1,cR n3]
 have ev:l9 C1 H1 C1 (xN Y (upd (upd H1 dx (.own x)) x (.ins Y.cl dx [])) x dx p v):=by
  refine⟨dM.refl _,λb u q=>?_,λb u q=>?_,λb u q=>.inl q⟩
  ·rw[hH b (cX q hx) (cX q NG) (cX q Qn)];exact q
  ·have q':=e1.s b u q;rw[hH b (cX q' hx) (cX q' NG) (cX q' Qn)];exact q'
 refine fin ⟨x,dx,p⟩ C1 _ (e1.trans ev) (e1.h.free hx) (e1.h.free NG) ⟨⟨_,v,cY,?_,?_,λm h1 h2=>?_,i1⟩,e1.s.free hx,xJ (e1.s.free NG) E4 ?_⟩
 ·rw[ir,if_neg (Ne.symm X8),ir,if_pos rfl]
 ·rw[ir,if_pos rfl]
 ·rw[ir,if_neg h2,ir,if_neg h1];rfl
 ·show xN Y _ x dx p v p=_;unfold xN;rw[cR hp,cY]
theorem BV (e1:l9 C H C1 H1) (hn:H A.a=none) (e2:@Ev (cT Y A G) C1 H1 C2 H2):l9 C H C2 H2:=by
 letI:=cT Y A G
 refine⟨e1.c.trans e2.c,λb o q=>?_,e2.s,λb u q=>?_⟩
 ·have hb:b≠A.a:=λz=>by subst z;rw[hn]at q;cases q
  exact e2.h b o (e1.h b o q) (.inl λz=>hb (aS z).symm)
 ·rcases e2.n b u q with z|z
  ·exact e1.n b u z
  ·exact .inr (e1.h.free z)
theorem Gf (Z:lQ X.K Y) (ho:PE X o (HE Y fg)) (hm:Meth X.K Y.cl m f) (h1:m≠Y.fG) (h2:m≠Y.fK) (F:dY X.prog X.w X.K X.mg X.base gY k f fd ps (Km Y g)) (hr:fm k X.A) (hb:Binds X.K fd ps []) (ha:@Qe Mem.keep X (e::es) fa) (qh:cL e es X.env) (kf:(backTo pos (starEach es X.env)).any (·.1)=false) (ht:eval (.Call (.Attribute o m apos) (e::es) [] pos) X.env=(do
   let ov <-eval o X.env
   standAt apos.atName
   let (f,first) <-holding [ov] (getMethod ov m pl)
   callWith pos f first (backTo pos (starEach (e::es) X.env)) (backToKw pos (keywordEach [] X.env)))):@PD Mem.keep X (.Call (.Attribute o m apos) (e::es) [] pos) (tX g fg fa):=by
 letI:=Mem.keep
 refine(Hh ho Z.cl hm F hr hb .nil vP ha qh kf ht).imp λσ H Q ⟨C,δ,d,x,q,fin⟩=>?_
 unfold tX at q;cases hG:fg δ with
 |none=>rw[hG]at q;cases q
 |some G=>
  cases hf:fa δ with
  |none=>rw[hG,hf]at q;cases q
  |some ds=>
   rw[hG,hf]at q;simp only[ao]at q;refine⟨C,δ,G,x,hG,λA C1 H1 e1 n1 n2 mm=>?_⟩
   obtain⟨fs,gv,g1,g2,g3,g4,g5⟩:=mm.h;refine⟨A.o,A.dx,fs,rfl,g1,g4 m h1 h2,C1,δ,ds,x.ev e1.up,hf,λvs C2 H2 e2 i2=>?_⟩
   show Km Y g (V.ref A.o::(vs++[])) H2 Q E0;rw[bB];have X9:=e2.r0;exact⟨C2,G,ds,d,A,vs,X9.s,rfl,i2,⟨[],mm.RY X9⟩,q,λv C3 H3 e3 i3=>fin v C3 H3 (BV (e1.trans X9) n2 e3).up i3⟩
def nr (i:Nat) (fg:bZ) (fr:D->bY):bY:=λδ=>
 if noOwn δ=true/\i<δ.length then(fg δ).bind λG=>(fr G (δ.set i (.memo []))).bind (u3 i)else none
theorem BW (g:@Gd Mem.keep B C0 H0 δ σ C H) (e0:l9 C H C1 H1) (hn:H A.a=none) (g2:@Gd (cT Y A G) B C1 H1 δ' σ' C2 H2) (hm:nL (δ'.set i .no)=true):@Gd Mem.keep B C0 H0 (δ'.set i .no) σ' C2 H2:=by
 have e1:l9 C0 H0 C H:=(@Gd.ev Mem.keep _ _ _ _ _ _ _ g).r0;have e2:l9 C0 H0 C2 H2:=BV (e1.trans e0) (e1.h.free hn) (@Gd.ev (cT Y A G) _ _ _ _ _ _ _ g2);have x2:=@Gd.x (cT Y A G) _ _ _ _ _ _ _ g2;have own:∀{k:Nat}{ds:cu},(δ'.set i Sl.no)[k]? =some (.own ds)->δ'[k]? =some (.own ds):=λ{k ds} q=>by
  rcases getElem?_set_cases q with⟨_,z⟩|⟨_,z⟩
  ·cases z
  ·exact z
 letI:=Mem.keep
 refine⟨@Gd.b (cT Y A G) _ _ _ _ _ _ _ g2,e2.up,⟨e2.s,λk d q=>?_,λk ds q=>@Sx.own (cT Y A G) _ _ _ _ x2 k ds (own q),λk l ds es b q1 q2=>@Sx.zo (cT Y A G) _ _ _ _ x2 k l ds es b (own q1) (own q2),by rw[List.length_set];exact @Sx.len (cT Y A G) _ _ _ _ x2,λk ks q=>(rA hm q).elim⟩,λk ds b q1 q2=>?_⟩
 ·rcases getElem?_set_cases q with⟨_,z⟩|⟨_,z⟩
  ·cases z
  ·exact @Sx.dat (cT Y A G) _ _ _ _ x2 k d z
 ·exact(e1.trans e0).h.free (@Gd.fr (cT Y A G) _ _ _ _ _ _ _ g2 k ds b (own q1) q2)
theorem Gg (i:Nat) {y:Str}{py:Pos}{fr:D->bY}(hN:X.N.Nodup) (ho:PE X o (HE Y fg))
  (hr:∀(A:gz) (G:D) (C1 H1:Hp),@Jk (cT Y A G) X C1 H1 rest (fr G)) (hi:X.N[i]? =some y) (hx:Loc X.env.scope y) (hs:swapsWith o (some (.Name y py)) pos.line X.env=pure false) (hf:X.fn y=true\/X.env.scope.names.lookup y=some .local):
  @Jk Mem.keep X C0 H0 (.Assign [.Name y py] o pos::rest) (nr i fg fr):=λB=>by
 have ex:zf X rest (λDn σ H=>∃(A:gz) (G:D) (C1 H1:Hp),@tS (cT Y A G) B C1 H1 (fr G) Dn σ H):=λcM s σ H Dn I ⟨A,G,C1,H1,q⟩=>hr A G C1 H1 B cM s σ H Dn I q
 refine(qg (w6 hN hi hx ho hs hf) ex).imp λDn σ H ⟨C,δ,r,gd,q,fin⟩=>?_
 unfold nr at q;split at q
 case isFalse=>cases q
 rename_i hc;obtain⟨u4,hlen⟩:=hc;cases hM:fg δ with
 |none=>rw[hM]at q;cases q
 |some G=>
  rw[hM]at q;simp only[ao]at q;cases Dv:fr G (δ.set i (.memo []))with
  |none=>rw[Dv]at q;cases q
  |some r'=>
   rw[Dv]at q;simp only[ao]at q;have x0:=@Gd.x Mem.keep _ _ _ _ _ _ _ gd;refine⟨C,δ,G,x0,hM,λA C1 H1 e0 n1 n2 mm=>?_⟩
   have e1:l9 C0 H0 C H:=(@Gd.ev Mem.keep _ _ _ _ _ _ _ gd).r0;have g1:@Gd (cT Y A G) B C1 H1 (δ.set i (.memo [])) (σ.set i (some (.ref A.o))) C1 H1:=by
    letI:=cT Y A G
    have hl:=@Sx.len Mem.keep _ _ _ _ x0;refine⟨(@Gd.b Mem.keep _ _ _ _ _ _ _ gd).trans e0.c,.refl e0.s,⟨e0.s,λk d z=>?_,λk ds z=>?_,λk l ds es b z=>?_,by simp[hl],λk ks z=>?_⟩,λk ds b z=>?_⟩
    ·rcases getElem?_set_cases z with⟨_,z⟩|⟨hk,z⟩
     ·cases z
     ·obtain⟨v,h1,h2⟩:=@Sx.dat Mem.keep _ _ _ _ x0 k d z;exact⟨v,by rw[aG (Ne.symm hk)];exact h1,h2.mono e0.c⟩
    ·rcases getElem?_set_cases z with⟨_,z⟩|⟨hk,z⟩
     ·cases z
     ·exact(jN u4 z).elim
    ·rcases getElem?_set_cases z with⟨_,z⟩|⟨hk,z⟩
     ·cases z
     ·exact(jN u4 z).elim
    ·rcases getElem?_set_cases z with⟨rfl,z'⟩|⟨hk,z⟩
     ·cases z';exact⟨A.o,rfl,by rw[bc (by rw[<-hl];exact hlen)],⟨[],mm⟩,λk hk=>by cases hk⟩
     ·obtain⟨b,h1,_⟩:=@Sx.mem Mem.keep _ _ _ _ x0 k ks z;cases h1
    ·rcases getElem?_set_cases z with⟨_,z⟩|⟨hk,z⟩
     ·cases z
     ·exact(jN u4 z).elim
   refine⟨A,G,C1,H1,C1,_,r',g1,Dv,?_⟩;cases r' with
   |next δ'=>
    simp only[u3]at q;split at q
    ·rename_i hm;cases q;exact λσ' C2 H2 g2=>fin σ' C2 H2 (BW gd e0 n2 g2 hm)
    ·cases q
   |ret d=>
    cases q;exact λv C2 H2 ev iv=>fin v C2 H2 (@l9.up _ _ _ _ Mem.keep (BV (e1.trans e0) (e1.h.free n2) ev)) iv
   |brk δ'=>
    simp only[u3]at q;split at q
    ·rename_i hm;cases q;exact λσ' C2 H2 g2=>fin σ' C2 H2 (BW gd e0 n2 g2 hm)
    ·cases q
   |cont δ'=>
    simp only[u3]at q;split at q
    ·rename_i hm;cases q;exact λσ' C2 H2 g2=>fin σ' C2 H2 (BW gd e0 n2 g2 hm)
    ·cases q
end
def lA (P:cA) (w:cB) (K:W.Frag) (mg:cg) (base:Heap) (k:Nat) (Y:OC) (m:Str) (g:cc):Prop:=
 ∃f fd ps,dY P w K mg base gY k f fd ps (Km Y g)/\Meth K Y.cl m f/\Binds K fd ps []/\m≠Y.fG/\m≠Y.fK
theorem lA.mono {P:cA}{w:cB}{K:W.Frag}{mg:cg}{base:Heap}{k l:Nat}{Y:OC}{m:Str}{g:cc}(c:lA P w K mg base k Y m g) (h:k<=l:=by omega):lA P w K mg base l Y m g:=
 let ⟨f,fd,ps,F,r⟩:=c;⟨f,fd,ps,F.mono h,r⟩
def qv (P:cA) (w:cB) (K:W.Frag) (mg:cg) (base:Heap) (k:Nat) (Y:OC) (x:Str):Prop:=
 ∃f fd ps,dY P w K mg base gY k f fd ps (BU Y)/\Mk K Y.cl f/\mg x=some (.ref Y.cl)/\Binds K fd ps []/\Y.fK≠Y.fG
theorem qv.mono {P:cA}{w:cB}{K:W.Frag}{mg:cg}{base:Heap}{k l:Nat}{Y:OC}{x:Str}(c:qv P w K mg base k Y x) (h:k<=l:=by omega):qv P w K mg base l Y x:=
 let ⟨f,fd,ps,F,r⟩:=c;⟨f,fd,ps,F.mono h,r⟩
theorem DP {P:cA}{w:cB}{K:W.Frag}{mg:cg}{base:Heap}{k:Nat}{f:cE}{fd:cz}{ps:List Str}{Y:OC}:dY P w K mg base gY k f fd ps (Km Y λ_=>none):=
 ⟨(λvs H Q E ⟨_,_,_,_,_,_,_,_,_,_,q,_⟩=>by cases q),λA outer s H args us vs Q E _ _ _ _ ⟨_,_,_,_,_,_,_,_,_,_,q,_⟩=>by cases q⟩
structure R6 (X:Cx) (Y:OC) (e:cF) (f:bZ):Prop where
 go:PE X e (HE Y f)
section
variable {X:Cx}{Y:OC}{A:gz}{G:D}{C0 H0:Hp}{e k o:cF}{es:List cF}{body rest:List cI}{pos pos' p p2 po apos:Pos}{i l:Nat}{m x:Str}{g:cc}{fa:bX}{fg:bZ}
theorem wM (Z:lQ X.K Y) (ho:PE X o (gX i)) (hb:attributeBase o Y.fG X.env (eval o X.env)=eval o X.env:=by rfl):@WD (cT Y A G) X (.Attribute o Y.fG po) (oj G i):=by
 letI:=cT Y A G
 exact⟨OO Z ho hb⟩
theorem LJ (fs:List Nat) (hu:X.A.units+64<cLine) (Z:lQ X.K Y) (hk:@WD (cT Y A G) X k fk) (ho:PE X o (gX i)) (X7:@qb (cT Y A G) X C0 H0 body fb) (hb:attributeBase o Y.fK X.env (eval o X.env)=eval o X.env:=by rfl) (hm:behindInMarks .NotIn (.Attribute o Y.fK po)=false:=by first|exact xb _|rfl):@WB (cT Y A G) X C0 H0 (.If (.Compare k [.NotIn] [.Attribute o Y.fK po] pos) body [] pos') (kW i fs fk fb):=by
 letI:=cT Y A G
 exact⟨LF fs hu Z hk.go ho hb X7.go hm⟩
theorem Jz (hu:X.A.units+64<cLine) (Z:lQ X.K Y) (ho:PE X o (gX i)) (hk:@WD (cT Y A G) X k fk) (hs:oQ k) (hb:attributeBase o Y.fK X.env (eval o X.env)=eval o X.env:=by rfl):@WD (cT Y A G) X (.Subscript (.Attribute o Y.fK po) k pos) (jL (Y.Mf G) i fk):=by
 letI:=cT Y A G
 exact⟨Jx hu Z ho hb hk.go hs⟩
theorem JA (hu:X.A.units+64<cLine) (Z:lQ X.K Y) (he:@WD (cT Y A G) X e fe) (ho:PE X o (gX i)) (hk:@WD (cT Y A G) X k fk) (hb:attributeBase o Y.fK X.env (eval o X.env)=eval o X.env:=by rfl) (ha:∀v,assign (.Subscript (.Attribute o Y.fK po) k p) X.env v=(do
   let ov <-holding [v] (eval (.Attribute o Y.fK po) X.env)
   let iv <-holding [v,ov] (eval k X.env)
   standAt p
   holding [v,ov,iv] (setItem ov iv v)
   release [v,ov,iv] []):=by intro _;rfl) (hs:swapsWithSole [.Subscript (.Attribute o Y.fK po) k p] e pos.line X.env=pure false:=by rfl) (hw:swappedStores [.Subscript (.Attribute o Y.fK po) k p] e X.env=pure none:=by rfl) (h1:(assignEach [.Subscript (.Attribute o Y.fK po) k p] X.env).map (·.2)=[assign (.Subscript (.Attribute o Y.fK po) k p) X.env]:=by rfl):@WB (cT Y A G) X C0 H0 (.Assign [.Subscript (.Attribute o Y.fK po) k p] e pos) (ji (Y.Mf G) i fk fe):=by
 letI:=cT Y A G
 exact⟨Jy hu Z he.go ho hb hk.go ha hs hw h1⟩
theorem oq (Z:lQ X.K Y) (c:lA X.prog X.w X.K X.mg X.base l Y m g) (hr:fm l X.A) (ho:PE X o (gX i)) (ha:@HA (cT Y A G) X (e::es) fa) (qh:cL e es X.env:=by exact fH rfl) (kf:(backTo pos (starEach es X.env)).any (·.1)=false:=by exact gh rfl) (ht:eval (.Call (.Attribute o m apos) (e::es) [] pos) X.env=(do
   let ov <-eval o X.env
   standAt apos.atName
   let (f,first) <-holding [ov] (getMethod ov m pl)
   callWith pos f first (backTo pos (starEach (e::es) X.env)) (backToKw pos (keywordEach [] X.env))):=by rfl):@WD (cT Y A G) X (.Call (.Attribute o m apos) (e::es) [] pos) (eO i G g fa):=by
 obtain⟨f,fd,ps,F,hm,hb,h1,h2⟩:=c;letI:=cT Y A G
 exact⟨LG Z ho hm h1 h2 F hr hb ha.go qh kf ht⟩
theorem R7 (Z:lQ X.K Y) (c:qv X.prog X.w X.K X.mg X.base l Y x) (hr:fm (l+1) X.A) (hg:Gl X x) (ha:@WD Mem.keep X e fg) (rV:(x==("__debug__":Str))=false:=by decide) (he:cL e [] X.env:=by exact fH rfl) (kf:(backTo pos (starEach [] X.env)).any (·.1)=false:=by exact gh rfl):
  R6 X Y (.Call (.Name x p) [e] [] pos) fg:=by
 obtain⟨f,fd,ps,F,M,hm,hb,X8⟩:=c;exact⟨OQ Z X8 M F hr hg hm hb (@WD.go Mem.keep _ _ _ ha) rV he kf⟩
theorem Gh (Z:lQ X.K Y) (c:lA X.prog X.w X.K X.mg X.base l Y m g) (hr:fm l X.A) (ho:R6 X Y o fg) (ha:@HA Mem.keep X (e::es) fa) (qh:cL e es X.env:=by exact fH rfl) (kf:(backTo pos (starEach es X.env)).any (·.1)=false:=by exact gh rfl) (ht:eval (.Call (.Attribute o m apos) (e::es) [] pos) X.env=(do
   let ov <-eval o X.env
   standAt apos.atName
   let (f,first) <-holding [ov] (getMethod ov m pl)
   callWith pos f first (backTo pos (starEach (e::es) X.env)) (backToKw pos (keywordEach [] X.env))):=by rfl):@WD Mem.keep X (.Call (.Attribute o m apos) (e::es) [] pos) (tX g fg fa):=by
 obtain⟨f,fd,ps,F,hm,hb,h1,h2⟩:=c;exact @WD.mk Mem.keep _ _ _ (Gf Z ho.go hm h1 h2 F hr hb (@HA.go Mem.keep _ _ _ ha) qh kf ht)
theorem xO (i:Nat) (hN:X.N.Nodup) (ho:R6 X Y o fg) (hr:∀(A:gz) (G:D) (C1 H1:Hp),@qb (cT Y A G) X C1 H1 rest (fr G)) (hi:X.N[i]? =some y:=by rfl) (hx:Loc X.env.scope y:=by first|exact Or.inl rfl|exact Or.inr rfl) (hs:swapsWith o (some (.Name y py)) pos.line X.env=pure false:=by rfl) (hf:X.fn y=true\/X.env.scope.names.lookup y=some .local:=by first|exact .inl rfl|exact .inr rfl):@qb Mem.keep X C0 H0 (.Assign [.Name y py] o pos::rest) (nr i fg fr):=
 @qb.mk Mem.keep _ _ _ _ _ (Gg i hN ho.go (λA G C1 H1=>@qb.go (cT Y A G) _ _ _ _ _ (hr A G C1 H1)) hi hx hs hf)
end
theorem wN {P:cA}{w:cB}{K:W.Frag}{mg:cg}{base:Heap}{x qual:Str}{st:cI}{f:cE}{fd:cz}{N ps:List Str}{k:Nat}(Y:OC) (F:kU K x qual st f fd) (S:dt N ps (cP st)) {fb:D->bY}
  (fY:∀(A:gz) (G:D) (eN:cx) (Ar:cC) (outer:List Env) (s:cy) (H:Hp) (E:XK),fm k (Ar.deeper (envOfC qual (cP st) s.heap.objs.size f eN))->∀C0 H0,@qb (cT Y A G) (pX gY P w K mg base N qual (cP st) f eN Ar outer s H E).Dc C0 H0 (eW st) (fb G)):
  dY P w K mg base gY (k+1) f fd ps (Km Y (pP N.length ps.length fb)):=R5 Y F S λA G eN Ar outer s H E hr C0 H0=>@qb.go (cT Y A G) _ _ _ _ _ (fY A G eN Ar outer s H E hr C0 H0)
section
variable {K:W.Frag}{Ce Cf Cn ea:cE}{oe:Obj}
end
section
variable {P:cA}{w:cB}{K:W.Frag}{mg:cg}{base:Heap}{N:List Str}{qual:Str}{scope:Scope}{f:cE}{cd:cx}{A:cC}{outer:List Env}{s0:cy}{H0:Hp}{E:XK}{Ce:cE}
end
section
variable {X:Cx}{k:Nat}
end
section
variable {X:Cx}{k:Nat}
end
section
variable [Mem] {X:Cx}{E:XK}{Ce:cE}{C0 H0:Hp}{st:cI}{body rest:List cI}{c:cF}{pos:Pos}
end
section
variable [Mem] {X:Cx}{E:XK}{Ce Cf Cn:cE}{C0 H0:Hp}{k:Nat}
end
section
variable {X:Cx}{ea:cE}{oe:Obj}{cM:cj}{σ:L2.St}{H:Hp}{s:cy}
end
section
variable [Mem] {X:Cx}{ea Ce Cf Cn:cE}{oe:Obj}{n c:Str}{p p1 p2 pos:Pos}{j:Nat}{b:Bool}
end
section
variable [Mem] {X:Cx}{k:Nat}{f Ce Cf Cn:cE}{fd:cz}{ps:List Str}{g:cu->Option (Option D)}{fa:bX}{x:Str}{p pos:Pos}{e:cF}{es:List cF}
end
section
variable [Mem] {X:Cx}{C0 H0:Hp}{k:Nat}{Ce Cf Cn:cE}{g:cu->Option (Option D)}{fa:bX}{x n c y:Str}{p p2 hV abH OR Uu py:Pos}{e:cF}{es:List cF}{b0:cI}{ZJ:List cI}{c0:D}{vc:V}
end
end DL
namespace HT
open PySem PySem.Spec PyProof.Rows
section
variable {prog:cA}{w:cB}{A:cC}{E:cf}{s:cy}
end
end HT
namespace DL
open PySem PySem.Spec PyProof.Rows L2
section
variable [Mem] {X:Cx}{e:cF}{pos p0 p1 p2:Pos}{k0:Nat}{f:bZ}
end
section
variable [Mem] {X:Cx}
end
section
variable {X:Cx}
end
section
variable {X:Cx}
end
section
variable [Mem] {X:Cx}{e o:cF}{f:bZ}{x:Str}{xs:List Str}{p p2 pos apos:Pos}
end
noncomputable def iS (f:bZ):bX:=λδ=>match f δ with
 |some (.lst ds)=>some ds
 |some (.tup ds)=>some ds
 |_=>none
noncomputable def Vr:cn->Int
 |[]=>0
 |a::r=>if r.isEmpty then a else(if a<Vr r then Vr r else a)
noncomputable def je:cn->Int
 |[]=>0
 |a::r=>if r.isEmpty then a else(if je r<a then je r else a)
def xP:cc
 |[.lst ds]=>(intsOf ds).bind λns=>if ns.isEmpty then none else some (.int (je ns))
 |_=>none
theorem tY:∀(l:cn),l≠[]->je l∈l/\∀x∈l,je l<=x
 |[],h=>absurd rfl h
 |[a],_=>by simp[je]
 |a::b::r,_=>by
  obtain⟨h1,h2⟩:=tY (b::r) (by simp)
  have e:je (a::b::r)=(if je (b::r)<a then je (b::r)else a):=by rw[je];simp
  rw[e];refine⟨?_,λx hx=>?_⟩
  ·by_cases h:je (b::r)<a
   ·rw[if_pos h];exact ai _ h1
   ·rw[if_neg h];exact af
  ·rcases List.mem_cons.mp hx with rfl|q
   ·split<;>omega
   ·have:=h2 x q;split<;>omega
theorem xQ:∀{ns:cn}{dD:cw},Vals (ns.map V.int) dD->∃xs:Array (Int×Tok),dD.toArray=intItems xs/\xs.toList.map (·.1)=ns
 |[],_,.nil=>⟨#[],by simp[intItems],rfl⟩
 |n::ns,_,.cons r t=>by
  obtain⟨tk,rfl⟩:=r;obtain⟨xs,e1,e2⟩:=xQ t;refine⟨((n,tk)::xs.toList).toArray,?_,by simpa using e2⟩
  have:intItems xs=(xs.toList.map λp=>Value.int p.1 p.2).toArray:=by cases xs;simp[intItems]
  rw[this]at e1;have e3:=congrArg Array.toList e1;simp only[]at e3;simp[intItems,e3]
section
variable {X:Cx}
theorem zA (hc:X.calm=true):i8 X (.builtin "min") (λxs H Q=>∃(p:cE) (ns:cn),xs=[.ref p]/\pZ X.K H p (ns.map V.int)/\ns≠[]/\Q (.int (je ns)) H):=by
 intro cM s σ H xs us Q I r h;obtain⟨p,ns,rfl,hq,jg,q⟩:=h;obtain⟨u,rfl,r1⟩:=vals1 r;cases r1;obtain⟨dD,rv,pl,hz⟩:=I.list hq;obtain⟨ys,e1,e2⟩:=xQ rv;have hl:=pl.isList;rw[e1]at hl;have hsz:0<ys.size:=by
  have:(ys.toList.map (·.1)).length=ns.length:=by rw[e2]
  rw[ae,aN]at this;cases ns with
  |nil=>exact absurd rfl jg
  |cons a r=>rw[ay]at this;omega
 refine min_intList (I.ok.hd hc) hl hsz λv h' tk hv k=>⟨_,H,I.kept k,?_,q⟩
 obtain⟨t,rfl⟩:=intItems_at hv;obtain⟨h1,h2⟩:=argBest_lt (numAt ys) (ys.size-1);generalize argBest (λi j=>decide (numAt ys i<numAt ys j)) (ys.size-1)=j at *
 have hn:numAt ys j∈ns:=by
  rw[numAt_eq,e2,ak];have hj:j<ns.length:=by rw[<-e2,ae,aN];omega
  rw[ah hj];exact List.getElem_mem hj
 obtain⟨m1,m2⟩:=tY ns jg;have le1:=m2 _ hn;have XZ:numAt ys j<=je ns:=by
  obtain⟨i,hi,e⟩:=List.getElem_of_mem m1;have xv:i<ys.size:=by rw[<-e2,ae,aN]at hi;exact hi
  have:=h2 i (by omega)
  rw[numAt_eq ys i,e2,ak,ah hi]at this;simp only[Option.getD_some]at this;rw[e]at this;exact this
 exact⟨t,by rw[show numAt ys j=je ns by omega]⟩
end
section
variable [Mem] {X:Cx}{e o tg a b:cF}{f g:bZ}{pos apos:Pos}
theorem LK (hc:X.calm=true):vR X (.builtin "min") xP:=by
 refine⟨_,zA hc,?_⟩;intro C H vs ds d Q s i q k;unfold xP at q;split at q
 ·rename_i es;cases hb:intsOf es with
  |none=>rw[hb]at q;cases q
  |some ns=>
   rw[hb]at q;simp only[ao]at q;split at q
   ·cases q
   ·rename_i jg;cases q;obtain⟨v,rfl,j⟩:=i.one;obtain⟨p,xs,rfl,hq,l⟩:=j.list (K:=X.K) s;rw[hJ hb]at l;cases l.l8;exact⟨p,ns,rfl,hq,λz=>jg (by rw[z];rfl),k _ C H (.refl s) (.int _)⟩
 ·cases q
theorem HG (h:WD X e f):wK X tg e (iS f):=⟨λcM s σ H Q I ⟨C,δ,ds,x,q,k⟩=>by
 unfold iS at q;split at q
 ·rename_i es hf;exact DB h.go cM s σ H Q I ⟨C,δ,ds,x,by unfold iL;rw[hf];exact q,k⟩
 ·rename_i es hf;exact Hs h.go cM s σ H Q I ⟨C,δ,ds,x,by unfold iT;rw[hf];exact q,k⟩
 ·cases q⟩
end
end DL
namespace LW
open PySem DL
open L2 (mq Ac)
def tZ:bY:=
  (eM (du BB (du BB (du zp (dk 0) (dC (.int 48271))) (dk 1)) (dk 2)))
def qw:bY:=
  tZ
def dX:cc:=iA 3 3 qw
def mH:bY:=
  (j8 4 (du jt (dk 1) (cN dX (aO (cO 0) (aO (dC (.int 9973)) (aO (du jt (du sI (dk 2) (dk 1)) (dC (.int 1))) aY))))))
def mJ:bY:=
  (j9 5 (zr aY))
def mK:bY:=
  (j8 7 (du jt (dC (.int 1)) (cN dX (aO (du jt (dk 0) (du zp (dC (.int 7)) (dk 6))) (aO (dC (.int 9949)) (aO (cN Hv (aO (dC (.int 4)) (aO (dk 4) aY))) aY))))))
def iD:bY:=
  (j8 7 (dC (.int 2)))
def gG:bY:=
  (oR (pY (qB (du Om (du BB (dk 0) (dC (.int 3))) (dC (.int 0)))) (pY (qB (du lN (dk 7) (dC (.int 1)))) (qB (du Om (dk 4) (dC (.int 1)))))) iD jH)
def mL:bY:=
  (j9 8 (uQ (aO (cO 4) aY)))
def mM:bY:=
  (DF 9 10 8 (uQ (aO (cO 7) aY)) (cN dX (aO (du jt (du jt (dk 0) (du zp (dC (.int 11)) (dk 6))) (du zp (dC (.int 3)) (dk 10))) (aO (dC (.int 9941)) (aO (du sI (dk 4) (dk 10)) aY)))))
def mN:bY:=
  (zt 5 (cN my (aO (dL (iz jI (aO (dk 9) aY))) aY)))
def iE:bY:=
  (oR (qB (du BE (cN my (aO (dL (iz jI (aO (dk 9) aY))) aY)) (dk 5))) mN jH)
def gZ:bY:=
  (eI mK
   (eI gG
   (eI mL
   (eI mM
   (r6 9 iE)))))
def lR:bY:=
  (oT 6 (uQ (aO (cN dX (aO (cO 0) (aO (dC (.int 9967)) (aO (du jt (dk 3) (dC (.int 1))) aY)))) aY)) gZ)
def lS:bY:=
  (eM (eT (aO (cO 4) (aO (cN my (aO (dL (iz jI (aO (dk 5) aY))) aY)) aY))))
def kX:bY:=
  (eI mH
  (eI mJ
  (eI lR
  lS)))
def eY:cc:=iA 11 4 kX
def nM:bY:=
  (j8 4 (cN eY (aO (cO 0) (aO (cO 1) (aO (cO 2) (aO (cO 3) aY))))))
def sf:bY:=
  (eM (eT (aO (cO 4) (aO (cN dX (aO (cO 0) (aO (dC (.int 9931)) (aO (dC (.int 2)) aY)))) (aO (du jt (dC (.int 1)) (du Ol (cN dX (aO (cO 0) (aO (dC (.int 9929)) (aO (dC (.int 5)) aY)))) (dC (.int 3)))) (aO (du jt (dC (.int 1)) (du Ol (cN dX (aO (cO 0) (aO (dC (.int 9923)) (aO (dC (.int 5)) aY)))) (dC (.int 3)))) aY))))))
def mf:bY:=
  (eI nM
  sf)
def fT:cc:=iA 5 4 mf
noncomputable def mh (c p m:Int):Int:=c*48271%p%m
theorem oZ (hm:0<m):0<=mh c p m:=Int.emod_nonneg _ (by omega)
theorem o3 (hm:0<m):mh c p m<m:=Int.emod_lt_of_pos _ hm
theorem xR (hp:0<p) (hm:0<m):dX [.int c,.int p,.int m]=some (.int (mh c p m)):=by
 simp[dX,qw,tZ,iA,eM,du,dk,dC,zp,BB,FE,Li,FF,hp,hm,mh]
theorem DQ (P:Nat->fE->Prop):∀(ds:cu) (n:Nat) (δ:fE),P n δ->
  (∀i δ d,ds[i]? =some d->P (n+i) δ->∃δ',f (δ.set j (.dat d))=some (.next δ')/\P (n+i+1) δ')->∃δ',iV j f ds δ=some (.next δ')/\P (n+ds.length) δ'
 |[],n,δ,h0,_=>⟨δ,rfl,h0⟩
 |d::ds,n,δ,h0,st=>by
  obtain⟨δ1,e1,h1⟩:=st 0 δ d rfl h0;obtain⟨δ2,e2,h2⟩:=DQ P ds (n+1) δ1 h1 (λi δ d hd hp=>by
   have:=st (i+1) δ d (by simpa using hd) (by rw[show n+(i+1)=n+1+i by omega];exact hp)
   rw[show n+(i+1)+1=n+1+i+1 by omega]at this
   exact this)
  refine⟨δ2,?_,by rw[show n+(d::ds).length=n+1+ds.length by simp;omega];exact h2⟩
  unfold iV;rw[e1];exact e2
theorem sM {α:Type}:∀(ls:List α) (i:Nat) (h:i<ls.length),(ls[i]::ls.eraseIdx i).Perm ls
 |a::l,0,_=>List.Perm.refl _
 |a::l,i+1,h=>by
  simp only[List.getElem_cons_succ,List.eraseIdx_cons_succ];exact(List.Perm.swap _ _ _).trans (List.Perm.cons _ (sM l i (by simpa using h)))
theorem HH {j m:Nat}{f:bZ}{δ:fE}:∀(ds ls:cu),ds.length<=ls.length->
  (∀k d lc,ds[k]? =some d->lc.length+k=ls.length->∃i:Int,f ((δ.set m (.own lc)).set j (.dat d))=some (.int i)/\0<=i/\i<lc.length)->
  ∃xs rest,BK j m f δ ls ds=some (xs,rest)/\(xs++rest).Perm ls/\xs.length=ds.length
 |[],ls,_,_=>⟨[],ls,rfl,List.Perm.refl _,rfl⟩
 |d::ds,ls,hl,h=>by
  obtain⟨i,e,h0,h1⟩:=h 0 d ls rfl rfl;have hi:i.toNat<ls.length:=by omega
  have le:(ls.eraseIdx i.toNat).length=ls.length-1:=List.length_eraseIdx_of_lt hi;obtain⟨xs,rest,e2,p,l⟩:=HH ds (ls.eraseIdx i.toNat) (by simp at hl;omega) (λk d lc hd hk=>h (k+1) d lc (by simpa using hd) (by omega))
  refine⟨ls[i.toNat]::xs,rest,?_,?_,by simp[l]⟩
  ·unfold BK;rw[e];simp only[if_pos h0,ah hi,e2,bA]
  ·rw[List.cons_append];refine(List.Perm.cons _ p).trans ?_;exact sM _ _ hi
theorem f6:∀(n:Nat) (lo x:Int),x∈dg lo n↔lo<=x/\x<lo+n
 |0,lo,x=>by simp only[dg,bH,false_iff];omega
 |n+1,lo,x=>by
  simp only[dg,List.mem_cons,f6 n (lo+1) x];omega
theorem fc:∀(n:Nat) (lo:Int),(dg lo n).Pairwise (·< ·)
 |0,_=>.nil
 |n+1,lo=>by
  simp only[dg,List.pairwise_cons];exact⟨λx hx=>by rw[f6]at hx;omega,fc n (lo+1)⟩
end LW
namespace ST
open PySem SetTable
abbrev eZ (l:List Nat):Prop:=l.Pairwise (·< ·)
theorem wO (h:eZ l) (hik:i<k) (hk:k<l.length):l[i]'(by omega)<l[k]:=List.pairwise_iff_getElem.mp h i k (by omega) hk hik
theorem BX (xs:Array Nat) (j:Nat) (hr:eZ xs.toList):∀(fuel lo hi:Nat),lo<=hi->hi<=xs.size->hi-lo<=fuel->(∀k (h:k<xs.size),k<lo->xs[k]<j)->(∀k (h:k<xs.size),hi<=k->j<=xs[k])->
  let r:=below.go xs j fuel lo hi
  r<=xs.size/\(∀k (h:k<xs.size),k<r->xs[k]<j)/\(∀k (h:k<xs.size),r<=k->j<=xs[k])
 |0,lo,hi,h1,h2,h3,h4,h5=>by
  have e:lo=hi:=by omega
  subst e;exact⟨h2,h4,h5⟩
 |fuel+1,lo,hi,h1,h2,h3,h4,h5=>by
  unfold below.go;by_cases fu:lo<hi
  ·simp only[if_pos fu];have Vs:(lo+hi)/2<xs.size:=by omega
   have hg:xs.getD ((lo+hi)/2) j=xs[(lo+hi)/2]:=by simp[Vs]
   rw[hg];by_cases hc:xs[(lo+hi)/2]<j
   ·rw[if_pos hc];refine BX xs j hr fuel ((lo+hi)/2+1) hi (by omega) h2 (by omega) (λk hk hkl=>?_) h5
    by_cases Yb:k=(lo+hi)/2
    ·subst Yb;exact hc
    ·have:=wO hr (i:=k) (k:=(lo+hi)/2) (by omega) (by simpa using Vs)
     simp only[Array.getElem_toList]at this;omega
   ·rw[if_neg hc];refine BX xs j hr fuel lo ((lo+hi)/2) (by omega) (by omega) (by omega) h4 (λk hk hkl=>?_)
    by_cases Yb:k=(lo+hi)/2
    ·subst Yb;omega
    ·have:=wO hr (i:=(lo+hi)/2) (k:=k) (by omega) (by simpa using hk)
     simp only[Array.getElem_toList]at this;omega
  ·simp only[if_neg fu];have e:lo=hi:=by omega
   subst e;exact⟨h2,h4,h5⟩
theorem o4 (xs:Array Nat) (j:Nat) (hr:eZ xs.toList):below xs j<=xs.size/\(∀k (h:k<xs.size),k<below xs j->xs[k]<j)/\(∀k (h:k<xs.size),below xs j<=k->j<=xs[k]):=
 BX xs j hr xs.size 0 xs.size (bK _) (au _) (by omega) (λk h hk=>by omega) (λk h hk=>by omega)
theorem LL (hr:eZ xs.toList) (h:xs[i]? =some j):below xs j=i:=by
 obtain⟨h1,h2,h3⟩:=o4 xs j hr;obtain⟨hi,hv⟩:=Array.getElem?_eq_some_iff.mp h;by_cases fu:i<below xs j
 ·have:=h2 i hi fu;omega
 ·by_cases Qb:below xs j<i
  ·have hb:below xs j<xs.size:=by omega
   have:=wO hr (i:=below xs j) (k:=i) Qb (by simpa using hi)
   simp only[Array.getElem_toList]at this;have:=h3 (below xs j) hb (au _);omega
  ·omega
structure Tb (t:cD):Prop where
 rise:eZ t.place.toList
 Vt:t.dummies=#[]
theorem rC (h:Tb t) (hi:t.place[i]? =some j):t.slot j=.live i:=by
 unfold slot;rw[LL h.rise hi];simp[hi]
theorem xS (h:Tb t) (hj:j∉t.place.toList):t.slot j=.empty:=by
 unfold slot;have h1:¬ (t.place[below t.place j]? ==some j)=true:=λz=>hj (by
  have z':t.place[below t.place j]? =some j:=by simpa using z
  exact Array.mem_toList_iff.mpr (Array.mem_of_getElem? z'))
 have h2:has t.dummies j=false:=by rw[h.Vt];rfl
 simp only[if_neg h1,h2];rfl
theorem xT (h:Tb t) (j:Nat):(∃i,t.slot j=.live i/\t.place[i]? =some j)\/(t.slot j=.empty/\j∉t.place.toList):=by
 by_cases hj:j∈t.place.toList
 ·obtain⟨i,hi⟩:=bp hj;have xv:t.place[i]? =some j:=by simpa using hi
  exact .inl ⟨i,rC h xv,xv⟩
 ·exact .inr ⟨xS h hj,hj⟩
noncomputable def it {α:Type}(f:α->α):Nat->α->α
 |0,a=>a
 |n+1,a=>it f n (f a)
theorem sN (f:α->α):∀(m n:Nat) (a:α),it f (m+n) a=it f n (it f m a)
 |0,n,a=>by rw[Nat.zero_add];rfl
 |m+1,n,a=>by rw[show m+1+n=(m+n)+1 by omega];exact sN f m n (f a)
theorem o5 (f:α->α) (n:Nat) (a:α):it f (n+1) a=f (it f n a):=sN f n 1 a
noncomputable def lp (mask i pt:Nat):Nat:=(i*5+1+pt/32)%(mask+1)
def f7 (mask:Nat) (p:Probe):Probe:={p with j:=lp mask p.i p.perturb,more:=runEnd mask (lp mask p.i p.perturb)-lp mask p.i p.perturb,i:=lp mask p.i p.perturb,perturb:=p.perturb/32}
def jA (mask:Nat) (p:Probe):Probe:=if p.more>0 then {p with j:=p.j+1,more:=p.more-1}else f7 mask p
theorem LM (t:cD) (p:Probe):t.advance p=jA t.mask p:=by
 unfold SetTable.advance jA;split<;>rfl
theorem R8 (mask i:Nat):runEnd mask i-i<=9:=by unfold runEnd;split<;>omega
theorem xU (mask:Nat):∀(k:Nat) (p:Probe),k<=p.more->it (jA mask) k p={p with j:=p.j+k,more:=p.more-k}
 |0,p,_=>rfl
 |k+1,p,h=>by
  show it (jA mask) k (jA mask p)=_;have e:jA mask p={p with j:=p.j+1,more:=p.more-1}:=by unfold jA;rw[if_pos (by omega)]
  rw[e,xU mask k _ (by show k<=p.more-1;omega)]
  show({p with j:=p.j+1+k,more:=p.more-1-k}:Probe)={p with j:=p.j+(k+1),more:=p.more-(k+1)}
  rw[show p.j+1+k=p.j+(k+1) by omega,show p.more-1-k=p.more-(k+1) by omega]
theorem vV (mask:Nat) (p:Probe):it (jA mask) (p.more+1) p=f7 mask p:=by
 rw[o5,xU mask p.more p (au _)];unfold jA;rw[if_neg (by show ¬ p.more-p.more>0;omega)]
 rfl
theorem blocks (mask:Nat):∀(n:Nat) (p:Probe),p.more<=9->∃k,k<=10*n/\it (jA mask) k p=it (f7 mask) n p
 |0,p,_=>⟨0,au _,rfl⟩
 |n+1,p,h=>by
  obtain⟨k,h1,h2⟩:=blocks mask n (f7 mask p) (R8 mask _);refine⟨p.more+1+k,by omega,?_⟩
  rw[sN,vV];exact h2
theorem Gi (mask:Nat):∀(n:Nat) (p:Probe),(it (f7 mask) n p).perturb=p.perturb/32^n
 |0,p=>by show p.perturb=_;rw[Nat.pow_zero,Nat.div_one]
 |n+1,p=>by
  show(it (f7 mask) n (f7 mask p)).perturb=_;rw[Gi mask n];show p.perturb/32/32^n=_;rw[Nat.div_div_eq_div_mul,Nat.pow_succ,Nat.mul_comm]
noncomputable def OS (mask i:Nat):Nat:=(i*5+1)%(mask+1)
theorem LN (mask:Nat):∀(n:Nat) (p:Probe),p.perturb/32=0->(it (f7 mask) n p).i=it (OS mask) n p.i
 |0,p,_=>rfl
 |n+1,p,h=>by
  show(it (f7 mask) n (f7 mask p)).i=it (OS mask) n (OS mask p.i);rw[LN mask n _ (by show p.perturb/32/32=0;rw[h])]
  congr 1
  show lp mask p.i p.perturb=OS mask p.i;unfold lp OS;rw[h,Nat.add_zero]
theorem Vu:∀i:Fin 8,∀e:Fin 8,∃m:Fin 8,it (OS 7) m.val i.val=e.val:=by decide +kernel
theorem Qo:∀i:Fin 32,∀e:Fin 32,∃m:Fin 32,it (OS 31) m.val i.val=e.val:=by decide +kernel
theorem reach {mask:Nat}(hm:mask=7\/mask=31) {p:Probe}(h9:p.more<=9) (hp:p.perturb<2^64) {e:Nat}(he:e<=mask):∃k,k<10*turns mask/\(it (jA mask) k p).j=e:=by
 have key:∃m,m<=mask/\it (OS mask) m (it (f7 mask) 12 p).i=e:=by
  have hi:(it (f7 mask) 12 p).i<=mask:=by
   rw[o5];show lp mask _ _<=mask;unfold lp;have:=Nat.mod_lt ((it (f7 mask) 11 p).i*5+1+(it (f7 mask) 11 p).perturb/32) (show 0<mask+1 by omega)
   omega
  rcases hm with rfl|rfl
  ·obtain⟨m,hm⟩:=Vu ⟨(it (f7 7) 12 p).i,by omega⟩ ⟨e,by omega⟩
   exact⟨m.val,by omega,hm⟩
  ·obtain⟨m,hm⟩:=Qo ⟨(it (f7 31) 12 p).i,by omega⟩ ⟨e,by omega⟩
   exact⟨m.val,by omega,hm⟩
 obtain⟨m,h1,h2⟩:=key;obtain⟨k,h3,h4⟩:=blocks mask (12+m) p h9;refine⟨k,by unfold turns;omega,?_⟩
 rw[h4,sN];have h0:(it (f7 mask) 12 p).perturb/32=0:=by
  rw[Gi,Nat.div_div_eq_div_mul];apply Nat.div_eq_of_lt
  exact aw hp (by decide)
 have hj:∀(n:Nat) (q:Probe),q.j=q.i->(it (f7 mask) n q).j=(it (f7 mask) n q).i:=λn=>by
  cases n with
  |zero=>exact λq h=>h
  |succ n=>intro q _;rw[o5];rfl
 rw[hj m _ (by rw[o5];rfl),LN mask m _ h0,h2]
structure Pb (p:Probe):Prop where
 nine:p.more<=9
 OT:p.perturb<2^64
 dm:p.dummy=none
theorem Pb.jA {mask:Nat}{p:Probe}(h:Pb p):Pb (jA mask p):=by
 unfold ST.jA;split
 ·exact⟨by show p.more-1<=9;have:=h.nine;omega,h.OT,h.dm⟩
 ·exact⟨R8 mask _,Nat.lt_of_le_of_lt (Nat.div_le_self _ _) h.OT,h.dm⟩
theorem HI (h:Int):bits h<2^64:=by
 unfold bits;have h1:=Int.emod_lt_of_pos h (show(0:Int)<2^64 by decide)
 have h2:=Int.emod_nonneg h (show(2^64:Int)≠0 by decide)
 omega
theorem LO (t:cD) (h:Int):Pb (t.probeStart h):=⟨R8 _ _,HI h,rfl⟩
theorem LP (ht:Tb t):∀(fuel:Nat) (p:Probe),Pb p->(∃k,k<fuel/\t.slot (it (jA t.mask) k p).j=.empty)->
  ∃k,(∀m,m<k->∃i,t.slot (it (jA t.mask) m p).j=.live i/\ha i≠h)/\
   ((t.slot (it (jA t.mask) k p).j=.empty/\probe.go t ha h fuel p=some (.empty (it (jA t.mask) k p).j none))\/
    ∃i,t.slot (it (jA t.mask) k p).j=.live i/\ha i=h/\probe.go t ha h fuel p=some (.candidate (it (jA t.mask) k p).j i (it (jA t.mask) (k+1) p)))
 |0,p,_,⟨k,hk,_⟩=>by omega
 |fuel+1,p,hp,⟨k,hk,he⟩=>by
  rcases xT ht p.j with⟨i,hs,_⟩|⟨hs,_⟩
  ·by_cases hh:ha i=h
   ·refine⟨0,λm hm=>by omega,.inr ⟨i,hs,hh,?_⟩⟩
    unfold probe.go;rw[hs];show(if(ha i==h)=true then _ else _)=_
    rw[if_pos (beq_iff_eq.mpr hh),LM];rfl
   ·have e:probe.go t ha h (fuel+1) p=probe.go t ha h fuel (jA t.mask p):=by
     conv=>lhs;unfold probe.go
     rw[hs];show(if(ha i==h)=true then _ else _)=_
     rw[if_neg (λz=>hh (beq_iff_eq.mp z)),LM]
    have WK:k≠0:=λz=>by
     subst z;have WL:t.slot p.j=.empty:=he;rw[hs]at WL;cases WL
    obtain⟨k',rfl⟩:∃k',k=k'+1:=⟨k-1,by omega⟩
    obtain⟨k2,h1,h2⟩:=LP ht fuel (jA t.mask p) hp.jA ⟨k',by omega,he⟩
    refine⟨k2+1,λm hm=>?_,?_⟩
    ·cases m with
     |zero=>exact⟨i,hs,hh⟩
     |succ m=>exact h1 m (by omega)
    ·rw[e];exact h2
  ·refine⟨0,λm hm=>by omega,.inl ⟨hs,?_⟩⟩
   unfold probe.go;rw[hs];show some (Met.empty p.j p.dummy)=_;rw[hp.dm];rfl
structure Wt (t:cD) (hs:cn):Prop where
 tb:Tb t
 mask:t.mask=7\/t.mask=31
 len:t.place.size=hs.length
 le:∀j∈t.place.toList,j<=t.mask
 room:t.place.size<t.mask+1
 way:∀(i:Nat) (h:Int),hs[i]? =some h->∃k,t.place[i]? =some (it (jA t.mask) k (t.probeStart h)).j/\∀m,m<k->(it (jA t.mask) m (t.probeStart h)).j∈t.place.toList
theorem JB:∀{l:List Nat},eZ l->(∀j∈l,j<=n)->l.length<n+1->∃e,e<=n/\e∉l:=by
 intro l hr hle hlen;by_cases h:∀e,e<=n->e∈l
 ·exfalso;have:=bV (l₁:=List.range (n+1)) (l₂:=l) List.nodup_range λe he=>h e (by have:=List.mem_range.mp he;omega)
  rw[List.length_range]at this;omega
 ·simp only[Classical.not_forall]at h;obtain⟨e,he,hn⟩:=h;exact⟨e,he,hn⟩
noncomputable def ins {α:Type}(l:List α) (p:Nat) (x:α):List α:=l.take p++x::l.drop p
theorem sg {α:Type}(xs:Array α) (p:Nat) (x:α):(insertAt xs p x).toList=ins xs.toList p x:=by
 unfold insertAt ins;simp[Array.toList_append,Array.toList_push,Array.toList_extract,List.extract_eq_drop_take];exact List.take_of_length_le (by simp)
theorem ng (hp:p<=l.length) (i:Nat):(ins l p x)[i]? =if i<p then l[i]? else if i=p then some x else l[i-1]? :=by
 unfold ins;have hl:(l.take p).length=p:=by rw[bI];omega
 by_cases h:i<p
 ·rw[if_pos h,aJ (by omega),List.getElem?_take,if_pos h]
 ·rw[if_neg h,aP (by omega),hl]
  by_cases h2:i=p
  ·rw[if_pos h2,h2,Nat.sub_self];rfl
  ·rw[if_neg h2];obtain⟨d,hd⟩:∃d,i-p=d+1:=⟨i-p-1,by omega⟩
   rw[hd,aK,List.getElem?_drop]
   congr 1
   omega
theorem wQ:y∈ins l p x↔y=x\/y∈l:=by
 unfold ins;rw[List.mem_append,List.mem_cons];have:y∈l↔y∈l.take p\/y∈l.drop p:=by rw[<-List.mem_append,List.take_append_drop]
 rw[this];constructor
 ·rintro(h|h|h)
  ·exact .inr (.inl h)
  ·exact .inl h
  ·exact .inr (.inr h)
 ·rintro(h|h|h)
  ·exact .inr (.inl h)
  ·exact .inl h
  ·exact .inr (.inr h)
theorem mO (hp:p<=l.length):(ins l p x).length=l.length+1:=by
 unfold ins;simp only[aQ,bI,ay,List.length_drop];omega
theorem ins_map (f:α->β) (l:List α) (p:Nat) (x:α):(ins l p x).map f=ins (l.map f) p (f x):=by
 unfold ins;simp[List.map_take,List.map_drop]
theorem LQ (hr:eZ xs.toList) (hj:j∉xs.toList):eZ (ins xs.toList (below xs j) j):=by
 obtain⟨h1,h2,h3⟩:=o4 xs j hr;unfold ins;refine List.pairwise_append.mpr ⟨List.Pairwise.sublist (List.take_sublist _ _) hr,List.pairwise_cons.mpr ⟨λy hy=>?_,List.Pairwise.sublist (List.drop_sublist _ _) hr⟩,λa ha b hb=>?_⟩
 ·obtain⟨i,hi⟩:=bp hy;rw[List.getElem?_drop]at hi;have fu:below xs j+i<xs.size:=by have:=(List.getElem?_eq_some_iff.mp hi).1;simpa using this
  have wq:=h3 (below xs j+i) fu (by omega)
  have e:xs[below xs j+i]=y:=by have:=(List.getElem?_eq_some_iff.mp hi).2;simpa using this
  have jg:y≠j:=λz=>hj (z▸List.mem_of_mem_drop hy)
  omega
 ·have Vv:a<j:=by
   obtain⟨i,hi⟩:=bp ha;rw[List.getElem?_take]at hi;split at hi
   ·rename_i fu;have hl:i<xs.size:=by have:=(List.getElem?_eq_some_iff.mp hi).1;simpa using this
    have e:xs[i]=a:=by have:=(List.getElem?_eq_some_iff.mp hi).2;simpa using this
    have:=h2 i hl fu;omega
   ·cases hi
  have Kk:j<=b:=by
   rcases List.mem_cons.mp hb with rfl|hb
   ·exact au _
   ·obtain⟨i,hi⟩:=bp hb;rw[List.getElem?_drop]at hi;have fu:below xs j+i<xs.size:=by have:=(List.getElem?_eq_some_iff.mp hi).1;simpa using this
    have:=h3 (below xs j+i) fu (by omega)
    have e:xs[below xs j+i]=b:=by have:=(List.getElem?_eq_some_iff.mp hi).2;simpa using this
    omega
  omega
structure Pm (mask:Nat) (p:Probe):Prop where
 pb:Pb p
 le:p.j+p.more<=mask
theorem LR {mask i:Nat}(h:i<=mask):i+(runEnd mask i-i)<=mask:=by unfold runEnd;split<;>omega
theorem Pm.jA {mask:Nat}{p:Probe}(h:Pm mask p):Pm mask (jA mask p):=by
 refine⟨h.pb.jA,?_⟩;unfold ST.jA;have:=h.le;split
 ·show p.j+1+(p.more-1)<=mask;omega
 ·show lp mask p.i p.perturb+(runEnd mask (lp mask p.i p.perturb)-lp mask p.i p.perturb)<=mask;exact LR (by unfold lp;have:=Nat.mod_lt (p.i*5+1+p.perturb/32) (show 0<mask+1 by omega);omega)
theorem Pm.it {mask:Nat}:∀(k:Nat) {p:Probe},Pm mask p->Pm mask (it (ST.jA mask) k p)
 |0,_,h=>h
 |k+1,_,h=>Pm.it k h.jA
theorem t4 (t:cD) (h:Int):Pm t.mask (t.probeStart h):=
 ⟨LO t h,LR (by have:=Nat.mod_lt (bits h) (show 0<t.mask+1 by omega);show bits h%(t.mask+1)<=t.mask;omega)⟩
theorem Wt.put (w:Wt t hs) (he:(it (jA t.mask) k (t.probeStart h)).j∉t.place.toList) (hb:∀m,m<k->(it (jA t.mask) m (t.probeStart h)).j∈t.place.toList) (jb:t.place.size+1<t.mask+1):Wt (t.put (it (jA t.mask) k (t.probeStart h)).j).1 (ins hs (t.put (it (jA t.mask) k (t.probeStart h)).j).2 h)/\(t.put (it (jA t.mask) k (t.probeStart h)).j).2<=hs.length/\(t.put (it (jA t.mask) k (t.probeStart h)).j).1.mask=t.mask/\(t.put (it (jA t.mask) k (t.probeStart h)).j).1.place.size=t.place.size+1:=by
 generalize hj:(it (jA t.mask) k (t.probeStart h)).j=j at he ⊢;have Yc:j<=t.mask:=by rw[<-hj];have:=(Pm.it k (t4 t h)).le;omega
 obtain⟨b1,_,_⟩:=o4 t.place j w.tb.rise;have hd:has t.dummies j=false:=by rw[w.tb.Vt];rfl
 have e1:(t.put j).1.place.toList=ins t.place.toList (below t.place j) j:=sg _ _ _;have e2:(t.put j).2=below t.place j:=rfl;have e3:(t.put j).1.mask=t.mask:=rfl;have e4:∀h',(t.put j).1.probeStart h'=t.probeStart h':=λh'=>rfl
 have e5:(t.put j).1.dummies=#[]:=by show(if has t.dummies j=true then _ else t.dummies)=_;rw[hd];exact w.tb.Vt
 have ZK:below t.place j<=t.place.toList.length:=by simpa using b1
 have hsz:(t.put j).1.place.size=t.place.size+1:=by
  have:=congrArg List.length e1;rw[mO ZK]at this
  simpa using this
 have Yd:below t.place j<=hs.length:=by rw[<-w.len];exact b1
 refine⟨⟨⟨by rw[e1];exact LQ w.tb.rise he,e5⟩,by rw[e3];exact w.mask,?_,?_,by rw[e3,hsz];exact jb,?_⟩,by rw[e2];exact Yd,e3,hsz⟩
 ·rw[hsz,e2,mO Yd,w.len]
 ·intro y hy;rw[e1]at hy;rw[e3];rcases wQ.mp hy with rfl|hy
  ·exact Yc
  ·exact w.le y hy
 ·intro i h' hi;rw[e3,e4,e1];have hp:(t.put j).1.place[i]? =(ins t.place.toList (below t.place j) j)[i]? :=by rw[<-e1];simp
  rw[hp,ng ZK];rw[e2,ng Yd]at hi;by_cases c1:i<below t.place j
  ·rw[if_pos c1]at hi ⊢;obtain⟨k',h1,h2⟩:=w.way i h' hi;exact⟨k',by simpa using h1,λm hm=>wQ.mpr (.inr (h2 m hm))⟩
  ·rw[if_neg c1]at hi ⊢;by_cases c2:i=below t.place j
   ·rw[if_pos c2]at hi ⊢;cases hi;exact⟨k,by rw[hj],λm hm=>wQ.mpr (.inr (hb m hm))⟩
   ·rw[if_neg c2]at hi ⊢;obtain⟨k',h1,h2⟩:=w.way (i-1) h' hi;exact⟨k',by simpa using h1,λm hm=>wQ.mpr (.inr (h2 m hm))⟩
theorem LS (led:Bool):Wt (fresh 0 0 led) []:=
 ⟨⟨List.Pairwise.nil,rfl⟩,.inl rfl,rfl,(λj hj=>by cases hj),(by show 0<8;decide),(λi h hi=>by cases hi)⟩
noncomputable def fr (owner:Array (Option Nat)) (j:Nat):Bool:=(owner.getD j (some 0)).isNone
noncomputable def Gj (mask i pt:Nat):Probe:={j:=i,more:=runEnd mask i-i,i:=i,perturb:=pt,dummy:=none}
theorem JC (mask i pt:Nat):f7 mask (Gj mask i pt)=Gj mask (lp mask i pt) (pt/32):=rfl
theorem R9 (mask i:Nat):i<=runEnd mask i:=by unfold runEnd;split<;>omega
theorem Au (mask:Nat) (owner:Array (Option Nat)):∀(fuel i pt:Nat),(∃n,n<fuel/\fr owner (it (f7 mask) n (Gj mask i pt)).j=true)->
  ∃k,layClean.free mask owner fuel i pt=some (it (jA mask) k (Gj mask i pt)).j/\fr owner (it (jA mask) k (Gj mask i pt)).j=true/\∀m,m<k->fr owner (it (jA mask) m (Gj mask i pt)).j=false
 |0,i,pt,⟨n,hn,_⟩=>by omega
 |fuel+1,i,pt,⟨n,hn,hf⟩=>by
  unfold layClean.free;have wq:=R9 mask i;have WM:∀k,k<=runEnd mask i-i->(it (jA mask) k (Gj mask i pt)).j=i+k:=λk hk=>by rw[xU mask k _ hk];rfl
  cases Qp:(List.range (runEnd mask i+1-i)).find? λk=>(owner.getD (i+k) (some 0)).isNone with
  |some k=>
   obtain⟨h1,h2,h3⟩:=List.find?_range_eq_some.mp Qp;have hk:k<=runEnd mask i-i:=by have:=List.mem_range.mp h2;omega
   refine⟨k,by rw[WM k hk],by rw[WM k hk];exact h1,λm hm=>?_⟩
   rw[WM m (by omega)]
   have:=h3 m hm;unfold fr;cases hx:(owner.getD (i+m) (some 0)).isNone with
   |false=>rfl
   |true=>rw[hx]at this;exact absurd this (by simp)
  |none=>
   have xh:∀k,k<=runEnd mask i-i->fr owner (i+k)=false:=λk hk=>by
    have:=List.find?_eq_none.mp Qp k (List.mem_range.mpr (by omega))
    unfold fr;cases hx:(owner.getD (i+k) (some 0)).isNone with
    |false=>rfl
    |true=>rw[hx]at this;exact absurd rfl this
   have hn0:n≠0:=λz=>by
    subst z;have h0:fr owner i=true:=hf;rw[show i=i+0 from rfl,xh 0 (bK _)]at h0
    cases h0
   obtain⟨n',rfl⟩:∃n',n=n'+1:=⟨n-1,by omega⟩
   obtain⟨k,e1,e2,e3⟩:=Au mask owner fuel (lp mask i pt) (pt/32) ⟨n',by omega,hf⟩
   have qh:∀m,it (jA mask) (runEnd mask i-i+1+m) (Gj mask i pt)=it (jA mask) m (Gj mask (lp mask i pt) (pt/32)):=λm=>by
    rw[sN];have:=vV mask (Gj mask i pt);rw[show(Gj mask i pt).more=runEnd mask i-i from rfl]at this
    rw[this,JC]
   refine⟨runEnd mask i-i+1+k,?_,by rw[qh];exact e2,λm hm=>?_⟩
   ·rw[qh];exact e1
   ·by_cases CT:m<=runEnd mask i-i
    ·rw[WM m CT];exact xh m CT
    ·obtain⟨m',rfl⟩:∃m',m=runEnd mask i-i+1+m':=⟨m-(runEnd mask i-i+1),by omega⟩
     rw[qh];exact e3 m' (by omega)
theorem Sa {mask:Nat}(hm:mask=7\/mask=31) {p:Probe}(hp:p.perturb<2^64) {e:Nat}(he:e<=mask):∃n,n<turns mask/\(it (f7 mask) n p).j=e:=by
 have key:∃m,m<=mask/\it (OS mask) m (it (f7 mask) 12 p).i=e:=by
  have hi:(it (f7 mask) 12 p).i<=mask:=by
   rw[o5];show lp mask _ _<=mask;unfold lp;have:=Nat.mod_lt ((it (f7 mask) 11 p).i*5+1+(it (f7 mask) 11 p).perturb/32) (show 0<mask+1 by omega)
   omega
  rcases hm with rfl|rfl
  ·obtain⟨m,hm⟩:=Vu ⟨(it (f7 7) 12 p).i,by omega⟩ ⟨e,by omega⟩
   exact⟨m.val,by omega,hm⟩
  ·obtain⟨m,hm⟩:=Qo ⟨(it (f7 31) 12 p).i,by omega⟩ ⟨e,by omega⟩
   exact⟨m.val,by omega,hm⟩
 obtain⟨m,h1,h2⟩:=key;refine⟨12+m,by unfold turns;omega,?_⟩
 rw[sN];have h0:(it (f7 mask) 12 p).perturb/32=0:=by
  rw[Gi,Nat.div_div_eq_div_mul];apply Nat.div_eq_of_lt
  exact aw hp (by decide)
 have hj:∀(n:Nat) (q:Probe),q.j=q.i->(it (f7 mask) n q).j=(it (f7 mask) n q).i:=λn=>by
  cases n with
  |zero=>exact λq h=>h
  |succ n=>intro q _;rw[o5];rfl
 rw[hj m _ (by rw[o5];rfl),LN mask m _ h0,h2]
def way (mask:Nat) (h:Int) (k:Nat):Nat:=(it (jA mask) k (Gj mask (bits h%(mask+1)) (bits h))).j
structure Ow (mask:Nat) (owner:Array (Option Nat)) (hs:cn):Prop where
 size:owner.size=mask+1
 of:∀(j k:Nat),owner[j]? =some (some k)->∃h q,hs[k]? =some h/\j=way mask h q/\∀m,m<q->fr owner (way mask h m)=false
 has:∀k:Nat,k<hs.length->∃j:Nat,owner[j]? =some (some k)
 one:∀(j j' k:Nat),owner[j]? =some (some k)->owner[j']? =some (some k)->j=j'
theorem LU (mask:Nat) (h:Int) (k:Nat):way mask h k<=mask:=by
 have:=(Pm.it k (t4 {fresh 0 0 true with mask:=mask} h)).le
 exact aD (Nat.le_add_right _ _) this
theorem LV (h:j<owner.size):fr owner j=true↔owner[j]? =some none:=by
 unfold fr;rw[aU h,show owner.getD j (some 0)=owner[j] by simp[h]]
 cases owner[j]<;>simp
theorem Ow.room {mask:Nat}{owner:Array (Option Nat)}{hs:cn}(o:Ow mask owner hs) (hl:hs.length<mask+1):∃e,e<=mask/\fr owner e=true:=by
 by_cases h:∀e,e<=mask->fr owner e=false
 ·exfalso;have own:∀e,e<=mask->∃k,owner[e]? =some (some k):=λe he=>by
   have fu:e<owner.size:=by rw[o.size];omega
   cases hx:owner[e]with
   |none=>
    have:=(LV fu).mpr (by rw[aU fu,hx])
    rw[h e he]at this;cases this
   |some k=>exact⟨k,by rw[aU fu,hx]⟩
  let f:Nat->Nat:=λe=>match owner[e]? with|some (some k)=>k|_=>0
  have hf:∀e,e<=mask->owner[e]? =some (some (f e)):=λe he=>by
   obtain⟨k,hk⟩:=own e he;show owner[e]? =some (some (match owner[e]? with|some (some k)=>k|_=>0))
   rw[hk]
  have nd:((List.range (mask+1)).map f).Nodup:=by
   refine List.pairwise_map.mpr (List.Pairwise.imp_of_mem (λ{a b} ha hb Jn z=>?_) List.pairwise_lt_range)
   have Vv:=hf a (by have:=List.mem_range.mp ha;omega)
   have Kk:=hf b (by have:=List.mem_range.mp hb;omega)
   rw[<-z]at Kk;exact absurd (o.one a b _ Vv Kk) (by omega)
  have:=bV (l₂:=List.range hs.length) nd λk hk=>by
   obtain⟨e,he,rfl⟩:=List.mem_map.mp hk;obtain⟨h',q,h1,_⟩:=o.of e _ (hf e (by have:=List.mem_range.mp he;omega))
   exact List.mem_range.mpr (List.getElem?_eq_some_iff.mp h1).1
  rw[ae,List.length_range,List.length_range]at this;omega
 ·simp only[Classical.not_forall]at h;obtain⟨e,he,hn⟩:=h;exact⟨e,he,by cases hx:fr owner e with|true=>rfl|false=>exact absurd hx hn⟩
theorem Ow.step {mask:Nat}{owner:Array (Option Nat)}{hs:cn}(hm:mask=7\/mask=31) (o:Ow mask owner hs) (hl:hs.length<mask+1) (h:Int):
  ∃j,layClean.free mask owner (turns mask) (bits h%(mask+1)) (bits h)=some j/\Ow mask (owner.setIfInBounds j (some hs.length)) (hs++[h]):=by
 obtain⟨e,he,Jm⟩:=o.room hl;obtain⟨n,hn,jg⟩:=Sa hm (p:=Gj mask (bits h%(mask+1)) (bits h)) (HI h) he;obtain⟨q,e1,e2,e3⟩:=Au mask owner (turns mask) (bits h%(mask+1)) (bits h) ⟨n,hn,by rw[jg];exact Jm⟩
 have Sb:way mask h q<owner.size:=by rw[o.size];have:=LU mask h q;omega
 have RB:owner[way mask h q]? =some none:=(LV Sb).mp e2;have get:∀j':Nat,(owner.setIfInBounds (way mask h q) (some hs.length))[j']? =if way mask h q=j' then some (some hs.length)else owner[j']? :=λj'=>by
  rw[Array.getElem?_setIfInBounds];by_cases hx:way mask h q=j'
  ·rw[if_pos hx,if_pos hx,if_pos (by first|exact Sb|(rw[<-hx];exact Sb))]
  ·rw[if_neg hx,if_neg hx]
 have ZL:∀j':Nat,fr owner j'=false->fr (owner.setIfInBounds (way mask h q) (some hs.length)) j'=false:=λj' hx=>by
  unfold fr at hx ⊢;rw[aT]at hx ⊢;rw[get j'];by_cases hy:way mask h q=j'
  ·rw[if_pos hy];rfl
  ·rw[if_neg hy];exact hx
 refine⟨way mask h q,e1,⟨by rw[Array.size_setIfInBounds];exact o.size,λj' k hk=>?_,λk hk=>?_,λj1 j2 k h1 h2=>?_⟩⟩
 ·rw[get j']at hk;by_cases hx:way mask h q=j'
  ·rw[if_pos hx]at hk;cases hk;exact⟨h,q,by simp,hx.symm,λm Tw=>ZL _ (e3 m Tw)⟩
  ·rw[if_neg hx]at hk;obtain⟨h',q',a1,a2,a3⟩:=o.of j' k hk;exact⟨h',q',by rw[aJ (List.getElem?_eq_some_iff.mp a1).1];exact a1,a2,λm Tw=>ZL _ (a3 m Tw)⟩
 ·rw[aQ,List.length_singleton]at hk;by_cases hx:k=hs.length
  ·exact⟨way mask h q,by rw[get,if_pos rfl,hx]⟩
  ·obtain⟨j',BJ⟩:=o.has k (by omega)
   refine⟨j',?_⟩;rw[get,if_neg (λz=>by rw[<-z,RB]at BJ;cases BJ)]
   exact BJ
 ·rw[get]at h1 h2;have old:∀j':Nat,owner[j']? =some (some hs.length)->False:=λj' BJ=>by
   obtain⟨h',q',a1,_⟩:=o.of j' _ BJ;exact absurd (List.getElem?_eq_some_iff.mp a1).1 (by omega)
  by_cases x1:way mask h q=j1
  ·by_cases x2:way mask h q=j2
   ·rw[<-x1,<-x2]
   ·rw[if_pos x1]at h1;rw[if_neg x2]at h2;cases h1;exact(old j2 h2).elim
  ·by_cases x2:way mask h q=j2
   ·rw[if_neg x1]at h1;rw[if_pos x2]at h2;cases h2;exact(old j1 h1).elim
   ·rw[if_neg x1]at h1;rw[if_neg x2]at h2;exact o.one j1 j2 k h1 h2
theorem Sd (mask:Nat):Ow mask (Array.replicate (mask+1) none) []:=by
 have no:∀(j k:Nat),(Array.replicate (mask+1) (none:Option Nat))[j]? =some (some k)->False:=λj k h=>by
  rw[Array.getElem?_replicate]at h;split at h<;>cases h
 exact⟨by simp,λj k h=>(no j k h).elim,(λk h=>by cases h),λj j' k h _=>(no j k h).elim⟩
noncomputable def LX (mask:Nat) (acc:Option (Array (Option Nat)×Nat)) (h:Int):Option (Array (Option Nat)×Nat):=acc.bind λx=>(layClean.free mask x.1 (turns mask) (bits h%(mask+1)) (bits h)).bind λj=>some (x.1.setIfInBounds j (some x.2),x.2+1)
theorem DR {mask:Nat}(hm:mask=7\/mask=31):∀(rest dn:cn) (owner:Array (Option Nat)),Ow mask owner dn->(dn++rest).length<mask+2->∃BY,rest.foldl (LX mask) (some (owner,dn.length))=some (BY,(dn++rest).length)/\Ow mask BY (dn++rest)
 |[],dn,owner,o,_=>⟨owner,by rw[bB];rfl,by rw[bB];exact o⟩
 |h::rest,dn,owner,o,hl=>by
  rw[aQ,ay]at hl;obtain⟨j,e1,o1⟩:=o.step hm (by omega) h
  obtain⟨BY,e2,o2⟩:=DR hm rest (dn++[h]) _ o1 (by simp;omega)
  refine⟨BY,?_,by rw[show dn++h::rest=dn++[h]++rest by simp];exact o2⟩
  rw[show dn++h::rest=dn++[h]++rest by simp,<-e2]
  show rest.foldl (LX mask) (LX mask (some (owner,dn.length)) h)=_
  congr 1
  show(layClean.free mask owner (turns mask) (bits h%(mask+1)) (bits h)).bind _=_;rw[e1];simp
theorem DS {mask:Nat}(hm:mask=7\/mask=31) (hashes:Array Int) (hl:hashes.size<mask+2):∃owner,layClean mask hashes=some owner/\Ow mask owner hashes.toList:=by
 obtain⟨owner,e,o⟩:=DR hm hashes.toList [] _ (Sd mask) (by simpa using hl)
 refine⟨owner,?_,o⟩;have:layClean mask hashes=(hashes.toList.foldl (LX mask) (some (Array.replicate (mask+1) none,0))).map (·.1):=by
  unfold layClean;rw[<-Array.foldl_toList];rfl
 rw[this];have e':hashes.toList.foldl (LX mask) (some (Array.replicate (mask+1) none,0))=some (owner,([]++hashes.toList).length):=e;rw[e'];rfl
noncomputable def live (mask:Nat) (owner:Array (Option Nat)):List (Nat×Nat):=(List.range (mask+1)).filterMap λj=>(owner.getD j none).map (j, ·)
theorem mP {mask:Nat}{owner:Array (Option Nat)}{hs:cn}(o:Ow mask owner hs) {j k:Nat}:(j,k)∈live mask owner↔owner[j]? =some (some k):=by
 unfold live;rw[List.mem_filterMap];constructor
 ·rintro⟨j',BJ,e⟩
  cases hg:owner.getD j' none with
  |none=>rw[hg]at e;cases e
  |some k'=>
   rw[hg]at e;have e':(j',k')=(j,k):=aS e;cases e';rw[aT]at hg;cases hx:owner[j]? with
   |none=>rw[hx]at hg;cases hg
   |some y=>rw[hx]at hg;rw[show y=some k from hg]
 ·intro h;have fu:j<owner.size:=(Array.getElem?_eq_some_iff.mp h).1;rw[o.size]at fu;refine⟨j,List.mem_range.mpr fu,?_⟩;rw[aT,h];rfl
theorem Gk (f:Nat->Option Nat):∀l:List Nat,(l.filterMap λj=>(f j).map (j, ·)).map (·.1)=l.filter λj=>(f j).isSome
 |[]=>rfl
 |a::l=>by
  rw[List.filterMap_cons,br];cases h:f a with
  |none=>simpa [h]using Gk f l
  |some k=>simpa [h]using Gk f l
theorem Av (mask:Nat) (owner:Array (Option Nat)):eZ ((live mask owner).map (·.1)):=by
 unfold live;rw[Gk (λj=>owner.getD j none)]
 exact List.Pairwise.filter _ List.pairwise_lt_range
theorem xV {mask:Nat}{owner:Array (Option Nat)}{hs:cn}(o:Ow mask owner hs):((live mask owner).map (·.2)).Perm (List.range hs.length):=by
 have nd:((live mask owner).map (·.2)).Nodup:=by
  refine List.pairwise_map.mpr (List.Pairwise.imp_of_mem (λ{a b} ha hb Jn z=>?_) (List.pairwise_map.mp (Av mask owner)))
  obtain⟨a1,a2⟩:=a;obtain⟨b1,b2⟩:=b;have h1:=(mP o).mp ha;have h2:=(mP o).mp hb;have z':a2=b2:=z;rw[z']at h1;have e:=o.one a1 b1 b2 h1 h2;have abK:a1<b1:=Jn;omega
 refine(List.perm_ext_iff_of_nodup nd List.nodup_range).mpr λk=>?_
 rw[List.mem_map,List.mem_range];constructor
 ·rintro⟨⟨j,k'⟩,hm,rfl⟩
  obtain⟨h,q,h1,_⟩:=o.of j k' ((mP o).mp hm);exact(List.getElem?_eq_some_iff.mp h1).1
 ·intro hk;obtain⟨j,hj⟩:=o.has k hk;exact⟨(j,k),(mP o).mpr hj,rfl⟩
theorem OU {mask:Nat}(hm:mask=7\/mask=31) (finger moves:Nat) (led plain:Bool) (hashes:Array Int) (hl:hashes.size<mask+1):
  ∃(t:cD) (order:List Nat),laid mask finger moves led plain hashes=some (t,order.toArray)/\order.Perm (List.range hashes.size)/\Wt t (order.map λk=>hashes.getD k 0)/\t.mask=mask/\t.led=led/\t.plain=plain/\t.moves=moves/\t.finger=finger:=by
 obtain⟨owner,e,o⟩:=DS hm hashes (by omega)
 refine⟨_,(live mask owner).map (·.2),by unfold laid;rw[e];rfl,by simpa using xV o,⟨⟨Av mask owner,rfl⟩,hm,?_,λj hj=>?_,?_,λi h hi=>?_⟩,rfl,rfl,rfl,rfl,rfl⟩
 ·show((live mask owner).map (·.1)).toArray.size=_
  rw[aq,ae,ae,ae]
 ·obtain⟨⟨j',k⟩,BQ,rfl⟩:=List.mem_map.mp (show j∈(live mask owner).map (·.1)from hj)
  have:=(Array.getElem?_eq_some_iff.mp ((mP o).mp BQ)).1;rw[o.size]at this;show j'<=mask;omega
 ·have:=(xV o).length_eq;show((live mask owner).map (·.1)).toArray.size<mask+1
  rw[ae,List.length_range]at this;rw[aq,ae,this]
  simpa using hl
 ·rw[av,av]at hi;cases hx:(live mask owner)[i]? with
  |none=>rw[hx]at hi;cases hi
  |some y=>
   obtain⟨j,k⟩:=y;rw[hx]at hi;have hy:hashes.getD k 0=h:=aS hi;have u4:=(mP o).mp (bh hx);obtain⟨h',q,a1,a2,a3⟩:=o.of j k u4;have hh:h'=h:=by
    rw[<-hy,aT];have a1':hashes[k]? =some h':=by simpa using a1
    rw[a1'];rfl
   subst hh;refine⟨q,?_,λm Tw=>?_⟩
   ·show((live mask owner).map (·.1)).toArray[i]? =some (way mask h' q)
    rw[List.getElem?_toArray,av,hx,<-a2];rfl
   ·show way mask h' m∈(live mask owner).map (·.1)
    have fu:way mask h' m<owner.size:=by rw[o.size];have:=LU mask h' m;omega
    have:=a3 m Tw;cases hz:owner[way mask h' m]with
    |none=>
     have:=(LV fu).mpr (by rw[aU fu,hz])
     rw[a3 m Tw]at this;cases this
    |some k'=>
     exact List.mem_map.mpr ⟨(way mask h' m,k'),(mP o).mpr (by rw[aU fu,hz]),rfl⟩
theorem range_all {α:Type}:∀l:List α,(List.range l.length).filterMap (l[·]?)=l
 |[]=>rfl
 |a::l=>by
  rw[ay,List.range_succ_eq_map,List.filterMap_cons];show a::((List.range l.length).map Nat.succ).filterMap ((a::l)[·]?)=_
  rw[List.filterMap_map]
  congr 1
  exact range_all l
theorem reorder {α:Type}{es:Array α}{order:List Nat}(hp:order.Perm (List.range es.size)):(order.toArray.filterMap (es[·]?)).toList.Perm es.toList/\∀(f:α->Int),(order.toArray.filterMap (es[·]?)).toList.map f=order.map λk=>(es.map f).getD k 0:=by
 have e1:(order.toArray.filterMap (es[·]?)).toList=order.filterMap (es[·]?):=by simp
 have e2:(List.range es.size).filterMap (es[·]?)=es.toList:=by
  have:=range_all es.toList
  simpa using this
 refine⟨by rw[e1,<-e2];exact hp.filterMap _,λf=>?_⟩
 rw[e1,List.map_filterMap];have m6:∀k∈order,k<es.size:=λk hk=>List.mem_range.mp (hp.mem_iff.mp hk)
 clear hp e1 e2;induction order with
 |nil=>rfl
 |cons a r ih=>
  have ha:=m6 a af;rw[List.filterMap_cons,aF,<-ih λk hk=>m6 k (ai _ hk)]
  simp[ha]
end ST
namespace ST
open PySem PySem.Spec PyProof.Rows DL SetTable
structure El (P:cx->Prop) (h:Heap) (e:Int×cx) (d:D):Prop where
 ki:KI h e.2 d
 hash:e.1=eQ d
 dep:eh d<=4
 ref:∃b,e.2=.ref b
 src:P e.2
def Gn (P:cx->Prop) (h:Heap) (es:List (Int×cx)) (ds:cu):Prop:=es.length=ds.length/\∀(i:Nat) (e:Int×cx),es[i]? =some e->∃d,ds[i]? =some d/\El P h e d
section
variable {prog:cA}{w:cB}{A:cC}{E:cf}{s:cy}
theorem HJ (n:Nat):∀(A:cC) (s:cy) (v:cx) (d:D) (Q:Bool->cy->Prop),eh d<=n->KI s.heap v d->Q false s->wpAny (model prog w) A (ofAClassStatement n v) Q E s:=by
 induction n with
 |zero=>
  intro A s v d Q hn k h;cases k with
  |int i t=>unfold ofAClassStatement;exact aj h
  |tup h1 h2 h3 l=>unfold eh at hn;omega
 |succ n ih=>
  intro A s v d Q hn k h;cases k with
  |int i t=>unfold ofAClassStatement;exact aj h
  |@tup a o items m ds ho hc hd l=>
   have hT:s.TypeIs (.ref a) "tuple":=⟨o,ho,hc⟩;have Bh:ju ds<=n:=by unfold eh at hn;omega
   unfold ofAClassStatement;refine aa (wpAny_typeOf hT ?_);show wpAny _ _ (pure true>>=_) _ _ s;refine aa (aj ?_);simp only[bS,aI,bD];refine aa (wpAny_seqItems ho hd ?_);refine aa ?_;show wpAny _ _ (forIn items _ _) _ _ s;rw[<-Array.forIn_toList];refine wpAny_forIn_list _ (λrest r s'=>r.1=none/\s'=s/\∃es,(∀e∈es,eh e<=n)/\sL s.heap rest es) _ ?_ ?_ _ _ ⟨rfl,rfl,ds,λe he=>aD (lr he) Bh,l⟩
   ·rintro v rest r s' ⟨hr,rfl,es,he,hk⟩
    cases hk with
    |cons k1 k2=>
     refine aa (ih A s' v _ _ (he _ af) k1 ?_);simp only[aI,bD];exact aj ⟨rfl,rfl,_,λe h=>he e (ai _ h),k2⟩
   ·rintro⟨r1,r2⟩ s' ⟨hr,rfl,_⟩
    simp only at hr;subst hr;exact aj h
theorem OV (hx:KI s.heap x dx) (Qn:eh dx<=4) (stored:cw) (qh:∀y∈stored,∃d,KI s.heap y d/\eh d<=4) (h:Q false s):wpAny (model prog w) A (searchCouldBeSeen x stored) Q E s:=by
 unfold searchCouldBeSeen;refine aa ?_;refine wpAny_forIn_list _ (λrest r s'=>r.1=none/\s'=s/\∀y∈rest,∃d,KI s.heap y d/\eh d<=4) _ ?_ ?_ _ _ ⟨rfl,rfl,qh⟩
 ·rintro y rest r s' ⟨hr,rfl,hk⟩
  obtain⟨d,kd,hd⟩:=hk y af;have Qq:∀z∈rest,∃d,KI s'.heap z d/\eh d<=4:=λz hz=>hk z (ai _ hz)
  have key:∀(b:Bool) (R:ForInStep (Option Bool×Unit)->cy->Prop),R (.yield (none,())) s'->wpAny (model prog w) A (if(b||carriedByValue x&&carriedByValue y)=true then pure (ForInStep.yield (none,()))else do
    let q <-eqIsQuiet 8 x
    if(!q)=true then pure (ForInStep.done (some true,()))else do
     let q <-eqIsQuiet 8 y
     if(!q)=true then pure (ForInStep.done (some true,()))else do
      let q <-ofAClassStatement 8 x
      if q=true then pure (ForInStep.done (some true,()))else do
       let q <-ofAClassStatement 8 y
       if q=true then pure (ForInStep.done (some true,()))else pure (ForInStep.yield (none,()))) R E s':=λb R hR=>by
   split
   ·exact aj hR
   ·refine aa (KI.quiet 8 A s' x dx _ (by omega) hx ?_)
    simp only[bS,aI,bD];refine aa (KI.quiet 8 A s' y d _ (by omega) kd ?_)
    simp only[bS,aI,bD];refine aa (HJ 8 A s' x dx _ (by omega) hx ?_)
    simp only[aI,bD];refine aa (HJ 8 A s' y d _ (by omega) kd ?_)
    simp only[aI,bD];exact aj hR
  split
  ·exact key _ _ ⟨rfl,rfl,Qq⟩
  ·exact key _ _ ⟨rfl,rfl,Qq⟩
 ·rintro⟨r1,r2⟩ s' ⟨hr,rfl,_⟩
  simp only at hr;subst hr;exact aj h
end
section
variable {prog:cA}{w:cB}{A:cC}{E:cf}{s:cy}
theorem Wt.Ye (W:Wt t hs):t.gaveWay=false:=by
 unfold gaveWay;rcases W.mask with h|h<;>rw[h]<;>rfl
theorem Wt.emp (W:Wt t hs):∃e,e<=t.mask/\t.slot e=.empty:=by
 obtain⟨e,h1,h2⟩:=JB (n:=t.mask) W.tb.rise W.le (by have:=W.room;simpa using this)
 exact⟨e,h1,xS W.tb h2⟩
theorem JD (ho:s.heap.get? a=some o) (hd:o.data=.set es ep t) (hf:t.fits es.size=true) (W:Wt t (es.toList.map (·.1))) (hE:Gn P s.heap es.toList ds) (hx:KI s.heap (.ref xa) dx) (Qn:eh dx<=4) (hu:A.units+8<cLine) (ZM:dx∈ds->Q (.there none) s) (WH:dx∉ds->∀k,(it (jA t.mask) k (t.probeStart (eQ dx))).j∉t.place.toList->(∀m,m<k->(it (jA t.mask) m (t.probeStart (eQ dx))).j∈t.place.toList)->Q (.free (it (jA t.mask) k (t.probeStart (eQ dx))).j false) s):∀(r fuel k0 K:Nat) (LY:Option Probe),LY.getD (t.probeStart (eQ dx))=it (jA t.mask) k0 (t.probeStart (eQ dx))->t.slot (it (jA t.mask) K (t.probeStart (eQ dx))).j=.empty->k0<=K->K-k0<=r->r<fuel->
   (∀m,m<k0->∃i d,t.slot (it (jA t.mask) m (t.probeStart (eQ dx))).j=.live i/\ds[i]? =some d/\d≠dx)->
   wpAny (model prog w) A (setSearchFrom a (.ref xa) (eQ dx) true fuel LY) Q E s:=by
 intro r;induction r using Nat.strongRecOn with
 |_ r ih=>
  intro fuel k0 K LY qh hK hk hr Vw Vx;obtain⟨fuel,rfl⟩:∃f,fuel=f+1:=⟨fuel-1,by omega⟩
  unfold setSearchFrom;refine aa (wpAny_setState_of ho hd hf ?_);dsimp only;rw[W.Ye];simp only[aI,bD];rw[qh];obtain⟨e0,Yg,Se⟩:=W.emp;have HK:=Pm.it k0 (t4 t (eQ dx));obtain⟨q,hq,hqe⟩:=reach W.mask HK.pb.nine HK.pb.OT Yg;obtain⟨k,Vy,Vz⟩:=LP W.tb (ha:=λi=>(es[i]?.map (·.1)).getD 0) (h:=eQ dx) (10*turns t.mask) _ HK.pb ⟨q,hq,by rw[hqe];exact Se⟩
  have tot:∀m,it (jA t.mask) m (it (jA t.mask) k0 (t.probeStart (eQ dx)))=it (jA t.mask) (k0+m) (t.probeStart (eQ dx)):=λm=>(sN _ _ _ _).symm
  simp only[tot]at Vy Vz;have entry:∀i j,t.slot j=.live i->∃e d,es[i]? =some e/\ds[i]? =some d/\El P s.heap e d/\t.place[i]? =some j:=λi j hj=>by
   rcases xT W.tb j with⟨i',h1,h2⟩|⟨h1,_⟩
   ·rw[hj]at h1;cases h1;have fu:i<es.size:=by
     have:=(Array.getElem?_eq_some_iff.mp h2).1;have hl:=W.len;simp at hl;omega
    obtain⟨d,h3,h4⟩:=hE.2 i es[i] (by simp[fu])
    exact⟨es[i],d,by simp[fu],h3,h4,h2⟩
   ·rw[hj]at h1;cases h1
  have other:∀m,m<k->∃i d,t.slot (it (jA t.mask) (k0+m) (t.probeStart (eQ dx))).j=.live i/\ds[i]? =some d/\d≠dx:=λm hm=>by
   obtain⟨i,h1,h2⟩:=Vy m hm;obtain⟨e,d,h3,h4,h5,_⟩:=entry i _ h1;refine⟨i,d,h1,h4,λz=>h2 ?_⟩
   rw[h3];show e.1=_;rw[h5.hash,z]
  have LZ:∀m,m<k0+k->∃i d,t.slot (it (jA t.mask) m (t.probeStart (eQ dx))).j=.live i/\ds[i]? =some d/\d≠dx:=λm hm=>by
   by_cases VA:m<k0
   ·exact Vx m VA
   ·obtain⟨m',rfl⟩:∃m',m=k0+m':=⟨m-k0,by omega⟩
    exact other m' (by omega)
  rcases Vz with⟨OW,e⟩|⟨i,L1,hha,e⟩
  ·
   have Gp:dx∉ds:=λm6=>by
    obtain⟨i,hi⟩:=bp m6;have fu:i<es.toList.length:=by rw[hE.1];exact(List.getElem?_eq_some_iff.mp hi).1
    obtain⟨d,h1,h2⟩:=hE.2 i _ (ah fu);rw[hi]at h1;cases h1;obtain⟨ki,p1,p2⟩:=W.way i (eQ dx) (by rw[av,ah fu];exact congrArg some h2.hash)
    have Qr:(it (jA t.mask) (k0+k) (t.probeStart (eQ dx))).j∉t.place.toList:=λz=>by
     obtain⟨i',xv⟩:=bp z;rw[rC W.tb (i:=i') (by simpa using xv)]at OW;cases OW
    rcases Nat.lt_trichotomy ki (k0+k)with OX|heq|Qb
    ·obtain⟨i',d',q1,q2,q3⟩:=LZ ki OX;rw[rC W.tb p1]at q1;cases q1;rw[hi]at q2;exact q3 (aS q2).symm
    ·subst heq;exact Qr (Array.mem_toList_iff.mpr (Array.mem_of_getElem? p1))
    ·exact Qr (p2 _ Qb)
   have fin:=WH Gp (k0+k) (λz=>by
     obtain⟨i',xv⟩:=bp z;rw[rC W.tb (i:=i') (by simpa using xv)]at OW;cases OW) (λm hm=>by
     obtain⟨i,d,q1,_⟩:=LZ m hm;obtain⟨_,_,_,_,_,q5⟩:=entry i _ q1;exact Array.mem_toList_iff.mpr (Array.mem_of_getElem? q5))
   split
   ·rename_i met hm;have z:=hm.symm.trans e;cases z;exact aj fin
   ·rename_i hm;exact(hm _ e).elim
  ·obtain⟨⟨hv,y⟩,d,h3,h4,h5,h6⟩:=entry i _ L1;obtain⟨b,hyb⟩:=h5.ref;have VB:y=.ref b:=hyb;have abP:k0+k<K:=by
    rcases Nat.lt_trichotomy K (k0+k)with fu|heq|Qb
    ·obtain⟨i',d',q1,_⟩:=LZ K fu;rw[hK]at q1;cases q1
    ·subst heq;rw[hK]at L1;cases L1
    ·exact Qb
   have Qs:t.sameMemory t.moves t.mask=some true:=by unfold sameMemory;rw[if_pos (bM _)]
   have VC:jf d dx=decide (d=dx):=KI.jf h5.ki hx;split
   ·rename_i met hm;have z:=hm.symm.trans e;cases z;dsimp only;split
    ·refine aa (OV hx Qn _ (λv hv=>?_) ?_)
     ·obtain⟨en,hen,rfl⟩:=List.mem_map.mp hv;have Yh:en∈es.toList:=by
       have:=Array.mem_toList_iff.mp hen;exact Array.mem_toList_iff.mpr (Array.mem_filter.mp this).1
      obtain⟨i',xv⟩:=bp Yh;obtain⟨d',_,h8⟩:=hE.2 i' en xv;exact⟨d',h8.ki,h8.dep⟩
     simp only[aI,bD];rw[h3];dsimp only;refine aa (bo ((KI.eq 4 A s y (.ref xa) d dx h5.dep (by omega) h5.ki hx) prog w _ _ ?_))
     refine aa (wpAny_setState_of ho hd hf ?_);dsimp only;rw[VC];by_cases OY:d=dx
     ·rw[aR OY];exact aj (ZM (OY▸bh h4))
     ·rw[aH OY,Qs];simp only[Bool.and_false,aI,bD,if_true];rw[L1];dsimp only;rw[h3];dsimp only;rw[VB];refine aa (wpAny_isSame_ref_self ?_);refine aa (aj ?_);simp only[if_true];exact ih (K-(k0+k+1)) (by omega) fuel (k0+k+1) K _ rfl hK (by omega) (au _) (by omega) λm CT=>by
       by_cases VA:m<k0+k
       ·exact LZ m VA
       ·have:m=k0+k:=by omega
        subst this;exact⟨i,d,L1,h4,OY⟩
    ·rw[h3];dsimp only;refine aa (bo ((KI.eq 4 A s y (.ref xa) d dx h5.dep (by omega) h5.ki hx) prog w _ _ ?_))
     refine aa (wpAny_setState_of ho hd hf ?_);dsimp only;rw[VC];by_cases OY:d=dx
     ·rw[aR OY];exact aj (ZM (OY▸bh h4))
     ·rw[aH OY,Qs];simp only[Bool.and_false,aI,bD,if_true];rw[L1];dsimp only;rw[h3];dsimp only;rw[VB];refine aa (wpAny_isSame_ref_self ?_);refine aa (aj ?_);simp only[if_true];exact ih (K-(k0+k+1)) (by omega) fuel (k0+k+1) K _ rfl hK (by omega) (au _) (by omega) λm CT=>by
       by_cases VA:m<k0+k
       ·exact LZ m VA
       ·have:m=k0+k:=by omega
        subst this;exact⟨i,d,L1,h4,OY⟩
   ·rename_i hm;exact(hm _ e).elim
end
mutual
theorem ki_set {h h':Heap}{x:cE}{ox:Obj}{es:Array (Int×cx)}{ep:Nat}{t:cD}(ho:h.get? x=some ox) (hd:ox.data=.set es ep t) (hs:Heap.SameBut x h h'):∀{v:cx}{d:D},KI h v d->KI h' v d
 |_,_,.int n t=>.int n t
 |_,_,@KI.tup _ a o items n ds h1 h2 h3 l=>by
  have jg:a≠x:=by
   rintro rfl
   rw[ho]at h1;cases h1;rw[hd]at h3;exact nomatch h3
  exact .tup ((hs.2 a jg).trans h1) h2 h3 (HL ho hd hs l)
theorem HL {h h':Heap}{x:cE}{ox:Obj}{es:Array (Int×cx)}{ep:Nat}{t:cD}(ho:h.get? x=some ox) (hd:ox.data=.set es ep t) (hs:Heap.SameBut x h h'):∀{vs:cw}{ds:cu},sL h vs ds->sL h' vs ds
 |_,_,.nil=>.nil
 |_,_,.cons h t=>.cons (ki_set ho hd hs h) (HL ho hd hs t)
end
theorem Gn.imp (e:Gn P h es ds) (m:∀v d,KI h v d->KI h' v d):Gn P h' es ds:=
 ⟨e.1,λi x hx=>let ⟨d,h1,h2⟩:=e.2 i x hx;⟨d,h1,⟨m _ _ h2.ki,h2.hash,h2.dep,h2.ref,h2.src⟩⟩⟩
theorem Gn.ins (e:Gn P h es ds) (hp:p<=es.length) (hx:El P h x d):Gn P h (ST.ins es p x) (ST.ins ds p d):=by
 have BZ:p<=ds.length:=by rw[<-e.1];exact hp
 refine⟨by rw[mO hp,mO BZ,e.1],λi y hy=>?_⟩
 rw[ng hp]at hy;rw[ng BZ];by_cases c1:i<p
 ·rw[if_pos c1]at hy ⊢;exact e.2 i y hy
 ·rw[if_neg c1]at hy ⊢;by_cases c2:i=p
  ·rw[if_pos c2]at hy ⊢;cases hy;exact⟨d,rfl,hx⟩
  ·rw[if_neg c2]at hy ⊢;exact e.2 (i-1) y hy
theorem Gq {α:Type}(l:List α):∀(order:List Nat),(∀k∈order,k<l.length)->∀i:Nat,(order.filterMap λk:Nat=>l[k]?)[i]? =(order[i]?).bind λk:Nat=>l[k]?
 |[],_,i=>by simp
 |a::r,h,i=>by
  have ha:=h a af;have e:l[a]? =some l[a]:=ah ha;rw[List.filterMap_cons,e];cases i with
  |zero=>simp[e]
  |succ i=>simpa using Gq l r (λk hk=>h k (ai _ hk)) i
theorem Gn.reorder {P:cx->Prop}{h:Heap}{es:List (Int×cx)}{ds:cu}(e:Gn P h es ds) {order:List Nat}(hp:order.Perm (List.range es.length)):Gn P h (order.filterMap λk:Nat=>es[k]?) (order.filterMap λk:Nat=>ds[k]?)/\(order.filterMap λk:Nat=>ds[k]?).Perm ds:=by
 have m6:∀k∈order,k<es.length:=λk hk=>List.mem_range.mp (hp.mem_iff.mp hk)
 have VD:∀k∈order,k<ds.length:=λk hk=>by rw[<-e.1];exact m6 k hk
 have VE:∀{α:Type}(l:List α) (o:List Nat),(∀k∈o,k<l.length)->(o.filterMap λk:Nat=>l[k]?).length=o.length:=λl o=>by
  induction o with
  |nil=>intro _;rfl
  |cons a r ih=>
   intro hh;rw[List.filterMap_cons,ah (hh a af)];show(r.filterMap λk:Nat=>l[k]?).length+1=_
   rw[ih λk hk=>hh k (ai _ hk)];rfl
 refine⟨⟨by rw[VE es order m6,VE ds order VD],λi x hx=>?_⟩,?_⟩
 ·rw[Gq es order m6]at hx;rw[Gq ds order VD];cases hk:order[i]? with
  |none=>rw[hk]at hx;cases hx
  |some k=>rw[hk]at hx;exact e.2 k x hx
 ·have h1:=hp.filterMap (λk:Nat=>ds[k]?)
  rw[e.1,range_all]at h1;exact h1
section
variable {prog:cA}{w:cB}{A:cC}{E:cf}{s:cy}
theorem VF (n:Nat):∀(A:cC) (s:cy) (v:cx) (d:D) (Q:Bool->cy->Prop),eh d<=n->KI s.heap v d->Q true s->wpAny (model prog w) A (hashByValue n v) Q E s:=by
 induction n with
 |zero=>
  intro A s v d Q hn k h;cases k with
  |int i t=>unfold hashByValue;exact aj h
  |tup h1 h2 h3 l=>unfold eh at hn;omega
 |succ n ih=>
  intro A s v d Q hn k h;cases k with
  |int i t=>unfold hashByValue;exact aj h
  |@tup a o items m ds ho hc hd l=>
   have hT:s.TypeIs (.ref a) "tuple":=⟨o,ho,hc⟩;have Bh:ju ds<=n:=by unfold eh at hn;omega
   unfold hashByValue;refine aa (wpAny_specialOf hT F.slot_tuple_hash.lookup ?_);dsimp only;refine aa (wpAny_seqItems ho hd ?_);refine aa ?_;show wpAny _ _ (forIn items _ _) _ _ s;rw[<-Array.forIn_toList];refine wpAny_forIn_list _ (λrest r s'=>r.1=none/\s'=s/\∃es,(∀e∈es,eh e<=n)/\sL s.heap rest es) _ ?_ ?_ _ _ ⟨rfl,rfl,ds,λe he=>aD (lr he) Bh,l⟩
   ·rintro v rest r s' ⟨hr,rfl,es,he,hk⟩
    cases hk with
    |cons k1 k2=>
     refine aa (ih A s' v _ _ (he _ af) k1 ?_);simp only[bS,aI,bD];exact aj ⟨rfl,rfl,_,λe h=>he e (ai _ h),k2⟩
   ·rintro⟨r1,r2⟩ s' ⟨hr,rfl,_⟩
    simp only at hr;subst hr;exact aj h
structure wt (P:cx->Prop) (ld:Bool) (h:Heap) (a:cE) (ds:cu):Prop where
 ex:∃(o:Obj) (es:Array (Int×cx)) (ep:Nat) (t:cD),h.get? a=some o/\o.ExactSet/\o.data=.set es ep t/\Wt t (es.toList.map (·.1))/\Gn P h es.toList ds/\t.place.size*5<t.mask*3/\t.plain=true/\t.led=ld
 nd:ds.Nodup
theorem Wt.fits {t:cD}{es:Array (Int×cx)}(W:Wt t (es.toList.map (·.1))):t.fits es.size=true:=by
 have h1:=W.len;have h2:=W.room;simp at h1;unfold SetTable.fits SetTable.fill;rw[W.tb.Vt];simp only[Bool.and_eq_true,beq_iff_eq,decide_eq_true_eq,aq,List.length_nil];omega
theorem L3 (l:List α) (p:Nat) (x:α):(ins l p x).Perm (x::l):=by
 unfold ins;refine List.perm_middle.trans (List.Perm.cons x ?_);rw[List.take_append_drop]
theorem Sf {P:cx->Prop}{ld:Bool}{a xa:cE}{ds:cu}{dx:D}{Q:Bool->cy->Prop}(S:wt P ld s.heap a ds) (hx:KI s.heap (.ref xa) dx) (Qn:eh dx<=4) (hP:P (.ref xa)) (hu:A.units+8<cLine) (hn:ds.length<18)
  (h:∀h' Ho,Heap.SameBut a s.heap h'->wt P ld h' a Ho->Ho.Perm (if dx∈ds then ds else dx::ds)->Q (!decide (dx∈ds)) {s with heap:=h'}):
  wpAny (model prog w) A (setAddHashed a (.ref xa) (eQ dx)) Q E s:=by
 obtain⟨o,es,ep,t,ho,hex,hd,W,hE,jb,kf,VG⟩:=S.ex;have hf:=W.fits;have hlen:t.place.size=es.size:=by have:=W.len;simpa using this
 unfold setAddHashed setAddHashedIn;refine bo (aa (wpAny_setState_of ho hd hf ?_));dsimp only;have VH:byScan (.ref xa) es=false:=rfl;rw[VH];simp only[aI,bD];obtain⟨e0,Yg,Se⟩:=W.emp;have HK:=t4 t (eQ dx);obtain⟨K,Wu,XO⟩:=reach W.mask HK.pb.nine HK.pb.OT Yg;have hK3:K<100000:=by
  rcases W.mask with hm|hm<;>(rw[hm]at Wu;unfold turns at Wu;omega)
 unfold setSearch;refine aa (JD ho hd hf W hE hx Qn hu (λm6=>?_) (λGp k Sg Qt=>?_) K 100000 0 K none rfl (by rw[XO];exact Se) (bK _) (by omega) hK3 (λm hm=>by omega))
 ·have:=h s.heap ds (Heap.SameBut.refl a s.heap) S (by rw[if_pos m6])
  rw[aR m6]at this;exact aj this
 ·dsimp only;refine aa (wpAny_setState_of ho hd hf ?_);dsimp only;have hr1:t.place.size+1<t.mask+1:=by omega
  obtain⟨W1,NG,Lf,Sh⟩:=W.put Sg Qt hr1;have L4:(t.put (it (jA t.mask) k (t.probeStart (eQ dx))).j).1.plain=true:=kf;have OZ:(t.put (it (jA t.mask) k (t.probeStart (eQ dx))).j).1.led=ld:=VG;generalize t.put (it (jA t.mask) k (t.probeStart (eQ dx))).j=tp at W1 NG Lf Sh L4 OZ;obtain⟨t1,p⟩:=tp;dsimp only at W1 NG Lf Sh L4 OZ;rw[if_pos L4];refine aa (VF 8 A s (.ref xa) dx _ (by omega) hx ?_)
  simp only[if_true];have WN:p<=es.toList.length:=by simpa using NG
  have Yi:(insertAt es p (eQ dx,Value.ref xa)).toList=ins es.toList p (eQ dx,Value.ref xa):=sg _ _ _;have ZN:Wt t1 ((insertAt es p (eQ dx,Value.ref xa)).toList.map (·.1)):=by rw[Yi,ins_map];exact W1
  have VI:(insertAt es p (eQ dx,Value.ref xa)).size=es.size+1:=by
   rw[<-aN,Yi,mO WN,aN]
  have abT:ds.length=es.size:=by rw[<-hE.1,aN]
  refine aa (wpAny_storeSet_of ho hd ?_ (by rw[VI];exact aD (by omega:es.size+1<=100) (by decide)))
  have Yj:Heap.SameBut a s.heap (s.heap.update a (Obj.putSet (insertAt es p (eQ dx,Value.ref xa)) t1)):=Heap.SameBut.update ..;have vS:(s.heap.update a (Obj.putSet (insertAt es p (eQ dx,Value.ref xa)) t1)).get? a=some {o with data:=.set (insertAt es p (eQ dx,Value.ref xa)) (ep+1) t1}:=by
   have:=Heap.get?_update_self (Obj.putSet (insertAt es p (eQ dx,Value.ref xa)) t1) ho (by rw[putSet_of _ t1 hd];rfl)
   rw[putSet_of _ t1 hd]at this;exact this
  have ZO:∀v d,KI s.heap v d->KI (s.heap.update a (Obj.putSet (insertAt es p (eQ dx,Value.ref xa)) t1)) v d:=λv d=>ki_set ho hd Yj
  have ZP:Gn P (s.heap.update a (Obj.putSet (insertAt es p (eQ dx,Value.ref xa)) t1)) (insertAt es p (eQ dx,Value.ref xa)).toList (ins ds p dx):=by
   rw[Yi];exact(hE.imp ZO).ins WN ⟨ZO _ _ hx,rfl,Qn,⟨xa,rfl⟩,hP⟩
  have xW:(ins ds p dx).Perm (dx::ds):=L3 ds p dx;have ND:(ins ds p dx).Nodup:=xW.nodup_iff.mpr (List.nodup_cons.mpr ⟨Gp,S.nd⟩);have Qu:t1.fill=t1.place.size:=by unfold SetTable.fill;rw[W1.tb.Vt];rfl
  have VJ:(!decide (dx∈ds))=true:=by rw[aH Gp];rfl
  by_cases HM:t1.tooFull=true
  ·
   have Vw:t1.mask*3<=t1.place.size*5:=by
    have:decide (t1.fill*5 ≥ t1.mask*3)=true:=HM;rw[Qu]at this;have:=bJ this;omega
   have ZQ:t.mask=7:=by
    rcases W.mask with hm|hm
    ·exact hm
    ·rw[Lf,hm,Sh]at Vw;omega
   have h4:es.size=4:=by rw[Lf,ZQ,Sh]at Vw;rw[ZQ]at jb;omega
   generalize abU:insertAt es p (eQ dx,Value.ref xa)=zB at *;have Si:zB.size=5:=by rw[VI,h4]
   obtain⟨t2,order,VL,Yk,W2,CT,VM,Yl,_⟩:=OU (mask:=31) (.inr rfl) t1.finger (t1.movedTo 31) t1.led t1.plain (zB.map (·.1)) (by simp[Si])
   have Qv:order.Perm (List.range zB.size):=by simpa using Yk
   obtain⟨rp,Ym⟩:=reorder (es:=zB) Qv;have hsz2:(order.toArray.filterMap (zB[·]?)).size=zB.size:=by
    have:=rp.length_eq
    simpa using this
   have ZR:Wt t2 ((order.toArray.filterMap (zB[·]?)).toList.map (·.1)):=by rw[Ym (·.1)];exact W2
   simp only[Bool.not_false,Bool.true_and,if_pos HM];refine aa ?_;unfold setRelay;refine aa (wpAny_setState_of vS rfl ZN.fits ?_);dsimp only;have hw:sizeAbove (grown (es.size+1))=32:=by rw[h4];rfl
   have hre:t1.relaid (zB.map (·.1)) (grown (es.size+1))=some (t2,order.toArray):=by unfold relaid;rw[hw];exact VL
   rw[hw,if_neg (by decide),hre]
   refine aa ?_;show wpAny _ _ (if((order.toArray.filterMap (zB[·]?)).size !=zB.size)=true then(unsupported "internal:set-table-lost-an-element">>=λ_=>pure (order.toArray.filterMap (zB[·]?),t2))else pure (order.toArray.filterMap (zB[·]?),t2)) _ _ _
   rw[if_neg (by rw[hsz2];simp)]
   refine aj ?_;dsimp only;refine wpAny_storeSet_of vS rfl ?_ (by rw[hsz2,Si];decide)
   have ZS:Heap.SameBut a (s.heap.update a (Obj.putSet zB t1)) ((s.heap.update a (Obj.putSet zB t1)).update a (Obj.putSet (order.toArray.filterMap (zB[·]?)) t2)):=Heap.SameBut.update ..
   have wj:((s.heap.update a (Obj.putSet zB t1)).update a (Obj.putSet (order.toArray.filterMap (zB[·]?)) t2)).get? a=some {o with data:=.set (order.toArray.filterMap (zB[·]?)) (ep+1+1) t2}:=by
    have:=Heap.get?_update_self (Obj.putSet (order.toArray.filterMap (zB[·]?)) t2) vS (by rw[putSet_of _ t2 rfl];rfl)
    rw[putSet_of _ t2 rfl]at this;exact this
   have eq2:(order.toArray.filterMap (zB[·]?)).toList=order.filterMap λk:Nat=>zB.toList[k]? :=by simp
   obtain⟨ZT,VN⟩:=(ZP.imp (λv d=>ki_set vS rfl ZS)).reorder (order:=order) (by simpa using Qv)
   rw[<-eq2]at ZT;have:=h _ _ (Yj.trans ZS) ⟨⟨_,_,_,t2,wj,hex,rfl,ZR,ZT,by have h1:=ZR.len;rw[ae,aN,hsz2,Si]at h1;rw[CT,h1];decide,by rw[Yl];exact L4,by rw[VM];exact OZ⟩,(VN.trans xW).nodup_iff.mpr (List.nodup_cons.mpr ⟨Gp,S.nd⟩)⟩ (by rw[if_neg Gp];exact VN.trans xW)
   rw[VJ]at this;exact aj this
  ·have Vw:t1.place.size*5<t1.mask*3:=by
    have h0:¬ (decide (t1.fill*5 ≥ t1.mask*3)=true):=HM;rw[Qu]at h0
    simpa using h0
   simp only[Bool.not_false,Bool.true_and,if_neg HM];have:=h _ (ins ds p dx) Yj ⟨⟨_,_,_,t1,vS,hex,rfl,ZN,ZP,Vw,L4,OZ⟩,ND⟩ (by rw[if_neg Gp];exact xW)
   rw[VJ]at this;exact aj this
end
def Tk (h h':Heap):Prop:=∀b o,h.get? b=some o->o.cls=.type "tuple"->h'.get? b=some o
theorem Tk.trans (a:Tk h h1) (b:Tk h1 h2):Tk h h2:=λx o e c=>b x o (a x o e c) c
mutual
theorem L5 {h h':Heap}(t:Tk h h'):∀{v:cx}{d:D},KI h v d->KI h' v d
 |_,_,.int n t=>.int n t
 |_,_,.tup h1 h2 h3 l=>.tup (t _ _ h1 h2) h2 h3 (L6 t l)
theorem L6 {h h':Heap}(t:Tk h h'):∀{vs:cw}{ds:cu},sL h vs ds->sL h' vs ds
 |_,_,.nil=>.nil
 |_,_,.cons h r=>.cons (L5 t h) (L6 t r)
end
theorem wt.mono {P:cx->Prop}{ld:Bool}{h h':Heap}{a:cE}{ds:cu}(S:wt P ld h a ds) (hS:∀o,h.get? a=some o->h'.get? a=some o) (t:Tk h h'):wt P ld h' a ds:=by
 obtain⟨o,es,ep,tb,h1,h2,h3,h4,h5,h6,h7⟩:=S.ex;exact⟨⟨o,es,ep,tb,hS o h1,h2,h3,h4,h5.imp λv d=>L5 t,h6,h7⟩,S.nd⟩
theorem wt.tk {P:cx->Prop}{ld:Bool}{h h':Heap}{a:cE}{ds:cu}(S:wt P ld h a ds) (hs:Heap.SameBut a h h'):Tk h h':=λb o e c=>by
 obtain⟨o',es,ep,tb,h1,h2,_⟩:=S.ex;have jg:b≠a:=λz=>by
  subst z;rw[h1]at e;cases e;rw[h2.1]at c;exact absurd c (by decide)
 exact(hs.2 b jg).trans e
theorem Gr (led:Bool) (ho:h.get? a=some {cls:=.type "set",dict:=none,data:=.set #[] 0 (.fresh 0 0 led)}):wt P led h a []:=
 ⟨⟨_,#[],0,_,ho,⟨rfl,rfl,rfl⟩,rfl,LS led,⟨rfl,λi e he=>by simp at he⟩,by show 0*5<7*3;decide,rfl,rfl⟩,List.nodup_nil⟩
section
variable {prog:cA}{w:cB}{A:cC}{R:Result->cy->Prop}{I:cE}{fp wr:List cE}{G:Array GenState->Array GenState->Prop}{n:Nat}{P:Nat->cx->Prop}{St:Nat->cy->Prop}
theorem VO {Pv:cx->Prop}{ld:Bool}(W:WalksS prog w A.in1 I fp wr G n P St) (S:cE) (WR:S∉fp) (val:Nat->D) (h0:Heap)
  (Gs:∀i v,P i v->(∃xa,v=.ref xa)/\eh (val i)<=4/\KI h0 v (val i)/\Pv v) (hb:n<=18) (hu:A.units+9<cLine)
  (hwr:∀i (s:cy) b o,St i s->b∈wr->s.heap.get? b=some o->o.cls≠.type "tuple"):
  ∀(k i:Nat) (s:cy),n-i=k->i<=n->St i s->Tk h0 s.heap->
   (∃ds,wt Pv ld s.heap S ds/\ds.length<=i/\∀d,d∈ds↔∃m,m<i/\val m=d)->
   (∀s',Moved (S::wr) G s s'->Tk h0 s'.heap->(∃ds,wt Pv ld s'.heap S ds/\ds.length<=n/\∀d,d∈ds↔∃m,m<n/\val m=d)->R (.ok (.ret .none)) s')->
   codeAny (model prog w) A (.builtin "set.update.loop" ⟨[.ref S,.ref I],[]⟩) R s:=by
 have ZU:S∉wr:=λh=>WR (W.sub _ h)
 have JE:∀b∈wr,b∈S::wr:=λb hb=>ai _ hb
 have WT:∀{i:Nat}{s s':cy},St i s->Moved wr G s s'->Tk s.heap s'.heap:=λqh hm b o e c=>hm.heap b o (λhb=>hwr _ _ b o qh hb e c) e
 intro k;induction k with
 |zero=>
  intro i s hk hi qh hT ⟨ds,hS,hl,DT⟩ hR;have m6:i=n:=by omega
  subst m6;refine codeAny_builtin PyProof.Rows.F.entry_set_update_loop ?_;rw[bW PyProof.Rows.F.plain_set_update_loop _];show wpAny _ A.in1 (pyNext (.ref I)>>=_) _ _ s;refine aa (W.done s _ _ qh λs' hm=>?_)
  show wpAny _ A.in1 (ret Value.none) _ _ s';exact aj (hR s' ⟨λb o hb e=>hm.heap b o (λz=>hb (JE b z)) e,hm.gens,hm.drawn,hm.os,hm.toks⟩ (hT.trans (WT qh hm)) ⟨ds,hS.mono (λo e=>hm.heap S o ZU e) (WT qh hm),hl,DT⟩)
 |succ k ih=>
  intro i s hk hi qh hT ⟨ds,hS,hl,DT⟩ hR;have fu:i<n:=by omega
  refine codeAny_builtin PyProof.Rows.F.entry_set_update_loop ?_;rw[bW PyProof.Rows.F.plain_set_update_loop _];show wpAny _ A.in1 (pyNext (.ref I)>>=_) _ _ s;refine aa (W.item i s _ _ fu qh λv s' hP JF hm=>?_)
  obtain⟨⟨xa,rfl⟩,L7,hki,hpv⟩:=Gs i v hP;have ZV:=hT.trans (WT qh hm);have O0:=hS.mono (λo e=>hm.heap S o ZU e) (WT qh hm)
  show wpAny _ A.in1 (holding [Value.ref xa] (setAdd S (.ref xa))>>=_) _ _ s';refine aa (bo ?_);unfold setAdd;refine bo ?_;have VP:=L5 ZV hki;refine aa (KI.hash 4 A.in1 s' (.ref xa) (val i) _ L7 (by show A.units+1+4<cLine;omega) VP ?_)
  refine Sf (s:={s' with toks:=s'.toks+xG (val i)}) O0 VP L7 hpv (by show A.units+1+8<cLine;omega) (by omega) λh' Ho Jd WU HK=>?_
  have Yn:Tk s'.heap h':=O0.tk Jd;refine aj ⟨plainId_quiet PyProof.Rows.F.plain_set_update_loop _,ih (i+1) _ (by omega) fu (W.frame _ s' _ _ JF (Nat.le_add_right _ _) λb hb o e=>?_) (ZV.trans Yn) ⟨Ho,WU,?_,λd=>?_⟩ λKj Yo hT2 Yp=>?_⟩
  ·rw[Jd.2 b (λh:b=S=>WR (by rw[<-h];exact hb))];exact e
  ·have:=HK.length_eq;by_cases m6:val i∈ds
   ·rw[if_pos m6]at this;omega
   ·rw[if_neg m6,ay]at this;omega
  ·rw[HK.mem_iff];have base:=DT d;constructor
   ·intro hd;split at hd
    ·obtain⟨m,h1,h2⟩:=base.mp hd;exact⟨m,by omega,h2⟩
    ·rcases List.mem_cons.mp hd with rfl|hd
     ·exact⟨i,by omega,rfl⟩
     ·obtain⟨m,h1,h2⟩:=base.mp hd;exact⟨m,by omega,h2⟩
   ·rintro⟨m,h1,h2⟩
    by_cases hmi:m=i
    ·subst hmi;subst h2;split
     ·rename_i m6;exact m6
     ·exact af
    ·have:=base.mpr ⟨m,by omega,h2⟩
     split
     ·exact this
     ·exact ai _ this
  ·refine hR Kj (Moved.trans W.gtrans ?_ Yo) hT2 Yp;refine⟨λb o hb e=>?_,hm.gens,hm.drawn,hm.os,?_⟩
   ·rw[Jd.2 b (λh:b=S=>hb (by rw[h];exact af))]
    exact hm.heap b o (λz=>hb (JE b z)) e
   ·exact aD hm.toks (Nat.le_add_right _ _)
end
noncomputable abbrev fq (led:Bool):Obj:={cls:=.type "set",dict:=none,data:=.set #[] 0 (.fresh 0 0 led)}
section
variable {prog:cA}{w:cB}{A:cC}{E:cf}{s:cy}
def Made (P:cx->Prop) (ld:Bool) (s:cy) (val:cu) (h':Heap):Prop:=(∃ds,wt P ld h' s.heap.objs.size ds/\∀d,d∈ds↔d∈val)/\∀b o,b<s.heap.objs.size->s.heap.get? b=some o->h'.get? b=some o
theorem JG {l:cE}{items:Array cx}{val:cu}{led:Bool}(hh:A.handled=none) (hu:A.units+20<cLine) (hl:s.heap.IsList l items) (hn:items.size=val.length)
  (hit:∀(i:Nat) (v:cx),items[i]? =some v->(∃xa,v=.ref xa)/\eh (val.getD i .eV)<=4/\KI s.heap v (val.getD i .eV)) (hb:items.size<=18) {Q:PySem.Fin->cy->Prop}
  (h:∀h' tk,Made (·∈items.toList) led s val h'->Q (.done (.ret .none)) {s with heap:=h',toks:=tk}):
  wpAny (model prog w) A (Builtin.«set.__init__» ⟨[.ref s.heap.objs.size,.ref l],[]⟩) Q E {s with heap:=s.heap.push (fq led)}:=by
 obtain⟨⟨ab1,VQ,ZW,Sj⟩,ZX,uM,nl,ZY⟩:=hl;simp only at uM ZY;subst uM ZY;have hS:(s.heap.push (fq led)).get? s.heap.objs.size=some (fq led):=az _ rfl;have hT:Shared.TypeIs {s with heap:=s.heap.push (fq led)} (.ref s.heap.objs.size) "set":=⟨_,hS,rfl⟩
 have Yq:(s.heap.push (fq led)).get? l=some {cls:=.type "list",dict:=VQ,data:=.seq items nl,slots:=Sj}:=ag _ ZX;have ab2:=PySem.F.sub_list_set;have ab3:=PySem.F.sub_list_frozenset;have jg:(Value.type "list"==Value.type "dict")=false:=by decide
 have WV:(s.heap.push (fq led)).IsList l items:=⟨_,Yq,rfl,nl,rfl⟩;unfold Builtin.«set.__init__» noKeywords Builtin.Frozenset.updateFrom;generalize hPI:pyIter=PI
 wp_walk
 subst hPI;refine wpAny_pyIter_list WV ?_;refine aa (wpAny_runValue ?_);have ZZ:l<s.heap.objs.size:=aB ZX;have Yr:(s.heap.push (fq led)).objs.size=s.heap.objs.size+1:=Heap.size_push ..;have Sk:l≠(s.heap.push (fq led)).objs.size:=by rw[Yr];exact aE (Nat.lt_succ_of_lt ZZ)
 have WR:s.heap.objs.size∉[(s.heap.push (fq led)).objs.size,l]:=by
  rw[Yr];simp only[List.mem_cons,bH,or_false,not_or];exact⟨aE (Nat.lt_succ_self _),bw ZZ⟩
 have hgS:((s.heap.push (fq led)).push {cls:=.type "list_iterator",data:=.fields #[.ref l,.int 0 0]}).get? s.heap.objs.size=some (fq led):=ag _ hS;have W:=(Walks.list (prog:=prog) (w:=w) (A:=A.in1) hh (s.heap.push (fq led)).objs.size l Sk items).toS;refine VO (Pv:=(·∈items.toList)) W s.heap.objs.size WR (λi=>val.getD i .eV) s.heap (λi v hv=>⟨(hit i v hv).1,(hit i v hv).2.1,(hit i v hv).2.2,Array.mem_toList_iff.mpr (Array.mem_of_getElem? hv)⟩) hb (by omega) (λi s' b o st hbw e c=>?_) (items.size-0) 0 _ (by omega) (bK _) ⟨⟨_,az _ rfl,rfl,rfl⟩,WV.push _⟩ (λb o e _=>ag _ (ag _ e)) ⟨[],Gr led hgS,au _,λd=>⟨(λz=>by cases z),λ⟨m,hm,_⟩=>by omega⟩⟩ (λs' hm Z0 ⟨ds,hSt,_,DT⟩=>?_)
 ·have Kk:b=(s.heap.push (fq led)).objs.size:=by simpa using hbw
  obtain⟨o',e',c',_⟩:=st.1;subst Kk;rw[e]at e';cases e';rw[c]at c';exact absurd c' (by decide)
 ·obtain⟨h',g',d',t5,Uw⟩:=s';have eg:g'=s.gens:=hm.gens;have ed:d'=s.drawn:=hm.drawn;have eo:Uw=s.os:=hm.os;subst eg ed eo;show wpAny _ _ _ _ _ _;refine aj ?_;show wpAny _ _ (ret Value.none) _ _ _;refine aj (h h' t5 ⟨⟨ds,hSt,λd=>(DT d).trans ⟨λ⟨m,Lf,CT⟩=>?_,λhd=>?_⟩⟩,λb o hb e=>?_⟩)
  ·have:m<val.length:=by rw[<-hn];exact Lf
   rw[<-CT];show val.getD m .eV∈val;rw[ak,ah this];exact List.getElem_mem this
  ·obtain⟨m,CT⟩:=bp hd;refine⟨m,by rw[hn];exact(List.getElem?_eq_some_iff.mp CT).1,?_⟩
   show val.getD m .eV=d;rw[ak,CT];rfl
  ·have hb1:b≠s.heap.objs.size:=aE hb;have Vq:b≠(s.heap.push (fq led)).objs.size:=by rw[Yr];exact aE (Nat.lt_succ_of_lt hb)
   exact hm.heap b o (by simp only[List.mem_cons,bH,or_false,not_or];exact⟨hb1,Vq⟩) (ag _ (ag _ e))
end
section
variable {prog:cA}{w:cB}{A:cC}{E:cf}{s:cy}
theorem O1 (a:cx) (h:Q₁ (.ref s.heap.objs.size) {s with heap:=s.heap.push (fq (!w.params.followText "set-order"))}):codeAny (model prog w) A (.call (.builtin "set.__new__") ⟨[.type "set",a],[]⟩) (wants Q₁ E) s:=by
 refine codeAny_of_tree ?_;show wpAny _ A.in1 (checkBuiltinCall "set.__new__" ⟨[.type "set",a],[]⟩>>=λ_=>again (.builtin "set.__new__" ⟨[.type "set",a],[]⟩)) _ _ s
 refine aa (wpAny_of_eq (PySem.F.newCall_set_1 a) (aj ⟨plainId_quiet PySem.F.plain_set_new _,codeAny_builtin PySem.F.entry_set_new ?_⟩));rw[bW PySem.F.plain_set_new _];unfold Builtin.«set.__new__» Builtin.Frozenset.newClass;have JE:=sub_set_self;obtain⟨hp,g,d,tk,os⟩:=s;dsimp only
 wp_walk
 refine wpAny_askSetting (aj ?_);dsimp only;simp only[newObj];refine aa (wpAny_alloc (aj ?_));exact aj h
set_option maxHeartbeats 8000000 in
theorem zC {x:cx}{Mk:Heap->Prop}{Q:cf}
  (Qw:∀{Q:PySem.Fin->cy->Prop},(∀h' tk,Mk h'->Q (.done (.ret .none)) {s with heap:=h',toks:=tk})->wpAny (model prog w) A.in1.in1 (Builtin.«set.__init__» ⟨[.ref s.heap.objs.size,x],[]⟩) Q E {s with heap:=s.heap.push (fq (!w.params.followText "set-order"))})
  (h:∀h' tk,Mk h'->Q (.ref s.heap.objs.size) {s with heap:=h',toks:=tk}):
  wpAny (model prog w) A (call (.type "set") [x]) Q E s:=by
 obtain⟨c,tl,ab9⟩:=PySem.F.called_set.mro;have Qx:=PySem.F.called_set.made;have JE:=PySem.F.called_set.sub;have h1:=PySem.F.called_set.notType;have h2:=PySem.F.called_set.canCreate;have WI:=PySem.F.typeCall_set_1 x;refine wpAny_call (codeAny_of_tree ?_);show wpAny _ _ (callAny (.type "set") _) _ _ _;refine aj ⟨Code.quiet_builtin _ (by decide +kernel),codeAny_builtin PySem.F.entry_type_call ?_⟩
 rw[Around.under_plain (weight_type_call_type "set" [x] []) rfl]
 repeat (any_goals (first|assumption|wp_step))
 refine codeAny_mono (O1 x (E:=E) (Q₁:=λobj s₁=>obj=.ref s.heap.objs.size/\s₁={s with heap:=s.heap.push (fq (!w.params.followText "set-order"))}) ⟨rfl,rfl⟩) λr s₁ hr=>?_
 cases r with
 |error e=>exact hr
 |ok fl=>
  cases fl with
  |ret obj=>
   obtain⟨rfl,rfl⟩:=hr;have hT:Shared.TypeIs {s with heap:=s.heap.push (fq (!w.params.followText "set-order"))} (.ref s.heap.objs.size) "set":=⟨_,az _ rfl,rfl⟩
   have L1:=PySem.F.called_set.init.lookup;have hbi:=PySem.F.called_set.init.bind (.ref s.heap.objs.size)
   repeat (any_goals (first|assumption|wp_step))
   refine codeAny_mono (codeAny_call_builtin (R:=wants (λr s₂=>r=.none/\∃h' tk,s₂={s with heap:=h',toks:=tk}/\Mk h') E) PySem.F.called_set.init.plain PySem.F.entry_set_init (check_set_init_1 hT ?_)) λr₂ s₂ Ys=>?_
   ·exact Qw λh' tk hm=>⟨rfl,h',tk,rfl,hm⟩
   ·cases r₂ with
    |error e=>exact Ys
    |ok fl₂=>
     cases fl₂ with
     |ret r=>
      obtain⟨rfl,h',tk,rfl,hm⟩:=Ys
      repeat (any_goals (first|assumption|wp_step))
      exact h _ _ hm
     |_=>exact Ys.elim
  |_=>exact hr.elim
theorem zD {l:cE}{items:Array cx}{val:cu}{Q:cf}(hh:A.handled=none) (hu:A.units+40<cLine) (hl:s.heap.IsList l items) (hn:items.size=val.length)
  (hit:∀(i:Nat) (v:cx),items[i]? =some v->(∃xa,v=.ref xa)/\eh (val.getD i .eV)<=4/\KI s.heap v (val.getD i .eV)) (hb:items.size<=18)
  (h:∀h' tk,Made (·∈items.toList) (!w.params.followText "set-order") s val h'->Q (.ref s.heap.objs.size) {s with heap:=h',toks:=tk}):
  wpAny (model prog w) A (call (.type "set") [.ref l]) Q E s:=
 zC (λhQ=>JG (s:=s) (A:=A.in1.in1) hh (by show A.units+1+1+20<cLine;omega) hl hn hit hb hQ) h
end
theorem iX:Slot "set_iterator" "__next__" "set_iterator.__next__":=
 .of (owner:="set_iterator") (n:="__next__") (by rw[typeLookup_type,builtinLookup_eq_fast];kernel_rfl) (by decide +kernel) (by decide +kernel) (by decide +kernel)
  (by first|exact .inl (by decide +kernel)|exact .inr (by decide +kernel)) (by rw[isSubtype_type];kernel_rfl)
theorem si:entryFor table "set_iterator.__next__"=some Builtin.«set_iterator.__next__»:=entryFor_of_tree (by kernel_rfl)
theorem t6 (a:cx):argsOk "set_iterator.__next__" ⟨[a],[]⟩:=by
 unfold argsOk;kernel_rfl
theorem HN (next:Nat->Nat):∀(fuel k:Nat) (left:List α) (out:Array α),left.length<=fuel->(pickOrder.go next fuel k left out).toList.Perm (out.toList++left)
 |0,k,left,out,h=>by
  have:left=[]:=List.length_eq_zero_iff.mp (by omega)
  subst this;unfold pickOrder.go;rw[bB]
 |fuel+1,k,left,out,h=>by
  unfold pickOrder.go;by_cases hl:left=[]
  ·subst hl;simp
  ·have OR:0<left.length:=List.length_pos_iff.mpr hl;have fu:next k%left.length<left.length:=Nat.mod_lt _ OR;rw[ah fu];dsimp only;refine(HN next fuel (k+1) _ _ (by rw[List.length_eraseIdx];split<;>omega)).trans ?_
   rw[Array.toList_push,List.append_assoc];refine List.Perm.append_left _ ?_;exact(LW.sM left _ fu)
theorem Aw (next:Nat->Nat) (xs:Array α):(pickOrder next xs).toList.Perm xs.toList:=by
 have:=HN next xs.size 0 xs.toList #[] (by simp)
 show(pickOrder.go next xs.size 0 xs.toList #[]).toList.Perm xs.toList
 simpa using this
noncomputable abbrev xX (first:Int) (i:Nat) (S:cE) (n ep:Nat):Obj:={cls:=.type "set_iterator",data:=.fields #[rawInt first,rawInt i,.ref S,rawInt n,rawInt ep]}
noncomputable def gi (w:cB) (a:cE) (ep:Nat) (es:Array (Int×cx)):Array (Int×cx):=if w.params.followText "set-order" then pickOrder (w.params.setOrder a ep) es else es
noncomputable def Gu (t:cD):Nat->Nat
 |0=>0
 |i+1=>t.place.getD i 0+1
def l7 (w:cB) (t:cD) (i:Nat):Nat:=if w.params.followText "set-order" then 0 else Gu t i
theorem Gv (hr:eZ t.place.toList) (i:Nat) (hi:i<=t.place.size):below t.place (Gu t i)=i:=by
 obtain⟨h1,h2,h3⟩:=o4 t.place (Gu t i) hr;cases i with
 |zero=>
  show below t.place 0=0;by_cases hz:below t.place 0=0
  ·exact hz
  ·have OR:0<below t.place 0:=by omega
   have fu:0<t.place.size:=by have FD:below t.place 0<=t.place.size:=h1;omega
   have:=h2 0 fu OR;have Z1:t.place[0]<0:=this;omega
 |succ i=>
  have fu:i<t.place.size:=by omega
  have hg:t.place.getD i 0=t.place[i]:=by simp[fu]
  have Yt:Gu t (i+1)=t.place[i]+1:=by show t.place.getD i 0+1=_;rw[hg]
  rw[Yt]at h1 h2 h3 ⊢;have lo:i<below t.place (t.place[i]+1):=by
   by_cases hc:below t.place (t.place[i]+1)<=i
   ·have:=h3 i fu hc;omega
   ·omega
  by_cases hc:below t.place (t.place[i]+1)=i+1
  ·exact hc
  ·have OX:i+1<t.place.size:=by omega
   have a1:=h2 (i+1) OX (by omega)
   have a2:=wO hr (i:=i) (k:=i+1) (by omega) (by simpa using OX)
   simp only[Array.getElem_toList]at a2;omega
section
variable {prog:cA}{w:cB}{A:cC}{E:cf}{s:cy}
theorem Gw (ho:s.heap.get? a=some o) (hd:o.data=.set es ep t) (hf:t.fits es.size=true) (hr:eZ t.place.toList) (kf:t.plain=true) (VG:t.led= !w.params.followText "set-order") (i:Nat) (hi:i<=es.size) (h:Q ((gi w a ep es)[i]?.map λe=>(e.2,l7 w t (i+1))) s):wpAny (model prog w) A (setNext a (l7 w t i) i ep) Q E s:=by
 have hsz:t.place.size=es.size:=by
  simp only[SetTable.fits,Bool.and_eq_true,beq_iff_eq,decide_eq_true_eq]at hf;exact hf.1
 unfold setNext;refine aa (wpAny_setState_of ho hd hf ?_);dsimp only;unfold setsByText;refine aa (aa (wpAny_askSetting (aj ?_)));show wpAny _ _ (if w.params.followText "set-order"=true then _ else _) _ _ _
 cases hb:w.params.followText "set-order" with
 |true=>
  rw[if_pos rfl,if_neg (by simp)]
  unfold setWalk;refine aa (aa (wpAny_setState_of ho hd hf ?_));dsimp only;unfold setsByText;refine aa (aa (wpAny_askSetting (aj ?_)));show wpAny _ _ (if w.params.followText "set-order"=true then _ else _) _ _ _
  rw[hb,if_pos rfl];refine aa (wpAny_askSetting (aj ?_));refine aj ?_;have e1:l7 w t i=l7 w t (i+1):=by unfold l7;rw[hb];rfl
  unfold gi at h;rw[hb,if_pos rfl]at h;rw[e1];exact h
 |false=>
  rw[if_neg aZ,if_neg (λhc=>by
   have h2:(!t.plain&&decide (es.size>1))=true:=hc;rw[kf]at h2;cases h2)]
  refine aa ?_;show wpAny _ _ (if(!t.led&& !es.isEmpty)=true then unsupported "set:maker-not-led" else pure ()) _ _ _
  rw[if_neg (by rw[VG,hb];simp)]
  refine aj ?_;refine aj ?_;have e1:l7 w t i=Gu t i:=by unfold l7;rw[hb];rfl
  rw[e1,Gv hr i (by omega)]
  unfold gi at h;rw[hb,if_neg aZ]at h;by_cases fu:i<es.size
  ·have g1:es[i]? =some es[i]:=by simp[fu]
   have g2:t.place[i]? =some t.place[i]:=by simp[hsz,fu]
   rw[g1]at h ⊢;rw[g2];have e2:l7 w t (i+1)=t.place[i]+1:=by unfold l7 Gu;rw[hb];simp[hsz,fu]
   rw[e2]at h;exact h
  ·have g1:es[i]? =none:=by simp;omega
   rw[g1]at h ⊢;exact h
end
theorem t7:Slot "set_iterator" "__iter__" "set_iterator.__iter__":=
 .of (owner:="set_iterator") (n:="__iter__") (by rw[typeLookup_type,builtinLookup_eq_fast];kernel_rfl) (by decide +kernel) (by decide +kernel) (by decide +kernel)
  (by first|exact .inl (by decide +kernel)|exact .inr (by decide +kernel)) (by rw[isSubtype_type];kernel_rfl)
theorem B0 (a:cx):argsOk "set_iterator.__iter__" ⟨[a],[]⟩:=by unfold argsOk;kernel_rfl
theorem zE:entryFor table "set_iterator.__iter__"=some Builtin.«dict_keyiterator.__iter__»:=
 entryFor_alias (id':="dict_keyiterator.__iter__") (by kernel_rfl) (by first|rfl|decide +kernel) (by decide +kernel) (by kernel_rfl)
theorem xY:entryFor table "set.__iter__"=some Builtin.«frozenset.__iter__»:=
 entryFor_alias (id':="frozenset.__iter__") (by kernel_rfl) rfl (by decide +kernel) (by kernel_rfl)
structure ot (w:cB) (h:Heap) (S:cE) (es:Array (Int×cx)) (ep:Nat) (t:cD):Prop where
 at_:∃o,h.get? S=some o/\o.ExactSet/\o.data=.set es ep t
 fits:t.fits es.size=true
 rise:eZ t.place.toList
 plain:t.plain=true
 led:t.led= !w.params.followText "set-order"
section
variable {prog:cA}{w:cB}{A:cC}{E:cf}{s:cy}
theorem HP (hI:s.heap.get? I=some (xX (l7 w t i:Nat) i S es.size ep)) (hS:ot w s.heap S es ep t) (hi:i<=es.size) (h1:∀e h',(gi w S ep es)[i]? =some e->h'.get? I=some (xX (l7 w t (i+1):Nat) (i+1) S es.size ep)->Heap.SameBut I s.heap h'->Q (.done (.ret e.2)) {s with heap:=h'}) (h2:(gi w S ep es)[i]? =none->wpAny (model prog w) A (setField (.ref I) 2 .none>>=λ_=>newExc (.type "StopIteration") []>>=λe=>raiseNew e) Q E s):wpAny (model prog w) A (Builtin.«set_iterator.__next__» ⟨[.ref I],[]⟩) Q E s:=by
 obtain⟨o,ho,hex,hd⟩:=hS.at_;unfold Builtin.«set_iterator.__next__» slotArgs;simp only[List.isEmpty_nil,bS,aI,↓reduceIte,bind_assoc,List.length_nil,bne_self_eq_false];refine aa (aj ?_);refine aa (wpAny_fieldsOf hI rfl ?_);show wpAny (model prog w) A (setEntries S>>=_) Q E s;refine aa (wpAny_setEntries_of ho hd hS.fits ?_);have hsz:(((es.size:Nat):Int)!=((es.size:Nat):Int))=false:=by simp
 show wpAny _ _ (if(((es.size:Nat):Int)!=((es.size:Nat):Int))=true then _ else _) _ _ _
 rw[if_neg (by rw[hsz];exact aZ)]
 show wpAny _ _ (setNext S (((l7 w t i:Nat):Int).toNat) (((i:Nat):Int).toNat) (((ep:Nat):Int).toNat)>>=_) _ _ _;rw[Int.toNat_natCast,Int.toNat_natCast,Int.toNat_natCast];refine aa (Gw ho hd hS.fits hS.rise hS.plain hS.led i hi ?_);cases hx:(gi w S ep es)[i]? with
 |none=>exact h2 hx
 |some e=>
  dsimp only[bA];refine aa (wpAny_setField_rec hI (by simp) λha Z2 Yu=>?_)
  refine aa (wpAny_setField_rec Z2 (by simp) λhb hbI Jd=>?_)
  exact aj (h1 e hb hx hbI (Yu.trans Jd))
theorem ou (w:cB) (S:cE) (ep:Nat) (es:Array (Int×cx)):(gi w S ep es).size=es.size:=by
 unfold gi;split
 ·have:=(Aw (w.params.setOrder S ep) es).length_eq
  simpa using this
 ·rfl
theorem ot.mono (a:ot w h S es ep t) (k:∀o,h.get? S=some o->h'.get? S=some o):ot w h' S es ep t:=
 ⟨let ⟨o,h1,h2⟩:=a.at_;⟨o,k o h1,h2⟩,a.fits,a.rise,a.plain,a.led⟩
theorem JH (hh:A.handled=none) (I S:cE) (jg:S≠I) (es:Array (Int×cx)) (ep:Nat) (t:cD):
  Walks prog w A I [I,S] [I] es.size (λi v=>∃e,(gi w S ep es)[i]? =some e/\v=e.2) (λi h=>h.get? I=some (xX (l7 w t i:Nat) i S es.size ep)/\ot w h S es ep t)where
 sub:=λb hb=>by simp at hb;simp[hb]
 frame:=λi h h' st hk=>⟨hk I (by simp) _ st.1,st.2.mono λo e=>hk S (by simp) o e⟩
 item:=λi s Q E hi st hQ=>by
  have hT:s.TypeIs (.ref I) "set_iterator":=⟨_,st.1,rfl⟩;unfold pyNext;refine aa (wpAny_attempt (wpAny_callSpecial?_slot (name:=Str.ofString "__next__") hT iX (bL iX hT si ?_ (t6 _))));refine HP st.1 st.2 (bg hi) (λe h' hx Z3 hs=>?_) λhn=>?_
  ·exact⟨_,rfl,aj (hQ e.2 h' s.toks ⟨e,hx,rfl⟩ ⟨Z3,st.2.mono λo e=>(hs.2 S jg).trans e⟩ λb o hb e=>(hs.2 b (by simpa using hb)).trans e)⟩
  ·have:i<(gi w S ep es).size:=by rw[ou];exact hi
   rw[aU this]at hn;cases hn
 done:=λs Q E st hQ=>by
  have hT:s.TypeIs (.ref I) "set_iterator":=⟨_,st.1,rfl⟩;unfold pyNext;refine aa (wpAny_attempt (wpAny_callSpecial?_slot (name:=Str.ofString "__next__") hT iX (bL iX hT si ?_ (t6 _))));refine HP st.1 st.2 (au _) (λe h' hx Z3 hs=>?_) λhn=>?_
  ·have:¬ es.size<(gi w S ep es).size:=by rw[ou];omega
   rw[Array.getElem?_eq_none (by omega)]at hx;cases hx
  ·refine aa (wpAny_setField_rec st.1 (by simp) λha Z2 Yu=>?_)
   refine aa ?_;simp only[newExc,newTuple];refine aa (bQ ?_ (by size_fits))
   refine aa (m:=firstArgMember _ _) (wpAny_of_eq (a:=Value.none) (by first|rfl|(simp only[firstArgMember];rfl)) ?_)
   refine bQ ?_ (by size_fits)
   simp only[raiseNew];refine aa (wpAny_handled ?_)
   first|rw[show A.in1.handled=none from hh]|rw[hh]
   refine aa (aj (wpAny_throw ?_));refine aa (wpAny_isInstance (T:="StopIteration") (b:=true) ⟨_,az _ rfl,rfl⟩ isSubtype_stop ?_);exact aj (hQ _ s.toks λb o hb e=>ag _ (ag _ ((Yu.2 b (by simpa using hb)).trans e)))
 self:=λi s Q E st hQ=>by
  have hT:s.TypeIs (.ref I) "set_iterator":=⟨_,st.1,rfl⟩;refine wpAny_pyIter_slot hT t7 (bL t7 hT zE ?_ (B0 _));show wpAny _ _ (ret (.ref I)) _ _ s;exact aj ⟨_,rfl,"set_iterator",_,hT,iX.lookup,hQ⟩
theorem L8 (hS:ot w s.heap S es ep t) (h:Q (.ref s.heap.objs.size) {s with heap:=s.heap.push (xX 0 0 S es.size ep)}):wpAny (model prog w) A (pyIter (.ref S)) Q E s:=by
 obtain⟨o,ho,hex,hd⟩:=hS.at_;have hT:s.TypeIs (.ref S) "set":=⟨o,ho,hex.1⟩;refine wpAny_pyIter_slot hT PySem.F.slot_set_iter (bL PySem.F.slot_set_iter hT xY ?_ (PySem.F.args_set_iter_1 _));unfold Builtin.«frozenset.__iter__» Builtin.Frozenset.slot0 slotArgs;simp only[List.isEmpty_nil,bS,aI,↓reduceIte,bind_assoc,List.length_nil,bne_self_eq_false];unfold Builtin.Frozenset.addrOf Builtin.Frozenset.sizeOf;refine aa (aj ?_);try dsimp only
 refine aa (aj ?_);refine aa (aa (wpAny_setEntries_of ho hd hS.fits (aj ?_)));unfold setDrawn;refine aa (aa (wpAny_setState_of ho hd hS.fits ?_));dsimp only;unfold setsByText;refine aa (aa (wpAny_askSetting (aj ?_)));refine aj ?_;rw[if_neg (λhc=>by
  have h2:(!w.params.followText "set-order"&&(!t.plain&&decide (es.size>1)))=true:=hc;rw[hS.plain,bS,Bool.false_and,Bool.and_false]at h2;cases h2)]
 refine aa (aj ?_);refine aa (wpAny_setEpoch_of ho hd hS.fits ?_);exact aa (bQ (aj ⟨_,rfl,"set_iterator",_,⟨_,az _ rfl,rfl⟩,iX.lookup,h⟩))
end
section
variable {prog:cA}{w:cB}{A:cC}{E:cf}{s:cy}
theorem Sm [Decidable c] (hc:c) (h:wpAny M A x Q E s):wpAny M A (if c then x else y) Q E s:=by rw[if_pos hc];exact h
theorem L9 (hS:ot w s.heap S es ep t) (h:Q false s):wpAny (model prog w) A (Builtin.List.listLengthHint (.ref S)) Q E s:=by
 obtain⟨o,ho,hex,hd⟩:=hS.at_;have hT:s.TypeIs (.ref S) "set":=⟨o,ho,hex.1⟩;unfold Builtin.List.listLengthHint;refine aa (wpAny_specialOf hT PySem.F.slot_set_len.lookup ?_);dsimp only;have Ab:splitId "set.__len__"=some ("set","__len__"):=by decide +kernel
 rw[Ab];dsimp only;refine aa (wpAny_isInstance hT sub_set_self ?_);simp only[bS,aI,bD];refine Sm (by decide +kernel) ?_
 refine aa (wpAny_typeOf hT ?_);exact aj h
theorem vW {S:cE}{es:Array (Int×cx)}{ep:Nat}{t:cD}{Q:cw->cy->Prop}(hh:A.handled=none) (hS:ot w s.heap S es ep t) (hn:es.size<=1000)
  (hQ:∀h' tk acc,(∀b o,s.heap.get? b=some o->h'.get? b=some o)->acc=(gi w S ep es).toList.map (·.2)->s.heap.objs.size<h'.objs.size->Q acc {s with heap:=h',toks:=tk}):wpAny (model prog w) A (collect (.ref S)) Q E s:=by
 obtain⟨o,ho,hex,hd⟩:=hS.at_;have O2:S<s.heap.objs.size:=aB ho;unfold collect;refine aa (wpAny_runValue (codeAny_builtin PySem.F.entry_proto_collect ?_));rw[bW PySem.F.plain_proto_collect _];show wpAny _ A.in1 (newList []>>=λl=>again (.builtin "list.__iadd__" ⟨[l,.ref S],[]⟩)) _ _ s
 refine aa (bQ ?_);refine aj ⟨plainId_quiet PySem.F.plain_list_iadd _,codeAny_builtin PySem.F.entry_list_iadd ?_⟩;rw[bW PySem.F.plain_list_iadd _];generalize VR:s.heap.push {cls:=.type "list",data:=.seq ([]:cw).toArray}=g1;have WW:g1.objs.size=s.heap.objs.size+1:=by rw[<-VR];exact Heap.size_push ..
 have k1:∀b o,s.heap.get? b=some o->g1.get? b=some o:=λb o e=>by rw[<-VR];exact ag _ e
 have hL1:g1.get? s.heap.objs.size=some {cls:=.type "list",data:=.seq ([]:cw).toArray}:=by rw[<-VR];exact az _ rfl
 have Z4:ot w g1 S es ep t:=hS.mono λo e=>k1 _ _ e
 have hT1:Shared.TypeIs {s with heap:=g1} (.ref S) "set":=⟨o,k1 _ _ ho,hex.1⟩
 show wpAny _ A.in1 (Builtin.List.listExtendWith (.ref s.heap.objs.size) (.ref S) (.ref s.heap.objs.size)) _ _ {s with heap:=g1}
 unfold Builtin.List.listExtendWith;refine aa (wpAny_typeOf hT1 ?_);have h1:Builtin.List.listSameRef (.ref s.heap.objs.size) (.ref S)=false:=by simp[Builtin.List.listSameRef];exact bw O2
 have h2:(Value.type "set"==Value.type "list")=false:=by decide
 have h3:(Value.type "set"==Value.type "tuple")=false:=by decide
 simp only[h1,h2,h3,Bool.or_false,aI,bD];refine aa (L8 (s:={s with heap:=g1}) Z4 ?_)
 generalize Z5:g1.push (xX 0 0 S es.size ep)=g2;have k2:∀b o,g1.get? b=some o->g2.get? b=some o:=λb o e=>by rw[<-Z5];exact ag _ e
 have hI2:g2.get? g1.objs.size=some (xX 0 0 S es.size ep):=by rw[<-Z5];exact az _ rfl
 have WU:ot w g2 S es ep t:=Z4.mono λo e=>k2 _ _ e
 refine aa (bo (L9 (s:={s with heap:=g2}) WU ?_))
 show wpAny _ A.in1 (rule "list.extend.makes-room">>=λ_=>Builtin.List.listTouch (.ref s.heap.objs.size)>>=λ_=>
  again (.builtin "list.extend.loop" ⟨[.ref s.heap.objs.size,.ref g1.objs.size,.ref s.heap.objs.size],[]⟩)) _ _ {s with heap:=g2}
 refine aa (wpAny_rule ?_);refine aa ?_;show wpAny _ A.in1 (updateSeq s.heap.objs.size (·.push .none)>>=λ_=>updateSeq s.heap.objs.size (·.pop)) _ _ {s with heap:=g2}
 have Z6:=k2 _ _ hL1;refine aa (wpAny_updateSeq Z6 rfl ?_);have Z7:=Heap.get?_update_self (Obj.mapSeq (·.push Value.none)) Z6 rfl
 refine wpAny_updateSeq Z7 rfl ?_;have Z8:=Heap.get?_update_self (Obj.mapSeq (·.pop)) Z7 rfl
 generalize hh3:(g2.update s.heap.objs.size (Obj.mapSeq (·.push Value.none))).update s.heap.objs.size (Obj.mapSeq (·.pop))=g3 at Z8
 have Yv:∀b o,b≠s.heap.objs.size->g2.get? b=some o->g3.get? b=some o:=λb o hb e=>by
  rw[<-hh3];exact(bx _ _ (Ne.symm hb)).trans ((bx _ _ (Ne.symm hb)).trans e)
 have Sk:S≠g1.objs.size:=by rw[WW];exact aE (Nat.lt_succ_of_lt O2)
 have W:=(JH (prog:=prog) (w:=w) (A:=A.in1) hh g1.objs.size S Sk es ep t).toS;have hLf:s.heap.objs.size∉[g1.objs.size,S]:=by
  rw[WW];simp only[List.mem_cons,bH,or_false,not_or];exact⟨aE (Nat.lt_succ_self _),bw O2⟩
 have Yt:((l7 w t 0:Nat):Int)=0:=by unfold l7 Gu;split<;>rfl
 refine aj ⟨plainId_quiet PySem.F.plain_extend_loop _,codeAny_extend_loopS W (aD hn (by decide)) _ hLf _ es.size 0 _ _ _ rfl (bK _) ⟨?_,?_⟩ Z8 (ItemsOf.nil _) λs' gN c' hm WX lL=>?_⟩
 ·show g3.get? g1.objs.size=some (xX (l7 w t 0:Nat) 0 S es.size ep);rw[Yt];exact Yv _ _ (by rw[WW];exact bw (Nat.lt_succ_self _)) hI2
 ·exact WU.mono λo e=>Yv _ _ (aE O2) e
 ·obtain⟨h',g',d',t5,Uw⟩:=s';have eg:g'=s.gens:=hm.gens;have ed:d'=s.drawn:=hm.drawn;have eo:Uw=s.os:=hm.os;subst eg ed eo;show wpAny _ A (load s.heap.objs.size>>=_) _ _ _;refine aa (wpAny_load WX ?_);refine aj (hQ h' t5 gN.toList (λb o e=>?_) ?_ (aB WX))
  ·have hb:b<s.heap.objs.size:=aB e;refine hm.heap b o ?_ (Yv b o (aE hb) (k2 b o (k1 b o e)));simp only[List.mem_cons,bH,or_false,not_or];exact⟨aE hb,by rw[WW];exact aE (Nat.lt_succ_of_lt hb)⟩
  ·refine List.ext_getElem? λj=>?_
   rw[av];have hsz:=lL.1;have hwz:=ou w S ep es;by_cases hj:j<es.size
   ·have Tx:j<gN.size:=by omega
    have RC:j<(gi w S ep es).size:=by omega
    obtain⟨e,he,hv⟩:=lL.2 j gN[j] (aU Tx);have WL:(gi w S ep es).toList[j]? =some e:=by simpa using he
    rw[WL];show gN.toList[j]? =some e.2;rw[<-hv];simp[Tx]
   ·have e1:gN.toList[j]? =none:=List.getElem?_eq_none (by rw[aN];omega)
    have e2:(gi w S ep es).toList[j]? =none:=List.getElem?_eq_none (by rw[aN];omega)
    rw[e1,e2];rfl
end
end ST
namespace ST
open PySem PySem.Spec PySem.W PyProof.Rows DL SetTable
section
variable {prog:cA}{w:cB}{A:cC}{E:cf}{s:cy}{h₀:Heap}{L:cE}{m:cg}{news:cj}{vs:cw}
theorem sortedS {S:cE}{es:Array (Int×cx)}{ep:Nat}{t:cD}{Q:cf}(F:Fr h₀ L s.heap m) (N:News h₀ L s.heap news) (hh:A.handled=none) (hS:ot w s.heap S es ep t) (VS:vs=(gi w S ep es).toList.map (·.2)) (h2:2<=vs.length) (zw:vs.length<64)
  (h:∀D e1 h' tk,Fr h₀ L h' m->News h₀ L h' ((D,seqObj "list" #[] e1)::news)->(∀q∈news,q.1<D)->s.heap.objs.size<=D->
   wpAny (model prog w) A.in1.in1 (keyKind' vs.toArray) (λκ s'=>(kas_sort vs.length).kasWp (kas_ask prog w A.in1.in1 κ vs) (λp Kj=>KasFin h₀ L m D e1 (p.toList.map λi=>vs.getD i Value.none) (λs3=>Q (.ref D) s3) Kj) s') (λ_ _=>False) {s with heap:=h',toks:=tk}):
  wpAny (model prog w) A (call (.builtin "sorted") [.ref S]) Q E s:=by
 have hlen:es.size=vs.length:=by rw[VS,ae,aN,ou]
 refine Calls.call_function_entry kind_sorted plain_sorted entry_sorted (args_sorted1 _) ?_;unfold Builtin.«sorted»;refine aa (m:=checkCount "sorted" 1 1 _) (aj ?_);refine aa (vW hh hS (by omega) λg tk acc keep lL hg=>?_)
 rw[<-VS]at lL;subst lL;refine aa (wpAny_newList ?_ (by rw[bu];omega))
 have Hc:(g.push (seqObj "list" acc.toArray 0)).get? g.objs.size=some (seqObj "list" acc.toArray 0):=az _ rfl;have jz:∀b o,s.heap.get? b=some o->(g.push (seqObj "list" acc.toArray 0)).get? b=some o:=λb o q=>ag _ (keep b o q)
 have hL:L<s.heap.objs.size:=F.ns.lt;refine aa (bo (bL slot_list_sort ⟨_,Hc,rfl⟩ entry_list_sort ?body (args_list_sort _)))
 case body=>
  refine kat_list_sort (s:={s with heap:=g.push (seqObj "list" acc.toArray 0),toks:=tk}) (F.kept jz) (N.grown jz) Hc (bw (bG hL hg)) (Heap.get?_none_of_le (aD F.above (bg (bG hL hg))))
   (λp hp=>aE (bG (aB (N p hp).1) hg)) h2 zw λe1 h' F' N'=>?_
  refine bO (h _ e1 h' tk F' N' (λq hq=>bG (aB (N q hq).1) hg) (bg hg)) (λκ s' hk=>?_) λ_ _ x=>x
  rw[kat_ask_eq rfl]at hk ⊢;exact kas_wp_mono hk λp Kj oY=>oY.mono λs3 hq=>⟨_,rfl,aj ⟨_,rfl,hq⟩⟩
end
def TI (h:Heap) (v:cx) (ns:cn):Prop:=∃(a:cE) (o:Obj) (ts:cw) (n:Nat),v=.ref a/\h.get? a=some o/\o.cls=.type "tuple"/\o.data=.seq ts.toArray n/\IntsAre ts ns
section
variable {prog:cA}{w:cB}{A:cC}{E:cf}{s:cy}
theorem HQ:∀(vs:cw) {Q:List (Option cx)->cy->Prop},(∀v∈vs,∃ns,TI s.heap v ns)->(∀fs:List (Option cx),fs.length=vs.length->(∀f∈fs,∀v,f=some v->∃i t,v=Value.int i t)->Q fs s)->wpAny (model prog w) A (vs.mapM firstOfTuple') Q E s
 |[],_,_,h=>by rw[List.mapM_nil];exact aj (h [] rfl λf hf=>by cases hf)
 |v::vs,Q,t,h=>by
  obtain⟨ns,a,o,ts,n,rfl,ho,hc,hd,hi⟩:=t v af;rw[List.mapM_cons];refine aa ?_;rw[kas_first_eq];refine aa (Looks.here (show Looks (model prog w) s.heap (typeOf (.ref a)) o.cls from(Looks.ld ho).andThen .now) ?_)
  rw[hc,if_neg (by first|decide|simp)]
  refine aa (listItems_at ho hd (aj ?_));refine aa (HQ vs (Q:=λbs s'=>wpAny (model prog w) A (pure (ts.toArray[0]? ::bs)) Q E s') (λv hv=>t v (ai _ hv)) λfs hl hf=>aj (h _ (by simp[hl]) λf hm v hv=>?_))
  rcases List.mem_cons.mp hm with rfl|hm
  ·cases hi with
   |nil=>simp at hv
   |cons i t r=>
    simp at hv;exact⟨i,t,hv.symm⟩
  ·exact hf f hm v hv
theorem Qy {vs:cw}{Q:SortKind->cy->Prop}(t:∀v∈vs,∃ns,TI s.heap v ns) (h:∀κ,(κ=tuples' true\/κ=tuples' false)\/κ=general'\/κ=oneType'->Q κ s):wpAny (model prog w) A (keyKind' vs.toArray) Q E s:=by
 rw[kat_kind_eq,List.mapM_toArray,map_eq_pure_bind];refine aa (aa (HQ vs t λfs hl hf=>aj ?_))
 split
 ·refine aa (wpAny_rule ?_);have hfm:∃l:cw,(fs.toArray.filterMap id)=l.toArray/\∀v∈l,∃i t,v=Value.int i t:=by
   refine⟨fs.filterMap id,by simp,λv hv=>?_⟩
   obtain⟨f,hm,he⟩:=List.mem_filterMap.mp hv;exact hf f hm v he
  obtain⟨l,e1,e2⟩:=hfm;rw[e1,oneTypeOnly'_eq,List.mapM_toArray,map_eq_pure_bind];refine aa (aa (aa (kas_mapM (r:=Value.type "int") _ (λv hv Q' hq=>?_) (aj ?_))))
  ·obtain⟨i,t',rfl⟩:=e2 v hv;exact aj hq
  ·have fin:∀b,Q (tuples' b) s:=λb=>by cases b<;>exact h _ (.inl (by first|exact .inl rfl|exact .inr rfl))
   split
   ·exact aj (aj (fin _))
   ·exact aj (aj (fin _))
 ·split
  ·exact aj (h _ (.inr (.inl rfl)))
  ·rw[oneTypeOnly'_eq,List.mapM_toArray,map_eq_pure_bind];refine aa (aa (aa (kas_mapM (r:=Value.type "tuple") _ (λv hv Q' hq=>?_) (aj ?_))))
   ·obtain⟨ns,a,o,ts,n,rfl,ho,hc,hd,hi⟩:=t v hv;have:=Looks.here (M:=model prog w) (A:=A) (E:=E) (show Looks (model prog w) s.heap (typeOf (.ref a)) o.cls from(Looks.ld ho).andThen .now) (Q:=Q')
    rw[hc]at this;exact this hq
   ·split
    ·refine aj (aj ?_);split
     ·exact h _ (.inr (.inr rfl))
     ·exact h _ (.inr (.inl rfl))
    ·exact aj (aj (h _ (.inr (.inl rfl))))
theorem VT {x y:cx}{ns ms:cn}{κ:SortKind}{Q:Bool->cy->Prop}(hx:TI s.heap x ns) (hy:TI s.heap y ms) (hu:A.units+8<cLine) (hκ:(κ=tuples' true\/κ=tuples' false)\/κ=general'\/κ=oneType') (h:Q (HT.lexLt ns ms) s):
  wpAny (model prog w) A (keyLt' κ x y) Q E s:=by
 obtain⟨a,o,ts,n,rfl,ho,hc,hd,hi⟩:=hx;obtain⟨a',o',NF,n',rfl,ke,oK,Kt,xv⟩:=hy;have t1:IsTup s.heap a ts.toArray:=⟨o,ho,hc,n,hd⟩;have t2:IsTup s.heap a' NF.toArray:=⟨o',ke,oK,n',Kt⟩;rcases hκ with hκ|rfl|rfl
 ·have key:∀b,wpAny (model prog w) A (keyLt' (tuples' b) (.ref a) (.ref a')) Q (λ_ _=>False) s:=λb=>by
   refine W.kat_lt ho hd ke Kt ?_;have s1:ts.toArray.size=ns.length:=by rw[aq,hi.length]
   have s2:NF.toArray.size=ms.length:=by rw[aq,xv.length]
   refine L2.qp _ _ ns ms 0 _ (by simpa using hi) (by simpa using xv) (.inr trivial) ?_ h
   rw[s1,s2];by_cases h:ns.length<ms.length
   ·rw[if_pos h];exact aR h
   ·rw[if_neg h];exact aH h
  rcases hκ with rfl|rfl
  ·exact bO (key true) (λ_ _ x=>x) λ_ _ x=>x.elim
  ·exact bO (key false) (λ_ _ x=>x) λ_ _ x=>x.elim
 ·show wpAny (model prog w) A (oneLt' false (.ref a) (.ref a')) Q E s;refine kat_one _ _ (HT.sG t1 t2 (by simpa using hi) (by simpa using xv) (by omega) ?_)
  exact h
 ·rw[keyLt'_oneType,oneLt'_eq];simp only[if_true];refine aa (wpAny_cRoomFor (by omega) ?_)
  obtain⟨⟨cls,dd,data,sl⟩,vS,Z9,n1,hd1⟩:=t1;obtain⟨⟨Rm,NB,data2,NC⟩,wj,tj,n2,hd2⟩:=t2;simp only at Z9 hd1 tj hd2;subst Z9 hd1 tj hd2;refine aa (wpAny_callSpecialIfBound?_slot ⟨_,vS,rfl⟩ PySem.F.slot_tuple_lt ?_);refine call_meets PySem.F.slot_tuple_lt ⟨_,vS,rfl⟩ PySem.F.entry_tuple_lt (PySem.F.args_tuple_lt_2 _ _) (HT.rZ a a' ts.toArray NF.toArray n1 n2 dd NB sl NC ns ms (by simpa using hi) (by simpa using xv)) ⟨vS,wj,?_⟩
  exact bP h
end
end ST
namespace ST
open PySem PySem.Spec PySem.W PyProof.Rows DL SetTable L2
section
variable {prog:cA}{w:cB}{A:cC}{E:cf}{s:cy}
theorem Gx {T:Heap}{a:cE}{vs:cw}{tk:Nat}{Q:cf}(o1:T.get? a=some (seqObj "list" vs.toArray 0)) (h2:vs.length<2)
  (h:∀h' c,h'.get? a=some (seqObj "list" vs.toArray c)->(∀b o,b≠a->T.get? b=some o->h'.get? b=some o)->Q .none {s with heap:=h',toks:=tk}):
  wpAny (model prog w) A (call (.builtin "list.sort") [.ref a]) Q E {s with heap:=T,toks:=tk}:=by
 have ha:a<T.objs.size:=aB o1;refine bL slot_list_sort ⟨_,o1,rfl⟩ entry_list_sort ?_ (args_list_sort _);rw[list_sort_plain];refine aa (listItems_at o1 rfl (aa (listUpdate_at o1 rfl ?_ (hsz:=by rw[aq,bu];omega))))
 obtain⟨e1,vS⟩:∃e1,(T.update a (Obj.mapSeq λ_=>#[])).get? a=some (seqObj "list" #[] e1):=⟨_,get?_update_seq o1 (λ_=>#[])⟩
 refine aa (seqEpoch_at vS rfl (aa (wpAny_newTuple (aa (wpAny_newList (bo ?_))) (by show vs.length<=_;rw[bu];omega))))
 have RO:(((T.update a (Obj.mapSeq λ_=>#[])).push (seqObj "tuple" vs.toArray 0)).push (seqObj "list" #[] 0)).get? a=some (seqObj "list" #[] e1):=ag _ (ag _ vS)
 have kp6:∀b o,b≠a->T.get? b=some o->(((T.update a (Obj.mapSeq λ_=>#[])).push (seqObj "tuple" vs.toArray 0)).push (seqObj "list" #[] 0)).get? b=some o:=λb o hb e=>ag _ (ag _ ((bx _ _ (Ne.symm hb)).trans e))
 show wpAny (model prog w) _ _ _ _ {s with heap:=((T.update a (Obj.mapSeq λ_=>#[])).push (seqObj "tuple" vs.toArray 0)).push (seqObj "list" #[] 0),toks:=tk}
 generalize ((T.update a (Obj.mapSeq λ_=>#[])).push (seqObj "tuple" vs.toArray 0)).push (seqObj "list" #[] 0)=U at RO kp6
 dsimp only;have hsz:vs.toArray.size<2:=by rw[aq];exact h2
 rw[if_pos hsz,if_pos hsz];refine aa (aj ?_);rw[StateT.run_pure];refine aa (aj ?_);dsimp only;have FP:(vs.toArray.zip vs.toArray).map (·.2)=vs.toArray:=by
  apply Array.toList_inj.mp
  rw[Array.toList_map,Array.toList_zip];exact xt vs
 rw[show(arrOf (SortSt.mk' general' (vs.toArray.zip vs.toArray) #[] 7 none))=vs.toArray.zip vs.toArray from rfl]at *
 refine aa (seqEpoch_at RO rfl (aa (listUpdate_at RO rfl ?_ (hsz2:=by rw[FP,aq,bu];omega))))
 rw[FP];simp only[bne_self_eq_false,aI,bD];obtain⟨c,hc⟩:∃c,(U.update a (Obj.mapSeq λ_=>vs.toArray)).get? a=some (seqObj "list" vs.toArray c):=⟨_,get?_update_seq RO (λ_=>vs.toArray)⟩
 exact aj ⟨_,rfl,h _ c hc λb o hb e=>(bx _ _ (Ne.symm hb)).trans (kp6 b o hb e)⟩
theorem zF (hh:A.handled=none) (hS:ot w s.heap S es ep t) (VS:vs=(gi w S ep es).toList.map (·.2)) (h2:vs.length<2) (h:∀D h' c tk,h'.get? D=some (seqObj "list" vs.toArray c)->s.heap.objs.size<=D->(∀b o,s.heap.get? b=some o->h'.get? b=some o)->Q (.ref D) {s with heap:=h',toks:=tk}):wpAny (model prog w) A (call (.builtin "sorted") [.ref S]) Q E s:=by
 have hlen:es.size=vs.length:=by rw[VS,ae,aN,ou]
 refine Calls.call_function_entry kind_sorted plain_sorted entry_sorted (args_sorted1 _) ?_;unfold Builtin.«sorted»;refine aa (m:=checkCount "sorted" 1 1 _) (aj ?_);refine aa (vW hh hS (by omega) λg tk acc keep lL hg=>?_)
 rw[<-VS]at lL;subst lL;refine aa (wpAny_newList ?_ (by rw[bu];omega))
 have Hc:(g.push (seqObj "list" acc.toArray 0)).get? g.objs.size=some (seqObj "list" acc.toArray 0):=az _ rfl;refine aa (bo (Gx (s:=s) (T:=g.push (seqObj "list" acc.toArray 0)) (tk:=tk) Hc h2 λh' c hD kp=>?_))
 refine aj ⟨_,rfl,h _ h' c tk hD (bg hg) λb o e=>kp b o ?_ (ag _ (keep b o e))⟩
 exact aE (bG (aB e) hg)
end
theorem DU {α β:Type}{R:α->cx->β->Prop}:∀(vs:cw),(∀v∈vs,∃a b,R a v b)->∃l:List (α×cx×β),vs=l.map (·.2.1)/\∀p∈l,R p.1 p.2.1 p.2.2
 |[],_=>⟨[],rfl,λp hp=>by cases hp⟩
 |v::vs,h=>by
  obtain⟨a,b,r⟩:=h v af;obtain⟨l,e,hl⟩:=DU vs λx hx=>h x (ai _ hx)
  refine⟨(a,v,b)::l,by rw[e];rfl,λp hp=>?_⟩
  rcases List.mem_cons.mp hp with rfl|hp
  ·exact r
  ·exact hl p hp
theorem DV:∀{ts:cw}{ns:cn},IntsAre ts ns->sL h ts (ns.map D.int)
 |_,_,.nil=>.nil
 |_,_,.cons n t r=>.cons (.int n t) (DV r)
theorem TI.ki (t:TI h v ns):KI h v (.tup (ns.map D.int)):=by
 obtain⟨a,o,ts,n,rfl,ho,hc,hd,hi⟩:=t;exact .tup ho hc hd (by simpa using DV hi)
instance:Nonempty D:=⟨.eV⟩
noncomputable def keyOf (h:Heap) (v:cx):D:=Classical.epsilon (KI h v)
theorem DW (k:KI h v d):keyOf h v=d:=(Classical.epsilon_spec (p:=KI h v) ⟨d,k⟩).inj k
theorem Gn.keys {P:cx->Prop}{h:Heap}{es:List (Int×cx)}{ds:cu}(e:Gn P h es ds):ds=es.map λx=>keyOf h x.2:=by
 refine List.ext_getElem? λi=>?_
 rw[av];cases hx:es[i]? with
 |none=>
  have:es.length<=i:=List.getElem?_eq_none_iff.mp hx;rw[List.getElem?_eq_none (by rw[<-e.1];exact this)];rfl
 |some x=>
  obtain⟨d,h1,h2⟩:=e.2 i x hx;rw[h1];exact congrArg some (DW h2.ki).symm
section
variable {X:Cx}
theorem JI {P:cx->Prop}{R0:cE->cn->Prop}{cM:cj}{σ:L2.St}{H:Hp}{s:cy}(I:Inv X cM σ H s) {S:cE}{ds:cu}{es:Array (Int×cx)}{ep:Nat}(hE:Gn P s.heap es.toList ds)
  (Yw:∀v,P v->∃(b:cE) (ns:cn),v=.ref b/\kR X.K H b (ns.map V.int)/\R0 b ns):
  ∃l:List (cE×cn),(gi X.w S ep es).toList.map (·.2)=l.map (λp=>Value.ref p.1)/\(∀p∈l,(kR X.K H p.1 (p.2.map V.int)/\R0 p.1 p.2)/\TI s.heap (.ref p.1) p.2)/\(l.map λp=>D.tup (p.2.map D.int)).Perm ds:=by
 have xW:(gi X.w S ep es).toList.Perm es.toList:=by
  unfold gi;split
  ·exact Aw _ es
  ·exact List.Perm.refl _
 obtain⟨l,e1,e2⟩:=DU (R:=λ(b:cE) v (ns:cn)=>v=.ref b/\(kR X.K H b (ns.map V.int)/\R0 b ns)/\TI s.heap v ns) ((gi X.w S ep es).toList.map (·.2)) λv hv=>by
  obtain⟨e,he,rfl⟩:=List.mem_map.mp hv;obtain⟨i,hi⟩:=bp (xW.mem_iff.mp he);obtain⟨d,_,h2⟩:=hE.2 i e hi;obtain⟨b,ns,h3,h4,h40⟩:=Yw _ h2.src;obtain⟨ts,r2,⟨o,ho,hc,n,hd⟩,_⟩:=I.tuple h4;exact⟨b,ns,h3,⟨h4,h40⟩,b,o,ts,n,h3,ho,hc,hd,intsAre_of r2⟩
 refine⟨l.map λp=>(p.1,p.2.2),?_,λp hp=>?_,?_⟩
 ·rw[e1,aV];exact bR λp hp=>(e2 p hp).1
 ·obtain⟨q,hq,rfl⟩:=List.mem_map.mp hp;obtain⟨a1,a2,a3⟩:=e2 q hq;exact⟨a2,by rw[<-a1];exact a3⟩
 ·have h5:(((gi X.w S ep es).toList.map (·.2)).map (keyOf s.heap)).Perm ds:=by
   rw[aV,hE.keys];exact xW.map _
  rw[e1,aV]at h5;rw[aV];have h6:(l.map ((keyOf s.heap)∘λp=>p.2.1))=l.map ((λp:cE×cn=>D.tup (p.2.map D.int))∘λp=>(p.1,p.2.2)):=bR λp hp=>DW (e2 p hp).2.2.ki
  rw[<-h6];exact h5
theorem Gy {P:cx->Prop}{R0:cE->cn->Prop}{cM:cj}{σ:L2.St}{H:Hp}{s:cy}(hc:X.calm=true) (hu:X.A.units+64<cLine) (I:Inv X cM σ H s) {S:cE}{ds:cu}(qh:wt P (!X.w.params.followText "set-order") s.heap S ds) (hn:ds.length<64)
  (Yw:∀v,P v->∃(b:cE) (ns:cn),v=.ref b/\kR X.K H b (ns.map V.int)/\R0 b ns) {Q:VK}
  (q:∀(D0:cE) (l:List (cE×cn)),H D0=none->(∀p∈l,R0 p.1 p.2)->(l.map (·.2)).Pairwise (λa b=>HT.lexLt b a=false)->(l.map λp=>D.tup (p.2.map D.int)).Perm ds->Q (.ref D0) (upd H D0 (.lst (l.map λp=>V.ref p.1)))):
  wpAny (model X.prog X.w) X.A (call (.builtin "sorted") [.ref S]) (EP X cM σ Q) X.xe s:=by
 obtain⟨o,es,ep,t,ho,hex,hd,W,hE,_,kf,VG⟩:=qh.ex;have hAt:ot X.w s.heap S es ep t:=⟨⟨o,ho,hex,hd⟩,W.fits,W.tb.rise,kf,VG⟩;obtain⟨l,e1,e2,e3⟩:=JI (S:=S) (ep:=ep) I hE Yw;have hlen:l.length=ds.length:=by have:=e3.length_eq;rwa [ae]at this
 have hh:X.A.handled=none:=I.ok.hd hc;by_cases h2:2<=l.length
 ·obtain⟨m,F⟩:=I.fr;have N:News X.base X.env.locals s.heap (jG X.base s.heap X.env.locals):=w4;have Yx:(l.map λp=>Value.ref p.1).length=l.length:=by rw[ae]
  refine sortedS (vs:=l.map λp=>Value.ref p.1) F N hh hAt e1.symm (by omega) (by omega) λD0 e0 h' tk F' N' fu wq=>?_
  have Fv:s.heap.get? D0=none:=Heap.get?_none_of_le wq;have vT:∀{h':Heap}{o1:Obj},Fr X.base X.env.locals h' m->News X.base X.env.locals h' ((D0,o1)::jG X.base s.heap X.env.locals)->∀b o,b≠X.env.locals->s.heap.get? b=some o->h'.get? b=some o:=λ{h' o1} F' N' b o hb e=>by
   cases g:X.base.get? b with
   |some u=>
    have:=I.bk b u g;rw[e]at this;cases this;exact F'.keep b _ g
   |none=>exact(N' (b,o) (.tail _ (m8 hb g e))).1
  have qq:=vT F' N';have Sn:∀p∈l,TI h' (.ref p.1) p.2:=λp hp=>by
   obtain⟨a,o,ts,n,ea,ho,hc,hd,hi⟩:=(e2 p hp).2;cases ea;refine⟨_,o,ts,n,rfl,qq _ o (λz=>?_) ho,hc,hd,hi⟩
   obtain⟨oL,es,ep,hL,RP,_⟩:=F.ns;rw[z,hL]at ho;cases ho;rw[RP]at hd;cases hd
  refine Qy (s:={s with heap:=h',toks:=tk}) (λv hv=>?_) λκ hκ=>?_
  ·obtain⟨p,hp,rfl⟩:=List.mem_map.mp hv;exact⟨p.2,Sn p hp⟩
  rw[Yx];have mq:∀i,i<l.length->(l.map λp=>Value.ref p.1).getD i Value.none=.ref (l.getD i (0,[])).1/\l.getD i (0,[])∈l:=λi hi=>by
   rw[ak,av,ak,ah hi];exact⟨rfl,List.getElem_mem hi⟩
  have cmp:∀i j (R:Bool->cy->Prop),i<l.length->j<l.length->R (HT.lexLt ((l.map (·.2)).getD i []) ((l.map (·.2)).getD j [])) {s with heap:=h',toks:=tk}->kas_ask X.prog X.w X.A.in1.in1 κ (l.map λp=>Value.ref p.1) i j R {s with heap:=h',toks:=tk}:=λi j R hi hj hR=>by
   show wpAny _ _ (keyLt' _ ((l.map λp=>Value.ref p.1).getD i Value.none) ((l.map λp=>Value.ref p.1).getD j Value.none)) _ _ _
   rw[(mq i hi).1,(mq j hj).1];have g:∀k,k<l.length->(l.map (·.2)).getD k []=(l.getD k (0,[])).2:=λk hk=>by
    rw[ak,av,ak,ah hk];rfl
   rw[g i hi,g j hj]at hR;exact VT (Sn _ (mq i hi).2) (Sn _ (mq j hj).2) (by show X.A.units+1+1+8<cLine;omega) hκ hR
  refine So.rl (n:=l.length) cmp _ (So.xr (by omega)) ?_
  obtain⟨s1,s2⟩:=So.xo (lt:=λi j=>HT.lexLt ((l.map (·.2)).getD i []) ((l.map (·.2)).getD j [])) (rank:=λi=>rn (l.map (·.2)) ((l.map (·.2)).getD i [])) (λi j=>kr (lO _ _) (lO _ _)) l.length (by omega)
  generalize So.iU _ (kas_sort l.length)=ar at s1 s2;have pm:ar.toList.Perm (List.range l.length):=by simpa using Array.perm_iff_toList_perm.mp s1
  have sz:ar.size=l.length:=by simpa using s1.size_eq
  have below:∀i∈ar.toList,i<l.length:=λi hi=>by simpa using pm.mem_iff.mp hi
  generalize iq:(ar.toList.map λi=>l.getD i (0,[]))=l'
  have lp:l'.Perm l:=by
   rw[<-iq];have:=pm.map λi=>l.getD i (0,[])
   have e:(List.range l.length).map (λi=>l.getD i (0,[]))=l:=jJ l (0,[])
   rw[e]at this;exact this
  have outs:(ar.toList.map λi=>(l.map λp=>Value.ref p.1).getD i Value.none)=l'.map λp=>Value.ref p.1:=by
   rw[<-iq,aV];exact bR λi hi=>(mq i (below i hi)).1
  rw[outs];refine⟨_,_,F',N',.head λp hp=>aE (fu p hp),λh2 c F2 N2=>?_⟩
  have hD:H D0=none:=I.fJ.fresh wq;have jz:=vT F2 N2;have Va:h2.get? D0=some {cls:=.type "list",data:=.seq (l'.map λp=>Value.ref p.1).toArray c}:=(N2 _ (.head _)).1
  refine⟨.ref D0,upd H D0 (.lst (l'.map λp=>V.ref p.1)),?_,rfl,q D0 l' hD (λp hp=>(e2 p (lp.mem_iff.mp hp)).1.2) ?_ ((lp.map _).trans e3)⟩
  ·show Inv X cM σ _ {s with heap:=h2,gens:=s.gens,drawn:=s.drawn,toks:=tk}
   refine I.step (g':=s.gens) (d':=s.drawn) (t':=tk) (ch:=[]) (λ_ z=>nomatch z) (λb o h1 _ _ e _=>jz b o h1 e) (λb o h1 _ _ e _=>⟨o.slots,jz b o h1 e⟩) (λb o _ e hn=>?_) (λb o _ e=>?_) (λb xs e=>?_) (λb o xs e=>?_) (λb ps e=>⟨#[],?_⟩) (λm' hm=>?_) (λb u e=>?_) I.bare
   ·rw[cR (λz=>by rw[z,Fv]at e;cases e)];exact hn
   ·by_cases hb:b=X.env.locals
    ·obtain⟨o',_,_,e',_⟩:=F2.ns;exact⟨o',by rw[hb];exact e'⟩
    ·exact⟨o,jz b o hb e⟩
   ·rw[cR (cX e hD)];exact e
   ·rw[cR (cX e hD)];exact e
   ·rw[cR (cX e hD),e];simp
   ·rw[FO hm F.ns];exact F2.ns
   ·by_cases hb:b=D0
    ·subst hb;rw[cY]at e;cases e;refine⟨by rw[ae,lp.length_eq];exact bg (kj (by omega)),_,c,?_,Va⟩
     have aux:∀k:List (cE×cn),Vals (k.map λp=>V.ref p.1) (k.map λp=>Value.ref p.1):=λk=>by
      induction k with
      |nil=>exact .nil
      |cons p k ih=>exact .cons rfl ih
     exact aux l'
    ·rw[cR hb]at e;refine(I.fJ b u e).Be (λk v hk z=>jz k v ?_ z) (λk z=>by rw[cR (cX z hD)];exact z) λk xs z=>by rw[cR (cX z hD)];exact z
     rcases hk with rfl|hk
     ·intro z;rw[z,I.free]at e;cases e
     ·intro z;rw[z,I.free]at hk;cases hk
  ·rw[<-iq,aV,List.pairwise_map,List.pairwise_iff_getElem];intro i j hi hj zm;have xv:i<ar.size:=by simpa using hi
   have BJ:j<ar.size:=by simpa using hj
   have le:=s2 i j (bg zm) (by omega)
   unfold So.kk at le;rw[aT,aT,aU xv,aU BJ]at le;simp only[Option.getD_some]at le;have g:∀k,k<l.length->(l.map (·.2)).getD k []=(l.getD k (0,[])).2:=λk hk=>by
    rw[ak,av,ak,ah hk];rfl
   have bi:ar[i]<l.length:=below _ (by simp)
   have bj:ar[j]<l.length:=below _ (by simp)
   have e:=kr (nss:=l.map (·.2)) (a:=(l.map (·.2)).getD (ar[j]) []) (b:=(l.map (·.2)).getD (ar[i]) []) (lO _ _) (lO _ _)
   simp only[Array.getElem_toList,Function.comp_apply];rw[<-g _ bi,<-g _ bj,e];exact aH (by omega)
 ·refine zF (vs:=l.map λp=>Value.ref p.1) hh hAt e1.symm (by rw[ae];omega) λD0 h' c tk hD wq keep=>?_
  have Dv:H D0=none:=I.fJ.fresh wq;refine⟨.ref D0,_,I.laid (t':=tk) (o:=.lst (l.map λp=>V.ref p.1)) keep wq ⟨by rw[ae];exact aD (by omega:l.length<=100) (by decide),_,c,?_,hD⟩,rfl,q D0 l Dv (λp hp=>(e2 p hp).1.2) ?_ e3⟩
  ·clear e1 e2 e3 hlen h2 hD;induction l with
   |nil=>exact .nil
   |cons p l ih=>exact .cons rfl ih
  ·match l,h2 with
   |[],_=>exact List.Pairwise.nil
   |[p],_=>simp
   |_::_::_,h2=>exact absurd (by simp) h2
end
end ST
namespace L2
open PySem PySem.Spec PyProof.Rows
section
variable {κ:Type} [DecidableEq κ]
noncomputable def rX (kvs:List (κ×V)) (k:κ):Option V:=(kvs.find? λkv=>decide (kv.1=k)).map (·.2)
noncomputable def putK (kvs:List (κ×V)) (k:κ) (v:V):List (κ×V):=
 if(kvs.any λkv=>decide (kv.1=k))=true then kvs.map (λkv=>if kv.1=k then(kv.1,v)else kv)else kvs++[(k,v)]
theorem qx {p:κ×V}{r:List (κ×V)}{k:κ}(e:p.1=k):rX (p::r) k=some p.2:=by simp[rX,List.find?_cons,e]
theorem qy {p:κ×V}{r:List (κ×V)}{k:κ}(e:¬ p.1=k):rX (p::r) k=rX r k:=by simp[rX,List.find?_cons,e]
theorem DX (k:κ):∀kvs:List (κ×V),(kvs.any λkv=>decide (kv.1=k))=(rX kvs k).isSome
 |[]=>rfl
 |p::r=>by
  rw[bF];by_cases e:p.1=k
  ·simp only[qx e,aR e,Bool.true_or,Option.isSome_some]
  ·rw[qy e,aH e,Bool.false_or];exact DX k r
theorem vX (kvs:List (κ×V)) (k:κ) (v:V):(putK kvs k v).length<=kvs.length+1:=by
 unfold putK;split
 ·rw[ae];omega
 ·rw[aQ,ay,List.length_nil];omega
theorem qd.JJ (r:qd o u):o.isSome=u.isSome:=by
 cases o with
 |none=>cases u with
  |none=>rfl
  |some _=>exact(show False from r).elim
 |some _=>cases u with
  |none=>exact(show False from r).elim
  |some _=>rfl
theorem qd.getD (r:qd o u) (rd:RelV d d'):RelV (o.getD d) (u.getD d'):=by
 cases o with
 |none=>cases u with
  |none=>exact rd
  |some _=>exact(show False from r).elim
 |some _=>cases u with
  |none=>exact(show False from r).elim
  |some _=>exact r
theorem KV.val (r:KV kvs vs) (k:κ):qd (rX kvs k) (valueAt vs k):=by
 unfold KV at r;induction r with
 |nil=>exact True.intro
 |@cons p q ps qs h t ih=>
  obtain⟨h1,h2⟩:=h;by_cases e:p.1=k
  ·have e':q.1=k:=h1.symm.trans e;have b:valueAt (q::qs) k=some q.2:=by simp[valueAt,List.find?_cons,e']
   rw[qx e,b];exact h2
  ·have e':¬ q.1=k:=λz=>e (h1.trans z)
   have b:valueAt (q::qs) k=valueAt qs k:=by simp[valueAt,List.find?_cons,e']
   rw[qy e,b];exact ih
theorem KV.any {kvs:List (κ×V)}{vs:List (κ×cx)}(r:KV kvs vs) (k:κ):(kvs.any λkv=>decide (kv.1=k))=vs.any λkv=>decide (kv.1=k):=by
 unfold KV at r;induction r with
 |nil=>rfl
 |cons h t ih=>rw[bF,bF,ih,h.1]
theorem KV.Sq (r:KV kvs vs) (k:κ) (ry:RelV y u):KV (kvs.map λkv=>if kv.1=k then(kv.1,y)else kv) (vs.map λkv=>if kv.1=k then(kv.1,u)else kv):=by
 unfold KV at r ⊢;induction r with
 |nil=>exact .nil
 |@cons p q ps qs h t ih=>
  rw[aF,aF];refine .cons ?_ ih;obtain⟨h1,h2⟩:=h;by_cases e:p.1=k
  ·rw[if_pos e,if_pos (h1.symm.trans e)];exact⟨h1,ry⟩
  ·rw[if_neg e,if_neg (λz=>e (h1.trans z))];exact⟨h1,h2⟩
theorem KV.put (r:KV kvs vs) (k:κ) (ry:RelV y u):KV (putK kvs k y) (stored vs k u):=by
 unfold putK stored;rw[r.any k];by_cases e:(vs.any λkv=>decide (kv.1=k))=true
 ·rw[if_pos e,if_pos e];exact r.Sq k ry
 ·rw[if_neg e,if_neg e];exact Paired.snoc r ⟨rfl,ry⟩
theorem KV.keys {kvs:List (κ×V)}{vs:List (κ×cx)}(r:KV kvs vs):kvs.map (·.1)=vs.map (·.1):=by
 unfold KV at r;induction r with
 |nil=>rfl
 |cons h t ih=>rw[aF,aF,ih,h.1]
theorem KV.length {kvs:List (κ×V)}{vs:List (κ×cx)}(r:KV kvs vs):kvs.length=vs.length:=Paired.length r
end
theorem HR (r:RelV (kV k) u):(fB P w).is k u=true:=by
 cases k with
 |inl i=>obtain⟨t,e⟩:=(show ∃t,u=Value.int i t from r);subst e;exact CV P w i t
 |inr x=>obtain⟨t,e⟩:=(show ∃t,u=Value.str x t from r);subst e;exact CY P w x t
theorem Ax:∀{ks:List Key}{us:cw},Vals (ks.map kV) us->ItemsAre (fB P w) ks us
 |[],_,r=>by rw[List.map_nil]at r;cases r;exact .nil
 |k::ks,_,r=>by
  rw[aF]at r;cases r with
  |cons h t=>exact .cons (HR h) (Ax t)
abbrev KT (H:Hp):List (List Key×V)->List (List Key×cE×cx)->Prop:=Paired λp q=>p.1=q.1/\H q.2.1=some (.tup (p.1.map kV))/\RelV p.2 q.2.2
theorem KT.val (r:KT H kvs xs) (k:List Key):qd (rX kvs k) ((atKey xs k).map (·.2)):=by
 induction r with
 |nil=>exact True.intro
 |@cons p q ps qs h t ih=>
  obtain⟨h1,_,h2⟩:=h;by_cases e:p.1=k
  ·have e':q.1=k:=h1.symm.trans e;have b:atKey (q::qs) k=some q.2:=by simp[atKey,List.find?_cons,e']
   rw[qx e,b];exact h2
  ·have e':¬ q.1=k:=λz=>e (h1.trans z)
   have b:atKey (q::qs) k=atKey qs k:=by simp[atKey,List.find?_cons,e']
   rw[qy e,b];exact ih
theorem KT.Sq (r:KT H kvs xs) (k:List Key) (ry:RelV y u):KT H (kvs.map λkv=>if kv.1=k then(kv.1,y)else kv) (xs.map (putAt k u)):=by
 induction r with
 |nil=>exact .nil
 |@cons p q ps qs h t ih=>
  rw[aF,aF];refine .cons ?_ ih;obtain⟨h1,h2,h3⟩:=h;unfold putAt;by_cases e:p.1=k
  ·rw[if_pos e,if_pos (h1.symm.trans e)];exact⟨h1,h2,ry⟩
  ·rw[if_neg e,if_neg (λz=>e (h1.trans z))];exact⟨h1,h2,h3⟩
theorem KT.put (r:KT H kvs xs) (k:List Key) (hb:H b=some (.tup (k.map kV))) (ry:RelV y u):KT H (putK kvs k y) (storedH xs k b u):=by
 have e:(kvs.any λkv=>decide (kv.1=k))=(atKey xs k).isSome:=by
  rw[DX,(r.val k).JJ,Option.isSome_map]
 unfold putK storedH;rw[e];by_cases q:(atKey xs k).isSome=true
 ·rw[if_pos q,if_pos q];exact r.Sq k ry
 ·rw[if_neg q,if_neg q];exact Paired.snoc r ⟨rfl,hb,ry⟩
theorem KT.keeps (r:KT H kvs xs) (ht:∀b ys,H b=some (.tup ys)->H' b=some (.tup ys)):KT H' kvs xs:=
 Paired.QO r λ_ _ z=>⟨z.1,ht _ _ z.2.1,z.2.2⟩
section
variable {P:cA}{w:cB}{H:Hp}{h:Heap}{a:cE}
theorem Qz (ok:rT P w H h) (e:Rd H a u):ie P w H h a u:=e.ok ok
theorem Ma {kvs:List (Key×V)}(ok:rT P w H h) (e:Rd H a (.dK kvs)):kvs.length<=sizeLine/\(a==sysModules)=false/\∃vs,KV kvs vs/\h.DictOf (fB P w) a vs:=
 show ie P w H h a (.dK kvs)from Qz ok e
theorem QA (ok:rT P w H h) (e:H a=some (.dK kvs)):kvs.length<=sizeLine/\(a==sysModules)=false/\∃vs,KV kvs vs/\h.DictOf (fB P w) a vs:=Ma ok (.inl e)
theorem Gz (ok:rT P w H h) (e:H a=some (.tup (ks.map kV))):(tupleKind (fB P w)).is h ks a:=by
 obtain⟨_,dD,r,o,h1,h2,n,h3⟩:=(show ie P w H h a (.tup (ks.map kV))from ok a _ e)
 exact⟨o,dD.toArray,n,h1,h2,h3,by simpa using Ax r⟩
theorem Mb (ok:rT P w H h) (e:Rd H a (.dT kvs)):kvs.length<=sizeLine/\(a==sysModules)=false/\
  ∃xs,KT H kvs xs/\h.DictOfH (tupleKind (fB P w)) a xs:=by
 obtain⟨z,y,xs,r,o,es,ep,h1,h2,h3,h4,h5⟩:=(show ie P w H h a (.dT kvs)from Qz ok e)
 refine⟨z,y,xs,r,o,es,ep,h1,h2,h3,h4,λx hx=>?_,h5⟩
 have all:∀{l:List (List Key×V)}{m:List (List Key×cE×cx)},KT H l m->∀x∈m,(tupleKind (fB P w)).is h x.1 x.2.1:=by
  intro l m q;induction q with
  |nil=>intro x hx;exact nomatch hx
  |@cons p q ps qs hq t ih=>
   intro x hx;rcases List.mem_cons.mp hx with e|hx
   ·subst e;exact Gz ok (by rw[<-hq.1];exact hq.2.1)
   ·exact ih x hx
 exact all r x hx
theorem VU {kvs:List (List Key×V)}(ok:rT P w H h) (e:H a=some (.dT kvs)):kvs.length<=sizeLine/\(a==sysModules)=false/\
  ∃xs,KT H kvs xs/\h.DictOfH (tupleKind (fB P w)) a xs:=Mb ok (.inl e)
end
def Mc (H:Hp) (a:cE) (y:V) (r:Option V):Prop:=
 (∃kvs k,Rd H a (.dK kvs)/\y=kV k/\r=rX kvs k)\/∃kvs k b,Rd H a (.dT kvs)/\y=.ref b/\H b=some (.tup (k.map kV))/\r=rX kvs k
def Md (H:Hp) (a:cE) (y v:V) (H':Hp):Prop:=
 (∃kvs k,H a=some (.dK kvs)/\y=kV k/\kvs.length<sizeLine/\H'=upd H a (.dK (putK kvs k v)))\/
 ∃kvs k b,H a=some (.dT kvs)/\y=.ref b/\H b=some (.tup (k.map kV))/\kvs.length<sizeLine/\H'=upd H a (.dT (putK kvs k v))
theorem Mc.k {H:Hp}{a:cE}{kvs:List (Key×V)}{k:Key}(e:H a=some (.dK kvs)):Mc H a (kV k) (rX kvs k):=.inl ⟨kvs,k,.inl e,rfl,rfl⟩
theorem Md.k {H:Hp}{a:cE}{kvs:List (Key×V)}{k:Key}{v:V}(e:H a=some (.dK kvs)) (hl:kvs.length<sizeLine):Md H a (kV k) v (upd H a (.dK (putK kvs k v))):=.inl ⟨kvs,k,e,rfl,hl,rfl⟩
section
variable {X:Cx}{cM:cj}{σ:St}{H:Hp}{s:cy}{a:cE}{y v:V}{u r:cx}{o:Option V}{A:cC}{E:cf}
theorem Inv.big (I:Inv X cM σ H s):sysModules<s.heap.objs.size:=by
 have h:mainGlobals<s.heap.objs.size:=(I.mod.glob.keeps I.bk).lt;exact bG (by decide) h
theorem HS (I:Inv X cM σ H s) (mu:TJ (H a)) (hs:Heap.SameBut a s.heap h') (he:∃q,h'.get? a=some q) (new:ie X.prog X.w (upd H a ob) h' a ob):Inv X cM σ (upd H a ob) {s with heap:=h',toks:=t'}:=
 I.write (x:=a) (e:=a) mu (.inl rfl) (λb q hb z=>(hs.2 b hb).trans z) he new
theorem Sr (z:kvs.length<=sizeLine) (hd:(a==sysModules)=false) (rel:KV kvs vs) (dd:h'.DictOf (fB P w) a vs):ie P w H' h' a (.dK kvs):=⟨z,hd,vs,rel,dd⟩
theorem JK {H':Hp}{Q:Unit->cy->Prop}(hu:A.units+1<cLine) (I:Inv X cM σ H s) (g:Md H a y v H') (ry:RelV y u) (rv:RelV v r) (h:∀s',Inv X cM σ H' s'->Q () s'):
  wpAny (model X.prog X.w) A (setItem (.ref a) u r) Q E s:=by
 rcases g with⟨kvs,k,e,ey,l,eH⟩|⟨kvs,k,b,e,ey,eb,l,eH⟩
 ·subst ey eH;obtain⟨z,hd,vs,rel,dd⟩:=QA I.fJ e;have hz:vs.length<=sizeLine:=by rw[<-rel.length];exact z
  have hl:(putK kvs k v).length<=sizeLine:=by have:=vX kvs k v;omega
  refine wpAny_setItem_pairs (hsz:=hz) (HR ry) dd λh' WY hs=>h _ ?_
  have he:∃q,h'.get? a=some q:=let ⟨q,_,_,hq,_⟩:=WY;⟨q,hq⟩;exact HS I (by rw[e];exact True.intro) hs he (Sr hl hd (rel.put k rv) WY)
 ·subst ey eH;cases (show u=Value.ref b from ry)
  obtain⟨z,hd,xs,rel,dd⟩:=VU I.fJ e;have hz:xs.length<=sizeLine:=by rw[<-Paired.length rel];exact z
  have hl:(putK kvs k v).length<=sizeLine:=by have:=vX kvs k v;omega
  refine wpAny_setItem_heap (hsz:=hz) (tupleKind_room_in1 hu) (Gz I.fJ eb) dd λh' WY hs=>h _ ?_
  obtain⟨q,es,ep,hq,h2,h3,h4,_,h5⟩:=WY;refine HS I (by rw[e];exact True.intro) hs ⟨q,hq⟩ ⟨hl,hd,_,(rel.put k eb rv).keeps λc ys ec=>?_,q,es,ep,hq,h2,h3,h4,h5⟩
  rw[cR (TH ec e (λz=>nomatch z))]
  exact ec
end
section
variable {X:Cx}{cM:cj}{σ:St}{H:Hp}{s:cy}{a:cE}{kvs:List (Key×V)}{k:Key}{u:cx}{A:cC}{E:cf}
end
def Yy (i:cF):Prop:=∀ov iv,subscripted i false ov iv=operate [ov,iv] (getItem ov iv)
theorem O3 {prog:cA}{w:cB}{A:cC}{E:cf}{s:cy}{env:Env}{value slice:cF}{pos:Pos}{T id:String}{Q:cf}
  (hl:typeLookup (.type T) "__getitem__"=pure (some (.builtin id))) (hs:Yy slice)
  (h:wpAny (model prog w) A (eval value env) (λo s₁=>wpAny (model prog w) A (eval slice env) (λi s₂=>s₂.TypeIs o T/\wpAny (model prog w) A (getItem o i) Q E s₂) E s₁) E s):
  wpAny (model prog w) A (eval (.Subscript value slice pos) env) Q E s:=by
 refine Subscript_ (bO h (λo s₁ h₁=>bO h₁ (λi s₂ h₂=>?_) λ_ _ x=>x) λ_ _ x=>x)
 obtain⟨hT,h₂⟩:=h₂;unfold subscriptTail;refine aa ?_;rw[getitemInPython_of_ne hT.not_modules];refine aa (wpAny_specialOf hT hl ?_);have fin:wpAny (model prog w) A (subscripted slice false o i) (λr s₃=>wpAny (model prog w) A (letTemporaryGo value o r>>=λ_=>pure r) Q E s₃) E s₂:=by
  rw[hs o i];exact wpAny_operating (bO h₂ (λr s₃ h₃=>aa (wpAny_letTemporaryGo (aj h₃))) λ_ _ x=>x)
 first
  |exact aj (aa fin)
  |exact aa (aj (aa fin))
  |exact aa fin
noncomputable def VV (td ty tv:TE):TS:=λD σ H=>tv σ H λv H1=>td σ H1 λx H2=>ty σ H2 λy H3=>∃a H4,x=.ref a/\Md H3 a y v H4/\D.nx σ H4
section
variable {X:Cx}{o i e value:cF}{pos pos' Uu:Pos}{td ty tv:TE}
theorem O4 (hu:X.A.units+1<cLine) (ho:PE X o td) (hi:PE X i ty) (hv:PE X value tv) (hs:swapsWith value (some (.Subscript o i pos')) pos.line X.env=pure false):
  PS X (.Assign [.Subscript o i pos'] value pos) (VV td ty tv):=by
 intro cM s σ H D I h;refine wpAny_Assign_Subscript (gU (hv cM s σ H _ I h) λr s1 ⟨v,H1,I1,rv,q1⟩=>gU (ho cM s1 σ H1 _ I1 q1) λu s2 ⟨x,H2,I2,rx,q2⟩=>gU (hi cM s2 σ H2 _ I2 q2) λiv s3 ⟨y,H3,I3,ry,a,H4,ex,g,q3⟩=>?_) hs
 subst ex;obtain rfl:u=Value.ref a:=rx;exact JK hu I3 g ry rv λs4 I4=>⟨σ,H4,I4,q3⟩
end
theorem Me (h:Heap) (hb:sysModules<h.objs.size):ie P w H (h.push {cls:=.type "dict",data:=.dict #[]}) h.objs.size (.dK []):=
 ⟨bK _,beq_eq_false_iff_ne.mpr (Ne.symm (aE hb)),[],.nil,Heap.DictOf.new h⟩
def Ss:TE:=λ_ H Q=>∀p,H p=none->Q (.ref p) (upd H p (.dK []))
section
variable {X:Cx}{pos:Pos}
theorem Mg:PE X (.Dict [] [] pos) Ss:=λcM s σ H Q I h=>
 wpAny_Dict_empty ⟨.ref s.heap.objs.size,_,I.laid (a:=s.heap.objs.size) (o:=.dK []) (t':=s.toks) (λ_ _ q=>ag _ q) (au _) (Me s.heap I.big),rfl,h _ (I.fJ.fresh (au _))⟩
end
structure M2 (X:Cx) (o:cF) (m:Str) (apos:Pos) (e f:cF) (hV:Pos):Prop where
 base:attributeBase o m X.env (eval o X.env)=eval o X.env
 QB:((backTo hV (starEach [e,f] X.env)).all (λx=> !x.1)&&(backToKw hV (keywordEach [] X.env)).all (λx=>x.1.isSome)
  &&decide (([e,f]:List cF).length+([]:List Keyword).length+(if([]:List Keyword).isEmpty then 0 else 1)<30))=true
 line:(apos.endLine==hV.line)=true
 trees:backTo hV (starEach [e,f] X.env)=[(false,eval e X.env),(false,eval f X.env)]
def IsD (H:Hp) (a:cE):Prop:=(∃kvs,Rd H a (.dK kvs))\/∃kvs,Rd H a (.dT kvs)
theorem Su {X:Cx}{cM:cj}{σ:St}{H:Hp}{s:cy}{a:cE}(I:Inv X cM σ H s) (d:IsD H a):
  s.TypeIs (.ref a) "dict"/\(∀b,Value.ref a=.ref b->∃ob,s.heap.get? b=some ob/\ob.dict=none)/\(a==sysModules)=false:=by
 rcases d with⟨kvs,e⟩|⟨kvs,e⟩
 ·obtain⟨_,hd,vs,_,dd⟩:=Ma I.fJ e;refine⟨dd.typeIs,λb q=>?_,hd⟩
  cases q;obtain⟨ob,_,_,h1,h2,_⟩:=dd;exact⟨ob,h1,h2.2.1⟩
 ·obtain⟨_,hd,xs,_,dd⟩:=Mb I.fJ e;refine⟨dd.typeIs,λb q=>?_,hd⟩
  cases q;obtain⟨ob,_,_,h1,h2,_⟩:=dd;exact⟨ob,h1,h2.2.1⟩
section
variable {X:Cx}{cM:cj}{σ:St}{H:Hp}{s:cy}{a:cE}{y d:V}{u r:cx}{o:Option V}{A:cC}{E:cf}
theorem Sv (hu:A.units+1<cLine) (I:Inv X cM σ H s) (g:Mc H a y o) (ry:RelV y u) (rd:RelV d r) (h:∀w' s',Inv X cM σ H s'->RelV (o.getD d) w'->Q w' s'):wpAny (model X.prog X.w) A (call (.builtin "dict.get") [.ref a,u,r]) Q E s:=by
 rcases g with⟨kvs,k,e,ey,l⟩|⟨kvs,k,b,e,ey,eb,l⟩
 ·subst ey;obtain⟨z,hd,vs,rel,dd⟩:=Ma I.fJ e;refine call_meetsIn PySem.F.slot_dict_get dd.typeIs PySem.F.entry_dict_get (PySem.F.args_dict_get_3 _ _ _) (meets_dict_get_default (fB X.prog X.w) a (HR ry) hd r) ⟨_,dd.mapOf,h _ _ (I.tok _) ?_⟩;rw[l];exact(rel.val k).getD rd
 ·subst ey;cases (show u=Value.ref b from ry)
  obtain⟨z,hd,xs,rel,dd⟩:=Mb I.fJ e;refine call_meetsIn PySem.F.slot_dict_get dd.typeIs PySem.F.entry_dict_get (PySem.F.args_dict_get_3 _ _ _) (meetsH_dict_get_default (tupleKind (fB X.prog X.w)) a b hd r) ⟨tupleKind_room_in1 hu,k,xs,Gz I.fJ eb,dd,h _ _ (I.tok _) ?_⟩;rw[l];exact(rel.val k).getD rd
end
noncomputable def Sw (td ty tx:TE):TE:=λσ H Q=>td σ H λx H1=>∃a,x=.ref a/\IsD H1 a/\ty σ H1 λy H2=>tx σ H2 λz H3=>∃o,Mc H3 a y o/\Q (o.getD z) H3
section
variable {X:Cx}{o e f:cF}{apos hV:Pos}{td ty tx:TE}
theorem Mh (hu:X.A.units+1<cLine) (ho:PE X o td) (he:PE X e ty) (hf:PE X f tx) (m:M2 X o "get" apos e f hV):PE X (.Call (.Attribute o "get" apos) [e,f] [] hV) (Sw td ty tx):=by
 intro cM s σ H Q I h;refine wpAny_Call_method m.base m.QB m.line PySem.F.plainAttrs_dict PySem.F.slot_dict_get PySem.F.type_dict_get (gU (ho cM s σ H _ I h) λu s1 ⟨x,H1,I1,rx,a,ex,d,q1⟩=>?_)
 subst ex;obtain rfl:u=Value.ref a:=rx;obtain⟨t1,t2,_⟩:=Su I1 d;refine⟨t1,t2,?_⟩;rw[m.trees];refine Calls.callWith_builtin rfl (Calls.evalArgs_plain (Calls.spliced_cons (gU (he cM s1 σ H1 _ I1 q1) λiv s2 ⟨y,H2,I2,ry,q2⟩=>
  Calls.spliced_cons (gU (hf cM s2 σ H2 _ I2 q2) λfv s3 ⟨z,H3,I3,rz,ov,g,q3⟩=>Calls.spliced_nil ?_))))
 exact Sv hu I3 g ry rz λw' s4 I4 Ob=>⟨_,H3,I4,Ob,q3⟩
end
section
variable {X:Cx}{cM:cj}{σ:St}{H:Hp}{s:cy}{a:cE}{kvs:List (Key×V)}{A:cC}{E:cf}
end
section
variable {X:Cx}{cM:cj}{σ:St}{H:Hp}{s:cy}{a:cE}{y:V}{u:cx}{A:cC}{E:cf}
end
noncomputable abbrev nt:Scope:={kind:=.function,names:=[(Str.ofString "point",.local),(Str.ofString "uses",.free)],isGenerator:=false,isCoroutine:=false,more:=[]}
noncomputable abbrev nu (p:Pos):Arguments:={posonlyargs:=[],args:=[{arg:="point",annotation:=none,pos:=p}],vararg:=none,kwonlyargs:=[],kw_defaults:=[],kwarg:=none,defaults:=[]}
noncomputable abbrev jP (pu pp pS pU E5 pT:Pos):cF:=.Tuple [.UnaryOp .USub (.Subscript (.Name "uses" pu) (.Name "point" pp) pS) pU,.Name "point" E5] 0 pT
section
variable {prog:cA}{w:cB}{A:cC}{E:cf}{s:cy}{f c' a cell:cE}{qual:Str}{pm sj:cx}{pa pu pp pS pU E5 pT:Pos}{vs:List (Key×cx)}{p n:Int}{t tn:Tok}
theorem DY (jb:A.depth<recursionLimit) (hf:s.heap.get? f=some (W.kla_obj "<lambda>" qual (nu pa) (jP pu pp pS pU E5 pT) nt [(Str.ofString "uses",cell)] pm c' sj)) (uF:s.heap.CodeRec (.ref c') qual) (Rx:s.heap.NoLimit) (sY:s.heap.IsCell cell (some (.ref a))) (dd:s.heap.DictOf (fB prog w) a vs) (hv:valueAt vs (.inl p)=some (.int n tn)) (h:∀T h' tk Tz,h'.get? T=some {cls:=.type "tuple",data:=.seq #[.int (-n) Tz,.int p t]}->(∀b o,s.heap.get? b=some o->h'.get? b=some o)->s.heap.objs.size<=T->Q (.ref T) {s with heap:=h',toks:=tk}):wpAny (model prog w) A (call (.ref f) [.int p t]) Q E s:=by
 refine wpAny_call (W.kla_callFunE jb hf rfl rfl rfl rfl uF ?_);have hb:bindArgs (W.kla_fn "<lambda>" qual (nu pa) (jP pu pp pS pU E5 pT) nt [(Str.ofString "uses",cell)] pm (.ref c') sj) ⟨[.int p t],[]⟩=pure [(Str.ofString "point",.int p t)]:=rfl;rw[hb];refine aj (wpAny_newFunctionEnv (show ∀x∈nt.names,x.2≠.cell by decide) (by intro x hx;simp at hx;subst hx;rfl) (λh₁ K3 Jd=>⟨Rx.fresh _ Jd,?_⟩) rfl)
 have Sy:∀b o,s.heap.get? b=some o->h₁.get? b=some o:=λb o e=>Jd.extBut b o (aE (aB e)) (ag _ e)
 have hsz:s.heap.objs.size<=h₁.objs.size:=bg K3.lt;refine W.kla_codeExpr ?_;generalize hL:s.heap.objs.size=L at *;show wpAny (model prog w) (A.deeper (W.envX qual nt L f (.ref c') [(Str.ofString "uses",cell)])) (eval (jP pu pp pS pU E5 pT) (W.envX qual nt L f (.ref c') [(Str.ofString "uses",cell)])) _ _ {s with heap:=h₁,toks:=s.toks+1}
 generalize hA:A.deeper (W.envX qual nt L f (.ref c') [(Str.ofString "uses",cell)])=A';generalize s.toks+1=tk₁;refine wpAny_Tuple_spliced ?_;refine Calls.spliced_cons (UnaryOp_ (O3 PySem.F.slot_dict_getitem.lookup (λ_ _=>rfl) ?_))
 have dd₁:h₁.DictOf (fB prog w) a vs:=by obtain⟨o,es,ep,e,r⟩:=dd;exact⟨o,es,ep,Sy _ _ e,r⟩
 refine wpAny_Name (wpAny_loadName_free rfl rfl rfl (sY.keeps Sy) ?_) (by decide)
 refine wpAny_Name (wpAny_loadName_local rfl rfl K3 rfl ?_) (by decide)
 refine⟨dd₁.mapOf.typeIs,wpAny_getItem_of (k:=Sum.inl p) (HR (k:=Sum.inl p) (u:=.int p t) ⟨t,rfl⟩) dd₁.mapOf hv ?_⟩;refine neg_int ?_;refine Calls.spliced_cons (wpAny_Name (wpAny_loadName_local rfl rfl K3 rfl ?_) (by decide))
 refine Calls.spliced_nil ⟨by show(2:Nat)<=_;decide,?_⟩
 refine h _ _ _ _ (az _ rfl) (λb o e=>ag _ (Sy b o e)) ?_
 exact hsz
end
end L2
namespace L2
open PySem PySem.Spec PySem.W PySem.Calls PyProof.Rows
section
variable {prog:cA}{w:cB}{A:cC}{E:cf}{s:cy}{K:Type} [DecidableEq K] {knd:KeyKind prog w K}{d:cE}{kvs:List (K×cx)}{ep:Nat}
theorem t8 {Q:cw->cy->Prop}(hh:A.handled=none) (lo:(d==sysModules)=false) (hm:s.heap.DictAt knd d kvs ep) (hn:kvs.length<=sizeLine)
  (hQ:∀h' tk (acc:cw),(∀b o,s.heap.get? b=some o->h'.get? b=some o)->acc.length=kvs.length->(∀(j:Nat) v,acc[j]? =some v->∃k x,kvs[j]? =some (k,x)/\knd.is k v=true)->s.heap.objs.size<h'.objs.size->Q acc {s with heap:=h',toks:=tk}):wpAny (model prog w) A (collect (.ref d)) Q E s:=by
 unfold collect;refine aa (wpAny_runValue (codeAny_builtin PySem.F.entry_proto_collect ?_));rw[bW PySem.F.plain_proto_collect _];show wpAny _ A.in1 (newList []>>=λl=>again (.builtin "list.__iadd__" ⟨[l,.ref d],[]⟩)) _ _ s
 refine aa (bQ ?_);refine aj ⟨plainId_quiet PySem.F.plain_list_iadd _,codeAny_builtin PySem.F.entry_list_iadd ?_⟩;rw[bW PySem.F.plain_list_iadd _];have hS:(s.heap.push {cls:=.type "list",data:=.seq ([]:cw).toArray}).get? s.heap.objs.size=some {cls:=.type "list",data:=.seq #[]}:=az _ rfl;have fu:=hm.lt_size;show wpAny _ A.in1 (Builtin.List.listExtendWith (.ref s.heap.objs.size) (.ref d) (.ref s.heap.objs.size)) _ _ _;have key:=kdl_extend (A:=A) (s:={s with heap:=s.heap.push {cls:=.type "list",data:=.seq ([]:cw).toArray}}) (R:=λr s'=>∃h' tk gN c',r=.ok (.ret (.ref s.heap.objs.size))/\s'={s with heap:=h',toks:=tk}/\(∀b o,b≠s.heap.objs.size->(s.heap.push {cls:=.type "list",data:=.seq ([]:cw).toArray}).get? b=some o->h'.get? b=some o)/\h'.get? s.heap.objs.size=some {cls:=.type "list",dict:=none,data:=.seq gN c',slots:=#[]}/\ItemsOf (λi v=>∃k x,kvs[i]? =some (k,x)/\knd.is k v=true) gN kvs.length)
  (kdl_dict (knd:=knd) (kvs:=kvs) (ep:=ep) lo) hh (hm.push _) s.heap.objs.size (bw fu) (bw fu) (.ref s.heap.objs.size) 0 hS (λh' tk gN c' hk O0 lL=>⟨h',tk,gN,c',rfl,rfl,hk,O0,lL⟩) hn
 have fin:∀(h':Heap) tk gN c',(∀b o,b≠s.heap.objs.size->(s.heap.push {cls:=.type "list",data:=.seq ([]:cw).toArray}).get? b=some o->h'.get? b=some o)->h'.get? s.heap.objs.size=some {cls:=.type "list",dict:=none,data:=.seq gN c',slots:=#[]}->ItemsOf (λi v=>∃k x,kvs[i]? =some (k,x)/\knd.is k v=true) gN kvs.length->Q gN.toList {s with heap:=h',toks:=tk}:=λh' tk gN c' hk O0 lL=>
  hQ h' tk gN.toList (λb o e=>hk b o (aE (aB e)) (ag _ e)) (by rw[aN];exact lL.1) (λj v e=>lL.2 j v (by rw[<-Array.getElem?_toList];exact e)) (aB O0)
 refine bO key (λr s' hr=>?_) λe s' hr=>?_
 ·cases r with
  |done f=>
   obtain⟨h',tk,gN,c',e1,e2,e3,e4,e5⟩:=hr;cases e1;subst e2;exact aa (wpAny_load e4 (aj (fin h' tk gN c' e3 e4 e5)))
  |again c=>
   refine⟨hr.1,codeAny_mono hr.2 λr s' hr=>?_⟩
   obtain⟨h',tk,gN,c',e1,e2,e3,e4,e5⟩:=hr;cases e1;subst e2;exact aa (wpAny_load e4 (aj (fin h' tk gN c' e3 e4 e5)))
 ·obtain⟨h',tk,gN,c',e1,_⟩:=hr;cases e1
end
section
variable {prog:cA}{w:cB}{A:cC}{E:cf}{s:cy}{K:Type} [DecidableEq K] {knd:KeyKind prog w K}{d:cE}{kvs:List (K×cx)}{ep:Nat}
 {h₀:Heap}{L:cE}{m:cg}{news:cj}{f:cE}
theorem O5 {Q:cf}(F:Fr h₀ L s.heap m) (N:News h₀ L s.heap news) (hh:A.handled=none) (lo:(d==sysModules)=false) (hm:s.heap.DictAt knd d kvs ep) (h2:2<=kvs.length) (zw:kvs.length<64)
  (h:∀(vs:cw) D kS e1 h' tk,vs.length=kvs.length->(∀(j:Nat) v,vs[j]? =some v->∃k x,kvs[j]? =some (k,x)/\knd.is k v=true)->Fr h₀ L h' m->News h₀ L h' ((kS,seqObj "list" #[] 0)::(D,seqObj "list" #[] e1)::news)->D<kS->(∀q∈news,q.1<D)->s.heap.objs.size<=D->
   KatKeys prog w A.in1.in1 h₀ L m kS (.ref f) (λks e s'=>wpAny (model prog w) A.in1.in1 (keyKind' (List.toArray ks)) (λκ Kj=>(kas_sort vs.length).kasWp (kas_ask prog w A.in1.in1 κ ks) (λp s3=>KatFin h₀ L m kS D ks e e1 (p.toList.map λi=>vs.getD i Value.none) (λs4=>Q (.ref D) s4) s3) Kj) (λ_ _=>False) s') vs [] 0 {s with heap:=h',toks:=tk}):
  wpAny (model prog w) A (call (.builtin "sorted") [.ref d] [(Str.ofString "key",.ref f)]) Q E s:=by
 refine call_function_entry_kw kind_sorted plain_sorted entry_sorted (ksk_s1 _ _) ?_;unfold Builtin.«sorted»;refine aa (m:=checkCount "sorted" 1 1 _) (aj ?_);refine aa (t8 hh lo hm (by rw[bu];omega) λg tk vs keep hl hv hg=>?_)
 refine aa (wpAny_newList ?_ (by rw[bu];omega))
 have Hc:(g.push (seqObj "list" vs.toArray 0)).get? g.objs.size=some (seqObj "list" vs.toArray 0):=az _ rfl;have jz:∀b o,s.heap.get? b=some o->(g.push (seqObj "list" vs.toArray 0)).get? b=some o:=λb o q=>ag _ (keep b o q)
 have hL:L<s.heap.objs.size:=F.ns.lt;refine aa (bo (wpAny_call_entry_kw slot_list_sort ⟨_,Hc,rfl⟩ entry_list_sort ?body (ksk_l1 _ _)))
 case body=>
  show wpAny (model prog w) A.in1.in1 (Builtin.«list.sort» ⟨[.ref g.objs.size],[(Str.ofString "key",.ref f)]⟩) _ _ _;rw[ksk_t1];refine kat_keyed (b:=false) (s:={s with heap:=g.push (seqObj "list" vs.toArray 0),toks:=tk}) (F.kept jz) (N.grown jz) Hc (bw (bG hL hg)) (Heap.get?_none_of_le (aD F.above (bg (bG hL hg))))
   (λp hp=>aE (bG (aB (N p hp).1) hg)) (by omega) (by omega) λkS e1 h' F' N' l0 l1=>?_
  refine kat_keys_mono (h vs g.objs.size kS e1 h' tk hl hv F' N' l0 (λq hq=>bG (aB (N q hq).1) hg) (bg hg)) λks e s' iq hd=>?_
  have HU:ks.length=vs.length:=by simpa using iq
  refine bO hd (λκ Kj hk=>?_) λ_ _ x=>x
  have er:∀{α:Type}(l:List α),katRev false l=l:=λ_=>rfl
  rw[er,er,kat_ask_eq HU];rw[kat_ask_eq HU]at hk;refine kas_wp_mono hk λp s3 oY=>?_
  rw[er];exact oY.mono λs4 hq=>⟨_,rfl,aj ⟨_,rfl,hq⟩⟩
end
section
variable {prog:cA}{w:cB}{A:cC}{E:cf}{s:cy}{f:cE}
theorem JL {T:Heap}{a:cE}{v:cx}{tk:Nat}{Q:cf}(o1:T.get? a=some (seqObj "list" #[v] 0))
  (Mi:∀g:Heap,(∀b o,b≠a->T.get? b=some o->g.get? b=some o)->wpAny (model prog w) A.in1 (call (.ref f) [v]) (λ_ s'=>∃h' t5,s'={s with heap:=h',toks:=t5}/\∀b o,g.get? b=some o->h'.get? b=some o) (λ_ _=>False) {s with heap:=g,toks:=tk})
  (h:∀h' c t5,h'.get? a=some (seqObj "list" #[v] c)->(∀b o,b≠a->T.get? b=some o->h'.get? b=some o)->Q .none {s with heap:=h',toks:=t5}):
  wpAny (model prog w) A (call (.builtin "list.sort") [.ref a] [(Str.ofString "key",.ref f)]) Q E {s with heap:=T,toks:=tk}:=by
 have ha:a<T.objs.size:=aB o1;refine wpAny_call_entry_kw slot_list_sort ⟨_,o1,rfl⟩ entry_list_sort ?_ (ksk_l1 _ _);show wpAny (model prog w) A.in1 (Builtin.«list.sort» ⟨[.ref a],[(Str.ofString "key",.ref f)]⟩) _ _ _;rw[ksk_t1];unfold ksk_tree;refine aa (listItems_at o1 rfl (aa (listUpdate_at o1 rfl ?_ (hsz:=by show(1:Nat)<=_;rw[bu];decide) (hsz2:=bK _))))
 obtain⟨e1,vS⟩:∃e1,(T.update a (Obj.mapSeq λ_=>#[])).get? a=some (seqObj "list" #[] e1):=⟨_,get?_update_seq o1 (λ_=>#[])⟩
 refine aa (seqEpoch_at vS rfl (aa (wpAny_newTuple (aa (wpAny_newList (bo ?_))) (by show(1:Nat)<=_;rw[bu];decide))))
 have kp1:∀b o,b≠a->T.get? b=some o->(((T.update a (Obj.mapSeq λ_=>#[])).push (seqObj "tuple" #[v] 0)).push (seqObj "list" #[] 0)).get? b=some o:=λb o hb e=>ag _ (ag _ ((bx _ _ (Ne.symm hb)).trans e))
 have oa:(((T.update a (Obj.mapSeq λ_=>#[])).push (seqObj "tuple" #[v] 0)).push (seqObj "list" #[] 0)).get? a=some (seqObj "list" #[] e1):=ag _ (ag _ vS)
 have ok:(((T.update a (Obj.mapSeq λ_=>#[])).push (seqObj "tuple" #[v] 0)).push (seqObj "list" #[] 0)).get? ((T.update a (Obj.mapSeq λ_=>#[])).push (seqObj "tuple" #[v] 0)).objs.size=some (seqObj "list" #[] 0):=az _ rfl
 have hak:a≠((T.update a (Obj.mapSeq λ_=>#[])).push (seqObj "tuple" #[v] 0)).objs.size:=by rw[size_push',Heap.size_update];exact aE (Nat.lt_succ_of_lt ha)
 have hkT:T.objs.size<=((T.update a (Obj.mapSeq λ_=>#[])).push (seqObj "tuple" #[v] 0)).objs.size:=by rw[size_push',Heap.size_update];exact Nat.le_succ _
 show wpAny (model prog w) A.in1 (ksk_rest a (.ref f) false #[v] e1 (.ref ((T.update a (Obj.mapSeq λ_=>#[])).push (seqObj "tuple" #[v] 0)).objs.size)) _ _ {s with heap:=((T.update a (Obj.mapSeq λ_=>#[])).push (seqObj "tuple" #[v] 0)).push (seqObj "list" #[] 0),toks:=tk}
 generalize ((T.update a (Obj.mapSeq λ_=>#[])).push (seqObj "tuple" #[v] 0)).objs.size=kS at *
 generalize (((T.update a (Obj.mapSeq λ_=>#[])).push (seqObj "tuple" #[v] 0)).push (seqObj "list" #[] 0))=U at *
 unfold ksk_rest;refine aa (wpAny_rule ?_);rw[show(#[v]:Array cx)=[v].toArray from rfl,List.forIn_toArray,List.forIn_cons]
 refine aa (aa (aa (wpAny_attempt (bO (Mi U kp1) (λk s' hk=>?_) λ_ _ x=>x.elim))))
 obtain⟨g,t5,rfl,kg⟩:=hk;dsimp only;have ok2:=kg _ _ ok;refine aa (listUpdate_at ok2 rfl (aj ?_) (hsz:=bK _) (hsz2:=by show(1:Nat)<=_;rw[bu];decide))
 dsimp only;rw[List.forIn_nil];refine aj ?_;obtain⟨c1,Yz⟩:∃c,(g.update kS (Obj.mapSeq (·.push k))).get? kS=some (seqObj "list" #[k] c):=⟨_,get?_update_seq ok2 (·.push k)⟩
 have oa3:(g.update kS (Obj.mapSeq (·.push k))).get? a=some (seqObj "list" #[] e1):=(bx _ _ (Ne.symm hak)).trans (kg _ _ oa)
 have kp3:∀b o,b≠a->T.get? b=some o->(g.update kS (Obj.mapSeq (·.push k))).get? b=some o:=λb o hb e=>(bx _ _ (bw (aw (aB e) hkT))).trans (kg _ _ (kp1 b o hb e))
 show wpAny (model prog w) A.in1 (Builtin.List.listItems (.ref kS)>>=λkeys=>ksk_end a false #[v] e1 (.ref kS) keys) _ _ {s with heap:=g.update kS (Obj.mapSeq (·.push k)),toks:=t5}
 generalize g.update kS (Obj.mapSeq (·.push k))=G at Yz oa3 kp3
 refine aa (listItems_at Yz rfl ?_);unfold ksk_end;dsimp only;have hsz:(#[v]:Array cx).size<2:=by show(1:Nat)<2;decide
 rw[if_pos hsz,if_pos hsz];simp only[aI,bD];refine aa (aj ?_);rw[StateT.run_pure];refine aa (aj ?_);unfold ksk_tail;dsimp only;have FP:((#[k]:Array cx).zip #[v]).map (·.2)=#[v]:=by apply Array.toList_inj.mp;simp
 rw[show(arrOf (SortSt.mk' general' ((#[k]:Array cx).zip #[v]) #[] 7 none))=(#[k]:Array cx).zip #[v]from rfl,FP]
 refine aa (listUpdate_at Yz rfl ?_ (hsz:=by show(1:Nat)<=_;rw[bu];decide) (hsz2:=bK _))
 refine aa (wpAny_letGo ?_);have YA:(G.update kS (Obj.mapSeq λ_=>(#[]:Array cx))).get? a=some (seqObj "list" #[] e1):=(bx _ _ (Ne.symm hak)).trans oa3
 have kp4:∀b o,b≠a->T.get? b=some o->(G.update kS (Obj.mapSeq λ_=>(#[]:Array cx))).get? b=some o:=λb o hb e=>(bx _ _ (bw (aw (aB e) hkT))).trans (kp3 b o hb e)
 refine aa (seqEpoch_at YA rfl (aa (listUpdate_at YA rfl ?_ (hsz:=bK _) (hsz2:=by show(1:Nat)<=_;rw[bu];decide))))
 simp only[bne_self_eq_false,aI,bD];obtain⟨c,hc⟩:∃c,((G.update kS (Obj.mapSeq λ_=>(#[]:Array cx))).update a (Obj.mapSeq λ_=>#[v])).get? a=some (seqObj "list" #[v] c):=⟨_,get?_update_seq YA (λ_=>#[v])⟩
 exact aj ⟨_,rfl,h _ c t5 hc λb o hb e=>(bx _ _ (Ne.symm hb)).trans (kp4 b o hb e)⟩
variable {K:Type} [DecidableEq K] {knd:KeyKind prog w K}{d:cE}{kvs:List (K×cx)}{ep:Nat}
theorem Mj (hh:A.handled=none) (lo:(d==sysModules)=false) (hm:s.heap.DictAt knd d kvs ep) (h1:kvs.length=1) (Mi:∀(g:Heap) tk v,(∃k x,kvs[0]? =some (k,x)/\knd.is k v=true)->(∀b o,s.heap.get? b=some o->g.get? b=some o)->wpAny (model prog w) A.in1.in1 (call (.ref f) [v]) (λ_ s'=>∃h' t5,s'={s with heap:=h',toks:=t5}/\∀b o,g.get? b=some o->h'.get? b=some o) (λ_ _=>False) {s with heap:=g,toks:=tk}) (h:∀D v h' c tk,(∃k x,kvs[0]? =some (k,x)/\knd.is k v=true)->h'.get? D=some (seqObj "list" #[v] c)->s.heap.objs.size<=D->(∀b o,s.heap.get? b=some o->h'.get? b=some o)->Q (.ref D) {s with heap:=h',toks:=tk}):wpAny (model prog w) A (call (.builtin "sorted") [.ref d] [(Str.ofString "key",.ref f)]) Q E s:=by
 refine call_function_entry_kw kind_sorted plain_sorted entry_sorted (ksk_s1 _ _) ?_;unfold Builtin.«sorted»;refine aa (m:=checkCount "sorted" 1 1 _) (aj ?_);refine aa (t8 hh lo hm (by rw[h1,bu];decide) λg tk vs keep hl hv hg=>?_)
 rw[h1]at hl;obtain⟨v,rfl⟩:∃v,vs=[v]:=by
  match vs,hl with
  |[v],_=>exact⟨v,rfl⟩
 have kv:=hv 0 v rfl;refine aa (wpAny_newList ?_ (by show(1:Nat)<=_;rw[bu];decide))
 have Hc:(g.push (seqObj "list" #[v] 0)).get? g.objs.size=some (seqObj "list" #[v] 0):=az _ rfl;refine aa (bo (JL (A:=A.in1) (s:=s) (T:=g.push (seqObj "list" #[v] 0)) (tk:=tk) Hc (λg' kp=>Mi g' tk v kv λb o e=>kp b o (aE (bG (aB e) hg)) (ag _ (keep b o e))) λh' c t5 hD kp=>?_))
 refine aj ⟨_,rfl,h _ v h' c t5 kv hD (bg hg) λb o e=>kp b o ?_ (ag _ (keep b o e))⟩
 exact aE (bG (aB e) hg)
end
theorem t9:∀(l:cw),TriplesOk l->TriplesOk (l++[.int i t,.int j u,c])
 |[],_=>trivial
 |.int _ _::.int _ _::_::rest,h=>t9 rest h
theorem u5 (h1:p.line=q.line) (h2:p.col=q.col):∀l:cw,codeAmong p l=codeAmong q l:=λl=>by
 have key:∀(n:Nat) (l:cw),l.length<=n->codeAmong p l=codeAmong q l:=λn=>by
  induction n with
  |zero=>intro l hl;cases l with|nil=>rfl|cons _ _=>simp at hl
  |succ n ih=>
   intro l hl;unfold codeAmong;split
   ·rename_i line _ col _ c rest;rw[h1,h2,ih rest (by simp only[ay]at hl;omega)]
   ·rfl
 exact key l.length l (au _)
theorem Ml (h:za p x++m=za q y++n):p.line=q.line/\p.col=q.col/\x=y:=by
 have h0:=congrArg (λa:Array cx=>a.toList) h
 simp only[za,Array.toList_append,List.cons_append,List.nil_append]at h0;injection h0 with a1 h1
 injection h1 with a2 h2
 injection h2 with a3 _
 injection a1 with b1 _
 injection a2 with b2 _
 injection a3 with b3 _
 exact⟨Int.ofNat.inj b1,Int.ofNat.inj b2,b3⟩
theorem B1 {env:Env}{cell:cE}(h:env.cells.lookup (Str.ofString "uses")=some cell):closureFor nt env=pure [(Str.ofString "uses",cell)]:=by
 unfold closureFor;simp only[nt,List.forIn_cons,List.forIn_nil];have ec:cellOf env (Str.ofString "uses")=pure cell:=by unfold cellOf;rw[h]
 rw[ec];rfl
section
variable {X:Cx}{cM:cj}{σ:St}{H:Hp}{s:cy}{x:Str}{mi:Pos}{qual:Str}{c Pt:cE}{ar:Arguments}{bd:cF}{sc:Scope}{cl:List (Str×cE)}
structure VW (X:Cx) (cM:cj) (σ:St) (H H2:Hp) (s2:cy) (f c':cE) (qual:Str) (ar:Arguments) (bd:cF) (sc:Scope) (cl:List (Str×cE)):Prop where
 inv:Inv X cM σ H2 s2
 new:H2=H\/∃u,H c'=none/\H2=upd H c' u
 fn:∃pm sj,s2.heap.get? f=some (kla_obj "<lambda>" qual ar bd sc cl pm c' sj)
 cd:s2.heap.CodeRec (.ref c') qual
 fl:f≠X.env.locals
 fz:∃oc vs t,H2 c'=some (.yZ oc (.own 0))/\oc.data=.fields vs/\vs[1]? =some (.str qual t)
 fn0:H2 f=none
 fs:f∉Bg X.stack
theorem Ay (I:Inv X cM σ H s) (hT:(x,mi,qual)∈qc) (ht:tabIn X.K x=some (c,Pt)) (hq:X.env.qual++Str.ofString "<lambda>"=qual) (pQ:X.env.code=.ref c) (uM:closureFor sc X.env=pure cl) (Mm:defaultsOf ar X.env=([],[])) (h:∀H2 s2 f c',VW X cM σ H H2 s2 f c' qual ar bd sc cl->Q (.ref f) s2):wpAny (model X.prog X.w) X.A (eval (.Lambda ar bd sc mi) X.env) Q E s:=by
 obtain⟨⟨more,hP⟩,hC,hB⟩:=(I.ok.tb.un I.base) x c Pt mi qual hT ht;obtain⟨qs,e,tr,pos,aal,VX,eq,r⟩:=(show zV H s.heap Pt (za mi qual++more)from I.fJ Pt _ hP)
 obtain⟨z1,z2,z3⟩:=Ml eq;subst z3;have hC':CodeHd s.heap c Pt:=hC.keeps I.bk;have QC:s.heap.BuiltinsAt X.mg Pt:=let ⟨bm,ob,b1,b2,b3,b4,b5,b6⟩:=hB;⟨bm,ob,b1,b2,b3,b4,I.bk _ _ b5,b6⟩;have hG:s.heap.Ns mainGlobals X.mg:=I.mod.glob.keeps I.bk;have hgP:mainGlobals≠Pt:=λz=>by
  obtain⟨og,es,ep,eg,hd,_⟩:=hG;rw[z,e]at eg;cases eg;cases hd
 refine kla_eval Mm ?_;rw[hq];have hlL:X.env.locals<s.heap.objs.size:=I.lt;have VY:∀{b:cE},s.heap.objs.size<=b->b∉Bg X.stack:=λ{b} hb z=>by
  obtain⟨_,o,ho,_⟩:=I.stack.mem z;exact absurd (aB ho) (Nat.not_lt.mpr hb)
 rcases r with hn|⟨c',oc,vs,t,hf,q2,q3,q4⟩
 ·have hnf:codeAmong mi qs.toList=none:=by rw[u5 z1 z2];exact hn
  refine kla_makeFunction (uM) I.ok.glob hG pQ hC' e tr hnf hgP QC λc' sj h' tk hx wq fu K4 Ww=>?_
  obtain⟨c2,oc,vs,t,ec,Th,hd,hv⟩:=id K4;cases ec;have hH:H c'=none:=I.fJ.fresh wq;generalize hfo:kla_obj "<lambda>" qual (ar) bd sc cl ((X.mg "__name__").getD .none) c' sj=fo;have keep:∀b o,b≠Pt->s.heap.get? b=some o->(h'.push fo).get? b=some o:=λb o hb q=>ag _ (hx b o hb q)
  have nP:∀{b:cE},H b=none->b≠Pt:=λ{b} q z=>by rw[z,hP]at q;cases q
  refine h (upd H c' (.yZ oc (.own 0))) _ _ c' ⟨?_,.inr ⟨_,hH,rfl⟩,⟨_,sj,by rw[hfo];exact az _ (by rw[<-hfo];rfl)⟩,⟨c',oc,vs,t,rfl,ag _ Th,hd,hv⟩,bw (bG (aw hlL wq) fu),⟨oc,vs,t,cY,hd,hv⟩,by rw[cR (bw fu)];exact I.fJ.fresh (bg (Nat.lt_of_le_of_lt wq fu)),VY (bg (Nat.lt_of_le_of_lt wq fu))⟩
  refine I.un (h':=h'.push fo) (t':=tk) ⟨λb o q n _ _=>keep b o (nP n) q,λb o q n _ _=>⟨o.slots,keep b o (nP n) q⟩,λb o q n _=>?_,λb o q _=>?_,λb xs q=>(cR (cX q hH)).trans q,λb o u q=>(cR (cX q hH)).trans q,λb ps q=>⟨#[],by rw[cR (cX q hH),q];simp⟩⟩ ?_
  ·rw[cR (aE (aw (aB q) wq))];exact n
  ·by_cases hb:b=Pt
   ·subst hb;exact⟨_,ag _ Ww⟩
   ·exact⟨o,keep b o hb q⟩
  ·intro b u q;by_cases hb:b=c'
   ·subst hb;rw[cY]at q;cases q;exact⟨ag _ Th,oc,ag _ Th⟩
   ·rw[cR hb]at q;by_cases hbP:b=Pt
    ·subst hbP;rw[hP]at q;cases q;refine⟨_,ag _ Ww,?_,pos,qual,VX,eq,.inr ⟨c',oc,vs,t,?_,cY,hd,hv⟩⟩
     ·rw[Array.toList_append];exact t9 _ tr
     ·rw[Array.toList_append,<-u5 z1 z2];exact codeAmong_snoc _ tr hnf
    ·refine(I.fJ b u q).Be (λk v hk z=>keep k v ?_ z) (λk z=>(cR (cX z hH)).trans z) (λk xs z=>(cR (cX z hH)).trans z) λk ob u' z=>(cR (cX z hH)).trans z
     rcases hk with rfl|hk
     ·exact hbP
     ·intro z;rw[z,hP]at hk;cases hk
 ·have hf':codeAmong mi qs.toList=some (.ref c'):=by rw[u5 z1 z2];exact hf
  refine kla_makeFunctionHit (uM) I.ok.glob hG pQ hC' e tr hf' QC λsj h' tk hk hsz=>?_
  obtain⟨e1,_⟩:=I.fJ c' _ q2;refine h H _ _ c' ⟨I.kept (t':=tk) λb o q=>ag _ (hk b o q),.inl rfl,⟨_,sj,az _ rfl⟩,⟨c',oc,vs,t,rfl,ag _ (hk _ _ e1),q3,q4⟩,bw (aw hlL hsz),⟨oc,vs,t,q2,q3,q4⟩,I.fJ.fresh hsz,VY hsz⟩
end
section
variable {X:Cx}{cM:cj}{σ:St}{H:Hp}{s:cy}{x:Str}{mi:Pos}{qual:Str}{c Pt cell:cE}{pa pu pp pS pU E5 pT:Pos}
abbrev Lam (X:Cx) (cM:cj) (σ:St) (H H2:Hp) (s2:cy) (f c' cell:cE) (qual:Str) (pa:Pos) (body:cF):Prop:=VW X cM σ H H2 s2 f c' qual (nu pa) body nt [(Str.ofString "uses",cell)]
theorem Mn (I:Inv X cM σ H s) (hT:(x,mi,qual)∈qc) (ht:tabIn X.K x=some (c,Pt)) (hq:X.env.qual++Str.ofString "<lambda>"=qual) (pQ:X.env.code=.ref c) (uM:X.env.cells.lookup (Str.ofString "uses")=some cell) (h:∀H2 s2 f c',Lam X cM σ H H2 s2 f c' cell qual pa (jP pu pp pS pU E5 pT)->Q (.ref f) s2):wpAny (model X.prog X.w) X.A (eval (.Lambda (nu pa) (jP pu pp pS pU E5 pT) nt mi) X.env) Q E s:=Ay I hT ht hq pQ (B1 uM) rfl h
end
end L2
namespace ST
open PySem PySem.Spec PySem.W PyProof.Rows DL L2
noncomputable def xZ (kvs:List (Int×Int)):List (Key×V):=kvs.map λkv=>(.inl kv.1,.int kv.2)
noncomputable def hX (kvs:List (Int×Int)):ck:=kvs.map λkv=>[-kv.2,kv.1]
structure ig (P:cA) (w:cB) (h:Heap) (f cell a:cE) (qual:Str) (pa:Pos) (body:cF) (GA:List (Key×cx)):Prop where
 fn:∃pm c' sj,h.get? f=some (kla_obj "<lambda>" qual (nu pa) body nt [(Str.ofString "uses",cell)] pm c' sj)/\h.CodeRec (.ref c') qual
 lim:h.NoLimit
 cell:h.IsCell cell (some (.ref a))
 dict:h.DictOf (fB P w) a GA
theorem ig.keeps {P:cA}{w:cB}{h h':Heap}{f cell a:cE}{qual:Str}{pa:Pos}{body:cF}{GA:List (Key×cx)}(l:ig P w h f cell a qual pa body GA) (k:∀b o,h.get? b=some o->h'.get? b=some o):ig P w h' f cell a qual pa body GA where
 fn:=let ⟨pm,c',sj,e,c2,oc,vs,t,z,e2,r⟩:=l.fn;⟨pm,c',sj,k _ _ e,c2,oc,vs,t,z,k _ _ e2,r⟩
 lim:=l.lim.keeps k
 cell:=l.cell.keeps k
 dict:=let ⟨o,es,ep,e,r⟩:=l.dict;⟨o,es,ep,k _ _ e,r⟩
noncomputable def u6:cj->ck->Prop:=Paired λp ns=>∃x y t u,p.2={cls:=.type "tuple",data:=.seq #[.int x t,.int y u]}/\ns=[x,y]
theorem u6.snoc:∀{l:cj}{nss:ck}{p:cE×Obj}{ns:cn},u6 l nss->(∃x y t u,p.2={cls:=.type "tuple",data:=.seq #[.int x t,.int y u]}/\ns=[x,y])->u6 (l++[p]) (nss++[ns])
 |_,_,_,_,.nil,h=>.cons h .nil
 |_,_,_,_,.cons r t,h=>.cons r (u6.snoc t h)
theorem u6.get:∀{l:cj}{nss:ck},u6 l nss->∀(i:Nat) (ns:cn),nss[i]? =some ns->∃p,l[i]? =some p/\∃x y t u,p.2={cls:=.type "tuple",data:=.seq #[.int x t,.int y u]}/\ns=[x,y]
 |_,_,.nil,i,ns,h=>by simp at h
 |p::l,n::nss,.cons r t,0,ns,h=>by simp at h;subst h;exact⟨p,rfl,r⟩
 |p::l,n::nss,.cons r t,i+1,ns,h=>u6.get t i ns (by simpa using h)
theorem u6.length (t:u6 l nss):l.length=nss.length:=Paired.length t
section
variable {P:cA}{w:cB}{A:cC}{s:cy}{f cell a kS D:cE}{qual:Str}{pa pu pp pS pU E5 pT:Pos}{GA:List (Key×cx)}{h₀:Heap}{L:cE}{m:cg}{news:cj}{e1:Nat}{kvs:List (Int×Int)}
theorem DZ {Fin:cw->Nat->cy->Prop}(jb:A.depth<recursionLimit) (YB:D<kS) (hnD:∀q∈news,q.1<D)
  (stays:∀h' o1 o2 fX,Fr h₀ L h' m->News h₀ L h' ((kS,o1)::(D,o2)::(fX++news))->ig P w h' f cell a qual pa (jP pu pp pS pU E5 pT) GA)
  (Gs:∀kv∈kvs,∃tn,valueAt GA (.inl kv.1)=some (.int kv.2 tn))
  (fin:∀fX e h' tk,u6 fX (hX kvs)->Fr h₀ L h' m->News h₀ L h' ((kS,seqObj "list" (List.toArray (fX.map λp=>Value.ref p.1)) e)::(D,seqObj "list" #[] e1)::(fX++news))->(∀p∈fX,kS<p.1)->Fin (fX.map λp=>Value.ref p.1) e {s with heap:=h',toks:=tk}):
  ∀(r done:List (Int×Int)) (vs:cw) (fX:cj) (e:Nat) (h':Heap) (tk:Nat),done++r=kvs->IntsAre vs (r.map (·.1))->u6 fX (hX done)->Fr h₀ L h' m->
   News h₀ L h' ((kS,seqObj "list" (List.toArray (fX.map λp=>Value.ref p.1)) e)::(D,seqObj "list" #[] e1)::(fX++news))->(∀p∈fX,kS<p.1)->
   KatKeys P w A h₀ L m kS (.ref f) Fin vs (fX.map λp=>Value.ref p.1) e {s with heap:=h',toks:=tk}
 |[],done,vs,fX,e,h',tk,hd,hv,ht,F,N,hk=>by
  cases hv;rw[bB]at hd;subst hd;exact fin fX e h' tk ht F N hk
 |kv::r,done,vs,fX,e,h',tk,hd,hv,ht,F,N,hk=>by
  cases hv with
  |cons n t hv=>
   have la:=stays h' _ _ fX F N;obtain⟨pm,c',sj,hf,hc⟩:=la.fn;obtain⟨tn,Mp⟩:=Gs kv (by rw[<-hd];simp)
   refine KatKeys.cons (DY (s:={s with heap:=h',toks:=tk}) jb hf hc la.lim la.cell la.dict Mp λT h2 TB Tz hT ext wq=>?_)
   have hkS:kS<h'.objs.size:=aB (N _ (.head _)).1;have hL:L<h'.objs.size:=F.ns.lt;have Z0:kS<T:=aw hkS wq;have N2:News h₀ L h2 ((kS,seqObj "list" (List.toArray (fX.map λp=>Value.ref p.1)) e)::(D,seqObj "list" #[] e1)::((fX++[(T,{cls:=.type "tuple",data:=.seq #[.int (-kv.2) Tz,.int kv.1 t]})])++news)):=λp hp=>by
    have old:∀q∈((kS,seqObj "list" (List.toArray (fX.map λp=>Value.ref p.1)) e)::(D,seqObj "list" #[] e1)::(fX++news)),h2.get? q.1=some q.2/\q.1≠L/\h₀.get? q.1=none:=λq hq=>⟨ext _ _ (N q hq).1,(N q hq).2⟩
    rcases List.mem_cons.mp hp with rfl|hp
    ·exact old _ (.head _)
    rcases List.mem_cons.mp hp with rfl|hp
    ·exact old _ (.tail _ (.head _))
    rcases List.mem_append.mp hp with hp|hp
    ·rcases List.mem_append.mp hp with hp|hp
     ·exact old _ (.tail _ (.tail _ (bC _ hp)))
     ·rw[bt]at hp;subst hp;exact⟨hT,bw (aw hL wq),Heap.get?_none_of_le (aD F.above (bg (aw hL wq)))⟩
    ·exact old _ (.tail _ (.tail _ (aL _ hp)))
   have Qt:∀p∈fX++[((T,{cls:=.type "tuple",data:=.seq #[.int (-kv.2) Tz,.int kv.1 t]}):cE×Obj)],kS<p.1:=λp hp=>by
    rcases List.mem_append.mp hp with hp|hp
    ·exact hk p hp
    ·rw[bt]at hp;subst hp;exact Z0
   refine⟨_,_,F.keeps ext,N2,.head λp hp=>?_,λh3 c3 F3 N3=>?_⟩
   ·rcases List.mem_cons.mp hp with rfl|hp
    ·exact aE YB
    ·rcases List.mem_append.mp hp with hp|hp
     ·exact bw (Qt p hp)
     ·exact aE (bG (hnD p hp) YB)
   ·have em:(fX.map λp=>Value.ref p.1)++[Value.ref T]=(fX++[((T,{cls:=.type "tuple",data:=.seq #[.int (-kv.2) Tz,.int kv.1 t]}):cE×Obj)]).map λp=>Value.ref p.1:=by simp
    rw[em]at N3;show KatKeys P w A h₀ L m kS (.ref f) Fin _ ((fX.map λp=>Value.ref p.1)++[Value.ref T]) c3 {s with heap:=h3,toks:=TB}
    rw[em];refine DZ jb YB hnD stays Gs fin r (done++[kv]) _ _ c3 h3 TB (by rw[<-hd];simp) hv ?_ F3 N3 Qt
    show u6 _ (hX (done++[kv]));unfold hX;rw[List.map_append];exact u6.snoc ht ⟨_,_,_,_,rfl,rfl⟩
end
theorem ya {κ:Type} [DecidableEq κ]:∀{kvs:List (κ×V)}{k:κ}{v:V},(kvs.map (·.1)).Nodup->(k,v)∈kvs->rX kvs k=some v
 |[],_,_,_,h=>by cases h
 |p::r,k,v,nd,h=>by
  rw[aF,List.nodup_cons]at nd;rcases List.mem_cons.mp h with rfl|h
  ·exact qx rfl
  ·rw[qy λz=>nd.1 (by rw[z];exact List.mem_map_of_mem (f:=(·.1)) h)]
   exact ya nd.2 h
theorem oU {α β:Type}{R:α->β->Prop}:∀{l:List α}{m:List β},Paired R l m->∀(i:Nat) (b:β),m[i]? =some b->∃a,l[i]? =some a/\R a b
 |_,_,.nil,i,b,h=>by simp at h
 |a::l,c::m,.cons r t,0,b,h=>by simp at h;subst h;exact⟨a,rfl,r⟩
 |a::l,c::m,.cons r t,i+1,b,h=>oU t i b (by simpa using h)
theorem jB:∀{vs:cw}{ns:cn},vs.length=ns.length->(∀(j:Nat) v,vs[j]? =some v->∃t,v=.int (ns.getD j 0) t)->IntsAre vs ns
 |[],[],_,_=>.nil
 |v::vs,n::ns,hl,h=>by
  obtain⟨t,e⟩:=h 0 v rfl;have e':v=.int n t:=by simpa using e
  subst e';exact .cons n t (jB (by simpa using hl) λj u hu=>by simpa using h (j+1) u (by simpa using hu))
 |[],_::_,hl,_=>by simp at hl
 |_::_,[],hl,_=>by simp at hl
theorem yb:∀{vs:cw}{ns:cn},IntsAre vs ns->∀i,i<ns.length->∃t,vs.getD i Value.none=.int (ns.getD i 0) t
 |_,_,.nil,i,h=>by simp at h
 |_,_,.cons n t r,0,h=>⟨t,rfl⟩
 |_,_,.cons n t r,i+1,h=>yb r i (by simpa using h)
section
variable {X:Cx}{cM:cj}{σ:L2.St}{H:Hp}{s:cy}{f cell a:cE}{qual:Str}{pa pu pp pS pU E5 pT:Pos}{kvs:List (Int×Int)}
theorem D1 (hc:X.calm=true) (hu:X.A.units+64<cLine) (jb:X.A.in1.in1.depth<recursionLimit) (I:Inv X cM σ H s) (hH:H a=some (.dK (xZ kvs))) (Hd:∃pm c' sj,s.heap.get? f=some (kla_obj "<lambda>" qual (nu pa) (jP pu pp pS pU E5 pT) nt [(Str.ofString "uses",cell)] pm c' sj)/\s.heap.CodeRec (.ref c') qual) (sY:s.heap.IsCell cell (some (.ref a))) (h1:1<=kvs.length) (zw:kvs.length<64) (q:∀(D0:cE) (l:ck),H D0=none->l.Perm (hX kvs)->l.Pairwise (λa b=>HT.lexLt b a=false)->Q (.ref D0) (upd H D0 (.lst (l.map λns=>V.int (ns.getD 1 0))))):wpAny (model X.prog X.w) X.A (call (.builtin "sorted") [.ref a] [(Str.ofString "key",.ref f)]) (EP X cM σ Q) X.xe s:=by
 obtain⟨z,lo,GA,rel,dd⟩:=QA I.fJ hH;obtain⟨o,es,ep,ho,hex,hd,QD,Mq,ND⟩:=id dd;have dAt:s.heap.DictAt (fB X.prog X.w) a GA ep:=⟨o,es,ho,hex,hd,QD,Mq,ND⟩;have hlen:GA.length=kvs.length:=by rw[<-rel.length];unfold xZ;rw[ae]
 have hh:X.A.handled=none:=I.ok.hd hc;have la:ig X.prog X.w s.heap f cell a qual pa (jP pu pp pS pU E5 pT) GA:=⟨Hd,I.nolimit,sY,dd⟩;have Gs:∀kv∈kvs,∃tn,valueAt GA (.inl kv.1)=some (.int kv.2 tn):=λkv VZ=>by
  have e:rX (xZ kvs) (.inl kv.1)=some (.int kv.2):=ya (by rw[rel.keys];exact ND) (List.mem_map.mpr ⟨kv,VZ,rfl⟩)
  obtain⟨u,hw,tn,eu⟩:=qd.some_of (v:=.int kv.2) (o:=valueAt GA (.inl kv.1)) (by rw[<-e];exact rel.val _)
  exact⟨tn,by rw[hw,eu]⟩
 have isInt:∀(j:Nat) v k x,GA[j]? =some (k,x)->(fB X.prog X.w).is k v=true->∃t,v=.int ((kvs.map (·.1)).getD j 0) t:=λj v k x hk hv=>by
  obtain⟨p,hp,e1,_⟩:=oU rel j (k,x) hk;unfold xZ at hp;rw[av]at hp;cases YC:kvs[j]? with
  |none=>rw[YC]at hp;cases hp
  |some kv=>
   rw[YC]at hp;cases hp;have e1':(Sum.inl kv.1:Key)=k:=e1;subst e1';obtain⟨t,e⟩:=Value.isInt_shape (k:=kv.1) (v:=v) hv;exact⟨t,by rw[e,ak,av,YC];rfl⟩
 have Sz:(hX kvs).length=kvs.length:=by unfold hX;rw[ae]
 have QE:∀i,i<kvs.length->∃kv,kvs[i]? =some kv/\(hX kvs)[i]? =some [-kv.2,kv.1]/\(hX kvs).getD i []=[-kv.2,kv.1]/\(kvs.map (·.1)).getD i 0=kv.1:=λi hi=>by
  refine⟨kvs[i],ah hi,?_,?_,?_⟩
  ·unfold hX;rw[av,ah hi];rfl
  ·unfold hX;rw[ak,av,ah hi];rfl
  ·rw[ak,av,ah hi];rfl
 by_cases h2:2<=kvs.length
 ·obtain⟨m,F⟩:=I.fr;have N:News X.base X.env.locals s.heap (jG X.base s.heap X.env.locals):=w4;refine O5 F N hh lo dAt (by omega) (by omega) λvs D0 kS e1 h' tk hl hv F' N' l0 l1 wq=>?_
  have Fv:s.heap.get? D0=none:=Heap.get?_none_of_le wq;have vT:∀{h':Heap}{o1 o2:Obj}{fX:cj},Fr X.base X.env.locals h' m->News X.base X.env.locals h' ((kS,o1)::(D0,o2)::(fX++jG X.base s.heap X.env.locals))->∀b o,b≠X.env.locals->s.heap.get? b=some o->h'.get? b=some o:=λ{h' o1 o2 fX} F' N' b o hb e=>by
   cases g:X.base.get? b with
   |some u=>
    have:=I.bk b u g;rw[e]at this;cases this;exact F'.keep b _ g
   |none=>exact(N' (b,o) (.tail _ (.tail _ (aL _ (m8 hb g e))))).1
  have YD:∀{b:cE}{o:Obj},s.heap.get? b=some o->(∀es ep,o.data≠.dict es ep)->b≠X.env.locals:=λ{b o} e nd zb=>by
   obtain⟨oL,es,ep,hL,RP,_⟩:=F.ns;rw[zb,hL]at e;cases e;exact nd _ _ RP
  have stays:∀h' o1 o2 fX,Fr X.base X.env.locals h' m->News X.base X.env.locals h' ((kS,o1)::(D0,o2)::(fX++jG X.base s.heap X.env.locals))->ig X.prog X.w h' f cell a qual pa (jP pu pp pS pU E5 pT) GA:=λh' o1 o2 fX F' N'=>by
   have qq:=vT F' N';obtain⟨pm,c',sj,e,c2,oc,vs2,t,zc,e2,r1,r2⟩:=Hd;refine⟨⟨pm,c',sj,qq _ _ (YD e λ_ _ z=>by cases z) e,c2,oc,vs2,t,zc,qq _ _ (YD e2 λ_ _ z=>by rw[r1]at z;cases z) e2,r1,r2⟩,I.ok.mod.nolimit.keeps F'.keep,?_,⟨o,es,ep,qq _ _ (λzz=>by rw[zz,I.free]at hH;cases hH) ho,hex,hd,QD,Mq,ND⟩⟩
   obtain⟨oc2,e3,e4⟩:=sY;exact⟨oc2,qq _ _ (YD e3 λ_ _ z=>by rw[e4]at z;cases z) e3,e4⟩
  have hints:IntsAre vs (kvs.map (·.1)):=jB (by rw[ae];omega) λj v hj=>by
   obtain⟨k,x,hk,Ki⟩:=hv j v hj;exact isInt j v k x hk Ki
  refine DZ (s:=s) (kvs:=kvs) (news:=jG X.base s.heap X.env.locals) (e1:=e1) jb l0 l1 stays Gs (λfX e h' tk ht F' N' hk=>?_) kvs [] vs [] 0 h' tk rfl hints .nil F' N' (λp hp=>by cases hp)
  have tl:fX.length=kvs.length:=by rw[ht.length,Sz]
  have xu:∀i,i<kvs.length->∃p,fX[i]? =some p/\(fX.map λp=>Value.ref p.1).getD i Value.none=.ref p.1/\TI h' (.ref p.1) ((hX kvs).getD i []):=λi hi=>by
   obtain⟨kv,_,ek,YE,_⟩:=QE i hi;obtain⟨p,hp,x,y,t,u,ep,ens⟩:=ht.get i _ ek;refine⟨p,hp,by rw[ak,av,hp];rfl,p.1,p.2,[.int x t,.int y u],0,rfl,(N' p (.tail _ (.tail _ (bC _ (bh hp))))).1,by rw[ep],by rw[ep],?_⟩
   rw[YE,ens];exact .cons x t (.cons y u .nil)
  refine Qy (s:={s with heap:=h',toks:=tk}) (λv hv=>?_) λκ hκ=>?_
  ·obtain⟨p,hp,rfl⟩:=List.mem_map.mp hv;obtain⟨i,hi⟩:=bp hp;have hil:i<kvs.length:=by rw[<-tl];exact(List.getElem?_eq_some_iff.mp hi).1
   obtain⟨p',BZ,_,ti⟩:=xu i hil;rw[hi]at BZ;cases BZ;exact⟨_,ti⟩
  rw[show vs.length=kvs.length by omega]
  have cmp:∀i j (R:Bool->cy->Prop),i<kvs.length->j<kvs.length->R (HT.lexLt ((hX kvs).getD i []) ((hX kvs).getD j [])) {s with heap:=h',toks:=tk}->kas_ask X.prog X.w X.A.in1.in1 κ (fX.map λp=>Value.ref p.1) i j R {s with heap:=h',toks:=tk}:=λi j R hi hj hR=>by
   obtain⟨p,_,ep,tp⟩:=xu i hi;obtain⟨p',_,QR,tp'⟩:=xu j hj;show wpAny _ _ (keyLt' _ ((fX.map λp=>Value.ref p.1).getD i Value.none) ((fX.map λp=>Value.ref p.1).getD j Value.none)) _ _ _
   rw[ep,QR];exact VT tp tp' (by show X.A.units+1+1+8<cLine;omega) hκ hR
  refine So.rl (n:=kvs.length) cmp _ (So.xr (by omega)) ?_
  obtain⟨s1,s2⟩:=So.xo (lt:=λi j=>HT.lexLt ((hX kvs).getD i []) ((hX kvs).getD j [])) (rank:=λi=>rn (hX kvs) ((hX kvs).getD i [])) (λi j=>kr (lO _ _) (lO _ _)) kvs.length (by omega)
  generalize So.iU _ (kas_sort kvs.length)=ar at s1 s2;have pm:ar.toList.Perm (List.range kvs.length):=by simpa using Array.perm_iff_toList_perm.mp s1
  have below:∀i∈ar.toList,i<kvs.length:=λi hi=>by simpa using pm.mem_iff.mp hi
  generalize iq:(ar.toList.map λi=>(hX kvs).getD i [])=l'
  have lp:l'.Perm (hX kvs):=by
   rw[<-iq];have:=pm.map λi=>(hX kvs).getD i []
   have e:(List.range kvs.length).map (λi=>(hX kvs).getD i [])=hX kvs:=by rw[<-Sz];exact jJ (hX kvs) []
   rw[e]at this;exact this
  refine⟨_,_,F',N',.head λp hp=>?_,λh2 c F2 N2=>⟨_,_,F2,N2,.tail (bw l0) (.head λp hp=>?_),λh3 c3 F3 N3=>?_⟩⟩
  ·rcases List.mem_cons.mp hp with rfl|hp
   ·exact aE l0
   ·rcases List.mem_append.mp hp with hp|hp
    ·exact bw (hk p hp)
    ·exact aE (bG (l1 p hp) l0)
  ·rcases List.mem_append.mp hp with hp|hp
   ·exact bw (bG l0 (hk p hp))
   ·exact aE (l1 p hp)
  have hD:H D0=none:=I.fJ.fresh wq;have jz:=vT F3 N3;have Va:h3.get? D0=some {cls:=.type "list",data:=.seq (List.toArray (ar.toList.map λi=>vs.getD i Value.none)) c3}:=(N3 _ (.tail _ (.head _))).1
  refine⟨.ref D0,upd H D0 (.lst (l'.map λns=>V.int (ns.getD 1 0))),?_,rfl,q D0 l' hD lp ?_⟩
  ·show Inv X cM σ _ {s with heap:=h3,gens:=s.gens,drawn:=s.drawn,toks:=tk}
   refine I.step (g':=s.gens) (d':=s.drawn) (t':=tk) (ch:=[]) (λ_ z=>nomatch z) (λb o h1 _ _ e _=>jz b o h1 e) (λb o h1 _ _ e _=>⟨o.slots,jz b o h1 e⟩) (λb o _ e hn=>?_) (λb o _ e=>?_) (λb xs e=>?_) (λb o xs e=>?_) (λb ps e=>⟨#[],?_⟩) (λm' hm=>?_) (λb u e=>?_) I.bare
   ·rw[cR (λz=>by rw[z,Fv]at e;cases e)];exact hn
   ·by_cases hb:b=X.env.locals
    ·obtain⟨o',_,_,e',_⟩:=F3.ns;exact⟨o',by rw[hb];exact e'⟩
    ·exact⟨o,jz b o hb e⟩
   ·rw[cR (cX e hD)];exact e
   ·rw[cR (cX e hD)];exact e
   ·rw[cR (cX e hD),e];simp
   ·rw[FO hm F.ns];exact F3.ns
   ·by_cases hb:b=D0
    ·subst hb;rw[cY]at e;cases e;refine⟨by rw[ae,lp.length_eq,Sz];exact bg (kj (by omega)),_,c3,?_,Va⟩
     rw[<-iq,aV];have aux:∀k:List Nat,(∀i∈k,i<kvs.length)->Vals (k.map ((λns:cn=>V.int (ns.getD 1 0))∘λi=>(hX kvs).getD i [])) (k.map λi=>vs.getD i Value.none):=λk=>by
      induction k with
      |nil=>intro _;exact .nil
      |cons i k ih=>
       intro hb;obtain⟨kv,_,_,YE,ek3⟩:=QE i (hb i af);obtain⟨t,et⟩:=yb hints i (by rw[ae];exact hb i af)
       refine .cons ?_ (ih λj hj=>hb j (ai _ hj))
       have ev:((λns:cn=>V.int (ns.getD 1 0))∘λi=>(hX kvs).getD i []) i=V.int kv.1:=by
        show V.int (((hX kvs).getD i []).getD 1 0)=_;rw[YE];rfl
       have rv:RelV (V.int kv.1) (vs.getD i Value.none):=by rw[et,ek3];exact⟨t,rfl⟩
       rw[<-ev]at rv;exact rv
     exact aux ar.toList below
    ·rw[cR hb]at e;refine(I.fJ b u e).Be (λk v hk z=>jz k v ?_ z) (λk z=>by rw[cR (cX z hD)];exact z) λk xs z=>by rw[cR (cX z hD)];exact z
     rcases hk with rfl|hk
     ·intro z;rw[z,I.free]at e;cases e
     ·intro z;rw[z,I.free]at hk;cases hk
  ·rw[<-iq,List.pairwise_map,List.pairwise_iff_getElem];intro i j hi hj zm;have sz:ar.size=kvs.length:=by simpa using s1.size_eq
   have xv:i<ar.size:=by simpa using hi
   have BJ:j<ar.size:=by simpa using hj
   have le:=s2 i j (bg zm) (by omega)
   unfold So.kk at le;rw[aT,aT,aU xv,aU BJ]at le;simp only[Option.getD_some]at le;have e:=kr (nss:=hX kvs) (a:=(hX kvs).getD (ar[j]) []) (b:=(hX kvs).getD (ar[i]) []) (lO _ _) (lO _ _);simp only[Array.getElem_toList];rw[e];exact aH (by omega)
 ·have Sg:kvs.length=1:=by omega
  obtain⟨kv,rfl⟩:∃kv,kvs=[kv]:=by
   match kvs,Sg with
   |[kv],_=>exact⟨kv,rfl⟩
  refine Mj hh lo dAt (by omega) (λg tk v hk ext=>?_) λD0 v h' c tk hk hD wq keep=>?_
  ·obtain⟨k,x,WK,hv⟩:=hk;obtain⟨t,rfl⟩:=isInt 0 v k x WK hv;have lg:=la.keeps ext;obtain⟨pm,c',sj,hf,oK⟩:=lg.fn;obtain⟨tn,Mp⟩:=Gs kv (by simp)
   exact DY (s:={s with heap:=g,toks:=tk}) (p:=kv.1) jb hf oK lg.lim lg.cell lg.dict Mp λT h2 TB Tz hT e2 wq=>⟨h2,TB,rfl,e2⟩
  ·obtain⟨k,x,WK,hv⟩:=hk;obtain⟨t,rfl⟩:=isInt 0 v k x WK hv;have Dv:H D0=none:=I.fJ.fresh wq;exact⟨.ref D0,_,I.laid (t':=tk) (o:=.lst ([[-kv.2,kv.1]].map λns=>V.int (ns.getD 1 0))) keep wq ⟨by show(1:Nat)<=_;decide,[.int kv.1 t],c,.cons ⟨t,rfl⟩ .nil,hD⟩,rfl,q D0 [[-kv.2,kv.1]] Dv (List.Perm.refl _) (by simp)⟩
end
end ST
namespace DL
open PySem PySem.Spec PyProof.Rows L2
open ST (xZ hX)
noncomputable def lT (kvs:List (Int×Int)):D:=.lst (kvs.map λkv=>.tup [.int kv.1,.int kv.2])
noncomputable def pairD:D->Option (Int×Int)
 |.tup [.int a,.int b]=>some (a,b)
 |_=>none
def tabs:cu->Option (List (Int×Int))
 |[]=>some []
 |d::r=>(pairD d).bind λp=>(tabs r).map λl=>p::l
def B2:D->Option (List (Int×Int))
 |.lst ds=>tabs ds
 |_=>none
theorem D2:∀kvs:List (Int×Int),tabs (kvs.map λkv=>D.tup [.int kv.1,.int kv.2])=some kvs
 |[]=>rfl
 |kv::r=>by
  show(pairD (.tup [.int kv.1,.int kv.2])).bind _=_;rw[show pairD (.tup [.int kv.1,.int kv.2])=some kv from rfl]
  simp only[ao];rw[D2 r];rfl
theorem B3 (kvs:List (Int×Int)):B2 (lT kvs)=some kvs:=D2 kvs
theorem D3 (h:lT a=lT b):a=b:=by
 have:=congrArg B2 h;rw[B3,B3]at this;exact aS this
theorem Mr (h:pairD d=some p):d=.tup [.int p.1,.int p.2]:=by
 unfold pairD at h;split at h
 ·cases h;rfl
 ·cases h
theorem HV:∀{ds:cu}{kvs:List (Int×Int)},tabs ds=some kvs->ds=kvs.map λkv=>D.tup [.int kv.1,.int kv.2]
 |[],_,h=>by cases h;rfl
 |d::r,kvs,h=>by
  unfold tabs at h;cases h1:pairD d with
  |none=>rw[h1]at h;cases h
  |some p=>
   rw[h1]at h;simp only[ao]at h;cases h2:tabs r with
   |none=>rw[h2]at h;cases h
   |some l=>rw[h2]at h;cases h;rw[HV h2,Mr h1];rfl
theorem HW (h:B2 k=some kvs):k=lT kvs:=by
 cases k with
 |lst ds=>exact congrArg D.lst (HV h)
 |_=>cases h
@[reducible] def eU (a:cE):Mem where
 cell:=some a
 face:=some a
 ok:=λC H=>C a=none/\∃kvs,H a=some (.dK kvs)
 has:=λ_ H k=>∀kvs,k=lT kvs->H a=some (.dK (xZ kvs))
 rel:=λC H C' H'=>(C a=none/\∃kvs,H a=some (.dK kvs))->C' a=none/\∀u,H a=some u->H' a=some u
 of0:=λ{C H C' H'} e ⟨hc,kvs,hk⟩=>⟨by
  cases q:C' a with
  |none=>rfl
  |some u=>rcases e.n a u q with z|z<;>simp_all,λu q=>e.h a u q⟩
 trans:=λ{C H C' H' C2 H2} r1 r2 ⟨hc,kvs,hk⟩=>by
  obtain⟨a1,a2⟩:=r1 ⟨hc,kvs,hk⟩;obtain⟨b1,b2⟩:=r2 ⟨a1,kvs,a2 _ hk⟩;exact⟨b1,λu q=>b2 u (a2 u q)⟩
 chg:=λ{C H C' H' b o} r hn ⟨hc,kvs,hk⟩=>by
  obtain⟨a1,a2⟩:=r ⟨hc,kvs,hk⟩;exact⟨a1,λu q=>by rw[cR (cX q hn)];exact a2 u q⟩
 give:=λ{C H C' H' b o} r hcb hb hx ⟨hc,kvs,hk⟩=>by
  obtain⟨a1,a2⟩:=r ⟨hc,kvs,hk⟩;have jg:a≠b:=λz=>by
   have:=a2 _ hk;rw[z,hb]at this;cases this;cases hx
  exact⟨by rw[cR jg];exact a1,a2⟩
 RD:=λr ⟨hc,kvs,hk⟩=>⟨(r ⟨hc,kvs,hk⟩).1,kvs,(r ⟨hc,kvs,hk⟩).2 _ hk⟩
 Fz:=λr h hh kvs e=>(r h).2 _ (hh kvs e)
 Qc:=λ{C H b o} ⟨hc,kvs,hk⟩ hb=>⟨hc,kvs,by rw[cR (λz=>by subst z;have:=hb _ hk;cases this)];exact hk⟩
 Dx:=λ{C H b o k} ⟨hc,YF,hk⟩ hb hh kvs e=>by rw[cR (λz=>by subst z;have:=hb _ hk;cases this)];exact hh kvs e
 RE:=λ{C H b o} ⟨hc,kvs,hk⟩ hcb hb hx=>⟨by rw[cR (λz=>by subst z;rw[hk]at hb;cases hb;cases hx)];exact hc,kvs,hk⟩
 FA:=λ_ _ _ _ hh=>hh
def wR (i:Nat) (fr:bY):bY:=λδ=>if noOwn δ=true/\i<δ.length then(fr (δ.set i (.memo [lT []]))).bind (u3 i)else none
section
variable {X:Cx}{e:cF}{es:List cF}{p pos pos':Pos}{x:Str}{a:cE}{C0 H0:Hp}{rest:List cI}
theorem HX (e1:l9 C H C1 H1) (hn:H a=none) (e2:@Ev (eU a) C1 H1 C2 H2):l9 C H C2 H2:=by
 letI:=eU a
 refine⟨e1.c.trans e2.c,λb o q=>?_,e2.s,λb u q=>?_⟩
 ·have hb:b≠a:=λz=>by subst z;rw[hn]at q;cases q
  exact e2.h b o (e1.h b o q) (.inl λz=>hb (aS z).symm)
 ·rcases e2.n b u q with z|z
  ·exact e1.n b u z
  ·exact .inr (e1.h.free z)
theorem B4 (g:@Gd Mem.keep B C0 H0 δ σ C H) (hn:H a=none) (g2:@Gd (eU a) B C H δ' σ' C2 H2) (hm:nL (δ'.set i .no)=true):@Gd Mem.keep B C0 H0 (δ'.set i .no) σ' C2 H2:=by
 have e1:l9 C0 H0 C H:=(@Gd.ev Mem.keep _ _ _ _ _ _ _ g).r0;have e2:l9 C0 H0 C2 H2:=HX e1 (e1.h.free hn) (@Gd.ev (eU a) _ _ _ _ _ _ _ g2);have x2:=@Gd.x (eU a) _ _ _ _ _ _ _ g2;have own:∀{k:Nat}{ds:cu},(δ'.set i Sl.no)[k]? =some (.own ds)->δ'[k]? =some (.own ds):=λ{k ds} q=>by
  rcases getElem?_set_cases q with⟨_,z⟩|⟨_,z⟩
  ·cases z
  ·exact z
 letI:=Mem.keep
 refine⟨@Gd.b (eU a) _ _ _ _ _ _ _ g2,e2.up,⟨e2.s,λk d q=>?_,λk ds q=>@Sx.own (eU a) _ _ _ _ x2 k ds (own q),λk l ds es b q1 q2=>@Sx.zo (eU a) _ _ _ _ x2 k l ds es b (own q1) (own q2),by rw[List.length_set];exact @Sx.len (eU a) _ _ _ _ x2,λk ks q=>(rA hm q).elim⟩,λk ds b q1 q2=>?_⟩
 ·rcases getElem?_set_cases q with⟨_,z⟩|⟨_,z⟩
  ·cases z
  ·exact @Sx.dat (eU a) _ _ _ _ x2 k d z
 ·exact e1.h.free (@Gd.fr (eU a) _ _ _ _ _ _ _ g2 k ds b (own q1) q2)
theorem GB (i:Nat) (hN:X.N.Nodup) (hr:∀(a:cE) (C1 H1:Hp),H1 a=none->@Jk (eU a) X C1 H1 rest fr) (hi:X.N[i]? =some y:=by rfl) (hx:Loc X.env.scope y:=by first|exact Or.inl rfl|exact Or.inr rfl) (hs:swapsWith (.Dict [] [] pd) (some (.Name y py)) pos.line X.env=pure false:=by rfl) (hf:X.fn y=true\/X.env.scope.names.lookup y=some .local:=by first|exact .inl rfl|exact .inr rfl):@Jk Mem.keep X C0 H0 (.Assign [.Name y py] (.Dict [] [] pd) pos::rest) (wR i fr):=λB=>by
 have ex:zf X rest (λDn σ H=>∃(a:cE) (C1 H1:Hp),H1 a=none/\@tS (eU a) B C1 H1 fr Dn σ H):=λcM s σ H Dn I ⟨a,C1,H1,hn,q⟩=>hr a C1 H1 hn B cM s σ H Dn I q
 refine(qg (w6 hN hi hx (Mg (pos:=pd)) hs hf) ex).imp λDn σ H ⟨C,δ,r,gd,q,fin⟩=>?_
 unfold wR at q;split at q
 case isFalse=>cases q
 rename_i hc;obtain⟨u4,hlen⟩:=hc;cases Dv:fr (δ.set i (.memo [lT []]))with
 |none=>rw[Dv]at q;cases q
 |some r'=>
  rw[Dv]at q;simp only[ao]at q;intro t ht;have x0:=@Gd.x Mem.keep _ _ _ _ _ _ _ gd;have sub:=@Sx.sub Mem.keep _ _ _ _ x0;have WI:C t=none:=sub.free ht;have OJ:dM C (upd H t (.dK [])):=sub.trans (eA ht);have e1:l9 C0 H0 C H:=(@Gd.ev Mem.keep _ _ _ _ _ _ _ gd).r0;have e0:l9 C H C (upd H t (.dK [])):=.fF sub ht;have g1:@Gd (eU t) B C H (δ.set i (.memo [lT []])) (σ.set i (some (.ref t))) C (upd H t (.dK [])):=by
   letI:=eU t
   have hl:=@Sx.len Mem.keep _ _ _ _ x0;refine⟨@Gd.b Mem.keep _ _ _ _ _ _ _ gd,e0.up,⟨OJ,λk d z=>?_,λk ds z=>?_,λk l ds es b z=>?_,by simp[hl],λk ks z=>?_⟩,λk ds b z=>?_⟩
   ·rcases getElem?_set_cases z with⟨_,z⟩|⟨hk,z⟩
    ·cases z
    ·obtain⟨v,h1,h2⟩:=@Sx.dat Mem.keep _ _ _ _ x0 k d z;exact⟨v,by rw[aG (Ne.symm hk)];exact h1,h2⟩
   ·rcases getElem?_set_cases z with⟨_,z⟩|⟨hk,z⟩
    ·cases z
    ·exact(jN u4 z).elim
   ·rcases getElem?_set_cases z with⟨_,z⟩|⟨hk,z⟩
    ·cases z
    ·exact(jN u4 z).elim
   ·rcases getElem?_set_cases z with⟨rfl,z'⟩|⟨hk,z⟩
    ·cases z';refine⟨t,rfl,by rw[bc (by rw[<-hl];exact hlen)],⟨WI,[],cY⟩,λk hk kvs e=>?_⟩
     rw[bt]at hk;subst hk;have:=D3 e;subst this;exact cY
    ·obtain⟨b,h1,_⟩:=@Sx.mem Mem.keep _ _ _ _ x0 k ks z;cases h1
   ·rcases getElem?_set_cases z with⟨_,z⟩|⟨hk,z⟩
    ·cases z
    ·exact(jN u4 z).elim
  refine⟨t,C,H,ht,C,_,r',g1,Dv,?_⟩;cases r' with
  |next δ'=>
   simp only[u3]at q;split at q
   ·rename_i hm;cases q;exact λσ' C2 H2 g2=>fin σ' C2 H2 (B4 gd ht g2 hm)
   ·cases q
  |ret d=>
   cases q;exact λv C2 H2 ev iv=>fin v C2 H2 (@l9.up _ _ _ _ Mem.keep (HX e1 (e1.h.free ht) ev)) iv
  |brk δ'=>
   simp only[u3]at q;split at q
   ·rename_i hm;cases q;exact λσ' C2 H2 g2=>fin σ' C2 H2 (B4 gd ht g2 hm)
   ·cases q
  |cont δ'=>
   simp only[u3]at q;split at q
   ·rename_i hm;cases q;exact λσ' C2 H2 g2=>fin σ' C2 H2 (B4 gd ht g2 hm)
   ·cases q
theorem GC (i:Nat) (hN:X.N.Nodup) (hr:∀(a:cE) (C1 H1:Hp),H1 a=none->@qb (eU a) X C1 H1 rest fr) (hi:X.N[i]? =some y:=by rfl) (hx:Loc X.env.scope y:=by first|exact Or.inl rfl|exact Or.inr rfl) (hs:swapsWith (.Dict [] [] pd) (some (.Name y py)) pos.line X.env=pure false:=by rfl) (hf:X.fn y=true\/X.env.scope.names.lookup y=some .local:=by first|exact .inl rfl|exact .inr rfl):@qb Mem.keep X C0 H0 (.Assign [.Name y py] (.Dict [] [] pd) pos::rest) (wR i fr):=
 @qb.mk Mem.keep _ _ _ _ _ (GB i hN (λa C1 H1 hn=>@qb.go (eU a) _ _ _ _ _ (hr a C1 H1 hn)) hi hx hs hf)
end
noncomputable def GD (kvs:List (Int×Int)) (p:Int):Int:=((kvs.find? λkv=>decide (kv.1=p)).map (·.2)).getD 0
def ow (kvs:List (Int×Int)) (p:Int):List (Int×Int):=
 if(kvs.any λkv=>decide (kv.1=p))=true then kvs.map (λkv=>if kv.1=p then(kv.1,GD kvs p+1)else kv)else kvs++[(p,GD kvs p+1)]
theorem SA (a b:Int):decide ((Sum.inl a:Key)=Sum.inl b)=decide (a=b):=by
 by_cases h:a=b
 ·subst h;simp
 ·rw[aH h,aH (λz=>h (Sum.inl.inj z))]
theorem HY (p:Int):∀kvs:List (Int×Int),rX (xZ kvs) (.inl p)=((kvs.find? λkv=>decide (kv.1=p)).map (·.2)).map V.int
 |[]=>rfl
 |kv::r=>by
  have ih:=HY p r;unfold xZ at ih ⊢;rw[aF,List.find?_cons];by_cases h:kv.1=p
  ·rw[qx (by show(Sum.inl kv.1:Key)=_;rw[h]),aR h];rfl
  ·rw[qy (λz=>h (Sum.inl.inj z)),aH h,ih]
theorem O6 (kvs:List (Int×Int)) (p:Int):(rX (xZ kvs) (.inl p)).getD (.int 0)=.int (GD kvs p):=by
 rw[HY];unfold GD;cases (kvs.find? λkv=>decide (kv.1=p))<;>rfl
theorem O7 (kvs:List (Int×Int)) (p:Int):putK (xZ kvs) (.inl p) (.int (GD kvs p+1))=xZ (ow kvs p):=by
 have ha:((xZ kvs).any λkv=>decide (kv.1=(Sum.inl p:Key)))=kvs.any λkv=>decide (kv.1=p):=by
  unfold xZ;rw[List.any_map]
  congr 1
  funext kv
  exact SA kv.1 p
 unfold putK ow;rw[ha];split
 ·unfold xZ;rw[aV,aV];refine bR λkv _=>?_
  simp only[Function.comp_apply];by_cases h:kv.1=p
  ·rw[if_pos (by rw[h]),if_pos h]
  ·rw[if_neg (λz=>h (Sum.inl.inj z)),if_neg h]
 ·unfold xZ;rw[List.map_append];rfl
def wU (i:Nat) (f:bZ):bY:=λδ=>match δ[i]?,f δ with
 |some (.memo [k]),some (.int p)=>(B2 k).bind λkvs=>if kvs.length<1000/\nL (δ.set i .no)=true then some (.next (δ.set i (.memo [lT (ow kvs p)])))else none
 |_,_=>none
section
variable {X:Cx}{o1 o2 k1 k2 e:cF}{p pos pos' apos hV pb pz WZ kp:Pos}{a:cE}{C0 H0:Hp}{i j j2:Nat}{f:bZ}
theorem JM (hn:H0 a=none) (hu:X.A.units+64<cLine) (vS:PE X o1 (gX i)) (Sg:@PD (eU a) X k1 f) (m:M2 X o1 "get" apos k1 (.Constant (.int 0) j pz) hV) (wj:PE X o2 (gX i)) (Qt:@PD (eU a) X k2 f)
  (hs:swapsWith (.BinOp (.Call (.Attribute o1 "get" apos) [k1,.Constant (.int 0) j pz] [] hV) .Add (.Constant (.int 1) j2 WZ) pb) (some (.Subscript o2 k2 pos')) pos.line X.env=pure false:=by rfl):
  @PB (eU a) X C0 H0 (.Assign [.Subscript o2 k2 pos'] (.BinOp (.Call (.Attribute o1 "get" apos) [k1,.Constant (.int 0) j pz] [] hV) .Add (.Constant (.int 1) j2 WZ) pb) pos) (wU i f):=λB=>by
 letI:=eU a
 refine(O4 (by omega) wj Qt (KG KH (Mh (by omega) vS Sg E9 m) E9) hs).imp λDn σ H ⟨C,δ,r,gd,q,fin⟩=>?_
 unfold wU at q;split at q
 case h_2=>cases q
 rename_i k p' hi hf;cases hk:B2 k with
 |none=>rw[hk]at q;cases q
 |some kvs=>
  rw[hk]at q;simp only[ao]at q;split at q
  case isFalse=>cases q
  rename_i hc;cases q;have ek:=HW hk;have at_:∀{C' H':Hp},Gd B C0 H0 δ σ C' H'->σ[i]? =some (some (.ref a))/\C' a=none/\H' a=some (.dK (xZ kvs)):=λ{C' H'} g=>by
   obtain⟨a',z1,z2,z3,z4⟩:=g.x.mem i [k] hi;cases z1;exact⟨z2,z3.1,z4 k (by simp) kvs ek⟩
  have lt:kvs.length<sizeLine:=aw hc.1 (by decide)
  have lt':(xZ kvs).length<sizeLine:=by unfold xZ;rw[ae];exact lt
  refine⟨.ref a,(at_ gd).1,a,rfl,.inl ⟨_,.inl (at_ gd).2.2⟩,C,δ,.int p',gd.x,hf,λv1 C1 H1 e1 i1=>?_⟩
  have g1:=gd.DA e1;have v1e:v1=.int p':=by cases i1;rfl
  subst v1e;refine⟨rX (xZ kvs) (.inl p'),Mc.k (k:=.inl p') (at_ g1).2.2,?_⟩;refine⟨GD kvs p',1,O6 kvs p',rfl,?_⟩;refine⟨.ref a,(at_ g1).1,C1,δ,.int p',g1.x,hf,λv2 C2 H2 e2 i2=>?_⟩
  have g2:=g1.DA e2;have v2e:v2=.int p':=by cases i2;rfl
  subst v2e;refine⟨a,upd H2 a (.dK (putK (xZ kvs) (.inl p') (.int (GD kvs p'+1)))),rfl,Md.k (k:=.inl p') (at_ g2).2.2 lt',?_⟩;rw[O7];have hC:=(at_ g2).2.1;have hH:=(at_ g2).2.2;have xs:=g2.x;refine fin σ C2 _ ⟨g2.b,g2.ev.Dy hn hC _,⟨λb u z=>?_,λn d z=>?_,λn ds z=>?_,λn l ds es b z1 z2=>?_,by rw[List.length_set];exact xs.len,λn ks z=>?_⟩,λn ds b z1 z2=>?_⟩
  ·rw[cR (λzz=>by rw[zz,hC]at z;cases z)];exact xs.sub b u z
  ·rcases getElem?_set_cases z with⟨_,z⟩|⟨_,z⟩
   ·cases z
   ·exact xs.dat n d z
  ·rcases getElem?_set_cases z with⟨_,z⟩|⟨_,z⟩
   ·cases z
   ·obtain⟨b,ys,y1,y2,y3,y4⟩:=xs.own n ds z;exact⟨b,ys,y1,y2,by rw[cR (λzz=>by rw[zz,hH]at y3;cases y3)];exact y3,y4⟩
  ·rcases getElem?_set_cases z1 with⟨_,z1⟩|⟨_,z1⟩
   ·cases z1
   rcases getElem?_set_cases z2 with⟨_,z2⟩|⟨_,z2⟩
   ·cases z2
   exact xs.zo n l ds es b z1 z2
  ·rcases getElem?_set_cases z with⟨rfl,z'⟩|⟨jg,z'⟩
   ·cases z';refine⟨a,rfl,(at_ g2).1,⟨hC,_,cY⟩,λk' oY YF e'=>?_⟩
    rw[bt]at oY;subst oY;have:=D3 e';subst this;exact cY
   ·exact(rA hc.2 (i:=n) (ds:=ks) (by rw[aG (Ne.symm jg)];exact z')).elim
  ·rcases getElem?_set_cases z1 with⟨_,z1⟩|⟨_,z1⟩
   ·cases z1
   ·exact g2.fr n ds b z1 z2
theorem JN (hn:H0 a=none) (hu:X.A.units+64<cLine) (vS:PE X o1 (gX i)) (Sg:@WD (eU a) X k1 f) (wj:PE X o2 (gX i)) (Qt:@WD (eU a) X k2 f) (m:M2 X o1 "get" apos k1 (.Constant (.int 0) j pz) hV:=by exact⟨rfl,rfl,rfl,rfl⟩)
  (hs:swapsWith (.BinOp (.Call (.Attribute o1 "get" apos) [k1,.Constant (.int 0) j pz] [] hV) .Add (.Constant (.int 1) j2 WZ) pb) (some (.Subscript o2 k2 pos')) pos.line X.env=pure false:=by rfl):
  @WB (eU a) X C0 H0 (.Assign [.Subscript o2 k2 pos'] (.BinOp (.Call (.Attribute o1 "get" apos) [k1,.Constant (.int 0) j pz] [] hV) .Add (.Constant (.int 1) j2 WZ) pb) pos) (wU i f):=by
 letI:=eU a
 exact⟨JM hn hu vS Sg.go m wj Qt.go hs⟩
def rD (i:Nat):bX:=λδ=>match δ[i]? with
 |some (.memo [k])=>(B2 k).bind λkvs=>if 1<=kvs.length/\kvs.length<64 then some ((fZ (hX kvs)).map λns=>.int (ns.getD 1 0))else none
 |_=>none
theorem D4 (hc:X.calm=true) (hu:X.A.units+64<cLine) (jb:X.A.depth+5<recursionLimit) (hg:Gl X "sorted") (hm:X.mg "sorted"=none) (hN:X.N[i]? =some (Str.ofString "uses")) (hk:X.env.kindOf (Str.ofString "uses")=some .cell) (hT:(x,mi,qual)∈qc) (ht:W.tabIn X.K x=some (c,Pt)) (hq:X.env.qual++Str.ofString "<lambda>"=qual) (pQ:X.env.code=.ref c) (vS:PE X o1 (gX i)) (he:backTo pos (starEach [o1] X.env)=(false,eval o1 X.env)::backTo pos (starEach [] X.env)):@PF (eU a) X (.Call (.Name "sorted" p) [o1] [⟨some "key",.Lambda (nu pa) (jP pu pp pS pU E5 pT) nt mi,kp⟩] pos) (rD i):=by
 letI:=eU a
 intro cM s σ H Q I ⟨C,δ,ds,sx,q,k⟩;unfold rD at q;split at q
 case h_2=>cases q
 rename_i k' hi;cases VZ:B2 k' with
 |none=>rw[VZ]at q;cases q
 |some kvs=>
  rw[VZ]at q;simp only[ao]at q;split at q
  case isFalse=>cases q
  rename_i hlen;cases q;obtain⟨a',z1,z2,z3,z4⟩:=sx.mem i [k'] hi;cases z1;have hH:H a=some (.dK (xZ kvs)):=z4 k' (by simp) kvs (HW VZ)
  obtain⟨cell,uM⟩:=I.ok.has (Str.ofString "uses") (.inl hk);refine wpAny_Call_Name_kw (oM I hg hm jy ?_);refine callWith_kw ?_ he (by rw[he];rfl) rfl rfl
  rw[he];refine Calls.spliced_cons (gU (vS cM s σ H (λy H'=>y=.ref a/\H'=H) I ⟨.ref a,z2,rfl,rfl⟩) λu s1 ⟨y,H1,I1,r1,e1,e2⟩=>?_)
  subst e1 e2;obtain rfl:u=Value.ref a:=r1;refine Calls.spliced_nil ?_;refine kws_cons (Mn I1 hT ht hq pQ uM λH2 s2 f c' L=>kws_nil ?_)
  have UR:H2 a=some (.dK (xZ kvs)):=by
   rcases L.new with e|⟨u,hn,e⟩
   ·rw[e];exact hH
   ·rw[e,cR (cX hH hn)];exact hH
  have sY:s2.heap.IsCell cell (some (.ref a)):=by
   obtain⟨m,hn,hl⟩:=L.inv.loc;obtain⟨u,r,lk⟩:=hl i (Str.ofString "uses") (.ref a) hN z2 (.inr (.inl hk));obtain rfl:u=Value.ref a:=r;rcases lk with⟨oY,_⟩|⟨_,c2,tj,P1⟩
   ·rw[hk]at oY;cases oY
   ·rw[uM]at tj;cases tj;exact P1
  obtain⟨pm,sj,Hd⟩:=L.fn;refine ST.D1 hc hu (by show X.A.depth<_;omega) L.inv UR ⟨pm,c',sj,Hd,L.cd⟩ sY hlen.1 hlen.2 λD0 l hD lp pw=>?_
  have el:l=fZ (hX kvs):=fC (λa b h1 h2=>HT.fR h2 h1) (lp.trans (eE _).symm) pw (n8 _)
  have JO:l9 C H1 C H2:=by
   rcases L.new with e|⟨u,hn,e⟩
   ·rw[e];exact .refl sx.sub
   ·rw[e];exact .fF sx.sub hn
  have hD1:H1 D0=none:=JO.h.free hD;have hv:l.map (λns=>V.int (ns.getD 1 0))=(l.map λns=>ns.getD 1 0).map V.int:=by rw[aV];rfl
  have hd:(fZ (hX kvs)).map (λns=>D.int (ns.getD 1 0))=(l.map λns=>ns.getD 1 0).map D.int:=by rw[<-el,aV];rfl
  rw[hv];rw[hd]at k;exact k D0 _ C _ (JO.trans (.fF JO.s hD)).up hD1 (JO.s.free hD) cY (.ints _)
theorem D5 (hc:X.calm=true) (hu:X.A.units+64<cLine) (jb:X.A.depth+5<recursionLimit) (hg:Gl X "sorted") (hm:X.mg "sorted"=none) (hN:X.N[i]? =some (Str.ofString "uses")) (hk:X.env.kindOf (Str.ofString "uses")=some .cell) (hT:(x,mi,qual)∈qc) (ht:W.tabIn X.K x=some (c,Pt)) (hq:X.env.qual++Str.ofString "<lambda>"=qual) (pQ:X.env.code=.ref c) (vS:PE X o1 (gX i)) (he:backTo pos (starEach [o1] X.env)=(false,eval o1 X.env)::backTo pos (starEach [] X.env):=by rfl):@WF (eU a) X (.Call (.Name "sorted" p) [o1] [⟨some "key",.Lambda (nu pa) (jP pu pp pS pU E5 pT) nt mi,kp⟩] pos) (rD i):=by
 letI:=eU a
 exact⟨D4 hc hu jb hg hm hN hk hT ht hq pQ vS he⟩
end
end DL
namespace DL
open PySem PySem.Spec PyProof.Rows L2
theorem _root_.L2.fm.ten {k:Nat}{A:cC}(r:fm k A):A.depth+5<recursionLimit:=by have:=r.dp;omega
theorem Ms {K:W.Frag}{x:Str}{f c P:cE}{fd:cz}{oc:cx}{od:cp}{sl:cq}(a:W.nsIn K mainGlobals x=some (some (.ref f))) (l:K.lookup f=some ⟨oc,od,.func fd,sl⟩) (h:W.tabIn K x=some (c,P)):fd.code=.ref c:=by
 unfold W.tabIn at h;rw[a]at h;simp only[l]at h;split at h
 ·rename_i c' hc;split at h
  ·split at h
   ·cases h;exact hc
   ·cases h
  ·cases h
 ·cases h
theorem B5 {P:cA}{w:cB}{K:W.Frag}{mg:cg}{base:Heap}{x qual:Str}{st:cI}{f:cE}{fd:cz}{N ps:List Str}{k:Nat}(F:kU K x qual st f fd) (S:dt N ps (cP st)) {fb:bY}
  (fY:∀(A:cC) (outer:List Env) (s:cy) (H:Hp) (E:XK),fm k (A.deeper (envOfC qual (cP st) s.heap.objs.size f fd.code))->∀C0 H0,@qb Mem.keep (pX gY P w K mg base N qual (cP st) f fd.code A outer s H E).Dc C0 H0 (eW st) fb):
  dY P w K mg base gY (k+1) f fd ps (rj (iA N.length ps.length fb)):=by
 have key:∀eN,fd.code=eN->∀(A:cC) (outer:List Env) (s:cy) (H:Hp) (E:XK),fm k (A.deeper (envOfC qual (cP st) s.heap.objs.size f eN))->∀C0 H0,@qb Mem.keep (pX gY P w K mg base N qual (cP st) f eN A outer s H E).Dc C0 H0 (eW st) fb:=λeN e=>by
  subst e;exact fY
 obtain⟨oc,od,kV,doc,pm,an,eN,ct,N1,rfl,lk,uF⟩:=id F.ex;have key:=key eN rfl;letI:Mem:=Mem.keep
 refine P6 lk uF S (λvs H Q E h=>?_) λA outer s H vs Q E hr h=>?_
 all_goals
  obtain⟨C,ds,d,sub,i,q,k⟩:=h;unfold iA at q;split at q
  case isFalse=>cases q
  rename_i hl
 ·rw[i.length];exact hl
 ·exact⟨tS C C H fb,(@qb.go Mem.keep _ _ _ _ _ (key A outer s H E hr C H) C).Dc,n4 (DC S sub i hl) q λv C' H' ev i'=>k v C' H' ev.r0 i'⟩
def ua (f:bZ):bX:=λδ=>match f δ with
 |some (.lst ds)=>if ds.length<=18 then(mE ds).map λnss=>(fZ nss.eraseDups).map tupI else none
 |_=>none
theorem D6 (h:tupI a=tupI b):a=b:=by
 have h':a.map D.int=b.map D.int:=by injection h
 have:=congrArg (List.map λd=>match d with|D.int i=>i|_=>0) h'
 simpa [aV,Function.comp_def]using this
theorem mQ:∀(n:Nat) (l:ck),l.length<=n->l.eraseDups.Nodup
 |0,l,h=>by
  have:l=[]:=List.length_eq_zero_iff.mp (by omega)
  subst this;exact List.nodup_nil
 |n+1,[],_=>List.nodup_nil
 |n+1,a::l,h=>by
  rw[List.eraseDups_cons];have hl:=aW (λb=> !b==a) l
  refine List.nodup_cons.mpr ⟨λhm=>?_,mQ n _ (by simp at h;omega)⟩
  have:=List.mem_filter.mp (List.mem_eraseDups.mp hm);simp at this
section
variable [Mem] {X:Cx}{e:cF}{f:bZ}{p p2 pos hV:Pos}
theorem GF (hc:X.calm=true) (hu:X.A.units+64<cLine) (hg1:Gl X "sorted") (Lf:X.mg "sorted"=none) (hg2:Gl X "set") (CT:X.mg "set"=none) (ha:WO X e f)
  (Sh:starEach [.Call (.Name "set" p2) [e] [] hV] X.env=(false,eval (.Call (.Name "set" p2) [e] [] hV) X.env)::starEach [] X.env:=by exact fH rfl) (Ur:cL e [] X.env:=by exact fH rfl):
  WF X (.Call (.Name "sorted" p) [.Call (.Name "set" p2) [e] [] hV] [] pos) (ua f):=⟨by
 have ha:=ha.go;intro cM s σ H Q I ⟨C,δ,ds,x,q,k⟩;unfold ua at q;split at q
 case h_2=>cases q
 rename_i es0 hf;split at q
 case isFalse=>cases q
 rename_i h18;cases hn:mE es0 with
 |none=>rw[hn]at q;cases q
 |some nss=>
  rw[hn]at q;cases q;have ee:=uZ hn;subst ee;refine wpAny_Call_Name_kw (oM I hg1 Lf jy ?_);refine PyProof.Rows.callWith_builtin1 ?_ Sh rfl;rw[Sh];show wpAny _ _ (spliced ((false,eval (.Call (.Name "set" p2) [e] [] hV) X.env)::backTo pos (starEach [] X.env))) _ _ s;refine Calls.spliced_cons ?_;refine wpAny_Call_Name_kw (oM I hg2 CT PyProof.Rows.boot_set ?_);refine PyProof.Rows.callWith_type1 (gU ((nh ha uJ Ur) hV cM s σ H (λvs H1=>∃v C1,vs=[v]/\Ev C H C1 H1/\qa C1 H1 v (.lst (nss.map tupI))) I ⟨C,δ,_,x,hf,λv C1 H1 ev iv=>⟨v,C1,rfl,ev,iv⟩⟩) λus s1 ⟨vs,H1,I1,r1,v,C1,e1,ev,iv⟩=>?_) Ur rfl
  subst e1;obtain⟨u,rfl,ru⟩:=r1.one;obtain⟨a,xs,rfl,hq,hl⟩:=iv.list (K:=X.K) ev.s;cases ru;obtain⟨dD,rv,pl,hz⟩:=I1.list hq;have hlx:xs.length=nss.length:=by rw[hl.length,ae]
  have L1:dD.length=nss.length:=by rw[<-rv.length,hlx]
  rw[ae]at h18;have itemAt:∀(i:Nat) (w:cx),dD[i]? =some w->∃(b:cE) (ns:cn),nss[i]? =some ns/\w=.ref b/\kR X.K H1 b (ns.map V.int)/\Is C1 (.ref b) (tupI ns)/\ST.TI s1.heap w ns:=λi w hw=>by
   have hi:i<nss.length:=by rw[<-L1];exact(List.getElem?_eq_some_iff.mp hw).1
   have Bh:nss[i]? =some nss[i]:=ah hi;obtain⟨v,hv,isv⟩:=hl.get (i:=i) (d:=tupI nss[i]) (by rw[av,Bh];rfl)
   obtain⟨w',TC,Ob⟩:=rv.get hv;rw[hw]at TC;cases TC;cases isv with
   |@tup b ys _ hb l=>
    have ey:=l.l8;subst ey;cases Ob;have hsq:kR X.K H1 b (nss[i].map V.int):=kR.of (ev.s _ _ hb);obtain⟨ts,r2,⟨o,ho,oK,n,hd⟩,_⟩:=I1.tuple hsq;exact⟨b,nss[i],Bh,rfl,hsq,.tup hb l,b,o,ts,n,rfl,ho,oK,hd,intsAre_of r2⟩
  have hh:X.A.handled=none:=I1.ok.hd hc;refine ST.zD (val:=nss.map tupI) hh (by omega) pl.isList (by rw[aq,ae];exact L1) (λi w hw=>?_) (by rw[aq];omega) λh' tk Qx=>?_
  ·obtain⟨b,ns,h1,h2,h3,h4,h5⟩:=itemAt i w (by simpa using hw)
   have eg:(nss.map tupI).getD i .eV=tupI ns:=by rw[ak,av,h1];rfl
   rw[eg];refine⟨⟨b,h2⟩,?_,h5.ki⟩;unfold tupI eh;have:∀l:cn,ju (l.map D.int)=0:=λl=>by
    induction l with
    |nil=>unfold ju;rfl
    |cons a l ih=>rw[aF];unfold ju eh;rw[ih];rfl
   rw[this];decide
  ·obtain⟨⟨Ho,qh,DT⟩,keep⟩:=Qx;have I2:Inv X cM σ H1 {s1 with heap:=h',toks:=tk}:=I1.kept (t':=tk) λb o eo=>keep b o (aB eo) eo
   have JE:Ho.length<=nss.length:=by
    have:=bV (l₂:=nss.map tupI) qh.nd λd hd=>(DT d).mp hd
    rwa [ae]at this
   refine Calls.spliced_nil ?_;refine ST.Gy (s:={s1 with heap:=h',toks:=tk}) (R0:=λb ns=>Is C1 (.ref b) (tupI ns)) hc hu I2 qh (by omega) (λw hw=>?_) λD0 l hD hR hpw HK=>?_
   ·obtain⟨i,hi⟩:=bp (show w∈dD by simpa using hw)
    obtain⟨b,ns,_,h2,h3,h4,_⟩:=itemAt i w hi;exact⟨b,ns,h2,h3,h4⟩
   ·have nd2:(l.map (·.2)).Nodup:=by
     have h1:((l.map (·.2)).map tupI).Nodup:=by rw[aV];exact HK.nodup_iff.mpr qh.nd
     exact(List.pairwise_map.mp h1).imp λjg z=>jg (by rw[z])
    have pm2:(l.map (·.2)).Perm nss.eraseDups:=by
     refine(List.perm_ext_iff_of_nodup nd2 (mQ _ nss (au _))).mpr λns=>?_
     rw[List.mem_eraseDups];have h1:tupI ns∈Ho↔ns∈l.map (·.2):=by
      rw[<-HK.mem_iff,List.mem_map,List.mem_map];constructor
      ·rintro⟨p',BZ,e'⟩;exact⟨p',BZ,D6 e'⟩
      ·rintro⟨p',BZ,rfl⟩;exact⟨p',BZ,rfl⟩
     rw[<-h1,DT,List.mem_map];constructor
     ·rintro⟨m',BQ,e'⟩;rw[<-D6 e'];exact BQ
     ·intro BQ;exact⟨ns,BQ,rfl⟩
    have es:l.map (·.2)=fZ nss.eraseDups:=fC (λa b h1 h2=>HT.fR h2 h1) (pm2.trans (eE _).symm) hpw (n8 _)
    refine k D0 _ C1 _ (ev.trans (.fF ev.s hD)) (ev.free hD) (ev.s.free hD) cY ?_;show IsL C1 _ ((fZ nss.eraseDups).map tupI);rw[<-es,aV];have aux:∀l:List (cE×cn),(∀p∈l,Is C1 (.ref p.1) (tupI p.2))->IsL C1 (l.map λp=>V.ref p.1) (l.map (tupI∘λp=>p.2)):=λl=>by
     induction l with
     |nil=>intro _;exact .nil
     |cons p l ih=>intro h;exact .cons (h p af) (ih λq hq=>h q (ai _ hq))
    exact aux l hR⟩
end
end DL
namespace LW
open PySem DL
open L2 (mq Ac)
theorem B6 (p:(xs++rest).Perm (ns.map D.int)):∃ms rs:cn,xs=ms.map D.int/\rest=rs.map D.int/\(ms++rs).Perm ns:=by
 have all:∀x∈xs++rest,∃i,x=D.int i:=λx hx=>by
  have:=p.mem_iff.mp hx;obtain⟨i,_,e⟩:=List.mem_map.mp this;exact⟨i,e.symm⟩
 have ex:∀l:cu,(∀x∈l,∃i,x=D.int i)->∃ms:cn,l=ms.map D.int:=by
  intro l;induction l with
  |nil=>intro _;exact⟨[],rfl⟩
  |cons a l ih=>
   intro h;obtain⟨i,rfl⟩:=h a af;obtain⟨ms,rfl⟩:=ih λx hx=>h x (ai _ hx)
   exact⟨i::ms,rfl⟩
 obtain⟨ms,e1⟩:=ex xs λx hx=>all x (bC _ hx)
 obtain⟨rs,e2⟩:=ex rest λx hx=>all x (aL _ hx)
 refine⟨ms,rs,e1,e2,?_⟩;subst e1 e2
 let g:D->Int:=λd=>match d with|.int i=>i|_=>0
 have hg:∀l:cn,(l.map D.int).map g=l:=λl=>by rw[aV];exact List.map_id _
 have q:=p.map g;rw[hg,List.map_append,hg,hg]at q;exact q
structure u7 (many:Int) (l:cn):Prop where
 ne:l≠[]
 four:l.length<=4
 rise:l.Pairwise (·< ·)
 YG:∀p∈l,0<=p/\p<many
theorem jC (h:ns.Nodup):(sortI ns).Pairwise (·< ·):=by
 have h1:=xw ns;have h2:(sortI ns).Nodup:=(sortI_perm ns).nodup_iff.mpr h;have:=List.Pairwise.and h1 h2;exact this.imp λ{a b} ⟨x,y⟩=>by omega
theorem B7 (h:ns.length<64):jI [.lst (ns.map D.int)]=some ((sortI ns).map D.int):=by
 simp only[jI,ae,if_pos h,jv]
theorem Az:∀(a b:cn),lM (a.map D.int) (b.map D.int)=decide (a=b)
 |[],[]=>by unfold lM;simp
 |[],_::_=>by unfold lM;simp
 |_::_,[]=>by unfold lM;simp
 |x::a,y::b=>by
  show lM (.int x::a.map D.int) (.int y::b.map D.int)=_;unfold lM jf;rw[Az a b];by_cases h1:x=y<;>by_cases h2:a=b<;>simp[h1,h2]
theorem ub (a b:cn):jf (tupI a) (tupI b)=decide (a=b):=by
 unfold tupI;unfold jf;exact Az a b
theorem u9 (a:cn) (nss:ck):memD (tupI a) (nss.map tupI)=decide (a∈nss):=by
 unfold memD;rw[List.any_map];induction nss with
 |nil=>simp
 |cons b r ih=>
  rw[bF,ih];simp only[Function.comp_apply,ub];by_cases h1:b=a
  ·simp[h1]
  ·have:¬ a=b:=λz=>h1 z.symm
   simp[h1,this]
theorem rE:∀ns:cn,ju (ns.map D.int)=0
 |[]=>by unfold ju;rfl
 |n::r=>by
  show ju (.int n::r.map D.int)=0;unfold ju eh;rw[rE r];rfl
theorem uc (ns:cn):eh (tupI ns)=1:=by
 unfold tupI eh;rw[rE]
theorem rF:∀nss:ck,ju (nss.map tupI)<=1
 |[]=>by show ju []<=1;unfold ju;omega
 |n::r=>by
  show ju (tupI n::r.map tupI)<=1;unfold ju;rw[uc];have:=rF r;omega
structure HZ (least most mx many:Int) (ls:ck):Prop where
 lo:least<=many
 hi:many<=most
 num:(ls.length:Int)<=mx
 rise:ls.Pairwise (λa b=>HT.lexLt a b=true)
 line:∀l∈ls,u7 many l
def Mt (ls:ck):D:=.tup (ls.map tupI)
def eK (many:Int) (ls:ck):D:=.tup [.int many,Mt ls]
theorem yc (h:nss≠[]):intsOf (nss.map tupI)=none:=by
 cases nss with
 |nil=>exact absurd rfl h
 |cons a r=>rfl
theorem B8 (h:nss.length<64) (jg:∀l∈nss,l≠[]):jI [.lst (nss.map tupI)]=some ((fZ nss).map tupI):=by
 cases nss with
 |nil=>
  simp[jI,intsOf,sortI,fZ]
 |cons a r=>
  simp only[jI,ae,if_pos h,yc (List.cons_ne_nil a r),xx,ao];rw[if_pos];rw[List.all_eq_true];intro x hx;have:=jg x hx;cases x with
  |nil=>exact absurd rfl this
  |cons _ _=>rfl
theorem yd (h:nss.Nodup):(fZ nss).Pairwise (λa b=>HT.lexLt a b=true):=by
 have h1:=n8 nss;have h2:(fZ nss).Nodup:=(eE nss).nodup_iff.mpr h;have:=List.Pairwise.and h1 h2;refine this.imp λ{a b} ⟨x,y⟩=>?_
 cases e:HT.lexLt a b with
 |true=>rfl
 |false=>exact absurd (HT.fR e x) y
theorem eR (hl:ds.length=np) (h:f (ds.map Sl.dat++List.replicate (n-np) Sl.no)=some (.ret d)):iA n np f ds=some d:=by
 unfold iA;rw[if_pos hl,h]
theorem cU (h:f δ=some (.next δ')):eI f g δ=g δ':=by unfold eI;rw[h]
theorem fs3 (hm:1<=many):∃z:Int,1<=z/\z<=4/\z<=many/\mK [cJ c,cJ least,cJ most,cJ lines,cJ many,.own fd,cJ k,x7,x8,x9,.no]=
   some (.next [cJ c,cJ least,cJ most,cJ lines,cJ many,.own fd,cJ k,cJ z,x8,x9,.no]):=by
 have h4:0<(if many<4 then many else 4):=by split<;>omega
 have a1:=oZ (c:=c+7*k) (p:=9949) h4;have a2:=o3 (c:=c+7*k) (p:=9949) h4;refine⟨1+mh (c+7*k) 9949 (if many<4 then many else 4),by omega,?_,?_,?_⟩
 ·have:(if many<4 then many else 4)<=4:=by split<;>omega
  omega
 ·have:(if many<4 then many else 4)<=many:=by split<;>omega
  omega
 ·simp[mK,j8,du,cN,aO,aY,dC,dk,jt,zp,oI,FE,Li,Hv,xR (p:=9949) (by omega) h4]
theorem fs5 (h1:1<=z) (h4:z<=4) (hm:z<=many):∃y:Int,1<=y/\y<=4/\y<=many/\gG [cJ c,cJ least,cJ most,cJ lines,cJ many,.own fd,cJ k,cJ z,x8,x9,.no]=
   some (.next [cJ c,cJ least,cJ most,cJ lines,cJ many,.own fd,cJ k,cJ y,x8,x9,.no]):=by
 by_cases h:0<c%3/\z=1/\1<many
 ·refine⟨2,by omega,by omega,by omega,?_⟩
  obtain⟨a,rfl,b⟩:=h;simp[gG,iD,oR,j8,pY,qB,du,dC,dk,Om,BB,oI,FE,FF,lN,eh,jf,a,b]
 ·refine⟨z,h1,h4,hm,?_⟩;by_cases a:0<c%3
  ·by_cases b:z=1
   ·have d:¬ 1<many:=λd=>h ⟨a,b,d⟩
    simp[gG,iD,oR,jH,pY,qB,du,dC,dk,Om,BB,oI,FE,FF,lN,eh,jf,a,b,d]
   ·have b':(z==1)=false:=by simpa using b
    simp[gG,iD,oR,jH,pY,qB,du,dC,dk,Om,BB,oI,FE,FF,lN,eh,jf,a,b']
  ·simp[gG,iD,oR,jH,pY,qB,du,dC,dk,Om,BB,oI,FE,FF,lN,eh,jf,a]
theorem fs6 (h1:1<=many) (hm:many<=60):mL [cJ c,cJ least,cJ most,cJ lines,cJ many,.own fd,cJ k,cJ z,x8,x9,.no]=
   some (.next [cJ c,cJ least,cJ most,cJ lines,cJ many,.own fd,cJ k,cJ z,.own ((dg 0 many.toNat).map D.int),x9,.no]):=by
 have a:many<1000000:=by omega
 have b: -1000000<many:=by omega
 simp[mL,j9,uQ,aO,aY,cO,a,b]
theorem fs7 (h1:1<=many) (hm:many<=60) (z1:1<=z) (z2:z<=many):∃ms rs:cn,(ms++rs).Perm (dg 0 many.toNat)/\(ms.length:Int)=z/\
  mM [cJ c,cJ least,cJ most,cJ lines,cJ many,.own fd,cJ k,cJ z,.own ((dg 0 many.toNat).map D.int),x9,.no]=
   some (.next [cJ c,cJ least,cJ most,cJ lines,cJ many,.own fd,cJ k,cJ z,.own (rs.map D.int),.own (ms.map D.int),.no]):=by
 have hl:((dg 0 many.toNat).map D.int).length=many.toNat:=by rw[ae,dQ]
 have HU:((dg 0 z.toNat).map D.int).length=z.toNat:=by rw[ae,dQ]
 obtain⟨xs,rest,e,p,l⟩:=HH (j:=10) (m:=8) (f:=cN dX (aO (du jt (du jt (dk 0) (du zp (dC (.int 11)) (dk 6))) (du zp (dC (.int 3)) (dk 10))) (aO (dC (.int 9941)) (aO (du sI (dk 4) (dk 10)) aY))))
  (δ:=[cJ c,cJ least,cJ most,cJ lines,cJ many,.own fd,cJ k,cJ z,.own ((dg 0 many.toNat).map D.int),x9,.no])
  ((dg 0 z.toNat).map D.int) ((dg 0 many.toNat).map D.int) (by omega) (λi d lc hd hk=>by
   rw[av,oS]at hd;split at hd
   ·rename_i hi;cases hd;have hp:0<many-(0+(i:Int)):=by omega
    refine⟨mh (c+11*k+3*(0+(i:Int))) 9941 (many-(0+(i:Int))),?_,oZ hp,?_⟩
    ·have BZ:0<many-(i:Int):=by omega
     simp[cN,aO,aY,du,dk,dC,jt,sI,zp,oI,FE,Li,xR (p:=9941) (by omega) BZ]
    ·have:=o3 (c:=c+11*k+3*(0+(i:Int))) (p:=9941) hp;omega
   ·cases hd)
 obtain⟨ms,rs,rfl,rfl,q⟩:=B6 p;refine⟨ms,rs,q,?_,?_⟩
 ·rw[ae]at l;omega
 ·have a:many.toNat<1000000:=by omega
  have b:z<1000000:=by omega
  have b': -1000000<z:=by omega
  have b2:z.toNat<1000000:=by omega
  simp only[mM,DF,aK,aM,hl,if_pos a,uQ,aO,aY,cO,ao,bA,if_pos (And.intro b b'),HU,if_pos b2,e];rfl
theorem fs9 (hz:ms.length<64) (hd:found.length<1000000):iE [cJ c,cJ least,cJ most,cJ lines,cJ many,.own (found.map tupI),cJ k,cJ z,x8,.dat (.lst (ms.map D.int)),.no]=
   some (.next [cJ c,cJ least,cJ most,cJ lines,cJ many,.own ((if sortI ms∈found then found else found++[sortI ms]).map tupI),cJ k,cJ z,x8,.dat (.lst (ms.map D.int)),.no]):=by
 have L7:ju (found.map tupI)<=30:=aD (rF _) (by decide)
 have e1:∀x5,(cN my (aO (dL (iz jI (aO (dk 9) aY))) aY)) [cJ c,cJ least,cJ most,cJ lines,cJ many,x5,cJ k,cJ z,x8,.dat (.lst (ms.map D.int)),.no]=some (tupI (sortI ms)):=λx5=>by
  simp[cN,iz,aO,aY,dk,dL,B7 hz,my,tupI]
 by_cases h:sortI ms∈found
 ·simp only[iE,mN,oR,qB,du,e1,dk,aK,aM,ao,BE,r9,if_pos L7,u9,if_pos h,aR h,bS,jH]
 ·simp only[iE,mN,oR,qB,du,e1,dk,aK,aM,ao,BE,r9,if_pos L7,u9,if_neg h,aH h,Bool.not_false,zt,ae,if_pos hd,List.map_append,aF,List.map_nil];rfl
theorem GG {c least most lines many k:Int}{found:ck}{x7 x8 x9:Sl}(hm:1<=many) (CT:many<=60) (ND:found.Nodup) (hl:∀l∈found,u7 many l) (hlen:found.length<60):
  ∃(B9:ck) (y7 y8 y9:Sl),gZ [cJ c,cJ least,cJ most,cJ lines,cJ many,.own (found.map tupI),cJ k,x7,x8,x9,.no]=
   some (.next [cJ c,cJ least,cJ most,cJ lines,cJ many,.own (B9.map tupI),cJ k,y7,y8,y9,.no])/\B9.Nodup/\(∀l∈B9,u7 many l)/\B9.length<=found.length+1:=by
 obtain⟨z,z1,z2,z3,e3⟩:=fs3 (c:=c) (least:=least) (most:=most) (lines:=lines) (k:=k) (fd:=found.map tupI) (x7:=x7) (x8:=x8) (x9:=x9) hm;obtain⟨y,y1,y2,y3,e5⟩:=fs5 (c:=c) (least:=least) (most:=most) (lines:=lines) (k:=k) (fd:=found.map tupI) (x8:=x8) (x9:=x9) z1 z2 z3;obtain⟨ms,rs,p,l,e7⟩:=fs7 (c:=c) (least:=least) (most:=most) (lines:=lines) (k:=k) (fd:=found.map tupI) (x9:=x9) hm CT y1 y3;have nd:(ms++rs).Nodup:=p.nodup_iff.mpr ((fc _ _).imp λ{a b} h=>by omega)
 have nd1:ms.Nodup:=(List.nodup_append.mp nd).1;have sp:=sortI_perm ms;have ok:u7 many (sortI ms):=by
  refine⟨λz=>?_,?_,jC nd1,λx hx=>?_⟩
  ·have:=sp.length_eq;rw[z]at this;simp only[List.length_nil]at this;omega
  ·have:=sp.length_eq;omega
  ·have h1:x∈ms++rs:=bC _ (sp.mem_iff.mp hx);have h2:=(f6 _ _ _).mp (p.mem_iff.mp h1);omega
 refine⟨if sortI ms∈found then found else found++[sortI ms],cJ y,.own (rs.map D.int),.dat (.lst (ms.map D.int)),?_,?_,?_,?_⟩
 ·unfold gZ;rw[cU e3,cU e5,cU (fs6 hm CT),cU e7];show iE (uP 9 _)=_;have eg:uP 9 [cJ c,cJ least,cJ most,cJ lines,cJ many,.own (found.map tupI),cJ k,cJ y,.own (rs.map D.int),.own (ms.map D.int),.no]=[cJ c,cJ least,cJ most,cJ lines,cJ many,.own (found.map tupI),cJ k,cJ y,.own (rs.map D.int),.dat (.lst (ms.map D.int)),.no]:=rfl;rw[eg];exact fs9 (by omega) (by omega)
 ·split
  ·exact ND
  ·rename_i h;rw[List.nodup_append];exact⟨ND,(by simp),λa ha b hb=>by rw[bt]at hb;subst hb;intro z;subst z;exact h ha⟩
 ·split
  ·exact hl
  ·intro l iq;rcases List.mem_append.mp iq with h|h
   ·exact hl l h
   ·rw[bt]at h;subst h;exact ok
 ·split
  ·omega
  ·simp
theorem O8 (h1:1<=least) (h2:least<=most) (h3:most<=60) (h4:0<=lines) (h5:lines<=50):∃many ls,eY [.int c,.int least,.int most,.int lines]=some (eK many ls)/\HZ least most lines many ls:=by
 have hp:0<most-least+1:=by omega
 have hq:0<lines+1:=by omega
 have a1:=oZ (c:=c) (p:=9973) hp;have a2:=o3 (c:=c) (p:=9973) hp;have b1:=oZ (c:=c) (p:=9967) hq;have b2:=o3 (c:=c) (p:=9967) hq;obtain⟨δ',e,found,y6,y7,y8,y9,hδ,nd,hl,hn⟩:=DQ (j:=6) (f:=gZ) (λn δ=>∃(found:ck) (y6 y7 y8 y9:Sl),δ=[cJ c,cJ least,cJ most,cJ lines,cJ (least+mh c 9973 (most-least+1)),.own (found.map tupI),y6,y7,y8,y9,.no]/\found.Nodup/\(∀l∈found,u7 (least+mh c 9973 (most-least+1)) l)/\found.length<=n)
  ((dg 0 (mh c 9967 (lines+1)).toNat).map D.int) 0 [cJ c,cJ least,cJ most,cJ lines,cJ (least+mh c 9973 (most-least+1)),.own [],.no,.no,.no,.no,.no] ⟨[],.no,.no,.no,.no,rfl,List.nodup_nil,(λ_ h=>nomatch h),au _⟩
  (λi δ d hd ⟨found,y6,y7,y8,y9,hδ,nd,hl,hn⟩=>by
   have hi:=(List.getElem?_eq_some_iff.mp hd).1;rw[ae,dQ]at hi;rw[av,oS,if_pos hi]at hd;cases hd;subst hδ;obtain⟨f',z7,z8,z9,e,q1,q2,q3⟩:=GG (c:=c) (least:=least) (most:=most) (lines:=lines) (k:=0+(i:Int)) (x7:=y7) (x8:=y8) (x9:=y9) (many:=least+mh c 9973 (most-least+1)) (by omega) (by omega) nd hl (by omega)
   exact⟨_,e,f',_,z7,z8,z9,rfl,q1,q2,by omega⟩)
 subst hδ;rw[ae,dQ]at hn;refine⟨least+mh c 9973 (most-least+1),fZ found,?_,⟨by omega,by omega,?_,yd nd,λl h=>hl l ((eE found).mem_iff.mp h)⟩⟩
 ·have e1:mH [cJ c,cJ least,cJ most,cJ lines,.no,.no,.no,.no,.no,.no,.no]=some (.next [cJ c,cJ least,cJ most,cJ lines,cJ (least+mh c 9973 (most-least+1)),.no,.no,.no,.no,.no,.no]):=by
   simp[mH,j8,du,cN,aO,aY,dC,dk,cO,jt,sI,oI,xR (p:=9973) (by omega) hp]
  have e2:mJ [cJ c,cJ least,cJ most,cJ lines,cJ (least+mh c 9973 (most-least+1)),.no,.no,.no,.no,.no,.no]=some (.next [cJ c,cJ least,cJ most,cJ lines,cJ (least+mh c 9973 (most-least+1)),.own [],.no,.no,.no,.no,.no]):=by
   simp[mJ,j9,zr,aY]
  have c1:mh c 9967 (lines+1)<1000000:=by omega
  have c2: -1000000<mh c 9967 (lines+1):=by omega
  have YH:lR [cJ c,cJ least,cJ most,cJ lines,cJ (least+mh c 9973 (most-least+1)),.own [],.no,.no,.no,.no,.no]=some (.next [cJ c,cJ least,cJ most,cJ lines,cJ (least+mh c 9973 (most-least+1)),.own (found.map tupI),y6,y7,y8,y9,.no]):=by
   rw[<-e];simp[lR,oT,uQ,du,cN,aO,aY,dC,dk,cO,jt,oI,xR (p:=9967) (by omega) hq,c1,c2]
  refine eR rfl ?_;show kX [cJ c,cJ least,cJ most,cJ lines,.no,.no,.no,.no,.no,.no,.no]=_;unfold kX;rw[cU e1,cU e2,cU YH];have hs:=B8 (nss:=found) (by omega) (λl h=>(hl l h).ne)
  have z:(lS [cJ c,cJ least,cJ most,cJ lines,cJ (least+mh c 9973 (most-least+1)),.own (found.map tupI),y6,y7,y8,y9,.no])=some (.ret (eK (least+mh c 9973 (most-least+1)) (fZ found))):=by
   simp[lS,eM,eT,cN,iz,aO,aY,cO,dk,dL,hs,my,eK,Mt]
  exact z
 ·have:=(eE found).length_eq;omega
def iF (many:Int) (ls:ck) (first b g:Int):D:=.tup [eK many ls,.int first,.int b,.int g]
structure SD (least most mx many:Int) (ls:ck) (first b g:Int):Prop where
 field:HZ least most mx many ls
 f0:0<=first
 f1:first<=1
 b1:1<=b
 b2:b<=2
 g1:1<=g
 g2:g<=2
theorem SE (h1:1<=least) (h2:least<=most) (h3:most<=60) (h4:0<=lines) (h5:lines<=50):∃many ls first b g,fT [.int c,.int least,.int most,.int lines]=some (iF many ls first b g)/\eY [.int c,.int least,.int most,.int lines]=some (eK many ls)/\SD least most lines many ls first b g:=by
 obtain⟨many,ls,e,ok⟩:=O8 (c:=c) h1 h2 h3 h4 h5;have a1:=oZ (c:=c) (p:=9931) (m:=2) (by omega)
 have a2:=o3 (c:=c) (p:=9931) (m:=2) (by omega)
 have a3:=oZ (c:=c) (p:=9929) (m:=5) (by omega)
 have a4:=o3 (c:=c) (p:=9929) (m:=5) (by omega)
 have a5:=oZ (c:=c) (p:=9923) (m:=5) (by omega)
 have a6:=o3 (c:=c) (p:=9923) (m:=5) (by omega)
 refine⟨many,ls,mh c 9931 2,1+mh c 9929 5/3,1+mh c 9923 5/3,?_,e,ok,a1,by omega,by omega,by omega,by omega,by omega⟩
 refine eR rfl ?_;show mf [cJ c,cJ least,cJ most,cJ lines,.no]=_;have e1:nM [cJ c,cJ least,cJ most,cJ lines,.no]=some (.next [cJ c,cJ least,cJ most,cJ lines,.dat (eK many ls)]):=by
  simp[nM,j8,cN,aO,aY,cO,e]
 unfold mf;rw[cU e1];simp[sf,eM,eT,cN,aO,aY,cO,dC,du,jt,Ol,oI,FE,RF,iF,xR (c:=c) (p:=9931) (m:=2) (by omega) (by omega),xR (c:=c) (p:=9929) (m:=5) (by omega) (by omega),xR (c:=c) (p:=9923) (m:=5) (by omega) (by omega)]
theorem ye {α:Type}(l:List α) (q:α->Bool):FN [.lst (l.map λx=>D.bl (q x))]=some (.bl (l.all q)):=by
 have:(l.map λx=>D.bl (q x))=(l.map q).map D.bl:=by rw[aV];rfl
 rw[this];show(n6 ((l.map q).map D.bl)).map _=_;rw[Jp];simp[List.all_map]
theorem Ia {α:Type}(l:List α) (i:Nat) (h:i<l.length):mq l (i:Int)=l[i]? :=by
 unfold mq Ac;rw[if_pos (by omega),if_pos (by omega)]
 simp
end LW
namespace GP
open PySem DL
open L2 (mq Ac)
def iF (many:Int) (ls:ck) (f b g:Int):D:=.tup [.tup [.int many,.tup (ls.map tupI)],.int f,.int b,.int g]
noncomputable def jj (m l:cn):Bool:=l.all λp=>decide (p∈m)
noncomputable def f9 (y l:cn):Bool:=l.any λp=>decide (p∈y)
def vY (ls:ck) (m y:cn):Option Int:=
 if ls.any (jj m)then some 0 else if ls.all (f9 y)then some 1 else none
noncomputable def YI:Option Int->D
 |some i=>.int i
 |none=>.eV
theorem D7 (p:Int) (m:cn):memD (.int p) (m.map D.int)=decide (p∈m):=by
 unfold memD;rw[List.any_map];induction m with
 |nil=>simp
 |cons b r ih=>
  rw[bF,ih];have:(Function.comp (λe=>jf e (D.int p)) D.int) b=decide (p=b):=by
   show jf (.int b) (.int p)=_;unfold jf;by_cases h:b=p
   ·simp[h]
   ·have h2:¬ p=b:=λz=>h z.symm
    simp[h,h2]
  rw[this];by_cases h1:p=b<;>simp[h1]
theorem Ib (p:Int) (m:cn):BD (.int p) (tupI m)=some (.bl (decide (p∈m))):=by
 unfold BD tupI r9;simp only[ao,LW.rE,D7];rfl
theorem D8 (p:Int) (m:cn):BE (.int p) (tupI m)=some (.bl (!decide (p∈m))):=by
 unfold BE tupI r9;simp only[ao,LW.rE,D7];rfl
def fQ (m y:cn) (w:Int) (c:cn):cn×cn:=if w=0 then(sortI (m++c),y)else(m,sortI (y++c))
theorem ud (h:ns.length<64):ly [tupI ns]=some ((sortI ns).map D.int):=by
 simp only[ly,tupI,ae,if_pos h,jv,bA]
theorem oy (h:a.length+b.length<64):mF (tupI a) (tupI b)=some (tupI (a++b)):=by
 have:a.length+b.length<=1000000:=by omega
 simp[mF,tupI,this]
noncomputable def behind (c:cn) (p:Int):Bool:=match c.getLast? with|none=>true|some q=>decide (q<p)
def va (some:cn) (c:cn):ck:=(some.filter (behind c)).map λp=>c++[p]
def QF (some:cn) (cs:ck):ck:=cs.flatMap (va some)
def AA (some:cn):Nat->ck
 |0=>[[]]
 |k+1=>QF some (AA some k)
def pR (many:Int) (m y:cn):cn:=(dg 0 many.toNat).filter λp=> !decide (p∈m++y)
noncomputable def yf (b g w:Int) (free:cn):Nat:=(if(free.length:Int)<(if w=0 then b else g)then(free.length:Int)else(if w=0 then b else g)).toNat
def Ca (many b g:Int) (m y:cn) (w:Int):ck:=AA (pR many m y) (yf b g w (pR many m y))
theorem JP (many:Int) (m y:cn):(pR many m y).length<=many.toNat:=by
 unfold pR;have:=aW (λp=> !decide (p∈m++y)) (dg 0 many.toNat)
 rwa [dQ]at this
abbrev eZ (l:cn):Prop:=l.Pairwise (·< ·)
theorem jQ:∀{a b:cn},eZ a->eZ b->(∀p,p∈a↔p∈b)->a=b
 |[],[],_,_,_=>rfl
 |[],y::b,_,_,h=>absurd ((h y).mpr af) (by simp)
 |x::a,[],_,_,h=>absurd ((h x).mp af) (by simp)
 |x::a,y::b,ha,hb,h=>by
  obtain⟨a1,a2⟩:=List.pairwise_cons.mp ha;obtain⟨b1,b2⟩:=List.pairwise_cons.mp hb;have e:x=y:=by
   have h1:=(h x).mp af;have h2:=(h y).mpr af;rcases List.mem_cons.mp h1 with z|z
   ·exact z
   ·rcases List.mem_cons.mp h2 with u|u
    ·exact u.symm
    ·have:=b1 x z;have:=a1 y u;omega
  subst e;rw[jQ a2 b2 λp=>?_]
  constructor
  ·intro hp;have:=a1 p hp;rcases List.mem_cons.mp ((h p).mp (ai _ hp))with z|z
   ·omega
   ·exact z
  ·intro hp;have:=b1 p hp;rcases List.mem_cons.mp ((h p).mpr (ai _ hp))with z|z
   ·omega
   ·exact z
noncomputable def code (l:cn):Nat->Nat
 |0=>0
 |k+1=>2*code l k+(if(k:Int)∈l then 1 else 0)
theorem rG (l:cn):∀k,code l k<2^k
 |0=>by simp[code]
 |k+1=>by
  have:=rG l k;unfold code;rw[Nat.pow_succ];split<;>omega
theorem code_inj:∀k,code a k=code b k->∀i:Nat,i<k->((i:Int)∈a↔(i:Int)∈b)
 |0,_,i,h=>absurd h (by omega)
 |k+1,e,i,h=>by
  unfold code at e;have e1:code a k=code b k:=by split at e<;>split at e<;>omega
  by_cases hi:i=k
  ·subst hi;by_cases h1:(i:Int)∈a<;>by_cases h2:(i:Int)∈b<;>simp[h1,h2]at e ⊢<;>omega
  ·exact code_inj k e1 i (by omega)
structure ff (many:Int) (m y:cn):Prop where
 rm:eZ m
 ry:eZ y
 im:∀p∈m,0<=p/\p<many
 iy:∀p∈y,0<=p/\p<many
 dj:∀p∈m,p∉y
theorem D9 (hm:many<=9) (ra:eZ a) (rb:eZ b) (ia:∀p∈a,0<=p/\p<many) (ib:∀p∈b,0<=p/\p<many) (e:code a 9=code b 9):a=b:=by
 refine jQ ra rb λp=>?_
 by_cases h:0<=p/\p<9
 ·obtain⟨n,rfl⟩:∃n:Nat,p=(n:Int):=⟨p.toNat,by omega⟩
  exact code_inj 9 e n (by omega)
 ·constructor
  ·intro hp;have:=ia p hp;omega
  ·intro hp;have:=ib p hp;omega
theorem iH (h:eZ l):l.Nodup:=h.imp λ{a b} h=>by omega
theorem fc (n:Nat) (lo:Int):eZ (dg lo n):=LW.fc n lo
theorem ue (r:eZ l) (i:∀p∈l,0<=p/\p<many):l.length<=many.toNat:=by
 have:l.length<=(dg 0 many.toNat).length:=(iH r).length_le_of_subset λp hp=>(LW.f6 _ _ _).mpr (by have:=i p hp;omega)
 rwa [dQ]at this
theorem ei {many:Int}{m y:cn}{p:Int}:p∈pR many m y↔(0<=p/\p<many)/\p∉m/\p∉y:=by
 unfold pR;rw[List.mem_filter,LW.f6];simp only[List.mem_append,not_or,Bool.not_eq_true',decide_eq_false_iff_not];constructor
 ·rintro⟨h1,h2⟩;exact⟨by omega,h2⟩
 ·rintro⟨h1,h2⟩;exact⟨by omega,h2⟩
theorem o6 (many:Int) (m y:cn):eZ (pR many m y):=List.Pairwise.filter _ (fc _ _)
theorem rH (hs:eZ s):∀(k:Nat) (c:cn),c∈AA s k↔c.length=k/\eZ c/\∀p∈c,p∈s
 |0,c=>by
  simp only[AA,bt];constructor
  ·rintro rfl;exact⟨rfl,List.Pairwise.nil,by simp⟩
  ·rintro⟨h,_⟩;exact List.length_eq_zero_iff.mp h
 |k+1,c=>by
  unfold AA QF;rw[List.mem_flatMap];constructor
  ·rintro⟨b,hb,hc⟩
   obtain⟨l,r,i⟩:=(rH hs k b).mp hb;unfold va at hc;obtain⟨p,hp,rfl⟩:=List.mem_map.mp hc;obtain⟨NG,WN⟩:=List.mem_filter.mp hp;refine⟨by simp[l],?_,?_⟩
   ·refine List.pairwise_append.mpr ⟨r,List.pairwise_singleton _ _,λa ha q hq=>?_⟩
    rw[bt]at hq;subst hq;rcases List.eq_nil_or_concat b with rfl|⟨l',z,rfl⟩
    ·simp at ha
    ·have hz:z<q:=by simpa [behind]using WN
     rw[List.concat_eq_append]at ha r;rcases List.mem_append.mp ha with u|u
     ·have:=(List.pairwise_append.mp r).2.2 a u z (by simp);omega
     ·rw[bt]at u;omega
   ·intro q hq;rcases List.mem_append.mp hq with u|u
    ·exact i q u
    ·rw[bt]at u;subst u;exact NG
  ·rintro⟨l,r,i⟩
   rcases List.eq_nil_or_concat c with rfl|⟨b,z,rfl⟩
   ·simp at l
   ·rw[List.concat_eq_append]at l r i ⊢;obtain⟨r1,_,r3⟩:=List.pairwise_append.mp r;refine⟨b,(rH hs k b).mpr ⟨by simpa using l,r1,λp hp=>i p (bC _ hp)⟩,?_⟩
    unfold va;refine List.mem_map.mpr ⟨z,List.mem_filter.mpr ⟨i z (by simp),?_⟩,rfl⟩
    unfold behind;cases hq:b.getLast? with
    |none=>rfl
    |some q=>
     have:q∈b:=List.mem_of_getLast? hq
     simpa using r3 q this z (by simp)
theorem iI:c∈Ca many b g m y w↔c.length=yf b g w (pR many m y)/\eZ c/\∀p∈c,p∈pR many m y:=rH (o6 many m y) _ c
theorem df:p∈sortI l↔p∈l:=(sortI_perm l).mem_iff
theorem rJ (ra:eZ a) (rc:eZ c) (d:∀p∈c,p∉a):eZ (sortI (a++c)):=by
 refine LW.jC ?_;refine List.nodup_append.mpr ⟨iH ra,iH rc,λp hp q hq e=>?_⟩
 subst e;exact d p hq hp
theorem iJ (h:ff many m y) (hc:c∈Ca many b g m y w):ff many (fQ m y w c).1 (fQ m y w c).2:=by
 obtain⟨_,rc,ic⟩:=iI.mp hc;unfold fQ;split
 ·refine⟨rJ h.rm rc λp hp=>(ei.mp (ic p hp)).2.1,h.ry,λp hp=>?_,h.iy,λp hp=>?_⟩
  ·rcases List.mem_append.mp (df.mp hp)with u|u
   ·exact h.im p u
   ·exact(ei.mp (ic p u)).1
  ·rcases List.mem_append.mp (df.mp hp)with u|u
   ·exact h.dj p u
   ·exact(ei.mp (ic p u)).2.2
 ·refine⟨h.rm,rJ h.ry rc λp hp=>(ei.mp (ic p hp)).2.2,h.im,λp hp=>?_,λp hp hq=>?_⟩
  ·rcases List.mem_append.mp (df.mp hp)with u|u
   ·exact h.iy p u
   ·exact(ei.mp (ic p u)).1
  ·rcases List.mem_append.mp (df.mp hq)with u|u
   ·exact h.dj p hp u
   ·exact(ei.mp (ic p u)).2.1 hp
theorem any_congr {α:Type}{f g:α->Bool}:∀{l:List α},(∀a∈l,f a=g a)->l.any f=l.any g
 |[],_=>rfl
 |a::l,h=>by rw[bF,bF,h a af,any_congr λb hb=>h b (ai _ hb)]
structure Gm where
 many:Int
 ls:ck
 b:Int
 g:Int
structure Gm.Ok (G:Gm):Prop where
 m0:0<=G.many
 m9:G.many<=9
 li:∀l∈G.ls,∀p∈l,0<=p/\p<G.many
 ll:∀l∈G.ls,l.length<1000000
 b1:1<=G.b
 b3:G.b<=4
 g1:1<=G.g
 g3:G.g<=4
def Gm.jw (G:Gm) (m y:cn) (w:Int):ck:=Ca G.many G.b G.g m y w
def Gm.free (G:Gm) (m y:cn):cn:=pR G.many m y
def Gm.over (G:Gm) (m y:cn):Option Int:=vY G.ls m y
def Gm.wu (G:Gm):Nat->cn->cn->Int->Int
 |0,m,y,w=>match G.over m y with|some i=>i|none=>1-w
 |n+1,m,y,w=>match G.over m y with
  |some i=>i
  |none=>if(G.jw m y w).any (λc=>G.wu n (fQ m y w c).1 (fQ m y w c).2 (1-w)==w)then w else 1-w
theorem qz {G:Gm}{m y c:cn}{w:Int}(h:ff G.many m y) (hc:c∈G.jw m y w):(G.free (fQ m y w c).1 (fQ m y w c).2).length+c.length<=(G.free m y).length:=by
 obtain⟨_,rc,ic⟩:=iI.mp hc;rw[<-aQ];have mp:∀p,(p∈(fQ m y w c).1\/p∈(fQ m y w c).2)↔(p∈m\/p∈y\/p∈c):=by
  intro p;unfold fQ;split<;>simp only[df,List.mem_append]
  ·constructor
   ·rintro((a|a)|a)<;>simp[a]
   ·rintro(a|a|a)<;>simp[a]
 refine bV ?_ λp hp=>?_
 ·refine List.nodup_append.mpr ⟨iH (o6 _ _ _),iH rc,λp hp q hq e=>?_⟩
  subst e;have:=ei.mp hp;rcases(mp p).mpr (.inr (.inr hq))with u|u
  ·exact this.2.1 u
  ·exact this.2.2 u
 ·rcases List.mem_append.mp hp with u|u
  ·have:=ei.mp u;refine ei.mpr ⟨this.1,λz=>?_,λz=>?_⟩
   ·rcases(mp p).mpr (.inl z)with u|u
    ·exact this.2.1 u
    ·exact this.2.2 u
   ·rcases(mp p).mpr (.inr (.inl z))with u|u
    ·exact this.2.1 u
    ·exact this.2.2 u
  ·exact ic p u
theorem rK {G:Gm}(hG:G.Ok) {m y:cn}(h:G.free m y=[]):G.over m y≠none:=by
 unfold Gm.over vY;split
 ·simp
 ·rename_i h1;rw[if_pos ?_]; · simp
  rw[List.all_eq_true];intro l hl;unfold f9;rw[bN];have h2:¬ jj m l=true:=λz=>h1 (bN.mpr ⟨l,hl,z⟩)
  unfold jj at h2;rw[List.all_eq_true]at h2;have:∃p∈l,p∉m:=by
   apply bT
   intro hn;apply h2
   intro p hp;simp only[decide_eq_true_eq];apply bT
   intro z;exact hn ⟨p,hp,z⟩
  obtain⟨p,hp,HK⟩:=this;refine⟨p,hp,?_⟩;simp only[decide_eq_true_eq];apply bT
  intro z;have:p∈G.free m y:=ei.mpr ⟨hG.li l hl p hp,HK,z⟩;rw[h]at this;simp at this
theorem Ic {G:Gm}{m y:cn}{i:Int}(h:G.over m y=some i):i=0\/i=1:=by
 unfold Gm.over vY at h;split at h
 ·cases h;exact .inl rfl
 ·split at h
  ·cases h;exact .inr rfl
  ·cases h
theorem oz {G:Gm}(hG:G.Ok) {m y c:cn}{w:Int}(ho:G.over m y=none) (hc:c∈G.jw m y w):1<=c.length:=by
 obtain⟨l,_,_⟩:=iI.mp hc;have hf:G.free m y≠[]:=λz=>rK hG z ho
 have h1:1<=(pR G.many m y).length:=by
  cases h:pR G.many m y with
  |nil=>exact absurd h hf
  |cons a r=>simp
 rw[l];unfold yf;have:=hG.b1;have:=hG.g1;split<;>split<;>omega
theorem AB {G:Gm}(hG:G.Ok):∀(n:Nat) (m y:cn) (w:Int),ff G.many m y->(G.free m y).length<=n->G.wu n m y w=G.wu (n+1) m y w
 |0,m,y,w,h,hn=>by
  have h0:G.free m y=[]:=List.length_eq_zero_iff.mp (by omega)
  unfold Gm.wu;cases ho:G.over m y with
  |some i=>rfl
  |none=>exact absurd ho (rK hG h0)
 |n+1,m,y,w,h,hn=>by
  rw[Gm.wu,Gm.wu];cases ho:G.over m y with
  |some i=>rfl
  |none=>
   have:(G.jw m y w).any (λc=>G.wu n (fQ m y w c).1 (fQ m y w c).2 (1-w)==w)=(G.jw m y w).any (λc=>G.wu (n+1) (fQ m y w c).1 (fQ m y w c).2 (1-w)==w):=
    any_congr λc hc=>by
     have:=qz h hc;have:=oz hG ho hc;rw[AB hG n _ _ (1-w) (iJ h hc) (by omega)]
   simp only[this]
def Gm.gW (G:Gm) (m y:cn) (w:Int):Int:=G.wu 9 m y w
theorem O9 {G:Gm}(hG:G.Ok) (m y:cn):(G.free m y).length<=9:=by
 have:=JP G.many m y;have:=hG.m9;unfold Gm.free;omega
theorem Cb {G:Gm}(hG:G.Ok) {m y:cn}{w:Int}(h:ff G.many m y):G.gW m y w=(match G.over m y with
  |some i=>i
  |none=>if(G.jw m y w).any (λc=>G.gW (fQ m y w c).1 (fQ m y w c).2 (1-w)==w)then w else 1-w):=by
 unfold Gm.gW;rw[AB hG 9 m y w h (O9 hG m y),Gm.wu]
theorem nN {G:Gm}(hG:G.Ok) {m y:cn}{w:Int}(h:ff G.many m y) (hw:w=0\/w=1):G.gW m y w=0\/G.gW m y w=1:=by
 rw[Cb hG h];cases ho:G.over m y with
 |some i=>exact Ic ho
 |none=>simp only;split<;>omega
def GH (m y:cn) (w:Int):D:=.tup [tupI m,tupI y,.int w]
def AD:D->Option (cn×cn×Int)
 |.tup [.tup a,.tup b,.int w]=>match intsOf a,intsOf b with|some m,some y=>some (m,y,w)|_,_=>none
 |_=>none
theorem rL (m y:cn) (w:Int):AD (GH m y w)=some (m,y,w):=by
 show(match intsOf (m.map D.int),intsOf (y.map D.int)with|some m,some y=>some (m,y,w)|_,_=>none)=_
 rw[jv,jv]
theorem Mu (h:AD k=some (m,y,w)):k=GH m y w:=by
 unfold AD at h;split at h
 ·rename_i a b w';split at h
  ·rename_i m' y' e1 e2;cases h;rw[hJ e1,hJ e2];rfl
  ·cases h
 ·cases h
def GI (k:D):Nat:=match AD k with|some (m,y,w)=>code m 9*1024+code y 9*2+w.toNat|none=>0
open Classical in
def Gm.W (G:Gm) (k:D):Option D:=match AD k with
 |some (m,y,w)=>if ff G.many m y/\(w=0\/w=1)then some (.int (G.gW m y w))else none
 |none=>none
theorem GJ {G:Gm}{k d:D}(h:G.W k=some d):∃m y w,k=GH m y w/\ff G.many m y/\(w=0\/w=1)/\d=.int (G.gW m y w):=by
 unfold Gm.W at h;split at h
 ·rename_i m y w e;split at h
  ·rename_i hh;cases h;exact⟨m,y,w,Mu e,hh.1,hh.2,rfl⟩
  ·cases h
 ·cases h
theorem Mv {G:Gm}{m y:cn}{w:Int}(h:ff G.many m y) (hw:w=0\/w=1):G.W (GH m y w)=some (.int (G.gW m y w)):=by
 unfold Gm.W;rw[rL];simp only;rw[if_pos ⟨h,hw⟩]
theorem yg (m y:cn) (w:Int):GI (GH m y w)=code m 9*1024+code y 9*2+w.toNat:=by unfold GI;rw[rL]
theorem V0 {G:Gm}(hG:G.Ok) (k k' d d':D) (h:G.W k=some d) (h':G.W k'=some d') (e:GI k=GI k'):k=k':=by
 obtain⟨m,y,w,rfl,p,hw,rfl⟩:=GJ h;obtain⟨m',y',w',rfl,p',TC,rfl⟩:=GJ h';rw[yg,yg]at e;have a1:=rG y 9;have a2:=rG y' 9;have e1:w=w':=by rcases hw with rfl|rfl<;>rcases TC with rfl|rfl<;>simp at e ⊢<;>omega
 subst e1;have e2:code y 9=code y' 9:=by rcases hw with rfl|rfl<;>simp at e<;>omega
 have e3:code m 9=code m' 9:=by omega
 rw[D9 hG.m9 p.rm p'.rm p.im p'.im e3,D9 hG.m9 p.ry p'.ry p.iy p'.iy e2]
theorem yh:∀l:cn,nq (l.map D.int)=true
 |[]=>by unfold nq;rfl
 |a::l=>by
  show nq (.int a::l.map D.int)=true;unfold nq oi;rw[yh l];rfl
theorem YJ {G:Gm}(k d:D) (h:G.W k=some d):GI k<524288:=by
 obtain⟨m,y,w,rfl,p,hw,rfl⟩:=GJ h;rw[yg];have a1:=rG y 9;have a2:=rG m 9;rcases hw with rfl|rfl<;>simp<;>omega
noncomputable def Ea:dP:=⟨λ_=>none,λ_=>0,0,by decide,(λ_ _ h=>by cases h),(λ_ _ _ _ h=>by cases h),(λ_ _ h=>by cases h)⟩
def linesOf:cu->Option (ck)
 |[]=>some []
 |.tup ds::r=>match intsOf ds,linesOf r with|some l,some ls=>some (l::ls)|_,_=>none
 |_=>none
theorem lB:∀ls:ck,linesOf (ls.map tupI)=some ls
 |[]=>rfl
 |l::ls=>by
  show(match intsOf (l.map D.int),linesOf (ls.map tupI)with|some l,some ls=>some (l::ls)|_,_=>none)=_
  rw[jv,lB ls]
def Mw:D->Option Gm
 |.tup [.tup [.int many,.tup ls],.int _,.int b,.int g]=>(linesOf ls).map λls=>⟨many,ls,b,g⟩
 |_=>none
theorem Cc (many:Int) (ls:ck) (f b g:Int):Mw (iF many ls f b g)=some ⟨many,ls,b,g⟩:=by
 show(linesOf (ls.map tupI)).map _=_;rw[lB];rfl
end GP
namespace GP
open PySem DL
theorem fill:∀(F:cn) (P:Int->Bool) (k:Nat),F.countP P<=k->k<=F.length->∃c:cn,c.Sublist F/\c.length=k/\∀x∈F,P x=true->x∈c
 |[],P,k,_,h2=>⟨[],List.Sublist.refl _,by simp at h2;simp[h2],by simp⟩
 |x::F,P,k,h1,h2=>by
  rw[List.countP_cons]at h1;rw[ay]at h2;by_cases hx:P x=true
  ·rw[if_pos hx]at h1;obtain⟨c,s,l,i⟩:=fill F P (k-1) (by omega) (by omega)
   refine⟨x::c,s.cons_cons x,by rw[ay];omega,λz hz pz=>?_⟩
   rcases List.mem_cons.mp hz with rfl|u
   ·exact af
   ·exact ai _ (i z u pz)
  ·rw[if_neg hx]at h1;by_cases hk:k<=F.length
   ·obtain⟨c,s,l,i⟩:=fill F P k (by omega) hk
    refine⟨c,s.cons x,l,λz hz pz=>?_⟩
    rcases List.mem_cons.mp hz with rfl|u
    ·exact absurd pz hx
    ·exact i z u pz
   ·exact⟨x::F,List.Sublist.refl _,by rw[ay];omega,λz hz _=>hz⟩
theorem jx {G:Gm}{m y A:cn}{w:Int}(ha:A.length<=(if w=0 then G.b else G.g).toNat):∃c∈G.jw m y w,∀p∈G.free m y,p∈A->p∈c:=by
 have hc:(G.free m y).countP (λp=>decide (p∈A))<=A.length:=by
  rw[List.countP_eq_length_filter];exact bV ((iH (o6 _ _ _)).sublist List.filter_sublist) λp hp=>by
   have:=(List.mem_filter.mp hp).2
   simpa using this
 have tj:(G.free m y).countP (λp=>decide (p∈A))<=(G.free m y).length:=List.countP_le_length
 obtain⟨c,s,l,i⟩:=fill (G.free m y) (λp=>decide (p∈A)) (yf G.b G.g w (G.free m y)) (by unfold yf;split<;>omega) (by unfold yf;split<;>omega)
 exact⟨c,iI.mpr ⟨l,(o6 _ _ _).sublist s,λp hp=>s.subset hp⟩,λp hp hA=>i p hp (by simpa using hA)⟩
theorem mw {G:Gm}(hG:G.Ok) {m y c:cn}{w:Int}(hc:c∈G.jw m y w):c.length<=(if w=0 then G.b else G.g).toNat:=by
 obtain⟨l,_,_⟩:=iI.mp hc;rw[l];unfold yf;have:=hG.b1;have:=hG.g1;split<;>split<;>omega
theorem nv {G:Gm}{m y:cn}:G.over m y=some 0↔∃l∈G.ls,∀p∈l,p∈m:=by
 unfold Gm.over vY;have e:G.ls.any (jj m)=true↔∃l∈G.ls,∀p∈l,p∈m:=by
  rw[bN];simp only[jj,List.all_eq_true,decide_eq_true_eq]
 constructor
 ·intro h;split at h
  ·rename_i h1;exact e.mp h1
  ·split at h<;>simp at h
 ·intro h;rw[if_pos (e.mpr h)]
theorem oA {G:Gm}{m y:cn}(h0:¬ ∃l∈G.ls,∀p∈l,p∈m):G.over m y=some 1↔∀l∈G.ls,∃p∈l,p∈y:=by
 have h1:¬ G.ls.any (jj m)=true:=by
  intro h;rw[bN]at h;simp only[jj,List.all_eq_true,decide_eq_true_eq]at h;exact h0 h
 unfold Gm.over vY;rw[if_neg h1];have e:G.ls.all (f9 y)=true↔∀l∈G.ls,∃p∈l,p∈y:=by
  rw[List.all_eq_true];simp only[f9,bN,decide_eq_true_eq]
 constructor
 ·intro h;split at h
  ·rename_i h2;exact e.mp h2
  ·simp at h
 ·intro h;rw[if_pos (e.mpr h)]
theorem iK (G:Gm) (m y:cn):G.over m y=some 0\/G.over m y=some 1\/G.over m y=none:=by
 cases h:G.over m y with
 |none=>exact .inr (.inr rfl)
 |some i=>rcases Ic h with rfl|rfl<;>simp
theorem AE {G:Gm}(hG:G.Ok) {m y:cn}(h:ff G.many m y) (ho:G.over m y=none):G.gW m y 0=0↔∃c∈G.jw m y 0,G.gW (fQ m y 0 c).1 (fQ m y 0 c).2 1=0:=by
 rw[Cb hG h,ho];simp only;have e:(G.jw m y 0).any (λc=>G.gW (fQ m y 0 c).1 (fQ m y 0 c).2 (1-0)==0)=true↔∃c∈G.jw m y 0,G.gW (fQ m y 0 c).1 (fQ m y 0 c).2 1=0:=by
  rw[bN];simp only[beq_iff_eq];rfl
 constructor
 ·intro h1;split at h1
  ·rename_i h2;exact e.mp h2
  ·omega
 ·intro h1;rw[if_pos (e.mpr h1)]
theorem Eb {G:Gm}(hG:G.Ok) {m y:cn}(h:ff G.many m y) (ho:G.over m y=none):G.gW m y 1=0↔∀c∈G.jw m y 1,G.gW (fQ m y 1 c).1 (fQ m y 1 c).2 0=0:=by
 rw[Cb hG h,ho];simp only;have e:(G.jw m y 1).any (λc=>G.gW (fQ m y 1 c).1 (fQ m y 1 c).2 (1-1)==1)=true↔∃c∈G.jw m y 1,G.gW (fQ m y 1 c).1 (fQ m y 1 c).2 0=1:=by
  rw[bN];simp only[beq_iff_eq];rfl
 constructor
 ·intro h1 c hc;rcases nN (w:=0) hG (iJ h hc) (.inl rfl)with z|z
  ·exact z
  ·rw[if_pos (e.mpr ⟨c,hc,z⟩)]at h1;omega
 ·intro h1;rw[if_neg]
  ·rfl
  ·intro z;obtain⟨c,hc,u⟩:=e.mp z;have:=h1 c hc;omega
theorem gq {G:Gm}(hG:G.Ok) {m y:cn}{w i:Int}(h:ff G.many m y) (ho:G.over m y=some i):G.gW m y w=i:=by
 rw[Cb hG h,ho]
theorem JQ (m y c:cn):fQ m y 0 c=(sortI (m++c),y):=rfl
theorem JR (m y c:cn):fQ m y 1 c=(m,sortI (y++c)):=rfl
structure Gm.Ren (G G':Gm) (π:Int->Int):Prop where
 pr:∀p,0<=p/\p<G.many->0<=π p/\π p<G'.many
 inj:∀p q,0<=p/\p<G.many->0<=q/\q<G.many->π p=π q->p=q
 b:G.b<=G'.b
 g:G'.g<=G.g
 ls:∀l∈G.ls,∃l'∈G'.ls,∀q∈l',∃p∈l,π p=q
def back (G:Gm) (π:Int->Int) (c:cn):cn:=(dg 0 G.many.toNat).filter λp=>decide (π p∈c)
theorem back_mem:p∈back G π c↔(0<=p/\p<G.many)/\π p∈c:=by
 unfold back;rw[List.mem_filter,LW.f6,decide_eq_true_eq];constructor
 ·rintro⟨h1,h2⟩;exact⟨by omega,h2⟩
 ·rintro⟨h1,h2⟩;exact⟨by omega,h2⟩
theorem AF {π:Int->Int}:∀{l:cn},l.Nodup->(∀p∈l,∀q∈l,π p=π q->p=q)->(l.map π).Nodup
 |[],_,_=>List.nodup_nil
 |a::l,h,i=>by
  obtain⟨h1,h2⟩:=List.nodup_cons.mp h;rw[aF,List.nodup_cons];refine⟨λz=>?_,AF h2 λp hp q hq=>i p (ai _ hp) q (ai _ hq)⟩
  obtain⟨q,hq,e⟩:=List.mem_map.mp z;have:=i q (ai _ hq) a af e;subst this;exact h1 hq
theorem Mx (inj:∀p q,0<=p/\p<G.many->0<=q/\q<G.many->π p=π q->p=q):(back G π c).length<=c.length:=by
 have nd:(back G π c).Nodup:=(iH (fc _ _)).sublist List.filter_sublist;have:=bV (AF nd λp hp q hq e=>inj p q (back_mem.mp hp).1 (back_mem.mp hq).1 e) (l₂:=c) λq hq=>by
  obtain⟨p,hp,rfl⟩:=List.mem_map.mp hq;exact(back_mem.mp hp).2
 rwa [ae]at this
structure Gm.Le (G G':Gm):Prop where
 many:G.many=G'.many
 b:G.b<=G'.b
 g:G'.g<=G.g
 ls:∀l∈G.ls,∃l'∈G'.ls,∀p∈l',p∈l
theorem Gm.Le.refl (G:Gm):G.Le G:=⟨rfl,Int.le_refl _,Int.le_refl _,λl h=>⟨l,h,λ_ h=>h⟩⟩
theorem V1 {G G':Gm}{π:Int->Int}(hG:G.Ok) (yi:G'.Ok) (le:G.Ren G' π):∀(n:Nat) (m y m' y':cn) (w:Int),ff G.many m y->ff G'.many m' y'->(∀p∈m,π p∈m')->(∀p,0<=p/\p<G.many->π p∈y'->p∈y)->(w=0\/w=1)->(G'.free m' y').length<=n->
  G.gW m y w=0->G'.gW m' y' w=0:=by
 intro n;induction n with
 |zero=>
  intro m y m' y' w h h' sm sy hw hn vd;have h0:G'.free m' y'=[]:=List.length_eq_zero_iff.mp (by omega)
  have hf:=rK yi h0;have k0:(∃l∈G.ls,∀p∈l,p∈m)->∃l∈G'.ls,∀p∈l,p∈m':=λ⟨l,hl,hp⟩=>by
   obtain⟨l',iq,s⟩:=le.ls l hl;refine⟨l',iq,λq hq=>?_⟩
   obtain⟨p,BZ,rfl⟩:=s q hq;exact sm _ (hp _ BZ)
  rcases iK G' m' y' with ke|ke|ke
  ·exact gq yi h' ke
  ·exfalso;have Kn:¬ ∃l∈G'.ls,∀p∈l,p∈m':=λz=>by rw[nv.mpr z]at ke;simp at ke
   have a:=(oA Kn).mp ke;have n0:¬ ∃l∈G.ls,∀p∈l,p∈m:=λz=>Kn (k0 z)
   have:G.over m y=some 1:=(oA n0).mpr λl hl=>by
    obtain⟨l',iq,s⟩:=le.ls l hl;obtain⟨p,hp,hy⟩:=a l' iq;obtain⟨r,hr,rfl⟩:=s p hp;exact⟨r,hr,sy r (hG.li l hl r hr) hy⟩
   rw[gq hG h this]at vd;omega
  ·exact absurd ke hf
 |succ n ih=>
  intro m y m' y' w h h' sm sy hw hn vd;have k0:(∃l∈G.ls,∀p∈l,p∈m)->∃l∈G'.ls,∀p∈l,p∈m':=λ⟨l,hl,hp⟩=>by
   obtain⟨l',iq,s⟩:=le.ls l hl;refine⟨l',iq,λq hq=>?_⟩
   obtain⟨p,BZ,rfl⟩:=s q hq;exact sm _ (hp _ BZ)
  rcases iK G' m' y' with ke|ke|ke
  ·exact gq yi h' ke
  ·exfalso;have Kn:¬ ∃l∈G'.ls,∀p∈l,p∈m':=λz=>by rw[nv.mpr z]at ke;simp at ke
   have a:=(oA Kn).mp ke;have n0:¬ ∃l∈G.ls,∀p∈l,p∈m:=λz=>Kn (k0 z)
   have:G.over m y=some 1:=(oA n0).mpr λl hl=>by
    obtain⟨l',iq,s⟩:=le.ls l hl;obtain⟨p,hp,hy⟩:=a l' iq;obtain⟨r,hr,rfl⟩:=s p hp;exact⟨r,hr,sy r (hG.li l hl r hr) hy⟩
   rw[gq hG h this]at vd;omega
  ·have Kn:¬ ∃l∈G'.ls,∀p∈l,p∈m':=λz=>by rw[nv.mpr z]at ke;simp at ke
   rcases iK G m y with ho|ho|ho
   ·exact absurd (k0 (nv.mp ho)) Kn
   ·rw[gq hG h ho]at vd;omega
   ·rcases hw with rfl|rfl
    ·obtain⟨c,hc,wc⟩:=(AE hG h ho).mp vd;have hl:=mw hG hc;rw[if_pos rfl]at hl;obtain⟨c',oK,m6⟩:=jx (G:=G') (m:=m') (y:=y') (A:=c.map π) (w:=0) (by rw[if_pos rfl,ae];have:=le.b;omega)
     refine(AE yi h' ke).mpr ⟨c',oK,?_⟩;have f1:=qz h' oK;have f2:=oz yi ke oK;refine ih _ _ _ _ 1 (iJ h hc) (iJ h' oK) ?_ ?_ (.inr rfl) (by omega) wc
     ·intro p hp;rw[JQ]at hp ⊢;rcases List.mem_append.mp (df.mp hp)with u|u
      ·exact df.mpr (bC _ (sm p u))
      ·by_cases BQ:π p∈m'
       ·exact df.mpr (bC _ BQ)
       ·refine df.mpr (aL _ (m6 _ ?_ (List.mem_map.mpr ⟨p,u,rfl⟩)));have fr:=ei.mp ((iI.mp hc).2.2 p u);exact ei.mpr ⟨le.pr p fr.1,BQ,λz=>fr.2.2 (sy _ fr.1 z)⟩
     ·exact λp hp=>sy p hp
    ·refine(Eb yi h' ke).mpr λc' oK=>?_
     have hl:=mw yi oK;rw[if_neg (by omega)]at hl
     obtain⟨c,hc,m6⟩:=jx (G:=G) (m:=m) (y:=y) (A:=back G π c') (w:=1) (by rw[if_neg (by omega)];have:=le.g;have:=Mx (c:=c') le.inj;omega)
     have wc:=(Eb hG h ho).mp vd c hc;have f1:=qz h' oK;have f2:=oz yi ke oK;refine ih _ _ _ _ 0 (iJ h hc) (iJ h' oK) ?_ ?_ (.inl rfl) (by omega) wc
     ·exact λp hp=>sm p hp
     ·intro p pr hp;rw[JR]at hp ⊢;rcases List.mem_append.mp (df.mp hp)with u|u
      ·exact df.mpr (bC _ (sy p pr u))
      ·by_cases hy:p∈y
       ·exact df.mpr (bC _ hy)
       ·refine df.mpr (aL _ (m6 _ ?_ (back_mem.mpr ⟨pr,u⟩)));have fr:=ei.mp ((iI.mp oK).2.2 _ u);exact ei.mpr ⟨pr,λz=>fr.2.1 (sm _ z),hy⟩
theorem mono {G G':Gm}(hG:G.Ok) (yi:G'.Ok) (le:G.Le G') {m y m' y':cn}{w:Int}(h:ff G.many m y) (h':ff G'.many m' y') (sm:∀p∈m,p∈m') (sy:∀p∈y',p∈y) (hw:w=0\/w=1):G.gW m y w=0->G'.gW m' y' w=0:=
 V1 (π:=id) hG yi ⟨λp h=>le.many▸h,λp q _ _ e=>e,le.b,le.g,λl hl=>(le.ls l hl).imp λl' h=>⟨h.1,λq hq=>⟨q,h.2 q hq,rfl⟩⟩⟩ _ m y m' y' w h h' sm (λp _=>sy p) hw (au _)
end GP
namespace GP
open PySem DL
open L2 (mq Ac)
noncomputable def comb:Nat->cn->ck
 |0,_=>[[]]
 |_+1,[]=>[]
 |k+1,p::r=>(comb k r).map (p:: ·)++comb (k+1) r
theorem gr:∀(k:Nat) (s c:cn),c∈comb k s->c.length=k/\∀p∈c,p∈s
 |0,s,c,h=>by simp[comb]at h;subst h;simp
 |k+1,[],c,h=>by simp[comb]at h
 |k+1,q::r,c,h=>by
  simp only[comb,List.mem_append,List.mem_map]at h;rcases h with⟨d,hd,rfl⟩|h
  ·obtain⟨h1,h2⟩:=gr k r d hd;refine⟨by simp[h1],λp hp=>?_⟩
   rcases List.mem_cons.mp hp with rfl|hp
   ·exact af
   ·exact ai _ (h2 p hp)
  ·obtain⟨h1,h2⟩:=gr (k+1) r c h;exact⟨h1,λp hp=>ai _ (h2 p hp)⟩
theorem ky:∀(k:Nat) (s:cn),s.length<k->comb k s=[]
 |0,s,h=>by omega
 |k+1,[],_=>rfl
 |k+1,p::r,h=>by
  simp only[ay]at h;simp[comb,ky k r (by omega),ky (k+1) r (by omega)]
theorem yj:∀(s:cn),comb s.length s=[s]
 |[]=>rfl
 |p::r=>by simp[comb,yj r,ky (r.length+1) r (by omega)]
theorem Ec:∀(s:cn),comb 1 s=s.map λp=>[p]
 |[]=>rfl
 |p::r=>by
  have:=Ec r;simp[comb,this]
theorem ext_nil (s:cn):va s []=s.map λp=>[p]:=by
 have:s.filter (behind [])=s:=List.filter_eq_self.mpr λp _=>rfl
 simp[va,this]
theorem vZ (h:c≠[]):behind (p::c) q=behind c q:=by
 unfold behind;rw[List.getLast?_cons];cases hc:c.getLast? with
 |none=>exact absurd (List.getLast?_eq_none_iff.mp hc) h
 |some x=>rfl
theorem yk (h:c≠[]) (hp:∀q∈c,p<q):behind c p=false:=by
 unfold behind;cases hc:c.getLast? with
 |none=>exact absurd (List.getLast?_eq_none_iff.mp hc) h
 |some x=>
  have:=hp x (List.mem_of_getLast? hc);simp;omega
theorem Pa (h:c≠[]) (hp:∀q∈c,p<q):va (p::r) c=va r c:=by
 unfold va;rw[br,yk h hp];rfl
theorem JS (hr:∀q∈r,p<q) (hc:∀q∈c,q∈r):va (p::r) (p::c)=(va r c).map (p:: ·):=by
 unfold va;rw[aV];by_cases h:c=[]
 ·subst h;have h1:behind [p] p=false:=by simp[behind]
  have h2:r.filter (behind [p])=r:=List.filter_eq_self.mpr λq hq=>by simp[behind];exact hr q hq
  have h3:r.filter (behind [])=r:=List.filter_eq_self.mpr λq _=>rfl
  rw[br,h1,h2,h3];rfl
 ·have h1:behind (p::c) p=false:=by rw[vZ h];exact yk h λq hq=>hr q (hc q hq)
  have h2:r.filter (behind (p::c))=r.filter (behind c):=List.filter_congr λq _=>vZ h
  rw[br,h1,h2];rfl
theorem jR {α β:Type}{f g:α->List β}:∀{l:List α},(∀a∈l,f a=g a)->l.flatMap f=l.flatMap g
 |[],_=>rfl
 |a::l,h=>by rw[List.flatMap_cons,List.flatMap_cons,h a af,jR λb hb=>h b (ai _ hb)]
theorem ym:∀(k:Nat) (s:cn),eZ s->comb (k+1) s=(comb k s).flatMap (va s)
 |0,s,_=>by simp[Ec,comb,ext_nil]
 |k+1,[],_=>by simp[comb]
 |k+1,p::r,h=>by
  have hr:∀q∈r,p<q:=(List.pairwise_cons.mp h).1;have rr:eZ r:=(List.pairwise_cons.mp h).2;have i1:=ym k r rr;have i2:=ym (k+1) r rr;show(comb (k+1) r).map (p:: ·)++comb (k+2) r=((comb k r).map (p:: ·)++comb (k+1) r).flatMap (va (p::r))
  rw[List.flatMap_append]
  congr 1
  ·rw[List.flatMap_map,i1,List.map_flatMap];exact jR λc hc=>(JS hr (gr k r c hc).2).symm
  ·rw[i2];refine jR λc hc=>?_
   obtain⟨h1,h2⟩:=gr (k+1) r c hc;exact(Pa (λz=>by rw[z]at h1;cases h1) λq hq=>hr q (h2 q hq)).symm
theorem yn (h:eZ s):∀k,AA s k=comb k s
 |0=>by cases s<;>rfl
 |k+1=>by rw[ym k s h,<-yn h k];rfl
def sO (c:Nat) (ps:cn):ck:=if ps.length<=c then[ps]else comb c ps
theorem Ed (h:c<=ps.length):sO c ps=comb c ps:=by
 unfold sO;split
 ·have:c=ps.length:=by omega
  rw[this,yj]
 ·rfl
def yo (c:Nat) (ps:cn) (k:Nat):ck:=match ps[k]? with
 |some p=>(comb c (ps.drop (k+1))).map (p:: ·)
 |none=>[]
theorem AG:∀(c:Nat) (ps:cn),(List.range (ps.length-c)).flatMap (yo c ps)=comb (c+1) ps
 |c,[]=>by simp[comb]
 |c,p::r=>by
  by_cases h:c<=r.length
  ·have e:(p::r).length-c=(r.length-c)+1:=by simp;omega
   rw[e,List.range_succ_eq_map,List.flatMap_cons,List.flatMap_map];show yo c (p::r) 0++_=(comb c r).map (p:: ·)++comb (c+1) r
   congr 1
   rw[<-AG c r];exact jR λk _=>rfl
  ·have e:(p::r).length-c=0:=by simp;omega
   rw[e,ky (c+1) (p::r) (by simp;omega)]
   rfl
theorem rM:∀(c:Nat) (ps:cn),(comb c ps).length<=2^ps.length
 |0,ps=>by simp[comb];exact Nat.one_le_two_pow
 |c+1,[]=>by simp[comb]
 |c+1,p::r=>by
  have h1:=rM c r;have h2:=rM (c+1) r;simp only[comb,aQ,ae,ay,Nat.pow_succ];omega
theorem My {c:Nat}{ps:cn}:(sO c ps).length<=2^ps.length:=by
 unfold sO;split
 ·simp;exact Nat.one_le_two_pow
 ·exact rM c ps
end GP
namespace GP
open PySem DL
def SF (G:Gm) (m y:cn) (G':Gm) (m' y':cn):Prop:=
 ∀l∈G.ls,(∀p∈l,p∉y)->∃l'∈G'.ls,(∀p∈l',p∉y')/\∀p∈l',p∉m'->p∈l/\p∉m
theorem SF.nv {G G':Gm}{m y m' y':cn}(h:ff G.many m y) (d:SF G m y G' m' y') (z:∃l∈G.ls,∀p∈l,p∈m):∃l∈G'.ls,∀p∈l,p∈m':=by
 obtain⟨l,hl,hp⟩:=z;obtain⟨l',iq,_,s⟩:=d l hl λp q=>h.dj p (hp p q)
 refine⟨l',iq,λp q=>?_⟩
 by_cases hm:p∈m'
 ·exact hm
 ·exact absurd (hp p (s p q hm).1) (s p q hm).2
theorem SF.oA (h:ff G.many m y) (d:SF G m y G' m' y') (ke:G'.over m' y'=some 1):G.over m y=some 1:=by
 have Kn:¬ ∃l∈G'.ls,∀p∈l,p∈m':=λz=>by rw[GP.nv.mpr z]at ke;simp at ke
 have a:=(GP.oA Kn).mp ke;refine(GP.oA λz=>Kn (d.nv h z)).mpr λl hl=>?_
 by_cases hy:∃p∈l,p∈y
 ·exact hy
 ·obtain⟨l',iq,o,_⟩:=d l hl λp q u=>hy ⟨p,q,u⟩
  obtain⟨p,q,u⟩:=a l' iq;exact absurd u (o p q)
theorem rN (hG:G.Ok) (yi:G'.Ok) (em:G.many=G'.many) (eb:G.b=G'.b) (eg:G.g=G'.g):∀(n:Nat) (m y m' y':cn) (w:Int),ff G.many m y->ff G'.many m' y'->SF G m y G' m' y'->(w=0\/w=1)->(G'.free m' y').length<=n->
  G.gW m y w=0->G'.gW m' y' w=0:=by
 intro n;induction n with
 |zero=>
  intro m y m' y' w h h' d hw hn vd;have h0:G'.free m' y'=[]:=List.length_eq_zero_iff.mp (by omega)
  rcases iK G' m' y' with ke|ke|ke
  ·exact gq yi h' ke
  ·rw[gq hG h (d.oA h ke)]at vd;omega
  ·exact absurd ke (rK yi h0)
 |succ n ih=>
  intro m y m' y' w h h' d hw hn vd;rcases iK G' m' y' with ke|ke|ke
  ·exact gq yi h' ke
  ·rw[gq hG h (d.oA h ke)]at vd;omega
  ·have Kn:¬ ∃l∈G'.ls,∀p∈l,p∈m':=λz=>by rw[GP.nv.mpr z]at ke;simp at ke
   rcases iK G m y with ho|ho|ho
   ·exact absurd (d.nv h (GP.nv.mp ho)) Kn
   ·rw[gq hG h ho]at vd;omega
   ·rcases hw with rfl|rfl
    ·obtain⟨c,hc,wc⟩:=(AE hG h ho).mp vd;have hl:=mw hG hc;rw[if_pos rfl]at hl;obtain⟨c',oK,m6⟩:=jx (G:=G') (m:=m') (y:=y') (A:=c) (w:=0) (by rw[if_pos rfl];omega)
     refine(AE yi h' ke).mpr ⟨c',oK,?_⟩;have f1:=qz h' oK;have f2:=oz yi ke oK;refine ih _ _ _ _ 1 (iJ h hc) (iJ h' oK) ?_ (.inr rfl) (by omega) wc
     intro l iq Ko;rw[JQ]at Ko ⊢;rw[JQ];obtain⟨l',HU,o,s⟩:=d l iq Ko;refine⟨l',HU,o,λp hp hm=>?_⟩
     have nm:p∉m':=λz=>hm (df.mpr (bC _ z))
     obtain⟨s1,s2⟩:=s p hp nm;refine⟨s1,λz=>?_⟩
     rcases List.mem_append.mp (df.mp z)with u|u
     ·exact s2 u
     ·exact hm (df.mpr (aL _ (m6 p (ei.mpr ⟨em▸hG.li l iq p s1,nm,o p hp⟩) u)))
    ·refine(Eb yi h' ke).mpr λc' oK=>?_
     have hl:=mw yi oK;rw[if_neg (by omega)]at hl
     obtain⟨c,hc,m6⟩:=jx (G:=G) (m:=m) (y:=y) (A:=c') (w:=1) (by rw[if_neg (by omega)];omega)
     have wc:=(Eb hG h ho).mp vd c hc;have f1:=qz h' oK;have f2:=oz yi ke oK;refine ih _ _ _ _ 0 (iJ h hc) (iJ h' oK) ?_ (.inl rfl) (by omega) wc
     intro l iq Ko;rw[JR]at Ko ⊢;rw[JR];have hy:∀p∈l,p∉y:=λp q z=>Ko p q (df.mpr (bC _ z))
     obtain⟨l',HU,o,s⟩:=d l iq hy;refine⟨l',HU,λp hp z=>?_,s⟩
     rcases List.mem_append.mp (df.mp z)with u|u
     ·exact o p hp u
     ·have fr:=ei.mp ((iI.mp oK).2.2 p u);obtain⟨s1,s2⟩:=s p hp fr.2.1;exact Ko p s1 (df.mpr (aL _ (m6 p (ei.mpr ⟨hG.li l iq p s1,s2,hy p s1⟩) u)))
theorem SG (hG:G.Ok) (yi:G'.Ok) (em:G.many=G'.many) (eb:G.b=G'.b) (eg:G.g=G'.g) (h:ff G.many m y) (h':ff G'.many m' y') (hw:w=0\/w=1) (d:SF G m y G' m' y') (d':SF G' m' y' G m y):G.gW m y w=G'.gW m' y' w:=by
 have a:=rN hG yi em eb eg _ m y m' y' w h h' d hw (au _);have b:=rN yi hG em.symm eb.symm eg.symm _ m' y' m y w h' h d' hw (au _);rcases nN hG h hw with z|z
 ·rw[z,a z]
 ·rcases nN yi h' hw with u|u
  ·rw[b u]at z;omega
  ·rw[z,u]
theorem rO:∀(k:Nat) (ps c:cn),c.Sublist ps->c.length=k->c∈comb k ps
 |0,ps,c,_,h=>by
  have:c=[]:=List.length_eq_zero_iff.mp h;subst this;cases ps<;>simp[comb]
 |k+1,[],c,s,h=>by
  have:=s.length_le;simp at this;subst this;simp at h
 |k+1,p::r,c,s,h=>by
  simp only[comb,List.mem_append,List.mem_map];cases s with
  |cons _ s=>exact .inr (rO (k+1) r c s h)
  |cons_cons _ s=>
   rename_i c';exact .inl ⟨c',rO k r c' s (by simpa using h),rfl⟩
theorem Ee {k:Nat}{ps A:cn}(hA:ps.countP (λp=>decide (p∈A))<=k):∃c∈sO k ps,∀p∈ps,p∈A->p∈c:=by
 unfold sO;by_cases h:ps.length<=k
 ·rw[if_pos h];exact⟨ps,by simp,λp hp _=>hp⟩
 ·rw[if_neg h];obtain⟨c,s,l,i⟩:=fill ps (λp=>decide (p∈A)) k hA (by omega)
  exact⟨c,rO k ps c s l,λp hp ha=>i p hp (by simpa using ha)⟩
theorem o7 (h:c∈sO k ps):(∀p∈c,p∈ps)/\c.length<=k/\(c.length=k\/∀p∈ps,p∈c):=by
 unfold sO at h;split at h
 ·simp at h;subst h;exact⟨λp hp=>hp,by omega,.inr λp hp=>hp⟩
 ·obtain⟨h1,h2⟩:=gr k ps c h;exact⟨h2,by omega,.inl h1⟩
noncomputable def Gm.at (G:Gm) (L:ck):Gm:={G with ls:=L}
structure Pc (G:Gm) (L:ck):Prop where
 li:∀l∈L,∀p∈l,0<=p/\p<G.many
 ll:∀l∈L,l.length<1000000
theorem Gm.Ok.at (hG:G.Ok) (h:Pc G L):(G.at L).Ok:=⟨hG.m0,hG.m9,h.li,h.ll,hG.b1,hG.b3,hG.g1,hG.g3⟩
theorem o8 (many:Int):ff many [] []:=⟨List.Pairwise.nil,List.Pairwise.nil,(λp h=>by cases h),(λp h=>by cases h),λp h=>by cases h⟩
theorem quick {G:Gm}(hG:G.Ok) {m y l:cn}(h:ff G.many m y) (hl:l∈G.ls) (hy:∀p∈l,p∉y) (hb:l.length<=G.b.toNat):G.gW m y 0=0:=by
 rcases iK G m y with ho|ho|ho
 ·exact gq hG h ho
 ·exfalso;have n0:¬ ∃l∈G.ls,∀p∈l,p∈m:=λz=>by rw[nv.mpr z]at ho;simp at ho
  obtain⟨p,hp,u⟩:=(oA n0).mp ho l hl;exact hy p hp u
 ·obtain⟨c,hc,m6⟩:=jx (G:=G) (m:=m) (y:=y) (A:=l) (w:=0) (by rw[if_pos rfl];exact hb)
  refine(AE hG h ho).mpr ⟨c,hc,gq hG (iJ h hc) (nv.mpr ⟨l,hl,λp hp=>?_⟩)⟩
  rw[JQ];by_cases hm:p∈m
  ·exact df.mpr (bC _ hm)
  ·exact df.mpr (aL _ (m6 p (ei.mpr ⟨hG.li l hl p hp,hm,hy p hp⟩) hp))
theorem AH {G:Gm}{L:ck}(h1:L≠[]) (h2:[]∉L):(G.at L).over [] []=none:=by
 have n0:¬ ∃l∈(G.at L).ls,∀p∈l,p∈([]:cn):=λ⟨l,hl,hp⟩=>by
  cases l with
  |nil=>exact h2 hl
  |cons a r=>exact absurd (hp a af) (by simp)
 rcases iK (G.at L) [] []with ho|ho|ho
 ·exact absurd (nv.mp ho) n0
 ·cases L with
  |nil=>exact absurd rfl h1
  |cons a r=>
   obtain⟨p,_,u⟩:=(oA n0).mp ho a af;cases u
 ·exact ho
section
variable {G:Gm}(hG:G.Ok) {L:ck}(hL:Pc G L) (h1:L≠[]) (h2:[]∉L) {ps:cn}(nd:ps.Nodup) (E4:∀p,p∈ps↔∃l∈L,p∈l)
include hG hL E4
theorem qA {c:cn}(hc:∀p∈c,p∈ps) (hn:c.Nodup):ff G.many (sortI c) []/\ff G.many [] (sortI c):=by
 have r:eZ (sortI c):=LW.jC hn;have i:∀p∈sortI c,0<=p/\p<G.many:=λp hp=>by
  obtain⟨l,hl,BZ⟩:=(E4 p).mp (hc p (df.mp hp));exact hL.li l hl p BZ
 exact⟨⟨r,List.Pairwise.nil,i,(λp h=>by cases h),λp _ h=>by cases h⟩,⟨List.Pairwise.nil,r,(λp h=>by cases h),i,λp h=>by cases h⟩⟩
include nd in
theorem count_le {c:cn}:ps.countP (λp=>decide (p∈c))<=c.length:=by
 rw[List.countP_eq_length_filter];exact bV (nd.sublist List.filter_sublist) λp hp=>by
  have:=(List.mem_filter.mp hp).2
  simpa using this
theorem oB {k:Nat}{c:cn}(nd:ps.Nodup) (h:c∈sO k ps):c.Nodup:=by
 unfold sO at h;split at h
 ·simp at h;subst h;exact nd
 ·have:∀(k:Nat) (ps c:cn),c∈comb k ps->c.Sublist ps:=by
   intro k ps;induction ps generalizing k with
   |nil=>intro c h;cases k<;>simp[comb]at h;subst h;exact List.Sublist.refl _
   |cons p r ih=>
    intro c h;cases k with
    |zero=>simp[comb]at h;subst h;exact List.nil_sublist _
    |succ k=>
     simp only[comb,List.mem_append,List.mem_map]at h;rcases h with⟨d,hd,rfl⟩|h
     ·exact(ih k d hd).cons_cons p
     ·exact(ih (k+1) c h).cons p
  exact nd.sublist (this k ps c h)
include h1 h2 nd in
theorem Mz:(G.at L).gW [] [] 0=0↔∃c∈sO G.b.toNat ps,(G.at L).gW (sortI c) [] 1=0:=by
 have hA:=hG.at hL;have p0:ff (G.at L).many [] []:=o8 _;rw[AE hA p0 (AH h1 h2)];constructor
 ·rintro⟨c,hc,wc⟩
  have hl:=mw hA hc;rw[if_pos rfl]at hl;have cnt:=count_le hG hL nd E4 (c:=c);obtain⟨d,hd,m6⟩:=Ee (k:=G.b.toNat) (ps:=ps) (A:=c) (aD cnt hl);have pd:=(qA hG hL E4 (o7 hd).1 (oB hG hL E4 nd hd)).1;refine⟨d,hd,rN hA hA rfl rfl rfl _ _ _ _ _ 1 (iJ p0 hc) pd ?_ (.inr rfl) (au _) wc⟩;intro l iq Ko;refine⟨l,iq,(λp hp z=>by cases z),λp hp hm=>⟨hp,λz=>?_⟩⟩
  rw[JQ]at z;rcases List.mem_append.mp (df.mp z)with u|u
  ·cases u
  ·exact hm (df.mpr (m6 p ((E4 p).mpr ⟨l,iq,hp⟩) u))
 ·rintro⟨d,hd,wd⟩
  have pd:=(qA hG hL E4 (o7 hd).1 (oB hG hL E4 nd hd)).1;obtain⟨c,hc,m6⟩:=jx (G:=G.at L) (m:=[]) (y:=[]) (A:=d) (w:=0) (by rw[if_pos rfl];exact(o7 hd).2.1)
  refine⟨c,hc,rN hA hA rfl rfl rfl _ _ _ _ _ 1 pd (iJ p0 hc) ?_ (.inr rfl) (au _) wd⟩;intro l iq Ko;refine⟨l,iq,(λp hp z=>by cases z),λp hp hm=>⟨hp,λz=>?_⟩⟩
  refine hm ?_;rw[JQ];exact df.mpr (aL _ (m6 p (ei.mpr ⟨hL.li l iq p hp,by simp,by simp⟩) (df.mp z)))
include h1 h2 nd in
theorem MA:(G.at L).gW [] [] 1=1↔∃c∈sO G.g.toNat ps,(∀l∈L,l.length<=G.b.toNat->∃p∈l,p∈c)/\(G.at L).gW [] (sortI c) 0=1:=by
 have hA:=hG.at hL;have p0:ff (G.at L).many [] []:=o8 _;have w1:(G.at L).gW [] [] 1=1↔∃c∈(G.at L).jw [] [] 1,(G.at L).gW (fQ [] [] 1 c).1 (fQ [] [] 1 c).2 0=1:=by
  have e:=Eb hA p0 (AH h1 h2);constructor
  ·intro z;apply bT
   intro n;have:(G.at L).gW [] [] 1=0:=e.mpr λc hc=>by
    rcases nN (w:=0) hA (iJ p0 hc) (.inl rfl)with u|u
    ·exact u
    ·exact absurd ⟨c,hc,u⟩ n
   omega
  ·rintro⟨c,hc,u⟩
   rcases nN (w:=1) hA p0 (.inr rfl)with z|z
   ·have:=e.mp z c hc;omega
   ·exact z
 rw[w1];constructor
 ·rintro⟨c,hc,wc⟩
  have hl:=mw hA hc;rw[if_neg (by omega)]at hl
  have cnt:=count_le hG hL nd E4 (c:=c);obtain⟨d,hd,m6⟩:=Ee (k:=G.g.toNat) (ps:=ps) (A:=c) (aD cnt hl);have pd:=(qA hG hL E4 (o7 hd).1 (oB hG hL E4 nd hd)).2;have wd:(G.at L).gW [] (sortI d) 0=1:=by
   rcases nN (w:=0) hA pd (.inl rfl)with u|u
   ·exfalso;have:=rN hA hA rfl rfl rfl _ _ _ _ _ 0 pd (iJ p0 hc) (λl iq Ko=>⟨l,iq,λp hp z=>by
     rw[JR]at z;rcases List.mem_append.mp (df.mp z)with v|v
     ·cases v
     ·exact Ko p hp (df.mpr (m6 p ((E4 p).mpr ⟨l,iq,hp⟩) v)),λp hp _=>⟨hp,by simp⟩⟩) (.inl rfl) (au _) u
    omega
   ·exact u
  refine⟨d,hd,λl iq hb=>?_,wd⟩
  apply bT
  intro n;have:=quick hA pd iq (λp hp z=>n ⟨p,hp,df.mp z⟩) hb
  omega
 ·rintro⟨d,hd,_,wd⟩
  have pd:=(qA hG hL E4 (o7 hd).1 (oB hG hL E4 nd hd)).2;obtain⟨c,hc,m6⟩:=jx (G:=G.at L) (m:=[]) (y:=[]) (A:=d) (w:=1) (by rw[if_neg (by omega)];exact(o7 hd).2.1)
  refine⟨c,hc,?_⟩;rcases nN (w:=0) hA (iJ p0 hc) (.inl rfl)with u|u
  ·exfalso;have:=rN hA hA rfl rfl rfl _ _ _ _ _ 0 (iJ p0 hc) pd (λl iq Ko=>⟨l,iq,λp hp z=>by
    refine Ko p hp ?_;rw[JR];exact df.mpr (aL _ (m6 p (ei.mpr ⟨hL.li l iq p hp,bH,bH⟩) (df.mp z))),λp hp _=>⟨hp,by rw[JR];exact bH⟩⟩) (.inl rfl) (au _) u
   omega
  ·exact u
end
theorem JT {G:Gm}(hG:G.Ok) {L L':ck}(hL:Pc G L) (WX:Pc G L') {m y:cn}{w:Int}(h:ff G.many m y) (hw:w=0\/w=1)
  (d:∀l∈L,(∀p∈l,p∉y)->∃l'∈L',∀p∈l',p∈l/\p∉m) (d':∀l'∈L',∃l∈L,(∀p∈l,p∉y)/\∀p∈l,p∉m->p∈l'):
  (G.at L).gW m y w=(G.at L').gW [] [] w:=
 SG (hG.at hL) (hG.at WX) rfl rfl rfl h (o8 _) hw
  (λl hl ho=>(d l hl ho).imp λl' q=>⟨q.1,(λp _ z=>by cases z),λp hp _=>q.2 p hp⟩)
  (λl' iq _=>(d' l' iq).imp λl q=>⟨q.1,q.2.1,λp hp hm=>⟨q.2.2 p hp hm,by simp⟩⟩)
noncomputable def v3 (m l:cn):cn:=l.filter λp=> !decide (p∈m)
def fP (L:ck) (m y:cn):ck:=(L.filter λl=> !f9 y l).map (v3 m)
def MB (l:cn) (ls:ck):Bool:=ls.any λo=>(!decide (o=l))&&jj l o
def Pd (ls:ck):ck:=ls.filter λl=> !MB l ls
def gO (L:ck) (m y:cn):ck:=Pd (fZ (fP L m y).eraseDups)
theorem fL:p∈v3 m l↔p∈l/\p∉m:=by
 unfold v3;rw[List.mem_filter];simp
theorem o9 (h:eZ l):eZ (v3 m l):=List.Pairwise.filter _ h
theorem Ef:f9 y l=false↔∀p∈l,p∉y:=by
 unfold f9;rw[List.any_eq_false];simp
theorem Ie:jj m l=true↔∀p∈l,p∈m:=by
 unfold jj;rw[List.all_eq_true];simp
theorem gb:f∈fP L m y↔∃l∈L,(∀p∈l,p∉y)/\f=v3 m l:=by
 unfold fP;rw[List.mem_map];constructor
 ·rintro⟨l,hl,rfl⟩
  obtain⟨h1,h2⟩:=List.mem_filter.mp hl;exact⟨l,h1,Ef.mp (by simpa using h2),rfl⟩
 ·rintro⟨l,hl,hy,rfl⟩
  exact⟨l,List.mem_filter.mpr ⟨hl,by rw[Ef.mpr hy];rfl⟩,rfl⟩
theorem MC:MB l ls=false↔∀o∈ls,(∀p∈o,p∈l)->o=l:=by
 unfold MB;rw[List.any_eq_false];constructor
 ·intro h o ho hs;have:=h o ho;rw[Ie.mpr hs]at this
  simpa using this
 ·intro h o ho;by_cases hs:∀p∈o,p∈l
  ·simp[h o ho hs]
  ·have:jj l o=false:=by
    cases q:jj l o with
    |false=>rfl
    |true=>exact absurd (Ie.mp q) hs
   simp[this]
theorem Ig {ls:ck}{f:cn}:f∈fZ ls.eraseDups↔f∈ls:=(eE _).mem_iff.trans List.mem_eraseDups
theorem iM:f∈gO L m y↔f∈fP L m y/\∀o∈fP L m y,(∀p∈o,p∈f)->o=f:=by
 unfold gO Pd;rw[List.mem_filter,Ig];constructor
 ·rintro⟨h1,h2⟩
  exact⟨h1,λo ho=>MC.mp (by simpa using h2) o (Ig.mpr ho)⟩
 ·rintro⟨h1,h2⟩
  exact⟨h1,by rw[MC.mpr λo ho=>h2 o (Ig.mp ho)];rfl⟩
theorem mQ {α:Type} [BEq α] [LawfulBEq α]:∀(n:Nat) (l:List α),l.length<=n->l.eraseDups.Nodup
 |_,[],_=>by simp
 |0,_::_,h=>by simp at h
 |n+1,a::l,h=>by
  rw[List.eraseDups_cons,List.nodup_cons];refine⟨λz=>?_,mQ n _ (aD (aW _ _) (by simpa using h))⟩
  have:=(List.mem_filter.mp (List.mem_eraseDups.mp z)).2;simp at this
theorem Eg (L:ck) (m y:cn):(gO L m y).Pairwise (λa b=>HT.lexLt a b=true):=List.Pairwise.filter _ (LW.yd (mQ _ _ (au _)))
theorem Pe (a:cn):HT.lexLt a a=false:=by
 induction a with
 |nil=>rfl
 |cons x r ih=>rw[HT.iu];simp[ih]
theorem ve {l:ck}(h:l.Pairwise λa b=>HT.lexLt a b=true):l.Nodup:=h.imp λ{a b} h z=>by subst z;rw[Pe]at h;cases h
theorem lex_asymm:∀{a b:cn},HT.lexLt a b=true->HT.lexLt b a=false
 |[],[],h=>by cases h
 |[],_::_,_=>rfl
 |_::_,[],h=>by cases h
 |x::a,y::b,h=>by
  rw[HT.iu]at h ⊢;by_cases e:x=y
  ·rw[if_pos e]at h;rw[if_pos e.symm];exact lex_asymm h
  ·rw[if_neg e]at h;rw[if_neg (Ne.symm e)];have:=bJ h;exact aH (by omega)
theorem Ih {l k:ck}(h1:l.Pairwise λa b=>HT.lexLt a b=true) (h2:k.Pairwise λa b=>HT.lexLt a b=true) (h:∀a,a∈l↔a∈k):l=k:=
 fC (R:=λa b=>HT.lexLt b a=false) (λa b x y=>HT.fR y x) ((List.perm_ext_iff_of_nodup (ve h1) (ve h2)).mpr h) (h1.imp λh=>lex_asymm h) (h2.imp λh=>lex_asymm h)
theorem Eh (ra:eZ a) (rb:eZ b) (s:∀p∈a,p∈b) (ne:a≠b):a.length<b.length:=by
 have e:a=b.filter λp=>decide (p∈a):=jQ ra (List.Pairwise.filter _ rb) λp=>by
  rw[List.mem_filter];exact⟨λh=>⟨s p h,aR h⟩,λh=>bJ h.2⟩
 have le:(b.filter λp=>decide (p∈a)).length<=b.length:=aW _ _
 rcases Nat.lt_or_ge a.length b.length with h|h
 ·exact h
 ·have h2:(b.filter λp=>decide (p∈a)).length=b.length:=by rw[<-e]at le ⊢;omega
  have h3:=List.length_filter_eq_length_iff.mp h2;exact absurd (jQ ra rb λp=>⟨s p,λhp=>bJ (h3 p hp)⟩) ne
theorem oC (hL:∀l∈L,eZ l) (h:f∈fP L m y):eZ f:=by
 obtain⟨l,hl,_,rfl⟩:=gb.mp h;exact o9 (hL l hl)
theorem sP (hL:∀l∈L,eZ l):∀(n:Nat) (f:cn),f.length<=n->f∈fP L m y->∃k∈gO L m y,∀p∈k,p∈f
 |n,f,hn,hf=>by
  by_cases h:∀o∈fP L m y,(∀p∈o,p∈f)->o=f
  ·exact⟨f,iM.mpr ⟨hf,h⟩,λp hp=>hp⟩
  ·have:∃o∈fP L m y,(∀p∈o,p∈f)/\o≠f:=by
    refine bT λz=>h λo ho hs=>?_
    exact bT λz2=>z ⟨o,ho,hs,z2⟩
   obtain⟨o,ho,hs,ne⟩:=this;have lt:=Eh (oC hL ho) (oC hL hf) hs ne;cases n with
   |zero=>omega
   |succ n=>
    obtain⟨k,hk,hks⟩:=sP hL n o (by omega) ho
    exact⟨k,hk,λp hp=>hs p (hks p hp)⟩
theorem JU (hL:∀l∈L,eZ l):∀l∈gO L m y,eZ l:=λl hl=>oC hL (iM.mp hl).1
theorem Ei (hL:Pc G L):Pc G (gO L m y):=by
 constructor
 ·intro l hl p hp;obtain⟨k,hk,_,rfl⟩:=gb.mp (iM.mp hl).1;exact hL.li k hk p (fL.mp hp).1
 ·intro l hl;obtain⟨k,hk,_,rfl⟩:=gb.mp (iM.mp hl).1;exact Nat.lt_of_le_of_lt (aW _ _) (hL.ll k hk)
theorem yp (hG:G.Ok) (hL:Pc G L) (hr:∀l∈L,eZ l) (h:ff G.many m y) (hw:w=0\/w=1):(G.at L).gW m y w=(G.at (gO L m y)).gW [] [] w:=by
 refine JT hG hL (Ei hL) h hw (λl hl hy=>?_) λl' iq=>?_
 ·obtain⟨k,hk,hs⟩:=sP (m:=m) (y:=y) hr _ _ (au _) (gb.mpr ⟨l,hl,hy,rfl⟩);exact⟨k,hk,λp hp=>fL.mp (hs p hp)⟩
 ·obtain⟨l,hl,hy,rfl⟩:=gb.mp (iM.mp iq).1;exact⟨l,hl,hy,λp hp hm=>fL.mpr ⟨hp,hm⟩⟩
theorem AI (hr:∀l∈L,eZ l) (hM:∀p,p∈M↔p∈m\/p∈m') (hY:∀p,p∈Y↔p∈y\/p∈y') (hd:∀p∈y',p∉m):gO (gO L m y) m' y'=gO L M Y:=by
 have ba:∀b∈fP (gO L m y) m' y',b∈fP L M Y:=λb hb=>by
  obtain⟨k,hk,V2,rfl⟩:=gb.mp hb;obtain⟨l,hl,W0,rfl⟩:=gb.mp (iM.mp hk).1;refine gb.mpr ⟨l,hl,λp hp z=>?_,?_⟩
  ·rcases(hY p).mp z with z|z
   ·exact W0 p hp z
   ·exact V2 p (fL.mpr ⟨hp,hd p z⟩) z
  ·refine jQ (o9 (o9 (hr l hl))) (o9 (hr l hl)) λp=>?_
   rw[fL,fL,fL,hM];constructor
   ·rintro⟨⟨h1,h2⟩,h3⟩;exact⟨h1,λz=>z.elim h2 h3⟩
   ·rintro⟨h1,h2⟩;exact⟨⟨h1,λz=>h2 (.inl z)⟩,λz=>h2 (.inr z)⟩
 have ab:∀a∈fP L M Y,∃b∈fP (gO L m y) m' y',∀p∈b,p∈a:=λa ha=>by
  obtain⟨l,hl,W0,rfl⟩:=gb.mp ha;obtain⟨k,hk,hs⟩:=sP (m:=m) (y:=y) hr _ _ (au _) (gb.mpr ⟨l,hl,λp hp z=>W0 p hp ((hY p).mpr (.inl z)),rfl⟩)
  refine⟨v3 m' k,gb.mpr ⟨k,hk,λp hp z=>W0 p (fL.mp (hs p hp)).1 ((hY p).mpr (.inr z)),rfl⟩,λp hp=>?_⟩
  obtain⟨h1,h2⟩:=fL.mp hp;obtain⟨h3,h4⟩:=fL.mp (hs p h1);exact fL.mpr ⟨h3,λz=>((hM p).mp z).elim h4 h2⟩
 refine Ih (Eg _ _ _) (Eg _ _ _) λf=>?_
 rw[iM,iM];constructor
 ·rintro⟨h1,h2⟩
  refine⟨ba f h1,λo ho hs=>?_⟩
  obtain⟨b,hb,hbo⟩:=ab o ho;have e:=h2 b hb λp hp=>hs p (hbo p hp)
  subst e;exact jQ (oC hr ho) (oC hr (ba b h1)) λp=>⟨hs p,hbo p⟩
 ·rintro⟨h1,h2⟩
  obtain⟨b,hb,hbf⟩:=ab f h1;have e:=h2 b (ba b hb) hbf;subst e;exact⟨hb,λo ho hs=>h2 o (ba o ho) hs⟩
def MD (G:Gm) (L:ck):Prop:=∃m y,ff G.many m y/\L=gO G.ls m y
def uf (L:ck) (w:Int):D:=.tup [.tup (L.map tupI),.int w]
def yq:D->Option (ck×Int)
 |.tup [.tup a,.int w]=>(linesOf a).map λL=>(L,w)
 |_=>none
theorem yr (L:ck) (w:Int):yq (uf L w)=some (L,w):=by
 show(linesOf (L.map tupI)).map _=_;rw[lB];rfl
theorem sQ:∀{ds:cu}{ls:ck},linesOf ds=some ls->ds=ls.map tupI
 |[],_,h=>by cases h;rfl
 |.tup a::r,ls,h=>by
  unfold linesOf at h;cases h1:intsOf a with
  |none=>rw[h1]at h;cases h
  |some l=>
   cases h2:linesOf r with
   |none=>rw[h1,h2]at h;cases h
   |some ls'=>rw[h1,h2]at h;cases h;rw[sQ h2,hJ h1];rfl
theorem JV (h:yq k=some (L,w)):k=uf L w:=by
 unfold yq at h;split at h
 ·rename_i a w';cases h1:linesOf a with
  |none=>rw[h1]at h;cases h
  |some ls=>rw[h1]at h;cases h;rw[sQ h1];rfl
 ·cases h
open Classical in
def Gm.WS (G:Gm) (k:D):Option D:=match yq k with
 |some (L,w)=>if MD G L/\(w=0\/w=1)then some (.int ((G.at L).gW [] [] w))else none
 |none=>none
theorem wV (h:G.WS k=some d):∃L w,k=uf L w/\MD G L/\(w=0\/w=1)/\d=.int ((G.at L).gW [] [] w):=by
 unfold Gm.WS at h;split at h
 ·rename_i L w e;split at h
  ·rename_i hh;cases h;exact⟨L,w,JV e,hh.1,hh.2,rfl⟩
  ·cases h
 ·cases h
theorem ME (h:MD G L) (hw:w=0\/w=1):G.WS (uf L w)=some (.int ((G.at L).gW [] [] w)):=by
 unfold Gm.WS;rw[yr];simp only;rw[if_pos ⟨h,hw⟩]
open Classical in
noncomputable def posOf (G:Gm) (L:ck):cn×cn:=if h:MD G L then(h.choose,h.choose_spec.choose)else([],[])
theorem qC (h:MD G L):ff G.many (posOf G L).1 (posOf G L).2/\L=gO G.ls (posOf G L).1 (posOf G L).2:=by
 unfold posOf;rw[dif_pos h];exact h.choose_spec.choose_spec
def SH (G:Gm) (k:D):Nat:=match yq k with|some (L,w)=>GI (GH (posOf G L).1 (posOf G L).2 w)|none=>0
theorem yt (G:Gm) (L:ck) (w:Int):SH G (uf L w)=GI (GH (posOf G L).1 (posOf G L).2 w):=by unfold SH;rw[yr]
theorem Cd (L:ck) (w:Int):oi (uf L w)=true/\eh (uf L w)<=4:=by
 have kl:∀L:ck,nq (L.map tupI)=true:=λL=>by
  induction L with
  |nil=>unfold nq;rfl
  |cons l r ih=>
   show nq (tupI l::r.map tupI)=true;unfold nq;rw[ih];have:oi (tupI l)=true:=by unfold tupI oi;exact yh l
   rw[this];rfl
 constructor
 ·unfold uf;simp[oi,nq,kl]
 ·have:=LW.rF L;unfold uf;simp only[eh,ju];omega
def MF (G:Gm) (hG:G.Ok):dP:=⟨G.WS,SH G,524288,by decide,λk d h=>by
  obtain⟨L,w,rfl,hs,hw,_⟩:=wV h;rw[yt];exact YJ _ _ (Mv (qC hs).1 hw),λk k' d d' h h' e=>by
  obtain⟨L,w,rfl,hs,hw,_⟩:=wV h;obtain⟨L',w',rfl,Lc,TC,_⟩:=wV h';rw[yt,yt]at e;have:=V0 hG _ _ _ _ (Mv (qC hs).1 hw) (Mv (qC Lc).1 TC) e;have e2:=congrArg AD this;rw[rL,rL]at e2;injection e2 with e3
  injection e3 with e4 e5
  injection e5 with e6 e7
  rw[(qC hs).2,(qC Lc).2,e4,e6,e7],λk d h=>by
  obtain⟨L,w,rfl,_⟩:=wV h;exact Cd L w⟩
open Classical in
def MG (d:D):dP:=match Mw d with
 |some G=>if h:G.Ok then MF G h else Ea
 |none=>Ea
theorem GK (hG:G.Ok) (f:Int):MG (iF G.many G.ls f G.b G.g)=MF G hG:=by
 unfold MG;rw[Cc];simp only;rw[dif_pos hG]
end GP
namespace PC
open PySem DL LW
def qD:bY:=
  (eM (cN FN (aO (dL (dU (iT (cO 1)) 2 jd (du BD (dk 2) (dk 0)))) aY)))
def yu:bY:=
  qD
def hO:cc:=iA 3 2 yu
def pe:bY:=
  (eM (cN DN (aO (dL (dU (iT (cO 1)) 2 jd (du BD (dk 2) (dk 0)))) aY)))
def v5:bY:=
  pe
def fy:cc:=iA 3 2 v5
def zG:bY:=
  (eM (Tq (qB (du lN (dk 1) (dC (.int 0)))) (du gM (dk 0) (dC (.int 2))) (du gM (dk 0) (dC (.int 3)))))
def ug:bY:=
  zG
def eB:cc:=iA 2 2 ug
def Ej (dz:cc):bY:=
  (eM (eT (aO (cO 0) aY)))
def lC (dz:cc):bY:=
  (oR (qB (du XS (dk 1) (cN iB (aO (dk 0) aY)))) (Ej dz) jH)
def Ek (dz:cc):bY:=
  (eM (eT (aO (eT aY) aY)))
def qE (dz:cc):bY:=
  (oR (qB (du lN (dk 1) (dC (.int 0)))) (Ek dz) jH)
def v7 (dz:cc):bY:=
  (j9 2 (zr aY))
def qF (dz:cc):bY:=
  (zt 2 (du mF (eT (aO (du gM (dk 0) (dk 3)) aY)) (dk 4)))
def jS (dz:cc):bY:=
  (qF dz)
def qG (dz:cc):bY:=
  (oT 4 (iT (cN dz (aO (DJ (dk 0) (zu (du jt (dk 3) (dC (.int 1)))) OB) (aO (du sI (dk 1) (dC (.int 1))) aY)))) (jS dz))
def jT (dz:cc):bY:=
  (qG dz)
def qH (dz:cc):bY:=
  (oT 3 (uQ (aO (du jt (du sI (cN iB (aO (dk 0) aY)) (dk 1)) (dC (.int 1))) aY)) (jT dz))
def Em (dz:cc):bY:=
  (eM (cN my (aO (dk 2) aY)))
def mR (dz:cc):bY:=
  (eI (lC dz)
  (eI (qE dz)
  (eI (v7 dz)
  (eI (qH dz)
  (Em dz)))))
def fM:Nat->cc
 |0=>λ_=>none
 |n+1=>iA 5 2 (mR (fM n))
def GL:bY:=
  (eM (eT (aO (cN my (aO (dL (iz ly (aO (du mF (dk 0) (dk 3)) aY))) aY)) (aO (cO 1) aY))))
def GN:bY:=
  (oR (qB (du lN (dk 2) (dC (.int 0)))) GL jH)
def GO:bY:=
  (eM (eT (aO (cO 0) (aO (cN my (aO (dL (iz ly (aO (du mF (dk 1) (dk 3)) aY))) aY)) aY))))
def AJ:bY:=
  (eI GN
  GO)
def qI:cc:=iA 4 4 AJ
def v8:bY:=
  (j8 3 (du gM (du gM (dk 0) (dC (.int 0))) (dC (.int 1))))
def En:bY:=
  (eM (dC (.int 0)))
def qJ:bY:=
  (oR (qB (cN DN (aO (dL (dU (iT (cO 3)) 4 jd (cN hO (aO (cO 1) (aO (cO 4) aY))))) aY))) En jH)
def Eo:bY:=
  (eM (dC (.int 1)))
def qK:bY:=
  (oR (qB (cN FN (aO (dL (dU (iT (cO 3)) 4 jd (cN fy (aO (cO 2) (aO (cO 4) aY))))) aY))) Eo jH)
def Ep:bY:=
  (eM (dC .eV))
def pf:bY:=
  (eI v8
  (eI qJ
  (eI qK
  Ep)))
def kz:cc:=iA 5 3 pf
def ph:bY:=
  (eM (eT (aO (cN my (aO (dL (iz ly (aO (du mF (dk 0) (dk 3)) aY))) aY)) (aO (cO 1) aY))))
def pj:bY:=
  (oR (qB (du lN (dk 2) (dC (.int 0)))) ph jH)
def uh:bY:=
  (eM (eT (aO (cO 0) (aO (cN my (aO (dL (iz ly (aO (du mF (dk 1) (dk 3)) aY))) aY)) aY))))
def ny:bY:=
  (eI pj
  uh)
def GQ:cc:=iA 4 4 ny
end PC
namespace PC
open PySem DL GP
open LW (dX eY fT)
open L2 (mq Ac)
theorem V3 (h1:m.length+c.length<64) (h2:y.length+c.length<64):GQ [tupI m,tupI y,.int w,tupI c]=some (.tup [tupI (fQ m y w c).1,tupI (fQ m y w c).2]):=by
 refine LW.eR rfl ?_;show ny [cK m,cK y,cJ w,cK c]=_;have k1:=ud (ns:=m++c) (by simpa using h1)
 have k2:=ud (ns:=y++c) (by simpa using h2)
 unfold fQ;have j1:=oy h1;have j2:=oy h2;by_cases h:w=0
 ·subst h;simp[ny,ph,pj,eI,oR,eM,qB,du,dk,dC,lN,eh,jf,eT,aO,aY,cO,cN,dL,iz,j1,k1,my];rfl
 ·have hw:(w==0)=false:=by simpa using h
  simp[ny,ph,pj,uh,eI,oR,jH,hw,eM,qB,du,dk,dC,lN,eh,jf,eT,aO,aY,cO,cN,dL,iz,j2,k2,my,h];rfl
theorem lD {α:Type}{j:Nat}{f:bZ}{δ:fE}{φ ψ:α->D}:∀(l:List α),(∀a∈l,f (δ.set j (.dat (φ a)))=some (ψ a))->lq j jd f δ (l.map φ)=some (l.map ψ)
 |[],_=>rfl
 |a::l,h=>by
  rw[aF];unfold lq;have e:jd (δ.set j (.dat (φ a)))=some true:=rfl;simp only[e,h a af,ao,lD l λx hx=>h x (ai _ hx),bA,aF]
theorem mS (h:f δ=some ds):cN F (aO (dL f) aY) δ=F [.lst ds]:=by
 simp only[cN,aO,dL,aY,h,bA,ao]
theorem dO {o:D->D->Option D}{f g:bZ}{δ:fE}{x y:D}(hf:f δ=some x) (hg:g δ=some y):du o f g δ=o x y:=by
 unfold du;rw[hf,hg];rfl
theorem lE {f:bZ}{δ:fE}{x:D}(hf:f δ=some x):aO f aY δ=some [x]:=by
 unfold aO aY;rw[hf];rfl
theorem sk (hf:f δ=some x) (hg:g δ=some r):aO f g δ=some (x::r):=by
 unfold aO;rw[hf,hg];rfl
theorem dE (hf:f δ=some ds):cN F f δ=F ds:=by
 unfold cN;rw[hf];rfl
theorem gD (hf:f δ=some d):eM f δ=some (.ret d):=by
 unfold eM;rw[hf];rfl
theorem kY (hf:f δ=some d):j8 i f δ=some (.next (δ.set i (.dat d))):=by
 unfold j8;rw[hf];rfl
theorem ui (h:q δ=some true):oR q f g δ=f δ:=by unfold oR;rw[h]
theorem nz (h:q δ=some false):oR q f g δ=g δ:=by unfold oR;rw[h]
theorem wW (h:q δ=some b):qo q δ=some (!b):=by unfold qo;rw[h];rfl
theorem iN (h:f δ=some (.ret d)):eI f g δ=some (.ret d):=by unfold eI;rw[h]
theorem gc (h:f δ=some (.bl b)):qB f δ=some b:=by
 unfold qB;rw[h]
theorem yv {α:Type}(l:List α) (q:α->Bool):DN [.lst (l.map λx=>D.bl (q x))]=some (.bl (l.any q)):=by
 have:n6 (l.map λx=>D.bl (q x))=some (l.map q):=by
  induction l with
  |nil=>rfl
  |cons a l ih=>simp[n6,ih]
 simp[DN,this,List.any_map]
theorem Ii (i:Int) (m:cn):BD (.int i) (tupI m)=some (.bl (decide (i∈m))):=Ib i m
theorem AK (hl:l.length<1000000):hO [tupI m,tupI l]=some (.bl (jj m l)):=by
 refine LW.eR rfl ?_;show qD [cK m,cK l,.no]=_;have key:lq 2 jd (du BD (dk 2) (dk 0)) [cK m,cK l,.no] (l.map D.int)=some (l.map λi=>D.bl (decide (i∈m))):=lD l λi _=>Ii i m
 have iq:(l.map D.int).length<1000000:=by simpa using hl
 have e:dU (iT (cO 1)) 2 jd (du BD (dk 2) (dk 0)) [cK m,cK l,.no]=some (l.map λi=>D.bl (decide (i∈m))):=by
  show(if(l.map D.int).length<1000000 then _ else _)=_
  rw[if_pos iq,key]
 unfold qD eM cN aO dL;rw[e];simp only[bA,ao,aY];rw[LW.ye l (λi=>decide (i∈m))]
 rfl
theorem sR {m l:cn}(hl:l.length<1000000):fy [tupI m,tupI l]=some (.bl (f9 m l)):=by
 refine LW.eR rfl ?_;show pe [cK m,cK l,.no]=_;have key:lq 2 jd (du BD (dk 2) (dk 0)) [cK m,cK l,.no] (l.map D.int)=some (l.map λi=>D.bl (decide (i∈m))):=lD l λi _=>Ii i m
 have iq:(l.map D.int).length<1000000:=by simpa using hl
 have e:dU (iT (cO 1)) 2 jd (du BD (dk 2) (dk 0)) [cK m,cK l,.no]=some (l.map λi=>D.bl (decide (i∈m))):=by
  show(if(l.map D.int).length<1000000 then _ else _)=_
  rw[if_pos iq,key]
 unfold pe eM cN aO dL;rw[e];simp only[bA,ao,aY];rw[yv l (λi=>decide (i∈m))]
 rfl
theorem V4 (hw:w=0\/w=1):eB [iF many ls f b g,.int w]=some (.int (if w=0 then b else g)):=by
 rcases hw with rfl|rfl<;>rfl
theorem MH (h1:m.length+c.length<64) (h2:y.length+c.length<64):qI [tupI m,tupI y,.int w,tupI c]=some (.tup [tupI (fQ m y w c).1,tupI (fQ m y w c).2]):=V3 h1 h2
theorem JW (hn:ls.length<1000000) (hl:∀l∈ls,l.length<1000000):kz [iF many ls f b g,tupI m,tupI y]=some (YI (vY ls m y)):=by
 refine LW.eR rfl ?_;show pf [.dat (iF many ls f b g),cK m,cK y,.no,.no]=_;have e1:v8 [.dat (iF many ls f b g),cK m,cK y,.no,.no]=some (.next [.dat (iF many ls f b g),cK m,cK y,.dat (.tup (ls.map tupI)),.no]):=rfl;have Bh:(ls.map tupI).length<1000000:=by simpa using hn
 have k1:lq 4 jd (cN hO (aO (cO 1) (aO (cO 4) aY))) [.dat (iF many ls f b g),cK m,cK y,.dat (.tup (ls.map tupI)),.no] (ls.map tupI)=some (ls.map λl=>D.bl (jj m l)):=lD ls λl h=>AK (hl l h)
 have k2:lq 4 jd (cN fy (aO (cO 2) (aO (cO 4) aY))) [.dat (iF many ls f b g),cK m,cK y,.dat (.tup (ls.map tupI)),.no] (ls.map tupI)=some (ls.map λl=>D.bl (f9 y l)):=lD ls λl h=>sR (hl l h)
 have q1:qB (cN DN (aO (dL (dU (iT (cO 3)) 4 jd (cN hO (aO (cO 1) (aO (cO 4) aY))))) aY)) [.dat (iF many ls f b g),cK m,cK y,.dat (.tup (ls.map tupI)),.no]=some (ls.any (jj m)):=by
  have e:dU (iT (cO 3)) 4 jd (cN hO (aO (cO 1) (aO (cO 4) aY))) [.dat (iF many ls f b g),cK m,cK y,.dat (.tup (ls.map tupI)),.no]=some (ls.map λl=>D.bl (jj m l)):=by
   show(if(ls.map tupI).length<1000000 then _ else _)=_
   rw[if_pos Bh,k1]
  exact gc ((mS e).trans (yv ls (jj m)))
 have q2:qB (cN FN (aO (dL (dU (iT (cO 3)) 4 jd (cN fy (aO (cO 2) (aO (cO 4) aY))))) aY)) [.dat (iF many ls f b g),cK m,cK y,.dat (.tup (ls.map tupI)),.no]=some (ls.all (f9 y)):=by
  have e:dU (iT (cO 3)) 4 jd (cN fy (aO (cO 2) (aO (cO 4) aY))) [.dat (iF many ls f b g),cK m,cK y,.dat (.tup (ls.map tupI)),.no]=some (ls.map λl=>D.bl (f9 y l)):=by
   show(if(ls.map tupI).length<1000000 then _ else _)=_
   rw[if_pos Bh,k2]
  exact gc ((mS e).trans (LW.ye ls (f9 y)))
 unfold pf;rw[LW.cU e1];unfold vY;have e3:qJ [.dat (iF many ls f b g),cK m,cK y,.dat (.tup (ls.map tupI)),.no]=if ls.any (jj m)then some (.ret (.int 0))else some (.next [.dat (iF many ls f b g),cK m,cK y,.dat (.tup (ls.map tupI)),.no]):=by
  unfold qJ oR;rw[q1];cases ls.any (jj m)<;>rfl
 have e5:qK [.dat (iF many ls f b g),cK m,cK y,.dat (.tup (ls.map tupI)),.no]=if ls.all (f9 y)then some (.ret (.int 1))else some (.next [.dat (iF many ls f b g),cK m,cK y,.dat (.tup (ls.map tupI)),.no]):=by
  unfold qK oR;rw[q2];cases ls.all (f9 y)<;>rfl
 unfold eI;rw[e3];cases ls.any (jj m)with
 |true=>rfl
 |false=>
  simp only[aI,bD];rw[e5];cases ls.all (f9 y)<;>rfl
theorem Ij (hp:mq ps k=some p):∀(cs acc:ck) (x:Sl),(∀c∈cs,c.length<1000)->acc.length+cs.length<1000000->
  ∃x',iV 4 (jS rc) (cs.map tupI) [cK ps,C,.own (acc.map tupI),cJ k,x]=some (.next [cK ps,C,.own ((acc++cs.map (p:: ·)).map tupI),cJ k,x'])
 |[],acc,x,_,_=>⟨x,by simp[iV]⟩
 |c::cs,acc,x,hc,ha=>by
  simp only[ay]at ha;have hx:gM (tupI ps) (.int k)=some (.int p):=by
   show mq (ps.map D.int) k=_;have:mq (ps.map D.int) k=(mq ps k).map D.int:=by
    unfold mq Ac;simp only[ae];split
    ·split
     ·simp
     ·rfl
    ·split
     ·simp
     ·rfl
   rw[this,hp];rfl
  have e1:du mF (eT (aO (du gM (dk 0) (dk 3)) aY)) (dk 4) [cK ps,C,.own (acc.map tupI),cJ k,cK c]=some (tupI (p::c)):=by
   have e0:eT (aO (du gM (dk 0) (dk 3)) aY) [cK ps,C,.own (acc.map tupI),cJ k,cK c]=some (tupI [p]):=by
    have:du gM (dk 0) (dk 3) [cK ps,C,.own (acc.map tupI),cJ k,cK c]=some (.int p):=hx;unfold eT aO;rw[this];rfl
   have:mF (tupI [p]) (tupI c)=some (tupI ([p]++c)):=by
    have h1:=hc c af;have:1+c.length<=1000000:=by omega
    simp[mF,tupI,this]
   exact(dO e0 rfl).trans this
  have e2:qF rc [cK ps,C,.own (acc.map tupI),cJ k,cK c]=some (.next [cK ps,C,.own ((acc++[p::c]).map tupI),cJ k,cK c]):=by
   unfold qF zt;have hl:(acc.map tupI).length<1000000:=by rw[ae];omega
   simp only[aK,aM];rw[e1];simp only[ao,if_pos hl,List.set_cons_succ,List.set_cons_zero,List.map_append,aF,List.map_nil]
  obtain⟨x',ih⟩:=Ij (rc:=rc) (C:=C) hp cs (acc++[p::c]) (cK c) (λd hd=>hc d (ai _ hd)) (by rw[aQ];simp;omega)
  refine⟨x',?_⟩;simp only[aF,iV,List.set_cons_succ,List.set_cons_zero];unfold jS at ih ⊢;rw[e2];simp only;rw[ih];simp
theorem Er (ps:cn) (k:Nat) (h:k<ps.length):cutD (ps.map D.int) (some ((k:Int)+1)) none=(ps.drop (k+1)).map D.int:=by
 unfold cutD;have e1:HT.ip (ps.map D.int).length 0 (some ((k:Int)+1))=k+1:=by
  unfold HT.ip;simp only[ae];split<;>omega
 have e2:HT.ip (ps.map D.int).length (ps.map D.int).length none=ps.length:=by simp[HT.ip]
 rw[e1,e2,List.take_of_length_le (by simp),List.map_drop]
theorem mj:∀(n:Nat) (lo:Int),dg lo n=(List.range n).map λ(k:Nat)=>lo+(k:Int)
 |0,_=>rfl
 |n+1,lo=>by
  rw[List.range_succ_eq_map,aF,aV];show lo::dg (lo+1) n=_;rw[mj n (lo+1)];simp only[Int.ofNat_zero,Int.add_zero,List.cons.injEq];refine⟨by simp,bR λk _=>?_⟩
  simp only[Function.comp];omega
theorem Es {rc:cc}{ps:cn}{c:Nat}(hz:ps.length<=12):∀(ks:List Nat) (acc:ck) (x3 x4:Sl),
  (∀k∈ks,k<ps.length/\rc [tupI (ps.drop (k+1)),.int (c:Int)]=some (.tup ((comb c (ps.drop (k+1))).map tupI)))->acc.length+ks.length*4096<1000000->
  ∃x3' x4',iV 3 (jT rc) (ks.map λ(k:Nat)=>D.int (k:Int)) [cK ps,cJ ((c:Int)+1),.own (acc.map tupI),x3,x4]=
   some (.next [cK ps,cJ ((c:Int)+1),.own ((acc++ks.flatMap (yo c ps)).map tupI),x3',x4'])
 |[],acc,x3,x4,_,_=>⟨x3,x4,by simp[iV]⟩
 |k::ks,acc,x3,x4,h,ha=>by
  obtain⟨hk,hr⟩:=h k af;simp only[ay]at ha;have hp:ps[k]? =some ps[k]:=ah hk;have YK:mq ps (k:Int)=some ps[k]:=by rw[LW.Ia ps k hk,hp]
  have hm:(comb c (ps.drop (k+1))).length<=4096:=by
   refine aD (rM c _) ?_;have:(ps.drop (k+1)).length<=12:=by rw[List.length_drop];omega
   exact aD (Nat.pow_le_pow_right (by omega) this) (by decide)
  have et:yo c ps k=(comb c (ps.drop (k+1))).map (ps[k]:: ·):=by unfold yo;rw[hp]
  obtain⟨x',e⟩:=Ij (rc:=rc) (C:=cJ ((c:Int)+1)) YK (comb c (ps.drop (k+1))) acc x4 (λd hd=>by
   have h1:=(gr c _ d hd).1;have h2:c<=(ps.drop (k+1)).length:=by
    rcases Nat.lt_or_ge (ps.drop (k+1)).length c with z|z
    ·rw[ky c _ z]at hd;cases hd
    ·exact z
   rw[List.length_drop]at h2;omega) (by omega)
  have e7:qG rc [cK ps,cJ ((c:Int)+1),.own (acc.map tupI),cJ (k:Int),x4]=some (.next [cK ps,cJ ((c:Int)+1),.own ((acc++yo c ps k).map tupI),cJ (k:Int),x']):=by
   have i1:DJ (dk 0) (zu (du jt (dk 3) (dC (.int 1)))) OB [cK ps,cJ ((c:Int)+1),.own (acc.map tupI),cJ (k:Int),x4]=some (tupI (ps.drop (k+1))):=by
    show some (D.tup (cutD (ps.map D.int) (some ((k:Int)+1)) none))=_;rw[Er ps k hk];rfl
   have i2:du sI (dk 1) (dC (.int 1)) [cK ps,cJ ((c:Int)+1),.own (acc.map tupI),cJ (k:Int),x4]=some (.int (c:Int)):=by
    show some (D.int ((c:Int)+1-1))=_
    congr 2;omega
   have i3:iT (cN rc (aO (DJ (dk 0) (zu (du jt (dk 3) (dC (.int 1)))) OB) (aO (du sI (dk 1) (dC (.int 1))) aY))) [cK ps,cJ ((c:Int)+1),.own (acc.map tupI),cJ (k:Int),x4]=some ((comb c (ps.drop (k+1))).map tupI):=by
    unfold iT;rw[dE (sk i1 (lE i2)),hr]
   unfold qG oT;rw[i3];show iV 4 (jS rc) _ _=_;rw[e,et]
  obtain⟨y3,y4,ih⟩:=Es (rc:=rc) hz ks (acc++yo c ps k) (cJ (k:Int)) x' (λj hj=>h j (ai _ hj)) (by rw[aQ,et,ae];omega)
  refine⟨y3,y4,?_⟩;simp only[aF,iV,List.set_cons_succ,List.set_cons_zero];unfold jT at ih ⊢;rw[e7];simp only;rw[ih];simp[List.append_assoc]
theorem AL:∀(n c:Nat) (ps:cn),c<n->ps.length<=12->fM n [tupI ps,.int (c:Int)]=some (.tup ((sO c ps).map tupI))
 |0,c,ps,h,_=>by omega
 |n+1,c,ps,h,hz=>by
  unfold fM;refine LW.eR rfl ?_;show mR (fM n) [cK ps,cJ (c:Int),.no,.no,.no]=_;have q2:qB (du XS (dk 1) (cN iB (aO (dk 0) aY))) [cK ps,cJ (c:Int),.no,.no,.no]=some (decide (ps.length<=c)):=by
   have:cN iB (aO (dk 0) aY) [cK ps,cJ (c:Int),.no,.no,.no]=some (.int (ps.length:Int)):=by
    show some (D.int ((ps.map D.int).length:Int))=_;rw[ae]
   refine gc ((dO rfl this).trans ?_);show some (D.bl (decide ((ps.length:Int)<=(c:Int))))=_
   congr 2
   exact decide_eq_decide.mpr (by omega)
  unfold mR;by_cases h1:ps.length<=c
  ·have e2:lC (fM n) [cK ps,cJ (c:Int),.no,.no,.no]=some (.ret (.tup [tupI ps])):=by
    unfold lC;rw[ui (by rw[q2,aR h1])]
    rfl
   rw[iN e2];unfold sO;rw[if_pos h1];rfl
  ·have e2:lC (fM n) [cK ps,cJ (c:Int),.no,.no,.no]=some (.next [cK ps,cJ (c:Int),.no,.no,.no]):=by
    unfold lC;rw[nz (by rw[q2,aH h1])]
    rfl
   rw[LW.cU e2,Ed (by omega)]
   cases c with
   |zero=>cases ps<;>rfl
   |succ c=>
    have e4:qE (fM n) [cK ps,cJ ((c+1:Nat):Int),.no,.no,.no]=some (.next [cK ps,cJ ((c:Int)+1),.no,.no,.no]):=by
     unfold qE;have:qB (du lN (dk 1) (dC (.int 0))) [cK ps,cJ ((c+1:Nat):Int),.no,.no,.no]=some false:=by
      refine gc ((dO rfl rfl).trans ?_);show lN (.int ((c+1:Nat):Int)) (.int 0)=_;have:jf (.int ((c+1:Nat):Int)) (.int 0)=false:=by
       simp[jf];omega
      unfold lN;rw[this];rfl
     rw[nz this];rfl
    have e5:v7 (fM n) [cK ps,cJ ((c:Int)+1),.no,.no,.no]=some (.next [cK ps,cJ ((c:Int)+1),.own (([]:ck).map tupI),.no,.no]):=rfl;rw[LW.cU e4,LW.cU e5];obtain⟨x3,x4,e⟩:=Es (rc:=fM n) (ps:=ps) (c:=c) hz (List.range (ps.length-c)) [] .no .no (λk hk=>by
     have:=List.mem_range.mp hk;refine⟨by omega,?_⟩
     rw[AL n c (ps.drop (k+1)) (by omega) (by rw[List.length_drop];omega),Ed (by rw[List.length_drop];omega)]) (by simp;omega)
    have it:uQ (aO (du jt (du sI (cN iB (aO (dk 0) aY)) (dk 1)) (dC (.int 1))) aY) [cK ps,cJ ((c:Int)+1),.own (([]:ck).map tupI),.no,.no]=some ((List.range (ps.length-c)).map λ(k:Nat)=>D.int (k:Int)):=by
     have:aO (du jt (du sI (cN iB (aO (dk 0) aY)) (dk 1)) (dC (.int 1))) aY [cK ps,cJ ((c:Int)+1),.own (([]:ck).map tupI),.no,.no]=some [.int ((ps.length:Int)-((c:Int)+1)+1)]:=by
      show some [D.int (((ps.map D.int).length:Int)-((c:Int)+1)+1)]=_;rw[ae]
     unfold uQ;rw[this];show(if _ then some ((dg 0 ((ps.length:Int)-((c:Int)+1)+1).toNat).map D.int)else none)=_
     rw[if_pos ⟨by omega,by omega⟩,show((ps.length:Int)-((c:Int)+1)+1).toNat=ps.length-c by omega,mj,aV]
     congr 1
     refine bR λk _=>?_
     simp
    have e8:qH (fM n) [cK ps,cJ ((c:Int)+1),.own (([]:ck).map tupI),.no,.no]=some (.next [cK ps,cJ ((c:Int)+1),.own ((comb (c+1) ps).map tupI),x3,x4]):=by
     unfold qH oT;rw[it];show iV 3 (jT (fM n)) _ _=_;rw[e,List.nil_append,AG]
    rw[LW.cU e8];rfl
end PC
namespace PW
open PySem DL
def W3:D->dP:=λd=>GP.MG d
end PW
namespace PW
open PySem DL GP PC
open LW (dX eY fT)
open L2 (mq Ac)
def yw:bY:=
  (eM (Tq (qB (du lN (dk 0) (dC (.int 0)))) (dC (.int 1)) (dC (.int 0))))
def so:bY:=
  yw
def gu:cc:=iA 1 1 so
def sq:bY:=
  (eM (cN my (aO (dL (dU (iT (cO 0)) 2 (qB (du BE (dk 2) (dk 1))) (cO 2))) aY)))
def ml:bY:=
  sq
def jD:cc:=iA 3 2 ml
def pV:bY:=
  (eM (cN DN (aO (dL (dU (iS (cO 1)) 2 jd (Lj (du Ai (dk 2) (dk 0)) (cN hO (aO (cO 0) (aO (cO 2) aY)))))) aY)))
def jU:bY:=
  pV
def jk:cc:=iA 3 2 jU
def yx:bY:=
  (eM (cN FN (aO (dL (dU (iL (dk 1)) 2 jd (cN fy (aO (cO 0) (aO (cO 2) aY))))) aY)))
def rP:bY:=
  yx
def qL:cc:=iA 3 2 rP
def uj:bY:=
  (wU 1 (cO 3))
def gf:bY:=
  uj
def nA:bY:=
  (oT 3 (iT (cO 2)) gf)
def fA:bY:=
  nA
def jV:bY:=
  (oT 2 (iT (cO 0)) fA)
def nB:bY:=
  (eM (cN my (aO (dL (rD 1)) aY)))
def gg:bY:=
  (eI jV
  nB)
def kA:bY:=
  (wR 1 gg)
def gm:cc:=iA 4 1 kA
def qM:bY:=
  (j9 3 (dU (iS (cO 0)) 5 (qo (qB (cN fy (aO (cO 2) (aO (cO 5) aY))))) (cN jD (aO (cO 5) (aO (cO 1) aY)))))
def mT:bY:=
  (j9 4 (ua (dk 3)))
def jW:bY:=
  (eM (cN my (aO (dL (dU (iL (dk 4)) 5 (qo (qB (cN jk (aO (cO 5) (aO (cO 4) aY))))) (cO 5))) aY)))
def kZ:bY:=
  (eI qM
  (r6 3 (eI mT
  (r6 4 jW))))
def fD:cc:=iA 6 3 kZ
def kB (G:D):bY:=
  (j8 3 (cN (fM 5) (aO (cN gm (aO (cO 1) aY)) (aO (cN eB (aO (oj G 0) (aO (cO 2) aY))) aY))))
def vf (G:D):bY:=
  (eM (cO 3))
def kC (G:D):bY:=
  (oR (qB (du lN (dk 2) (dC (.int 0)))) (vf G) jH)
def oE (G:D):bY:=
  (j9 4 (dU (iT (cO 1)) 5 (qB (du RG (cN iB (aO (dk 5) aY)) (cN eB (aO (oj G 0) (aO (dC (.int 0)) aY))))) (cO 5)))
def kD (G:D):bY:=
  (eM (cN my (aO (dL (dU (iT (cO 3)) 6 (qB (cN qL (aO (cO 6) (aO (cO 4) aY)))) (cO 6))) aY)))
def g0 (G:D):bY:=
  (eI (kB G)
  (eI (kC G)
  (eI (oE G)
  (r6 4 (kD G)))))
def gH:cc:=pP 7 3 g0
def pq (G:D) (dv:cc):bY:=
  (j8 3 (cN xP (aO (dL (dU (iT (cO 1)) 6 jd (cN iB (aO (dk 6) aY)))) aY)))
def Cg (G:D) (dv:cc):bY:=
  (eM (dC (.int 0)))
def jX (G:D) (dv:cc):bY:=
  (oR (pY (qB (du lN (dk 2) (dC (.int 0)))) (qB (du RG (dk 3) (cN eB (aO (oj G 0) (aO (dC (.int 0)) aY)))))) (Cg G dv) jH)
def pA (G:D) (dv:cc):bY:=
  (j8 5 (cN qI (aO (eT aY) (aO (eT aY) (aO (cO 2) (aO (cO 4) aY))))))
def Ci (G:D) (dv:cc):bY:=
  (eM (cO 2))
def uk (G:D) (dv:cc):bY:=
  (oR (qB (du lN (eO 0 G dv (aO (cN fD (aO (cO 1) (aO (du gM (dk 5) (dC (.int 0))) (aO (du gM (dk 5) (dC (.int 1))) aY)))) (aO (cN gu (aO (cO 2) aY)) aY))) (dk 2))) (Ci G dv) jH)
def fU (G:D) (dv:cc):bY:=
  (eI (pA G dv)
  (uk G dv))
def pB (G:D) (dv:cc):bY:=
  (oT 4 (iT (eO 0 G gH (aO (cO 1) (aO (cO 2) aY)))) (fU G dv))
def um (G:D) (dv:cc):bY:=
  (eM (cN gu (aO (cO 2) aY)))
def jE (G:D) (dv:cc):bY:=
  (eI (pq G dv)
  (eI (jX G dv)
  (eI (pB G dv)
  (um G dv))))
def zH (G:D) (dW:cc):bY:=
  (eM (dC (.int 1)))
def lb (G:D) (dW:cc):bY:=
  (oR (qB (du lN (cN iB (aO (dk 1) aY)) (dC (.int 0)))) (zH G dW) jH)
def zI (G:D) (dW:cc):bY:=
  (eM (dC (.int 0)))
def jl (G:D) (dW:cc):bY:=
  (oR (qB (du BD (eT aY) (dk 1))) (zI G dW) jH)
def nO (G:D) (dW:cc):bY:=
  (ji (W3 G) 0 (eT (aO (cO 1) (aO (cO 2) aY))) (eO 0 G dW (aO (cO 1) (aO (cO 2) aY))))
def nQ (G:D) (dW:cc):bY:=
  (kW 0 [] (eT (aO (cO 1) (aO (cO 2) aY))) (nO G dW))
def sr (G:D) (dW:cc):bY:=
  (eM (jL (W3 G) 0 (eT (aO (cO 1) (aO (cO 2) aY)))))
def iY (G:D) (dW:cc):bY:=
  (eI (lb G dW)
  (eI (jl G dW)
  (eI (nQ G dW)
  (sr G dW))))
mutual
noncomputable def mU:Nat->cc
 |0=>λ_=>none
 |n+1=>pP 7 3 (λG=>jE G (gP n))
noncomputable def gP:Nat->cc
 |0=>λ_=>none
 |n+1=>pP 3 3 (λG=>iY G (mU n))
end
def su (G:D):bY:=
  (eM (eO 0 G (gP 24) (aO (cN fD (aO (du gM (du gM (oj G 0) (dC (.int 0))) (dC (.int 1))) (aO (cO 1) (aO (cO 2) aY)))) (aO (cO 3) aY))))
def jY (G:D):bY:=
  (su G)
def fI:cc:=pP 4 4 jY
def pW:bY:=
  (eM (tX fI (cO 0) (aO (cO 1) (aO (cO 2) (aO (cO 3) aY)))))
def jZ:bY:=
  pW
def dR:cc:=iA 4 4 jZ
def yy:bY:=
  (eM (cN dR (aO (cO 0) (aO (eT aY) (aO (eT aY) (aO (du gM (dk 0) (dC (.int 1))) aY))))))
def rQ:bY:=
  yy
def lF:cc:=iA 1 1 rQ
end PW
namespace PC
open PySem DL GP
open L2 (mq Ac)
theorem hU (h:f (δ.set j (.dat d))=some (.next δ')):iV j f (d::ds) δ=iV j f ds δ':=by simp only[iV,h]
theorem yz (h:f (δ.set j (.dat d))=some (.ret r)):iV j f (d::ds) δ=some (.ret r):=by simp only[iV,h]
theorem nC (h:i δ=some ds) (h2:iV j f ds δ=r):oT j i f δ=r:=by
 unfold oT;rw[h];exact h2
theorem g7 {α:Type}{j:Nat}{t:cb}{f:bZ}{δ:fE}{φ ψ:α->D}{p:α->Bool}:∀(l:List α),(∀a∈l,t (δ.set j (.dat (φ a)))=some (p a))->(∀a∈l,p a=true->f (δ.set j (.dat (φ a)))=some (ψ a))->lq j t f δ (l.map φ)=some ((l.filter p).map ψ)
 |[],_,_=>rfl
 |a::r,h1,h2=>by
  have ih:=g7 r (λb hb=>h1 b (ai _ hb)) λb hb=>h2 b (ai _ hb)
  show lq j t f δ (φ a::r.map φ)=_;unfold lq;rw[h1 a af,br];cases hp:p a with
  |true=>
   simp only[if_true];rw[h2 a af hp,ih];rfl
  |false=>simpa using ih
theorem ij (h:i δ=some ds) (hl:ds.length<1000000) (h2:lq j t f δ ds=r):dU i j t f δ=r:=by
 unfold dU;rw[h];simp only[ao,if_pos hl];exact h2
theorem qN (h:f δ=some ds):j9 i f δ=some (.next (δ.set i (.own ds))):=by
 unfold j9;rw[h];rfl
theorem qO (h:eh x<=30):Ai x x=some (.bl false):=by
 unfold Ai;rw[if_pos h,tJ];rfl
theorem Ik (h1:f δ=some false) (h2:g δ=r):Oo f g δ=r:=by
 unfold Oo;rw[h1];exact h2
theorem GR (h1:f δ=some true) (h2:g δ=r):pY f g δ=r:=by
 unfold pY;rw[h1];exact h2
theorem MI (h1:f δ=some false):pY f g δ=some false:=by
 unfold pY;rw[h1]
theorem MJ (a b:cn):Ai (tupI a) (tupI b)=some (.bl (!decide (a=b))):=by
 unfold Ai;rw[if_pos (by rw[LW.uc];omega),LW.ub]
theorem j0 (a b:Int):lN (.int a) (.int b)=some (.bl (decide (a=b))):=by
 have:lN (.int a) (.int b)=some (.bl (a==b)):=rfl;rw[this]
 congr 2
theorem MK (a:cn) (L:ck):BD (tupI a) (.tup (L.map tupI))=some (.bl (decide (a∈L))):=by
 show(if ju (L.map tupI)<=30 then some (D.bl (memD (tupI a) (L.map tupI)))else none)=_
 have:=LW.rF L;rw[if_pos (by omega),LW.u9]
end PC
namespace PW
open PySem DL GP PC
open LW (dX eY fT)
open L2 (mq Ac)
open ST (hX xZ)
theorem Il (hw:w=0\/w=1):gu [.int w]=some (.int (1-w)):=by
 refine LW.eR rfl ?_;rcases hw with rfl|rfl<;>rfl
theorem Et (hl:l.length<1000000):jD [tupI l,tupI m]=some (tupI (v3 m l)):=by
 refine LW.eR rfl ?_;show ml [cK l,cK m,.no]=_;unfold ml sq;refine gD ((mS (ds:=(v3 m l).map D.int) ?_).trans rfl);exact ij (ds:=l.map D.int) rfl (by simpa using hl) (g7 l (λi _=>gc ((dO rfl rfl).trans (D8 i m))) λi _ _=>rfl)
theorem Pf (hf:f δ=some (.bl a)) (hg:g δ=some (.bl b)):Lj f g δ=some (.bl (a&&b)):=by
 unfold Lj;rw[hf];cases a
 ·rfl
 ·simpa using hg
theorem zJ (hS:S=.tup (L.map tupI)\/S=.lst (L.map tupI)) (hn:L.length<1000000) (hl:∀o∈L,o.length<1000000):jk [tupI l,S]=some (.bl (MB l L)):=by
 refine LW.eR rfl ?_;show jU [cK l,.dat S,.no]=_;unfold jU pV MB;have it:iS (cO 1) [cK l,.dat S,.no]=some (L.map tupI):=by rcases hS with rfl|rfl<;>rfl
 refine gD ((mS (ds:=L.map λo=>D.bl ((!decide (o=l))&&jj l o)) ?_).trans (yv L _))
 exact ij it (by simpa using hn) (lD L λo ho=>Pf ((dO rfl rfl).trans (MJ o l)) ((dE rfl).trans (AK (hl o ho))))
theorem ML {c:cn}{L:ck}(hn:L.length<1000000) (hl:∀o∈L,o.length<1000000):qL [tupI c,.lst (L.map tupI)]=some (.bl (L.all λl=>f9 c l)):=by
 refine LW.eR rfl ?_;show rP [cK c,.dat (.lst (L.map tupI)),.no]=_;unfold rP yx;refine gD ((mS (ds:=L.map λo=>D.bl (f9 c o)) ?_).trans (LW.ye L _))
 exact ij (ds:=L.map tupI) rfl (by simpa using hn) (lD L λo ho=>(dE rfl).trans (sR (hl o ho)))
theorem yA {α:Type} [BEq α] [LawfulBEq α]:∀(n:Nat) (l:List α),l.length<=n->l.eraseDups.length<=l.length
 |_,[],_=>by simp
 |0,_::_,h=>by simp at h
 |n+1,a::l,h=>by
  rw[List.eraseDups_cons,ay,ay];have h1:=aW (λb=> !b==a) l
  have h2:=yA n (l.filter λb=> !b==a) (aD h1 (by simpa using h))
  omega
theorem MM (hS:S=.tup (L.map tupI)\/S=.lst (L.map tupI)) (hn:L.length<=18) (hl:∀o∈L,o.length<1000000):fD [S,tupI m,tupI y]=some (.tup ((gO L m y).map tupI)):=by
 refine LW.eR rfl ?_;show kZ [.dat S,cK m,cK y,.no,.no,.no]=_;have it:iS (cO 0) [.dat S,cK m,cK y,.no,.no,.no]=some (L.map tupI):=by rcases hS with rfl|rfl<;>rfl
 have k1:dU (iS (cO 0)) 5 (qo (qB (cN fy (aO (cO 2) (aO (cO 5) aY))))) (cN jD (aO (cO 5) (aO (cO 1) aY))) [.dat S,cK m,cK y,.no,.no,.no]=some ((fP L m y).map tupI):=by
  unfold fP;rw[aV];exact ij it (by rw[ae];omega) (g7 L (λl iq=>wW (gc ((dE rfl).trans (sR (hl l iq))))) λl iq _=>(dE rfl).trans (Et (hl l iq)))
 have e1:qM [.dat S,cK m,cK y,.no,.no,.no]=some (.next [.dat S,cK m,cK y,.own ((fP L m y).map tupI),.no,.no]):=qN k1;have Tj:(fP L m y).length<=18:=by unfold fP;rw[ae];exact aD (aW _ _) hn
 have hnl:∀o∈fP L m y,o.length<1000000:=λo ho=>by
  obtain⟨l,iq,_,rfl⟩:=gb.mp ho;exact Nat.lt_of_le_of_lt (aW _ _) (hl l iq)
 have hul:∀o∈fZ (fP L m y).eraseDups,o.length<1000000:=λo ho=>hnl o (Ig.mp ho)
 have hun:(fZ (fP L m y).eraseDups).length<1000000:=by
  rw[(eE _).length_eq];exact Nat.lt_of_le_of_lt (yA _ _ (au _)) (by omega)
 have k2:ua (dk 3) [.dat S,cK m,cK y,.dat (.lst ((fP L m y).map tupI)),.no,.no]=some ((fZ (fP L m y).eraseDups).map tupI):=by
  show(if((fP L m y).map tupI).length<=18 then(mE ((fP L m y).map tupI)).map _ else none)=_
  rw[if_pos (by rw[ae];exact Tj),xx];rfl
 have e2:mT [.dat S,cK m,cK y,.dat (.lst ((fP L m y).map tupI)),.no,.no]=some (.next [.dat S,cK m,cK y,.dat (.lst ((fP L m y).map tupI)),.own ((fZ (fP L m y).eraseDups).map tupI),.no]):=qN k2;unfold kZ;rw[LW.cU e1];show(eI mT (r6 4 jW)) [.dat S,cK m,cK y,.dat (.lst ((fP L m y).map tupI)),.no,.no]=_;rw[LW.cU e2];show jW [.dat S,cK m,cK y,.dat (.lst ((fP L m y).map tupI)),.dat (.lst ((fZ (fP L m y).eraseDups).map tupI)),.no]=_;unfold jW;refine gD ((mS (ds:=(gO L m y).map tupI) ?_).trans rfl);unfold gO Pd;exact ij (ds:=(fZ (fP L m y).eraseDups).map tupI) rfl (by rw[ae];exact hun) (g7 _ (λl iq=>wW (gc ((dE rfl).trans (zJ (.inr rfl) hun hul)))) λl _ _=>rfl)
def wx (kvs:List (Int×Int)) (L:ck):List (Int×Int):=L.foldl (λk l=>l.foldl ow k) kvs
def eF (L:ck):cn:=(fZ (hX (wx [] L))).map λns=>ns.getD 1 0
theorem MN (kvs:List (Int×Int)) (p:Int):(ow kvs p).map (·.1)=if p∈kvs.map (·.1)then kvs.map (·.1)else kvs.map (·.1)++[p]:=by
 have ha:(kvs.any λkv=>decide (kv.1=p))=decide (p∈kvs.map (·.1)):=by
  rw[Bool.eq_iff_iff];simp[bN]
 unfold ow;rw[ha];by_cases h:p∈kvs.map (·.1)
 ·rw[if_pos (aR h),if_pos h,aV];refine bR λkv _=>?_
  simp only[Function.comp_apply];split<;>rfl
 ·rw[if_neg (by rw[aH h];simp),if_neg h,List.map_append];rfl
theorem Im (kvs:List (Int×Int)) (p:Int):(ow kvs p).length<=kvs.length+1:=by
 unfold ow;split
 ·rw[ae];omega
 ·simp
theorem AM:∀(l:cn) (kvs:List (Int×Int)),(kvs.map (·.1)).Nodup->((l.foldl ow kvs).map (·.1)).Nodup/\∀p,p∈(l.foldl ow kvs).map (·.1)↔p∈kvs.map (·.1)\/p∈l
 |[],kvs,h=>⟨h,λp=>by simp⟩
 |q::l,kvs,h=>by
  have e:=MN kvs q;have hn:((ow kvs q).map (·.1)).Nodup:=by
   rw[e];split
   ·exact h
   ·rename_i hq;rw[List.nodup_append];exact⟨h,by simp,λa ha b hb=>by simp at hb;subst hb;intro z;subst z;exact hq ha⟩
  obtain⟨h1,h2⟩:=AM l (ow kvs q) hn;refine⟨h1,λp=>(h2 p).trans ?_⟩
  rw[e];by_cases hq:q∈kvs.map (·.1)
  ·rw[if_pos hq,List.mem_cons];constructor
   ·rintro(z|z)
    ·exact .inl z
    ·exact .inr (.inr z)
   ·rintro(z|rfl|z)
    ·exact .inl z
    ·exact .inl hq
    ·exact .inr z
  ·rw[if_neg hq];simp only[List.mem_append,List.mem_cons,bH,or_false];constructor
   ·rintro((z|z)|z)
    ·exact .inl z
    ·exact .inr (.inl z)
    ·exact .inr (.inr z)
   ·rintro(z|z|z)
    ·exact .inl (.inl z)
    ·exact .inl (.inr z)
    ·exact .inr z
theorem yB:∀(L:ck) (kvs:List (Int×Int)),(kvs.map (·.1)).Nodup->((wx kvs L).map (·.1)).Nodup/\∀p,p∈(wx kvs L).map (·.1)↔p∈kvs.map (·.1)\/∃l∈L,p∈l
 |[],kvs,h=>⟨h,λp=>by simp[wx]⟩
 |l::L,kvs,h=>by
  obtain⟨h1,h2⟩:=AM l kvs h;obtain⟨h3,h4⟩:=yB L (l.foldl ow kvs) h1;refine⟨h3,λp=>(h4 p).trans ?_⟩
  rw[h2];constructor
  ·rintro((z|z)|⟨k,hk,z⟩)
   ·exact .inl z
   ·exact .inr ⟨l,af,z⟩
   ·exact .inr ⟨k,ai _ hk,z⟩
  ·rintro(z|⟨k,hk,z⟩)
   ·exact .inl (.inl z)
   ·rcases List.mem_cons.mp hk with rfl|hk
    ·exact .inl (.inr z)
    ·exact .inr ⟨k,hk,z⟩
theorem vg (L:ck):(eF L).Perm ((wx [] L).map (·.1)):=by
 unfold eF;refine((eE _).map _).trans ?_;unfold hX;rw[aV];exact List.Perm.refl _
theorem kE (L:ck):(eF L).Nodup:=(vg L).nodup_iff.mpr (yB L [] (by simp)).1
theorem iO (L:ck) (p:Int):p∈eF L↔∃l∈L,p∈l:=by
 rw[(vg L).mem_iff,(yB L [] (by simp)).2]
 simp
theorem yC (h9:many<=9) (h:∀l∈L,∀p∈l,0<=p/\p<many):(eF L).length<=9:=by
 have r:eZ (sortI (eF L)):=LW.jC (kE L);have:=ue (many:=many) r λp hp=>by
  obtain⟨l,hl,BZ⟩:=(iO L p).mp (df.mp hp);exact h l hl p BZ
 rw[(sortI_perm _).length_eq]at this;omega
theorem Eu:∀(l:cn) (kvs:List (Int×Int)) (x3:Sl),kvs.length+l.length<=1000->(∀ks,x2≠.memo ks)->(∀ks,x3≠.memo ks)->∃y3,(∀ks,y3≠.memo ks)/\
  iV 3 gf (l.map D.int) [.dat Ls,.memo [lT kvs],x2,x3]=some (.next [.dat Ls,.memo [lT (l.foldl ow kvs)],x2,y3])
 |[],kvs,x3,_,_,h3=>⟨x3,h3,rfl⟩
 |p::l,kvs,x3,hk,h2,h3=>by
  simp only[ay]at hk;have nm:nL [.dat Ls,.no,x2,cJ p]=true:=by
   cases x2 with
   |memo ks=>exact absurd rfl (h2 ks)
   |_=>rfl
  have e:gf [.dat Ls,.memo [lT kvs],x2,cJ p]=some (.next [.dat Ls,.memo [lT (ow kvs p)],x2,cJ p]):=by
   show(B2 (lT kvs)).bind _=_;rw[B3];show(if kvs.length<1000/\nL [.dat Ls,.no,x2,cJ p]=true then _ else _)=_
   rw[if_pos ⟨by omega,nm⟩]
   rfl
  have:=Im kvs p;obtain⟨y3,hy,ih⟩:=Eu (Ls:=Ls) (x2:=x2) l (ow kvs p) (cJ p) (by omega) h2 (λks z=>by cases z)
  refine⟨y3,hy,?_⟩;rw[aF,hU (j:=3) (f:=gf) (d:=.int p) (δ:=[.dat Ls,.memo [lT kvs],x2,x3]) e,ih];rfl
theorem AN:∀(l:cn) (kvs:List (Int×Int)),(l.foldl ow kvs).length<=kvs.length+l.length
 |[],_=>by simp
 |p::l,kvs=>by
  have:=Im kvs p;have:=AN l (ow kvs p);simp only[List.foldl_cons,ay];omega
theorem Ew:∀(L:ck) (kvs:List (Int×Int)) (x2 x3:Sl),kvs.length+(L.map (·.length)).sum<=1000->(∀ks,x3≠.memo ks)->∃y2 y3,
  iV 2 fA (L.map tupI) [.dat Ls,.memo [lT kvs],x2,x3]=some (.next [.dat Ls,.memo [lT (wx kvs L)],y2,y3])
 |[],kvs,x2,x3,_,_=>⟨x2,x3,rfl⟩
 |l::L,kvs,x2,x3,hk,h3=>by
  simp only[aF,List.sum_cons]at hk;obtain⟨y3,hy,e⟩:=Eu (Ls:=Ls) (x2:=cK l) l kvs x3 (by omega) (λks z=>by cases z) h3
  have e2:fA [.dat Ls,.memo [lT kvs],cK l,x3]=some (.next [.dat Ls,.memo [lT (l.foldl ow kvs)],cK l,y3]):=by
   unfold fA nA;exact nC (ds:=l.map D.int) rfl e
  have:=AN l kvs;obtain⟨z2,z3,ih⟩:=Ew (Ls:=Ls) L (l.foldl ow kvs) (cK l) y3 (by omega) hy
  refine⟨z2,z3,?_⟩;rw[aF,hU (j:=2) (f:=fA) (d:=tupI l) (δ:=[.dat Ls,.memo [lT kvs],x2,x3]) e2,ih];rfl
theorem MO {L:ck}{many:Int}(h9:many<=9) (h:∀l∈L,∀p∈l,0<=p/\p<many) (hs:(L.map (·.length)).sum<=1000) (jg:∃l∈L,l≠[]):gm [.tup (L.map tupI)]=some (tupI (eF L)):=by
 refine LW.eR rfl ?_;show kA [.dat (.tup (L.map tupI)),.no,.no,.no]=_;obtain⟨y2,y3,e⟩:=Ew (Ls:=.tup (L.map tupI)) L [] .no .no (by simpa using hs) (λks z=>by cases z)
 have e3:jV [.dat (.tup (L.map tupI)),.memo [lT []],.no,.no]=some (.next [.dat (.tup (L.map tupI)),.memo [lT (wx [] L)],y2,y3]):=by
  unfold jV;exact nC (ds:=L.map tupI) rfl e
 have hl9:=yC h9 h;have fu:(wx [] L).length=(eF L).length:=by rw[(vg L).length_eq,ae]
 have h1:1<=(wx [] L).length:=by
  rw[fu];obtain⟨l,hl,HU⟩:=jg;cases l with
  |nil=>exact absurd rfl HU
  |cons p r=>
   have:=(iO L p).mpr ⟨_,hl,af⟩;exact List.length_pos_of_mem this
 have e4:gg [.dat (.tup (L.map tupI)),.memo [lT []],.no,.no]=some (.ret (tupI (eF L))):=by
  unfold gg;rw[LW.cU e3];unfold nB;refine gD ((mS (ds:=(eF L).map D.int) ?_).trans rfl);show(B2 (lT (wx [] L))).bind _=_;rw[B3];show(if 1<=(wx [] L).length/\(wx [] L).length<64 then _ else _)=_
  rw[if_pos ⟨h1,by omega⟩]
  unfold eF;rw[aV];rfl
 show(if noOwn [.dat (.tup (L.map tupI)),.no,.no,.no]=true/\1<4 then(gg [.dat (.tup (L.map tupI)),.memo [lT []],.no,.no]).bind (u3 1)else none)=_
 rw[if_pos ⟨rfl,by decide⟩,e4]
 rfl
end PW
namespace PW
open PySem DL GP PC
open LW (dX eY fT)
open L2 (mq Ac)
def dG (G:Gm) (f:Int):D:=iF G.many G.ls f G.b G.g
section
variable {G:Gm}{f w:Int}{m y:cn}{rc:cc}{ks:cu}
end
theorem rR (hl:ds.length+1=np) (h:fb G (startM n np 0 ds)=some (.ret d)):pP n np fb (G::ds)=some d:=by
 show(if ds.length+1=np/\0<np then _ else _)=_
 rw[if_pos ⟨hl,by omega⟩,h]
structure m7 (G:Gm):Prop where
 ok:G.Ok
 NH:G.ls.length<=18
 rise:∀l∈G.ls,eZ l
structure SL (G:Gm) (L:ck):Prop where
 s:MD G L
 lo:Pc G L
 rise:∀l∈L,eZ l
 NH:L.length<=18
 nine:∀l∈L,l.length<=9
 sum:(L.map (·.length)).sum<=1000
theorem MP {k:Nat}:∀(L:ck),(∀l∈L,l.length<=k)->(L.map (·.length)).sum<=L.length*k
 |[],_=>by simp
 |l::L,h=>by
  have:=MP L λx hx=>h x (ai _ hx)
  have:=h l af;simp only[aF,List.sum_cons,ay,Nat.add_mul,Nat.one_mul];omega
theorem m7.lo (h:m7 G):Pc G G.ls:=⟨h.ok.li,h.ok.ll⟩
theorem m7.sl (h:m7 G) (s:MD G L):SL G L:=by
 obtain⟨m,y,p,rfl⟩:=s;have r:=JU (m:=m) (y:=y) h.rise;have lo:=Ei (m:=m) (y:=y) h.lo;have n:(gO G.ls m y).length<=18:=by
  unfold gO Pd;refine aD (aW _ _) ?_;rw[(eE _).length_eq];refine aD (yA _ _ (au _)) ?_;unfold fP;rw[ae];exact aD (aW _ _) h.NH
 have nine:∀l∈gO G.ls m y,l.length<=9:=λl hl=>by
  have:=ue (r l hl) (lo.li l hl);have:=h.ok.m9;omega
 have:=MP _ nine;exact⟨⟨m,y,p,rfl⟩,lo,r,n,nine,by omega⟩
def gj (G:Gm) (L:ck) (w:Int):ck:=
 if w=0 then sO G.b.toNat (eF L)else(sO G.g.toNat (eF L)).filter λc=>(L.filter λl=>decide ((l.length:Int)<=G.b)).all λl=>f9 c l
section
variable {G:Gm}{L:ck}{f w:Int}
theorem Pg (hG:G.Ok) (sl:SL G L) (jg:∃l∈L,l≠[]) (hw:w=0\/w=1):gH [dG G f,.tup (L.map tupI),.int w]=some (.tup ((gj G L w).map tupI)):=by
 have b1:=hG.b1;have b3:=hG.b3;have g1:=hG.g1;have g3:=hG.g3;have NH:=sl.NH;refine rR rfl ?_;show g0 (dG G f) [.memo [],.dat (.tup (L.map tupI)),cJ w,.no,.no,.no,.no]=_;have hu:=yC hG.m9 sl.lo.li;have ea:∀v:Int,(v=0\/v=1)->eB [dG G f,.int v]=some (.int (((if v=0 then G.b else G.g).toNat:Nat):Int)):=λv hv=>by
  rw[show dG G f=iF G.many G.ls f G.b G.g from rfl,V4 hv]
  congr 2
  rcases hv with rfl|rfl<;>simp<;>omega
 have e1:kB (dG G f) [.memo [],.dat (.tup (L.map tupI)),cJ w,.no,.no,.no,.no]=some (.next [.memo [],.dat (.tup (L.map tupI)),cJ w,.dat (.tup ((sO (if w=0 then G.b else G.g).toNat (eF L)).map tupI)),.no,.no,.no]):=by
  have k1:cN gm (aO (cO 1) aY) [.memo [],.dat (.tup (L.map tupI)),cJ w,.no,.no,.no,.no]=some (tupI (eF L)):=(dE rfl).trans (MO hG.m9 sl.lo.li sl.sum jg);have k2:cN eB (aO (oj (dG G f) 0) (aO (cO 2) aY)) [.memo [],.dat (.tup (L.map tupI)),cJ w,.no,.no,.no,.no]=some (.int (((if w=0 then G.b else G.g).toNat:Nat):Int)):=(dE rfl).trans (ea w hw)
  unfold kB;rw[kY ((dE (sk k1 (lE k2))).trans (AL 5 _ _ (by split<;>omega) (by omega)))]
  rfl
 unfold g0;rw[LW.cU e1];have YL:∀k:Nat,(sO k (eF L)).length<1000000:=λk=>by
  have h1:=My (c:=k) (ps:=eF L);have h2:2^(eF L).length<=2^9:=Nat.pow_le_pow_right (by decide) hu
  have:(2:Nat)^9=512:=by decide
  omega
 rcases hw with rfl|rfl
 ·have e3:kC (dG G f) [.memo [],.dat (.tup (L.map tupI)),cJ 0,.dat (.tup ((sO (if(0:Int)=0 then G.b else G.g).toNat (eF L)).map tupI)),.no,.no,.no]=some (.ret (.tup ((gj G L 0).map tupI))):=rfl
  rw[iN e3]
 ·have e3:kC (dG G f) [.memo [],.dat (.tup (L.map tupI)),cJ 1,.dat (.tup ((sO (if(1:Int)=0 then G.b else G.g).toNat (eF L)).map tupI)),.no,.no,.no]=some (.next [.memo [],.dat (.tup (L.map tupI)),cJ 1,.dat (.tup ((sO (if(1:Int)=0 then G.b else G.g).toNat (eF L)).map tupI)),.no,.no,.no]):=rfl
  rw[LW.cU e3];have k4:dU (iT (cO 1)) 5 (qB (du RG (cN iB (aO (dk 5) aY)) (cN eB (aO (oj (dG G f) 0) (aO (dC (.int 0)) aY))))) (cO 5) [.memo [],.dat (.tup (L.map tupI)),cJ 1,.dat (.tup ((sO (if(1:Int)=0 then G.b else G.g).toNat (eF L)).map tupI)),.no,.no,.no]=some ((L.filter λl=>decide ((l.length:Int)<=G.b)).map tupI):=by
   refine ij (ds:=L.map tupI) rfl (by rw[ae];omega) (g7 L (λl _=>?_) λl _ _=>rfl)
   have kl:cN iB (aO (dk 5) aY) [.memo [],.dat (.tup (L.map tupI)),cJ 1,.dat (.tup ((sO (if(1:Int)=0 then G.b else G.g).toNat (eF L)).map tupI)),.no,cK l,.no]=some (.int (l.length:Int)):=by
    show some (D.int ((l.map D.int).length:Int))=_;rw[ae]
   have ka:cN eB (aO (oj (dG G f) 0) (aO (dC (.int 0)) aY)) [.memo [],.dat (.tup (L.map tupI)),cJ 1,.dat (.tup ((sO (if(1:Int)=0 then G.b else G.g).toNat (eF L)).map tupI)),.no,cK l,.no]=some (.int G.b):=by
    refine(dE rfl).trans ((ea 0 (.inl rfl)).trans ?_)
    congr 2
    simp;omega
   exact gc ((dO (o:=RG) kl ka).trans rfl)
  have e4:oE (dG G f) [.memo [],.dat (.tup (L.map tupI)),cJ 1,.dat (.tup ((sO (if(1:Int)=0 then G.b else G.g).toNat (eF L)).map tupI)),.no,.no,.no]=some (.next [.memo [],.dat (.tup (L.map tupI)),cJ 1,.dat (.tup ((sO (if(1:Int)=0 then G.b else G.g).toNat (eF L)).map tupI)),.own ((L.filter λl=>decide ((l.length:Int)<=G.b)).map tupI),.no,.no]):=qN k4
  rw[LW.cU e4];show kD (dG G f) [.memo [],.dat (.tup (L.map tupI)),cJ 1,.dat (.tup ((sO (if(1:Int)=0 then G.b else G.g).toNat (eF L)).map tupI)),.dat (.lst ((L.filter λl=>decide ((l.length:Int)<=G.b)).map tupI)),.no,.no]=_
  unfold kD;refine gD ((mS (ds:=(gj G L 1).map tupI) ?_).trans rfl);have hf:(L.filter λl=>decide ((l.length:Int)<=G.b)).length<1000000:=Nat.lt_of_le_of_lt (aW _ _) (by omega)
  refine ij (ds:=(sO (if(1:Int)=0 then G.b else G.g).toNat (eF L)).map tupI) rfl (by rw[ae];exact YL _) ?_
  exact g7 _ (λc _=>gc ((dE rfl).trans (ML hf λo ho=>by have:=sl.nine o (List.mem_filter.mp ho).1;omega))) λc _ _=>rfl
def jc (L:ck) (w:Int) (c:cn):ck:=if w=0 then gO L (sortI c) []else gO L [] (sortI c)
theorem JX (h:c∈gj G L w):∃k,(k=G.b.toNat\/k=G.g.toNat)/\c∈sO k (eF L):=by
 unfold gj at h;split at h
 ·exact⟨_,.inl rfl,h⟩
 ·exact⟨_,.inr rfl,(List.mem_filter.mp h).1⟩
theorem mV (hG:G.Ok) (sl:SL G L) (jg:∃l∈L,l≠[]) (h:c∈gj G L w):c.Nodup/\(∀p∈c,p∈eF L)/\c.length<=4/\c≠[]:=by
 have b1:=hG.b1;have b3:=hG.b3;have g1:=hG.g1;have g3:=hG.g3;obtain⟨k,hk,hc⟩:=JX h;obtain⟨h1,h2,h3⟩:=o7 hc;refine⟨oB hG sl.lo (iO L) (kE L) hc,h1,by omega,λz=>?_⟩
 subst z;rcases h3 with z|z
 ·simp at z;omega
 ·obtain⟨l,hl,HU⟩:=jg;cases l with
  |nil=>exact HU rfl
  |cons p r=>
   have:=z p ((iO L p).mpr ⟨_,hl,af⟩);cases this
theorem Ex (hF:m7 G) (sl:SL G L) (hc:∀p∈c,p∈eF L) (hn:c.Nodup):MD G (jc L w c):=by
 obtain⟨m,y,p,e⟩:=sl.s;have uM:∀q∈c,(0<=q/\q<G.many)/\q∉m/\q∉y:=λq hq=>by
  obtain⟨l,hl,hql⟩:=(iO L q).mp (hc q hq);refine⟨sl.lo.li l hl q hql,?_⟩;rw[e]at hl;obtain⟨k,hk,V2,rfl⟩:=gb.mp (iM.mp hl).1;obtain⟨h1,h2⟩:=fL.mp hql;exact⟨h2,V2 q h1⟩
 have rs:eZ (sortI c):=LW.jC hn;unfold jc;split
 ·refine⟨sortI (m++sortI c),y,⟨rJ p.rm rs λq hq=>(uM q (df.mp hq)).2.1,p.ry,λq hq=>?_,p.iy,λq hq=>?_⟩,?_⟩
  ·rcases List.mem_append.mp (df.mp hq)with z|z
   ·exact p.im q z
   ·exact(uM q (df.mp z)).1
  ·rcases List.mem_append.mp (df.mp hq)with z|z
   ·exact p.dj q z
   ·exact(uM q (df.mp z)).2.2
  ·rw[e];exact AI hF.rise (λq=>by rw[df,List.mem_append]) (λq=>by simp) (λq hq=>by cases hq)
 ·refine⟨m,sortI (y++sortI c),⟨p.rm,rJ p.ry rs λq hq=>(uM q (df.mp hq)).2.2,p.im,λq hq=>?_,λq hq z=>?_⟩,?_⟩
  ·rcases List.mem_append.mp (df.mp hq)with z|z
   ·exact p.iy q z
   ·exact(uM q (df.mp z)).1
  ·rcases List.mem_append.mp (df.mp z)with z|z
   ·exact p.dj q hq z
   ·exact(uM q (df.mp z)).2.1 hq
  ·rw[e];exact AI hF.rise (λq=>by simp) (λq=>by rw[df,List.mem_append]) (λq hq=>(uM q (df.mp hq)).2.1)
theorem GS (sl:SL G L) (hc:∀p∈c,p∈eF L) (jg:c≠[]):(eF (jc L w c)).length<(eF L).length:=by
 have sub:∀p∈eF (jc L w c),p∈eF L/\p∉c:=λp hp=>by
  obtain⟨l,hl,kf⟩:=(iO _ p).mp hp;unfold jc at hl;split at hl
  ·obtain⟨k,hk,_,rfl⟩:=gb.mp (iM.mp hl).1;obtain⟨h1,h2⟩:=fL.mp kf;exact⟨(iO _ p).mpr ⟨k,hk,h1⟩,λz=>h2 (df.mpr z)⟩
  ·obtain⟨k,hk,V2,rfl⟩:=gb.mp (iM.mp hl).1;obtain⟨h1,h2⟩:=fL.mp kf;exact⟨(iO _ p).mpr ⟨k,hk,h1⟩,λz=>V2 p h1 (df.mpr z)⟩
 obtain⟨q,r,rfl⟩:∃q r,c=q::r:=by
  cases c with
  |nil=>exact absurd rfl jg
  |cons q r=>exact⟨q,r,rfl⟩
 have ra:eZ (sortI (eF (jc L w (q::r)))):=LW.jC (kE _);have rb:eZ (sortI (eF L)):=LW.jC (kE _);have:=Eh ra rb (λp hp=>df.mpr (sub p (df.mp hp)).1) λz=>by
  have h1:q∈sortI (eF (jc L w (q::r))):=by rw[z];exact df.mpr (hc q af)
  exact(sub q (df.mp h1)).2 af
 rwa [(sortI_perm _).length_eq,(sortI_perm _).length_eq]at this
theorem uq (hF:m7 G) (sl:SL G L) (hc:∀p∈c,p∈eF L) (hn:c.Nodup) (hv:v=0\/v=1):(G.at (jc L w c)).gW [] [] v=if w=0 then(G.at L).gW (sortI c) [] v else(G.at L).gW [] (sortI c) v:=by
 obtain⟨p1,p2⟩:=qA hF.ok sl.lo (iO L) hc hn;unfold jc;split
 ·exact(yp hF.ok sl.lo sl.rise p1 hv).symm
 ·exact(yp hF.ok sl.lo sl.rise p2 hv).symm
end
theorem yD (h:ns≠[]):xP [.lst (ns.map D.int)]=some (.int (je ns)):=by
 show(intsOf (ns.map D.int)).bind _=_;rw[jv];cases ns with
 |nil=>exact absurd rfl h
 |cons a r=>rfl
section
variable {G:Gm}{L:ck}{f w:Int}
theorem held_eq (c:cn) (hw:w=0\/w=1):gO L (fQ [] [] w c).1 (fQ [] [] w c).2=jc L w c:=by
 rcases hw with rfl|rfl<;>rfl
theorem SI (sl:SL G L) (hw:w=0\/w=1) (hc:c.length<=4) (hv:v=0\/v=1) (hr:rc [dG G f,.tup ((jc L w c).map tupI),.int (1-w)]=some (.int v)):∃y5,
  fU (dG G f) rc [.memo [],.dat (.tup (L.map tupI)),cJ w,x3,cK c,x5,x6]=(if v=w then some (.ret (.int w))else some (.next [.memo [],.dat (.tup (L.map tupI)),cJ w,x3,cK c,y5,x6])):=by
 have NH:=sl.NH;have e4:pA (dG G f) rc [.memo [],.dat (.tup (L.map tupI)),cJ w,x3,cK c,x5,x6]=some (.next [.memo [],.dat (.tup (L.map tupI)),cJ w,x3,cK c,.dat (.tup [tupI (fQ [] [] w c).1,tupI (fQ [] [] w c).2]),x6]):=by
  unfold pA;rw[kY ((dE rfl).trans (MH (m:=[]) (y:=[]) (c:=c) (w:=w) (by simp;omega) (by simp;omega)))]
  rfl
 refine⟨.dat (.tup [tupI (fQ [] [] w c).1,tupI (fQ [] [] w c).2]),?_⟩;unfold fU;rw[LW.cU e4];have ko:cN fD (aO (cO 1) (aO (du gM (dk 5) (dC (.int 0))) (aO (du gM (dk 5) (dC (.int 1))) aY))) [.memo [],.dat (.tup (L.map tupI)),cJ w,x3,cK c,.dat (.tup [tupI (fQ [] [] w c).1,tupI (fQ [] [] w c).2]),x6]=some (.tup ((jc L w c).map tupI)):=by
  rw[<-held_eq c hw];exact(dE rfl).trans (MM (.inl rfl) NH sl.lo.ll)
 have kh:cN gu (aO (cO 2) aY) [.memo [],.dat (.tup (L.map tupI)),cJ w,x3,cK c,.dat (.tup [tupI (fQ [] [] w c).1,tupI (fQ [] [] w c).2]),x6]=some (.int (1-w)):=(dE rfl).trans (Il hw);have km:eO 0 (dG G f) rc (aO (cN fD (aO (cO 1) (aO (du gM (dk 5) (dC (.int 0))) (aO (du gM (dk 5) (dC (.int 1))) aY)))) (aO (cN gu (aO (cO 2) aY)) aY)) [.memo [],.dat (.tup (L.map tupI)),cJ w,x3,cK c,.dat (.tup [tupI (fQ [] [] w c).1,tupI (fQ [] [] w c).2]),x6]=some (.int v):=by
  show(aO _ _ _).bind _=_;rw[sk ko (lE kh)];exact hr
 have kq:=gc ((dO (o:=lN) (g:=dk 2) (y:=.int w) km rfl).trans (j0 v w));unfold uk;by_cases e:v=w
 ·rw[ui (by rw[kq,aR e]),if_pos e]
  rfl
 ·rw[nz (by rw[kq,aH e]),if_neg e]
  rfl
theorem MQ (sl:SL G L) (hw:w=0\/w=1) (val:cn->Int):∀(cs:ck) (x4 x5:Sl),(∀c∈cs,c.length<=4)->(∀c∈cs,val c=0\/val c=1)->(∀c∈cs,rc [dG G f,.tup ((jc L w c).map tupI),.int (1-w)]=some (.int (val c)))->∃y4 y5,
  iV 4 (fU (dG G f) rc) (cs.map tupI) [.memo [],.dat (.tup (L.map tupI)),cJ w,x3,x4,x5,x6]=(if(cs.any λc=>val c==w)=true then some (.ret (.int w))else some (.next [.memo [],.dat (.tup (L.map tupI)),cJ w,x3,y4,y5,x6]))
 |[],x4,x5,_,_,_=>⟨x4,x5,rfl⟩
 |c::cs,x4,x5,h4,V5,hr=>by
  obtain⟨z5,e⟩:=SI (f:=f) sl hw (h4 c af) (rc:=rc) (x3:=x3) (x5:=x5) (x6:=x6) (V5 c af) (hr c af);obtain⟨y4,y5,ih⟩:=MQ sl hw (rc:=rc) (x3:=x3) (x6:=x6) val cs (cK c) z5 (λa h=>h4 a (ai _ h)) (λa h=>V5 a (ai _ h)) (λa h=>hr a (ai _ h))
  refine⟨y4,y5,?_⟩;rw[aF,bF];by_cases hv:val c=w
  ·rw[if_pos hv]at e;rw[yz (j:=4) (f:=fU (dG G f) rc) (d:=tupI c) (δ:=[.memo [],.dat (.tup (L.map tupI)),cJ w,x3,x4,x5,x6]) e,if_pos (by simp[hv])]
  ·rw[if_neg hv]at e;rw[hU (j:=4) (f:=fU (dG G f) rc) (d:=tupI c) (δ:=[.memo [],.dat (.tup (L.map tupI)),cJ w,x3,x4,x5,x6]) e,ih];have:(val c==w)=false:=by simpa using hv
   rw[this,Bool.false_or]
theorem Ph (hF:m7 G) (sl:SL G L) (h1:L≠[]) (h2:[]∉L) (hw:w=0\/w=1):(G.at L).gW [] [] w=if((gj G L w).any λc=>(G.at (jc L w c)).gW [] [] (1-w)==w)=true then w else 1-w:=by
 have hG:=hF.ok;have jg:∃l∈L,l≠[]:=by
  cases L with
  |nil=>exact absurd rfl h1
  |cons l r=>exact⟨l,af,λz=>h2 (by rw[<-z];exact af)⟩
 have V5:=nN (w:=w) (hG.at sl.lo) (o8 (G.at L).many) hw;have key:(((gj G L w).any λc=>(G.at (jc L w c)).gW [] [] (1-w)==w)=true)↔(G.at L).gW [] [] w=w:=by
  rw[bN];rcases hw with rfl|rfl
  ·rw[Mz hG sl.lo h1 h2 (kE L) (iO L)];constructor
   ·rintro⟨c,hc,e⟩
    have co:=mV hG sl jg hc;refine⟨c,by simpa [gj]using hc,?_⟩
    have:=uq (w:=0) hF sl co.2.1 co.1 (v:=1) (.inr rfl);rw[if_pos rfl]at this;rw[<-this]
    simpa using e
   ·rintro⟨c,hc,e⟩
    have oK:c∈gj G L 0:=by simpa [gj]using hc
    have co:=mV hG sl jg oK;refine⟨c,oK,?_⟩;have:=uq (w:=0) hF sl co.2.1 co.1 (v:=1) (.inr rfl);rw[if_pos rfl,e]at this
    simpa using this
  ·rw[MA hG sl.lo h1 h2 (kE L) (iO L)];have sp:∀c,((L.filter λl=>decide ((l.length:Int)<=G.b)).all λl=>f9 c l)=true↔∀l∈L,l.length<=G.b.toNat->∃p∈l,p∈c:=λc=>by
    have b1:=hG.b1;rw[List.all_eq_true];constructor
    ·intro h l hl hb;have:=h l (List.mem_filter.mpr ⟨hl,aR (by omega)⟩)
     unfold f9 at this;rw[bN]at this;obtain⟨p,hp,hq⟩:=this;exact⟨p,hp,bJ hq⟩
    ·intro h l hl;obtain⟨WV,HU⟩:=List.mem_filter.mp hl;have hl3:=bJ HU;obtain⟨p,hp,hq⟩:=h l WV (by omega)
     unfold f9;rw[bN];exact⟨p,hp,aR hq⟩
   constructor
   ·rintro⟨c,hc,e⟩
    have co:=mV hG sl jg hc;have tj:c∈(sO G.g.toNat (eF L)).filter λc=>(L.filter λl=>decide ((l.length:Int)<=G.b)).all λl=>f9 c l:=by simpa [gj]using hc
    obtain⟨c1,c2⟩:=List.mem_filter.mp tj;refine⟨c,c1,(sp c).mp c2,?_⟩;have:=uq (w:=1) hF sl co.2.1 co.1 (v:=0) (.inl rfl);rw[if_neg (by decide)]at this
    rw[<-this]
    simpa using e
   ·rintro⟨c,c1,c2,e⟩
    have oK:c∈gj G L 1:=by
     have:c∈(sO G.g.toNat (eF L)).filter λc=>(L.filter λl=>decide ((l.length:Int)<=G.b)).all λl=>f9 c l:=List.mem_filter.mpr ⟨c1,(sp c).mpr c2⟩
     simpa [gj]using this
    have co:=mV hG sl jg oK;refine⟨c,oK,?_⟩;have:=uq (w:=1) hF sl co.2.1 co.1 (v:=0) (.inl rfl);rw[if_neg (by decide),e]at this
    simpa using this
 by_cases hk:((gj G L w).any λc=>(G.at (jc L w c)).gW [] [] (1-w)==w)=true
 ·rw[if_pos hk];exact key.mp hk
 ·rw[if_neg hk];have hnk:(G.at L).gW [] [] w≠w:=λz=>hk (key.mpr z)
  rcases hw with rfl|rfl
  ·rcases V5 with h|h
   ·exact absurd h hnk
   ·rw[h];rfl
  ·rcases V5 with h|h
   ·rw[h];rfl
   ·exact absurd h hnk
theorem GU (hF:m7 G) (sl:SL G L) (h1:L≠[]) (h2:[]∉L) (hw:w=0\/w=1) (hr:∀c∈gj G L w,rc [dG G f,.tup ((jc L w c).map tupI),.int (1-w)]=some (.int ((G.at (jc L w c)).gW [] [] (1-w)))):jE (dG G f) rc [.memo [],.dat (.tup (L.map tupI)),cJ w,.no,.no,.no,.no]=some (.ret (.int ((G.at L).gW [] [] w))):=by
 have hG:=hF.ok;have b1:=hG.b1;have NH:=sl.NH;have jg:∃l∈L,l≠[]:=by
  cases L with
  |nil=>exact absurd rfl h1
  |cons l r=>exact⟨l,af,λz=>h2 (by rw[<-z];exact af)⟩
 have e1:pq (dG G f) rc [.memo [],.dat (.tup (L.map tupI)),cJ w,.no,.no,.no,.no]=some (.next [.memo [],.dat (.tup (L.map tupI)),cJ w,cJ (je (L.map λl=>(l.length:Int))),.no,.no,.no]):=by
  have k:dU (iT (cO 1)) 6 jd (cN iB (aO (dk 6) aY)) [.memo [],.dat (.tup (L.map tupI)),cJ w,.no,.no,.no,.no]=some ((L.map λl=>(l.length:Int)).map D.int):=by
   rw[aV];refine ij (ds:=L.map tupI) rfl (by rw[ae];omega) (lD L λl _=>?_)
   show some (D.int ((l.map D.int).length:Int))=_;rw[ae];rfl
  have kl:cN xP (aO (dL (dU (iT (cO 1)) 6 jd (cN iB (aO (dk 6) aY)))) aY) [.memo [],.dat (.tup (L.map tupI)),cJ w,.no,.no,.no,.no]=some (.int (je (L.map λl=>(l.length:Int)))):=(mS k).trans (yD (by simpa using h1))
  unfold pq;rw[kY kl];rfl
 unfold jE;rw[LW.cU e1];have ka:cN eB (aO (oj (dG G f) 0) (aO (dC (.int 0)) aY)) [.memo [],.dat (.tup (L.map tupI)),cJ w,cJ (je (L.map λl=>(l.length:Int))),.no,.no,.no]=some (.int G.b):=
  (dE rfl).trans ((show eB [iF G.many G.ls f G.b G.g,.int 0]=_ from V4 (.inl rfl)).trans rfl)
 have q1:qB (du lN (dk 2) (dC (.int 0))) [.memo [],.dat (.tup (L.map tupI)),cJ w,cJ (je (L.map λl=>(l.length:Int))),.no,.no,.no]=some (decide (w=0)):=gc ((dO rfl rfl).trans (j0 w 0))
 have q2:qB (du RG (dk 3) (cN eB (aO (oj (dG G f) 0) (aO (dC (.int 0)) aY)))) [.memo [],.dat (.tup (L.map tupI)),cJ w,cJ (je (L.map λl=>(l.length:Int))),.no,.no,.no]=some (decide (je (L.map λl=>(l.length:Int))<=G.b)):=gc ((dO (o:=RG) rfl ka).trans rfl)
 obtain⟨m1,m2⟩:=tY (L.map λl=>(l.length:Int)) (by simpa using h1)
 by_cases hq:w=0/\je (L.map λl=>(l.length:Int))<=G.b
 ·obtain⟨rfl,hb⟩:=hq;have e3:jX (dG G f) rc [.memo [],.dat (.tup (L.map tupI)),cJ 0,cJ (je (L.map λl=>(l.length:Int))),.no,.no,.no]=some (.ret (.int 0)):=by
   unfold jX;rw[ui (GR (q1.trans (by simp)) (q2.trans (by rw[aR hb])))]
   rfl
  rw[iN e3];obtain⟨l,hl,e⟩:=List.mem_map.mp m1;have:(G.at L).gW [] [] 0=0:=quick (hG.at sl.lo) (o8 _) (l:=l) hl (λp _ z=>by cases z) (by show l.length<=G.b.toNat;omega)
  rw[this]
 ·have e3:jX (dG G f) rc [.memo [],.dat (.tup (L.map tupI)),cJ w,cJ (je (L.map λl=>(l.length:Int))),.no,.no,.no]=some (.next [.memo [],.dat (.tup (L.map tupI)),cJ w,cJ (je (L.map λl=>(l.length:Int))),.no,.no,.no]):=by
   unfold jX;rw[nz (by
    by_cases h0:w=0
    ·exact GR (q1.trans (by rw[aR h0])) (q2.trans (by rw[aH λz=>hq ⟨h0,z⟩]))
    ·exact MI (q1.trans (by rw[aH h0])))]
   rfl
  rw[LW.cU e3];have kt:iT (eO 0 (dG G f) gH (aO (cO 1) (aO (cO 2) aY))) [.memo [],.dat (.tup (L.map tupI)),cJ w,cJ (je (L.map λl=>(l.length:Int))),.no,.no,.no]=some ((gj G L w).map tupI):=by
   have:eO 0 (dG G f) gH (aO (cO 1) (aO (cO 2) aY)) [.memo [],.dat (.tup (L.map tupI)),cJ w,cJ (je (L.map λl=>(l.length:Int))),.no,.no,.no]=some (.tup ((gj G L w).map tupI)):=Pg (f:=f) hG sl jg hw
   unfold iT;rw[this]
  have wok:∀c∈gj G L w,(G.at (jc L w c)).gW [] [] (1-w)=0\/(G.at (jc L w c)).gW [] [] (1-w)=1:=λc hc=>by
   have co:=mV hG sl jg hc;have sn:=hF.sl (Ex (w:=w) hF sl co.2.1 co.1);exact nN (hG.at sn.lo) (o8 _) (by omega)
  obtain⟨y4,y5,e⟩:=MQ (f:=f) sl hw (rc:=rc) (x3:=cJ (je (L.map λl=>(l.length:Int)))) (x6:=.no) (λc=>(G.at (jc L w c)).gW [] [] (1-w)) (gj G L w) .no .no (λc hc=>(mV hG sl jg hc).2.2.1) wok hr
  have e7:=(show pB (dG G f) rc [.memo [],.dat (.tup (L.map tupI)),cJ w,cJ (je (L.map λl=>(l.length:Int))),.no,.no,.no]=iV 4 (fU (dG G f) rc) ((gj G L w).map tupI) [.memo [],.dat (.tup (L.map tupI)),cJ w,cJ (je (L.map λl=>(l.length:Int))),.no,.no,.no] by
   unfold pB;exact nC kt rfl).trans e
  rw[Ph hF sl h1 h2 hw];by_cases ha:((gj G L w).any λc=>(G.at (jc L w c)).gW [] [] (1-w)==w)=true
  ·rw[if_pos ha]at e7 ⊢;rw[iN e7]
  ·rw[if_neg ha]at e7 ⊢;rw[LW.cU e7];unfold um;exact gD ((dE rfl).trans (Il hw))
end
section
variable {G:Gm}{L:ck}{f w:Int}
theorem MR:(G.at []).gW [] [] w=1:=by
 have ho:(G.at []).over [] []=some 1:=rfl;unfold Gm.gW Gm.wu;rw[ho]
theorem JY (h:[]∈L):(G.at L).gW [] [] w=0:=by
 have ho:(G.at L).over [] []=some 0:=nv.mpr ⟨[],h,λp hp=>by cases hp⟩
 unfold Gm.gW Gm.wu;rw[ho]
theorem Ey (hF:m7 G) (sl:SL G L) (hw:w=0\/w=1) {rc:cc}
  (hr:L≠[]->[]∉L->rc [dG G f,.tup (L.map tupI),.int w]=some (.int ((G.at L).gW [] [] w))):
  iY (dG G f) rc [.memo [],.dat (.tup (L.map tupI)),cJ w]=some (.ret (.int ((G.at L).gW [] [] w))):=by
 have hG:=hF.ok;unfold iY;have q2:qB (du lN (cN iB (aO (dk 1) aY)) (dC (.int 0))) [.memo [],.dat (.tup (L.map tupI)),cJ w]=some (decide (((L.length:Nat):Int)=0)):=by
  have k:cN iB (aO (dk 1) aY) [.memo [],.dat (.tup (L.map tupI)),cJ w]=some (.int ((L.length:Nat):Int)):=by
   show some (D.int ((L.map tupI).length:Int))=_;rw[ae]
  exact gc ((dO (o:=lN) (g:=dC (.int 0)) (y:=.int 0) k rfl).trans (j0 _ 0))
 by_cases h1:L=[]
 ·subst h1;have e2:lb (dG G f) rc [.memo [],.dat (.tup (([]:ck).map tupI)),cJ w]=some (.ret (.int 1)):=rfl;rw[iN e2,MR]
 ·have e2:lb (dG G f) rc [.memo [],.dat (.tup (L.map tupI)),cJ w]=some (.next [.memo [],.dat (.tup (L.map tupI)),cJ w]):=by
   unfold lb;rw[nz (q2.trans (by
    rw[aH];intro z;apply h1
    exact List.eq_nil_of_length_eq_zero (by omega)))]
   rfl
  rw[LW.cU e2];have q4:qB (du BD (eT aY) (dk 1)) [.memo [],.dat (.tup (L.map tupI)),cJ w]=some (decide ([]∈L)):=gc ((dO (o:=BD) (x:=tupI []) (y:=.tup (L.map tupI)) rfl rfl).trans (MK [] L));by_cases h2:[]∈L
  ·have e4:jl (dG G f) rc [.memo [],.dat (.tup (L.map tupI)),cJ w]=some (.ret (.int 0)):=by
    unfold jl;rw[ui (q4.trans (by rw[aR h2]))]
    rfl
   rw[iN e4,JY h2]
  ·have e4:jl (dG G f) rc [.memo [],.dat (.tup (L.map tupI)),cJ w]=some (.next [.memo [],.dat (.tup (L.map tupI)),cJ w]):=by
    unfold jl;rw[nz (q4.trans (by rw[aH h2]))]
    rfl
   rw[LW.cU e4];have hM:W3 (dG G f)=MF G hG:=GK hG f;have k:∀ks,eT (aO (cO 1) (aO (cO 2) aY)) [.memo ks,.dat (.tup (L.map tupI)),cJ w]=some (uf L w):=λks=>rfl
   have Pj:=hr h1 h2;have km:eO 0 (dG G f) rc (aO (cO 1) (aO (cO 2) aY)) [.memo [],.dat (.tup (L.map tupI)),cJ w]=some (.int ((G.at L).gW [] [] w)):=Pj;have e5:nO (dG G f) rc [.memo [],.dat (.tup (L.map tupI)),cJ w]=some (.next [.memo [uf L w],.dat (.tup (L.map tupI)),cJ w]):=by
    unfold nO ji;rw[k,km,hM];exact if_pos (ME sl.s hw)
   have ko:=Cd L w;have e6:nQ (dG G f) rc [.memo [],.dat (.tup (L.map tupI)),cJ w]=some (.next [.memo [uf L w],.dat (.tup (L.map tupI)),cJ w]):=by
    unfold nQ kW;rw[k,e5];refine if_pos ⟨ko.1,ko.2,rfl,λi s hs=>?_⟩
    match i,hs with
    |0,hs=>exact .inr (.inl hs)
    |1,hs=>exact .inr (.inl hs)
    |2,hs=>exact .inr (.inl hs)
    |(i+3),hs=>cases hs
   rw[LW.cU e6];unfold sr;refine gD ?_;unfold jL;rw[k,hM];exact(if_pos ⟨ko.1,ko.2,bt.mpr rfl⟩).trans (ME sl.s hw)
theorem v9 (hF:m7 G):∀(n:Nat),(∀L w,MD G L->(w=0\/w=1)->L≠[]->[]∉L->2*(eF L).length+2<=n->mU n [dG G f,.tup (L.map tupI),.int w]=some (.int ((G.at L).gW [] [] w)))/\
  (∀L w,MD G L->(w=0\/w=1)->2*(eF L).length+3<=n->gP n [dG G f,.tup (L.map tupI),.int w]=some (.int ((G.at L).gW [] [] w)))
 |0=>⟨λ_ _ _ _ _ _ h=>by omega,λ_ _ _ _ h=>by omega⟩
 |n+1=>by
  obtain⟨ih1,ih2⟩:=v9 hF n;refine⟨λL w s hw h1 h2 hn=>?_,λL w s hw hn=>?_⟩
  ·have sl:=hF.sl s;have jg:∃l∈L,l≠[]:=by
    cases L with
    |nil=>exact absurd rfl h1
    |cons l r=>exact⟨l,af,λz=>h2 (by rw[<-z];exact af)⟩
   unfold mU;refine rR rfl ?_;show jE (dG G f) (gP n) [.memo [],.dat (.tup (L.map tupI)),cJ w,.no,.no,.no,.no]=_;refine GU hF sl h1 h2 hw λc hc=>?_
   have co:=mV hF.ok sl jg hc;have fw:=GS (w:=w) sl co.2.1 co.2.2.2;exact ih2 _ _ (Ex hF sl co.2.1 co.1) (by omega) (by omega)
  ·have sl:=hF.sl s;unfold gP;refine rR rfl ?_;show iY (dG G f) (mU n) [.memo [],.dat (.tup (L.map tupI)),cJ w]=_;exact Ey hF sl hw λh1 h2=>ih1 L w s hw h1 h2 (by omega)
theorem qP (hF:m7 G) (p:ff G.many m y) (hw:w=0\/w=1):fI [dG G f,tupI m,tupI y,.int w]=some (.int (G.gW m y w)):=by
 have hG:=hF.ok;have s:MD G (gO G.ls m y):=⟨m,y,p,rfl⟩;have sl:=hF.sl s;have hu:=yC hG.m9 sl.lo.li;refine rR rfl ?_;show jY (dG G f) [.memo [],cK m,cK y,cJ w]=_;have ko:cN fD (aO (du gM (du gM (oj (dG G f) 0) (dC (.int 0))) (dC (.int 1))) (aO (cO 1) (aO (cO 2) aY))) [.memo [],cK m,cK y,cJ w]=some (.tup ((gO G.ls m y).map tupI)):=(dE rfl).trans (MM (.inl rfl) hF.NH hG.ll);unfold jY su;refine gD ?_;show(aO _ _ _).bind _=_;rw[sk ko rfl];show gP 24 [dG G f,.tup ((gO G.ls m y).map tupI),.int w]=_;rw[(v9 (f:=f) hF 24).2 _ w s hw (by omega),<-yp hG hF.lo hF.rise p hw]
 rfl
theorem nR (hF:m7 G) (p:ff G.many m y) (hw:w=0\/w=1):dR [dG G f,tupI m,tupI y,.int w]=some (.int (G.gW m y w)):=by
 refine LW.eR rfl ?_;show jZ [.dat (dG G f),cK m,cK y,cJ w]=_;unfold jZ pW;exact gD (qP hF p hw)
theorem JZ (hF:m7 G) (hf:f=0\/f=1):lF [dG G f]=some (.int (G.gW [] [] f)):=by
 refine LW.eR rfl ?_;show rQ [.dat (dG G f)]=_;unfold rQ yy;exact gD ((dE (F:=dR) (ds:=[dG G f,tupI [],tupI [],.int f]) rfl).trans (nR hF (o8 _) hf))
end
end PW
namespace DL
open PySem
def AO (f:bX):bZ:=λδ=>(uQ f δ).bind λds=>if ds.length<64 then some (.tup ds)else none
noncomputable def ur:D->Option Nat
 |.tup l=>some l.length
 |_=>none
def lG:D->Nat->cc
 |b,_,[]=>some b
 |b,n,d::r=>(ur d).bind λm=>if m<n then lG d m r else lG b n r
def uu:D->Option D
 |.tup (d::r)=>if r.length<60 then(ur d).bind λn=>lG d n r else none
 |_=>none
def wX (f:bZ):bZ:=λδ=>(f δ).bind uu
noncomputable def AQ:cu->Option (cn)
 |[]=>some []
 |.int i::r=>(AQ r).map λl=>i::l
 |_::_=>none
def Io:D->Option (cn)
 |.tup [.int n,.tup ds]=>(AQ ds).map λl=>n::l
 |_=>none
def qQ:cu->Option (ck)
 |[]=>some []
 |d::r=>(Io d).bind λa=>(qQ r).map λl=>a::l
def jn (l:cn):D:=.tup [.int (l.headD 0),tupI l.tail]
def gx (f:bZ):bX:=λδ=>match f δ with
 |some (.lst ds)=>if ds.length<64 then(qQ ds).map λl=>(fZ l).map jn else none
 |_=>none
noncomputable def MS:List Nat->cu->fE->Option fE
 |[],[],δ=>some δ
 |i::is,d::ds,δ=>MS is ds (δ.set i (.dat d))
 |_,_,_=>none
def yE (is:List Nat) (f:bZ) (δ:fE):cu->Option (cu)
 |[]=>some []
 |.tup ds::r=>(MS is ds δ).bind λδ'=>(f δ').bind λy=>(yE is f δ r).map λys=>y::ys
 |_::_=>none
def sS (is:List Nat) (i:bX) (f:bZ):bX:=λδ=>(i δ).bind λds=>if ds.length<1000000 then yE is f δ ds else none
open Classical in
def wa (iS iG:Nat) (G:D) (g:cc) (Gc:D) (f:bZ):bZ:=λδ=>match δ[iS]?,δ[iG]? with
 |some (.memo _),some (.dat G1)=>if G1=G then(f δ).bind λd=>g [Gc,d]else none
 |_,_=>none
def wb (n np j:Nat) (fb:D->bY):cc
 |G::ds=>if ds.length+1=np/\j<np then(match fb G (startM n np j ds)with|some (.ret d)=>some d|some (.next _)=>some .eV|_=>none)else none
 |[]=>none
end DL
namespace L2
open PySem PySem.Spec PySem.W PySem.Calls PyProof.Rows
section
variable {prog:cA}{w:cB}{A:cC}{E:cf}{s:cy}
theorem Ez {Q:cw->cy->Prop}{r:cE}{a b c:Int}{t u v:Tok}{n:Nat}(hh:A.handled=none) (hr:IsRange s.heap r a b c t u v) (yF:Builtin.Range.small a b c=true)
  (hn:Builtin.Range.rangeSize a b c=n) (hlen:n<=2^24)
  (hQ:∀h' tk (acc:cw),(∀b o,s.heap.get? b=some o->h'.get? b=some o)->ItemsOf (λi v=>∃t,v=.int (a+i*c) t) acc.toArray n->Q acc {s with heap:=h',toks:=tk}):wpAny (model prog w) A (collect (.ref r)) Q E s:=by
 unfold collect;refine aa (wpAny_runValue (codeAny_builtin PySem.F.entry_proto_collect ?_));rw[bW PySem.F.plain_proto_collect _];show wpAny _ A.in1 (newList []>>=λl=>again (.builtin "list.__iadd__" ⟨[l,.ref r],[]⟩)) _ _ s
 refine aa (bQ ?_);refine aj ⟨plainId_quiet PySem.F.plain_list_iadd _,codeAny_builtin PySem.F.entry_list_iadd ?_⟩;rw[bW PySem.F.plain_list_iadd _];have hS:(s.heap.push {cls:=.type "list",data:=.seq ([]:cw).toArray}).get? s.heap.objs.size=some {cls:=.type "list",data:=.seq #[]}:=az _ rfl;show wpAny _ A.in1 (Builtin.List.listExtendWith (.ref s.heap.objs.size) (.ref r) (.ref s.heap.objs.size)) _ _ _;have key:=wpAny_extend_range (prog:=prog) (w:=w) (A:=A) (s:={s with heap:=s.heap.push {cls:=.type "list",data:=.seq ([]:cw).toArray}}) (R:=λr s'=>∃h' tk gN c',r=.ok (.ret (.ref s.heap.objs.size))/\s'={s with heap:=h',toks:=tk}/\(∀b o,b≠s.heap.objs.size->(s.heap.push {cls:=.type "list",data:=.seq ([]:cw).toArray}).get? b=some o->h'.get? b=some o)/\h'.get? s.heap.objs.size=some {cls:=.type "list",dict:=none,data:=.seq gN c',slots:=#[]}/\ItemsOf (λi v=>∃t,v=.int (a+i*c) t) gN n)
  hh (ag _ hr) yF hn hlen s.heap.objs.size (.ref s.heap.objs.size) 0 hS (λh' tk gN c' hk O0 lL=>⟨h',tk,gN,c',rfl,rfl,hk,O0,lL⟩)
 have fin:∀(h':Heap) tk gN c',(∀b o,b≠s.heap.objs.size->(s.heap.push {cls:=.type "list",data:=.seq ([]:cw).toArray}).get? b=some o->h'.get? b=some o)->h'.get? s.heap.objs.size=some {cls:=.type "list",dict:=none,data:=.seq gN c',slots:=#[]}->ItemsOf (λi v=>∃t,v=.int (a+i*c) t) gN n->Q gN.toList {s with heap:=h',toks:=tk}:=λh' tk gN c' hk O0 lL=>
  hQ h' tk gN.toList (λb o e=>hk b o (aE (aB e)) (ag _ e)) (by simpa using lL)
 refine bO key (λr s' hr=>?_) λe s' hr=>?_
 ·cases r with
  |done f=>
   obtain⟨h',tk,gN,c',e1,e2,e3,e4,e5⟩:=hr;cases e1;subst e2;exact aa (wpAny_load e4 (aj (fin h' tk gN c' e3 e4 e5)))
  |again c=>
   refine⟨hr.1,codeAny_mono hr.2 λr s' hr=>?_⟩
   obtain⟨h',tk,gN,c',e1,e2,e3,e4,e5⟩:=hr;cases e1;subst e2;exact aa (wpAny_load e4 (aj (fin h' tk gN c' e3 e4 e5)))
 ·obtain⟨h',tk,gN,c',e1,_⟩:=hr;cases e1
end
theorem wz {r:cE}{a b c:Int}{t u v:Tok}{n:Nat}(yF:Builtin.Range.small a b c=true) (hn:Builtin.Range.rangeSize a b c=n) (hlen:n<=2^24):
  Meets (Builtin.«tuple.__new__» ⟨[.type "tuple",.ref r],[]⟩)
   (λA R s=>A.handled=none/\IsRange s.heap r a b c t u v/\∀(h':Heap) (tk:Nat) (acc:Array cx),(∀b o,s.heap.get? b=some o->h'.get? b=some o)->ItemsOf (λi v=>∃t,v=.int (a+i*c) t) acc n->
    R (.ok (.ret (.ref h'.objs.size))) {s with heap:=h'.push {cls:=.type "tuple",data:=.seq acc},toks:=tk}):=
 .of_wp λprog w A R s h=>by
  obtain⟨hh,hr,h⟩:=h;have JE:=sub_tuple_self;have Qw:=init_tuple_lookup;have hmh:=madeHere_tuple;have hT:s.TypeIs (.ref r) "range":=⟨_,hr,rfl⟩;have VR:A.in1.handled=none:=hh
  wp_walk using wpAny_typeOf hT,Ez VR hr yF hn hlen
  intro h' tk acc hk lL;show wpAny _ _ (Builtin.Tuple.tupleExact acc.toArray>>=λv=>ret v) _ _ _
  unfold Builtin.Tuple.tupleExact;refine aa (bQ ?_ (show acc.toArray.size<=sizeLine by rw[lL.1];exact hlen))
  exact aj ⟨_,rfl,h h' tk acc.toArray hk lL⟩
theorem vh {prog:cA}{w:cB}{A:cC}{E:cf}{s:cy}{Q:cf}{r:cE}{a b c:Int}{t u v:Tok}{n:Nat}(hh:A.handled=none) (hr:IsRange s.heap r a b c t u v) (yF:Builtin.Range.small a b c=true)
  (hn:Builtin.Range.rangeSize a b c=n) (hlen:n<=2^24)
  (h:∀(h':Heap) (tk:Nat) (acc:Array cx),(∀b o,s.heap.get? b=some o->h'.get? b=some o)->ItemsOf (λi v=>∃t,v=.int (a+i*c) t) acc n->Q (.ref h'.objs.size) {s with heap:=h'.push {cls:=.type "tuple",data:=.seq acc},toks:=tk}):
  wpAny (model prog w) A (call (.type "tuple") [.ref r]) Q E s:=by
 refine callType_new PySem.F.called_tuple (by decide) (PySem.F.typeCall_tuple_1 _) (PySem.F.newCall_tuple_1 _) (λobj=>PySem.F.args_object_init_2 obj _) PySem.F.entry_tuple_new
  (wz yF hn hlen) ⟨hh,hr,λh' tk acc hk lL=>⟨⟨_,az _ rfl,rfl⟩,h h' tk acc hk lL⟩⟩
end L2
namespace DL
open PySem PySem.Spec PyProof.Rows L2
section
variable {X:Cx}{a:cF}{p pos:Pos}
theorem yG [Mem] (hc:X.calm=true):i8 X (.type "tuple") (λxs H Q=>∃(p:cE) (hi:Int),xs=[.ref p]/\H p=some (.Nz 0 hi)/\hi<1000000/\-1000000<hi/\∀l,H l=none->Q (.ref l) (upd H l (.tup ((dg 0 hi.toNat).map V.int)))):=by
 intro cM s σ H xs us Q I r h;obtain⟨p,hi,rfl,hp,h1,h2,q⟩:=h;obtain⟨u,rfl,rx⟩:=vals1 r;cases rx;obtain⟨t,u,v,e⟩:=I.fJ p _ hp;refine vh (n:=hi.toNat) (I.ok.hd hc) e (small_one (by omega) (by omega) (by omega) (by omega)) ?_ (by omega) λh' tk acc kp it=>?_
 ·rw[rangeSize_one];split<;>omega
 ·have hv:Vals ((dg 0 hi.toNat).map V.int) acc.toList:=se acc.toList 0 (by simpa using it.1) λj v hv=>by
   obtain⟨t,e⟩:=it.2 j v (by simpa using hv)
   exact⟨t,by rw[e];congr 1;omega⟩
  have I1:Inv X cM σ H {s with heap:=h',toks:=tk}:=I.kept (t':=tk) kp
  have I2:Inv X cM σ (upd H h'.objs.size (.tup ((dg 0 hi.toNat).map V.int))) {s with heap:=h'.push {cls:=.type "tuple",data:=.seq acc},toks:=tk}:=
   I1.laid (t':=tk) (λb o e=>ag _ e) (au _) (show ie X.prog X.w _ _ _ (.tup ((dg 0 hi.toNat).map V.int))from⟨?_,acc.toList,hv,by simpa using IsTup.new h' acc⟩)
  ·exact⟨.ref h'.objs.size,_,I2,rfl,q _ (I1.fJ.fresh (au _))⟩
  ·rw[ae,dQ];exact bg (rk (by omega))
end
theorem Pk [Mem] (hc:X.calm=true) (hg:Gl X "tuple") (hm:X.mg "tuple"=none) (Vf:Gl X "range") (BQ:X.mg "range"=none) (ha:HA X [a] f) (hs:starEach [a] X.env=[(false,eval a X.env)]:=by exact fH rfl) (he:starEach [.Call (.Name "range" p') [a] [] pos'] X.env=(false,eval (.Call (.Name "range" p') [a] [] pos') X.env)::starEach [] X.env:=by exact fH rfl) (kf:(backTo pos (starEach [] X.env)).any (·.1)=false:=by exact gh rfl):WD X (.Call (.Name "tuple" p) [.Call (.Name "range" p') [a] [] pos'] [] pos) (AO f):=⟨(uK (yG hc) hg hm gF (nh (Aj Vf BQ ha.go hs) uJ he) (by decide) (by decide) he kf).imp λσ H Q ⟨C,δ,d,x,q,k⟩=>by
  unfold AO uQ at q;split at q
  case h_2=>cases q
  rename_i j hf;split at q
  case isFalse=>cases q
  rename_i hj;simp only[ao]at q;split at q
  case isFalse=>cases q
  cases q;refine⟨C,δ,_,x,hf,λvs C' H' ev i=>?_⟩
  cases i with
  |cons i1 i2=>
   cases i2;cases i1;refine⟨j,rfl,λt ht=>⟨t,j,rfl,cY,hj.1,hj.2,λl hl=>?_⟩⟩
   have e1:=Ev.fF (o:=HO.Nz 0 j) ev.s ht;exact k _ _ _ ((ev.trans e1).trans (.new e1.s hl)) (.tup cY (.ints _))⟩
end DL
namespace L2
open PySem PySem.Spec PyProof.Rows
structure Cj (X:Cx) (scope:Scope) (x1 x2:Str) (j1 j2:Nat):Prop where
 kind:scope.kind=.function
 ok:ni X.N X.env.scope.names scope.names [x1,x2]=true
 Tx:X.N[j1]? =some x1
 RC:X.N[j2]? =some x2
 nd:X.N.Nodup
 ne:j1≠j2
abbrev SJ (K:W.Frag) (wi:TI) (j1 j2:Nat) (te:TE):TE:=Ft wi (λσ x H' k=>∃a v1 v2,x=.ref a/\kR K H' a [v1,v2]/\k ((σ.set j1 (some v1)).set j2 (some v2)) H') Ry te
section
variable {X:Cx}{x1 x2:Str}{p1 p2 pt:Pos}{kt:Nat}{scope:Scope}{j1 j2:Nat}
theorem Cj.G (hc:X.calm=true) (S:Cj X scope x1 x2 j1 j2):Hm X scope (.Tuple [.Name x1 p1,.Name x2 p2] kt pt) (λσ x H' k=>∃a v1 v2,x=.ref a/\kR X.K H' a [v1,v2]/\k ((σ.set j1 (some v1)).set j2 (some v2)) H'):=⟨S.kind,Bv S.ok,λσ hl=>by
 have h1:j1<σ.length:=by rw[hl];exact(List.getElem?_eq_some_iff.mp S.Tx).1
 have h2:j2<σ.length:=by rw[hl];exact(List.getElem?_eq_some_iff.mp S.RC).1
 have zc:∀{i v},((σ.set j1 none).set j2 none)[i]? =some (some v)->i≠j1/\i≠j2/\σ[i]? =some (some v):=λ{i v} e=>by
  by_cases h:i=j2
  ·subst h;rw[bc (by rw[List.length_set];exact h2)]at e;cases e
  rw[aG (Ne.symm h)]at e;by_cases h':i=j1
  ·subst h';rw[bc h1]at e;cases e
  ·rw[aG (Ne.symm h')]at e;exact⟨h',h,e⟩
 have lx:∀x∈[x1,x2],(relabel scope X.env).names.lookup x=some .local:=λx hx=>lookup_relabel_local (K6 S.ok hx)
 refine⟨(σ.set j1 none).set j2 none,by simp,λi y v e1 e2=>⟨(zc e2).2.2,λhm=>?_⟩,λcl C s H fp=>⟨_,Q1 (X:=ez X scope cl C s H fp) hc (Dd (gQ (i:=j1) S.nd S.Tx (.inl (lx _ (by simp))) (.inr (lx _ (by simp)))) (Dd (gQ (i:=j2) S.nd S.RC (.inl (lx _ (by simp))) (.inr (lx _ (by simp)))) NQ)) rfl rfl,λx H' k ⟨a,v1,v2,e,q,h⟩=>⟨a,[v1,v2],e,q,rfl,v1,[v2],rfl,v2,[],rfl,rfl,λi v e=>?_,?_⟩⟩⟩
 ·have:=Hl S.ok hm e1;simp at this;rcases this with rfl|rfl
  ·exact(zc e2).1 (qe S.nd e1 S.Tx)
  ·exact(zc e2).2.1 (qe S.nd e1 S.RC)
 ·rw[aG (Ne.symm (zc e).2.1),aG (Ne.symm (zc e).1)];exact e
 ·rw[List.set_comm _ _ (Ne.symm S.ne),List.set_set,List.set_set];exact h⟩
end
end L2
namespace DL
open PySem PySem.Spec PyProof.Rows L2
section
variable [Mem]
theorem SK {K:W.Frag}{i:bX}{j1 j2:Nat}{f:bZ}:∀σ H Q,tF (sS [j1,j2] i f) σ H Q->SJ K (XY i) j1 j2 (tD f) σ H Q:=λσ H Q ⟨C,δ,ys,x,q,k⟩=>by
 unfold sS at q;cases hf:i δ with
 |none=>rw[hf]at q;cases q
 |some ds=>
  rw[hf]at q;simp only[ao]at q;split at q
  case isFalse=>cases q
  rename_i hz;refine⟨C,δ,ds,x,hf,λJ C1 H1 ev wk A hA=>?_⟩
  refine⟨λn m acc H'=>∃C' done rest,m=ds.length-n/\n<=ds.length/\Ev C1 H1 C' H'/\C' A=none/\H' A=some (.lst acc)/\IsL C' acc done/\done.length<=n/\yE [j1,j2] f δ (ds.drop n)=some rest/\ys=done++rest,
   ⟨ds.length,C1,[],ys,by simp,bK _,.fF ev.s hA,ev.s.free hA,cY,.nil,au _,by simpa using q,rfl⟩,?_⟩
  rintro n m acc H2 ⟨C2,done,rest,rfl,hn,e2,a2,b2,l2,XZ,q2,ey⟩
  have w:=wk n C2 H2 e2;by_cases fu:n<ds.length
  ·have hd:ds[n]? =some ds[n]:=ah fu;obtain⟨go,yl⟩:=w.1 _ hd;rw[List.drop_eq_getElem_cons fu]at q2;refine .inr ⟨go,λv H3 y=>?_⟩
   obtain⟨rfl,is⟩:=yl v H3 y;have x2:Sx δ σ C2 H3:=x.ev (ev.trans e2);generalize ds[n]=dn at q2 is;cases dn with
   |tup es=>
    unfold yE at q2;cases is with
    |@tup pa ws _ hpa l=>
    match es,ws,l,q2 with
    |[d1,d2],[v1,v2],.cons i1 (.cons i2 .nil),q2=>
     refine⟨pa,v1,v2,rfl,kR.of (x2.sub _ _ hpa),?_⟩;have x3:=(x2.qm (i:=j1) i1).qm (i:=j2) i2;simp only[MS,ao]at q2;cases Jm:f ((δ.set j1 (.dat d1)).set j2 (.dat d2))with
     |none=>rw[Jm]at q2;cases q2
     |some y=>
      rw[Jm]at q2;simp only[ao]at q2;cases hr:yE [j1,j2] f δ (ds.drop (n+1))with
      |none=>rw[hr]at q2;cases q2
      |some rs=>
       rw[hr]at q2;cases q2;refine⟨C2,_,y,x3,Jm,λu C5 H5 e5 i5=>?_⟩
       have Tr:=e5.hh b2;have a5:=e5.nn a2 b2;refine⟨Tr,?_,ds.length-(n+1),by omega,C5,done++[y],rs,rfl,fu,(e2.trans e5).Dy hA a5 _,a5,cY,(l2.mono e5.c).append (.one i5),?_,hr,?_⟩
       ·rw[l2.length];exact rk (by omega)
       ·rw[aQ,List.length_singleton];omega
       ·rw[ey,List.append_assoc];rfl
    |[],_,_,q2=>cases q2
    |[d1],_,_,q2=>cases q2
    |d1::d2::d3::r,_,_,q2=>cases q2
   |_=>unfold yE at q2;cases q2
  ·have e:n=ds.length:=by omega
   subst e;rw[List.drop_length]at q2;unfold yE at q2;cases q2;rw[bB]at ey;subst ey;exact .inl ⟨w.2 (au _),k A acc C2 H2 (ev.trans e2) (ev.free hA) a2 b2 l2⟩
variable {X:Cx}{elt iter:cF}{x1 x2:Str}{p1 p2 pt pos:Pos}{kt:Nat}{scope:Scope}{j1 j2:Nat}{i:bX}{f:bZ}
theorem MT (hc:X.calm=true) (S:Cj X scope x1 x2 j1 j2) (hi:Tt X (.Tuple [.Name x1 p1,.Name x2 p2] kt pt) iter i) (he:∀cl C s H fp,WD (ez X scope cl C s H fp) elt f)
  (hs:∀v,foldedSetIterable iter X.env v=pure v:=by intro _;rfl):WF X (.ListComp elt [⟨.Tuple [.Name x1 p1,.Name x2 p2] kt pt,iter,[],0⟩] scope pos) (sS [j1,j2] i f):=⟨(Bx hc (S.G hc) hi.go (λ_ _ _ _ _=>xj) (λcl C s H fp=>(he cl C s H fp).go) hs).imp SK⟩
end
end DL
namespace L2
open PySem PySem.Spec PyProof.Rows HT DL
noncomputable def EA (K:W.Frag) (H:Hp):List V->ck->Prop:=Paired λv l=>∃a c k ns,v=.ref a/\l=k::ns/\kR K H a [.int k,.ref c]/\kR K H c (ns.map V.int)
theorem we:∀{us:cw}{ns ms:cn},IntsAre us ns->IntsAre us ms->ns=ms
 |_,_,_,.nil,.nil=>rfl
 |_,_,_,.cons n t h,.cons _ _ h'=>by rw[we h h']
theorem jB:∀{us:cw}{ns:cn},IntsAre us ns->∀(j:Nat) (h:j<us.length),∃t,us[j]=.int (ns.getD j 0) t
 |_,_,.nil,j,h=>by simp at h
 |_,_,.cons n t r,0,h=>⟨t,rfl⟩
 |_,_,.cons n t r,j+1,h=>by
  obtain⟨t',e⟩:=jB r j (by simpa using h)
  exact⟨t',by simpa using e⟩
theorem MU (h1:IsTup s.heap a ts.toArray) (h2:IsTup s.heap b zs.toArray) (i1:IntsAre ts ns) (i2:IntsAre zs ms) (hu:A.units<cLine):SeqAt.EqAt A s (.ref a) (.ref b) (decide (ns=ms)):=by
 by_cases Jn:a=b
 ·subst Jn;obtain⟨o,ho,hc,n,hd⟩:=h1;obtain⟨o',ke,oK,n',Kt⟩:=h2;rw[ho]at ke;cases ke;rw[hd]at Kt;injection Kt with e1 e2
  have e3:ts=zs:=by simpa using congrArg Array.toList e1
  subst e3;rw[we i1 i2,aR rfl];exact SeqAt.EqAt.same _
 ·have q:=SeqAt.RcAt.tuples (e:=λj=>jf ((ns.map D.int).getD j .eV) ((ms.map D.int).getD j .eV)) h1 h2 hu λj g1 g2=>by
   have z1:j<ts.length:=by simpa using g1
   have z2:j<zs.length:=by simpa using g2
   obtain⟨t,e1⟩:=jB i1 j z1;obtain⟨t',e2⟩:=jB i2 j z2;have w1:(ns.map D.int).getD j .eV=.int (ns.getD j 0):=by
    rw[ak,av,ak,ah (by rw[<-i1.length];exact z1)]
    rfl
   have w2:(ms.map D.int).getD j .eV=.int (ms.getD j 0):=by
    rw[ak,av,ak,ah (by rw[<-i2.length];exact z2)]
    rfl
   simp only[List.getElem_toArray,e1,e2,w1,w2];exact SeqAt.EqAt.int_int (A:=A.in1) (s:=s) (ns.getD j 0) t (ms.getD j 0) t'
  refine SeqAt.EqAt.of_refs Jn ?_;have e:decide (ns=ms)=jf (tupI ns) (tupI ms):=(LW.ub ns ms).symm;rw[e];unfold tupI jf;rw[mC];have l1:ts.toArray.size=(ns.map D.int).length:=by rw[aq,i1.length,ae]
  have l2:zs.toArray.size=(ms.map D.int).length:=by rw[aq,i2.length,ae]
  rw[l1,l2]at q;exact q
theorem EB (h1:IsTup s.heap c ts.toArray) (h2:IsTup s.heap d zs.toArray) (i1:IntsAre ts ns) (i2:IntsAre zs ms) (hu:A.units<cLine) (q:Q (HT.lexLt (k::ns) (m::ms)) s):W.KatLex prog w A bb (decide (([Value.int k t,.ref c].toArray).size<([Value.int m u,.ref d].toArray).size)) Q ([Value.int k t,.ref c].toArray.toList.zip [Value.int m u,.ref d].toArray.toList) 0 s:=by
 show W.KatLex prog w A bb false Q [(Value.int k t,.int m u),(.ref c,.ref d)] 0 s;refine W.kat_cons (wpAny_eqBool_int ?_);rw[HT.iu]at q;by_cases RN:k=m
 ·subst RN;rw[bM];rw[if_pos rfl]at q;refine W.kat_yes (W.kat_cons (MU h1 h2 i1 i2 hu prog w _ _ (W.kat_go (λe=>?_) λe=>?_)))
  ·refine W.kat_yes (W.kat_nil ?_);rw[bJ e,HT.ma]at q;exact q
  ·refine W.kat_no ?_;have z:(bb&&(0+1==0))=false:=by simp
   rw[z];exact W.kat_one _ _ (HT.sG h1 h2 (by simpa using i1) (by simpa using i2) hu q)
 ·have jg:(k==m)=false:=by simpa using RN
  rw[jg];rw[if_neg RN]at q;refine W.kat_no ?_;cases To:(bb&&0==0)with
  |true=>exact oneLt_int q
  |false=>exact W.kat_one _ _ (lt_int q)
section
variable {X:Cx}
theorem uv (hu:X.A.units+64<cLine):i8 X (.builtin "sorted") (λxs H Q=>∃(p:cE) (vs:List V) (nss:ck),xs=[.ref p]/\pZ X.K H p vs/\EA X.K H vs nss/\2<=vs.length/\vs.length<64/\
  ∀(l:cE) (ix:List Nat),H l=none->ix.Perm (List.range vs.length)->(ix.map λi=>nss.getD i []).Pairwise (λa b=>HT.lexLt b a=false)->Q (.ref l) (upd H l (.lst (ix.map λi=>vs.getD i .eV)))):=by
 intro cM s σ H xs us Q I r h;obtain⟨p,vs,nss,rfl,hq,ht,h2,zw,q⟩:=h;obtain⟨u,rfl,rx⟩:=vals1 r;cases rx;refine DE hu (RR:=λts l=>∃k t c zs ns,ts=[.int k t,.ref c]/\IsTup s.heap c zs.toArray/\IntsAre zs ns/\l=k::ns) I hq ht h2 zw (λv l _ ⟨a,c,k,ns,e1,e2,e3,e4⟩=>⟨a,_,e1,e3,λts r2=>?_⟩) (λh' _ _ _ _ R bb keep ⟨k,t,c,zs,ns,b1,b2,b3,b4⟩ ⟨k',t',c',zs',Bn,c1,c2,c3,c4⟩ hR=>?_) q
 ·obtain⟨zs,r3,p3,_⟩:=I.tuple e4;cases r2 with
  |cons q1 r2=>cases r2 with
   |cons q2 r2=>
    cases r2;obtain⟨t,rfl⟩:=q1;cases q2;exact⟨⟨k,t,c,zs,ns,rfl,p3,intsAre_of r3,e2⟩,k,t,_,rfl⟩
 ·subst b1 c1 b4 c4;have kp:∀{c:cE}{zs:cw},IsTup s.heap c zs.toArray->IsTup h' c zs.toArray:=λ{c zs} ⟨o,ho,r⟩=>⟨o,keep c o (λm ⟨oL,es,ep,hL,RP,_⟩=>by
   rw[hL]at ho;cases ho;obtain⟨_,n,hd⟩:=r;rw[RP]at hd;cases hd) ho,r⟩
  exact EB (kp b2) (kp c2) b3 c3 (by show X.A.units+1+1<cLine;omega) hR
end
end L2
namespace DL
open PySem PySem.Spec PyProof.Rows L2
theorem EC:∀{ds:cu}{l:cn},AQ ds=some l->ds=l.map D.int
 |[],_,h=>by cases h;rfl
 |.int i::r,l,h=>by
  unfold AQ at h;cases hr:AQ r with
  |none=>rw[hr]at h;cases h
  |some l'=>rw[hr]at h;cases h;rw[EC hr];rfl
 |.eV::_,_,h=>by cases h
 |.bl _::_,_,h=>by cases h
 |.str _::_,_,h=>by cases h
 |.tup _::_,_,h=>by cases h
 |.lst _::_,_,h=>by cases h
theorem MV (h:Io d=some l):∃k ns,l=k::ns/\d=.tup [.int k,tupI ns]:=by
 unfold Io at h;split at h
 ·rename_i n ds;cases hr:AQ ds with
  |none=>rw[hr]at h;cases h
  |some l'=>rw[hr]at h;cases h;exact⟨n,l',rfl,by rw[EC hr];rfl⟩
 ·cases h
theorem AR:∀{ds:cu}{nss:ck},qQ ds=some nss->ds=nss.map jn/\∀l∈nss,∃k ns,l=k::ns
 |[],_,h=>by cases h;exact⟨rfl,λl hl=>by cases hl⟩
 |d::r,nss,h=>by
  unfold qQ at h;cases h1:Io d with
  |none=>rw[h1]at h;cases h
  |some a=>
   rw[h1]at h;simp only[ao]at h;cases h2:qQ r with
   |none=>rw[h2]at h;cases h
   |some l=>
    rw[h2]at h;cases h;obtain⟨k,ns,rfl,rfl⟩:=MV h1;obtain⟨e,a⟩:=AR h2;refine⟨by rw[e];rfl,λx hx=>?_⟩
    rcases List.mem_cons.mp hx with rfl|hx
    ·exact⟨k,ns,rfl⟩
    ·exact a x hx
section
variable {X:Cx}{e:cF}{p pos:Pos}
theorem AS {K:W.Frag}{C H:Hp}(sub:dM C H):∀{xs:List V}{nss:ck},IsL C xs (nss.map jn)->(∀l∈nss,∃k ns,l=k::ns)->EA K H xs nss
 |_,[],.nil,_=>.nil
 |_,l::nss,.cons i r,h=>by
  obtain⟨k,ns,rfl⟩:=h l af;refine .cons ?_ (AS sub r λx hx=>h x (ai _ hx))
  cases i with
  |@tup a ws _ hp l=>
  cases l with
  |cons i1 l=>cases l with
   |cons i2 l=>
    cases l;cases i1;cases i2 with
    |@tup c zs _ hc lz=>
     have:zs=ns.map V.int:=IsL.l8 lz;subst this;exact⟨a,c,k,ns,rfl,rfl,kR.of (sub _ _ hp),kR.of (sub _ _ hc)⟩
def GV:cu->Option (cu)
 |[.lst ds]=>if ds.length<64 then(qQ ds).map λl=>(fZ l).map jn else none
 |_=>none
theorem Pl [Mem] (hu:X.A.units+64<cLine):Hr X (.builtin "sorted") GV:=by
 refine⟨_,pN.or (uv hu),?_⟩;intro C H vs ds d Q s i q k;unfold GV at q;split at q
 case h_2=>cases q
 rename_i es;split at q
 case isFalse=>cases q
 rename_i zw;obtain⟨v,rfl,j⟩:=i.one;obtain⟨p,xs,rfl,hq,l⟩:=j.list (K:=X.K) s;cases hn:qQ es with
 |none=>rw[hn]at q;cases q
 |some nss=>
  rw[hn]at q;cases q;obtain⟨ee,hp⟩:=AR hn;subst ee;have lv:=l.length;rw[ae]at lv zw;by_cases h2:xs.length<2
  ·refine .inl ⟨p,xs,rfl,hq,h2,λt ht=>?_⟩
   have e:fZ nss=nss:=by
    have:nss.length<2:=by omega
    match nss,this with
    |[],_=>exact List.Perm.eq_nil (eE [])
    |[a],_=>exact List.perm_singleton.mp (eE [a])
   simp only at k;rw[e]at k;exact k t xs C _ (.fF s ht) ht (s.free ht) cY l
  ·refine .inr ⟨p,xs,nss,rfl,hq,AS s l hp,by omega,by omega,λt ix ht pm pw=>?_⟩
   have lt:∀i∈ix,i<(nss.map jn).length:=λi hi=>by
    have:=pm.mem_iff.mp hi;rw[List.mem_range]at this;rw[ae];omega
   have lt':∀i∈ix,i<nss.length:=λi hi=>by have:=lt i hi;rwa [ae]at this
   have e:(ix.map λi=>nss.getD i [])=fZ nss:=by
    refine fC (λa b h1 h2=>HT.fR h2 h1) ?_ pw (n8 nss)
    have e1:(ix.map λi=>nss.getD i []).Perm ((List.range nss.length).map λi=>nss.getD i []):=List.Perm.map _ (by rw[<-lv];exact pm)
    rw[jJ]at e1;exact e1.trans (eE nss).symm
   have ll:=l.places ix lt;rw[tR jn nss [] .eV ix lt',e]at ll;exact k t _ C _ (.fF s ht) ht (s.free ht) cY ll
theorem MW (f:bZ):gx f=iz GV (aO f aY):=by
 funext δ
 unfold gx iz aO aY;cases f δ with
 |none=>rfl
 |some d=>cases d<;>rfl
theorem Ck [Mem] (hc:X.calm=true) (hu:X.A.units+64<cLine) (hg:Gl X "sorted") (hm:X.mg "sorted"=none) (ha:WO X e f) (he:cL e [] X.env:=by exact fH rfl) (kf:(backTo pos (starEach [] X.env)).any (·.1)=false:=by exact gh rfl):WF X (.Call (.Name "sorted" p) [e] [] pos) (gx f):=by
 rw[MW];exact n9 (Pl hu) hg hm jy (dw ha dI he) (by decide) (by decide) he kf
end
end DL
namespace L2
open PySem PySem.Spec PyProof.Rows
open Classical in
noncomputable def vi (h:Heap) (k:cE->Prop):Heap:=⟨h.objs.mapIdx (λi o=>if k i then o else {cls:=.none,data:=.freed}),h.life⟩
theorem J0 (h:Heap) (k:cE->Prop):(vi h k).objs.size=h.objs.size:=by unfold vi;exact Array.size_mapIdx
theorem uw (ha:k a):(vi h k).get? a=h.get? a:=by
 unfold vi Heap.get?;simp only[Array.getElem?_mapIdx];cases e:h.objs[a]? with
 |none=>rfl
 |some o=>simp only[bA,if_pos ha]
theorem Ip (ha:¬ k a):(vi h k).get? a=none:=by
 unfold vi Heap.get?;simp only[Array.getElem?_mapIdx];cases e:h.objs[a]? with
 |none=>rfl
 |some o=>simp only[bA,if_neg ha]
theorem J1 (e:(vi h k).get? a=some o):k a/\h.get? a=some o:=by
 by_cases ha:k a
 ·exact⟨ha,by rw[<-uw ha];exact e⟩
 ·rw[Ip ha]at e;cases e
theorem Iq {h base QG:Heap}:∀{l:List Env},h.FunFrames base l->(∀b∈Bg l,QG.get? b=none)->h.FunFrames QG l
 |[],_,_=>trivial
 |env::rest,⟨hk,⟨L,o,hf,hn,ho,hd⟩,hr⟩,hb=>by
  have e:Bg (env::rest)=L::Bg rest:=by unfold Bg;rw[List.filterMap_cons,hf]
  refine⟨hk,⟨L,o,hf,hb L (by rw[e];exact af),ho,hd⟩,Iq hr λb hm=>hb b (by rw[e];exact ai _ hm)⟩
def yH (X:Cx) (H:Hp):cE->Prop:=λb=>H b=none/\b∉Bg X.stack
section
variable {X:Cx}{cM:cj}{σ:St}{H:Hp}{s:cy}
theorem Pn (I:Inv X cM σ H s):∀b o,X.base.get? b=some o->(vi s.heap (yH X H)).get? b=some o:=λb o e=>by
 have e0:=I.NZ;have h:=e0.bs b o e;rw[uw ⟨h.2,λz=>by have:=(e0.rU.mem z).1;rw[e]at this;cases this⟩]
 exact h.1
theorem MX (I:Inv X cM σ H s):Dg X.prog X.w X.K X.mg (vi s.heap (yH X H)) X.A X.stack s H:=by
 have e0:=I.NZ;have k:=Pn I;refine⟨e0.frames,⟨e0.mod.QQ.keeps k,e0.mod.glob.keeps k,let ⟨mb,h1,h2⟩:=e0.mod.blt;⟨mb,h1.keeps k,h2⟩,e0.mod.nolimit.keeps k⟩,λb o e=>?_,by rw[J0];exact au _,Iq e0.rU λb hb=>Ip λz=>z.2 hb,e0.NM,e0.fJ,e0.bare,λx c Pt pos qual hm ht=>?_⟩
 ·obtain⟨h1,h2⟩:=J1 e;exact⟨h2,h1.1⟩
 ·obtain⟨h1,h2,h3⟩:=e0.tb x c Pt pos qual hm ht;exact⟨h1,h2.keeps k,let ⟨bm,ob,b1,b2,b3,b4,b5,b6⟩:=h3;⟨bm,ob,b1,b2,b3,b4,k _ _ b5,b6⟩⟩
theorem Po (F:dY X.prog X.w X.K X.mg (vi s.heap (yH X H)) CX k f fd ps sp) (hr:fm k X.A) (hb:Binds X.K fd ps []) (hx:Passes CX X E) (I:Inv X cM σ H s) (r:Vals vs us) (h:sp vs H Q E):wpAny (model X.prog X.w) X.A (call (.ref f) us) (EP X cM σ Q) X.xe s:=by
 have hl:us.length=ps.length:=by rw[<-r.length];exact F.len _ _ _ _ h
 have To:=hb s us I.E7 (by simpa using hl)
 rw[bB]at To;refine wpAny_call (codeAny_mono (F.run X.A X.stack s H ⟨us,[]⟩ us vs Q E hr (MX I) To r h) λr s' hq=>?_)
 cases r with
 |error e=>exact hx cM σ H s e s' I hq
 |ok fl=>
  cases fl with
  |ret u=>exact I.after hq
  |next=>exact False.elim hq
  |brk=>exact False.elim hq
  |cont=>exact False.elim hq
end
end L2
namespace L2
open PySem PySem.Spec PySem.W PySem.Calls PyProof.Rows
noncomputable def Ir (P:cA) (w:cB) (K:W.Frag) (mg:cg) (base:Heap) (N:List Str) (qual:Str) (sc:Scope) (f:cE) (cd:cx) (cl:List (Str×cE)) (A:cC) (outer:List Env) (s:cy) (H:Hp):Cx where
 prog:=P
 w:=w
 K:=K
 mg:=mg
 base:=base
 A:=A.deeper (envX qual sc s.heap.objs.size f cd cl)
 N:=N
 s₀:=s
 H₀:=H
 env:=envX qual sc s.heap.objs.size f cd cl
 outer:=outer
 stack:=envX qual sc s.heap.objs.size f cd cl::outer
 ex:=[]
 calm:=true
 fn:=λ_=>false
 pn:=[]
 xe:=λ_ _=>False
structure V6 (sc:Scope) (cl:List (Str×cE)) (p0:Str):Prop where
 kind:sc.kind=.function
 co:sc.isCoroutine=false
 gen:sc.isGenerator=false
 nc:∀x∈sc.names,x.2≠.cell
 p0:sc.names.lookup p0=some .local
 free:∀x,sc.names.lookup x=some .free->∃c,cl.lookup x=some c
 inj:∀x y c,cl.lookup x=some c->cl.lookup y=some c->x=y
theorem SM {P:cA}{w:cB}{K:W.Frag}{mg:cg}{base:Heap}{k:Nat}{f c':cE}{qual p0:Str}{ar:Arguments}{bd:cF}{sc:Scope}{cl:List (Str×cE)}{pm sj:cx}{N:List Str}{vars:List V}{sp:Sp}
  (hf:base.get? f=some (kla_obj "<lambda>" qual ar bd sc cl pm c' sj)) (uF:∀vs H Q E (s:cy),sp vs H Q E->rT P w H s.heap->s.heap.CodeRec (.ref c') qual) (S:V6 sc cl p0) (hN:N.length=vars.length+1) (hN0:N[0]? =some p0)
  (hc:∀x c,cl.lookup x=some c->∃v,base.IsCell c v)
  (hv:∀(i:Nat) (x:Str) (v:V),N[i+1]? =some x->vars[i]? =some v->∃c u,sc.names.lookup x=some .free/\cl.lookup x=some c/\RelV v u/\base.IsCell c (some u))
  (len:∀vs H Q E,sp vs H Q E->vs.length=1)
  (fY:∀(A:cC) (outer:List Env) (s:cy) (H:Hp) (v:V) (Q:VK) (E:XK),fm k (A.deeper (envX qual sc s.heap.objs.size f (.ref c') cl))->sp [v] H Q E->
   ∃t,PE (Ir P w K mg base N qual sc f (.ref c') cl A outer s H) bd t/\t (some v::vars.map some) H Q):
  dY P w K mg base gY (k+1) f (kla_fn "<lambda>" qual ar bd sc cl pm (.ref c') sj) [p0] sp:=by
 refine⟨len,λA outer s H args us vs Q E hr e0 hb r Ab=>?_⟩
 have hl:=len _ _ _ _ Ab;obtain⟨v,rfl⟩:=List.length_eq_one_iff.mp hl;obtain⟨u,rfl,rv⟩:=vals1 r;have lim:s.heap.NoLimit:=e0.mod.nolimit.keeps λb o e=>(e0.bs b o e).1
 have kb:∀b o,base.get? b=some o->s.heap.get? b=some o:=λb o e=>(e0.bs b o e).1
 have YM:s.heap.CodeRec (.ref c') qual:=uF _ _ _ _ s Ab e0.fJ;refine kla_callFunE (by have:=hr.dp;omega) (kb _ _ hf) rfl S.co S.gen rfl YM (hb _ _ _ _ ?_)
 refine wpAny_newFunctionEnv S.nc (by intro x hx;simp at hx;subst hx;exact S.p0) (λh₁ K3 Jd=>⟨lim.fresh _ Jd,?_⟩) S.kind
 have Sy:∀b o,s.heap.get? b=some o->h₁.get? b=some o:=λb o e=>Jd.extBut b o (aE (aB e)) (ag _ e)
 obtain⟨t,ht,hq⟩:=fY A outer s H v Q E (hr.deeper _) Ab;have kc:∀{c:cE}{u:Option cx},base.IsCell c u->h₁.IsCell c u:=λ{c u} z=>(z.keeps kb).keeps Sy
 have cH:∀x c,cl.lookup x=some c->H c=none:=λx c e=>by
  obtain⟨v,o,ho,_⟩:=hc x c e;exact(e0.bs c o ho).2
 have I:Inv (Ir P w K mg base N qual sc f (.ref c') cl A outer s H) [] (some v::vars.map some) H {s with heap:=h₁,toks:=s.toks+([(p0,u)]:List (Str×cx)).length}:=by
  refine⟨⟨e0.mod,S.kind,rfl,rfl,au _,S.inj,λy hy=>?_,λy c h=>(by cases h),λ_=>hr.hd,Around.frames_deeper e0.frames,.inr ⟨rfl,rfl⟩,λb z=>(by cases z),e0.bs,e0.Kr,λb _ _ z=>(by cases z),λb z=>(by cases z),e0.rU,e0.NM,e0.tb⟩,
   rfl,e0.bare,Un.kept Sy,⟨_,K3,λi y z h1 h2 h3=>?_⟩,λy c h=>?_,e0.fJ.fresh (au _),λy c h=>cH y c h,λp hp=>(by cases hp),e0.fJ.kept Sy,?_⟩
  ·rcases hy with hy|hy
   ·exact absurd rfl (S.nc _ (PySem.mem_of_lookup hy))
   ·exact S.free y hy
  ·cases i with
   |zero=>
    have e1:N[0]? =some y:=h1;rw[hN0]at e1;cases e1;cases h2;exact⟨u,rv,.inl ⟨S.p0,by simp⟩⟩
   |succ i=>
    have e2:(vars.map some)[i]? =some (some z):=h2;rw[av]at e2;cases e3:vars[i]? with
    |none=>rw[e3]at e2;cases e2
    |some z'=>
     rw[e3]at e2;cases e2;obtain⟨c,u',a1,a2,a3,a4⟩:=hv i y z h1 e3;exact⟨u',a3,.inr ⟨.inr a1,c,a2,kc a4⟩⟩
  ·obtain⟨v',z⟩:=hc y c h;exact⟨v',kc z⟩
  ·show(some v::vars.map some).length=N.length;simp[hN]
 refine kla_codeExpr (bO (ht [] _ _ H _ I hq) (λu' s' hs=>?_) λe s' hs=>hs.elim)
 obtain⟨v',H',J,rv',q⟩:=hs;exact⟨v',H',J.os,J.bare,J.base,J.fJ,rv',q⟩
end L2
namespace DL
open PySem PySem.Spec PyProof.Rows L2
structure ig where
 f:cE
 c:cE
 o:Obj
 gv:V
@[reducible] def eP (Y:OC) (A:gz) (G:D) (L:ig):Mem where
 cell:=some A.a
 face:=some L.f
 ok:=λC H=>(cT Y A G).ok C H/\H L.c=some (.yZ L.o (.own 0))/\Is C L.gv G
 has:=λC H k=>(cT Y A G).has C H k
 rel:=λC H C' H'=>(cT Y A G).rel C H C' H'/\(H L.c=some (.yZ L.o (.own 0))->H' L.c=some (.yZ L.o (.own 0)))/\(Is C L.gv G->Is C' L.gv G)
 of0:=λe=>⟨(cT Y A G).of0 e,λh=>e.h _ _ h,λh=>h.mono e.c⟩
 trans:=λr1 r2=>⟨(cT Y A G).trans r1.1 r2.1,λh=>r2.2.1 (r1.2.1 h),λh=>r2.2.2 (r1.2.2 h)⟩
 chg:=λr hb=>⟨(cT Y A G).chg r.1 hb,λh=>by rw[cR (cX h hb)];exact r.2.1 h,r.2.2⟩
 give:=λr hc ho hx=>⟨(cT Y A G).give r.1 hc ho hx,r.2.1,λh=>(r.2.2 h).mono (eA hc)⟩
 RD:=λr h=>⟨(cT Y A G).RD r.1 h.1,r.2.1 h.2.1,r.2.2 h.2.2⟩
 Fz:=λr h hh=>(cT Y A G).Fz r.1 h.1 hh
 Qc:=λh hx=>⟨(cT Y A G).Qc h.1 hx,by
  rw[cR (λz=>by have:=hx _ (z▸h.2.1);cases this)];exact h.2.1,h.2.2⟩
 Dx:=λh hx hh=>(cT Y A G).Dx h.1 hx hh
 RE:=λh hc ho hx=>⟨(cT Y A G).RE h.1 hc ho hx,h.2.1,h.2.2.mono (eA hc)⟩
 FA:=λh hc ho hx hh=>(cT Y A G).FA h.1 hc ho hx hh
section
variable {Y:OC}{A:gz}{G:D}{L:ig}{C H C' H':Hp}
theorem QH (ok:(eP Y A G L).ok C H) (e:@Ev (cT Y A G) C H C' H'):@Ev (eP Y A G L) C H C' H':=by
 have jg:A.a≠L.c:=λz=>by
  obtain⟨⟨xs,m⟩,h,_⟩:=ok;have:=m.m.h;rw[z,h]at this;cases this
 exact @Ev.mk (eP Y A G L) _ _ _ _ (@Ev.c (cT Y A G) _ _ _ _ e) (@Ev.h (cT Y A G) _ _ _ _ e) (@Ev.x (cT Y A G) _ _ _ _ e) (@Ev.s (cT Y A G) _ _ _ _ e) (@Ev.n (cT Y A G) _ _ _ _ e) ⟨@Ev.r (cT Y A G) _ _ _ _ e,λh=>@Ev.h (cT Y A G) _ _ _ _ e _ _ h (.inl λz=>jg (aS z)),λh=>h.mono (@Ev.c (cT Y A G) _ _ _ _ e)⟩
theorem V7 (e:@Ev (eP Y A G L) C H C' H'):@Ev (cT Y A G) C H C' H':=@Ev.mk (cT Y A G) _ _ _ _ (@Ev.c (eP Y A G L) _ _ _ _ e) (@Ev.h (eP Y A G L) _ _ _ _ e) (@Ev.x (eP Y A G L) _ _ _ _ e) (@Ev.s (eP Y A G L) _ _ _ _ e) (@Ev.n (eP Y A G L) _ _ _ _ e) (@Ev.r (eP Y A G L) _ _ _ _ e).1
end
def spL (Y:OC) (A:gz) (G:D) (L:ig) (Gc:D) (g:cc):Sp:=λvs H Q _=>∃C ds d,dM C H/\IsL C vs ds/\(eP Y A G L).ok C H/\g (Gc::ds)=some d/\∀v C' H',@Ev (cT Y A G) C H C' H'->Is C' v d->Q v H'
def SN (j:Nat) (Y:OC) (A:gz) (G:D) (L:ig) (Gc:D) (g:cc):Sp:=λvs H Q _=>∃C ds d,dM C H/\vs[j]? =some (.ref L.f)/\IsL C (vs.eraseIdx j) ds/\(eP Y A G L).ok C H/\g (Gc::ds)=some d/\∀v C' H',@Ev (cT Y A G) C H C' H'->Is C' v d->Q v H'
def vj (P:cA) (w:cB) (K:W.Frag) (mg:cg) (base:Heap) (k:Nat) (Y:OC) (A:gz) (G:D) (L:ig) (Gc:D) (g:cc):Prop:=
 ∃o fd ps,base.get? L.f=some o/\o.data=.func fd/\dY P w K mg base gY k L.f fd ps (spL Y A G L Gc g)/\Binds K fd ps []
theorem vj.mono {P:cA}{w:cB}{K:W.Frag}{mg:cg}{base:Heap}{k l:Nat}{Y:OC}{A:gz}{G:D}{L:ig}{Gc:D}{g:cc}(c:vj P w K mg base k Y A G L Gc g) (h:k<=l:=by omega):vj P w K mg base l Y A G L Gc g:=
 let ⟨o,fd,ps,h1,h2,F,r⟩:=c;⟨o,fd,ps,h1,h2,F.mono h,r⟩
def wA (P:cA) (w:cB) (K:W.Frag) (mg:cg) (base:Heap) (k:Nat) (x:Str) (j:Nat) (Y:OC) (A:gz) (G:D) (L:ig) (Gc:D) (g:cc):Prop:=
 ∃fx fd ps,dY P w K mg base gY k fx fd ps (SN j Y A G L Gc g)/\mg x=some (.ref fx)/\W.keepIn K (.ref fx)=true/\Binds K fd ps []
theorem wA.mono {P:cA}{w:cB}{K:W.Frag}{mg:cg}{base:Heap}{k l:Nat}{x:Str}{j:Nat}{Y:OC}{A:gz}{G:D}{L:ig}{Gc:D}{g:cc}(c:wA P w K mg base k x j Y A G L Gc g) (h:k<=l:=by omega):wA P w K mg base l x j Y A G L Gc g:=
 let ⟨fx,fd,ps,F,r⟩:=c;⟨fx,fd,ps,F.mono h,r⟩
theorem MY {P:cA}{w:cB}{K:W.Frag}{mg:cg}{base:Heap}{k:Nat}{f:cE}{fd:cz}{ps:List Str}{j:Nat}{Y:OC}{A:gz}{G:D}{L:ig}{Gc:D}:dY P w K mg base gY k f fd ps (SN j Y A G L Gc λ_=>none):=
 ⟨(λvs H Q E ⟨_,_,_,_,_,_,_,q,_⟩=>by cases q),λA outer s H args us vs Q E _ _ _ _ ⟨_,_,_,_,_,_,_,q,_⟩=>by cases q⟩
section
variable {X:Cx}{Y:OC}{A:gz}{G Gc:D}{e:cF}{es:List cF}{p pos:Pos}{y x:Str}{i j k:Nat}{L:ig}{g:cc}{fa:bX}
theorem SO (hq:vj X.prog X.w X.K X.mg X.base k Y A G L Gc g) (hr:fm k X.A) (ho:PE X (.Name y p) (gX i)) (ha:@Qe (eP Y A G L) X (e::es) fa)
  (he:cL e es X.env:=by exact fH rfl):@PD (eP Y A G L) X (.Call (.Name y p) (e::es) [] pos) (eO i Gc g fa):=by
 letI:=eP Y A G L
 intro cM s σ H Q I ⟨C,δ,d,x,q,fin⟩;unfold eO at q;split at q
 case h_2=>cases q
 rename_i ks hi;cases hf:fa δ with
 |none=>rw[hf]at q;cases q
 |some ds=>
  rw[hf]at q;simp only[ao]at q;obtain⟨a',z1,z2,ok,_⟩:=x.mem i ks hi;cases z1;obtain⟨o,fd,ps,hb0,YN,F,hB⟩:=hq;refine wpAny_Call_Name_kw (gU (ho cM s σ H (λv H'=>v=.ref L.f/\H'=H) I ⟨.ref L.f,z2,rfl,rfl⟩) λu s1 ⟨v1,H1,I1,r1,e1,e2⟩=>?_)
  subst e1 e2;obtain rfl:u=Value.ref L.f:=r1;refine callWith_def YN (gU (ha pos cM s1 σ H1 (λvs H2=>spL Y A G L Gc g vs H2 Q E0) I1 ⟨C,δ,ds,x,hf,λvs C1 H2 ev il=>?_⟩) λus s2 ⟨vs,H2,I2,r2,q2⟩=>⟨I2.bk _ _ hb0,Fp F hr hB .nil vP I2 r2 (by rw[bB];exact q2)⟩) he
  obtain⟨_,_,_,SS,_⟩:=(x.ev ev).mem i ks hi;exact⟨C1,ds,d,ev.s,il,SS,q,λv C' H' e' i'=>fin v C' H' (ev.trans (QH SS e')) i'⟩
theorem MZ (hq:vj X.prog X.w X.K X.mg X.base k Y A G L Gc g) (hr:fm k X.A) (ho:PE X (.Name y p) (gX i)) (ha:@HA (eP Y A G L) X (e::es) fa)
  (he:cL e es X.env:=by exact fH rfl):@WD (eP Y A G L) X (.Call (.Name y p) (e::es) [] pos) (eO i Gc g fa):=by
 letI:=eP Y A G L
 exact⟨SO hq hr ho ha.go he⟩
theorem M1 (F:dY X.prog X.w X.K X.mg X.base gY k fx fd ps (SN j Y A G L Gc g)) (hr:fm k X.A) (hg:Gl X x) (hm:X.mg x=some (.ref fx)) (hk:W.keepIn X.K (.ref fx)=true) (hb:Binds X.K fd ps []) (ha:@X4 (eP Y A G L) X (e::es) i j fa) (rV:(x==("__debug__":Str))=false:=by decide) (he:cL e es X.env:=by exact fH rfl) (kf:(backTo pos (starEach es X.env)).any (·.1)=false:=by exact gh rfl):@PD (eP Y A G L) X (.Call (.Name x p) (e::es) [] pos) (eO i Gc g fa):=by
 letI:=eP Y A G L
 refine(Bm F hr hg hm hk hb .nil vP ha rV he kf).imp λσ H Q ⟨C,δ,d,x,q,fin⟩=>?_
 unfold eO at q;split at q
 ·rename_i ks hi;cases hf:fa δ with
  |none=>rw[hf]at q;cases q
  |some ds=>
   rw[hf]at q;simp only[ao]at q;refine⟨C,δ,ds,ks,x,hi,hf,λvs C1 H1 a' e1 h1 h2 i1=>?_⟩
   cases h1;obtain⟨_,_,_,ok,_⟩:=(x.ev e1).mem i ks hi;rw[bB];exact⟨C1,ds,d,e1.s,h2,i1,ok,q,λv C2 H2 e2 i2=>fin v C2 H2 (e1.trans (QH ok e2)) i2⟩
 ·cases q
theorem ED (c:wA X.prog X.w X.K X.mg X.base k x j Y A G L Gc g) (hr:fm k X.A) (hg:Gl X x) (ha:@Vp (eP Y A G L) X (e::es) i j fa)
  (rV:(x==("__debug__":Str))=false:=by decide) (he:cL e es X.env:=by exact fH rfl) (kf:(backTo pos (starEach es X.env)).any (·.1)=false:=by exact gh rfl):
  @WD (eP Y A G L) X (.Call (.Name x p) (e::es) [] pos) (eO i Gc g fa):=by
 obtain⟨fx,fd,ps,F,hm,hk,hb⟩:=c;letI:=eP Y A G L
 exact⟨M1 F hr hg hm hk hb ha.go rV he kf⟩
end
theorem SU {P:cA}{w:cB}{K:W.Frag}{mg:cg}{base:Heap}{x qual:Str}{st:cI}{f:cE}{fd:cz}{N ps:List Str}{k:Nat}(j:Nat) (Y:OC) (A0:gz) (G Gc:D) (L0:ig) (F:kU K x qual st f fd) (S:dt N ps (cP st)) {fb:D->bY}
  (fY:∀(eN:cx) (A:cC) (outer:List Env) (s:cy) (H:Hp) (E:XK),fm k (A.deeper (envOfC qual (cP st) s.heap.objs.size f eN))->∀C0 H0,@Jk (eP Y A0 G L0) (pX gY P w K mg base N qual (cP st) f eN A outer s H E).Dc C0 H0 (eW st) (fb Gc)):
  dY P w K mg base gY (k+1) f fd ps (SN j Y A0 G L0 Gc (wb N.length ps.length j fb)):=by
 refine F.ok S (λvs H Q E h=>?_) (λeN A outer s H vs Q E hr h=>?_)
 all_goals
  obtain⟨C,ds,d,sub,hj,i,ok,q,fin⟩:=h;unfold wb at q;simp only at q;split at q
  case isFalse=>cases q
  rename_i hl
 ·exact mr hj i hl.1
 ·letI:=eP Y A0 G L0
  exact⟨tS C C H (fb Gc),fY eN A outer s H E hr C H C,n4 (u0 S sub hj i hl rfl ok) q λv C' H' ev i'=>fin v C' H' (V7 ev) i'⟩
theorem Iu {P:cA}{w:cB}{K:W.Frag}{mg:cg}{base:Heap}{x qual:Str}{st:cI}{f:cE}{fd:cz}{N ps:List Str}{k:Nat}(j:Nat) (Y:OC) (A0:gz) (G Gc:D) (L0:ig) (F:kU K x qual st f fd) (S:dt N ps (cP st)) {fb:D->bY}
  (fY:∀(eN:cx) (A:cC) (outer:List Env) (s:cy) (H:Hp) (E:XK),fm k (A.deeper (envOfC qual (cP st) s.heap.objs.size f eN))->∀C0 H0,@qb (eP Y A0 G L0) (pX gY P w K mg base N qual (cP st) f eN A outer s H E).Dc C0 H0 (eW st) (fb Gc)):
  dY P w K mg base gY (k+1) f fd ps (SN j Y A0 G L0 Gc (wb N.length ps.length j fb)):=SU j Y A0 G Gc L0 F S λeN A outer s H E hr C0 H0=>@qb.go (eP Y A0 G L0) _ _ _ _ _ (fY eN A outer s H E hr C0 H0)
end DL
namespace L2
open PySem PySem.Spec PySem.W PyProof.Rows
section
variable {prog:cA}{w:cB}{A:cC}{E:cf}{s:cy}{I S ax:cE}{items:Array cx}{base:Heap}{key:Nat->Int}{R:Result->cy->Prop}
def iP (key:Nat->Int) (i m:Nat):Prop:=∀j,j<=m->key i<=key j/\(j<i->key i<key j)
noncomputable abbrev V8 (v:cx) (k:Int) (t:Tok) (c:Nat):Obj:={cls:=.type "list",data:=.seq #[v,.int k t] c}
theorem M3 (hh:A.handled=none) (hI:base.get? I=none) (hS:base.get? S=none) (SV:S≠I) (SW:base.IsTuple ax items)
  (turn:∀(i:Nat) (v:cx) (h:Heap) (tk:Nat) (Q:cf) (E:cf),items[i]? =some v->(∀b o,base.get? b=some o->h.get? b=some o)->(∀t t5,Q (.int (key i) t) {s with heap:=h,toks:=t5})->wpAny (model prog w) A.in1 (call (.builtin "len") [v]) Q E {s with heap:=h,toks:=tk})
  (hR:∀i v h' t5,items[i]? =some v->iP key i (items.size-1)->(∀b o,base.get? b=some o->h'.get? b=some o)->R (.ok (.ret v)) {s with heap:=h',toks:=t5}):
  ∀(r j i:Nat) (h:Heap) (tk:Nat) (vb:cx) (tb:Tok) (c:Nat),items.size-(j+1)=r->j+1<=items.size->(∀b o,base.get? b=some o->h.get? b=some o)->h.get? S=some (V8 vb (key i) tb c)->h.IsTupleIter I ax (j+1)->
   items[i]? =some vb->i<=j->iP key i j->codeAny (model prog w) A (.builtin "min.loop" ⟨[.ref I,.builtin "len",.ref S],[]⟩) R {s with heap:=h,toks:=tk}:=by
 have EE:(toString "min"++toString ".loop":String)="min.loop":=by decide
 have jg:ax≠I:=λz=>by
  obtain⟨o,ho,_⟩:=SW;rw[z,hI]at ho;cases ho
 have W:=Walks.tuple (prog:=prog) (w:=w) (A:=A.in1) hh I ax jg items;have W4:∀{h:Heap},(∀b o,base.get? b=some o->h.get? b=some o)->h.IsTuple ax items:=λk=>let ⟨o,ho,r⟩:=SW;⟨o,k _ _ ho,r⟩
 have step:∀{h h':Heap},(∀b o,base.get? b=some o->h.get? b=some o)->(∀b o,b∉[I]->h.get? b=some o->h'.get? b=some o)->∀b o,base.get? b=some o->h'.get? b=some o:=λk k' b o e=>k' b o (λz=>by rw[bt.mp z,hI]at e;cases e) (k b o e)
 have QI:∀{h h':Heap},(∀b o,base.get? b=some o->h.get? b=some o)->Heap.SameBut S h h'->∀b o,base.get? b=some o->h'.get? b=some o:=λk sb b o e=>(sb.2 b (λz=>by rw[z,hS]at e;cases e)).trans (k b o e)
 intro r;induction r with
 |zero=>
  intro j i h tk vb tb c hr hj kp hB hit YO zm Iv;have m6:j+1=items.size:=by omega
  refine codeAny_builtin PySem.F.entry_min_loop ?_;rw[bW PySem.F.plain_min_loop _];show wpAny _ A.in1 (seqItems? (.ref S)>>=_) _ _ _;refine aa (wpAny_seqItems hB rfl ?_);show wpAny _ A.in1 (tryCatch (pyNext (.ref I)) _>>=_) _ _ _;refine aa (wpAny_tryCatch (W.done _ _ _ ⟨by rw[<-m6];exact hit,W4 kp⟩ λh' t5 oY=>?_))
  have QC:=oY S _ (by simpa using SV) hB
  show wpAny _ A.in1 (updateSeq S (λ_=>#[])>>=_) _ _ _
  refine aa (wpAny_updateSeq QC rfl (aa (wpAny_letGo (aj ?_))));exact hR i vb _ _ YO (λj' BJ=>Iv j' (by omega)) (QI (step kp oY) (Heap.SameBut.update h' S (Obj.mapSeq λ_=>(#[]:Array cx))))
 |succ r ih=>
  intro j i h tk vb tb c hr hj kp hB hit YO zm Iv;refine codeAny_builtin PySem.F.entry_min_loop ?_;rw[bW PySem.F.plain_min_loop _];show wpAny _ A.in1 (seqItems? (.ref S)>>=_) _ _ _;refine aa (wpAny_seqItems hB rfl ?_);show wpAny _ A.in1 (tryCatch (pyNext (.ref I)) _>>=_) _ _ _;refine aa (wpAny_tryCatch (W.item (j+1) _ _ _ (by omega) ⟨hit,W4 kp⟩ λv h' t5 hP JF oY=>?_))
  have hv:items[j+1]? =some v:=hP;have YQ:=step kp oY;have QC:=oY S _ (by simpa using SV) hB
  show wpAny _ A.in1 (tryCatch (holding [v] (call (.builtin "len") [v])) _>>=_) _ _ _;refine aa (wpAny_tryCatch (bo (turn (j+1) v h' t5 _ _ hv YQ λt2 TB=>?_)))
  show wpAny _ A.in1 (tryCatch (holding [v,.int (key (j+1)) t2] (richCompare .Lt (.int (key (j+1)) t2) (.int (key i) tb)>>=_)) _>>=_) _ _ _;refine aa (wpAny_tryCatch (bo (aa (CmpOf.ints_lt (prog:=prog) (w:=w) (A:=A.in1) (P:=λi v=>∃t,v=.int (key i) t) key (λi v h=>h) (j+1) i _ _ _ _ _ ⟨t2,rfl⟩ ⟨tb,rfl⟩ ?_))))
  refine aa (bo (bP (aa (wpAny_letGo (aj ?_)))));by_cases lt:key (j+1)<key i
  ·simp only[lt,decide_true,if_true];refine aa (wpAny_updateSeq QC rfl (aa (wpAny_letGo ?_)));rw[EE];have sb:=Heap.SameBut.update h' S (Obj.mapSeq λ_=>#[v,.int (key (j+1)) t2])
   refine aj ⟨plainId_quiet PySem.F.plain_min_loop _,ih (j+1) (j+1) _ _ v t2 _ (by omega) (by omega) (QI YQ sb) (get?_update_seq QC λ_=>#[v,.int (key (j+1)) t2]) ?_ hv (au _) λj' BJ=>?_⟩
   ·obtain⟨oI,ho,r1⟩:=JF.1;exact⟨oI,(sb.2 I SV.symm).trans ho,r1⟩
   ·rcases Nat.lt_or_ge j' (j+1)with z|z
    ·have:=(Iv j' (by omega)).1
     exact⟨by omega,λ_=>by omega⟩
    ·have:j'=j+1:=by omega
     subst this;exact⟨Int.le_refl _,λz=>absurd z (Nat.lt_irrefl _)⟩
  ·simp only[lt,decide_false,aI,bD];refine aa (wpAny_letGo ?_);rw[EE];refine aj ⟨plainId_quiet PySem.F.plain_min_loop _,ih (j+1) i _ _ vb tb c (by omega) (by omega) YQ QC JF.1 YO (by omega) λj' BJ=>?_⟩
   rcases Nat.lt_or_ge j' (j+1)with z|z
   ·exact Iv j' (by omega)
   ·have:j'=j+1:=by omega
    subst this;exact⟨by omega,λz=>by omega⟩
theorem Cm (hh:A.handled=none) (SW:s.heap.IsTuple ax items) (jg:0<items.size) (turn:∀(i:Nat) (v:cx) (h:Heap) (tk:Nat) (Q:cf) (E:cf),items[i]? =some v->(∀b o,s.heap.get? b=some o->h.get? b=some o)->(∀t t5,Q (.int (key i) t) {s with heap:=h,toks:=t5})->wpAny (model prog w) A.in1 (call (.builtin "len") [v]) Q E {s with heap:=h,toks:=tk}) (hQ:∀i v h' t5,items[i]? =some v->iP key i (items.size-1)->(∀b o,s.heap.get? b=some o->h'.get? b=some o)->Q v {s with heap:=h',toks:=t5}):wpAny (model prog w) A (call (.builtin "min") [.ref ax] [(Str.ofString "key",.builtin "len")]) Q E s:=by
 have EE:(toString "min"++toString ".loop":String)="min.loop":=by decide
 refine kmb_tree PySem.F.kind_min PySem.F.plain_min PySem.F.entry_min (kmb_min_key _ _) ?_;show wpAny _ A.in1 (Builtin.Builtins.bindParams "min" ["key","default"] 0 ⟨[],[(Str.ofString "key",.builtin "len")]⟩>>=_) _ _ s;refine aa (wpAny_of_eq (show Builtin.Builtins.bindParams "min" ["key","default"] 0 ⟨[],[(Str.ofString "key",.builtin "len")]⟩=pure [some (.builtin "len"),none]from rfl) ?_)
 refine aa (aj (aa (wpAny_pyIter_tuple SW ?_)));refine aa (wpAny_newList ?_ (bK _));rw[EE];have hSz:(s.heap.push {cls:=.type "tuple_iterator",data:=.fields #[.ref ax,.int 0 0]}).objs.size=s.heap.objs.size+1:=Heap.size_push ..;have hI:s.heap.get? s.heap.objs.size=none:=Heap.get?_none_of_le (au _);have hS:s.heap.get? (s.heap.push {cls:=.type "tuple_iterator",data:=.fields #[.ref ax,.int 0 0]}).objs.size=none:=Heap.get?_none_of_le (by rw[hSz];exact Nat.le_succ _)
 have SV:(s.heap.push {cls:=.type "tuple_iterator",data:=.fields #[.ref ax,.int 0 0]}).objs.size≠s.heap.objs.size:=by rw[hSz];exact bw (Nat.lt_succ_self _)
 have gI:((s.heap.push {cls:=.type "tuple_iterator",data:=.fields #[.ref ax,.int 0 0]}).push {cls:=.type "list",data:=.seq ([]:cw).toArray}).get? s.heap.objs.size=some {cls:=.type "tuple_iterator",data:=.fields #[.ref ax,.int 0 0]}:=
  ag _ (az _ rfl)
 have gS:((s.heap.push {cls:=.type "tuple_iterator",data:=.fields #[.ref ax,.int 0 0]}).push {cls:=.type "list",data:=.seq ([]:cw).toArray}).get? (s.heap.push {cls:=.type "tuple_iterator",data:=.fields #[.ref ax,.int 0 0]}).objs.size=some {cls:=.type "list",data:=.seq ([]:cw).toArray}:=az _ rfl;have k0:∀b o,s.heap.get? b=some o->((s.heap.push {cls:=.type "tuple_iterator",data:=.fields #[.ref ax,.int 0 0]}).push {cls:=.type "list",data:=.seq ([]:cw).toArray}).get? b=some o:=λb o e=>ag _ (ag _ e)
 have axI:ax≠s.heap.objs.size:=λz=>by
  obtain⟨o,ho,_⟩:=SW;rw[z,hI]at ho;cases ho
 have W4:∀{h:Heap},(∀b o,s.heap.get? b=some o->h.get? b=some o)->h.IsTuple ax items:=λk=>let ⟨o,ho,r⟩:=SW;⟨o,k _ _ ho,r⟩
 have W:=Walks.tuple (prog:=prog) (w:=w) (A:=A.in1) hh s.heap.objs.size ax axI items;refine aj ⟨plainId_quiet PySem.F.plain_min_loop _,codeAny_builtin PySem.F.entry_min_loop ?_⟩;rw[bW PySem.F.plain_min_loop _];show wpAny _ A.in1 (seqItems? (.ref _)>>=_) _ _ _;refine aa (wpAny_seqItems gS rfl ?_);show wpAny _ A.in1 (tryCatch (pyNext (.ref s.heap.objs.size)) _>>=_) _ _ _;refine aa (wpAny_tryCatch (W.item 0 _ _ _ jg ⟨⟨_,gI,rfl,rfl⟩,W4 k0⟩ λv h' t5 hP JF oY=>?_))
 have hv:items[0]? =some v:=hP;have k1:∀b o,s.heap.get? b=some o->h'.get? b=some o:=λb o e=>oY b o (λz=>by rw[bt.mp z,hI]at e;cases e) (k0 b o e)
 have hB:=oY _ _ (by simpa using SV) gS
 show wpAny _ A.in1 (tryCatch (holding [v] (call (.builtin "len") [v])) _>>=_) _ _ _;refine aa (wpAny_tryCatch (bo (turn 0 v h' t5 _ _ hv k1 λt2 TB=>?_)))
 generalize hSn:(s.heap.push {cls:=.type "tuple_iterator",data:=.fields #[.ref ax,.int 0 0]}).objs.size=S at *;show wpAny _ A.in1 (updateSeq S (λ_=>#[v,.int (key 0) t2])>>=_) _ _ _
 refine aa (wpAny_updateSeq hB rfl ?_);rw[EE];have sb:=Heap.SameBut.update h' S (Obj.mapSeq λ_=>#[v,.int (key 0) t2])
 refine aj ⟨plainId_quiet PySem.F.plain_min_loop _,M3 hh hI hS SV SW turn hQ _ 0 0 _ _ v t2 _ rfl jg (λb o e=>(sb.2 b (λz=>by rw[z,hS]at e;cases e)).trans (k1 b o e)) (get?_update_seq hB λ_=>#[v,.int (key 0) t2]) ?_ hv (au _) λj' BJ=>?_⟩
 ·obtain⟨oI,ho,r1⟩:=JF.1;exact⟨oI,(sb.2 _ SV.symm).trans ho,r1⟩
 ·have:j'=0:=by omega
  subst this;exact⟨Int.le_refl _,λz=>absurd z (Nat.lt_irrefl _)⟩
end
end L2
namespace DL
open PySem PySem.Spec PyProof.Rows L2
def Pp (d:D):Nat:=(ur d).getD 0
def zK (ds:cu) (i:Nat):Int:=(Pp (ds.getD i .eV):Int)
theorem EF (h:ur d=some n):∃l,d=.tup l/\n=l.length:=by
 unfold ur at h;split at h
 ·cases h;exact⟨_,rfl,rfl⟩
 ·cases h
theorem qR {ds:cu}{d:D}:∀(r:cu) (j i n:Nat) (b:D),ds.drop (j+1)=r->ds[i]? =some b->ur b=some n->i<=j->j<ds.length->iP (zK ds) i j->lG b n r=some d->
  (∃i',ds[i']? =some d/\iP (zK ds) i' (ds.length-1))/\∀x∈r,∃l,x=.tup l
 |[],j,i,n,b,hr,hb,hn,zm,hj,hf,q=>by
  have e:lG b n []=some b:=by unfold lG;rfl
  rw[e]at q;cases q;have:ds.length<=j+1:=List.drop_eq_nil_iff.mp hr;exact⟨⟨i,hb,by rw[show ds.length-1=j by omega];exact hf⟩,λx hx=>by cases hx⟩
 |x::r,j,i,n,b,hr,hb,hn,zm,hj,hf,q=>by
  have fu:j+1<ds.length:=by
   rcases Nat.lt_or_ge (j+1) ds.length with z|z
   ·exact z
   ·rw[List.drop_eq_nil_of_le z]at hr;cases hr
  rw[List.drop_eq_getElem_cons fu]at hr;injection hr with h1 h2
  have hx:ds[j+1]? =some x:=by rw[ah fu,h1]
  have kb:zK ds i=(n:Int):=by
   unfold zK Pp;rw[ak,hb];show(((ur b).getD 0:Nat):Int)=_;rw[hn];rfl
  unfold lG at q;cases hm:ur x with
  |none=>rw[hm]at q;cases q
  |some m=>
   rw[hm]at q;simp only[ao]at q;have kx:zK ds (j+1)=(m:Int):=by
    unfold zK Pp;rw[ak,hx];show(((ur x).getD 0:Nat):Int)=_;rw[hm];rfl
   have tx:∃l,x=.tup l:=let ⟨l,e,_⟩:=EF hm;⟨l,e⟩;split at q
   ·rename_i lt;obtain⟨a1,a2⟩:=qR r (j+1) (j+1) m x h2 hx hm (au _) fu (λj' BJ=>by
     rcases Nat.lt_or_ge j' (j+1)with z|z
     ·have:=(hf j' (by omega)).1
      exact⟨by omega,λ_=>by omega⟩
     ·have:j'=j+1:=by omega
      subst this;exact⟨Int.le_refl _,λz=>absurd z (Nat.lt_irrefl _)⟩) q
    exact⟨a1,λy hy=>(List.mem_cons.mp hy).elim (λe=>by rw[e];exact tx) (a2 y)⟩
   ·rename_i lt;obtain⟨a1,a2⟩:=qR r (j+1) i n b h2 hb hn (by omega) fu (λj' BJ=>by
     rcases Nat.lt_or_ge j' (j+1)with z|z
     ·exact hf j' (by omega)
     ·have:j'=j+1:=by omega
      subst this;exact⟨by omega,λz=>by omega⟩) q
    exact⟨a1,λy hy=>(List.mem_cons.mp hy).elim (λe=>by rw[e];exact tx) (a2 y)⟩
theorem GW (hi:i<=m) (xv:i'<=m) (h:iP key i m) (h':iP key i' m):i=i':=by
 have a:=h i' xv;have b:=h' i hi;rcases Nat.lt_trichotomy i i' with z|z|z
 ·have:=b.2 z;omega
 ·exact z
 ·have:=a.2 z;omega
theorem GX (q:uu (.tup ds)=some d):0<ds.length/\(∀x∈ds,∃l,x=.tup l)/\ds.length<64/\∀i,i<ds.length->iP (zK ds) i (ds.length-1)->ds[i]? =some d:=by
 unfold uu at q;split at q
 ·rename_i b r e;cases e;split at q
  case isFalse=>cases q
  rename_i h60;cases hn:ur b with
  |none=>rw[hn]at q;cases q
  |some n=>
   rw[hn]at q;simp only[ao]at q;obtain⟨⟨i',e1,e2⟩,a2⟩:=qR (ds:=b::r) r 0 0 n b rfl rfl hn (au _) (by simp) (λj' BJ=>by
    have:j'=0:=by omega
    subst this;exact⟨Int.le_refl _,λz=>absurd z (Nat.lt_irrefl _)⟩) q
   refine⟨by simp,λx hx=>?_,by simp;omega,λi hi hf=>?_⟩
   ·rcases List.mem_cons.mp hx with rfl|hx
    ·obtain⟨l,e,_⟩:=EF hn;exact⟨l,e⟩
    ·exact a2 x hx
   ·have xv:i'<(b::r).length:=(List.getElem?_eq_some_iff.mp e1).1;rw[GW (by omega) (by omega) hf e2]
    exact e1
 ·cases q
section
variable {X:Cx}{e:cF}{p pos pk kp:Pos}{f:bZ}
theorem J2 [Mem] (hc:X.calm=true) (hu:X.A.units+64<cLine) (hg:Gl X "min") (hm:X.mg "min"=none) (Vf:Gl X "len") (BQ:X.mg "len"=none) (ha:WO X e f)
  (he:backTo pos (starEach [e] X.env)=(false,eval e X.env)::backTo pos (starEach [] X.env):=by rfl):
  WD X (.Call (.Name "min" p) [e] [⟨some "key",.Name "len" pk,kp⟩] pos) (wX f):=⟨by
 have ha:=ha.go;intro cM s σ H Q I ⟨C,δ,d,x,q,k⟩;unfold wX at q;cases hf:f δ with
 |none=>rw[hf]at q;cases q
 |some d0=>
  rw[hf]at q;simp only[ao]at q;obtain⟨ds,rfl⟩:∃ds,d0=.tup ds:=by
   unfold uu at q;split at q
   ·exact⟨_,rfl⟩
   ·cases q
  obtain⟨n0,YR,n64,hfl⟩:=GX q;refine wpAny_Call_Name_kw (oM I hg hm BG ?_);refine callWith_kw ?_ he (by rw[he];rfl) rfl rfl
  rw[he];refine Calls.spliced_cons (gU (ha cM s σ H (λv H'=>∃C',Ev C H C' H'/\qa C' H' v (.tup ds)) I ⟨C,δ,.tup ds,x,hf,λv C' H' ev i=>⟨C',ev,i⟩⟩) λu s1 ⟨v1,H1,I1,r1,C1,JO,i1⟩=>?_)
  refine Calls.spliced_nil ?_;refine kws_cons (oM I1 Vf BQ mD (kws_nil ?_));obtain⟨pa,xs,rfl,hq,l,uF⟩:=i1.tup (K:=X.K) JO.s;cases r1;obtain⟨dD,rv,pl,hz⟩:=I1.tuple hq;have lx:=rv.length;have ld:=l.length;have itemAt:∀(i:Nat) (v:cx),dD.toArray[i]? =some v->∃(w:V) (a:cE) (zs:cw) (es:cu),xs[i]? =some w/\ds[i]? =some (.tup es)/\RelV w v/\v=.ref a/\IsTup s1.heap a zs.toArray/\zs.length=es.length/\zs.length<=sizeLine:=λi v hv=>by
   have Ki:dD[i]? =some v:=by simpa using hv
   have hi:i<dD.length:=(List.getElem?_eq_some_iff.mp Ki).1;obtain⟨w,hw⟩:∃w,xs[i]? =some w:=⟨_,ah (by omega)⟩
   obtain⟨u',e1,e2⟩:=rv.get hw;rw[Ki]at e1;cases e1;obtain⟨di,e3,e4⟩:=l.get' hw;obtain⟨es,rfl⟩:=YR di (bh e3);cases e4 with
   |@tup a ws _ ha lw=>
    cases e2;obtain⟨zs,rz,pz,zz⟩:=I1.tuple (kR.of (K:=X.K) (JO.s _ _ ha));exact⟨_,a,zs,es,hw,e3,rfl,rfl,pz,by rw[<-rz.length,lw.length],by rw[<-rz.length];exact zz⟩
  refine Cm (items:=dD.toArray) (key:=zK ds) (I1.ok.hd hc) pl (by simp;omega) (λi v h tk Q' E' hv kp hQ=>?_) λi v h' t5 hv hF kp=>?_
  ·obtain⟨w,a,zs,es,e1,e2,e3,rfl,e5,e6,e7⟩:=itemAt i v hv;have ek:zK ds i=(zs.toArray.size:Int):=by
    unfold zK Pp;rw[ak,e2];show((es.length:Nat):Int)=_;rw[aq,e6]
   have pz:IsTup h a zs.toArray:=let ⟨o,ho,r⟩:=e5;⟨o,kp _ _ ho,r⟩;rw[ek]at hQ;exact len_tuple (s:={s1 with heap:=h,toks:=tk}) pz (by rw[aq];rw[bu]at e7;omega) (hQ _ _)
  ·obtain⟨w,a,zs,es,e1,e2,e3,rfl,e5,e6,e7⟩:=itemAt i v hv;have hi:i<ds.length:=(List.getElem?_eq_some_iff.mp e2).1;have hz':dD.toArray.size-1=ds.length-1:=by rw[aq];omega
   rw[hz']at hF;have hd:=hfl i hi hF;rw[e2]at hd;cases hd;obtain⟨d2,g1,g2⟩:=l.get' e1;rw[e2]at g1;cases g1;exact⟨w,H1,I1.kept (t':=t5) kp,e3,k w C1 H1 JO g2⟩⟩
end
end DL
namespace L2
open PySem PySem.Spec PyProof.Rows
theorem J3 (I:Inv X cM σ H s) (Hd:∀x,X.fn x=true) (e:X.env.cells.lookup x=some c):yH X H c:=by
 refine⟨I.pM x c e,λz=>?_⟩
 have ho:c∉X.fs:=λz=>by
  obtain⟨_,o,ho,_⟩:=I.ok.rU.mem z;exact absurd (aB ho) (Nat.not_lt.mpr (I.ok.Tg x c (Hd x) e))
 rcases List.mem_cons.mp (I.w5 c z)with z|z
 ·exact I.PZ x c e z
 ·exact ho z
end L2
namespace DL
open PySem PySem.Spec PyProof.Rows L2
theorem Iw {names:List (Str×NameKind)}{kd:Str->Option NameKind}(h:(names.all λy=>y.2!=.free||kd y.1==some .cell)=true):∀y∈names,y.2=.free->kd y.1=some .cell:=λy hy e=>by
 have:=List.all_eq_true.mp h y hy;rw[e]at this
 simpa using this
theorem QJ {names:List (Str×NameKind)}(h:(names.all λy=>y.2!=.cell)=true):∀y∈names,y.2≠.cell:=λy hy=>by
 have:=List.all_eq_true.mp h y hy
 simpa using this
section
variable {X:Cx}{Y:OC}{A:gz}{G:D}{e:cF}{p pos mi:Pos}{x xd qual p0 nS nG:Str}{iS iG k kc:Nat}{g gE:cc}{fe:bZ}{ar:Arguments}{bd:cF}{sc:Scope}{c Pt:cE}{lamF:D->bZ}{tag:D->D}
theorem Pq (hc:X.calm=true) (Hd:∀x,X.fn x=true) (hr:fm k X.A) (hg:Gl X x) (hm:X.mg x=some (.ref fx)) (hk:W.keepIn X.K (.ref fx)=true) (hT:(xd,mi,qual)∈qc) (ht:W.tabIn X.K xd=some (c,Pt)) (hq:X.env.qual++Str.ofString "<lambda>"=qual) (pQ:X.env.code=.ref c) (Mm:defaultsOf ar X.env=([],[])) (YS:∀y∈sc.names,y.2=.free->X.env.kindOf y.1=some .cell) (kind:sc.kind=.function) (co:sc.isCoroutine=false) (gen:sc.isGenerator=false) (nc:∀x∈sc.names,x.2≠.cell) (V9:sc.names.lookup p0=some .local) (fS:sc.names.lookup nS=some .free) (fG:sc.names.lookup nG=some .free) (YT:X.N[iS]? =some nS) (YU:X.N[iG]? =some nG) (kS:X.env.kindOf nS=some .cell) (kG:X.env.kindOf nG=some .cell) (Ds:∀cl pm eN sj,Binds X.K (W.kla_fn "<lambda>" qual ar bd sc cl pm eN sj) [p0] []) (hF:∀(base:Heap) (L:ig),vj X.prog X.w X.K X.mg base (kc+1) Y A G L (tag G) gE->wA X.prog X.w X.K X.mg base k x 1 Y A G L (tag G) g) (fY:∀(base:Heap) (f:cE) (cd:cx) (cl:List (Str×cE)) (Ar:cC) (outer:List Env) (s:cy) (H:Hp),fm kc (Ar.deeper (W.envX qual sc s.heap.objs.size f cd cl))->@WD (cT Y A G) (Ir X.prog X.w X.K X.mg base [p0,nS,nG] qual sc f cd cl Ar outer s H) bd (lamF G)) (W5:∀ds d,gE (tag G::ds)=some d->ds.length=1) (SX:∀d,gE [tag G,d]=lamF G [.dat d,.memo [],.dat G]) (h1:@PD (cT Y A G) X e fe) (rV:(x==("__debug__":Str))=false) (he:starEach [e,.Lambda ar bd sc mi] X.env=(false,eval e X.env)::starEach [.Lambda ar bd sc mi] X.env):@PD (cT Y A G) X (.Call (.Name x p) [e,.Lambda ar bd sc mi] [] pos) (wa iS iG G g (tag G) fe):=by
 letI:=cT Y A G
 intro cM s σ H Q I ⟨C,δ,d,sx,q,fin⟩;unfold wa at q;split at q
 case h_2=>cases q
 rename_i ks G1 hiS hiG;split at q
 case isFalse=>cases q
 rename_i hG1;rw[hG1]at hiG;cases hf:fe δ with
 |none=>rw[hf]at q;cases q
 |some d1=>
  rw[hf]at q;simp only[ao]at q;obtain⟨cl,uM,CS,Og⟩:=xi (scope:=sc) (env:=X.env) λy hy e=>I.ok.has y.1 (.inl (YS y hy e))
  refine wpAny_Call_Name_kw (wG I hg hm ?_ rV);refine W.callWith_K (h₀:=X.base) I.ok.mod.QQ hk ?_ he rfl;rw[he];show wpAny _ _ (spliced ((false,eval e X.env)::backTo pos (starEach [.Lambda ar bd sc mi] X.env))) _ _ s;refine Calls.spliced_cons (gU (h1 cM s σ H (λv H'=>∃C',Ev C H C' H'/\Is C' v d1) I ⟨C,δ,d1,sx,hf,λv C' H' ev i=>⟨C',ev,i⟩⟩) λu1 s1 ⟨v1,H1,I1,r1,C1,JO,i1⟩=>?_)
  show wpAny _ _ (spliced ((false,eval (.Lambda ar bd sc mi) X.env)::backTo pos (starEach [] X.env))) _ _ s1;refine Calls.spliced_cons (Ay I1 hT ht hq pQ uM Mm λH2 s2 f c' L=>Calls.spliced_nil ⟨L.inv.E7,?_⟩)
  have I2:=L.inv;have YV:Ev C1 H1 C1 H2:=by
   rcases L.new with e|⟨u,hn,e⟩
   ·rw[e];exact .refl JO.s
   ·rw[e];exact .fF JO.s hn
  have x2:=(sx.ev JO).ev YV;obtain⟨a',z1,z2,ok,_⟩:=x2.mem iS ks hiS;cases z1;obtain⟨gv,g1,g2⟩:=x2.dat iG G hiG;obtain⟨m,hn,hl⟩:=I2.loc;have cellOf:∀{i:Nat}{y:Str}{v:V},X.N[i]? =some y->σ[i]? =some (some v)->X.env.kindOf y=some .cell->sc.names.lookup y=some .free->∃c u,cl.lookup y=some c/\X.env.cells.lookup y=some c/\RelV v u/\s2.heap.IsCell c (some u):=λ{i y v} e1 e2 e3 e4=>by
   obtain⟨u,r,lk⟩:=hl i y v e1 e2 (.inr (.inl e3));rcases lk with⟨oY,_⟩|⟨_,c2,tj,P1⟩
   ·rw[e3]at oY;cases oY
   ·obtain⟨c3,hc3⟩:=Og y (mem_lookup e4);have:=(CS y c3 hc3).1;rw[tj]at this;cases this;exact⟨c2,u,hc3,tj,r,P1⟩
  obtain⟨cS,uS,a1,a2,a3,a4⟩:=cellOf YT z2 kS fS;obtain⟨cG,uG,b1,b2,b3,b4⟩:=cellOf YU g1 kG fG;obtain⟨oc,vsC,tC,fz1,fz2,fz3⟩:=L.fz;obtain⟨pm,sj,YW⟩:=L.fn;have big:∀{y:Str}{c:cE}{v:Option cx},X.env.cells.lookup y=some c->s2.heap.IsCell c v->(vi s2.heap (yH X H2)).IsCell c v:=λ{y c v} e ⟨o,ho,hd⟩=>⟨o,by rw[uw (J3 I2 Hd e)];exact ho,hd⟩
  have okL:(eP Y A G ⟨f,c',oc,gv⟩).ok C1 H2:=⟨ok,fz1,g2⟩;have CF:vj X.prog X.w X.K X.mg (vi s2.heap (yH X H2)) (kc+1) Y A G ⟨f,c',oc,gv⟩ (tag G) gE:=by
   have hff:(vi s2.heap (yH X H2)).get? f=some (W.kla_obj "<lambda>" qual ar bd sc cl pm c' sj):=by rw[uw ⟨L.fn0,L.fs⟩];exact YW
   refine⟨_,_,[p0],hff,rfl,SM (N:=[p0,nS,nG]) (vars:=[.ref A.o,gv]) hff (λvs H Q E s Ab fJ=>?_) ⟨kind,co,gen,nc,V9,λy hy=>Og y (mem_lookup hy),λy z c e1 e2=>I2.ok.inj y z c (CS y c e1).1 (CS z c e2).1⟩ rfl rfl (λy c e=>?_) (λi y v e1 e2=>?_) (λvs H Q E Ab=>?_) (λAr outer s H v Q E Pj Ab=>?_),Ds _ _ _ _⟩
   ·obtain⟨C,ds,d,_,_,SS,_⟩:=Ab;exact⟨c',oc,vsC,tC,rfl,(fJ c' _ SS.2.1).1,fz2,fz3⟩
   ·obtain⟨v,hcv⟩:=I2.cell y c (CS y c e).1;exact⟨v,big (CS y c e).1 hcv⟩
   ·match i,e1,e2 with
    |0,e1,e2=>cases e1;cases e2;exact⟨cS,uS,fS,a1,a3,big a2 a4⟩
    |1,e1,e2=>cases e1;cases e2;exact⟨cG,uG,fG,b1,b3,big b2 b4⟩
    |i+2,e1,e2=>cases e2
   ·obtain⟨C,ds,d,_,il,_,q',_⟩:=Ab;rw[il.length];exact W5 ds d q'
   ·obtain⟨C,ds,d',sub,il,SS,q',ON⟩:=Ab;obtain⟨d0,rfl⟩:=List.length_eq_one_iff.mp (W5 ds d' q');refine⟨_,(fY _ f (.ref c') cl Ar outer s H Pj).go,C,[.dat d0,.memo [],.dat G],d',⟨sub,λn d2 e=>?_,λn es e=>?_,λn n2 es fs a e=>?_,rfl,λn Tu e=>?_⟩,by rw[<-SX];exact q',ON⟩
    ·match n,e with
     |0,e=>cases e;cases il with|cons i0 _=>exact⟨v,rfl,i0⟩
     |1,e=>cases e
     |2,e=>cases e;exact⟨gv,rfl,SS.2.2⟩
     |n+3,e=>cases e
    ·match n,e with
     |0,e=>cases e
     |1,e=>cases e
     |2,e=>cases e
     |n+3,e=>cases e
    ·match n,e with
     |0,e=>cases e
     |1,e=>cases e
     |2,e=>cases e
     |n+3,e=>cases e
    ·match n,e with
     |0,e=>cases e
     |1,e=>cases e;exact⟨A.o,rfl,rfl,SS.1,λk' oY=>by cases oY⟩
     |2,e=>cases e
     |n+3,e=>cases e
  obtain⟨fx',fd,ps,F,BQ,oY,hB⟩:=hF _ _ CF;rw[hm]at BQ;cases BQ;exact Po (vs:=[v1,.ref f]) F hr hB vP I2 (.cons r1 (.cons (show RelV (.ref f) (Value.ref f)from rfl) .nil)) ⟨C1,[d1],d,YV.s,rfl,.one i1,okL,q,λv C' H' e' i'=>fin v C' H' ((JO.trans YV).trans e') i'⟩
theorem Iy (hc:X.calm=true) (Hd:∀x,X.fn x=true) (hr:fm k X.A) (hg:Gl X x) (hm:X.mg x=some (.ref fx)) (hk:W.keepIn X.K (.ref fx)=true) (hT:(xd,mi,qual)∈qc) (ht:W.tabIn X.K xd=some (c,Pt)) (hq:X.env.qual++Str.ofString "<lambda>"=qual) (pQ:X.env.code=.ref c) (hF:∀(base:Heap) (L:ig),vj X.prog X.w X.K X.mg base (kc+1) Y A G L (tag G) gE->wA X.prog X.w X.K X.mg base k x 1 Y A G L (tag G) g) (fY:∀(base:Heap) (f:cE) (cd:cx) (cl:List (Str×cE)) (Ar:cC) (outer:List Env) (s:cy) (H:Hp),fm kc (Ar.deeper (W.envX qual sc s.heap.objs.size f cd cl))->@WD (cT Y A G) (Ir X.prog X.w X.K X.mg base [p0,nS,nG] qual sc f cd cl Ar outer s H) bd (lamF G)) (W5:∀ds d,gE (tag G::ds)=some d->ds.length=1) (SX:∀d,gE [tag G,d]=lamF G [.dat d,.memo [],.dat G]) (h1:@WD (cT Y A G) X e fe) (Mm:defaultsOf ar X.env=([],[])) (YS:∀y∈sc.names,y.2=.free->X.env.kindOf y.1=some .cell) (kind:sc.kind=.function) (co:sc.isCoroutine=false) (gen:sc.isGenerator=false) (nc:∀x∈sc.names,x.2≠.cell) (V9:sc.names.lookup p0=some .local) (fS:sc.names.lookup nS=some .free) (fG:sc.names.lookup nG=some .free) (YT:X.N[iS]? =some nS) (YU:X.N[iG]? =some nG) (kS:X.env.kindOf nS=some .cell) (kG:X.env.kindOf nG=some .cell) (Ds:∀cl pm eN sj,Binds X.K (W.kla_fn "<lambda>" qual ar bd sc cl pm eN sj) [p0] []) (rV:(x==("__debug__":Str))=false) (he:starEach [e,.Lambda ar bd sc mi] X.env=(false,eval e X.env)::starEach [.Lambda ar bd sc mi] X.env):@WD (cT Y A G) X (.Call (.Name x p) [e,.Lambda ar bd sc mi] [] pos) (wa iS iG G g (tag G) fe):=by
 letI:=cT Y A G
 exact⟨Pq hc Hd hr hg hm hk hT ht hq pQ Mm YS kind co gen nc V9 fS fG YT YU kS kG Ds hF fY W5 SX h1.go rV he⟩
end
structure ux (K:W.Frag) (x:Str) (st:cI):Prop where
 ex:∃f fd,W.nsIn K mainGlobals x=some (some (.ref f))/\kU K x x st f fd
structure TF (K:W.Frag) (C:cE) (g k x q:Str) (st:cI):Prop where
 ex:∃f fd,kU K x q st f fd/\Meth K C x f/\x≠g/\x≠k
section
variable {K:W.Frag}{C:cE}{x q gn kn:Str}{st:cI}{f:cE}{fd:cz}{oc:cx}{od an:cp}{sl:cq}{kV doc pm eN ct:cx}
theorem SY (a:W.nsIn K mainGlobals x=some (some (.ref f))) (l:K.lookup f=some ⟨oc,od,.func (W.fnOf x x (kT st) (eW st) (cP st) .none kV doc pm an eN ct),sl⟩) (c:W.codeIn K eN x=true) (k:W.keepIn K (.ref f)=true):ux K x st:=⟨⟨f,_,a,K1 l c k⟩⟩
theorem S0 (a:W.findIn K (.ref C) x=some (some (.ref f))) (i:W.isFn K (.ref f)=true) (l:K.lookup f=some ⟨oc,od,.func (W.fnOf x q (kT st) (eW st) (cP st) .none kV doc pm an eN ct),sl⟩) (c:W.codeIn K eN q=true) (k:W.keepIn K (.ref f)=true) (n:x≠gn/\x≠kn):TF K C gn kn x q st:=⟨⟨f,_,K1 l c k,⟨a,i,k⟩,n⟩⟩
theorem ux.get (p:ux K x st) (X:K.In h) (G:h.Ns mainGlobals mg):∃f fd,mg x=some (.ref f)/\kU K x x st f fd/\∀{c P:cE},W.tabIn K x=some (c,P)->fd.code=.ref c:=
 let ⟨f,fd,a,F⟩:=p.ex;⟨f,fd,W.mg_of X G a,F,λt=>let ⟨_,_,_,_,_,_,_,_,_,_,l,_⟩:=F.ex;Ms a l t⟩
theorem sT (F:kU K x q st f fd) (h:∀kV doc pm an eN ct u,bindArgs (W.fnOf x q (kT st) (eW st) (cP st) .none kV doc pm an eN ct) ⟨[u],[]⟩=pure [(a,u)]:=by intros;rfl):Binds K fd [a] []:=F.binds λ_ _ _ _ _ _ us hl=>match us,hl with|[_],_=>h ..
theorem kF (F:kU K x q st f fd) (h:∀kV doc pm an eN ct u v,bindArgs (W.fnOf x q (kT st) (eW st) (cP st) .none kV doc pm an eN ct) ⟨[u,v],[]⟩=pure [(a,u),(b,v)]:=by intros;rfl):Binds K fd [a,b] []:=F.binds λ_ _ _ _ _ _ us hl=>match us,hl with|[_,_],_=>h ..
theorem qS (F:kU K x q st f fd) (h:∀kV doc pm an eN ct u v w,bindArgs (W.fnOf x q (kT st) (eW st) (cP st) .none kV doc pm an eN ct) ⟨[u,v,w],[]⟩=pure [(a,u),(b,v),(c,w)]:=by intros;rfl):Binds K fd [a,b,c] []:=F.binds λ_ _ _ _ _ _ us hl=>match us,hl with|[_,_,_],_=>h ..
theorem sU {a b c d:Str}(F:kU K x q st f fd) (h:∀kV doc pm an eN ct u v w z,bindArgs (W.fnOf x q (kT st) (eW st) (cP st) .none kV doc pm an eN ct) ⟨[u,v,w,z],[]⟩=pure [(a,u),(b,v),(c,w),(d,z)]:=by intros;rfl):Binds K fd [a,b,c,d] []:=F.binds λ_ _ _ _ _ _ us hl=>match us,hl with|[_,_,_,_],_=>h ..
end
end DL
namespace GP
open PySem DL
open L2 (mq Ac)
noncomputable def hZ (E:cn->Bool):Nat->cn->cn->Option (cn)
 |0,h,_=>if E h then some h else none
 |n+1,h,c=>if E (h++c)then(List.range c.length).findSome? (λk=>match c[k]? with
   |some p=>hZ E n (h++[p]) (c.drop (k+1))
   |none=>none)else none
def Pr (E:cn->Bool):Prop:=∀a b:cn,(∀p∈a,p∈b)->E a=true->E b=true
theorem AU (E:cn->Bool) (f:cn->cn->Option (cn)) (n:Nat) (hf:∀h c,f h c=((comb n c).map (h++ ·)).find? E):∀(c h:cn),(List.range c.length).findSome? (λk=>match c[k]? with
   |some p=>f (h++[p]) (c.drop (k+1))
   |none=>none)=((comb (n+1) c).map (h++ ·)).find? E
 |[],h=>by simp[comb]
 |p::r,h=>by
  have ih:=AU E f n hf r h;show((List.range (r.length+1)).findSome? _)=_;rw[List.range_succ_eq_map,List.findSome?_cons];simp only[aM,List.drop_succ_cons,List.drop_zero,List.findSome?_map];have e:(comb (n+1) (p::r)).map (h++ ·)=(comb n r).map ((h++[p])++ ·)++(comb (n+1) r).map (h++ ·):=by
   simp[comb]
  rw[e,List.find?_append,<-hf (h++[p]) r,<-ih];cases f (h++[p]) r with
  |some x=>rfl
  |none=>rfl
theorem AV (hE:Pr E):∀(n:Nat) (h c:cn),hZ E n h c=((comb n c).map (h++ ·)).find? E
 |0,h,c=>by
  unfold hZ;simp[comb,List.find?]
 |n+1,h,c=>by
  unfold hZ;split
  ·exact AU E (hZ E n) n (λh c=>AV hE n h c) c h
  ·rename_i hn
   symm
   rw[List.find?_eq_none];intro x hx z;obtain⟨d,hd,rfl⟩:=List.mem_map.mp hx;refine hn (hE _ _ (λp hp=>?_) z)
   rcases List.mem_append.mp hp with hp|hp
   ·exact bC _ hp
   ·exact aL _ ((gr _ _ _ hd).2 p hp)
def dN (n:Nat):ck:=(List.range (n+1)).flatMap λk=>comb k (dg 0 n)
def Co (E:cn->Bool) (n:Nat):Option (cn):=(List.range (n+1)).findSome? λk=>hZ E k [] (dg 0 n)
theorem vk {α β:Type}(p:β->Bool) (f:α->List β):∀l:List α,(l.flatMap f).find? p=l.findSome? λa=>(f a).find? p
 |[]=>rfl
 |a::l=>by
  rw[List.flatMap_cons,List.find?_append,List.findSome?_cons,vk p f l];cases (f a).find? p<;>rfl
theorem AW (hE:Pr E) (n:Nat):Co E n=(dN n).find? E:=by
 unfold Co dN;rw[vk]
 congr 1
 funext k
 rw[AV hE]
 congr 1
 simp
theorem M4:c∈dN n↔∃k,k<=n/\c∈comb k (dg 0 n):=by
 unfold dN;simp only[List.mem_flatMap,List.mem_range];exact⟨λ⟨k,h,m⟩=>⟨k,by omega,m⟩,λ⟨k,h,m⟩=>⟨k,by omega,m⟩⟩
theorem EG (h:(dN n).find? p=some c) (hd:d∈dN n) (pd:p d=true):c.length<=d.length:=by
 have key:∀(l:ck),l.Pairwise (λa b=>a.length<=b.length)->l.find? p=some c->d∈l->c.length<=d.length:=by
  intro l;induction l with
  |nil=>intro _ _ h;cases h
  |cons a l ih=>
   intro hp hf hm;rw[List.find?_cons]at hf;cases ha:p a with
   |true=>
    rw[ha]at hf;cases hf;rcases List.mem_cons.mp hm with rfl|hm
    ·exact au _
    ·exact(List.pairwise_cons.mp hp).1 d hm
   |false=>
    rw[ha]at hf;rcases List.mem_cons.mp hm with rfl|hm
    ·rw[ha]at pd;cases pd
    ·exact ih (List.pairwise_cons.mp hp).2 hf hm
 refine key _ ?_ h hd;unfold dN;have gen:∀ks:List Nat,ks.Pairwise (·< ·)->(ks.flatMap λk=>comb k (dg 0 n)).Pairwise (λa b=>a.length<=b.length):=by
  intro ks;induction ks with
  |nil=>intro _;exact List.Pairwise.nil
  |cons k ks ih=>
   intro hk;rw[List.flatMap_cons,List.pairwise_append];refine⟨?_,ih (List.pairwise_cons.mp hk).2,?_⟩
   ·refine List.Pairwise.imp_of_mem (R:=λ_ _=>True) (λ{a b} ha hb _=>?_) (List.pairwise_of_forall λ_ _=>trivial)
    rw[(gr _ _ _ ha).1,(gr _ _ _ hb).1];exact au _
   ·intro a ha b hb;obtain⟨j,hj,hb⟩:=List.mem_flatMap.mp hb;rw[(gr _ _ _ ha).1,(gr _ _ _ hb).1];exact bg ((List.pairwise_cons.mp hk).1 j hj)
 exact gen _ List.pairwise_lt_range
def J4 (L:ck) (S:cn):Prop:=∀l∈L,∃p∈l,p∈S
noncomputable def lU (L:ck) (S:cn):Bool:=L.all λl=>l.any λp=>decide (p∈S)
theorem vm:lU L S=true↔J4 L S:=by
 unfold lU J4;simp[List.all_eq_true,bN]
noncomputable def dZ (L:ck) (p:Int):ck:=L.filter λl=> !decide (p∈l)
theorem lH:l∈dZ L p↔l∈L/\p∉l:=by
 unfold dZ;simp[List.mem_filter]
theorem uy:J4 L (p::S)↔J4 (dZ L p) S:=by
 constructor
 ·intro h l hl;obtain⟨hl,np⟩:=lH.mp hl;obtain⟨q,hq,hs⟩:=h l hl;rcases List.mem_cons.mp hs with rfl|hs
  ·exact absurd hq np
  ·exact⟨q,hq,hs⟩
 ·intro h l hl;by_cases hp:p∈l
  ·exact⟨p,hp,af⟩
  ·obtain⟨q,hq,hs⟩:=h l (lH.mpr ⟨hl,hp⟩);exact⟨q,hq,ai _ hs⟩
theorem AX (h:J4 L S):J4 (dZ L p) (S.erase p):=by
 intro l hl;obtain⟨hl,np⟩:=lH.mp hl;obtain⟨q,hq,hs⟩:=h l hl;refine⟨q,hq,(List.mem_erase_of_ne ?_).mpr hs⟩
 rintro rfl
 exact np hq
theorem EH (hl:l∈L) (hp:p∈l):(dZ L p).length<L.length:=by
 unfold dZ;refine Nat.lt_of_le_of_ne (aW _ _) λe=>?_
 have:=List.length_filter_eq_length_iff.mp e l hl;simp[hp]at this
structure AY (L:ck) (n:Nat):Prop where
 ex:∃S:cn,S.length=n/\J4 L S
 all:∀S:cn,J4 L S->n<=S.length
theorem AY.uniq (h:AY L a) (k:AY L b):a=b:=by
 obtain⟨S,e,hs⟩:=h.ex;obtain⟨T,f,ht⟩:=k.ex;have:=h.all T ht;have:=k.all S hs;omega
theorem AY.nil:AY [] 0:=⟨⟨[],rfl,λl h=>by cases h⟩,λS _=>bK _⟩
theorem AY.step {L:ck}{l:cn}(hl:l∈L) {f:Int->Nat}(hf:∀p∈l,AY (dZ L p) (f p)) {m:Nat}(h1:∃p∈l,f p=m) (h2:∀p∈l,m<=f p):AY L (m+1):=by
 refine⟨?_,λS hS=>?_⟩
 ·obtain⟨p,hp,rfl⟩:=h1;obtain⟨S,e,hs⟩:=(hf p hp).ex;exact⟨p::S,by simp[e],uy.mpr hs⟩
 ·obtain⟨p,hp,hs⟩:=hS l hl;have a:=(hf p hp).all _ (AX (p:=p) hS);rw[List.length_erase_of_mem hs]at a;have:=List.length_pos_of_mem hs;have:=h2 p hp;omega
def gy (t:ck->Nat):cn->ck->cn
 |[],_=>[]
 |p::r,L=>if t (dZ L p)<t L then p::gy t r (dZ L p)else gy t r L
theorem yI (K:ck->Prop) (hK:∀L p,K L->K (dZ L p)) (ht:∀L,K L->AY L (t L)):∀(ps:cn) (L:ck),K L->(∀S,J4 L S->S.length=t L->∀q∈S,q∈ps)->ps.Nodup->
  (comb (t L) ps).find? (lU L)=some (gy t ps L)
 |[],L,k,inv,_=>by
  obtain⟨S,e,hs⟩:=(ht L k).ex;have:S=[]:=List.eq_nil_iff_forall_not_mem.mpr λq hq=>by have:=inv S hs e q hq;cases this
  subst this;rw[<-e];show([[]]:ck).find? (lU L)=some [];rw[List.find?_cons,vm.mpr hs]
 |p::r,L,k,inv,nd=>by
  have T:=ht L k;have T':=ht _ (hK L p k);have up:t L<=t (dZ L p)+1:=by
   obtain⟨S,e,hs⟩:=T'.ex;have:=T.all _ (uy.mpr hs);simp at this;omega
  unfold gy;split
  ·rename_i fu;have e:t L=t (dZ L p)+1:=by omega
   have ih:=yI K hK ht r (dZ L p) (hK L p k) (λS hS eS q hq=>by
    have a:=inv (p::S) (uy.mpr hS) (by simp[eS,e]) q (ai _ hq)
    rcases List.mem_cons.mp a with rfl|a
    ·exfalso;have:=T'.all (S.erase q) (λl hl=>by
      obtain⟨z,hz,zs⟩:=hS l hl;refine⟨z,hz,(List.mem_erase_of_ne ?_).mpr zs⟩
      rintro rfl
      exact(lH.mp hl).2 hz)
     rw[List.length_erase_of_mem hq]at this;have:=List.length_pos_of_mem hq;omega
    ·exact a) (List.nodup_cons.mp nd).2
   rw[e];show((comb (t (dZ L p)) r).map (p:: ·)++comb (t (dZ L p)+1) r).find? (lU L)=_
   have g:∀l:ck,(l.map (p:: ·)).find? (lU L)=(l.find? (lU (dZ L p))).map (p:: ·):=by
    intro l;rw[List.find?_map]
    congr 1
    have:(lU L∘(p:: ·))=lU (dZ L p):=by
     funext S
     rw[Bool.eq_iff_iff];exact(vm.trans uy).trans vm.symm
    rw[this]
   rw[List.find?_append,g,ih];rfl
  ·rename_i wq;have no:∀S,J4 L S->S.length=t L->p∉S:=λS hS eS hp=>by
    have:=T'.all _ (AX (p:=p) hS);rw[List.length_erase_of_mem hp]at this;have:=List.length_pos_of_mem hp;omega
   have ih:=yI K hK ht r L k (λS hS eS q hq=>by
    rcases List.mem_cons.mp (inv S hS eS q hq)with rfl|a
    ·exact absurd hq (no S hS eS)
    ·exact a) (List.nodup_cons.mp nd).2
   cases hn:t L with
   |zero=>
    rw[hn]at ih;have:∀s:cn,comb 0 s=[[]]:=λs=>by cases s<;>rfl
    rw[this]at ih ⊢;exact ih
   |succ m=>
    rw[hn]at ih;show((comb m r).map (p:: ·)++comb (m+1) r).find? (lU L)=_
    rw[List.find?_append,ih];have:((comb m r).map (p:: ·)).find? (lU L)=none:=by
     rw[List.find?_eq_none];intro x hx z;obtain⟨d,hd,rfl⟩:=List.mem_map.mp hx;exact no _ (vm.mp z) (by simp[(gr _ _ _ hd).1,hn]) af
    rw[this];rfl
theorem EI {t:ck->Nat}(K:ck->Prop) (hK:∀L p,K L->K (dZ L p)) (ht:∀L,K L->AY L (t L)) {L:ck}(k:K L) {n:Nat}(hL:∀l∈L,∀p∈l,0<=p/\p<(n:Int)):
  (dN n).find? (lU L)=some (gy t (dg 0 n) L):=by
 have T:=ht L k;have inr:∀S,J4 L S->S.length=t L->∀q∈S,q∈dg 0 n:=λS hS eS q hq=>by
  by_cases h:∃l∈L,q∈l
  ·obtain⟨l,hl,hq⟩:=h;have:=hL l hl q hq;exact(LW.f6 n 0 q).mpr (by omega)
  ·exfalso;have:=T.all (S.erase q) (λl hl=>by
    obtain⟨z,hz,zs⟩:=hS l hl;refine⟨z,hz,(List.mem_erase_of_ne ?_).mpr zs⟩
    rintro rfl
    exact h ⟨l,hl,hz⟩)
   rw[List.length_erase_of_mem hq]at this;have:=List.length_pos_of_mem hq;omega
 have g:=yI K hK ht (dg 0 n) L k inr (iH (fc n 0));have cm:=gr _ _ _ (List.mem_of_find?_eq_some g);unfold dN;rw[vk];have le:t L<=n:=by
  by_cases h:t L<=n
  ·exact h
  ·rw[ky _ _ (by rw[dQ];omega)]at g
   cases g
 have sp:List.range (n+1)=List.range (t L)++(t L)::(List.range (n-t L)).map (·+(t L+1)):=by
  have:=List.range_add (n:=t L) (m:=n+1-t L);rw[show t L+(n+1-t L)=n+1 by omega]at this
  rw[this,show n+1-t L=(n-t L)+1 by omega,List.range_succ_eq_map]
  simp;intro a _;omega
 rw[sp,List.findSome?_append,List.findSome?_cons,g];have:(List.range (t L)).findSome? (λa=>(comb a (dg 0 n)).find? (lU L))=none:=by
  rw[List.findSome?_eq_none_iff];intro a ha;rw[List.find?_eq_none];intro x hx z;have:=T.all x (vm.mp z);rw[(gr _ _ _ hx).1]at this;have:=List.mem_range.mp ha;omega
 rw[this];rfl
theorem M5 {α:Type}(f:α->Nat):∀l:List α,l≠[]->∃a∈l,∀b∈l,f a<=f b
 |[],h=>absurd rfl h
 |[a],_=>⟨a,af,λb hb=>by rw[bt]at hb;subst hb;exact au _⟩
 |a::c::r,_=>by
  obtain⟨m,hm,h⟩:=M5 f (c::r) (by simp)
  by_cases hc:f a<=f m
  ·refine⟨a,af,λb hb=>?_⟩
   rcases List.mem_cons.mp hb with rfl|hb
   ·exact au _
   ·exact aD hc (h b hb)
  ·refine⟨m,ai _ hm,λb hb=>?_⟩
   rcases List.mem_cons.mp hb with rfl|hb
   ·omega
   ·exact h b hb
theorem M6:∀(n:Nat) (L:ck),L.length<=n->(∀l∈L,l≠[])->∃t,AY L t
 |0,L,h,_=>by
  have:L=[]:=List.length_eq_zero_iff.mp (by omega)
  subst this;exact⟨0,AY.nil⟩
 |n+1,[],_,_=>⟨0,AY.nil⟩
 |n+1,l::L,h,ne=>by
  have ih:∀p,∃t,p∈l->AY (dZ (l::L) p) t:=λp=>by
   by_cases hp:p∈l
   ·have hl:=EH (L:=l::L) (l:=l) af hp;obtain⟨t,ht⟩:=M6 n (dZ (l::L) p) (by omega) (λk hk=>ne k (lH.mp hk).1)
    exact⟨t,λ_=>ht⟩
   ·exact⟨0,λz=>absurd z hp⟩
  have⟨f,hf⟩:=Classical.axiomOfChoice ih;obtain⟨p,hp,hm⟩:=M5 f l (ne l af);exact⟨f p+1,AY.step af (λq hq=>hf q hq) ⟨p,hp,rfl⟩ hm⟩
open Classical in
noncomputable def ik (L:ck):Nat:=if h:∃t,AY L t then h.choose else 0
theorem Cp (ne:∀l∈L,l≠[]):AY L (ik L):=by
 have h:=M6 _ L (au _) ne;unfold ik;rw[dif_pos h];exact h.choose_spec
noncomputable def M7 (v:List Nat):List Nat:=v.zipWith (·+·) (0::v)
def S1:Nat->List Nat
 |0=>[1,0,0,0,0,0,0]
 |n+1=>M7 (S1 n)
theorem AZ:∀s:cn,(List.range 7).map (λk=>(comb k s).length)=S1 s.length
 |[]=>rfl
 |p::r=>by
  have ih:=AZ r;show _=M7 (S1 r.length);rw[<-ih];have z:∀s:cn,comb 0 s=[[]]:=λs=>by cases s<;>rfl
  have e:∀k,(comb (k+1) (p::r)).length=(comb k r).length+(comb (k+1) r).length:=λk=>by simp[comb]
  simp[List.range,List.range.loop,M7,e,z,Nat.add_comm]
def J5:ck:=(List.range 7).flatMap λk=>comb k (dg 1 31)
theorem M8:J5.length=942649:=by
 unfold J5;rw[List.length_flatMap,AZ,dQ]
 decide
def mW (L:ck):cn:=sortI (L.map λl=>(code l 5:Int))
structure FK (L:ck):Prop where
 ne:∀l∈L,l≠[]
 rise:∀l∈L,eZ l
 Pu:∀l∈L,∀p∈l,0<=p/\p<5
 lex:L.Pairwise λa b=>HT.lexLt a b=true
 QB:L.length<=6
theorem FK.less (h:FK L) (p:Int):FK (dZ L p):=
 ⟨λl hl=>h.ne l (lH.mp hl).1,λl hl=>h.rise l (lH.mp hl).1,λl hl=>h.Pu l (lH.mp hl).1,List.Pairwise.filter _ h.lex,aD (aW _ _) h.QB⟩
theorem Iz (ra:eZ a) (rb:eZ b) (ia:∀p∈a,0<=p/\p<5) (ib:∀p∈b,0<=p/\p<5) (e:code a 5=code b 5):a=b:=by
 refine jQ ra rb λp=>?_
 constructor
 ·intro h;obtain⟨h0,h5⟩:=ia p h;have:=(code_inj 5 e p.toNat (by omega)).mp (by rw[Int.toNat_of_nonneg h0];exact h)
  rwa [Int.toNat_of_nonneg h0]at this
 ·intro h;obtain⟨h0,h5⟩:=ib p h;have:=(code_inj 5 e p.toNat (by omega)).mpr (by rw[Int.toNat_of_nonneg h0];exact h)
  rwa [Int.toNat_of_nonneg h0]at this
theorem M9 (ne:l≠[]) (r:eZ l) (i:∀p∈l,0<=p/\p<5):1<=code l 5:=by
 rcases Nat.eq_zero_or_pos (code l 5)with h|h
 ·exfalso;refine ne (Iz r List.Pairwise.nil i (λp h=>by cases h) (by rw[h];rfl))
 ·exact h
theorem vn (h:FK L):mW L∈J5:=by
 have nd:L.Nodup:=ve h.lex;have hn:(L.map λl=>(code l 5:Int)).Nodup:=by
  have gen:∀K:ck,(∀l∈K,l∈L)->K.Nodup->(K.map λl=>(code l 5:Int)).Nodup:=by
   intro K;induction K with
   |nil=>intro _ _;exact List.nodup_nil
   |cons a K ih=>
    intro sub nk;rw[aF,List.nodup_cons];refine⟨λhm=>?_,ih (λl hl=>sub l (ai _ hl)) (List.nodup_cons.mp nk).2⟩
    obtain⟨b,hb,eb⟩:=List.mem_map.mp hm;have Kk:=sub b (ai _ hb);have Vv:=sub a af;have:b=a:=Iz (h.rise b Kk) (h.rise a Vv) (h.Pu b Kk) (h.Pu a Vv) (by omega)
    subst this;exact(List.nodup_cons.mp nk).1 hb
  exact gen L (λ_ h=>h) nd
 have ps:=sortI_perm (L.map λl=>(code l 5:Int))
 have rs:eZ (mW L):=LW.jC hn;unfold J5;refine List.mem_flatMap.mpr ⟨(mW L).length,?_,?_⟩
 ·have:(mW L).length=L.length:=by unfold mW;rw[ps.length_eq,ae]
  have:=h.QB;rw[List.mem_range];omega
 ·refine rO _ _ _ ?_ rfl;have e:mW L=(dg 1 31).filter λp=>decide (p∈mW L):=jQ rs (List.Pairwise.filter _ (fc _ _)) λp=>by
   rw[List.mem_filter];constructor
   ·intro hp;refine⟨?_,by simpa using hp⟩
    obtain⟨l,hl,rfl⟩:=List.mem_map.mp (ps.mem_iff.mp hp);have h1:=M9 (h.ne l hl) (h.rise l hl) (h.Pu l hl);have h2:=rG l 5;exact(LW.f6 31 1 _).mpr (by omega)
   ·intro hp;simpa using hp.2
  rw[e];exact List.filter_sublist
theorem J6 (h:FK L) (k:FK K) (e:mW L=mW K):L=K:=by
 refine Ih h.lex k.lex λa=>?_
 have m:∀x:Int,x∈(L.map λl=>(code l 5:Int))↔x∈(K.map λl=>(code l 5:Int)):=λx=>by
  rw[<-(sortI_perm (L.map λl=>(code l 5:Int))).mem_iff,<-(sortI_perm (K.map λl=>(code l 5:Int))).mem_iff]
  show x∈mW L↔x∈mW K;rw[e]
 constructor
 ·intro ha;obtain⟨b,hb,eb⟩:=List.mem_map.mp ((m _).mp (List.mem_map.mpr ⟨a,ha,rfl⟩));have:b=a:=Iz (k.rise b hb) (h.rise a ha) (k.Pu b hb) (h.Pu a ha) (by omega)
  rwa [this]at hb
 ·intro ha;obtain⟨b,hb,eb⟩:=List.mem_map.mp ((m _).mpr (List.mem_map.mpr ⟨a,ha,rfl⟩));have:b=a:=Iz (h.rise b hb) (k.rise a ha) (h.Pu b hb) (k.Pu a ha) (by omega)
  rwa [this]at hb
open Classical in
def WF (k:D):Option D:=match k with
 |.tup ds=>match linesOf ds with
  |some L=>if FK L then some (.int (ik L:Int))else none
  |none=>none
 |_=>none
theorem wY (h:WF k=some d):∃L,k=.tup (L.map tupI)/\FK L/\d=.int (ik L:Int):=by
 unfold WF at h;split at h
 ·rename_i ds;split at h
  ·rename_i L hL;split at h
   ·rename_i hk;cases h;exact⟨L,by rw[sQ hL],hk,rfl⟩
   ·cases h
  ·cases h
 ·cases h
theorem GY (h:FK L):WF (.tup (L.map tupI))=some (.int (ik L:Int)):=by
 unfold WF;simp only[lB];rw[if_pos h]
def S2 (k:D):Nat:=match k with
 |.tup ds=>match linesOf ds with
  |some L=>J5.idxOf (mW L)
  |none=>0
 |_=>0
theorem yJ (L:ck):S2 (.tup (L.map tupI))=J5.idxOf (mW L):=by
 unfold S2;simp only[lB]
theorem Pw {l:ck}{a b:cn}(ha:a∈l) (hb:b∈l) (e:l.idxOf a=l.idxOf b):a=b:=by
 have h1:=List.getElem_idxOf (List.idxOf_lt_length_iff.mpr ha);have h2:=List.getElem_idxOf (List.idxOf_lt_length_iff.mpr hb);rw[<-h1,<-h2];simp only[e]
def gJ:dP where
 W:=WF
 enc:=S2
 N:=942649
 hN:=by decide
 lt:=λk d h=>by
  obtain⟨L,rfl,hk,rfl⟩:=wY h;rw[yJ,<-M8];exact List.idxOf_lt_length_iff.mpr (vn hk)
 inj:=λk k' d d' h h' e=>by
  obtain⟨L,rfl,hk,rfl⟩:=wY h;obtain⟨K,rfl,oY,rfl⟩:=wY h';rw[yJ,yJ]at e;have:mW L=mW K:=Pw (vn hk) (vn oY) e;rw[J6 hk oY this]
 key:=λk d h=>by
  obtain⟨L,rfl,hk,rfl⟩:=wY h;have:=Cd L 0;have k2:oi (.tup (L.map tupI))=true/\eh (.tup (L.map tupI))<=eh (uf L 0):=by
   unfold uf at this ⊢;constructor
   ·have:=this.1;simp only[oi,nq,Bool.and_eq_true]at this ⊢;exact this.1
   ·simp only[eh,ju];omega
  exact⟨k2.1,aD k2.2 this.2⟩
end GP
namespace K9
open PySem DL GP PW
def CU:cu->dP:=λ_=>gJ
def MoF:fE->Option dP:=λ_=>some gJ
def Px (G:D):bZ:=(du lN (eO 1 G fI (aO (cO 0) (aO (eT aY) (aO (du gM (dk 2) (dC (.int 1))) aY)))) (dC (.int 0)))
def Py (G:D):bZ:=(du lN (eO 1 G fI (aO (eT aY) (aO (cO 0) (aO (du gM (dk 2) (dC (.int 1))) aY)))) (dC (.int 1)))
def ft:cc
 |[.tup [.int w,G],p]=>if w=0 then Px G [.dat p,.memo [],.dat G]else Py G [.dat p,.memo [],.dat G]
 |_=>none
noncomputable def S3 (G:D):D:=.tup [.int 0,G]
noncomputable def S4 (G:D):D:=.tup [.int 1,G]
theorem yK:∀ds d,ft (.tup [.int w,G]::ds)=some d->ds.length=1:=λds d q=>by
 unfold ft at q;split at q
 ·rename_i e;cases e;rfl
 ·cases q
end K9
namespace K9
open PySem DL GP PC PW
open LW (dX eY fT)
open L2 (mq Ac)
def nD:bY:=
  (eM (cN my (aO (dL (dU (iT (cO 0)) 2 (qB (du BE (dk 1) (dk 2))) (cO 2))) aY)))
def iZ:bY:=
  nD
def eC:cc:=iA 3 2 iZ
def oF (G:D) (de:cc):bY:=
  (eM (Tq (qB (eO 3 G ft (aO (cO 0) aY))) (cO 0) (dC .eV)))
def gK (G:D) (de:cc):bY:=
  (oR (qB (du lN (dk 2) (dC (.int 0)))) (oF G de) jH)
def vo (G:D) (de:cc):bY:=
  (eM (dC .eV))
def gL (G:D) (de:cc):bY:=
  (oR (qo (qB (eO 3 G ft (aO (du mF (dk 0) (dk 1)) aY)))) (vo G de) jH)
def kH (G:D) (de:cc):bY:=
  (j8 5 (eO 3 G de (aO (du mF (dk 0) (eT (aO (du gM (dk 1) (dk 4)) aY))) (aO (DJ (dk 1) (zu (du jt (dk 4) (dC (.int 1)))) OB) (aO (du sI (dk 2) (dC (.int 1))) aY)))))
def vp (G:D) (de:cc):bY:=
  (eM (cO 5))
def oG (G:D) (de:cc):bY:=
  (oR (qB (du Ox (dk 5) (dC .eV))) (vp G de) jH)
def fN (G:D) (de:cc):bY:=
  (eI (kH G de)
  (oG G de))
def kI (G:D) (de:cc):bY:=
  (oT 4 (uQ (aO (cN iB (aO (dk 1) aY)) aY)) (fN G de))
def vq (G:D) (de:cc):bY:=
  (eM (dC .eV))
def fO (G:D) (de:cc):bY:=
  (eI (gK G de)
  (eI (gL G de)
  (eI (kI G de)
  (vq G de))))
def dB:Nat->cc
 |0=>λ_=>none
 |n+1=>wb 6 4 3 (λG=>fO G (dB n))
def kJ (G:D):bY:=
  (j8 3 (eO 1 G (dB 7) (aO (eT aY) (aO (AO (aO (du gM (dk 0) (dC (.int 0))) aY)) (aO (cO 2) aY)))))
def vt (G:D):bY:=
  (eM (cO 3))
def vv (G:D):bY:=
  (oR (qB (du Ox (dk 3) (dC .eV))) (vt G) jH)
def eG (G:D):bY:=
  (eI (kJ G)
  (vv G))
def kK (G:D):bY:=
  (oT 2 (uQ (aO (du jt (du gM (dk 0) (dC (.int 0))) (dC (.int 1))) aY)) (eG G))
def vw (G:D):bY:=
  (eM (dC .eV))
def g8 (G:D):bY:=
  (eI (kK G)
  (vw G))
def eL:cc:=wb 4 2 1 g8
def sv:bY:=
  (nr 1 (cO 0) (λG=>eM (wa 1 0 G eL (S3 G) (du gM (dk 0) (dC (.int 0))))))
def i4:cc:=iA 2 1 sv
def IA:bY:=
  (nr 1 (cO 0) (λG=>eM (wa 1 0 G eL (S4 G) (du gM (dk 0) (dC (.int 0))))))
def nT:cc:=iA 2 1 IA
def uz (M:dP) (dA:cc):bY:=
  (eM (dC (.int 0)))
def gw (M:dP) (dA:cc):bY:=
  (oR (qB (du lN (cN iB (aO (dk 0) aY)) (dC (.int 0)))) (uz M dA) jH)
def j3 (M:dP) (dA:cc):bY:=
  (j8 2 (wX (dk 0)))
def j4 (M:dP) (dA:cc):bY:=
  (ji M 1 (cO 0) (du jt (dC (.int 1)) (cN xP (aO (dL (dU (iT (cO 2)) 3 jd (jM 1 CU dA M (aO (cN eC (aO (cO 0) (aO (cO 3) aY))) aY)))) aY))))
def j5 (M:dP) (dA:cc):bY:=
  (kW 1 [2,3] (cO 0) (eI (j3 M dA)
  (j4 M dA)))
def nE (M:dP) (dA:cc):bY:=
  (eM (jL M 1 (cO 0)))
def fW (M:dP) (dA:cc):bY:=
  (eI (gw M dA)
  (eI (j5 M dA)
  (nE M dA)))
def dJ:Nat->cc
 |0=>λ_=>none
 |n+1=>Aq 4 2 1 CU (λM=>fW M (dJ n))
def Ba:bY:=
  (j8 1 (eT aY))
def Bb:bY:=
  (j8 2 (du gM (dk 0) (dC (.int 1))))
def vy (M:dP):bY:=
  (j8 5 (cN eC (aO (cO 2) (aO (cO 4) aY))))
def vz (M:dP):bY:=
  (j8 1 (du mF (dk 1) (eT (aO (cO 4) aY))))
def J7 (M:dP):bY:=
  (j8 2 (cO 5))
def vA (M:dP):bY:=
  (oR (qB (du WG (jM 3 CU (dJ 8) M (aO (cO 5) aY)) (jM 3 CU (dJ 8) M (aO (cO 2) aY)))) (eI (vz M)
  (J7 M)) jH)
def iQ (M:dP):bY:=
  (eI (vy M)
  (vA M))
def Bc (M:dP):bY:=
  (oT 4 (uQ (aO (du gM (dk 0) (dC (.int 0))) aY)) (iQ M))
def J8 (M:dP):bY:=
  (eM (cO 1))
def kL (M:dP):bY:=
  (eI (Bc M)
  (J8 M))
def uA:bY:=
  (eI Ba
  (eI Bb
  (qt 3 MoF (λM=>(kL M)))))
def rS:cc:=iA 6 1 uA
def sA:bY:=
  (j9 1 (zr aY))
def zL:bY:=
  (zt 1 (cN my (aO (dL (dU (uQ (aO (cO 0) aY)) 3 (qB (du lN (du Vo (du Vn (dk 2) (dk 3)) (dC (.int 1))) (dC (.int 1)))) (cO 3))) aY)))
def qU:bY:=
  zL
def sC:bY:=
  (oT 2 (uQ (aO (du Vl (dC (.int 1)) (dk 0)) aY)) qU)
def sD:bY:=
  (eM (dL (sS [5,4] (iL (dL (gx (dL (dU (iL (dk 1)) 4 jd (eT (aO (cN iB (aO (dk 4) aY)) (aO (cO 4) aY)))))))) (cO 4))))
def mn:bY:=
  (eI sA
  (eI sC
  sD))
def lI:cc:=iA 6 1 mn
def Cq:bY:=
  (j8 2 (cN fT (aO (cO 1) (aO (dC (.int 1)) (aO (dC (.int 5)) (aO (dC (.int 6)) aY))))))
def IB:bY:=
  (j8 3 (du gM (dk 2) (dC (.int 0))))
def Cr:bY:=
  (j8 4 (cN lI (aO (du gM (dk 3) (dC (.int 0))) aY)))
def Ct:bY:=
  (j9 5 (du Jo (dL (dU (iL (dk 4)) 8 (pY (qT (du gM (dk 3) (dC (.int 1)))) (qB (du lN (cN dR (aO (cO 2) (aO (cO 8) (aO (eT aY) (aO (du gM (dk 2) (dC (.int 1))) aY))))) (dC (.int 0))))) (cO 8))) (dL (zr (aO (dC .eV) aY)))))
def Pz:bY:=
  (eM (dC (.bl false)))
def Cu:bY:=
  (oR (Oo (qB (du Ai (cN i4 (aO (cO 2) aY)) (du gM (dk 5) (dC (.int 0))))) (qB (du Ai (du lN (du gM (dk 5) (dC (.int 0))) (eT aY)) (du lN (cN lF (aO (cO 2) aY)) (dC (.int 0)))))) Pz jH)
def Cv:bY:=
  (j9 6 (dU (iL (dk 4)) 8 (qB (du lN (cN dR (aO (cO 2) (aO (eT aY) (aO (cO 8) (aO (du gM (dk 2) (dC (.int 1))) aY))))) (dC (.int 1)))) (cO 8)))
def PH:bY:=
  (eM (dC (.bl false)))
def Cw:bY:=
  (oR (Oo (qB (du Ai (cN nT (aO (cO 2) aY)) (du gM (dk 6) (dC (.int 0))))) (qB (du Ai (du lN (du gM (dk 6) (dC (.int 0))) (eT aY)) (du lN (cN lF (aO (cO 2) aY)) (dC (.int 1)))))) PH jH)
def EJ:bY:=
  (j9 7 (zr aY))
def EK:bY:=
  (zt 7 (cO 8))
def yL:bY:=
  (oR (qo (qT (dL (dU (iT (du gM (dk 3) (dC (.int 1)))) 10 (qo (qT (dL (dU (iT (cO 10)) 9 (qB (du BD (dk 9) (dk 8))) (cO 9))))) (cO 10))))) EK jH)
def mX:bY:=
  yL
def yM:bY:=
  (oT 8 (iL (cO 4)) mX)
def Na:bY:=
  (eM (dC (.bl false)))
def yN:bY:=
  (oR (Oo (qB (du Ai (cN rS (aO (cO 3) aY)) (du gM (dk 7) (dC (.int 0))))) (Oo (qB (du Om (cN iB (aO (cN nT (aO (cO 2) aY)) aY)) (cN iB (aO (du gM (dk 7) (dC (.int 0))) aY)))) (qB (du Ai (cN kz (aO (cO 2) (aO (eT aY) (aO (du gM (dk 7) (dC (.int 0))) aY)))) (dC (.int 1)))))) Na jH)
def oH:bY:=
  (eI Cq
  (eI IB
  (eI Cr
  (eI Ct
  (r6 5 (eI Cu
  (eI Cv
  (r6 6 (eI Cw
  (eI EJ
  (eI yM
  yN)))))))))))
def yO:bY:=
  (oT 1 (iL (dL (OD (dk 0) OB (zu (dC (.int 2)))))) oH)
def Nb:bY:=
  (eM (dC (.bl true)))
def Cy:bY:=
  (eI yO
  Nb)
def IC:cc:=iA 11 1 Cy
def nU:Option (cn)->D
 |none=>.eV
 |some l=>tupI l
theorem vB (hl:ds.length+1=np) (hj:j<np) (h:fb G (startM n np j ds)=some (.ret d)):wb n np j fb (G::ds)=some d:=by
 show(if ds.length+1=np/\j<np then _ else _)=_
 rw[if_pos ⟨hl,hj⟩,h]
def outF (o:Option (cn)) (δ:fE):Option R:=match o with
 |some l=>some (.ret (tupI l))
 |none=>some (.next δ)
structure Nc (many:Int) (l:cn):Prop where
 r:eZ l
 i:∀p∈l,0<=p/\p<many
theorem Nd (h:mq l k=some p):gM (tupI l) (.int k)=some (.int p):=by
 show mq (l.map D.int) k=_;have:mq (l.map D.int) k=(mq l k).map D.int:=by
  unfold mq Ac;simp only[ae];split
  ·split
   ·simp
   ·rfl
  ·split
   ·simp
   ·rfl
 rw[this,h];rfl
section
variable {Gc:D}{E:cn->Bool}{many:Int}
theorem S5 {rc:cc}{h c:cn}{k j:Nat}{p:Int}{x5:Sl}(hl:h.length+c.length<60) (hj:j<c.length) (hp:c[j]? =some p) {o:Option (cn)}(hr:rc [Gc,tupI (h++[p]),tupI (c.drop (j+1)),.int (k:Int)]=some (nU o)):
  fN Gc rc [cK h,cK c,cJ ((k:Int)+1),.memo [],cJ (j:Int),x5]=outF o [cK h,cK c,cJ ((k:Int)+1),.memo [],cJ (j:Int),.dat .eV]:=by
 have YK:mq c (j:Int)=some p:=by rw[LW.Ia c j hj,hp]
 have i0:du gM (dk 1) (dk 4) [cK h,cK c,cJ ((k:Int)+1),.memo [],cJ (j:Int),x5]=some (.int p):=by
  refine(dO rfl rfl).trans ?_;exact Nd YK
 have i1:du mF (dk 0) (eT (aO (du gM (dk 1) (dk 4)) aY)) [cK h,cK c,cJ ((k:Int)+1),.memo [],cJ (j:Int),x5]=some (tupI (h++[p])):=by
  refine(dO (x:=tupI h) (y:=tupI [p]) rfl ?_).trans ?_
  ·unfold eT;rw[lE i0];rfl
  ·exact oy (by simp;omega)
 have i2:DJ (dk 1) (zu (du jt (dk 4) (dC (.int 1)))) OB [cK h,cK c,cJ ((k:Int)+1),.memo [],cJ (j:Int),x5]=some (tupI (c.drop (j+1))):=by
  show some (D.tup (cutD (c.map D.int) (some ((j:Int)+1)) none))=_;rw[Er c j hj];rfl
 have i3:du sI (dk 2) (dC (.int 1)) [cK h,cK c,cJ ((k:Int)+1),.memo [],cJ (j:Int),x5]=some (.int (k:Int)):=by
  show some (D.int ((k:Int)+1-1))=_
  congr 2;omega
 have km:eO 3 Gc rc (aO (du mF (dk 0) (eT (aO (du gM (dk 1) (dk 4)) aY))) (aO (DJ (dk 1) (zu (du jt (dk 4) (dC (.int 1)))) OB) (aO (du sI (dk 2) (dC (.int 1))) aY))) [cK h,cK c,cJ ((k:Int)+1),.memo [],cJ (j:Int),x5]=some (nU o):=by
  show(aO _ _ _).bind _=_;rw[sk i1 (sk i2 (lE i3))];exact hr
 unfold fN;have e5:kH Gc rc [cK h,cK c,cJ ((k:Int)+1),.memo [],cJ (j:Int),x5]=some (.next [cK h,cK c,cJ ((k:Int)+1),.memo [],cJ (j:Int),.dat (nU o)]):=by
  unfold kH;rw[kY km];rfl
 rw[LW.cU e5];unfold oG;cases o with
 |none=>rfl
 |some l=>rfl
theorem Nf {rc:cc}{h c:cn}{k:Nat}(hl:h.length+c.length<60) (f:cn->cn->Option (cn)):∀(js:List Nat) (x4 x5:Sl),(∀j∈js,j<c.length)->(∀j∈js,∀p,c[j]? =some p->rc [Gc,tupI (h++[p]),tupI (c.drop (j+1)),.int (k:Int)]=some (nU (f (h++[p]) (c.drop (j+1)))))->∃y4 y5,
  iV 4 (fN Gc rc) (js.map λ(j:Nat)=>D.int (j:Int)) [cK h,cK c,cJ ((k:Int)+1),.memo [],x4,x5]=outF (js.findSome? (λj=>match c[j]? with
    |some p=>f (h++[p]) (c.drop (j+1))
    |none=>none)) [cK h,cK c,cJ ((k:Int)+1),.memo [],y4,y5]
 |[],x4,x5,_,_=>⟨x4,x5,rfl⟩
 |j::js,x4,x5,hj,hr=>by
  have lt:=hj j af;have hp:c[j]? =some c[j]:=ah lt;have e:=S5 (Gc:=Gc) (x5:=x5) hl lt hp (hr j af _ hp);obtain⟨y4,y5,ih⟩:=Nf (rc:=rc) (k:=k) hl f js (cJ (j:Int)) (.dat .eV) (λa ha=>hj a (ai _ ha)) (λa ha=>hr a (ai _ ha))
  refine⟨y4,y5,?_⟩;rw[aF,List.findSome?_cons,hp];simp only;cases ho:f (h++[c[j]]) (c.drop (j+1))with
  |some l=>
   rw[ho]at e;exact yz (j:=4) (d:=D.int (j:Int)) (δ:=[cK h,cK c,cJ ((k:Int)+1),.memo [],x4,x5]) e
  |none=>
   rw[ho]at e;rw[hU (j:=4) (d:=D.int (j:Int)) (δ:=[cK h,cK c,cJ ((k:Int)+1),.memo [],x4,x5]) e,ih]
theorem ID (hE:∀p,Nc many p->ft [Gc,tupI p]=some (.bl (E p))) (h9:many<=9):∀(n k:Nat) (h c:cn),k<n->Nc many (h++c)->dB n [Gc,tupI h,tupI c,.int (k:Int)]=some (nU (hZ E k h c))
 |0,k,h,c,hk,_=>by omega
 |n+1,k,h,c,hk,hp=>by
  have hlen:h.length+c.length<60:=by
   have:=ue hp.r hp.i;rw[aQ]at this;omega
  have hh:Nc many h:=⟨(List.pairwise_append.mp hp.r).1,λp z=>hp.i p (bC _ z)⟩
  unfold dB;cases k with
  |zero=>
   refine vB rfl (by omega) ?_
   show fO Gc (dB n) [cK h,cK c,cJ 0,.memo [],.no,.no]=_;have e2:gK Gc (dB n) [cK h,cK c,cJ 0,.memo [],.no,.no]=some (.ret (nU (hZ E 0 h c))):=by
    unfold gK;rw[ui rfl];unfold oF;refine gD ?_;have km:eO 3 Gc ft (aO (cO 0) aY) [cK h,cK c,cJ 0,.memo [],.no,.no]=some (.bl (E h)):=hE h hh;unfold Tq;rw[gc km];unfold hZ;cases E h<;>rfl
   unfold fO;rw[iN e2]
  |succ k=>
   refine vB rfl (by omega) ?_
   show fO Gc (dB n) [cK h,cK c,cJ ((k+1:Nat):Int),.memo [],.no,.no]=_;have ek:((k+1:Nat):Int)=(k:Int)+1:=by omega
   rw[ek];have e2:gK Gc (dB n) [cK h,cK c,cJ ((k:Int)+1),.memo [],.no,.no]=some (.next [cK h,cK c,cJ ((k:Int)+1),.memo [],.no,.no]):=by
    unfold gK;have:qB (du lN (dk 2) (dC (.int 0))) [cK h,cK c,cJ ((k:Int)+1),.memo [],.no,.no]=some false:=by
     refine gc ((dO rfl rfl).trans ((j0 _ _).trans ?_));rw[aH (by omega)]
    rw[nz this];rfl
   have km:eO 3 Gc ft (aO (du mF (dk 0) (dk 1)) aY) [cK h,cK c,cJ ((k:Int)+1),.memo [],.no,.no]=some (.bl (E (h++c))):=by
    have:du mF (dk 0) (dk 1) [cK h,cK c,cJ ((k:Int)+1),.memo [],.no,.no]=some (tupI (h++c)):=(dO rfl rfl).trans (oy (by omega))
    show(aO _ _ _).bind _=_;rw[lE this];exact hE _ hp
   unfold fO;rw[LW.cU e2];unfold hZ;cases hq:E (h++c)with
   |false=>
    have e4:gL Gc (dB n) [cK h,cK c,cJ ((k:Int)+1),.memo [],.no,.no]=some (.ret .eV):=by
     unfold gL;have:qo (qB (eO 3 Gc ft (aO (du mF (dk 0) (dk 1)) aY))) [cK h,cK c,cJ ((k:Int)+1),.memo [],.no,.no]=some true:=by
      unfold qo;rw[gc km,hq];rfl
     rw[ui this];rfl
    rw[iN e4];rfl
   |true=>
    have e4:gL Gc (dB n) [cK h,cK c,cJ ((k:Int)+1),.memo [],.no,.no]=some (.next [cK h,cK c,cJ ((k:Int)+1),.memo [],.no,.no]):=by
     unfold gL;have:qo (qB (eO 3 Gc ft (aO (du mF (dk 0) (dk 1)) aY))) [cK h,cK c,cJ ((k:Int)+1),.memo [],.no,.no]=some false:=by
      unfold qo;rw[gc km,hq];rfl
     rw[nz this];rfl
    rw[LW.cU e4];obtain⟨y4,y5,e⟩:=Nf (Gc:=Gc) (rc:=dB n) (h:=h) (c:=c) (k:=k) hlen (hZ E k) (List.range c.length) .no .no (λj hj=>List.mem_range.mp hj) (λj hj p hpj=>by
     refine ID hE h9 n k (h++[p]) (c.drop (j+1)) (by omega) ?_
     have lt:=List.mem_range.mp hj;have sub:((h++[p])++c.drop (j+1)).Sublist (h++c):=by
      rw[List.append_assoc];refine List.Sublist.append_left ?_ h;have:c.drop j=p::c.drop (j+1):=by
       rw[List.drop_eq_getElem_cons lt];rw[ah lt]at hpj;cases hpj;rfl
      show(p::c.drop (j+1)).Sublist c;rw[<-this];exact List.drop_sublist j c
     exact⟨hp.r.sublist sub,λx hx=>hp.i x (sub.mem hx)⟩)
    have it:uQ (aO (cN iB (aO (dk 1) aY)) aY) [cK h,cK c,cJ ((k:Int)+1),.memo [],.no,.no]=some ((List.range c.length).map λ(j:Nat)=>D.int (j:Int)):=by
     have:aO (cN iB (aO (dk 1) aY)) aY [cK h,cK c,cJ ((k:Int)+1),.memo [],.no,.no]=some [.int (c.length:Int)]:=by
      show some [D.int ((c.map D.int).length:Int)]=_;rw[ae]
     unfold uQ;rw[this];show(if _ then some ((dg 0 (c.length:Int).toNat).map D.int)else none)=_
     rw[if_pos ⟨by omega,by omega⟩,Int.toNat_natCast,mj,aV]
     congr 1
     refine bR λj _=>?_
     simp
    have e8:=nC (j:=4) (f:=fN Gc (dB n)) it e;rw[if_pos rfl];cases hz:(List.range c.length).findSome? (λj=>match c[j]? with
      |some p=>hZ E k (h++[p]) (c.drop (j+1))
      |none=>none)with
    |some l=>
     rw[hz]at e8;exact iN (f:=kI Gc (dB n)) e8
    |none=>
     rw[hz]at e8;rw[LW.cU (f:=kI Gc (dB n)) e8];rfl
theorem Ng (hE:∀p,Nc many p->ft [Gc,tupI p]=some (.bl (E p))) (h0:0<=many) (h9:many<=5) (hF:gM F (.int 0)=some (.int many)):∀(ks:List Nat) (x2 x3:Sl),(∀k∈ks,k<7)->∃y2 y3,
  iV 2 (eG Gc) (ks.map λ(k:Nat)=>D.int (k:Int)) [.dat F,.memo [],x2,x3]=outF (ks.findSome? (λk=>hZ E k [] (dg 0 many.toNat))) [.dat F,.memo [],y2,y3]
 |[],x2,x3,_=>⟨x2,x3,rfl⟩
 |k::ks,x2,x3,hk=>by
  obtain⟨y2,y3,ih⟩:=Ng hE h0 h9 hF ks (cJ (k:Int)) (.dat (nU (hZ E k [] (dg 0 many.toNat)))) (λa ha=>hk a (ai _ ha))
  refine⟨y2,y3,?_⟩;have i0:du gM (dk 0) (dC (.int 0)) [.dat F,.memo [],cJ (k:Int),x3]=some (.int many):=(dO rfl rfl).trans hF;have i1:AO (aO (du gM (dk 0) (dC (.int 0))) aY) [.dat F,.memo [],cJ (k:Int),x3]=some (tupI (dg 0 many.toNat)):=by
   unfold AO uQ;rw[lE i0];show(if _ then some ((dg 0 many.toNat).map D.int)else none).bind _=_
   rw[if_pos ⟨by omega,by omega⟩]
   simp only[ao,ae,dQ];rw[if_pos (by omega)]
   rfl
  have km:eO 1 Gc (dB 7) (aO (eT aY) (aO (AO (aO (du gM (dk 0) (dC (.int 0))) aY)) (aO (cO 2) aY))) [.dat F,.memo [],cJ (k:Int),x3]=some (nU (hZ E k [] (dg 0 many.toNat))):=by
   show(aO _ _ _).bind _=_;rw[sk (x:=tupI []) rfl (sk i1 (lE (x:=.int (k:Int)) rfl))];refine ID hE (by omega) 7 k [] _ (hk k af) ⟨?_,λp hp=>?_⟩
   ·exact fc _ _
   ·have:=(LW.f6 _ _ _).mp hp;omega
  have e1:kJ Gc [.dat F,.memo [],cJ (k:Int),x3]=some (.next [.dat F,.memo [],cJ (k:Int),.dat (nU (hZ E k [] (dg 0 many.toNat)))]):=by
   unfold kJ;rw[kY km];rfl
  rw[aF,List.findSome?_cons];cases ho:hZ E k [] (dg 0 many.toNat)with
  |some l=>
   refine yz (j:=2) (d:=D.int (k:Int)) (δ:=[.dat F,.memo [],x2,x3]) ?_;show eG Gc [.dat F,.memo [],cJ (k:Int),x3]=_;unfold eG;rw[LW.cU e1,ho];rfl
  |none=>
   rw[ho]at ih;rw[hU (j:=2) (d:=D.int (k:Int)) (δ:=[.dat F,.memo [],x2,x3]) (δ':=[.dat F,.memo [],cJ (k:Int),.dat (nU none)]) (by
    show eG Gc [.dat F,.memo [],cJ (k:Int),x3]=_;unfold eG;rw[LW.cU e1,ho];rfl),ih]
theorem IE (hE:∀p,Nc many p->ft [Gc,tupI p]=some (.bl (E p))) (h0:0<=many) (h9:many<=5) (hF:gM F (.int 0)=some (.int many)):eL [Gc,F]=some (nU (Co E many.toNat)):=by
 unfold eL;refine vB rfl (by omega) ?_
 show g8 Gc [.dat F,.memo [],.no,.no]=_;obtain⟨y2,y3,e⟩:=Ng hE h0 h9 hF (List.range (many.toNat+1)) .no .no (λk hk=>by have:=List.mem_range.mp hk;omega)
 have it:uQ (aO (du jt (du gM (dk 0) (dC (.int 0))) (dC (.int 1))) aY) [.dat F,.memo [],.no,.no]=some ((List.range (many.toNat+1)).map λ(k:Nat)=>D.int (k:Int)):=by
  have i0:du gM (dk 0) (dC (.int 0)) [.dat F,.memo [],.no,.no]=some (.int many):=(dO rfl rfl).trans hF;have i1:du jt (du gM (dk 0) (dC (.int 0))) (dC (.int 1)) [.dat F,.memo [],.no,.no]=some (.int (many+1)):=(dO i0 (y:=.int 1) rfl).trans rfl;unfold uQ;rw[lE i1];show(if _ then some ((dg 0 (many+1).toNat).map D.int)else none)=_
  rw[if_pos ⟨by omega,by omega⟩,show(many+1).toNat=many.toNat+1 by omega,mj,aV]
  congr 1
  refine bR λj _=>?_
  simp
 have e4:=nC (j:=2) (f:=eG Gc) it e;unfold g8 Co;cases hz:(List.range (many.toNat+1)).findSome? (λk=>hZ E k [] (dg 0 many.toNat))with
 |some l=>
  rw[hz]at e4;exact iN (f:=kK Gc) e4
 |none=>
  rw[hz]at e4;rw[LW.cU (f:=kK Gc) e4];rfl
end
theorem Nh (hn:L.length<1000):eC [.tup (L.map tupI),.int p]=some (.tup ((dZ L p).map tupI)):=by
 refine LW.eR rfl ?_;show iZ [.dat (.tup (L.map tupI)),cJ p,.no]=_;unfold iZ nD;exact gD ((mS (ij rfl (by rw[ae];omega) (g7 (p:=λl=> !decide (p∈l)) (ψ:=tupI) _ (λl _=>gc ((dO rfl rfl).trans (D8 _ _))) (λl _ _=>rfl)))).trans rfl)
theorem vC:∀(L:ck) (b:cn),∃l,l∈b::L/\lG (tupI b) b.length (L.map tupI)=some (tupI l)
 |[],b=>⟨b,af,rfl⟩
 |c::L,b=>by
  show ∃l,_/\(ur (tupI c)).bind _=_;have hc:ur (tupI c)=some c.length:=by
   show some (c.map D.int).length=_;rw[ae]
  rw[hc];simp only[ao];split
  ·obtain⟨l,hl,e⟩:=vC L c;exact⟨l,ai _ hl,e⟩
  ·obtain⟨l,hl,e⟩:=vC L b;refine⟨l,?_,e⟩;rcases List.mem_cons.mp hl with rfl|hl
   ·exact af
   ·exact ai _ (ai _ hl)
theorem PJ (h:L≠[]) (h6:L.length<=6):∃l∈L,uu (.tup (L.map tupI))=some (tupI l):=by
 cases L with
 |nil=>exact absurd rfl h
 |cons b L=>
  obtain⟨l,hl,e⟩:=vC L b;refine⟨l,hl,?_⟩;show(if(L.map tupI).length<60 then(ur (tupI b)).bind _ else none)=_
  rw[if_pos (by rw[ae];simp at h6;omega)]
  have hc:ur (tupI b)=some b.length:=by
   show some (b.map D.int).length=_;rw[ae]
  rw[hc];exact e
theorem PK:∀(ns:cn),ns≠[]->je ns∈ns/\∀x∈ns,je ns<=x:=λns h=>tY ns h
theorem Wa (h:FK L):oi (.tup (L.map tupI))=true/\eh (.tup (L.map tupI))<=4:=gJ.key _ _ (GY h)
theorem yP (hi:δ[i]? =some (.memo ks)) (hf:f δ=some ds):jM i CU g gJ f δ=g ds:=by
 unfold jM;rw[hi,hf];simp[CU]
theorem Ni (h:FK L) (hr:∀p:Int,∀l∈L,p∈l->rc [.tup ((dZ L p).map tupI)]=some (.int (ik (dZ L p):Int))):fW gJ rc [.dat (.tup (L.map tupI)),.memo [],.no,.no]=some (.ret (.int (ik L:Int))):=by
 have T:=Cp h.ne;have ql:∀x1:Sl,qB (du lN (cN iB (aO (dk 0) aY)) (dC (.int 0))) [.dat (.tup (L.map tupI)),x1,.no,.no]=some (decide (L.length=0)):=λx1=>by
  have:cN iB (aO (dk 0) aY) [.dat (.tup (L.map tupI)),x1,.no,.no]=some (.int (L.length:Int)):=by
   show some (D.int ((L.map tupI).length:Int))=_;rw[ae]
  refine gc ((dO this (y:=.int 0) rfl).trans ((j0 _ _).trans ?_))
  congr 2
  exact decide_eq_decide.mpr (by omega)
 unfold fW;by_cases h0:L=[]
 ·have e2:gw gJ rc [.dat (.tup (L.map tupI)),.memo [],.no,.no]=some (.ret (.int 0)):=by
   unfold gw;rw[ui ((ql _).trans (by rw[h0];rfl))]
   rfl
  rw[iN e2];subst h0;rw[T.uniq AY.nil];rfl
 ·have hl:L.length≠0:=λz=>h0 (List.length_eq_zero_iff.mp z)
  have e2:gw gJ rc [.dat (.tup (L.map tupI)),.memo [],.no,.no]=some (.next [.dat (.tup (L.map tupI)),.memo [],.no,.no]):=by
   unfold gw;rw[nz ((ql _).trans (by rw[aH hl]))]
   rfl
  rw[LW.cU e2];obtain⟨l,hm,em⟩:=PJ h0 h.QB;have e3:j3 gJ rc [.dat (.tup (L.map tupI)),.memo [],.no,.no]=some (.next [.dat (.tup (L.map tupI)),.memo [],cK l,.no]):=by
   unfold j3;have:wX (dk 0) [.dat (.tup (L.map tupI)),.memo [],.no,.no]=some (tupI l):=em;rw[kY this];rfl
  have ln:=h.ne l hm;have l5:l.length<=5:=by have:=ue (many:=5) (h.rise l hm) (h.Pu l hm);exact this
  have ec:dU (iT (cO 2)) 3 jd (jM 1 CU rc gJ (aO (cN eC (aO (cO 0) (aO (cO 3) aY))) aY)) [.dat (.tup (L.map tupI)),.memo [],cK l,.no]=some ((l.map λp=>(ik (dZ L p):Int)).map D.int):=by
   refine ij rfl (by rw[ae];omega) ?_
   refine(g7 (p:=λ_=>true) (ψ:=λp=>D.int (ik (dZ L p):Int)) l (λ_ _=>rfl) (λp hp _=>?_)).trans ?_
   ·have kw:cN eC (aO (cO 0) (aO (cO 3) aY)) ([Sl.dat (.tup (L.map tupI)),.memo [],cK l,.no].set 3 (cJ p))=some (.tup ((dZ L p).map tupI)):=(dE rfl).trans (Nh (by have:=h.QB;omega))
    exact(yP rfl (lE kw)).trans (hr p l hm hp)
   ·rw[List.filter_eq_self.mpr (λ_ _=>rfl),aV]
    rfl
  have nn:(l.map λp=>(ik (dZ L p):Int))≠[]:=λz=>ln (List.map_eq_nil_iff.mp z)
  have mo:=PK _ nn;obtain⟨p0,V9,e0⟩:=List.mem_map.mp mo.1;have TT:AY L (ik (dZ L p0)+1):=AY.step hm (f:=λp=>ik (dZ L p)) (λp _=>Cp (h.less p).ne) ⟨p0,V9,rfl⟩ (λp hp=>by
   have:=mo.2 _ (List.mem_map.mpr ⟨p,hp,rfl⟩);rw[<-e0]at this;omega)
  have ev:du jt (dC (.int 1)) (cN xP (aO (dL (dU (iT (cO 2)) 3 jd (jM 1 CU rc gJ (aO (cN eC (aO (cO 0) (aO (cO 3) aY))) aY)))) aY)) [.dat (.tup (L.map tupI)),.memo [],cK l,.no]=some (.int (ik L:Int)):=by
   refine(dO (x:=.int 1) rfl ((mS ec).trans (yD nn))).trans ?_;show some (D.int (1+je _))=_;rw[T.uniq TT,<-e0]
   congr 2
   omega
  have e4:j4 gJ rc [.dat (.tup (L.map tupI)),.memo [],cK l,.no]=some (.next [.dat (.tup (L.map tupI)),.memo [.tup (L.map tupI)],cK l,.no]):=by
   unfold j4 ji;rw[ev];exact if_pos (GY h)
  have ko:=Wa h;have e5:j5 gJ rc [.dat (.tup (L.map tupI)),.memo [],.no,.no]=some (.next [.dat (.tup (L.map tupI)),.memo [.tup (L.map tupI)],.no,.no]):=by
   unfold j5 kW;rw[LW.cU e3,e4];refine if_pos ⟨ko.1,ko.2,rfl,λi s hs=>?_⟩
   match i,hs with
   |0,hs=>exact .inr (.inl hs)
   |1,hs=>exact .inr (.inl hs)
   |2,hs=>cases hs;exact .inl rfl
   |3,hs=>cases hs;exact .inl rfl
   |(i+4),hs=>cases hs
  rw[LW.cU e5];unfold nE;refine gD ?_;exact(if_pos ⟨ko.1,ko.2,bt.mpr rfl⟩).trans (GY h)
theorem Nj:∀(n:Nat) (L:ck),FK L->L.length<n->dJ n [.tup (L.map tupI)]=some (.int (ik L:Int))
 |0,L,_,h=>by omega
 |n+1,L,h,hn=>by
  unfold dJ Aq;rw[if_pos ⟨rfl,by decide⟩]
  have e:=Ni (rc:=dJ n) h (λp l hl hp=>Nj n (dZ L p) (h.less p) (by have:=EH hl hp;omega))
  have s:startM 4 2 1 [D.tup (L.map tupI)]=[.dat (.tup (L.map tupI)),.memo [],.no,.no]:=rfl;rw[s];show(match fW gJ (dJ n) _ with|some (.ret d)=>some d|some (.next _)=>some .eV|_=>none)=_
  rw[e]
theorem GZ:∀(ps:cn) (told:cn) (L:ck) (x4 x5:Sl),FK L->told.length+ps.length<60->∃y4 y5 y2,
  iV 4 (iQ gJ) (ps.map D.int) [.dat F,cK told,.dat (.tup (L.map tupI)),.memo [],x4,x5]=some (.next [.dat F,cK (told++gy ik ps L),y2,.memo [],y4,y5])
 |[],told,L,x4,x5,_,_=>⟨x4,x5,.dat (.tup (L.map tupI)),by simp[iV,gy]⟩
 |p::ps,told,L,x4,x5,h,hl=>by
  have h6:=h.QB;have lt:=h.less p;simp only[ay]at hl;have e3:vy gJ [.dat F,cK told,.dat (.tup (L.map tupI)),.memo [],cJ p,x5]=some (.next [.dat F,cK told,.dat (.tup (L.map tupI)),.memo [],cJ p,.dat (.tup ((dZ L p).map tupI))]):=by
   unfold vy;rw[kY ((dE rfl).trans (Nh (by omega)))]
   rfl
  have k1:jM 3 CU (dJ 8) gJ (aO (cO 5) aY) [.dat F,cK told,.dat (.tup (L.map tupI)),.memo [],cJ p,.dat (.tup ((dZ L p).map tupI))]=some (.int (ik (dZ L p):Int)):=by
   exact(yP rfl (lE rfl)).trans (Nj 8 _ lt (by have:=lt.QB;omega))
  have k2:jM 3 CU (dJ 8) gJ (aO (cO 2) aY) [.dat F,cK told,.dat (.tup (L.map tupI)),.memo [],cJ p,.dat (.tup ((dZ L p).map tupI))]=some (.int (ik L:Int)):=by
   exact(yP rfl (lE rfl)).trans (Nj 8 _ h (by omega))
  have kq:qB (du WG (jM 3 CU (dJ 8) gJ (aO (cO 5) aY)) (jM 3 CU (dJ 8) gJ (aO (cO 2) aY))) [.dat F,cK told,.dat (.tup (L.map tupI)),.memo [],cJ p,.dat (.tup ((dZ L p).map tupI))]=some (decide (ik (dZ L p)<ik L)):=by
   refine gc ((dO k1 k2).trans ?_);show some (D.bl (decide ((ik (dZ L p):Int)<(ik L:Int))))=_
   congr 2
   exact decide_eq_decide.mpr (by omega)
  by_cases fu:ik (dZ L p)<ik L
  ·obtain⟨y4,y5,y2,ih⟩:=GZ (F:=F) ps (told++[p]) (dZ L p) (cJ p) (.dat (.tup ((dZ L p).map tupI))) lt (by simp;omega)
   refine⟨y4,y5,y2,?_⟩;rw[aF,hU (j:=4) (d:=D.int p) (δ:=[.dat F,cK told,.dat (.tup (L.map tupI)),.memo [],x4,x5]) (δ':=[.dat F,cK (told++[p]),.dat (.tup ((dZ L p).map tupI)),.memo [],cJ p,.dat (.tup ((dZ L p).map tupI))]) ?_,ih]
   ·have:gy ik (p::ps) L=p::gy ik ps (dZ L p):=by
     conv=>lhs;unfold gy
     rw[if_pos fu]
    rw[this,List.append_assoc];rfl
   ·show iQ gJ [.dat F,cK told,.dat (.tup (L.map tupI)),.memo [],cJ p,x5]=_;unfold iQ;rw[LW.cU e3];unfold vA;rw[ui (kq.trans (by rw[aR fu]))]
    have e4:vz gJ [.dat F,cK told,.dat (.tup (L.map tupI)),.memo [],cJ p,.dat (.tup ((dZ L p).map tupI))]=some (.next [.dat F,cK (told++[p]),.dat (.tup (L.map tupI)),.memo [],cJ p,.dat (.tup ((dZ L p).map tupI))]):=by
     unfold vz;have:du mF (dk 1) (eT (aO (cO 4) aY)) [.dat F,cK told,.dat (.tup (L.map tupI)),.memo [],cJ p,.dat (.tup ((dZ L p).map tupI))]=some (tupI (told++[p])):=(dO (x:=tupI told) (y:=tupI [p]) rfl rfl).trans (oy (by simp;omega))
     rw[kY this];rfl
    rw[LW.cU e4];rfl
  ·obtain⟨y4,y5,y2,ih⟩:=GZ (F:=F) ps told L (cJ p) (.dat (.tup ((dZ L p).map tupI))) h (by omega)
   refine⟨y4,y5,y2,?_⟩;rw[aF,hU (j:=4) (d:=D.int p) (δ:=[.dat F,cK told,.dat (.tup (L.map tupI)),.memo [],x4,x5]) (δ':=[.dat F,cK told,.dat (.tup (L.map tupI)),.memo [],cJ p,.dat (.tup ((dZ L p).map tupI))]) ?_,ih]
   ·congr 4
    conv=>rhs;unfold gy
    rw[if_neg fu]
   ·show iQ gJ [.dat F,cK told,.dat (.tup (L.map tupI)),.memo [],cJ p,x5]=_;unfold iQ;rw[LW.cU e3];unfold vA;rw[nz (kq.trans (by rw[aH fu]))]
    rfl
theorem PL (h:FK L) (h0:0<=many) (h5:many<=5):rS [LW.eK many L]=some (tupI (gy ik (dg 0 many.toNat) L)):=by
 refine LW.eR rfl ?_;show uA [.dat (LW.eK many L),.no,.no,.no,.no,.no]=_;have e1:Ba [.dat (LW.eK many L),.no,.no,.no,.no,.no]=some (.next [.dat (LW.eK many L),cK [],.no,.no,.no,.no]):=rfl;have e2:Bb [.dat (LW.eK many L),cK [],.no,.no,.no,.no]=some (.next [.dat (LW.eK many L),cK [],.dat (.tup (L.map tupI)),.no,.no,.no]):=rfl;unfold uA;rw[LW.cU e1,LW.cU e2];obtain⟨y4,y5,y2,e⟩:=GZ (F:=LW.eK many L) (dg 0 many.toNat) [] L .no .no h (by rw[dQ];simp;omega)
 have it:uQ (aO (du gM (dk 0) (dC (.int 0))) aY) [.dat (LW.eK many L),cK [],.dat (.tup (L.map tupI)),.memo [],.no,.no]=some ((dg 0 many.toNat).map D.int):=by
  unfold uQ;show(if _ then some ((dg 0 many.toNat).map D.int)else none)=_
  rw[if_pos ⟨by omega,by omega⟩]
 have e7:=nC (j:=4) (f:=iQ gJ) it e;have er:kL gJ [.dat (LW.eK many L),cK [],.dat (.tup (L.map tupI)),.memo [],.no,.no]=some (.ret (tupI (gy ik (dg 0 many.toNat) L))):=by
  unfold kL;rw[LW.cU (f:=Bc gJ) e7];rfl
 unfold qt;show(if _ then((some gJ).bind λM=>(kL M _).bind _)else none)=_
 rw[if_pos ⟨rfl,by simp⟩]
 show(kL gJ [.dat (LW.eK many L),cK [],.dat (.tup (L.map tupI)),.memo [],.no,.no]).bind _=_;rw[er];rfl
def Nk (n k:Nat):cn:=(dg 0 n).filter λp=>decide ((k>>>p.toNat)%2=1)
def vD (n:Nat):cu:=(List.range (2^n)).map λk=>tupI (Nk n k)
def yQ (n:Nat):ck:=(List.range (2^n)).map λk=>((Nk n k).length:Int)::Nk n k
def Cz (n:Nat):ck:=(dN n).map λs=>(s.length:Int)::s
theorem Wb (h:f δ=some (.lst ds)):iL f δ=some ds:=by unfold iL;rw[h]
theorem S6 (n:Nat) (h1:1<=n) (h5:n<=5):lI [.int (n:Int)]=some (.lst ((dN n).map tupI)):=by
 have es:Cz n=fZ (yQ n):=by
  refine fC (R:=λa b=>HT.lexLt b a=false) (λa b h1 h2=>HT.fR h2 h1) (List.Perm.trans ?_ (eE _).symm) ?_ (n8 _)
  ·have:n=1\/n=2\/n=3\/n=4\/n=5:=by omega
   rcases this with rfl|rfl|rfl|rfl|rfl<;>decide +kernel
  ·have:n=1\/n=2\/n=3\/n=4\/n=5:=by omega
   rcases this with rfl|rfl|rfl|rfl|rfl<;>decide +kernel
 refine LW.eR rfl ?_;show mn [cJ (n:Int),.no,.no,.no,.no,.no]=_;have e1:sA [cJ (n:Int),.no,.no,.no,.no,.no]=some (.next [cJ (n:Int),.own [],.no,.no,.no,.no]):=rfl;have e3:sC [cJ (n:Int),.own [],.no,.no,.no,.no]=some (.next [cJ (n:Int),.own (vD n),cJ ((2^n-1:Nat):Int),.no,.no,.no]):=by
  have:n=1\/n=2\/n=3\/n=4\/n=5:=by omega
  rcases this with rfl|rfl|rfl|rfl|rfl<;>kernel_rfl!
 have ec:dU (iL (dk 1)) 4 jd (eT (aO (cN iB (aO (dk 4) aY)) (aO (cO 4) aY))) [cJ (n:Int),.own (vD n),cJ ((2^n-1:Nat):Int),.no,.no,.no]=some ((yQ n).map jn):=by
  have:n=1\/n=2\/n=3\/n=4\/n=5:=by omega
  rcases this with rfl|rfl|rfl|rfl|rfl<;>kernel_rfl!
 have ep:qQ ((yQ n).map jn)=some (yQ n):=by
  have:n=1\/n=2\/n=3\/n=4\/n=5:=by omega
  rcases this with rfl|rfl|rfl|rfl|rfl<;>kernel_rfl!
 have eo:gx (dL (dU (iL (dk 1)) 4 jd (eT (aO (cN iB (aO (dk 4) aY)) (aO (cO 4) aY))))) [cJ (n:Int),.own (vD n),cJ ((2^n-1:Nat):Int),.no,.no,.no]=some ((Cz n).map jn):=by
  have hl:((yQ n).map jn).length<64:=by
   have:n=1\/n=2\/n=3\/n=4\/n=5:=by omega
   rcases this with rfl|rfl|rfl|rfl|rfl<;>decide +kernel
  unfold gx dL;rw[ec];simp only[bA];rw[if_pos hl,ep,es];rfl
 have ef:sS [5,4] (iL (dL (gx (dL (dU (iL (dk 1)) 4 jd (eT (aO (cN iB (aO (dk 4) aY)) (aO (cO 4) aY)))))))) (cO 4) [cJ (n:Int),.own (vD n),cJ ((2^n-1:Nat):Int),.no,.no,.no]=some ((dN n).map tupI):=by
  have it:iL (dL (gx (dL (dU (iL (dk 1)) 4 jd (eT (aO (cN iB (aO (dk 4) aY)) (aO (cO 4) aY))))))) [cJ (n:Int),.own (vD n),cJ ((2^n-1:Nat):Int),.no,.no,.no]=some ((Cz n).map jn):=by
   have:dL (gx (dL (dU (iL (dk 1)) 4 jd (eT (aO (cN iB (aO (dk 4) aY)) (aO (cO 4) aY)))))) [cJ (n:Int),.own (vD n),cJ ((2^n-1:Nat):Int),.no,.no,.no]=some (.lst ((Cz n).map jn)):=by
    show(gx _ _).map D.lst=_;rw[eo];rfl
   exact Wb this
  unfold sS;rw[it];clear es e1 e3 ec ep eo it;have:n=1\/n=2\/n=3\/n=4\/n=5:=by omega
  rcases this with rfl|rfl|rfl|rfl|rfl<;>kernel_rfl!
 unfold mn;rw[LW.cU e1,LW.cU e3];unfold sD;refine gD ?_;show(sS _ _ _ _).map D.lst=_;rw[ef];rfl
def uB (many:Int) (p:cn):cn:=(dg 0 many.toNat).filter λx=>decide (x∈p)
theorem j6 {many:Int}{p:cn}{x:Int}:x∈uB many p↔(0<=x/\x<many)/\x∈p:=by
 unfold uB;rw[List.mem_filter,LW.f6];simp only[decide_eq_true_eq];constructor
 ·rintro⟨h,k⟩;exact⟨by omega,k⟩
 ·rintro⟨h,k⟩;exact⟨by omega,k⟩
theorem vE (many:Int) (p:cn):eZ (uB many p):=List.Pairwise.filter _ (fc _ _)
theorem norm_eq (h:Nc many p):uB many p=p:=jQ (vE _ _) h.r λx=>by
 rw[j6];exact⟨λz=>z.2,λz=>⟨h.i x z,z⟩⟩
theorem Nl (r:eZ p) (i:∀x∈p,0<=x/\x<many):ff many p []:=⟨r,List.Pairwise.nil,i,(λp h=>by cases h),λp _ h=>by cases h⟩
theorem IF (r:eZ p) (i:∀x∈p,0<=x/\x<many):ff many [] p:=⟨List.Pairwise.nil,r,(λp h=>by cases h),i,λp h=>by cases h⟩
theorem G2 (many:Int) (p:cn):ff many (uB many p) []:=Nl (vE _ _) λx hx=>(j6.mp hx).1
theorem G3 (many:Int) (p:cn):ff many [] (uB many p):=IF (vE _ _) λx hx=>(j6.mp hx).1
section
variable {G:Gm}{f:Int}
def E0 (G:Gm) (f:Int) (p:cn):Bool:=decide (G.gW (uB G.many p) [] f=0)
def E1 (G:Gm) (f:Int) (p:cn):Bool:=decide (G.gW [] (uB G.many p) f=1)
theorem Wc (hF:m7 G) (hf:f=0\/f=1):Pr (E0 G f):=λa b hs h=>by
 unfold E0 at *;rw[decide_eq_true_eq]at *;exact mono hF.ok hF.ok (Gm.Le.refl G) (G2 _ _) (G2 _ _) (λp hp=>j6.mpr ⟨(j6.mp hp).1,hs p (j6.mp hp).2⟩) (λp hp=>by cases hp) hf h
theorem Wd (hF:m7 G) (hf:f=0\/f=1):Pr (E1 G f):=λa b hs h=>by
 unfold E1 at *;rw[decide_eq_true_eq]at *;rcases nN hF.ok (G3 G.many b) hf with z|z
 ·have:=mono hF.ok hF.ok (Gm.Le.refl G) (G3 G.many b) (G3 G.many a) (λp hp=>by cases hp) (λp hp=>j6.mpr ⟨(j6.mp hp).1,hs p (j6.mp hp).2⟩) hf z
  omega
 ·exact z
theorem en0 (hF:m7 G) (hf:f=0\/f=1) (p:cn) (hp:Nc G.many p):ft [.tup [.int 0,dG G f],tupI p]=some (.bl (E0 G f p)):=by
 have e:=qP (f:=f) hF (Nl hp.r hp.i) hf;have km:eO 1 (dG G f) fI (aO (cO 0) (aO (eT aY) (aO (du gM (dk 2) (dC (.int 1))) aY))) [cK p,.memo [],.dat (dG G f)]=some (.int (G.gW p [] f)):=e;show Px (dG G f) [cK p,.memo [],.dat (dG G f)]=_;unfold Px E0;rw[norm_eq hp];exact(dO km (y:=.int 0) rfl).trans (j0 _ _)
theorem en1 (hF:m7 G) (hf:f=0\/f=1) (p:cn) (hp:Nc G.many p):ft [.tup [.int 1,dG G f],tupI p]=some (.bl (E1 G f p)):=by
 have e:=qP (f:=f) hF (IF hp.r hp.i) hf;have km:eO 1 (dG G f) fI (aO (eT aY) (aO (cO 0) (aO (du gM (dk 2) (dC (.int 1))) aY))) [cK p,.memo [],.dat (dG G f)]=some (.int (G.gW [] p f)):=e;show Py (dG G f) [cK p,.memo [],.dat (dG G f)]=_;unfold Py E1;rw[norm_eq hp];exact(dO km (y:=.int 1) rfl).trans (j0 _ _)
theorem IG {tag:D->D}{d:D}(el:eL [tag (dG G f),.tup [.int G.many,.tup (G.ls.map tupI)]]=some d):iA 2 1 (nr 1 (cO 0) (λG=>eM (wa 1 0 G eL (tag G) (du gM (dk 0) (dC (.int 0)))))) [dG G f]=some d:=by
 refine LW.eR rfl ?_;show nr 1 (cO 0) _ [.dat (dG G f),.no]=_;have er:(eM (wa 1 0 (dG G f) eL (tag (dG G f)) (du gM (dk 0) (dC (.int 0))))) [.dat (dG G f),.memo []]=some (.ret d):=by
  refine gD ?_;unfold wa;simp only[aK,aM,if_true];exact el
 unfold nr;rw[if_pos ⟨rfl,by simp⟩]
 show((eM _ [.dat (dG G f),.memo []]).bind _)=_;rw[er];rfl
theorem S7 (hF:m7 G) (hf:f=0\/f=1) (h0:0<=G.many) (h5:G.many<=5):i4 [dG G f]=some (nU ((dN G.many.toNat).find? (E0 G f))):=by
 rw[<-AW (Wc hF hf)];have el:=IE (en0 hF hf) h0 h5 (F:=.tup [.int G.many,.tup (G.ls.map tupI)]) rfl;exact IG (tag:=S3) el
theorem Nm (hF:m7 G) (hf:f=0\/f=1) (h0:0<=G.many) (h5:G.many<=5):nT [dG G f]=some (nU ((dN G.many.toNat).find? (E1 G f))):=by
 rw[<-AW (Wd hF hf)];have el:=IE (en1 hF hf) h0 h5 (F:=.tup [.int G.many,.tup (G.ls.map tupI)]) rfl;exact IG (tag:=S4) el
theorem S8 (h:c∈dN n):Nc (n:Int) c:=by
 obtain⟨k,_,hk⟩:=M4.mp h;have m:=(rH (fc n 0) k c).mp (by rw[yn (fc n 0)];exact hk)
 exact⟨m.2.1,λp hp=>by have:=(LW.f6 _ _ _).mp (m.2.2 p hp);omega⟩
theorem PM (hF:m7 G) (hf:f=0\/f=1) (ne:∀l∈G.ls,l≠[]) (hp:Nc G.many p) (hh:J4 G.ls p):G.over [] p=some 1/\E1 G f p=true:=by
 have h0:¬ ∃l∈G.ls,∀q∈l,q∈([]:cn):=by
  rintro⟨l,hl,h⟩
  cases l with
  |nil=>exact ne _ hl rfl
  |cons a r=>have:=h a af;cases this
 have o:=(oA (m:=[]) (y:=p) h0).mpr hh;refine⟨o,?_⟩;unfold E1;rw[norm_eq hp,gq (w:=f) hF.ok (IF hp.r hp.i) o];rfl
end
theorem PN (hf:f δ=some x) (hg:g δ=some y):du o f g δ=o x y:=by
 unfold du;rw[hf,hg];rfl
theorem EL (h:uP i δ=δ'):r6 i f δ=f δ':=by
 unfold r6;rw[h]
theorem Gj (a:α) (l:List α):mq (a::l) 0=some a:=by
 unfold mq Ac;simp
theorem G4 (h:ds.head?=some d):gM (.lst ds) (.int 0)=some d:=by
 cases ds with
 |nil=>cases h
 |cons a r=>
  obtain rfl:a=d:=by simpa using h
  exact Gj a r
theorem Nn (l:ck):(l.map tupI++[D.eV]).head?=some (nU l.head?):=by
 cases l<;>rfl
theorem CA (o:Option (cn)):eh (nU o)<=30:=by
 cases o with
 |none=>simp[nU,eh]
 |some l=>show eh (tupI l)<=30;rw[LW.uc];omega
theorem Np (o:Option (cn)):lN (nU o) (.tup [])=some (.bl (decide (o=some []))):=by
 unfold lN;rw[if_pos (CA o)];cases o with
 |none=>rfl
 |some l=>
  show some (D.bl (jf (tupI l) (tupI [])))=_;rw[LW.ub]
  congr 2
  exact decide_eq_decide.mpr ⟨λh=>by rw[h],λh=>aS h⟩
theorem Nq (b:Bool):Ai (.bl b) (.bl b)=some (.bl false):=qO (by simp[eh])
theorem IH (h:f δ=some ds):qT (dL f) δ=some (!ds.isEmpty):=by
 unfold qT dL;rw[h];cases ds<;>rfl
theorem S9 {f:bZ}{δ:fE}{ds:cu}(h:f δ=some (.tup ds)):qT f δ=some (!ds.isEmpty):=by
 unfold qT;rw[h];cases ds<;>rfl
section
variable {G:Gm}{f:Int}
structure Dr (G:Gm):Prop where
 m1:1<=G.many
 m5:G.many<=5
 num:G.ls.length<=6
 rise:G.ls.Pairwise (λa b=>HT.lexLt a b=true)
 line:∀l∈G.ls,LW.u7 G.many l
 b:1<=G.b/\G.b<=2
 g:1<=G.g/\G.g<=2
theorem Dr.YX (h:Dr G):m7 G:=by
 have:=h.m1;have:=h.m5;have:=h.num;have:=h.b;have:=h.g;exact⟨⟨by omega,by omega,λl hl=>(h.line l hl).YG,λl hl=>by have:=(h.line l hl).four;omega,by omega,by omega,by omega,by omega⟩,by omega,λl hl=>(h.line l hl).rise⟩
theorem Dr.fk (h:Dr G):FK G.ls:=⟨λl hl=>(h.line l hl).ne,λl hl=>(h.line l hl).rise,λl hl p hp=>by have:=(h.line l hl).YG p hp;have:=h.m5;omega,h.rise,h.num⟩
theorem Nr (n:Nat) (h:n<=5):(dN n).length<=32:=by
 have:n=0\/n=1\/n=2\/n=3\/n=4\/n=5:=by omega
 rcases this with rfl|rfl|rfl|rfl|rfl|rfl<;>decide +kernel
theorem J9 (n:Nat):∃r,dN n=[]::r:=by
 unfold dN;rw[List.range_succ_eq_map,List.flatMap_cons];have:∀s:cn,comb 0 s=[[]]:=λs=>by cases s<;>rfl
 rw[this];exact⟨_,rfl⟩
theorem EM:(decide ((dN n).find? p=some []))=p []:=by
 obtain⟨r,e⟩:=J9 n;rw[e,List.find?_cons];cases h:p []with
 |true=>simp
 |false=>
  simp only;rw[aH];intro z;have:=List.find?_some z;rw[h]at this;cases this
theorem Nt (hF:m7 G) (hf:f=0\/f=1) (h:G.ls=[]) (p:cn):E0 G f p=false:=by
 have o:G.over (uB G.many p) []=some 1:=(oA (by rw[h];rintro⟨l,hl,_⟩;cases hl)).mpr (by rw[h];intro l hl;cases hl)
 unfold E0;rw[gq (w:=f) hF.ok (G2 _ _) o];rfl
theorem yR {S C Gd F x4 x5 x6:Sl}{many:Int}{ls:ck}(hl:∀l∈ls,l.length<1000) (hn:ls.length<1000) (hF:F=.dat (LW.eK many ls)):∀(cs acc:ck) (x8 x9 jF:Sl),acc.length+cs.length<1000->∃y8,
  iV 8 mX (cs.map tupI) [S,C,Gd,F,x4,x5,x6,.own (acc.map tupI),x8,x9,jF]=some (.next [S,C,Gd,F,x4,x5,x6,.own ((acc++cs.filter (lU ls)).map tupI),y8,x9,jF])
 |[],acc,x8,x9,jF,_=>⟨x8,by simp[iV]⟩
 |c::cs,acc,x8,x9,jF,ha=>by
  subst hF;simp only[ay]at ha;have inner:∀l:cn,l.length<1000->dU (iT (cO 10)) 9 (qB (du BD (dk 9) (dk 8))) (cO 9) [S,C,Gd,.dat (LW.eK many ls),x4,x5,x6,.own (acc.map tupI),cK c,x9,cK l]=some ((l.filter λp=>decide (p∈c)).map D.int):=λl hl=>by
   refine ij rfl (by rw[ae];omega) ?_
   exact g7 (p:=λp=>decide (p∈c)) (ψ:=D.int) l (λp _=>gc ((dO rfl rfl).trans (Ib p c))) (λp _ _=>rfl)
  have outer:dU (iT (du gM (dk 3) (dC (.int 1)))) 10 (qo (qT (dL (dU (iT (cO 10)) 9 (qB (du BD (dk 9) (dk 8))) (cO 9))))) (cO 10) [S,C,Gd,.dat (LW.eK many ls),x4,x5,x6,.own (acc.map tupI),cK c,x9,jF]=some ((ls.filter λl=>(l.filter λp=>decide (p∈c)).isEmpty).map tupI):=by
   refine ij rfl (by rw[ae];omega) ?_
   refine g7 (p:=λl=>(l.filter λp=>decide (p∈c)).isEmpty) (ψ:=tupI) ls (λl hm=>?_) (λl _ _=>rfl)
   refine(wW (IH (inner l (hl l hm)))).trans ?_;rw[List.isEmpty_map,Bool.not_not]
  have eb:(ls.filter λl=>(l.filter λp=>decide (p∈c)).isEmpty).isEmpty=lU ls c:=by
   rw[Bool.eq_iff_iff];unfold lU;rw[List.isEmpty_iff,List.filter_eq_nil_iff,List.all_eq_true];refine forall_congr' λl=>forall_congr' λ_=>?_
   rw[List.isEmpty_iff,List.filter_eq_nil_iff,bN];simp
  have q:qo (qT (dL (dU (iT (du gM (dk 3) (dC (.int 1)))) 10 (qo (qT (dL (dU (iT (cO 10)) 9 (qB (du BD (dk 9) (dk 8))) (cO 9))))) (cO 10)))) [S,C,Gd,.dat (LW.eK many ls),x4,x5,x6,.own (acc.map tupI),cK c,x9,jF]=some (lU ls c):=by
   refine(wW (IH outer)).trans ?_;rw[List.isEmpty_map,Bool.not_not,eb]
  cases hb:lU ls c with
  |true=>
   obtain⟨y8,ih⟩:=yR (S:=S) (C:=C) (Gd:=Gd) (x4:=x4) (x5:=x5) (x6:=x6) (many:=many) hl hn rfl cs (acc++[c]) (cK c) x9 jF (by simp;omega)
   refine⟨y8,?_⟩;rw[aF,hU (j:=8) (d:=tupI c) (δ:=[S,C,Gd,.dat (LW.eK many ls),x4,x5,x6,.own (acc.map tupI),x8,x9,jF]) (δ':=[S,C,Gd,.dat (LW.eK many ls),x4,x5,x6,.own ((acc++[c]).map tupI),cK c,x9,jF]) ?_,ih,br,hb]
   ·simp
   ·show mX [S,C,Gd,.dat (LW.eK many ls),x4,x5,x6,.own (acc.map tupI),cK c,x9,jF]=_;unfold mX yL;rw[ui (q.trans (by rw[hb]))]
    unfold EK zt;show(if(acc.map tupI).length<1000000 then some (R.next _)else none)=_
    rw[if_pos (by rw[ae];omega),List.map_append]
    rfl
  |false=>
   obtain⟨y8,ih⟩:=yR (S:=S) (C:=C) (Gd:=Gd) (x4:=x4) (x5:=x5) (x6:=x6) (many:=many) hl hn rfl cs acc (cK c) x9 jF (by omega)
   refine⟨y8,?_⟩;rw[aF,hU (j:=8) (d:=tupI c) (δ:=[S,C,Gd,.dat (LW.eK many ls),x4,x5,x6,.own (acc.map tupI),x8,x9,jF]) (δ':=[S,C,Gd,.dat (LW.eK many ls),x4,x5,x6,.own (acc.map tupI),cK c,x9,jF]) ?_,ih,br,hb]
   ·simp
   ·show mX [S,C,Gd,.dat (LW.eK many ls),x4,x5,x6,.own (acc.map tupI),cK c,x9,jF]=_;unfold mX yL;rw[nz (q.trans (by rw[hb]))]
    rfl
abbrev SP (S:Sl) (c f many:Int) (ls:ck) (G:Gm) (T:fE):fE:=S::cJ c::.dat (dG G f)::.dat (LW.eK many ls)::.dat (.lst ((dN many.toNat).map tupI))::T
abbrev SQ (S:Sl) (c f many:Int) (ls:ck) (G:Gm) (q:cn->Bool) (T:fE):fE:=SP S c f many ls G (.dat (.lst (((dN many.toNat).filter q).map tupI++[.eV]))::T)
abbrev SR (S:Sl) (c f many:Int) (ls:ck) (G:Gm) (q:cn->Bool) (T:fE):fE:=SQ S c f many ls G q (.dat (.lst (((dN many.toNat).filter (E1 G f)).map tupI))::T)
theorem Nu (c:Int) (S x2 x3 x4 x5 x6 x7 x8 x9 jF:Sl):∃y2 y3 y4 y5 y6 y7 y8 y9 y10,oH [S,cJ c,x2,x3,x4,x5,x6,x7,x8,x9,jF]=some (.next [S,cJ c,y2,y3,y4,y5,y6,y7,y8,y9,y10]):=by
 obtain⟨many,ls,f,b,g,eg,_,ok⟩:=LW.SE (c:=c) (least:=1) (most:=5) (lines:=6) (by omega) (by omega) (by omega) (by omega) (by omega)
 have f0:=ok.f0;have f1:=ok.f1;have hf:f=0\/f=1:=by omega
 have lo:=ok.field.lo;have hi:=ok.field.hi;have num:=ok.field.num;have dr:Dr ⟨many,ls,b,g⟩:=⟨lo,hi,by show ls.length<=6;omega,ok.field.rise,ok.field.line,⟨ok.b1,ok.b2⟩,⟨ok.g1,ok.g2⟩⟩
 have hF:=dr.YX;have hN:((many.toNat:Nat):Int)=many:=Int.toNat_of_nonneg (by omega)
 have h32:=Nr many.toNat (by omega)
 have Ta:∀p∈dN many.toNat,Nc many p:=λp hp=>by have:=S8 hp;rwa [hN]at this
 let G:Gm:=⟨many,ls,b,g⟩
 have e1:Cq [S,cJ c,x2,x3,x4,x5,x6,x7,x8,x9,jF]=some (.next [S,cJ c,.dat (dG G f),x3,x4,x5,x6,x7,x8,x9,jF]):=by
  unfold Cq;rw[kY ((dE rfl).trans eg)];rfl
 have e2:IB [S,cJ c,.dat (dG G f),x3,x4,x5,x6,x7,x8,x9,jF]=some (.next [S,cJ c,.dat (dG G f),.dat (LW.eK many ls),x4,x5,x6,x7,x8,x9,jF]):=rfl;have e3:Cr [S,cJ c,.dat (dG G f),.dat (LW.eK many ls),x4,x5,x6,x7,x8,x9,jF]=some (.next (SP S c f many ls G [x5,x6,x7,x8,x9,jF])):=by
  have:=S6 many.toNat (by omega) (by omega)
  rw[hN]at this;unfold Cr;rw[kY ((dE rfl).trans this)];rfl
 have wm:∀p∈dN many.toNat,∀y5 y6 y7 y9 y10:Sl,cN dR (aO (cO 2) (aO (cO 8) (aO (eT aY) (aO (du gM (dk 2) (dC (.int 1))) aY)))) (SP S c f many ls G [y5,y6,y7,cK p,y9,y10])=some (.int (G.gW p [] f)):=λp hp y5 y6 y7 y9 y10=>
  (dE (ds:=[dG G f,tupI p,tupI [],.int f]) rfl).trans (nR hF (Nl (Ta p hp).r (Ta p hp).i) hf)
 have wy:∀p∈dN many.toNat,∀y5 y6 y7 y9 y10:Sl,cN dR (aO (cO 2) (aO (eT aY) (aO (cO 8) (aO (du gM (dk 2) (dC (.int 1))) aY)))) (SP S c f many ls G [y5,y6,y7,cK p,y9,y10])=some (.int (G.gW [] p f)):=λp hp y5 y6 y7 y9 y10=>
  (dE (ds:=[dG G f,tupI [],tupI p,.int f]) rfl).trans (nR hF (IF (Ta p hp).r (Ta p hp).i) hf)
 let q0:cn->Bool:=λp=> !(ls.map tupI).isEmpty&&E0 G f p
 have q0e:(dN many.toNat).find? q0=(dN many.toNat).find? (E0 G f):=by
  congr 1
  funext p
  show(!(ls.map tupI).isEmpty&&E0 G f p)=E0 G f p;rw[List.isEmpty_map];cases hl:ls.isEmpty with
  |true=>rw[Nt (G:=G) hF hf (List.isEmpty_iff.mp hl) p];rfl
  |false=>rfl
 have e4:Ct (SP S c f many ls G [x5,x6,x7,x8,x9,jF])=some (.next (SP S c f many ls G [.own (((dN many.toNat).filter q0).map tupI++[.eV]),x6,x7,x8,x9,jF])):=by
  have ec:dU (iL (dk 4)) 8 (pY (qT (du gM (dk 3) (dC (.int 1)))) (qB (du lN (cN dR (aO (cO 2) (aO (cO 8) (aO (eT aY) (aO (du gM (dk 2) (dC (.int 1))) aY))))) (dC (.int 0))))) (cO 8) (SP S c f many ls G [x5,x6,x7,x8,x9,jF])=some (((dN many.toNat).filter q0).map tupI):=by
   refine ij rfl (by rw[ae];omega) ?_
   refine g7 (p:=q0) (ψ:=tupI) _ (λp hp=>?_) (λp _ _=>rfl)
   have t1:qT (du gM (dk 3) (dC (.int 1))) (SP S c f many ls G [x5,x6,x7,cK p,x9,jF])=some (!(ls.map tupI).isEmpty):=S9 rfl;have t2:=gc ((dO (o:=lN) (g:=dC (.int 0)) (y:=.int 0) (wm p hp x5 x6 x7 x9 jF) rfl).trans (j0 _ _));show pY _ _ (SP S c f many ls G [x5,x6,x7,cK p,x9,jF])=some (!(ls.map tupI).isEmpty&&E0 G f p);have e0:E0 G f p=decide (G.gW p [] f=0):=by
    unfold E0;rw[norm_eq (Ta p hp)]
   cases hl:(!(ls.map tupI).isEmpty)with
   |true=>
    rw[hl]at t1;rw[GR t1 t2,e0];rfl
   |false=>
    rw[hl]at t1;rw[MI t1];rfl
  have ed:du Jo (dL (dU (iL (dk 4)) 8 (pY (qT (du gM (dk 3) (dC (.int 1)))) (qB (du lN (cN dR (aO (cO 2) (aO (cO 8) (aO (eT aY) (aO (du gM (dk 2) (dC (.int 1))) aY))))) (dC (.int 0))))) (cO 8))) (dL (zr (aO (dC .eV) aY))) (SP S c f many ls G [x5,x6,x7,x8,x9,jF])=some (((dN many.toNat).filter q0).map tupI++[.eV]):=by
   refine(PN (o:=Jo) (g:=dL (zr (aO (dC .eV) aY))) (x:=.lst (((dN many.toNat).filter q0).map tupI)) (y:=.lst [.eV]) ?_ ?_).trans ?_
   ·show(dU _ _ _ _ _).map D.lst=_;rw[ec];rfl
   ·rfl
   ·show(if _ then some _ else none)=_
    rw[if_pos];have:=aW q0 (dN many.toNat);rw[ae];simp only[ay,List.length_nil];omega
  unfold Ct;rw[qN ed];rfl
 have hd:gM (.lst (((dN many.toNat).filter q0).map tupI++[.eV])) (.int 0)=some (nU ((dN many.toNat).find? (E0 G f))):=by
  refine G4 ((Nn _).trans ?_);rw[List.head?_filter,q0e]
 have hw:=JZ (G:=G) (f:=f) hF hf;have e6:Cu (SQ S c f many ls G q0 [x6,x7,x8,x9,jF])=some (.next (SQ S c f many ls G q0 [x6,x7,x8,x9,jF])):=by
  unfold Cu;have i0:du gM (dk 5) (dC (.int 0)) (SQ S c f many ls G q0 [x6,x7,x8,x9,jF])=some (nU ((dN many.toNat).find? (E0 G f))):=(dO rfl rfl).trans hd;have t1:=gc ((dO (o:=Ai) ((dE (F:=i4) (f:=aO (cO 2) aY) (δ:=(SQ S c f many ls G q0 [x6,x7,x8,x9,jF])) rfl).trans (S7 (G:=G) hF hf (by show(0:Int)<=many;omega) hi)) i0).trans (qO (CA _)))
  have a1:=(dO (o:=lN) (g:=eT aY) (y:=.tup []) i0 rfl).trans (Np _);rw[EM]at a1;have a2:=(dO (o:=lN) (g:=dC (.int 0)) (y:=.int 0) ((dE (F:=lF) (f:=aO (cO 2) aY) (δ:=(SQ S c f many ls G q0 [x6,x7,x8,x9,jF])) rfl).trans hw) rfl).trans (j0 _ _);have ee:E0 G f []=decide (G.gW [] [] f=0):=by
   unfold E0;rw[norm_eq ⟨List.Pairwise.nil,λp h=>by cases h⟩]
  rw[ee]at a1;have t2:=gc ((dO (o:=Ai) a1 a2).trans (Nq _));rw[nz (Ik t1 t2)];rfl
 have e7:Cv (SQ S c f many ls G q0 [x6,x7,x8,x9,jF])=some (.next (SQ S c f many ls G q0 [.own (((dN many.toNat).filter (E1 G f)).map tupI),x7,x8,x9,jF])):=by
  unfold Cv;have ec:dU (iL (dk 4)) 8 (qB (du lN (cN dR (aO (cO 2) (aO (eT aY) (aO (cO 8) (aO (du gM (dk 2) (dC (.int 1))) aY))))) (dC (.int 1)))) (cO 8) (SQ S c f many ls G q0 [x6,x7,x8,x9,jF])=some (((dN many.toNat).filter (E1 G f)).map tupI):=by
   refine ij rfl (by rw[ae];omega) ?_
   refine g7 (p:=E1 G f) (ψ:=tupI) _ (λp hp=>?_) (λp _ _=>rfl)
   have t2:=gc ((dO (o:=lN) (g:=dC (.int 1)) (y:=.int 1) (wy p hp (.dat (.lst (((dN many.toNat).filter q0).map tupI++[.eV]))) x6 x7 x9 jF) rfl).trans (j0 _ _));refine t2.trans ?_;unfold E1;rw[norm_eq (Ta p hp)]
  rw[qN ec];rfl
 have cv:=EI (t:=ik) FK (λL p h=>h.less p) (λL h=>Cp h.ne) (L:=ls) dr.fk (n:=many.toNat) (λl hl p hp=>by rw[hN];exact(ok.field.line l hl).YG p hp)
 have cm:=List.mem_of_find?_eq_some cv;have ch:J4 ls (gy ik (dg 0 many.toNat) ls):=vm.mp (List.find?_some cv);obtain⟨ov,ew⟩:=PM (G:=G) (f:=f) hF hf (λl hl=>(ok.field.line l hl).ne) (Ta _ cm) ch
 obtain⟨w,P7⟩:∃w,(dN many.toNat).find? (E1 G f)=some w:=by
  cases h:(dN many.toNat).find? (E1 G f)with
  |some w=>exact⟨w,rfl⟩
  |none=>exact absurd ew (List.find?_eq_none.mp h _ cm)
 have hwh:gM (.lst (((dN many.toNat).filter (E1 G f)).map tupI)) (.int 0)=some (nU ((dN many.toNat).find? (E1 G f))):=by
  refine G4 ?_;rw[List.head?_map,List.head?_filter,P7];rfl
 have e9:Cw (SR S c f many ls G q0 [x7,x8,x9,jF])=some (.next (SR S c f many ls G q0 [x7,x8,x9,jF])):=by
  unfold Cw;have i0:du gM (dk 6) (dC (.int 0)) (SR S c f many ls G q0 [x7,x8,x9,jF])=some (nU ((dN many.toNat).find? (E1 G f))):=(dO rfl rfl).trans hwh;have t1:=gc ((dO (o:=Ai) ((dE (F:=nT) (f:=aO (cO 2) aY) (δ:=(SR S c f many ls G q0 [x7,x8,x9,jF])) rfl).trans (Nm (G:=G) hF hf (by show(0:Int)<=many;omega) hi)) i0).trans (qO (CA _)))
  have a1:=(dO (o:=lN) (g:=eT aY) (y:=.tup []) i0 rfl).trans (Np _);rw[EM]at a1;have a2:=(dO (o:=lN) (g:=dC (.int 1)) (y:=.int 1) ((dE (F:=lF) (f:=aO (cO 2) aY) (δ:=(SR S c f many ls G q0 [x7,x8,x9,jF])) rfl).trans hw) rfl).trans (j0 _ _);have ee:E1 G f []=decide (G.gW [] [] f=1):=by
   unfold E1;rw[norm_eq ⟨List.Pairwise.nil,λp h=>by cases h⟩]
  rw[ee]at a1;have t2:=gc ((dO (o:=Ai) a1 a2).trans (Nq _));rw[nz (Ik t1 t2)];rfl
 obtain⟨y8,ecl⟩:=yR (S:=S) (C:=cJ c) (Gd:=.dat (dG G f)) (F:=.dat (LW.eK many ls)) (x4:=.dat (.lst ((dN many.toNat).map tupI))) (x5:=.dat (.lst (((dN many.toNat).filter q0).map tupI++[.eV]))) (x6:=.dat (.lst (((dN many.toNat).filter (E1 G f)).map tupI))) (many:=many) (ls:=ls) (λl hl=>by have:=(ok.field.line l hl).four;omega) (by omega) rfl (dN many.toNat) [] x8 x9 jF (by simp;omega)
 rw[List.nil_append]at ecl;have e13:yM (SR S c f many ls G q0 [.own [],x8,x9,jF])=some (.next (SR S c f many ls G q0 [.own (((dN many.toNat).filter (lU ls)).map tupI),y8,x9,jF])):=by
  unfold yM;exact nC rfl ecl
 have Kh:gM (.lst (((dN many.toNat).filter (lU ls)).map tupI)) (.int 0)=some (tupI (gy ik (dg 0 many.toNat) ls)):=by
  refine G4 ?_;rw[List.head?_map,List.head?_filter,cv];rfl
 have e15:yN (SR S c f many ls G q0 [.own (((dN many.toNat).filter (lU ls)).map tupI),y8,x9,jF])=some (.next (SR S c f many ls G q0 [.own (((dN many.toNat).filter (lU ls)).map tupI),y8,x9,jF])):=by
  generalize hδ:((SR S c f many ls G q0 [.own (((dN many.toNat).filter (lU ls)).map tupI),y8,x9,jF]):fE)=δ;have r2:cO 2 δ=some (dG G f):=by rw[<-hδ];rfl
  have r3:cO 3 δ=some (LW.eK many ls):=by rw[<-hδ];rfl
  have r7:dk 7 δ=some (.lst (((dN many.toNat).filter (lU ls)).map tupI)):=by rw[<-hδ];rfl
  unfold yN;have i0:du gM (dk 7) (dC (.int 0)) δ=some (tupI (gy ik (dg 0 many.toNat) ls)):=(dO r7 (y:=.int 0) rfl).trans Kh;have t1:=gc ((dO (o:=Ai) ((dE (F:=rS) (lE r3)).trans (PL (many:=many) dr.fk (by omega) hi)) i0).trans (qO (by rw[LW.uc];omega)))
  have hcu:=Nm (G:=G) (f:=f) hF hf (by show(0:Int)<=many;omega) hi
  rw[show G.many.toNat=many.toNat from rfl,P7]at hcu
  have l1:cN iB (aO (cN nT (aO (cO 2) aY)) aY) δ=some (.int (w.length:Int)):=by
   rw[dE (lE ((dE (F:=nT) (lE r2)).trans hcu))];show some (D.int ((w.map D.int).length:Int))=_;rw[ae]
  have l2:cN iB (aO (du gM (dk 7) (dC (.int 0))) aY) δ=some (.int ((gy ik (dg 0 many.toNat) ls).length:Int)):=by
   rw[dE (lE i0)];show some (D.int (((gy ik (dg 0 many.toNat) ls).map D.int).length:Int))=_;rw[ae]
  have le:=EG P7 cm ew;have t2:qB (du Om (cN iB (aO (cN nT (aO (cO 2) aY)) aY)) (cN iB (aO (du gM (dk 7) (dC (.int 0))) aY))) δ=some false:=by
   refine gc ((dO l1 l2).trans ?_);show some (D.bl (decide (((gy ik (dg 0 many.toNat) ls).length:Int)<(w.length:Int))))=_;rw[aH (by omega)]
  have ed:=JW (many:=many) (ls:=ls) (f:=f) (b:=b) (g:=g) (m:=[]) (y:=gy ik (dg 0 many.toNat) ls) (by omega) (λl hl=>by have:=(ok.field.line l hl).four;omega)
  have eo:vY ls [] (gy ik (dg 0 many.toNat) ls)=some 1:=ov;rw[eo]at ed;have t3:qB (du Ai (cN kz (aO (cO 2) (aO (eT aY) (aO (du gM (dk 7) (dC (.int 0))) aY)))) (dC (.int 1))) δ=some false:=by
   refine gc ((dO ((dE (sk r2 (sk (x:=tupI []) rfl (lE i0)))).trans ed) (y:=.int 1) rfl).trans ?_);exact qO (x:=.int 1) (by simp[eh])
  rw[nz (Ik t1 (Ik t2 t3))];rfl
 refine⟨.dat (dG G f),.dat (LW.eK many ls),.dat (.lst ((dN many.toNat).map tupI)),.dat (.lst (((dN many.toNat).filter q0).map tupI++[.eV])),.dat (.lst (((dN many.toNat).filter (E1 G f)).map tupI)),.own (((dN many.toNat).filter (lU ls)).map tupI),y8,x9,jF,?_⟩
 ·unfold oH;rw[LW.cU e1,LW.cU e2,LW.cU e3,LW.cU e4,EL (δ':=(SQ S c f many ls G q0 [x6,x7,x8,x9,jF])) rfl];rw[LW.cU e6,LW.cU e7,EL (δ':=(SR S c f many ls G q0 [x7,x8,x9,jF])) rfl];have YH:EJ (SR S c f many ls G q0 [x7,x8,x9,jF])=some (.next (SR S c f many ls G q0 [.own [],x8,x9,jF])):=rfl;rw[LW.cU e9,LW.cU YH,LW.cU e13,e15]
end
theorem EN (S:Sl):∀(cs:cn) (x1 x2 x3 x4 x5 x6 x7 x8 x9 jF:Sl),∃δ,iV 1 oH (cs.map D.int) [S,x1,x2,x3,x4,x5,x6,x7,x8,x9,jF]=some (.next δ)
 |[],x1,x2,x3,x4,x5,x6,x7,x8,x9,jF=>⟨_,rfl⟩
 |c::cs,x1,x2,x3,x4,x5,x6,x7,x8,x9,jF=>by
  obtain⟨a2,a3,a4,a5,a6,a7,a8,a9,a10,e⟩:=Nu c S x2 x3 x4 x5 x6 x7 x8 x9 jF;obtain⟨δ,ih⟩:=EN S cs (cJ c) a2 a3 a4 a5 a6 a7 a8 a9 a10;exact⟨δ,by rw[aF,hU (j:=1) (f:=oH) (d:=.int c) (δ:=[S,x1,x2,x3,x4,x5,x6,x7,x8,x9,jF]) e,ih]⟩
theorem PR (ns:cn) (_:ns.length<=63):IC [.lst (ns.map D.int)]=some (.bl true):=by
 refine LW.eR rfl ?_;show Cy [.dat (.lst (ns.map D.int)),.no,.no,.no,.no,.no,.no,.no,.no,.no,.no]=_;have YY:cutD (ns.map D.int) none (some 2)=(ns.take 2).map D.int:=by
  show((ns.map D.int).drop 0).take (min 2 (ns.map D.int).length-0)=_;rw[List.drop_zero,Nat.sub_zero,List.map_take];rcases Nat.le_total 2 (ns.map D.int).length with q|q
  ·rw[Nat.min_eq_left q]
  ·rw[Nat.min_eq_right q,List.take_of_length_le (au _),List.take_of_length_le q]
 obtain⟨δ,e⟩:=EN (.dat (.lst (ns.map D.int))) (ns.take 2) .no .no .no .no .no .no .no .no .no .no;have e16:yO [.dat (.lst (ns.map D.int)),.no,.no,.no,.no,.no,.no,.no,.no,.no,.no]=some (.next δ):=by
  have it:iL (dL (OD (dk 0) OB (zu (dC (.int 2))))) [.dat (.lst (ns.map D.int)),.no,.no,.no,.no,.no,.no,.no,.no,.no,.no]=some (cutD (ns.map D.int) none (some 2)):=rfl;rw[YY]at it;unfold yO;exact nC it e
 unfold Cy;rw[LW.cU e16];rfl
end K9
namespace K9
open PySem PySem.Spec PyProof.Rows L2 DL LW PC PW
noncomputable def top (i:Nat):cI:=PySem.Challenge.pw_fieldclaim_k09_whole_handicaps.main.body.getD i (.Pass ⟨0,0,0,0⟩)
abbrev sV:cI:=top 8
theorem yS:dt ["points","line","point"] ["points","line"] (cP sV):={}
abbrev qV:cI:=top 9
theorem wg:dt ["points","line","point"] ["points","line"] (cP qV):={}
abbrev sW:cI:=top 4
theorem pC:dt ["game","mine","yours","lines","line"] ["game","mine","yours"] (cP sW):={}
abbrev pD:cI:=top 6
theorem CB:dt ["game","whose"] ["game","whose"] (cP pD):={}
abbrev nV:cI:=top 7
theorem zM:dt ["hand"] ["hand"] (cP nV):={}
abbrev sX:cI:=top 10
theorem pE:dt ["points","count","told","k","rest"] ["points","count"] (cP sX):={}
abbrev vF:cI:=top 5
theorem Ka:dt ["mine","yours","whose","claim"] ["mine","yours","whose","claim"] (cP vF):={}
abbrev pF:cI:=top 16
theorem uC:dt ["line","mine","point"] ["line","mine"] (cP pF):={}
abbrev mY:cI:=top 17
theorem qW:dt ["line","lines","other"] ["line","lines"] (cP mY):={}
abbrev vG:cI:=top 18
theorem Bd:dt ["points","lines","line"] ["points","lines"] (cP vG):={}
abbrev kM:cI:=top 19
theorem i6:dt ["lines","uses","line","point"] ["lines"] (cP kM):={}
abbrev nW:cI:=top 15
theorem lh:dt ["lines","mine","yours","needed","unlike","line"] ["lines","mine","yours"] (cP nW):={}
abbrev lV:cI:=inClass (top 14) 5
theorem g9:dt ["self","lines","whose","tried","pressing","line","claim"] ["self","lines","whose"] (cP lV):={}
abbrev qX:cI:=inClass (top 14) 4
theorem lJ:dt ["self","lines","whose","shortest","claim","held","line"] ["self","lines","whose"] (cP qX):={}
abbrev pG:cI:=inClass (top 14) 3
theorem CC:dt ["self","lines","whose"] ["self","lines","whose"] (cP pG):={}
abbrev pH:cI:=inClass (top 14) 1
theorem CG:dt ["self","mine","yours","whose"] ["self","mine","yours","whose"] (cP pH):={}
abbrev mZ:cI:=top 13
theorem yT:dt ["game","mine","yours","whose"] ["game","mine","yours","whose"] (cP mZ):={}
abbrev vH:cI:=top 12
theorem Kb:dt ["game"] ["game"] (cP vH):={}
abbrev kN:cI:=top 21
theorem oJ:dt ["lines","point","line"] ["lines","point"] (cP kN):={}
abbrev lW:cI:=top 27
theorem lX:dt ["held","coming","count","enough","k","told"] ["held","coming","count","enough"] (cP lW):={}
abbrev lY:cI:=top 26
theorem lZ:dt ["field","enough","count","told"] ["field","enough"] (cP lY):={}
abbrev nX:cI:=top 23
theorem sE:dt ["game","search"] ["game"] (cP nX):={}
abbrev CH:cI:=top 24
theorem II:dt ["game","search"] ["game"] (cP CH):={}
abbrev kO:cI:=top 28
theorem kP:dt ["lines","known","shortest","point"] ["lines","known"] (cP kO):={}
abbrev yU:cI:=top 25
theorem lK:dt ["field","told","lines","known","point","left"] ["field"] (cP yU):={}
abbrev qY:cI:=top 31
theorem EO:dt ["_law_cell_here","_law_prime","_law_many"] ["_law_cell_here","_law_prime","_law_many"] (cP qY):={}
abbrev nY:cI:=top 32
theorem fV:dt ["_law_cell_here","_law_least","_law_most","_law_lines","_law_many","_law_found","_law_k","_law_size","_law_left","_law_line","_law_n"] ["_law_cell_here","_law_least","_law_most","_law_lines"] (cP nY):={}
abbrev pJ:cI:=top 33
theorem uD:dt ["_law_cell_here","_law_least","_law_most","_law_lines","_law_field_here"] ["_law_cell_here","_law_least","_law_most","_law_lines"] (cP pJ):={}
abbrev pK:cI:=top 35
theorem i7:dt ["_law_many","_law_found","_law_number","_law_point","_law_some","_law_size"] ["_law_many"] (cP pK):={}
abbrev G5:cI:=top 36
theorem l4:dt ["_law_script","_law_cell_here","_law_game_here","_law_field_here","_law_some","_law_due","_law_wish","_law_covers","_law_one","_law_point","_law_line"] ["_law_script"] (cP G5):={}
structure Bt (mg:cg):Prop where
 all:mg "all"=none
 any:mg "any"=none
 len:mg "len"=none
 list:mg "list"=none
 min:mg "min"=none
 range:mg "range"=none
 set:mg "set"=none
 sorted:mg "sorted"=none
 tuple:mg "tuple"=none
 dF:∃t,mg "BUILDER"=some (.int 0 t)
 jo:∃t,mg "GUARD"=some (.int 1 t)
abbrev qZ:cI:=inClass (top 14) 0
theorem ER:dt ["self","game"] ["self","game"] (cP qZ):={}
abbrev cV (Cs:cE):OC:=⟨Cs,"game","known",W3⟩
section
variable {P:cA}{w:cB}{K:W.Frag}{mg:cg}{base:Heap}
theorem G6 (F:kU K "has_all" "has_all" sV f fd) (M0:Bt mg):dY P w K mg base gY (1) f fd ["points","line"] (rj hO):=by
 refine hW F yS (λm eN A outer s H E hr C0 H0=>?_)
 have hu:=hr.units;unfold yu;exact(da (dH (eX (Lp rfl) (by rfl) M0.all FL (dw (WD.o (WF.d (md 2 rfl ⟨rfl,rfl,rfl,yS.nd⟩ (wK.weak (gC (bf 1))) (λ_ _ _ _ _=>(oV (Ov hu) (cQ 2) (cQ 0)))))) dI))))
theorem ES (F:kU K "has_some" "has_some" qV f fd) (M0:Bt mg):dY P w K mg base gY (1) f fd ["points","line"] (rj fy):=by
 refine hW F wg (λm eN A outer s H E hr C0 H0=>?_)
 have hu:=hr.units;unfold v5;exact(da (dH (eX (LD rfl) (by rfl) M0.any Gb (dw (WD.o (WF.d (md 2 rfl ⟨rfl,rfl,rfl,wg.nd⟩ (wK.weak (gC (bf 1))) (λ_ _ _ _ _=>(oV (Ov hu) (cQ 2) (cQ 0)))))) dI))))
theorem G7 (F:kU K "decided" "decided" sW f fd) (M0:Bt mg) (vI:j7 P w K mg base 1 "has_all" hO) (m3:j7 P w K mg base 1 "has_some" fy):dY P w K mg base gY (2) f fd ["game","mine","yours"] (rj kz):=by
 obtain⟨kQ,dF⟩:=M0.dF;obtain⟨CI,jo⟩:=M0.jo;refine hW F pC (λm eN A outer s H E hr C0 H0=>?_)
 have hu:=hr.units;unfold pf;exact(cZ (gT 3 pC.nd (eJ (WD.o (eJ (cQ 0) (WD.o dc) (λ_ _=>rfl))) (WD.o dc) (λ_ _=>rfl)))
  (cZ (i9 (sJ (eX (LD rfl) (by rfl) M0.any Gb (dw (WD.o (WF.d (md 4 rfl ⟨rfl,rfl,rfl,pC.nd⟩ (wK.weak (gC (bf 3))) (λ_ _ _ _ _=>(dq vI hr (by rfl) (aX (bf 1) (aX (bf 4) bU))))))) dI))) (da (dH (gB (by rfl) dF))) fj)
  (cZ (i9 (sJ (eX (Lp rfl) (by rfl) M0.all FL (dw (WD.o (WF.d (md 4 rfl ⟨rfl,rfl,rfl,pC.nd⟩ (wK.weak (gC (bf 3))) (λ_ _ _ _ _=>(dq m3 hr (by rfl) (aX (bf 2) (aX (bf 4) bU))))))) dI))) (da (dH (gB (by rfl) jo))) fj)
  (da (dH qr)))))
theorem CJ (F:kU K "at_a_time" "at_a_time" pD f fd) (M0:Bt mg):dY P w K mg base gY (1) f fd ["game","whose"] (rj eB):=by
 obtain⟨kQ,dF⟩:=M0.dF;refine hW F CB (λm eN A outer s H E hr C0 H0=>?_)
 have hu:=hr.units;unfold ug;exact(da (dH (xD (eD (n5 hu) (cQ 1) (WD.o (gB (by rfl) dF))) (eJ (cQ 0) (WD.o dc) (λ_ _=>rfl)) (eJ (cQ 0) (WD.o dc) (λ_ _=>rfl)))))
theorem zN (F:kU K "other_hand" "other_hand" nV f fd) (M0:Bt mg):dY P w K mg base gY (1) f fd ["hand"] (rj gu):=by
 obtain⟨kQ,dF⟩:=M0.dF;obtain⟨CI,jo⟩:=M0.jo;refine hW F zM (λm eN A outer s H E hr C0 H0=>?_)
 have hu:=hr.units;unfold so;exact(da (dH (xD (eD (n5 hu) (cQ 0) (WD.o (gB (by rfl) dF))) (gB (by rfl) jo) (gB (by rfl) dF))))
theorem G8 (F:kU K "choices" "choices" sX f fd) (M0:Bt mg) (vJ:j7 P w K mg base (0+n) "choices" dz):dY P w K mg base gY (0+n+1) f fd ["points","count"] (rj (iA 5 2 (mR dz))):=by
 refine hW F pE (λm eN A outer s H E hr C0 H0=>?_)
 have hu:=hr.units;unfold mR;exact(cZ (i9 (eD (XT) (cQ 1) (WD.o (eX sd (by rfl) M0.len mD (dw (cQ 0) dI)))) (da (dH (fi (aX (bf 0) bU)))) fj)
  (cZ (i9 (eD (n5 hu) (cQ 1) (WD.o dc)) (da (dH (fi (aX (fi bU) bU)))) fj)
  (cZ (nj 2 pE.nd (xE bU))
  (cZ (lP (f:=(jT dz)) bz rfl (iC (by rfl) M0.range (aX (jK (WD.o (xA (WD.o (eX sd (by rfl) M0.len mD (dw (cQ 0) dI))) (cQ 1))) (WD.o dc)) bU)) (gQ (i:=3) pE.nd rfl (by first|exact Or.inl rfl|exact Or.inr rfl)) (da (lP (f:=(jS dz)) bz rfl (gC (dq vJ hr (by rfl) (aX (LA (cQ 0) (FR (WD.o (jK (cQ 3) (WD.o dc)))) Lu) (aX (xA (cQ 1) (WD.o dc)) bU)))) (gQ (i:=4) pE.nd rfl (by first|exact Or.inl rfl|exact Or.inr rfl)) (da (BR (pv 2) (rB (WD.o (fi (aX (eJ (cQ 0) (cQ 3) (λ_ _=>rfl)) bU))) (cQ 4)))))))
  (da (dH (gk jm (by rfl) M0.tuple gF (dw (cQ 2) dI))))))))
theorem Kc (F:kU K "behind" "behind" vF f fd) (M0:Bt mg):dY P w K mg base gY (1) f fd ["mine","yours","whose","claim"] (rj qI):=by
 obtain⟨kQ,dF⟩:=M0.dF;refine hW F Ka (λm eN A outer s H E hr C0 H0=>?_)
 have hu:=hr.units;unfold AJ;exact(cZ (i9 (eD (n5 hu) (cQ 2) (WD.o (gB (by rfl) dF))) (da (dH (fi (aX (gk jm (by rfl) M0.tuple gF (dw (WD.o (WF.d (n9 (As hu) (by rfl) M0.sorted jy (dw (WD.o (rB (cQ 0) (cQ 3))) dI)))) dI)) (aX (bf 1) bU))))) fj)
  (da (dH (fi (aX (bf 0) (aX (gk jm (by rfl) M0.tuple gF (dw (WD.o (WF.d (n9 (As hu) (by rfl) M0.sorted jy (dw (WD.o (rB (cQ 1) (cQ 3))) dI)))) dI)) bU))))))
theorem CK (F:kU K "free_part" "free_part" pF f fd) (M0:Bt mg):dY P w K mg base gY (1) f fd ["line","mine"] (rj jD):=by
 refine hW F uC (λm eN A outer s H E hr C0 H0=>?_)
 have hu:=hr.units;unfold ml;exact(da (dH (gk jm (by rfl) M0.tuple gF (dw (WD.o (WF.d (iW 2 rfl ⟨rfl,rfl,rfl,uC.nd⟩ (wK.weak (gC (bf 0))) (λ_ _ _ _ _=>(eD (BF hu) (cQ 2) (cQ 1))) (λ_ _ _ _ _=>(bf 2))))) dI))))
theorem yV (F:kU K "has_another" "has_another" mY f fd) (M0:Bt mg) (vI:j7 P w K mg base 1 "has_all" hO):dY P w K mg base gY (2) f fd ["line","lines"] (rj jk):=by
 refine hW F qW (λm eN A outer s H E hr C0 H0=>?_)
 have hu:=hr.units;unfold jU;exact(da (dH (eX (LD rfl) (by rfl) M0.any Gb (dw (WD.o (WF.d (md 2 rfl ⟨rfl,rfl,rfl,qW.nd⟩ (wK.weak (HG (bf 1))) (λ_ _ _ _ _=>(RT (oV (FJ hu) (cQ 2) (cQ 0)) (RS (dq vI hr (by rfl) (aX (bf 0) (aX (bf 2) bU))))))))) dI))))
theorem Ke (F:kU K "spoils" "spoils" vG f fd) (M0:Bt mg) (m3:j7 P w K mg base 1 "has_some" fy):dY P w K mg base gY (2) f fd ["points","lines"] (rj qL):=by
 refine hW F Bd (λm eN A outer s H E hr C0 H0=>?_)
 have hu:=hr.units;unfold rP;exact(da (dH (eX (Lp rfl) (by rfl) M0.all FL (dw (WD.o (WF.d (md 2 rfl ⟨rfl,rfl,rfl,Bd.nd⟩ (tT (cQ 1)) (λ_ _ _ _ _=>(dq m3 hr (by rfl) (aX (bf 0) (aX (bf 2) bU))))))) dI))))
theorem vK (F:kU K "points_by_use" "points_by_use" kM f fd) (M0:Bt mg) (ht:W.tabIn K "points_by_use"=some (ct,Pt)) (uF:fd.code=.ref ct):dY P w K mg base gY (1) f fd ["lines"] (rj gm):=by
 refine B5 F i6 (λA outer s H E hr C0 H0=>?_)
 letI:=Mem.keep
 have jb:=hr.ten;have hu:=hr.units;unfold kA;exact(GC 1 i6.nd (λa C1 H1 hn=>by letI:=eU a;unfold gg;exact(cZ (lP (f:=fA) bz rfl (gC (bf 0)) (gQ (i:=2) i6.nd rfl (by first|exact Or.inl rfl|exact Or.inr rfl)) (da (lP (f:=gf) bz rfl (gC (bf 2)) (gQ (i:=3) i6.nd rfl (by first|exact Or.inl rfl|exact Or.inr rfl)) (da (JN hn hu (pv 1) (bf 3) (pv 1) (bf 3))))))
  (da (dH (gk jm (by rfl) M0.tuple gF (dw (WD.o (WF.d (D5 (x:="points_by_use") rfl hu jb (by rfl) M0.sorted rfl rfl (by first|exact af|simp[qc]) ht (show(Str.ofString "points_by_use"++Str.ofString ".<locals>.")++Str.ofString "<lambda>"=Str.ofString "points_by_use.<locals>.<lambda>" by decide +kernel) uF (pv 1)))) dI)))))))
theorem zO (F:kU K "open_lines" "open_lines" nW f fd) (M0:Bt mg) (ET:j7 P w K mg base 2 "free_part" jD) (zP:j7 P w K mg base 2 "has_another" jk) (m3:j7 P w K mg base 2 "has_some" fy):dY P w K mg base gY (3) f fd ["lines","mine","yours"] (rj fD):=by
 refine hW F lh (λm eN A outer s H E hr C0 H0=>?_)
 have hu:=hr.units;unfold kZ;exact(cZ (tU 3 5 rfl ⟨rfl,rfl,rfl,lh.nd⟩ (wK.weak (HG (bf 0))) (λ_ _ _ _ _=>(xC (sJ (dq m3 hr (by rfl) (aX (bf 2) (aX (bf 5) bU)))))) (λ_ _ _ _ _=>(dq ET hr (by rfl) (aX (bf 5) (aX (bf 1) bU)))))
  (oh 3 (cZ (nj 4 lh.nd (GF rfl hu (by rfl) M0.sorted (by rfl) M0.set (cQ 3)))
  (oh 4 (da (dH (gk jm (by rfl) M0.tuple gF (dw (WD.o (WF.d (iW 5 rfl ⟨rfl,rfl,rfl,lh.nd⟩ (tT (cQ 4)) (λ_ _ _ _ _=>(xC (sJ (dq zP hr (by rfl) (aX (bf 5) (aX (bf 4) bU)))))) (λ_ _ _ _ _=>(bf 5))))) dI))))))))
theorem wB (F:kU K "worth_trying" "Search.worth_trying" lV f fd) (M0:Bt mg) (Z:lQ K (cV Cs)) (nF:j7 P w K mg base 6 "at_a_time" eB) (vJ:j7 P w K mg base 6 "choices" (fM 5)) (wC:j7 P w K mg base 6 "points_by_use" gm) (Nv:j7 P w K mg base 6 "spoils" qL):dY P w K mg base gY (7) f fd ["self","lines","whose"] (Km (cV Cs) (pP 7 3 g0)):=by
 obtain⟨kQ,dF⟩:=M0.dF;refine wN (cV Cs) F g9 (λA G eN Ar outer s H E hr C0 H0=>?_)
 letI:=cT (cV Cs) A G
 have hu:=hr.units;unfold g0;exact(cZ (gT 3 g9.nd (dq vJ hr (by rfl) (aX (dq wC hr (by rfl) (aX (bf 1) bU)) (aX (dq nF hr (by rfl) (aX (wM (Y:=cV Cs) Z (pv 0)) (aX (bf 2) bU))) bU))))
  (cZ (i9 (eD (n5 hu) (cQ 2) (WD.o (gB (by rfl) dF))) (da (dH (bf 3))) fj)
  (cZ (nj 4 g9.nd (iW 5 rfl ⟨rfl,rfl,rfl,g9.nd⟩ (wK.weak (gC (bf 1))) (λ_ _ _ _ _=>(eD (U0) (WD.o (eX sd (by rfl) M0.len mD (dw (cQ 5) dI))) (WD.o (dq nF hr (by rfl) (aX (wM (Y:=cV Cs) Z (pv 0)) (aX (gB (by rfl) dF) bU)))))) (λ_ _ _ _ _=>(bf 5))))
  (oh 4 (da (dH (gk jm (by rfl) M0.tuple gF (dw (WD.o (WF.d (iW 6 rfl ⟨rfl,rfl,rfl,g9.nd⟩ (wK.weak (gC (bf 3))) (λ_ _ _ _ _=>(sJ (dq Nv hr (by rfl) (aX (bf 6) (aX (bf 4) bU))))) (λ_ _ _ _ _=>(bf 6))))) dI))))))))
theorem EU {f:cE}{fd:cz}{n:Nat}(F:kU K "searched" "Search.searched" qX f fd) (M0:Bt mg) {Cs:cE}(Z:lQ K (cV Cs)) {dv:cc}(nF:j7 P w K mg base (7+n) "at_a_time" eB) (Nw:j7 P w K mg base (7+n) "behind" qI) (pL:j7 P w K mg base (7+n) "open_lines" fD) (uE:j7 P w K mg base (7+n) "other_hand" gu) (rf:lA P w K mg base (7+n) (cV Cs) "winner_of" dv) (yW:lA P w K mg base (7+n) (cV Cs) "worth_trying" gH):dY P w K mg base gY (7+n+1) f fd ["self","lines","whose"] (Km (cV Cs) (pP 7 3 (λG=>jE G dv))):=by
 obtain⟨kQ,dF⟩:=M0.dF;refine wN (cV Cs) F lJ (λA G eN Ar outer s H E hr C0 H0=>?_)
 letI:=cT (cV Cs) A G
 have hu:=hr.units;unfold jE;exact(cZ (gT 3 lJ.nd (eX (LK rfl) (by rfl) M0.min BG (dw (WD.o (WF.d (md 6 rfl ⟨rfl,rfl,rfl,lJ.nd⟩ (wK.weak (gC (bf 1))) (λ_ _ _ _ _=>(eX sd (by rfl) M0.len mD (dw (cQ 6) dI)))))) dI)))
  (cZ (i9 (Hz.pt (wL (eD (n5 hu) (cQ 2) (WD.o (gB (by rfl) dF))) (xB (eD (U0) (cQ 3) (WD.o (dq nF hr (by rfl) (aX (wM (Y:=cV Cs) Z (pv 0)) (aX (gB (by rfl) dF) bU)))))))) (da (dH (gB (by rfl) dF))) fj)
  (cZ (lP (f:=(fU G dv)) bz rfl (gC (oq Z yW hr (pv 0) (aX (bf 1) (aX (bf 2) bU)))) (gQ (i:=4) lJ.nd rfl (by first|exact Or.inl rfl|exact Or.inr rfl)) (cZ (gT 5 lJ.nd (dq Nw hr (by rfl) (aX (fi bU) (aX (fi bU) (aX (bf 2) (aX (bf 4) bU))))))
  (da (i9 (eD (n5 hu) (WD.o (oq Z rf hr (pv 0) (aX (dq pL hr (by rfl) (aX (bf 1) (aX (eJ (cQ 5) (WD.o dc) (λ_ _=>rfl)) (aX (eJ (cQ 5) (WD.o dc) (λ_ _=>rfl)) bU)))) (aX (dq uE hr (by rfl) (aX (bf 2) bU)) bU)))) (cQ 2)) (da (dH (bf 2))) fj))))
  (da (dH (dq uE hr (by rfl) (aX (bf 2) bU)))))))
theorem CL (F:kU K "winner_of" "Search.winner_of" pG f fd) (M0:Bt mg) (Z:lQ K (cV Cs)) (G9:lA P w K mg base (7+n) (cV Cs) "searched" dW):dY P w K mg base gY (7+n+1) f fd ["self","lines","whose"] (Km (cV Cs) (pP 3 3 (λG=>iY G dW))):=by
 obtain⟨kQ,dF⟩:=M0.dF;obtain⟨CI,jo⟩:=M0.jo;refine wN (cV Cs) F CC (λA G eN Ar outer s H E hr C0 H0=>?_)
 letI:=cT (cV Cs) A G
 have hu:=hr.units;unfold iY;exact(cZ (i9 (eD (n5 hu) (WD.o (eX sd (by rfl) M0.len mD (dw (cQ 1) dI))) (WD.o dc)) (da (dH (gB (by rfl) jo))) fj)
  (cZ (i9 (eD (Ov hu) (WD.o (fi bU)) (cQ 1)) (da (dH (gB (by rfl) dF))) fj)
  (cZ (LJ [] hu Z (fi (aX (bf 1) (aX (bf 2) bU))) (pv 0) (da (JA hu Z (oq Z G9 hr (pv 0) (aX (bf 1) (aX (bf 2) bU))) (pv 0) (fi (aX (bf 1) (aX (bf 2) bU))))))
  (da (dH (Jz hu Z (pv 0) (fi (aX (bf 1) (aX (bf 2) bU))) (λ_ _=>rfl)))))))
theorem CM (F:kU K "winner_at" "Search.winner_at" pH f fd) (M0:Bt mg) (Z:lQ K (cV Cs)) (pL:j7 P w K mg base 32 "open_lines" fD) (rf:lA P w K mg base 32 (cV Cs) "winner_of" (gP 24)):dY P w K mg base gY (33) f fd ["self","mine","yours","whose"] (Km (cV Cs) (pP 4 4 jY)):=by
 refine wN (cV Cs) F CG (λA G eN Ar outer s H E hr C0 H0=>?_)
 letI:=cT (cV Cs) A G
 have hu:=hr.units;unfold jY;exact(da (dH (oq Z rf hr (pv 0) (aX (dq pL hr (by rfl) (aX (eJ (WD.o (eJ (WD.o (wM (Y:=cV Cs) Z (pv 0))) (WD.o dc) (λ_ _=>rfl))) (WD.o dc) (λ_ _=>rfl)) (aX (bf 1) (aX (bf 2) bU)))) (aX (bf 3) bU)))))
theorem yX (F:kU K "winner_from" "winner_from" mZ f fd) (M0:Bt mg) (Z:lQ K (cV Cs)) (rg:qv P w K mg base 32 (cV Cs) "Search") (EV:lA P w K mg base 33 (cV Cs) "winner_at" fI):dY P w K mg base gY (34) f fd ["game","mine","yours","whose"] (rj dR):=by
 refine LC F yT (λeN A outer s H E hr C0 H0=>?_)
 letI:=Mem.keep
 have hu:=hr.units;unfold jZ;exact(da (dH (Gh Z EV hr (R7 Z rg hr (by rfl) (bf 0)) (aX (bf 1) (aX (bf 2) (aX (bf 3) bU))))))
theorem Kf (F:kU K "winner" "winner" vH f fd) (M0:Bt mg) (lj:j7 P w K mg base 34 "winner_from" dR):dY P w K mg base gY (35) f fd ["game"] (rj lF):=by
 refine hW F Kb (λm eN A outer s H E hr C0 H0=>?_)
 have hu:=hr.units;unfold rQ;exact(da (dH (dq lj hr (by rfl) (aX (bf 0) (aX (fi bU) (aX (fi bU) (aX (eJ (cQ 0) (WD.o dc) (λ_ _=>rfl)) bU)))))))
theorem vL (F:kU K "lines_without" "lines_without" kN f fd) (M0:Bt mg):dY P w K mg base gY (1) f fd ["lines","point"] (rj eC):=by
 refine hW F oJ (λm eN A outer s H E hr C0 H0=>?_)
 have hu:=hr.units;unfold iZ;exact(da (dH (gk jm (by rfl) M0.tuple gF (dw (WD.o (WF.d (iW 2 rfl ⟨rfl,rfl,rfl,oJ.nd⟩ (wK.weak (gC (bf 0))) (λ_ _ _ _ _=>(eD (BF hu) (cQ 1) (cQ 2))) (λ_ _ _ _ _=>(bf 2))))) dI))))
theorem wD (F:kU K "first_enough" "first_enough" lW f fd) (M0:Bt mg) (hq:vj P w K mg base (34+n) (cV Cs) A0 G0 L0 G ft) (m4:wA P w K mg base (34+n) "first_enough" 3 (cV Cs) A0 G0 L0 G de):dY P w K mg base gY (34+n+1) f fd ["held","coming","count","enough"] (SN 3 (cV Cs) A0 G0 L0 G (wb 6 4 3 (λG=>fO G de))):=by
 refine Iu 3 (cV Cs) A0 G0 G L0 F lX (λeN A outer s H E hr C0 H0=>?_)
 letI:=eP (cV Cs) A0 G0 L0
 have hu:=hr.units;unfold fO;exact(cZ (i9 (eD (n5 hu) (cQ 2) (WD.o dc)) (da (dH (xD (sJ (MZ hq hr (pv 3) (aX (bf 0) bU))) (bf 0) qr))) fj)
  (cZ (i9 (xC (sJ (MZ hq hr (pv 3) (aX (rB (cQ 0) (cQ 1)) bU)))) (da (dH qr)) fj)
  (cZ (lP (f:=(fN G de)) bz rfl (iC (by rfl) M0.range (aX (eX sd (by rfl) M0.len mD (dw (cQ 1) dI)) bU)) (gQ (i:=4) lX.nd rfl (by first|exact Or.inl rfl|exact Or.inr rfl)) (cZ (gT 5 lX.nd (ED m4 hr (by rfl) (jO (rB (cQ 0) (WD.o (fi (aX (eJ (cQ 1) (cQ 4) (λ_ _=>rfl)) bU)))) (jO (LA (cQ 1) (FR (WD.o (jK (cQ 4) (WD.o dc)))) Lu) (jO (xA (cQ 2) (WD.o dc)) (qu (pv 3) bU))))))
  (da (i9 (eD (Hu) (cQ 5) (WD.o qr)) (da (dH (bf 5))) fj))))
  (da (dH qr)))))
theorem wF (F:kU K "least_enough" "least_enough" lY f fd) (M0:Bt mg) (hq:vj P w K mg base 42 (cV Cs) A0 G0 L0 G ft) (m4:wA P w K mg base 42 "first_enough" 3 (cV Cs) A0 G0 L0 G (dB 7)):dY P w K mg base gY (43) f fd ["field","enough"] (SN 1 (cV Cs) A0 G0 L0 G (wb 4 2 1 g8)):=by
 refine Iu 1 (cV Cs) A0 G0 G L0 F lZ (λeN A outer s H E hr C0 H0=>?_)
 letI:=eP (cV Cs) A0 G0 L0
 have hu:=hr.units;unfold g8;exact(cZ (lP (f:=(eG G)) bz rfl (iC (by rfl) M0.range (aX (jK (WD.o (eJ (cQ 0) (WD.o dc) (λ_ _=>rfl))) (WD.o dc)) bU)) (gQ (i:=2) lZ.nd rfl (by first|exact Or.inl rfl|exact Or.inr rfl)) (cZ (gT 3 lZ.nd (ED m4 hr (by rfl) (jO (fi bU) (jO (Pk rfl (by rfl) M0.tuple (by rfl) M0.range (aX (eJ (cQ 0) (WD.o dc) (λ_ _=>rfl)) bU)) (jO (bf 2) (qu (pv 1) bU))))))
  (da (i9 (eD (Hu) (cQ 3) (WD.o qr)) (da (dH (bf 3))) fj))))
  (da (dH qr)))
theorem zQ (F:kU K "head_start" "head_start" nX f fd) (M0:Bt mg) (Z:lQ K (cV Cs)) (rg:qv P w K mg base 42 (cV Cs) "Search") (ht:W.tabIn K "head_start"=some (ct,Pt)) (uF:fd.code=.ref ct) (hm:mg "least_enough"=some (.ref fx)) (hk:W.keepIn K (.ref fx)=true) (cW:∀base:Heap,lA P w K mg base 33 (cV Cs) "winner_at" fI) (hF:∀(base:Heap) (A:gz) (G Gc:D) (L:ig),vj P w K mg base (33+1) (cV Cs) A G L Gc ft->wA P w K mg base 43 "least_enough" 1 (cV Cs) A G L Gc eL):dY P w K mg base gY (44) f fd ["game"] (rj i4):=by
 obtain⟨kQ,dF⟩:=M0.dF;refine B5 F sE (λA outer s H E hr C0 H0=>?_)
 letI:=Mem.keep
 have hu:=hr.units;unfold sv;exact(xO 1 sE.nd (R7 Z rg hr (by rfl) (bf 0)) (λA G C1 H1=>by
  letI:=cT (cV Cs) A G
  exact(da (dH (Iy (tag:=S3) (lamF:=Px) (kc:=33) (xd:="head_start") (p0:="points") (nS:="search") (nG:="game") (iS:=1) (iG:=0) rfl (λ_=>rfl) hr (by rfl) hm hk (by simp[qc]) ht (show(Str.ofString "head_start"++Str.ofString ".<locals>.")++Str.ofString "<lambda>"=Str.ofString "head_start.<locals>.<lambda>" by decide +kernel) uF (λbase L h=>hF base A G _ L h) (λbase f cd cl Ar outer s H Pj=>by have hu:=Pj.units;exact(oV (n5 hu) (WD.o (oq Z (cW base) Pj (pv 1) (aX (bf 0) (aX (fi bU) (aX (eJ (cQ 2) (WD.o dc) (λ_ _=>rfl)) bU))))) (WD.o (gB (by rfl) dF)))) yK (λd=>rfl) (eJ (cQ 0) (WD.o dc) (λ_ _=>rfl)) rfl (Iw rfl) rfl rfl rfl (QJ rfl) rfl rfl rfl rfl rfl rfl rfl (λcl pm eN sj s us _ hl=>match us,hl with|[_],_=>.of_eq rfl) (by decide) (fH rfl))))))
theorem PU (F:kU K "curb" "curb" CH f fd) (M0:Bt mg) (Z:lQ K (cV Cs)) (rg:qv P w K mg base 42 (cV Cs) "Search") (ht:W.tabIn K "curb"=some (ct,Pt)) (uF:fd.code=.ref ct) (hm:mg "least_enough"=some (.ref fx)) (hk:W.keepIn K (.ref fx)=true) (cW:∀base:Heap,lA P w K mg base 33 (cV Cs) "winner_at" fI) (hF:∀(base:Heap) (A:gz) (G Gc:D) (L:ig),vj P w K mg base (33+1) (cV Cs) A G L Gc ft->wA P w K mg base 43 "least_enough" 1 (cV Cs) A G L Gc eL):dY P w K mg base gY (44) f fd ["game"] (rj nT):=by
 obtain⟨CI,jo⟩:=M0.jo;refine B5 F II (λA outer s H E hr C0 H0=>?_)
 letI:=Mem.keep
 have hu:=hr.units;unfold IA;exact(xO 1 II.nd (R7 Z rg hr (by rfl) (bf 0)) (λA G C1 H1=>by
  letI:=cT (cV Cs) A G
  exact(da (dH (Iy (tag:=S4) (lamF:=Py) (kc:=33) (xd:="curb") (p0:="points") (nS:="search") (nG:="game") (iS:=1) (iG:=0) rfl (λ_=>rfl) hr (by rfl) hm hk (by simp[qc]) ht (show(Str.ofString "curb"++Str.ofString ".<locals>.")++Str.ofString "<lambda>"=Str.ofString "curb.<locals>.<lambda>" by decide +kernel) uF (λbase L h=>hF base A G _ L h) (λbase f cd cl Ar outer s H Pj=>by have hu:=Pj.units;exact(oV (n5 hu) (WD.o (oq Z (cW base) Pj (pv 1) (aX (fi bU) (aX (bf 0) (aX (eJ (cQ 2) (WD.o dc) (λ_ _=>rfl)) bU))))) (WD.o (gB (by rfl) jo)))) yK (λd=>rfl) (eJ (cQ 0) (WD.o dc) (λ_ _=>rfl)) rfl (Iw rfl) rfl rfl rfl (QJ rfl) rfl rfl rfl rfl rfl rfl rfl (λcl pm eN sj s us _ hl=>match us,hl with|[_],_=>.of_eq rfl) (by decide) (fH rfl))))))
theorem vM (F:kU K "fewest_points" "fewest_points" kO f fd) (M0:Bt mg) (jq:FY P w K mg base (1+n) "fewest_points" 1 CU dA) (l6:j7 P w K mg base (1+n) "lines_without" eC):dY P w K mg base gY (1+n+1) f fd ["lines","known"] (Tv 1 CU (Aq 4 2 1 CU (λM=>fW M dA))):=by
 refine OM 1 CU F kP (λa M eN A outer s H E hr C0 H0=>?_)
 letI:=dh a M
 have hu:=hr.units;unfold fW;exact(cZ (i9 (eD (n5 hu) (WD.o (eX sd (by rfl) M0.len mD (dw (cQ 0) dI))) (WD.o dc)) (da (dH dc)) fj)
  (cZ (Jw [2,3] hu (bf 0) (pv 1) (cZ (gT 2 kP.nd (J2 rfl hu (by rfl) M0.min (by rfl) M0.len (cQ 0)))
  (da (Ga hu (jK (WD.o dc) (WD.o (eX (LK rfl) (by rfl) M0.min BG (dw (WD.o (WF.d (md 3 rfl ⟨rfl,rfl,rfl,kP.nd⟩ (wK.weak (gC (bf 2))) (λ_ _ _ _ _=>(xM jq hr (by rfl) (jO (dq l6 hr (by rfl) (aX (bf 0) (aX (bf 3) bU))) (qu (pv 1) bU))))))) dI)))) (pv 1) (bf 0)))))
  (da (dH (FZ hu (pv 1) (bf 0) (λ_ _=>rfl))))))
theorem Nx (F:kU K "cover" "cover" yU f fd) (M0:Bt mg) (jq:FY P w K mg base 10 "fewest_points" 1 CU (dJ 8)) (l6:j7 P w K mg base 10 "lines_without" eC):dY P w K mg base gY (11) f fd ["field"] (rj rS):=by
 refine LC F lK (λeN A outer s H E hr C0 H0=>?_)
 letI:=Mem.keep
 have hu:=hr.units;unfold uA;exact(cZ (gT 1 lK.nd (fi bU))
  (cZ (gT 2 lK.nd (eJ (cQ 0) (WD.o dc) (λ_ _=>rfl)))
  (DK 3 lK.nd (λa M C1 H1=>by letI:=dh a M;unfold kL;exact(cZ (lP (f:=(iQ M)) bz rfl (iC (by rfl) M0.range (aX (eJ (cQ 0) (WD.o dc) (λ_ _=>rfl)) bU)) (gQ (i:=4) lK.nd rfl (by first|exact Or.inl rfl|exact Or.inr rfl)) (cZ (gT 5 lK.nd (dq l6 hr (by rfl) (aX (bf 2) (aX (bf 4) bU))))
  (da (i9 (eD (U7 hu) (WD.o (xM jq hr (by rfl) (jO (bf 5) (qu (pv 3) bU)))) (WD.o (xM jq hr (by rfl) (jO (bf 2) (qu (pv 3) bU))))) (cZ (gT 1 lK.nd (rB (cQ 1) (WD.o (fi (aX (bf 4) bU)))))
  (da (gT 2 lK.nd (bf 5)))) fj))))
  (da (dH (bf 1))))))))
theorem EW {f:cE}{fd:cz}(F:kU K "_law_mix" "_law_mix" qY f fd) (M0:Bt mg):dY P w K mg base gY (1) f fd ["_law_cell_here","_law_prime","_law_many"] (rj dX):=by
 refine hW F EO (λm eN A outer s H E hr C0 H0=>?_)
 have hu:=hr.units;unfold qw;exact(da (dH (FT (WD.o (FT (WD.o (BM (cQ 0) (WD.o dc))) (cQ 1))) (cQ 2))))
theorem zR (F:kU K "_law_field" "_law_field" nY f fd) (M0:Bt mg) (iR:j7 P w K mg base 1 "_law_mix" dX):dY P w K mg base gY (2) f fd ["_law_cell_here","_law_least","_law_most","_law_lines"] (rj eY):=by
 refine hW F fV (λm eN A outer s H E hr C0 H0=>?_)
 have hu:=hr.units;unfold kX;exact(cZ (gT 4 fV.nd (jK (cQ 1) (WD.o (dq iR hr (by rfl) (aX (bf 0) (aX dc (aX (jK (WD.o (xA (cQ 2) (cQ 1))) (WD.o dc)) bU)))))))
  (cZ (nj 5 fV.nd (xE bU))
  (cZ (lP (f:=gZ) bz rfl (iC (by rfl) M0.range (aX (dq iR hr (by rfl) (aX (bf 0) (aX dc (aX (jK (cQ 3) (WD.o dc)) bU)))) bU)) (gQ (i:=6) fV.nd rfl (by first|exact Or.inl rfl|exact Or.inr rfl)) (cZ (gT 7 fV.nd (jK (WD.o dc) (WD.o (dq iR hr (by rfl) (aX (jK (cQ 0) (WD.o (BM (WD.o dc) (cQ 6)))) (aX dc (aX (eX (RM rfl) (by rfl) M0.min BG (dw (WD.o dc) (dw (cQ 4) dI))) bU)))))))
  (cZ (i9 (Hz.pt (wL (eD (RH) (WD.o (FT (cQ 0) (WD.o dc))) (WD.o dc)) (wL (eD (n5 hu) (cQ 7) (WD.o dc)) (xB (eD (RH) (cQ 4) (WD.o dc)))))) (da (gT 7 fV.nd dc)) fj)
  (cZ (nj 8 fV.nd (BP rfl (by rfl) M0.list (by rfl) M0.range (aX (bf 4) bU)))
  (cZ (OG 9 10 8 rfl (by decide) ⟨rfl,rfl,rfl,fV.nd⟩ (iC (by rfl) M0.range (aX (bf 7) bU)) (λ_ _ _ _ _=>pv 8) (λ_ _ _ _ _=>(dq iR hr (by rfl) (aX (jK (WD.o (jK (cQ 0) (WD.o (BM (WD.o dc) (cQ 6))))) (WD.o (BM (WD.o dc) (cQ 10)))) (aX dc (aX (xA (cQ 4) (cQ 10)) bU))))))
  (oh 9 (da (i9 (eD (BF hu) (WD.o (gk jm (by rfl) M0.tuple gF (dw (WD.o (WF.d (n9 (xy hu) (by rfl) M0.sorted jy (dw (cQ 9) dI)))) dI))) (cQ 5)) (da (BR (pv 5) (gk jm (by rfl) M0.tuple gF (dw (WD.o (WF.d (n9 (xy hu) (by rfl) M0.sorted jy (dw (cQ 9) dI)))) dI)))) fj))))))))
  (da (dH (fi (aX (bf 4) (aX (gk jm (by rfl) M0.tuple gF (dw (WD.o (WF.d (n9 (xy hu) (by rfl) M0.sorted jy (dw (cQ 5) dI)))) dI)) bU))))))))
theorem CN (F:kU K "_law_game" "_law_game" pJ f fd) (M0:Bt mg) (CO:j7 P w K mg base 2 "_law_field" eY) (iR:j7 P w K mg base 2 "_law_mix" dX):dY P w K mg base gY (3) f fd ["_law_cell_here","_law_least","_law_most","_law_lines"] (rj fT):=by
 refine hW F uD (λm eN A outer s H E hr C0 H0=>?_)
 have hu:=hr.units;unfold mf;exact(cZ (gT 4 uD.nd (dq CO hr (by rfl) (aX (bf 0) (aX (bf 1) (aX (bf 2) (aX (bf 3) bU))))))
  (da (dH (fi (aX (bf 4) (aX (dq iR hr (by rfl) (aX (bf 0) (aX dc (aX dc bU)))) (aX (jK (WD.o dc) (WD.o (Lv (WD.o (dq iR hr (by rfl) (aX (bf 0) (aX dc (aX dc bU))))) (WD.o dc)))) (aX (jK (WD.o dc) (WD.o (Lv (WD.o (dq iR hr (by rfl) (aX (bf 0) (aX dc (aX dc bU))))) (WD.o dc)))) bU))))))))
theorem CP (F:kU K "_law_sets" "_law_sets" pK f fd) (M0:Bt mg):dY P w K mg base gY (1) f fd ["_law_many"] (rj lI):=by
 refine hW F i7 (λm eN A outer s H E hr C0 H0=>?_)
 have hu:=hr.units;unfold mn;exact(cZ (nj 1 i7.nd (xE bU))
  (cZ (lP (f:=qU) bz rfl (iC (by rfl) M0.range (aX (R1 (WD.o dc) (cQ 0)) bU)) (gQ (i:=2) i7.nd rfl (by first|exact Or.inl rfl|exact Or.inr rfl)) (da (BR (pv 1) (by exact(gk jm (by rfl) M0.tuple gF (dw (WD.o (WF.d (iW 3 rfl ⟨rfl,rfl,rfl,i7.nd⟩ (wK.weak (iC (by rfl) M0.range (aX (bf 0) bU))) (λ_ _ _ _ _=>(eD (n5 hu) (WD.o (Jv (WD.o (R3 (cQ 2) (cQ 3))) (WD.o dc))) (WD.o dc))) (λ_ _ _ _ _=>(bf 3))))) dI))))))
  (da (dH (WF.d (MT rfl ⟨rfl,rfl,rfl,rfl,i7.nd,by decide⟩ (wK.weak (xF (WF.d (Ck rfl hu (by rfl) M0.sorted (WD.o (WF.d (md 4 rfl ⟨rfl,rfl,rfl,i7.nd⟩ (tT (cQ 1)) (λ_ _ _ _ _=>(fi (aX (eX sd (by rfl) M0.len mD (dw (cQ 4) dI)) (aX (bf 4) bU))))))))))) (λ_ _ _ _ _=>(bf 4))))))))
theorem Tc (F:kU K "law" "law" G5 f fd) (M0:Bt mg) (EX:j7 P w K mg base 44 "_law_game" fT) (EY:j7 P w K mg base 44 "_law_sets" lI) (PV:j7 P w K mg base 44 "cover" rS) (Ny:j7 P w K mg base 44 "curb" nT) (Kg:j7 P w K mg base 44 "decided" kz) (CQ:j7 P w K mg base 44 "head_start" i4) (EZ:j7 P w K mg base 44 "winner" lF) (lj:j7 P w K mg base 44 "winner_from" dR):dY P w K mg base gY (45) f fd ["_law_script"] (rj IC):=by
 refine hW F l4 (λm eN A outer s H E hr C0 H0=>?_)
 have hu:=hr.units;unfold Cy;exact(cZ (lP (f:=oH) bz rfl (xF (WF.d (RV (cQ 0) Lu (FR (WD.o dc))))) (gQ (i:=1) l4.nd rfl (by first|exact Or.inl rfl|exact Or.inr rfl)) (cZ (gT 2 l4.nd (dq EX hr (by rfl) (aX (bf 1) (aX dc (aX dc (aX dc bU))))))
  (cZ (gT 3 l4.nd (eJ (cQ 2) (WD.o dc) (λ_ _=>rfl)))
  (cZ (gT 4 l4.nd (dq EY hr (by rfl) (aX (eJ (cQ 3) (WD.o dc) (λ_ _=>rfl)) bU)))
  (cZ (nj 5 l4.nd (OF (WD.o (WF.d (iW 8 rfl ⟨rfl,rfl,rfl,l4.nd⟩ (tT (cQ 4)) (λ_ _ _ _ _=>(Hz.pt (wL (xK (WD.o (eJ (cQ 3) (WD.o dc) (λ_ _=>rfl)))) (xB (eD (n5 hu) (WD.o (dq lj hr (by rfl) (aX (bf 2) (aX (bf 8) (aX (fi bU) (aX (eJ (cQ 2) (WD.o dc) (λ_ _=>rfl)) bU)))))) (WD.o dc)))))) (λ_ _ _ _ _=>(bf 8))))) (WD.o (WF.d (xE (aX qr bU))))))
  (oh 5 (cZ (i9 (Hz.pt (BO (eD (FJ hu) (WD.o (dq CQ hr (by rfl) (aX (bf 2) bU))) (WD.o (eJ (cQ 5) (WD.o dc) (λ_ _=>rfl)))) (BN (eD (FJ hu) (WD.o (oV (n5 hu) (WD.o (eJ (cQ 5) (WD.o dc) (λ_ _=>rfl))) (WD.o (fi bU)))) (WD.o (oV (n5 hu) (WD.o (dq EZ hr (by rfl) (aX (bf 2) bU))) (WD.o dc))))))) (da (dH HB)) fj)
  (cZ (tU 6 8 rfl ⟨rfl,rfl,rfl,l4.nd⟩ (tT (cQ 4)) (λ_ _ _ _ _=>(eD (n5 hu) (WD.o (dq lj hr (by rfl) (aX (bf 2) (aX (fi bU) (aX (bf 8) (aX (eJ (cQ 2) (WD.o dc) (λ_ _=>rfl)) bU)))))) (WD.o dc))) (λ_ _ _ _ _=>(bf 8)))
  (oh 6 (cZ (i9 (Hz.pt (BO (eD (FJ hu) (WD.o (dq Ny hr (by rfl) (aX (bf 2) bU))) (WD.o (eJ (cQ 6) (WD.o dc) (λ_ _=>rfl)))) (BN (eD (FJ hu) (WD.o (oV (n5 hu) (WD.o (eJ (cQ 6) (WD.o dc) (λ_ _=>rfl))) (WD.o (fi bU)))) (WD.o (oV (n5 hu) (WD.o (dq EZ hr (by rfl) (aX (bf 2) bU))) (WD.o dc))))))) (da (dH HB)) fj)
  (cZ (nj 7 l4.nd (xE bU))
  (cZ (lP (f:=mX) bz rfl (xF (bf 4)) (gQ (i:=8) l4.nd rfl (by first|exact Or.inl rfl|exact Or.inr rfl)) (da (i9 (xC (xK (WD.o (WF.d (iW 10 rfl ⟨rfl,rfl,rfl,l4.nd⟩ (wK.weak (gC (eJ (cQ 3) (WD.o dc) (λ_ _=>rfl)))) (λ_ _ _ _ _=>(xC (xK (WD.o (WF.d (iW 9 rfl ⟨rfl,rfl,rfl,l4.nd⟩ (wK.weak (gC (bf 10))) (λ_ _ _ _ _=>(eD (Ov hu) (cQ 9) (cQ 8))) (λ_ _ _ _ _=>(bf 9)))))))) (λ_ _ _ _ _=>(bf 10))))))) (da (BR (pv 7) (bf 8))) fj)))
  (da (i9 (Hz.pt (BO (eD (FJ hu) (WD.o (dq PV hr (by rfl) (aX (bf 3) bU))) (WD.o (eJ (cQ 7) (WD.o dc) (λ_ _=>rfl)))) (BO (eD (RH) (WD.o (eX sd (by rfl) M0.len mD (dw (WD.o (dq Ny hr (by rfl) (aX (bf 2) bU))) dI))) (WD.o (eX sd (by rfl) M0.len mD (dw (WD.o (eJ (cQ 7) (WD.o dc) (λ_ _=>rfl))) dI)))) (BN (eD (FJ hu) (WD.o (dq Kg hr (by rfl) (aX (bf 2) (aX (fi bU) (aX (eJ (cQ 7) (WD.o dc) (λ_ _=>rfl)) bU))))) (WD.o dc)))))) (da (dH HB)) fj))))))))))))))
  (da (dH HB)))
theorem E2 (F:kU K "__init__" "Search.__init__" qZ f fd) (Z:lQ K (cV Cs)):dY P w K mg base gY 1 f fd ["self","game"] (BU (cV Cs)):=OP (cV Cs) F ER rfl (λeN Ar outer s H E=>LI Z (pv 0) (pv 1) (pv 0) rfl rfl)
end
theorem all_mk {P:cA}{w:cB}{K:W.Frag}{h:Heap}{mg:cg}(X:K.In h) (G:h.Ns mainGlobals mg) (hfa:mg "law"=some (.ref fa))
  {Cs:cE}(aC:W.nsIn K mainGlobals "Search"=some (some (.ref Cs)))
  (pgC:W.plainGet K Cs Str.empty=true)
  (hdC:W.hasDictIn K Cs=true)
  (poC:W.plainOver K Cs=true)
  (saC:W.findIn K (.ref Cs) "__setattr__"=some (some (.builtin "object.__setattr__")))
  (mkC:W.makesIn K Cs=true)
  (kcC:W.keepIn K (.ref Cs)=true)
  (nGC:W.findIn K (.ref Cs) "game"=some none)
  (nKC:W.findIn K (.ref Cs) "known"=some none)
  (pI:TF K Cs "game" "known" "__init__" "Search.__init__" qZ)
  (p0:ux K "has_all" sV)
  (p1:ux K "has_some" qV)
  (p2:ux K "decided" sW)
  (p3:ux K "at_a_time" pD)
  (p4:ux K "other_hand" nV)
  (p5:ux K "choices" sX)
  (p6:ux K "behind" vF)
  (p7:ux K "free_part" pF)
  (p8:ux K "has_another" mY)
  (p9:ux K "spoils" vG)
  (p10:ux K "points_by_use" kM)
  (p11:ux K "open_lines" nW)
  (p12:TF K Cs "game" "known" "worth_trying" "Search.worth_trying" lV)
  (p13:TF K Cs "game" "known" "searched" "Search.searched" qX)
  (p14:TF K Cs "game" "known" "winner_of" "Search.winner_of" pG)
  (p15:TF K Cs "game" "known" "winner_at" "Search.winner_at" pH)
  (p16:ux K "winner_from" mZ)
  (p17:ux K "winner" vH)
  (p18:ux K "lines_without" kN)
  (p19:ux K "first_enough" lW)
  (p20:ux K "least_enough" lY)
  (p21:ux K "head_start" nX)
  (p22:ux K "curb" CH)
  (p23:ux K "fewest_points" kO)
  (p24:ux K "cover" yU)
  (p25:ux K "_law_mix" qY)
  (p26:ux K "_law_field" nY)
  (p27:ux K "_law_game" pJ)
  (p28:ux K "_law_sets" pK)
  (p29:ux K "law" G5)
  (z0:W.nsIn K mainGlobals "all"=some none)
  (z1:W.nsIn K mainGlobals "any"=some none)
  (z2:W.nsIn K mainGlobals "len"=some none)
  (z3:W.nsIn K mainGlobals "list"=some none)
  (z4:W.nsIn K mainGlobals "min"=some none)
  (z5:W.nsIn K mainGlobals "range"=some none)
  (z6:W.nsIn K mainGlobals "set"=some none)
  (z7:W.nsIn K mainGlobals "sorted"=some none)
  (z8:W.nsIn K mainGlobals "tuple"=some none)
  {t0:Tok}(y0:W.nsIn K mainGlobals "BUILDER"=some (some (.int 0 t0)))
  {t1:Tok}(y1:W.nsIn K mainGlobals "GUARD"=some (some (.int 1 t1)))
  (tq:(W.tabIn K "points_by_use").isSome=true)
  (zS:(W.tabIn K "head_start").isSome=true)
  (PX:(W.tabIn K "curb").isSome=true)
  :∃fd:cz,(∀(s:cy) (v:cx),BindsTo s fd ⟨[v],[]⟩ [("_law_script",v)])/\∀base:Heap,K.In base->base.Ns mainGlobals mg->dY P w K mg base gY 65 fa fd ["_law_script"] (rj IC):=by
 obtain⟨_,_,FI,mI,nI⟩:=pI.ex;obtain⟨_,_,A0,F0,T0⟩:=p0.get X G;obtain⟨_,_,A1,F1,T1⟩:=p1.get X G;obtain⟨_,_,A2,F2,T2⟩:=p2.get X G;obtain⟨_,_,A3,F3,T3⟩:=p3.get X G;obtain⟨_,_,A4,F4,T4⟩:=p4.get X G;obtain⟨_,_,A5,F5,T5⟩:=p5.get X G;obtain⟨_,_,A6,F6,T6⟩:=p6.get X G;obtain⟨_,_,A7,F7,T7⟩:=p7.get X G;obtain⟨_,_,A8,F8,T8⟩:=p8.get X G;obtain⟨_,_,A9,F9,T9⟩:=p9.get X G;obtain⟨_,_,A10,YZ,T10⟩:=p10.get X G;obtain⟨_,_,A11,Y0,T11⟩:=p11.get X G;obtain⟨_,_,F12,m12,n12⟩:=p12.ex;obtain⟨_,_,Y1,m13,n13⟩:=p13.ex;obtain⟨_,_,Y2,m14,n14⟩:=p14.ex;obtain⟨_,_,F15,m15,n15⟩:=p15.ex;obtain⟨_,_,A16,Y3,T16⟩:=p16.get X G;obtain⟨_,_,A17,Y4,T17⟩:=p17.get X G;obtain⟨_,_,A18,Y5,T18⟩:=p18.get X G;obtain⟨_,_,A19,We,T19⟩:=p19.get X G;obtain⟨_,_,Y6,Wf,T20⟩:=p20.get X G;obtain⟨_,_,A21,Y7,T21⟩:=p21.get X G;obtain⟨_,_,A22,Y8,T22⟩:=p22.get X G;obtain⟨_,_,A23,Wg,T23⟩:=p23.get X G;obtain⟨_,_,A24,Y9,T24⟩:=p24.get X G;obtain⟨_,_,A25,Za,T25⟩:=p25.get X G;obtain⟨_,_,A26,Zb,T26⟩:=p26.get X G;obtain⟨_,_,A27,Zc,T27⟩:=p27.get X G;obtain⟨_,_,A28,Zd,T28⟩:=p28.get X G;obtain⟨_,Ze,A29,F29,T29⟩:=p29.get X G;cases hfa.symm.trans A29;have M0:Bt mg:=⟨bE X G z0,bE X G z1,bE X G z2,bE X G z3,bE X G z4,bE X G z5,bE X G z6,bE X G z7,bE X G z8,⟨_,W.mg_of X G y0⟩,⟨_,W.mg_of X G y1⟩⟩;refine⟨Ze,λs v=>(by obtain⟨_,_,_,_,_,_,_,_,_,e,_⟩:=id F29.ex;rw[e];exact .of_eq rfl),λbase _ _=>?_⟩
 have Z:lQ K (cV Cs):=⟨⟨pgC,hdC,poC,saC⟩,nGC,nKC⟩;have yY:qv P w K mg base 1 (cV Cs) "Search":=⟨_,_,_,E2 FI Z,⟨mkC,mI.at_,mI.fn,kcC⟩,W.mg_of X G aC,kF FI,(show Str.ofString "known"≠Str.ofString "game" by decide +kernel)⟩
 obtain⟨⟨ctq,Ptq⟩,htq⟩:=Option.isSome_iff_exists.mp tq;have hcq:=T10 htq;obtain⟨⟨NI,NJ⟩,sF⟩:=Option.isSome_iff_exists.mp zS;have zT:=T21 sF;obtain⟨⟨W6,W7⟩,IJ⟩:=Option.isSome_iff_exists.mp PX;have PY:=T22 IJ;have CW:∀base:Heap,lA P w K mg base 33 (cV Cs) "winner_at" fI/\j7 P w K mg base 2 "decided" kz:=by
  intro base;have C0:j7 P w K mg base 1 "has_all" hO:=⟨_,_,_,G6 F0 M0,A0,F0.kp,kF F0⟩;have C1:j7 P w K mg base 1 "has_some" fy:=⟨_,_,_,ES F1 M0,A1,F1.kp,kF F1⟩;have C2:j7 P w K mg base 2 "decided" kz:=⟨_,_,_,G7 F2 M0 C0.mono C1.mono,A2,F2.kp,qS F2⟩;have C3:j7 P w K mg base 1 "at_a_time" eB:=⟨_,_,_,CJ F3 M0,A3,F3.kp,kF F3⟩;have C4:j7 P w K mg base 1 "other_hand" gu:=⟨_,_,_,zN F4 M0,A4,F4.kp,sT F4⟩;have CR:∀n:Nat,(j7 P w K mg base (1+n) "choices" (fM n)):=by
   intro n;induction n with
   |zero=>exact⟨_,_,_,OL,A5,F5.kp,kF F5⟩
   |succ n ih=>
    exact⟨_,_,_,(G8 (n:=1+n) F5 M0 ih.mono).mono (by omega),A5,F5.kp,kF F5⟩
  have C5:=(CR 5);clear CR;have C6:j7 P w K mg base 1 "behind" qI:=⟨_,_,_,Kc F6 M0,A6,F6.kp,sU F6⟩;have C7:j7 P w K mg base 1 "free_part" jD:=⟨_,_,_,CK F7 M0,A7,F7.kp,kF F7⟩;have C8:j7 P w K mg base 2 "has_another" jk:=⟨_,_,_,yV F8 M0 C0.mono,A8,F8.kp,kF F8⟩;have C9:j7 P w K mg base 2 "spoils" qL:=⟨_,_,_,Ke F9 M0 C1.mono,A9,F9.kp,kF F9⟩;have C10:j7 P w K mg base 1 "points_by_use" gm:=⟨_,_,_,vK YZ M0 htq hcq,A10,YZ.kp,sT YZ⟩;have C11:j7 P w K mg base 3 "open_lines" fD:=⟨_,_,_,zO Y0 M0 C7.mono C8.mono C1.mono,A11,Y0.kp,qS Y0⟩;have C12:lA P w K mg base 7 (cV Cs) "worth_trying" gH:=⟨_,_,_,wB F12 M0 Z C3.mono C5.mono C10.mono C9.mono,m12,qS F12,n12⟩;have CR:∀n:Nat,(lA P w K mg base (8+n) (cV Cs) "searched" (mU n))/\(lA P w K mg base (8+n) (cV Cs) "winner_of" (gP n)):=by
   intro n;induction n with
   |zero=>exact⟨⟨_,_,_,DP,m13,qS Y1,n13⟩,⟨_,_,_,DP,m14,qS Y2,n14⟩⟩
   |succ n ih=>
    exact⟨⟨_,_,_,(EU (n:=1+n) Y1 M0 Z C3.mono C6.mono C11.mono C4.mono ih.2.mono C12.mono).mono (by omega),m13,qS Y1,n13⟩,⟨_,_,_,(CL (n:=1+n) Y2 M0 Z ih.1.mono).mono (by omega),m14,qS Y2,n14⟩⟩
  have C13:=(CR 24).1;have C14:=(CR 24).2;clear CR;have Zf:lA P w K mg base 33 (cV Cs) "winner_at" fI:=⟨_,_,_,CM F15 M0 Z C11.mono C14.mono,m15,sU F15,n15⟩;exact⟨Zf,C2⟩
 have Zf:=(CW base).1;have C2:=(CW base).2;have C16:j7 P w K mg base 34 "winner_from" dR:=⟨_,_,_,yX Y3 M0 Z yY.mono Zf.mono,A16,Y3.kp,sU Y3⟩;have C17:j7 P w K mg base 35 "winner" lF:=⟨_,_,_,Kf Y4 M0 C16.mono,A17,Y4.kp,sT Y4⟩;have C18:j7 P w K mg base 1 "lines_without" eC:=⟨_,_,_,vL Y5 M0,A18,Y5.kp,kF Y5⟩;have HF:∀(base:Heap) (A:gz) (Gd Gc:D) (L:ig),vj P w K mg base (33+1) (cV Cs) A Gd L Gc ft->wA P w K mg base 43 "least_enough" 1 (cV Cs) A Gd L Gc eL:=by
  intro base A Gd Gc L hq;have CR:∀n:Nat,wA P w K mg base (35+n) "first_enough" 3 (cV Cs) A Gd L Gc (dB n):=by
   intro n;induction n with
   |zero=>exact⟨_,_,_,MY,A19,We.kp,sU We⟩
   |succ n ih=>exact⟨_,_,_,(wD (n:=1+n) We M0 hq.mono ih.mono).mono (by omega),A19,We.kp,sU We⟩
  exact⟨_,_,_,wF Wf M0 hq.mono (CR 7).mono,Y6,Wf.kp,kF Wf⟩
 have C21:j7 P w K mg base 44 "head_start" i4:=⟨_,_,_,zQ Y7 M0 Z yY.mono sF zT (Y6) Wf.kp (λbase=>(CW base).1) (λbase A Gd Gc L h=>(HF base A Gd Gc L h).mono),A21,Y7.kp,sT Y7⟩
 have C22:j7 P w K mg base 44 "curb" nT:=⟨_,_,_,PU Y8 M0 Z yY.mono IJ PY (Y6) Wf.kp (λbase=>(CW base).1) (λbase A Gd Gc L h=>(HF base A Gd Gc L h).mono),A22,Y8.kp,sT Y8⟩
 have CR:∀n:Nat,(FY P w K mg base (2+n) "fewest_points" 1 CU (dJ n)):=by
  intro n;induction n with
  |zero=>exact⟨_,_,_,LB,A23,Wg.kp,kF Wg⟩
  |succ n ih=>
   exact⟨_,_,_,(vM (n:=1+n) Wg M0 ih.mono C18.mono).mono (by omega),A23,Wg.kp,kF Wg⟩
 have C23:=(CR 8);clear CR;have C24:j7 P w K mg base 11 "cover" rS:=⟨_,_,_,Nx Y9 M0 C23.mono C18.mono,A24,Y9.kp,sT Y9⟩;have C25:j7 P w K mg base 1 "_law_mix" dX:=⟨_,_,_,EW Za M0,A25,Za.kp,qS Za⟩;have C26:j7 P w K mg base 2 "_law_field" eY:=⟨_,_,_,zR Zb M0 C25.mono,A26,Zb.kp,sU Zb⟩;have C27:j7 P w K mg base 3 "_law_game" fT:=⟨_,_,_,CN Zc M0 C26.mono C25.mono,A27,Zc.kp,sU Zc⟩;have C28:j7 P w K mg base 1 "_law_sets" lI:=⟨_,_,_,CP Zd M0,A28,Zd.kp,sT Zd⟩;exact(Tc F29 M0 C27.mono C28.mono C24.mono C22.mono C2.mono C21.mono C17.mono C16.mono).mono (by decide)
end K9
def K9.view:PySem.Program:={PySem.Challenge.pw_fieldclaim_k09_whole_handicaps with main:={PySem.Challenge.pw_fieldclaim_k09_whole_handicaps.main with body:=[K9.top 0,K9.top 2,K9.top 3,K9.top 4,K9.top 5,K9.top 6,K9.top 7,K9.top 8,K9.top 9,K9.top 10,K9.top 12,K9.top 13,K9.top 14,K9.top 15,K9.top 16,K9.top 17,K9.top 18,K9.top 19,K9.top 21,K9.top 23,K9.top 24,K9.top 25,K9.top 26,K9.top 27,K9.top 28,K9.top 30,K9.top 31,K9.top 32,K9.top 33,K9.top 34,K9.top 35,K9.top 36]}}
open PySem PySem.W PyProof.Rows
local macro_rules|`(tactic|o_head $H)=>do let hl:=Lean.mkIdent `hl;let hw:=Lean.mkIdent `hw;let hc:=Lean.mkIdent `hc;`(tactic|(refine holds_open (q:=K9.view) (loose:=[]) (Xt:=λs=>xlAt K9.view [] s&&recOk (RowW.records (OpenRow.toRowW (OpenLaw.row PySem.Challenge.rw_fieldclaim_k09_whole_handicaps))) s) (XP:=XL K9.view []) (Yf:=Hook.obs $H) (Ya:=Hook.val $H) (YP:=Hook.says $H) (N:=3100) ?$hl (Hook.of $H) (Hook.keeps $H) (λs e=>xl_of s (Bool.and_eq_true_iff.mp e).1) XL.keeps (by rfl) (by rfl) (by rfl) (λs e=>recFacts_of (Bool.and_eq_true_iff.mp e).2) (by rfl) (by first|assumption|decide +kernel) (by decide +kernel) ⟨rfl,rfl,rfl,rfl,rfl,by decide +kernel⟩ ?$hw ?$hc;(case $hl:ident=>intro w;kernel_rfl)))
set_option maxRecDepth 100000 in
set_option maxHeartbeats 0 in
theorem PySem.Challenge.cw_fieldclaim_k09_whole_handicaps_holds : PySem.Challenge.rw_fieldclaim_k09_whole_handicaps.Holds := by
 w_on;o_law;k_head;(case hw=>w_witness2)
 k_fill
 refine DL.Ve (l:=PySem.Challenge.rw_fieldclaim_k09_whole_handicaps) (x:="_law_script") (g:=K9.IC) rfl rfl (λw h Y=>by first|exact PySem.W.kIn_of Y|exact PySem.W.km_in_of Y) K9.PR ?R ?F
 case R=>intro t ht;simp only[L2.qc,List.mem_cons,bH,or_false]at ht;rcases ht with rfl|rfl|rfl<;>kernel_rfl
 case F=>
  intro w mg fa h KX G UN;refine⟨?z,?t,?r⟩
  case z=>kernel_rfl
  case t=>kernel_rfl
  case r=>
   refine' K9.all_mk KX G UN ?_ ?_ ?_ ?_ ?_ ?_ ?_ ?_ ?_ ?_ ?_ ?_ ?_ ?_ ?_ ?_ ?_ ?_ ?_ ?_ ?_ ?_ ?_ ?_ ?_ ?_ ?_ ?_ ?_ ?_ ?_ ?_ ?_ ?_ ?_ ?_ ?_ ?_ ?_ ?_ ?_ ?_ ?_ ?_ ?_ ?_ ?_ ?_ ?_ ?_ ?_ ?_ ?_ ?_
   all_goals first|(refine' DL.SY ?a ?l ?c ?k;(case a=>k_is);(case l=>k_is);(case c=>k_is);case k=>k_is)|(refine' DL.S0 ?a ?i ?l ?c ?k ?n;(case a=>k_is);(case i=>k_is);(case l=>k_is);(case c=>k_is);(case k=>k_is);case n=>decide +kernel)|k_is|kernel_rfl|skip
