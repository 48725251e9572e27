import PyProof.Rows.All
import Wide.All
import OpenK.AllK
import Wide.FinOn
import Lean
import PyProof.EqAt
import PyProof.EqKinds
import PyProof.TupleCall
import KE.KSortTup
import KE.KLam
import KE.KTryMore
import PyProof.NsDelKeeps
import PyProof.RulesAs
import PyProof.Rows.SumAny
import PySem.SetTable
import KE.KDictList
import PyProof.SetRoads
import PyProof.WalksMore
import PySem.Challenge.RW_fieldclaim_k10_whole_what_helps_whom
set_option Elab.async false
set_option linter.all false
set_option maxRecDepth 100000
set_option maxHeartbeats 4000000
theorem aa:type_of% @PySem.wpAny_bind:=@PySem.wpAny_bind
theorem ae.{i0,GY}:type_of% @List.length_map.{i0,GY}:=@List.length_map
theorem af.{i0}:type_of% @List.mem_cons_self.{i0}:=@List.mem_cons_self
theorem ag:type_of% @PySem.Heap.get?_push_of_some:=@PySem.Heap.get?_push_of_some
theorem ah.{i0}:type_of% @List.getElem?_eq_getElem.{i0}:=@List.getElem?_eq_getElem
theorem ai.{i0}:type_of% @List.mem_cons_of_mem.{i0}:=@List.mem_cons_of_mem
theorem aj:type_of% @PySem.wpAny_pure:=@PySem.wpAny_pure
theorem ak.{i0}:type_of% @List.getD_eq_getElem?_getD.{i0}:=@List.getD_eq_getElem?_getD
theorem ao.{i0,GY}:type_of% @Option.bind_some.{i0,GY}:=@Option.bind_some
theorem aq.{u}:type_of% @List.size_toArray.{u}:=@List.size_toArray
theorem au:type_of% @Nat.le_refl:=@Nat.le_refl
theorem av.{i0,GY}:type_of% @List.getElem?_map.{i0,GY}:=@List.getElem?_map
theorem aw:type_of% @Nat.lt_of_lt_of_le:=@Nat.lt_of_lt_of_le
theorem ax.{u}:type_of% @List.length_cons.{u}:=@List.length_cons
theorem ay:type_of% @PySem.Heap.get?_push_size:=@PySem.Heap.get?_push_size
theorem az:type_of% @PySem.Heap.lt_size:=@PySem.Heap.lt_size
theorem aB:type_of% @Nat.le_trans:=@Nat.le_trans
theorem aD:type_of% @Nat.ne_of_lt:=@Nat.ne_of_lt
theorem aE.{u,v}:type_of% @List.map_cons.{u,v}:=@List.map_cons
theorem aF.{i0}:type_of% @List.getElem?_set_ne.{i0}:=@List.getElem?_set_ne
theorem aG:type_of% @decide_eq_false:=@decide_eq_false
theorem aH:type_of% @Bool.false_eq_true:=@Bool.false_eq_true
theorem aJ.{i0}:type_of% @List.getElem?_append_left.{i0}:=@List.getElem?_append_left
theorem aK.{i0}:type_of% @List.getElem?_cons_succ.{i0}:=@List.getElem?_cons_succ
theorem aL.{u}:type_of% @List.mem_append_right.{u}:=@List.mem_append_right
theorem aM.{i0}:type_of% @List.getElem?_cons_zero.{i0}:=@List.getElem?_cons_zero
theorem aN.{i0}:type_of% @Array.length_toList.{i0}:=@Array.length_toList
theorem aO:type_of% @PySem.W.mg_of:=@PySem.W.mg_of
theorem aP.{i0}:type_of% @List.getElem?_append_right.{i0}:=@List.getElem?_append_right
theorem aQ.{u}:type_of% @List.length_append.{u}:=@List.length_append
theorem aR:type_of% @decide_eq_true:=@decide_eq_true
theorem aS.{u}:type_of% @Option.some.inj.{u}:=@Option.some.inj
theorem aT.{i0}:type_of% @Array.getD_eq_getD_getElem?.{i0}:=@Array.getD_eq_getD_getElem?
theorem aU.{i0}:type_of% @Array.getElem?_eq_getElem.{i0}:=@Array.getElem?_eq_getElem
theorem aV.{i0,GY,X3}:type_of% @List.map_map.{i0,GY,X3}:=@List.map_map
theorem aW.{i0}:type_of% @List.length_filter_le.{i0}:=@List.length_filter_le
theorem aZ:type_of% @Bool.false_ne_true:=@Bool.false_ne_true
theorem bc.{i0}:type_of% @List.getElem?_set_self.{i0}:=@List.getElem?_set_self
theorem bf.{i0}:type_of% @List.getElem?_replicate.{i0}:=@List.getElem?_replicate
theorem bg:type_of% @Nat.le_of_lt:=@Nat.le_of_lt
theorem bh.{i0}:type_of% @List.mem_of_getElem?.{i0}:=@List.mem_of_getElem?
theorem bo:type_of% @PySem.wpAny_holding:=@PySem.wpAny_holding
theorem bp.{i0}:type_of% @List.getElem?_of_mem.{i0}:=@List.getElem?_of_mem
theorem bq.{u,i0}:type_of% @List.lookup_cons.{u,i0}:=@List.lookup_cons
theorem br.{i0}:type_of% @List.filter_cons.{i0}:=@List.filter_cons
theorem bt.{i0}:type_of% @List.mem_singleton.{i0}:=@List.mem_singleton
theorem bu:type_of% @PySem.sizeLine_eq:=@PySem.sizeLine_eq
theorem bw:type_of% @Nat.ne_of_gt:=@Nat.ne_of_gt
theorem bx:type_of% @PySem.Heap.get?_update_other:=@PySem.Heap.get?_update_other
theorem bz:type_of% @PySem.PassesOwn.never:=@PySem.PassesOwn.never
theorem bA.{i0,GY}:type_of% @Option.map_some.{i0,GY}:=@Option.map_some
theorem bB.{u}:type_of% @List.append_nil.{u}:=@List.append_nil
theorem bC.{u}:type_of% @List.mem_append_left.{u}:=@List.mem_append_left
theorem bD.{i0}:type_of% @if_false.{i0}:=@if_false
theorem bE:type_of% @PySem.W.mg_none_of:=@PySem.W.mg_none_of
theorem bF.{i0}:type_of% @List.any_cons.{i0}:=@List.any_cons
theorem bG:type_of% @Nat.lt_trans:=@Nat.lt_trans
theorem bH.{i0}:type_of% @List.not_mem_nil.{i0}:=@List.not_mem_nil
theorem bJ.{i0}:type_of% @List.length_take.{i0}:=@List.length_take
theorem bK:type_of% @of_decide_eq_true:=@of_decide_eq_true
theorem bL:type_of% @Nat.zero_le:=@Nat.zero_le
theorem bM:type_of% @PySem.wpAny_call_entry:=@PySem.wpAny_call_entry
theorem bN.{i0}:type_of% @beq_self_eq_true.{i0}:=@beq_self_eq_true
theorem bO.{i0}:type_of% @List.any_eq_true.{i0}:=@List.any_eq_true
theorem bP:type_of% @PySem.wpAny_mono:=@PySem.wpAny_mono
theorem bQ:type_of% @PySem.wpAny_truthy_bool:=@PySem.wpAny_truthy_bool
theorem bR:type_of% @PySem.wpAny_newObj_type:=@PySem.wpAny_newObj_type
theorem bS.{i0,GY}:type_of% @List.map_congr_left.{i0,GY}:=@List.map_congr_left
theorem bT:type_of% @Bool.not_true:=@Bool.not_true
theorem bU:type_of% @Classical.byContradiction:=@Classical.byContradiction
theorem bW.{i0}:type_of% @List.Nodup.length_le_of_subset.{i0}:=@List.Nodup.length_le_of_subset
theorem bX:type_of% @PySem.Around.under_plainId:=@PySem.Around.under_plainId
abbrev cm:=List (List Int)
abbrev cn:=List Int
abbrev cg:=PySem.Value->PySem.Shared->Prop
abbrev cj:=PySem.Str->Option PySem.Value
abbrev ck:=List (PySem.Addr×PySem.Obj)
abbrev cp:=Option PySem.Addr
abbrev cq:=Array (Option PySem.Value)
abbrev cv:=List PySem.Value
abbrev cw:=PySem.Value
abbrev cx:=PySem.Shared
abbrev cy:=PySem.FuncData
abbrev cz:=PySem.Program
abbrev cA:=PySem.World
abbrev cB:=PySem.Around
abbrev cC:=PySem.SetTable
abbrev cD:=PySem.Addr
abbrev cE:=PySem.Expr
abbrev cF:=PySem.Stmt
namespace L2
open PySem
noncomputable def ux:List (Str×Pos×Str):=[(Str.ofString "points_by_use",⟨86,34,86,69⟩,Str.ofString "points_by_use.<locals>.<lambda>")]
end L2
namespace L2
open PySem PySem.Spec PyProof.Rows
noncomputable abbrev Key:=Sum Int Str
noncomputable def xK:Key->cw->Bool
 |.inl k,v=>Value.isInt k v
 |.inr x,v=>Value.isStrOf x v
noncomputable def Tv (w:cA):Key->Int
 |.inl k=>hashInt k
 |.inr x=>hashStr w x
theorem gb:∀{k:Key}{v:cw},xK k v=true->(∃i t,k=Sum.inl i/\v=Value.int i t)\/(∃x t,k=Sum.inr x/\v=Value.str x t)
 |.inl i,v,h=>by
  obtain⟨t,e⟩:=Value.isInt_shape (k:=i) (v:=v) h;exact .inl ⟨i,t,rfl,e⟩
 |.inr x,v,h=>by
  obtain⟨t,e⟩:=Value.isStrOf_shape (x:=x) (v:=v) h;exact .inr ⟨x,t,rfl,e⟩
theorem E6 (i:Int) (t:Tok):xK (.inl i) (.int i t)=true:=by simp[xK,Value.isInt]
theorem E7 (x:Str) (t:Tok):xK (.inr x) (.str x t)=true:=by simp[xK,Value.isStrOf]
theorem Nd (a b:Int):decide ((Sum.inl a:Key)=Sum.inl b)=(a==b):=by
 by_cases e:a=b
 ·subst e;simp
 ·have h:¬ (Sum.inl a:Key)=Sum.inl b:=λq=>e (Sum.inl.inj q)
  rw[aG h];exact(beq_eq_false_iff_ne.mpr e).symm
theorem Nf (a b:Str):decide ((Sum.inr a:Key)=Sum.inr b)=decide (a=b):=by
 by_cases e:a=b
 ·subst e;simp
 ·have h:¬ (Sum.inr a:Key)=Sum.inr b:=λq=>e (Sum.inr.inj q)
  rw[aG h,aG e]
theorem Ng (a:Int) (b:Str):decide ((Sum.inl a:Key)=Sum.inr b)=false:=aG (λq=>nomatch q)
theorem Nh (a:Str) (b:Int):decide ((Sum.inr a:Key)=Sum.inl b)=false:=aG (λq=>nomatch q)
noncomputable def eU (prog:cz) (w:cA):PySem.KeyKind prog w Key where
 is:=xK
 hash:=Tv w
 inj:=λv a b ha hb=>by
  rcases gb ha with⟨i,t,rfl,rfl⟩|⟨x,t,rfl,rfl⟩
  ·rcases gb hb with⟨j,u,rfl,e⟩|⟨y,u,rfl,e⟩
   ·injection e with e1 _;rw[e1]
   ·exact nomatch e
  ·rcases gb hb with⟨j,u,rfl,e⟩|⟨y,u,rfl,e⟩
   ·exact nomatch e
   ·injection e with e1 _;rw[e1]
 byValue:=λk v h=>by
  rcases gb h with⟨i,t,rfl,rfl⟩|⟨x,t,rfl,rfl⟩<;>rfl
 pyHash:=λhv h=>by
  rcases gb hv with⟨i,t,rfl,rfl⟩|⟨x,t,rfl,rfl⟩
  ·exact wpAny_pyHash_int h
  ·exact wpAny_pyHash_str h
 eqBool:=λhu hv h=>by
  rcases gb hu with⟨i,t,rfl,rfl⟩|⟨x,t,rfl,rfl⟩
  ·rcases gb hv with⟨j,u,rfl,rfl⟩|⟨y,u,rfl,rfl⟩
   ·rw[Nd]at h;exact wpAny_eqBool_int h
   ·rw[Ng]at h;exact SeqAt.EqAt.int_str i t y u _ _ _ _ h
  ·rcases gb hv with⟨j,u,rfl,rfl⟩|⟨y,u,rfl,rfl⟩
   ·rw[Nh]at h;exact SeqAt.EqAt.str_int x t j u _ _ _ _ h
   ·rw[Nf]at h;exact wpAny_eqBool_str h
 «strs»:=λk x t v h=>by
  rcases gb h with⟨i,u,rfl,e⟩|⟨y,u,rfl,e⟩
  ·exact nomatch e
  ·injection e with e1 _
   subst e1;cases v<;>rfl
theorem Ao (prog:cz) (w:cA) (i:Int) (t:Tok):(eU prog w).is (.inl i) (.int i t)=true:=E6 i t
theorem Ap (prog:cz) (w:cA) (x:Str) (t:Tok):(eU prog w).is (.inr x) (.str x t)=true:=E7 x t
end L2
namespace L2
open PySem PySem.Spec PyProof.Rows
inductive V where
 |fN|bl (b:Bool)|int (i:Int)|str (x:Str)|PR (b:Array UInt8)|SO (b:UInt64)|ref (a:cD)|ty (n:String)
 deriving DecidableEq
noncomputable def RelV:V->cw->Prop
 |.fN,u=>u=Value.none
 |.bl b,u=>u=Value.bool b
 |.int i,u=>∃t,u=Value.int i t
 |.str x,u=>∃t,u=Value.str x t
 |.PR b,u=>∃t,u=Value.bytes b t
 |.SO b,u=>∃t,u=Value.float b t
 |.ref a,u=>u=Value.ref a
 |.ty n,u=>u=Value.type n
noncomputable abbrev Vals:List V->cv->Prop:=Paired RelV
theorem Vals.length {xs:List V}{us:cv}(r:Vals xs us):xs.length=us.length:=Paired.length r
theorem Vals.get:∀{xs:List V}{us:cv}{i:Nat}{x:V},Vals xs us->xs[i]? =some x->∃u,us[i]? =some u/\RelV x u
 |_,_,_,_,.nil,e=>by simp at e
 |_,_,0,_,.cons r _,e=>by simp at e;subst e;exact⟨_,rfl,r⟩
 |_,_,i+1,x,.cons _ t,e=>by
  obtain⟨u,h1,h2⟩:=Vals.get (i:=i) (x:=x) t (by simpa using e)
  exact⟨u,by simpa using h1,h2⟩
theorem Vals.append:∀{xs ys:List V}{us ws:cv},Vals xs us->Vals ys ws->Vals (xs++ys) (us++ws)
 |_,_,_,_,.nil,s=>s
 |_,_,_,_,.cons r t,s=>.cons r (Vals.append t s)
theorem Vals.take:∀{xs:List V}{us:cv}(n:Nat),Vals xs us->Vals (xs.take n) (us.take n)
 |_,_,0,_=>.nil
 |_,_,_+1,.nil=>.nil
 |_,_,n+1,.cons r t=>.cons r (Vals.take n t)
theorem Vals.drop:∀{xs:List V}{us:cv}(n:Nat),Vals xs us->Vals (xs.drop n) (us.drop n)
 |_,_,0,r=>r
 |_,_,_+1,.nil=>.nil
 |_,_,n+1,.cons _ t=>Vals.drop n t
noncomputable def oM:Option V->Option cw->Prop
 |some v,some u=>RelV v u
 |none,none=>True
 |_,_=>False
noncomputable def KV {κ:Type}:List (κ×V)->List (κ×cw)->Prop:=Paired λ(p:κ×V) (q:κ×cw)=>p.1=q.1/\RelV p.2 q.2
noncomputable def kV:Key->V
 |.inl i=>.int i
 |.inr x=>.str x
inductive HO where
 |lst (xs:List V)
 |tup (xs:List V)
 |dK (kvs:List (Key×V))|dT (kvs:List (List Key×V))
 |set (S:Int->Bool) (n:Nat)
 |ins (C dx:cD) (fs:List (Str×V))
 |own (x:cD)
 |xd (fs:List (Str×V))
 |met (f x:cD)
 |Mg (lo hi:Int)
 |B2 (o:Obj) (u:HO)
 |B7 (ps:Array cw)
 |ext (φ:Heap->Prop)
noncomputable abbrev Hp:=cD->Option HO
noncomputable def upd (H:Hp) (a:cD) (o:HO):Hp:=λb=>if b=a then some o else H b
theorem cU {H:Hp}{a:cD}{o:HO}:upd H a o a=some o:=by unfold upd;rw[if_pos rfl]
theorem cQ {H:Hp}{a b:cD}{o:HO}(h:b≠a):upd H a o b=H b:=by unfold upd;rw[if_neg h]
theorem Qi {H:Hp}{a b:cD}{o u:HO}(h:H a=some o) (h':H b=some u) (d:o≠u):a≠b:=by
 intro e;subst e;rw[h]at h';exact d (aS h')
theorem cS {H:Hp}{a b:cD}{o:HO}(h:H a=some o) (h':H b=none):a≠b:=by
 intro e;subst e;rw[h]at h';cases h'
noncomputable def xg (pos:Pos) (qual:Str):Array cw:=#[.int pos.line 0,.int pos.col 0,.str qual 0]
def xM (H:Hp) (h:Heap) (a:cD) (ps:Array cw):Prop:=
 ∃qs:Array cw,h.get? a=some {cls:=.none,data:=.fields qs}/\TriplesOk qs.toList/\∃pos qual more,ps=xg pos qual++more/\
  (codeAmong pos qs.toList=none\/∃c oc vs t,codeAmong pos qs.toList=some (.ref c)/\H c=some (.B2 oc (.own 0))/\oc.data=.fields vs/\vs[1]? =some (.str qual t))
def E8 (K:W.Frag) (mg:cj) (base:Heap) (H:Hp):Prop:=∀x c Pt pos qual,(x,pos,qual)∈ux->W.tabIn K x=some (c,Pt)->(∃more,H Pt=some (.B7 (xg pos qual++more)))/\W.CodeHd base c Pt/\base.BuiltinsAt mg Pt
section
variable (P:cz) (w:cA)
noncomputable def g8 (H:Hp) (h:Heap) (a:cD):HO->Prop
 |.lst xs=>xs.length<=sizeLine/\∃(dg:cv) (n:Nat),Vals xs dg/\h.get? a=some {cls:=.type "list",data:=.seq dg.toArray n}
 |.tup xs=>xs.length<=sizeLine/\∃dg:cv,Vals xs dg/\IsTup h a dg.toArray
 |.dK kvs=>kvs.length<=sizeLine/\(a==sysModules)=false/\∃vs,KV kvs vs/\h.DictOf (eU P w) a vs
 |.dT kvs=>kvs.length<=sizeLine/\(a==sysModules)=false/\∃xs:List (List Key×cD×cw),
   Paired (λ(p:List Key×V) (q:List Key×cD×cw)=>p.1=q.1/\H q.2.1=some (.tup (p.1.map kV))/\RelV p.2 q.2.2) kvs xs/\
   ∃o es ep,h.get? a=some o/\o.ExactDict/\o.data=.dict es ep/\es.toList=xs.map (entryOfKey (tupleKind (eU P w)))/\(xs.map (·.1)).Nodup
 |.set S n=>h.SetOf (intKind P w) a S n
 |.ins C dx fs=>H dx=some (.own a)/\fs.length<=1000/\dx≠a/\h.get? a=some (W.instObj C dx)/\
   ∃mA,h.Ns1 dx mA/\(∀f,oM (fs.lookup f) (mA f))/\PySem.Within mA (fs.map (·.1))
 |.own _=>∃o,h.get? a=some o
 |.xd fs=>∃mA,h.Ns1 a mA/\∀f,oM (fs.lookup f) (mA f)
 |.Mg lo hi=>∃t u v,h.get? a=some {cls:=.type "range",data:=.fields #[.int lo t,.int hi u,.int 1 v]}
 |.B2 o u=>h.get? a=some o/\g8 H h a u
 |.B7 ps=>xM H h a ps
 |.met f x=>h.get? a=some (W.methodObj (.ref f) (.ref x))
 |.ext φ=>φ h/\(∃o,h.get? a=some o)/\∀h1 h2:Heap,φ h1->(∀o,h1.get? a=some o->h2.get? a=some o)->φ h2
def qw (H:Hp) (h:Heap):Prop:=∀a o,H a=some o->g8 P w H h a o
end
section
variable {P:cz}{w:cA}{H H':Hp}{h h':Heap}{a:cD}{o:HO}
theorem g8.lt (x:g8 P w H h a o):a<h.objs.size:=by
 cases o with
 |lst xs=>obtain⟨_,_,_,_,e⟩:=x;exact az e
 |tup xs=>obtain⟨_,_,_,p⟩:=x;exact p.lt
 |dK kvs=>obtain⟨_,_,_,_,o,_,_,e,_⟩:=x;exact az e
 |dT kvs=>obtain⟨_,_,_,_,o,_,_,e,_⟩:=x;exact az e
 |set S n=>obtain⟨o,_,_,_,e,_⟩:=x;exact az e
 |ins C dx fs=>obtain⟨_,_,_,e,_⟩:=x;exact az e
 |own y=>obtain⟨_,e⟩:=x;exact az e
 |xd fs=>obtain⟨_,⟨_,_,_,e,_⟩,_⟩:=x;exact az e
 |Mg lo hi=>obtain⟨_,_,_,e⟩:=x;exact az e
 |B2 ob u=>obtain⟨e,_⟩:=x;exact az e
 |B7 ps=>obtain⟨_,e,_⟩:=(show xM H h a ps from x);exact az e
 |met f y=>exact az (show h.get? a=some _ from x)
 |ext φ=>obtain⟨_,⟨_,e⟩,_⟩:=x;exact az e
theorem Paired.Ni {α β:Type}{F G:α->β->Prop}:∀{l₁:List α}{l₂:List β},Paired F l₁ l₂->(∀a b,F a b->G a b)->Paired G l₁ l₂
 |_,_,.nil,_=>.nil
 |_,_,.cons r t,f=>.cons (f _ _ r) (Paired.Ni t f)
theorem g8.yJ (x:g8 P w H h a o) (k:∀b u,(b=a\/H b=some (.own a))->h.get? b=some u->h'.get? b=some u)
  (ho:∀b,H b=some (.own a)->H' b=some (.own a)) (ht:∀b xs,H b=some (.tup xs)->H' b=some (.tup xs)) (hz:∀b ob u,H b=some (.B2 ob u)->H' b=some (.B2 ob u):=by intro b ob u q;first|exact q|exact(cQ (cS q (by assumption))).trans q):g8 P w H' h' a o:=by
 induction o with
 |lst xs=>obtain⟨z,dg,n,r,e⟩:=x;exact⟨z,dg,n,r,k _ _ (.inl rfl) e⟩
 |tup xs=>obtain⟨z,dg,r,ob,e,c⟩:=x;exact⟨z,dg,r,ob,k _ _ (.inl rfl) e,c⟩
 |dK kvs=>obtain⟨z,y,vs,r,ob,es,ep,e,c⟩:=x;exact⟨z,y,vs,r,ob,es,ep,k _ _ (.inl rfl) e,c⟩
 |dT kvs=>
  obtain⟨z,y,xs,r,ob,es,ep,e,c⟩:=x;exact⟨z,y,xs,Paired.Ni r λp q z=>⟨z.1,ht _ _ z.2.1,z.2.2⟩,ob,es,ep,k _ _ (.inl rfl) e,c⟩
 |set S n=>obtain⟨ob,es,ep,t,e,c⟩:=x;exact⟨ob,es,ep,t,k _ _ (.inl rfl) e,c⟩
 |ins C dx fs=>
  obtain⟨d,z,ne,e,mA,⟨od,es,ep,e2,c⟩,r⟩:=x;exact⟨ho _ d,z,ne,k _ _ (.inl rfl) e,mA,⟨od,es,ep,k _ _ (.inr d) e2,c⟩,r⟩
 |own y=>obtain⟨ob,e⟩:=x;exact⟨ob,k _ _ (.inl rfl) e⟩
 |xd fs=>obtain⟨mA,⟨od,es,ep,e,c⟩,r⟩:=x;exact⟨mA,⟨od,es,ep,k _ _ (.inl rfl) e,c⟩,r⟩
 |Mg lo hi=>obtain⟨t,u,v,e⟩:=x;exact⟨t,u,v,k _ _ (.inl rfl) e⟩
 |B2 ob u ih=>obtain⟨e,q⟩:=x;exact⟨k _ _ (.inl rfl) e,ih q⟩
 |B7 ps=>
  obtain⟨qs,e,tr,pos,qual,more,eq,r⟩:=(show xM H h a ps from x)
  exact⟨qs,k _ _ (.inl rfl) e,tr,pos,qual,more,eq,r.imp id λ⟨c,oc,vs,tt,q1,q2,q3⟩=>⟨c,oc,vs,tt,q1,hz _ _ _ q2,q3⟩⟩
 |met f y=>
  have e:h.get? a=some (W.methodObj (.ref f) (.ref y)):=x;show h'.get? a=some (W.methodObj (.ref f) (.ref y));exact k a _ (.inl rfl) e
 |ext φ=>obtain⟨p,⟨o,e⟩,st⟩:=x;exact⟨st _ _ p λo q=>k _ _ (.inl rfl) q,⟨o,k _ _ (.inl rfl) e⟩,st⟩
theorem qw.lt (x:qw P w H h) (e:H a=some o):a<h.objs.size:=(x a o e).lt
theorem qw.fresh (x:qw P w H h) (e:h.objs.size<=a):H a=none:=by
 cases q:H a with
 |none=>rfl
 |some u=>exact absurd (aw (x.lt q) e) (Nat.lt_irrefl _)
theorem qw.kept (x:qw P w H h) (k:∀b u,h.get? b=some u->h'.get? b=some u):qw P w H h':=λa o e=>
 (x a o e).yJ (λb u _ q=>k b u q) (λ_ q=>q) λ_ _ q=>q
theorem qw.laid (x:qw P w H h) (k:∀b u,h.get? b=some u->h'.get? b=some u) (hp:h.objs.size<=a) (new:g8 P w (upd H a o) h' a o):qw P w (upd H a o) h':=λb u e=>by
 have hn:=x.fresh hp;by_cases hb:b=a
 ·subst hb;rw[cU]at e;cases e;exact new
 ·rw[cQ hb]at e;exact(x b u e).yJ (λc v _ q=>k c v q) (λc q=>by rw[cQ (cS q hn)];exact q) λc xs q=>by rw[cQ (cS q hn)];exact q
end
def Rd (H:Hp) (a:cD) (u:HO):Prop:=H a=some u\/∃o,H a=some (.B2 o u)
theorem Rd.ok {P:cz}{w:cA}{H:Hp}{h:Heap}{a:cD}{u:HO}(r:Rd H a u) (x:qw P w H h):g8 P w H h a u:=by
 rcases r with r|⟨o,r⟩
 ·exact x a u r
 ·obtain⟨_,q⟩:=x a _ r;exact q
noncomputable def Qj:Option HO->Prop
 |some (.lst _)=>True
 |some (.dK _)=>True
 |some (.dT _)=>True
 |some (.set _ _)=>True
 |some (.ins _ _ _)=>True
 |some (.ext _)=>True
 |_=>False
section
variable {P:cz}{w:cA}{H:Hp}{h h':Heap}{x e:cD}{o':HO}
theorem qw.write (ok:qw P w H h) (mu:Qj (H x)) (he:e=x\/H e=some (.own x)) (k:∀b u,b≠e->h.get? b=some u->h'.get? b=some u) (PU:∃u,h'.get? e=some u)
  (new:g8 P w (upd H x o') h' x o'):qw P w (upd H x o') h':=λb u q=>by
 have Qk:∀c y,H c=some (.own y)->c≠x:=λc y r z=>by subst z;rw[r]at mu;exact mu
 have Tw:∀c xs,H c=some (.tup xs)->c≠x:=λc xs r z=>by subst z;rw[r]at mu;exact mu
 by_cases hb:b=x
 ·subst hb;rw[cU]at q;cases q;exact new
 ·rw[cQ hb]at q;by_cases Nj:b=e
  ·have q':H b=some (.own x):=by
    rcases he with z|z
    ·exact absurd (Nj.trans z) hb
    ·rw[Nj];exact z
   rw[q]at q';cases q';obtain⟨v,hv⟩:=PU;exact⟨v,by rw[Nj];exact hv⟩
  ·refine(ok b u q).yJ (λc v hc r=>k c v ?_ r) (λc r=>by rw[cQ (Qk c b r)];exact r) (λc xs r=>by rw[cQ (Tw c xs r)];exact r) λc ob' u' r=>(cQ (λz=>by subst z;rw[r]at mu;exact mu)).trans r
   rcases hc with rfl|hc
   ·exact Nj
   ·rintro rfl
    rcases he with z|z
    ·exact Qk c b hc z
    ·rw[hc]at z;cases z;exact hb rfl
end
structure Un (fs ex:List cD) (H H':Hp) (h h':Heap):Prop where
 keep:∀b o,h.get? b=some o->H b=none->b∉fs->b∉ex->h'.get? b=some o
 slot:∀b o,h.get? b=some o->H b=none->b∈fs->b∉ex->∃sl,h'.get? b=some {o with slots:=sl}
 free:∀b o,h.get? b=some o->H b=none->b∉ex->H' b=none
 there:∀b o,h.get? b=some o->b∉ex->∃o',h'.get? b=some o'
 fO:∀b xs,H b=some (.tup xs)->H' b=some (.tup xs)
 yK:∀b o u,H b=some (.B2 o u)->H' b=some (.B2 o u)
 xh:∀b ps,H b=some (.B7 ps)->∃more,H' b=some (.B7 (ps++more))
section
variable {fs X4 ex ex':List cD}{H H1 H2:Hp}{h h1 h2 h':Heap}{a x e:cD}{o:HO}
theorem Un.any (u:Un fs ex H H1 h h1) {b:cD}{ob:Obj}(q:h.get? b=some ob) (n:H b=none) (hx:b∉ex):∃sl,h1.get? b=some {ob with slots:=sl}:=by
 by_cases hb:b∈fs
 ·exact u.slot b ob q n hb hx
 ·exact⟨ob.slots,u.keep b ob q n hb hx⟩
theorem Un.kept (k:∀b u,h.get? b=some u->h'.get? b=some u):Un fs ex H H h h':=
 ⟨λb ob q _ _ _=>k b ob q,λb ob q _ _ _=>⟨ob.slots,k b ob q⟩,λ_ _ _ n _=>n,λb ob q _=>⟨ob,k b ob q⟩,λ_ _ q=>q,λ_ _ _ q=>q,λ_ ps q=>⟨#[],by rw[q];simp⟩⟩
theorem Un.refl:Un fs ex H H h h:=Un.kept λ_ _ q=>q
theorem Un.laid (k:∀b u,h.get? b=some u->h'.get? b=some u) (hp:h.objs.size<=a) (hn:H a=none):Un fs ex H (upd H a o) h h' where
 keep:=λb u q _ _ _=>k b u q
 slot:=λb u q _ _ _=>⟨u.slots,k b u q⟩
 free:=λb u q n _=>by rw[cQ (aD (aw (az q) hp))];exact n
 there:=λb u q _=>⟨u,k b u q⟩
 fO:=λb xs q=>by rw[cQ (cS q hn)];exact q
 yK:=λb u xs q=>by rw[cQ (cS q hn)];exact q
 xh:=λb ps q=>⟨#[],by rw[cQ (cS q hn),q];simp⟩
theorem Un.write (mu:Qj (H x)) (he:e=x\/H e=some (.own x)) (k:∀b u,b≠e->h.get? b=some u->h'.get? b=some u) (PU:∃u,h'.get? e=some u):Un fs ex H (upd H x o) h h':=by
 have hx:∀b,H b=none->b≠x:=λb n z=>by subst z;rw[n]at mu;exact mu
 have hb:∀b,H b=none->b≠e:=λb n z=>by
  subst z;rcases he with r|r
  ·exact hx b n r
  ·rw[n]at r;cases r
 have hm:∀b u,H b=some u->¬ Qj (some u)->b≠x:=λb u q nm z=>by subst z;rw[q]at mu;exact nm mu
 refine⟨λb u q n _ _=>k b u (hb b n) q,λb u q n _ _=>⟨u.slots,k b u (hb b n) q⟩,λb u q n _=>by rw[cQ (hx b n)];exact n,λb u q _=>?_,
  λb xs q=>by rw[cQ (hm b _ q λz=>z)];exact q,λb u xs q=>by rw[cQ (hm b _ q λz=>z)];exact q,λb ps q=>⟨#[],by rw[cQ (hm b _ q λz=>z),q];simp⟩⟩
 by_cases Nj:b=e
 ·subst Nj;exact PU
 ·exact⟨u,k b u Nj q⟩
end
noncomputable def SQ (h:Heap) (H:Hp):List cD:=(List.range h.objs.size).filter λa=>(H a).isSome
noncomputable def xi (h:Heap) (H:Hp):Heap:=W.hideAll h (SQ h H)
theorem E9 (h:Heap) (H:Hp):(xi h H).objs.size=h.objs.size:=W.hideAll_size _ _
theorem GZ {h:Heap}{H:Hp}{b:cD}{o:Obj}(e:h.get? b=some o) (n:H b=none):(xi h H).get? b=some o:=
 W.hideAll_get _ e λhm=>by
  have q:(H b).isSome=true:=(List.mem_filter.mp hm).2;rw[n]at q;simp at q
theorem J9 {h:Heap}{H:Hp}{b:cD}{o:Obj}(e:(xi h H).get? b=some o):h.get? b=some o/\H b=none:=by
 have e':h.get? b=some o:=W.of_hideAll (SQ h H) e;refine⟨e',?_⟩;cases q:H b with
 |none=>rfl
 |some x=>
  have hm:b∈SQ h H:=List.mem_filter.mpr ⟨List.mem_range.mpr (az e'),by simp[q]⟩
  have z:(xi h H).get? b=none:=W.hideAll_none (SQ h H) hm;rw[z]at e;cases e
noncomputable def jt (g h:Heap) (L:cD):ck:=(List.range h.objs.size).filterMap λa=>if a=L\/(g.get? a).isSome=true then none else(h.get? a).map λo=>(a,o)
theorem my {g h:Heap}{L a:cD}{o:Obj}(h1:a≠L) (h2:g.get? a=none) (h3:h.get? a=some o):(a,o)∈jt g h L:=
 List.mem_filterMap.mpr ⟨a,List.mem_range.mpr (az h3),by simp[h1,h2,h3]⟩
theorem vb {g h:Heap}{L:cD}{p:cD×Obj}(hp:p∈jt g h L):p.1≠L/\g.get? p.1=none/\h.get? p.1=some p.2:=by
 obtain⟨b,_,e⟩:=List.mem_filterMap.mp hp;split at e
 ·cases e
 ·rename_i hn;cases q:h.get? b with
  |none=>rw[q]at e;simp at e
  |some u=>
   rw[q]at e;simp only[bA,Option.some.injEq]at e;subst e;refine⟨λz=>hn (.inl z),?_,q⟩
   show g.get? b=none;cases r:g.get? b with
   |none=>rfl
   |some v=>exact(hn (.inr (by simp[r]))).elim
theorem vd {g h:Heap}{L:cD}:News g L h (jt g h L):=λp hp=>let ⟨a,b,c⟩:=vb hp;⟨c,a,b⟩
end L2
namespace L2
open PySem PySem.Spec PyProof.Rows
structure Mod (K:W.Frag) (mg:cj) (base:Heap):Prop where
 Ql:K.In base
 glob:base.Ns mainGlobals mg
 blt:∃mb,base.Ns builtinsNs mb/\∀x:Str,x≠"__name__"->mb x=bootBuiltins x
 nolimit:base.NoLimit
structure Cx where
 prog:cz
 w:cA
 K:W.Frag
 mg:cj
 base:Heap
 A:cB
 N:List Str
 s₀:cx
 H₀:Hp
 env:Env
 outer:List Env
 stack:List Env
 ex:List cD
 fn:Str->Bool
 calm:Bool
 pn:ck
 xe:cg
noncomputable def GQ (l:List Env):List cD:=l.filterMap (·.frame)
noncomputable abbrev Cx.fs (X:Cx):List cD:=GQ X.outer
def PV (sc:Scope) (x:Str):Prop:=sc.names.lookup x=some .local\/sc.names.lookup x=some .cell\/sc.names.lookup x=some .free
def Loc (sc:Scope) (x:Str):Prop:=sc.names.lookup x=some .local\/sc.names.lookup x=some .cell
def Look (env:Env) (h:Heap) (m:cj) (x:Str) (u:cw):Prop:=
 (env.kindOf x=some .local/\m x=some u)\/((env.kindOf x=some .cell\/env.kindOf x=some .free)/\∃c,env.cells.lookup x=some c/\h.IsCell c (some u))
structure Cx.Ok (X:Cx):Prop where
 mod:Mod X.K X.mg X.base
 kind:X.env.scope.kind=.function
 glob:X.env.globals=mainGlobals
 blt:X.env.builtins=builtinsNs
 above:X.s₀.heap.objs.size<=X.env.locals
 inj:∀x y c,X.env.cells.lookup x=some c->X.env.cells.lookup y=some c->x=y
 has:∀x,(X.env.kindOf x=some .cell\/X.env.kindOf x=some .free)->∃c,X.env.cells.lookup x=some c
 Qm:∀x c,X.fn x=true->X.env.cells.lookup x=some c->X.s₀.heap.objs.size<=c
 hd:X.calm=true->X.A.handled=none
 frames:X.A.frames=some X.stack
 SR:X.stack=X.outer\/(X.stack=X.env::X.outer/\X.env.frame=some X.env.locals)
 VX:∀b∈X.ex,b≠X.env.locals/\∀x c,X.env.cells.lookup x=some c->c≠b
 bs:∀b o,X.base.get? b=some o->X.s₀.heap.get? b=some o/\X.H₀ b=none
 J1:X.base.objs.size<=X.s₀.heap.objs.size
 G0:∀b o,X.base.get? b=some o->b∉X.ex
 Ka:∀b∈X.ex,b∉X.fs
 uy:X.s₀.heap.FunFrames X.base X.outer
 Nk:∀b∈X.fs,X.H₀ b=none
 tb:E8 X.K X.mg X.base X.H₀
structure Inv (X:Cx) (pins:ck) (σ:List (Option V)) (H:Hp) (s:cx):Prop where
 ok:X.Ok
 os:s.os=X.s₀.os
 bare:AllBare s.gens
 base:Un X.fs X.ex X.H₀ H X.s₀.heap s.heap
 loc:∃m,s.heap.Ns X.env.locals m/\∀(i:Nat) (x:Str) (v:V),X.N[i]? =some x->σ[i]? =some (some v)->PV X.env.scope x->∃u,RelV v u/\Look X.env s.heap m x u
 cell:∀x c,X.env.cells.lookup x=some c->∃v,s.heap.IsCell c v
 free:H X.env.locals=none
 oN:∀x c,X.env.cells.lookup x=some c->H c=none
 pin:∀p∈X.pn++pins,s.heap.get? p.1=some p.2/\H p.1=none/\p.1≠X.env.locals/\p.1∉X.fs/\∀v,p.2.data≠.cell v
 fP:qw X.prog X.w H s.heap
 len:σ.length=X.N.length
section
variable {X:Cx}{pins:ck}{σ:List (Option V)}{H H':Hp}{s:cx}{h':Heap}
theorem Cx.Ok.Tx (ok:X.Ok) {b:cD}{o:Obj}(e:X.base.get? b=some o):b∉X.fs:=λhb=>by
 have:=(ok.uy.mem hb).1;rw[e]at this;cases this
theorem Inv.bs (I:Inv X pins σ H s):∀b o,X.base.get? b=some o->s.heap.get? b=some o/\H b=none:=λb o e=>
 ⟨I.base.keep b o (I.ok.bs b o e).1 (I.ok.bs b o e).2 (I.ok.Tx e) (I.ok.G0 b o e),I.base.free b o (I.ok.bs b o e).1 (I.ok.bs b o e).2 (I.ok.G0 b o e)⟩
theorem Inv.bk (I:Inv X pins σ H s):∀b o,X.base.get? b=some o->s.heap.get? b=some o:=λb o e=>(I.bs b o e).1
theorem Inv.mod (I:Inv X pins σ H s):Mod X.K X.mg X.base:=I.ok.mod
theorem Inv.Fb (I:Inv X pins σ H s):X.K.In s.heap:=I.ok.mod.Ql.keeps I.bk
theorem Inv.nolimit (I:Inv X pins σ H s):s.heap.NoLimit:=I.ok.mod.nolimit.keeps I.bk
theorem Inv.fr (I:Inv X pins σ H s):∃m,Fr X.base X.env.locals s.heap m:=
 let ⟨m,hn,_⟩:=I.loc
 ⟨m,hn,I.bk,aB I.ok.J1 I.ok.above⟩
theorem Inv.lt (I:Inv X pins σ H s):X.env.locals<s.heap.objs.size:=let ⟨_,hn,_⟩:=I.loc;hn.lt
theorem Inv.sz (I:Inv X pins σ H s):X.s₀.heap.objs.size<=s.heap.objs.size:=aB I.ok.above (bg I.lt)
theorem Inv.Tz (I:Inv X pins σ H s) {a:cD}(h:s.heap.objs.size<=a):a∉X.fs:=λhb=>by
 obtain⟨_,o,ho,_⟩:=I.ok.uy.mem hb;exact absurd (aw (az ho) (aB I.sz h)) (Nat.lt_irrefl _)
theorem Inv.Nl (I:Inv X pins σ H s):∀x c,X.env.cells.lookup x=some c->c≠X.env.locals:=λx c e z=>by
 obtain⟨v,o,ho,hd⟩:=I.cell x c e;obtain⟨m,⟨o',es,ep,kN,Mh,_⟩,_⟩:=I.loc;rw[z,kN]at ho;cases ho;rw[Mh]at hd;cases hd
theorem Inv.uy (I:Inv X pins σ H s):s.heap.FunFrames X.base X.outer:=by
 have all:∀(l:List Env),(∀b∈GQ l,b∈X.fs)->X.s₀.heap.FunFrames X.base l->s.heap.FunFrames X.base l:=by
  intro l;induction l with
  |nil=>intro _ _;trivial
  |cons env r ih=>
   intro hs hl;obtain⟨hk,⟨L,o,hf,hn,ho,hd⟩,hr⟩:=hl;have hL:L∈X.fs:=hs L (by unfold GQ;rw[List.filterMap_cons,hf];exact af)
   obtain⟨sl,e⟩:=I.base.slot L o ho (I.ok.Nk L hL) hL λz=>I.ok.Ka L z hL
   exact⟨hk,⟨L,_,hf,hn,e,hd⟩,ih (λb hb=>hs b (by unfold GQ;rw[List.filterMap_cons,hf];exact ai _ hb)) hr⟩
 exact all X.outer (λ_ hb=>hb) I.ok.uy
theorem Inv.stack (I:Inv X pins σ H s):s.heap.FunFrames X.base X.stack:=by
 rcases I.ok.SR with e|⟨e,hf⟩
 ·rw[e];exact I.uy
 ·rw[e];obtain⟨m,hn,_⟩:=I.loc;refine .cons (by rw[I.ok.kind];decide) hf hn ?_ I.uy
  exact Heap.get?_none_of_le (aB I.ok.J1 I.ok.above)
theorem Inv.yL (I:Inv X pins σ H s):∀b∈GQ X.stack,b∈X.env.locals::X.fs:=λb hb=>by
 rcases I.ok.SR with e|⟨e,hf⟩
 ·rw[e]at hb;exact ai _ hb
 ·rw[e]at hb;unfold GQ at hb;rw[List.filterMap_cons,hf]at hb;exact hb
theorem Inv.DZ (I:Inv X pins σ H s):∀b∈GQ X.stack,H b=none:=λb hb=>by
 rcases List.mem_cons.mp (I.yL b hb)with e|hb
 ·rw[e];exact I.free
 ·obtain⟨_,o,ho,_⟩:=I.ok.uy.mem hb;exact I.base.free b o ho (I.ok.Nk b hb) λz=>I.ok.Ka b z hb
theorem Inv.step {g':Array GenState}{t':Nat}{d':Drawn}{ch:List cD}(I:Inv X pins σ H s)
  (J2:∀b∈ch,(b∈X.ex\/X.s₀.heap.objs.size<=b)/\b≠X.env.locals/\(∀x c,X.env.cells.lookup x=some c->c≠b)/\∀p∈X.pn++pins,p.1≠b)
  (keep:∀b o,b≠X.env.locals->b∉X.fs->b∉ch->s.heap.get? b=some o->H b=none->h'.get? b=some o)
  (slot:∀b o,b≠X.env.locals->b∈X.fs->b∉ch->s.heap.get? b=some o->H b=none->∃sl,h'.get? b=some {o with slots:=sl}) (free:∀b o,b∉ch->s.heap.get? b=some o->H b=none->H' b=none)
  (there:∀b o,b∉ch->s.heap.get? b=some o->∃o',h'.get? b=some o')
  (fO:∀b xs,H b=some (.tup xs)->H' b=some (.tup xs)) (yK:∀b o u,H b=some (.B2 o u)->H' b=some (.B2 o u)) (xh:∀b ps,H b=some (.B7 ps)->∃more,H' b=some (.B7 (ps++more)))
  (ns:∀m,s.heap.Ns X.env.locals m->h'.Ns X.env.locals m) (fP:qw X.prog X.w H' h') (hg:AllBare g'):
  Inv X pins σ H' {s with heap:=h',gens:=g',drawn:=d',toks:=t'}:=by
 have VY:∀b o,X.s₀.heap.get? b=some o->b≠X.env.locals:=λb o e=>aD (aw (az e) I.ok.above)
 have SS:∀b o,X.s₀.heap.get? b=some o->b∉X.ex->b∉ch:=λb o e hx hb=>by
  rcases(J2 b hb).1 with z|z
  ·exact hx z
  ·exact absurd (aw (az e) z) (Nat.lt_irrefl _)
 have cellK:∀x c,X.env.cells.lookup x=some c->∀v,s.heap.IsCell c v->h'.IsCell c v:=λx c e v ⟨o,ho,hd⟩=>by
  have Qn:c∉ch:=λz=>(J2 c z).2.2.1 x c e rfl
  by_cases hc:c∈X.fs
  ·obtain⟨sl,q⟩:=slot c o (I.Nl x c e) hc Qn ho (I.oN x c e);exact⟨_,q,hd⟩
  ·exact⟨o,keep c o (I.Nl x c e) hc Qn ho (I.oN x c e),hd⟩
 refine⟨I.ok,I.os,hg,⟨λb o e n hb hx=>?_,λb o e n hb hx=>?_,λb o e n hx=>?_,λb o e hx=>?_,λb xs e=>fO b xs (I.base.fO b xs e),λb o xs e=>yK b o xs (I.base.yK b o xs e),λb ps e=>?_⟩,?_,λx c e=>?_,?_,λx c e=>?_,λp hp=>?_,fP,I.len⟩
 ·exact keep b o (VY b o e) hb (SS b o e hx) (I.base.keep b o e n hb hx) (I.base.free b o e n hx)
 ·obtain⟨sl,e1⟩:=I.base.slot b o e n hb hx;obtain⟨X5,e2⟩:=slot b _ (VY b o e) hb (SS b o e hx) e1 (I.base.free b o e n hx);exact⟨X5,e2⟩
 ·obtain⟨o',e1⟩:=I.base.there b o e hx;exact free b o' (SS b o e hx) e1 (I.base.free b o e n hx)
 ·obtain⟨o',e1⟩:=I.base.there b o e hx;exact there b o' (SS b o e hx) e1
 ·obtain⟨m1,e1⟩:=I.base.xh b ps e;obtain⟨m2,e2⟩:=xh b _ e1;exact⟨m1++m2,by rw[e2,Array.append_assoc]⟩
 ·obtain⟨m,hn,hl⟩:=I.loc;refine⟨m,ns m hn,λi x v e1 e2 e3=>?_⟩
  obtain⟨u,r,l⟩:=hl i x v e1 e2 e3;refine⟨u,r,?_⟩;rcases l with l|⟨k,c,e,z⟩
  ·exact .inl l
  ·exact .inr ⟨k,c,e,cellK x c e _ z⟩
 ·obtain⟨v,z⟩:=I.cell x c e;exact⟨v,cellK x c e v z⟩
 ·obtain⟨m,⟨o,_,_,ho,_⟩,_⟩:=I.loc;exact free _ o (λz=>(J2 _ z).2.1 rfl) ho I.free
 ·obtain⟨v,o,ho,hd⟩:=I.cell x c e;exact free c o (λz=>(J2 c z).2.2.1 x c e rfl) ho (I.oN x c e)
 ·obtain⟨e,n,ne,nf,d⟩:=I.pin p hp;have Qn:p.1∉ch:=λz=>(J2 p.1 z).2.2.2 p hp rfl
  exact⟨keep p.1 p.2 ne nf Qn e n,free p.1 p.2 Qn e n,ne,nf,d⟩
theorem Inv.un {t':Nat}(I:Inv X pins σ H s) (u:Un X.fs [] H H' s.heap h') (fP:qw X.prog X.w H' h'):Inv X pins σ H' {s with heap:=h',toks:=t'}:=by
 obtain⟨m,⟨o,es,ep,ho,r⟩,_⟩:=id I.loc;obtain⟨sl,hL⟩:=u.any ho I.free (by simp)
 exact I.step (g':=s.gens) (d':=s.drawn) (ch:=[]) (λ_ z=>nomatch z) (λb o _ hb _ e n=>u.keep b o e n hb (by simp)) (λb o _ hb _ e n=>u.slot b o e n hb (by simp)) (λb o _ e n=>u.free b o e n (by simp)) (λb o _ e=>u.there b o e (by simp)) u.fO u.yK u.xh (λm' hm=>by
  obtain⟨o',G1,Nm,kN,r'⟩:=hm;rw[ho]at kN;cases kN;exact⟨_,G1,Nm,hL,r'⟩) fP I.bare
theorem Inv.call {g':Array GenState}{t':Nat}{d':Drawn}{ch:List cD}(I:Inv X pins σ H s) (u:Un (GQ X.stack) ch H H' s.heap h') (fP:qw X.prog X.w H' h') (hg:AllBare g')
  (J2:∀b∈ch,(b∈X.ex\/X.s₀.heap.objs.size<=b)/\b≠X.env.locals/\(∀x c,X.env.cells.lookup x=some c->c≠b)/\∀p∈X.pn++pins,p.1≠b):
  Inv X pins σ H' {s with heap:=h',gens:=g',drawn:=d',toks:=t'}:=by
 obtain⟨m,⟨o,es,ep,ho,r⟩,_⟩:=id I.loc;obtain⟨sl,hL⟩:=u.any ho I.free λz=>(J2 _ z).2.1 rfl
 exact I.step (ch:=ch) J2 (λb o hL hb hc e n=>u.keep b o e n (λz=>(List.mem_cons.mp (I.yL b z)).elim hL hb) hc) (λb o _ _ hc e n=>u.any e n hc) (λb o hc e n=>u.free b o e n hc) (λb o hc e=>u.there b o e hc) u.fO u.yK u.xh (λm' hm=>by
  obtain⟨o',G1,Nm,kN,r'⟩:=hm;rw[ho]at kN;cases kN;exact⟨_,G1,Nm,hL,r'⟩) fP hg
theorem Inv.turned {t':Nat}{it:cD}(I:Inv X pins σ H s) (k:∀b o,b≠it->s.heap.get? b=some o->h'.get? b=some o) (hn:H it=none) (hL:it≠X.env.locals)
  (h1:it∈X.ex\/X.s₀.heap.objs.size<=it) (h2:∀x c,X.env.cells.lookup x=some c->c≠it) (h3:∀p∈X.pn++pins,p.1≠it):Inv X pins σ H {s with heap:=h',toks:=t'}:=by
 have VZ:∀b u,H b=some u->b≠it:=λb u e z=>by rw[z,hn]at e;cases e
 refine I.step (g':=s.gens) (d':=s.drawn) (ch:=[it]) (λb hb=>?_) (λb o _ _ hc e _=>k b o (λz=>hc (by simp[z])) e) (λb o _ _ hc e _=>⟨o.slots,k b o (λz=>hc (by simp[z])) e⟩) (λ_ _ _ _ n=>n)
  (λb o hc e=>⟨o,k b o (λz=>hc (by simp[z])) e⟩) (λ_ _ e=>e) (λ_ _ _ e=>e) (λb ps e=>⟨#[],by rw[e];simp⟩) (λm hm=>?_) (λb u e=>?_) I.bare
 ·have e:b=it:=by simpa using hb
  subst e;exact⟨h1,hL,h2,h3⟩
 ·obtain⟨o,es,ep,ho,r⟩:=hm;exact⟨o,es,ep,k _ o (Ne.symm hL) ho,r⟩
 ·refine(I.fP b u e).yJ (λc v hc q=>k c v ?_ q) (λ_ q=>q) λ_ _ q=>q
  rcases hc with z|z
  ·rw[z];exact VZ b u e
  ·exact VZ c _ z
theorem Inv.tok (I:Inv X pins σ H s) (t:Nat):Inv X pins σ H {s with toks:=t}:=I.un (h':=s.heap) (t':=t) Un.refl I.fP
theorem Inv.kept {t':Nat}(I:Inv X pins σ H s) (k:∀b u,s.heap.get? b=some u->h'.get? b=some u):Inv X pins σ H {s with heap:=h',toks:=t'}:=I.un (Un.kept k) (I.fP.kept k)
theorem Inv.laid {a:cD}{o:HO}{t':Nat}(I:Inv X pins σ H s) (k:∀b u,s.heap.get? b=some u->h'.get? b=some u) (hp:s.heap.objs.size<=a) (new:g8 X.prog X.w (upd H a o) h' a o):
  Inv X pins σ (upd H a o) {s with heap:=h',toks:=t'}:=I.un (Un.laid k hp (I.fP.fresh hp)) (I.fP.laid k hp new)
theorem Inv.write {x e:cD}{o:HO}{t':Nat}(I:Inv X pins σ H s) (mu:Qj (H x)) (he:e=x\/H e=some (.own x)) (k:∀b u,b≠e->s.heap.get? b=some u->h'.get? b=some u) (PU:∃u,h'.get? e=some u)
  (new:g8 X.prog X.w (upd H x o) h' x o):Inv X pins σ (upd H x o) {s with heap:=h',toks:=t'}:=I.un (Un.write mu he k PU) (I.fP.write mu he k PU new)
theorem Inv.weak {σ':List (Option V)}(I:Inv X pins σ H s) (hl:σ'.length=σ.length) (w:∀(i:Nat) v,σ'[i]? =some (some v)->σ[i]? =some (some v)):Inv X pins σ' H s:=
 ⟨I.ok,I.os,I.bare,I.base,let ⟨m,hn,g9⟩:=I.loc;⟨m,hn,λi x v e1 e2 e3=>g9 i x v e1 (w i v e2) e3⟩,I.cell,I.free,I.oN,I.pin,I.fP,hl.trans I.len⟩
theorem Inv.D1 {Mi:ck}(I:Inv X pins σ H s) (h:∀p∈Mi,s.heap.get? p.1=some p.2/\H p.1=none/\p.1≠X.env.locals/\p.1∉X.fs/\∀v,p.2.data≠.cell v):Inv X Mi σ H s:=
 ⟨I.ok,I.os,I.bare,I.base,I.loc,I.cell,I.free,I.oN,λp hp=>(List.mem_append.mp hp).elim (λz=>I.pin p (bC _ z)) (h p),I.fP,I.len⟩
theorem ve {N:List Str}(hN:N.Nodup) {i j:Nat}{x:Str}(a:N[i]? =some x) (b:N[j]? =some x):i=j:=by
 obtain⟨h1,e1⟩:=List.getElem?_eq_some_iff.mp a;obtain⟨h2,e2⟩:=List.getElem?_eq_some_iff.mp b;exact(List.getElem_inj hN).mp (e1.trans e2.symm)
theorem xN {M:Model}{A:cB}{E:cg}{i:Nat}{x:Str}{v:V}{u:cw}{Q:Unit->cx->Prop}(I:Inv X pins σ H s) (hN:X.N.Nodup) (hi:X.N[i]? =some x) (hx:Loc X.env.scope x) (r:RelV v u)
  (h:∀s',Inv X pins (σ.set i (some v)) H s'->(∃a,Heap.SameBut a s.heap s'.heap/\(a=X.env.locals\/X.env.cells.lookup x=some a))->Q () s') (hf:X.fn x=true\/X.env.scope.names.lookup x=some .local:=by first|exact .inl rfl|exact .inr rfl|assumption):wpAny M A (storeName X.env x u) Q E s:=by
 obtain⟨m,hn,hl⟩:=id I.loc;have TB:(X.env.scope.kind==.class||(X.env.scope.kind==.module&&X.env.locals !=X.env.globals))=false:=by rw[I.ok.kind];rfl
 have hiσ:i<σ.length:=by rw[I.len];exact(List.getElem?_eq_some_iff.mp hi).1
 have Nl:=I.Nl;have tracked:∀{a:cD}{h':Heap},(∃o,s.heap.get? a=some o/\H a=none)->Heap.SameBut a s.heap h'->qw X.prog X.w H h':=λ{a h'} ha hs b ob e=>by
  obtain⟨_,_,D2⟩:=ha;refine(I.fP b ob e).yJ (λc w' hc q=>(hs.2 c ?_).trans q) (λ_ q=>q) λ_ _ q=>q
  rintro rfl
  rcases hc with rfl|hc
  ·rw[D2]at e;cases e
  ·rw[D2]at hc;cases hc
 rcases hx with hk|hk
 ·refine wpAny_storeName_local hk hn (λh' xO hs=>?_) TB
  obtain⟨oL,_,_,yM,_⟩:=id hn;refine h _ ⟨I.ok,I.os,I.bare,⟨λb o e n hb hx=>?_,λb o e n hb hx=>?_,I.base.free,λb o e hx=>?_,I.base.fO,I.base.yK,I.base.xh⟩,⟨_,xO,λj y v' e1 e2 e3=>?_⟩,λy c e=>?_,I.free,I.oN,λp hp=>?_,tracked ⟨oL,yM,I.free⟩ hs,by simpa using I.len⟩ ⟨_,hs,.inl rfl⟩
  ·exact(hs.2 b (aD (aw (az e) I.ok.above))).trans (I.base.keep b o e n hb hx)
  ·obtain⟨sl,e1⟩:=I.base.slot b o e n hb hx;exact⟨sl,(hs.2 b (aD (aw (az e) I.ok.above))).trans e1⟩
  ·obtain⟨o',e1⟩:=I.base.there b o e hx;exact⟨o',(hs.2 b (aD (aw (az e) I.ok.above))).trans e1⟩
  ·by_cases hj:j=i
   ·subst hj;rw[hi]at e1;cases e1;rw[bc hiσ]at e2;cases e2;exact⟨u,r,.inl ⟨hk,by simp⟩⟩
   ·rw[aF (Ne.symm hj)]at e2;obtain⟨u',r',q⟩:=hl j y v' e1 e2 e3;refine⟨u',r',?_⟩;rcases q with⟨k,e⟩|⟨k,c,e,z⟩
    ·refine .inl ⟨k,?_⟩;have:y≠x:=λe=>hj (ve hN e1 (e▸hi))
     simp[this,e]
    ·exact .inr ⟨k,c,e,z.sameBut hs (Nl y c e)⟩
  ·obtain⟨w',z⟩:=I.cell y c e;exact⟨w',z.sameBut hs (Nl y c e)⟩
  ·obtain⟨e,n,ne,nf,d⟩:=I.pin p hp;exact⟨(hs.2 p.1 ne).trans e,n,ne,nf,d⟩
 ·have Mj:X.fn x=true:=by
   rcases hf with z|z
   ·exact z
   ·rw[z]at hk;cases hk
  obtain⟨c,hc⟩:=I.ok.has x (.inl hk);obtain⟨w',z⟩:=I.cell x c hc;refine wpAny_storeName_cell I.ok.kind hk hc z (λh' m3 hs=>?_)
  obtain⟨oc,PX,TC⟩:=id z;refine h {s with heap:=h'} ⟨I.ok,I.os,I.bare,⟨λb o e n hb hx=>?_,λb o e n hb hx=>?_,I.base.free,λb o e hx=>?_,I.base.fO,I.base.yK,I.base.xh⟩,⟨m,hn.sameBut hs (Ne.symm (Nl x c hc)),λj y v' e1 e2 e3=>?_⟩,λy c' e=>?_,I.free,I.oN,λp hp=>?_,tracked ⟨oc,PX,I.oN x c hc⟩ hs,by simpa using I.len⟩ ⟨c,hs,.inr hc⟩
  ·exact(hs.2 b (aD (aw (az e) (I.ok.Qm x c Mj hc)))).trans (I.base.keep b o e n hb hx)
  ·obtain⟨sl,e1⟩:=I.base.slot b o e n hb hx;exact⟨sl,(hs.2 b (aD (aw (az e) (I.ok.Qm x c Mj hc)))).trans e1⟩
  ·obtain⟨o',e1⟩:=I.base.there b o e hx;exact⟨o',(hs.2 b (aD (aw (az e) (I.ok.Qm x c Mj hc)))).trans e1⟩
  ·by_cases hj:j=i
   ·subst hj;rw[hi]at e1;cases e1;rw[bc hiσ]at e2;cases e2;exact⟨u,r,.inr ⟨.inl hk,c,hc,m3⟩⟩
   ·rw[aF (Ne.symm hj)]at e2;obtain⟨u',r',q⟩:=hl j y v' e1 e2 e3;refine⟨u',r',?_⟩;rcases q with q|⟨k,c',e,z'⟩
    ·exact .inl q
    ·refine .inr ⟨k,c',e,z'.sameBut hs ?_⟩
     rintro rfl
     exact hj (ve hN e1 (I.ok.inj _ _ _ e hc▸hi))
  ·by_cases PY:c'=c
   ·subst PY;exact⟨_,m3⟩
   ·obtain⟨w2,z2⟩:=I.cell y c' e;exact⟨w2,z2.sameBut hs PY⟩
  ·obtain⟨e,n,ne,nf,d⟩:=I.pin p hp;refine⟨(hs.2 p.1 ?_).trans e,n,ne,nf,d⟩;intro q;rw[q,PX]at e;have q':oc=p.2:=aS e;exact d w' (by rw[<-q'];exact TC)
theorem vf {M:Model}{A:cB}{E:cg}{i:Nat}{x:Str}{v:V}{u:cw}{Q:Unit->cx->Prop}(I:Inv X pins σ H s) (hN:X.N.Nodup) (hi:X.N[i]? =some x) (hx:Loc X.env.scope x) (r:RelV v u)
  (h:∀s',Inv X pins (σ.set i (some v)) H s'->Q () s') (hf:X.fn x=true\/X.env.scope.names.lookup x=some .local:=by first|exact .inl rfl|exact .inr rfl|assumption):wpAny M A (storeName X.env x u) Q E s:=
 xN I hN hi hx r (λs' I' _=>h s' I') hf
theorem Inv.Qo {s':cx}{ch:List cD}(I:Inv X pins σ H s) (ho:s'.os=s.os) (u:Un (GQ X.stack) ch H H' s.heap s'.heap) (fP:qw X.prog X.w H' s'.heap) (hg:AllBare s'.gens)
  (J2:∀b∈ch,(b∈X.ex\/X.s₀.heap.objs.size<=b)/\b≠X.env.locals/\(∀x c,X.env.cells.lookup x=some c->c≠b)/\∀p∈X.pn++pins,p.1≠b):Inv X pins σ H' s':=by
 obtain⟨h',g',d',t',o'⟩:=s';have e:o'=s.os:=ho;subst e;exact I.call (g':=g') (t':=t') (d':=d') u fP hg J2
end
noncomputable abbrev XK:=cw->cp->Hp->Prop
noncomputable abbrev St:=List (Option V)
noncomputable abbrev VK:=V->Hp->Prop
noncomputable abbrev TE:=St->Hp->VK->Prop
noncomputable abbrev TT:=St->Hp->(Bool->Hp->Prop)->Prop
noncomputable abbrev TA:=St->Hp->(List V->Hp->Prop)->Prop
structure Ends where
 nx:St->Hp->Prop
 rt:VK
 bk:St->Hp->Prop:=λ_ _=>False
 ct:St->Hp->Prop:=λ_ _=>False
noncomputable abbrev TS:=Ends->St->Hp->Prop
def EP (X:Cx) (pins:ck) (σ:St) (Q:VK) (u:cw) (s':cx):Prop:=∃v H',Inv X pins σ H' s'/\RelV v u/\Q v H'
def TP (X:Cx) (pins:ck) (σ:St) (Q:Bool->Hp->Prop) (b:Bool) (s':cx):Prop:=∃H',Inv X pins σ H' s'/\Q b H'
def AP (X:Cx) (pins:ck) (σ:St) (Q:List V->Hp->Prop) (us:cv) (s':cx):Prop:=∃vs H',Inv X pins σ H' s'/\Vals vs us/\Q vs H'
def SP (X:Cx) (pins:ck) (D:Ends) (f:Flow) (s':cx):Prop:=
 match f with
 |.next=>∃σ' H',Inv X pins σ' H' s'/\D.nx σ' H'
 |.brk=>∃σ' H',Inv X pins σ' H' s'/\D.bk σ' H'
 |.cont=>∃σ' H',Inv X pins σ' H' s'/\D.ct σ' H'
 |.ret u=>∃v σ' H',Inv X pins σ' H' s'/\RelV v u/\D.rt v H'
def PE (X:Cx) (e:cE) (t:TE):Prop:=
 ∀(pins:ck) (s:cx) (σ:St) (H:Hp) (Q:VK),Inv X pins σ H s->t σ H Q->wpAny (model X.prog X.w) X.A (eval e X.env) (EP X pins σ Q) X.xe s
def PT (X:Cx) (e:cE) (t:TT):Prop:=
 ∀(pins:ck) (s:cx) (σ:St) (H:Hp) (Q:Bool->Hp->Prop),Inv X pins σ H s->t σ H Q->wpAny (model X.prog X.w) X.A (isTrue e X.env (eval e X.env)) (TP X pins σ Q) X.xe s
def PW (X:Cx) (e:cE) (t:TT):Prop:=
 ∀(whole:Sem cw) (pins:ck) (s:cx) (σ:St) (H:Hp) (Q:Bool->Hp->Prop),Inv X pins σ H s->t σ H Q->wpAny (model X.prog X.w) X.A (isTrue e X.env whole) (TP X pins σ Q) X.xe s
theorem PW.pt {X:Cx}{e:cE}{t:TT}(h:PW X e t):PT X e t:=h _
def PA (X:Cx) (es:List cE) (t:TA):Prop:=
 ∀(pos:Pos) (pins:ck) (s:cx) (σ:St) (H:Hp) (Q:List V->Hp->Prop),Inv X pins σ H s->t σ H Q->wpAny (model X.prog X.w) X.A (spliced (backTo pos (starEach es X.env))) (AP X pins σ Q) X.xe s
def PS (X:Cx) (st:cF) (t:TS):Prop:=
 ∀(pins:ck) (s:cx) (σ:St) (H:Hp) (D:Ends),Inv X pins σ H s->t D σ H->wpAny (model X.prog X.w) X.A (exec st X.env) (SP X pins D) X.xe s
def xP (X:Cx) (st:List cF) (t:TS):Prop:=
 ∀(pins:ck) (s:cx) (σ:St) (H:Hp) (D:Ends),Inv X pins σ H s->t D σ H->wpAny (model X.prog X.w) X.A (execs st X.env) (SP X pins D) X.xe s
theorem gS {α:Type}{t:Sem α}{Q Q':α->cx->Prop}{M:Model}{A:cB}{E:cg}{s:cx}(h:wpAny M A t Q E s) (hQ:∀a s,Q a s->Q' a s):wpAny M A t Q' E s:=bP h hQ λ_ _ x=>x
end L2
namespace L2
open PySem PySem.Spec PyProof.Rows
section
variable {X:Cx}
noncomputable def ir (i:Nat):TE:=λσ H Q=>∃v,σ[i]? =some (some v)/\Q v H
noncomputable def tC (v:V):TE:=λ_ H Q=>Q v H
theorem B8 {i:Nat}{x:Str}{pos:Pos}(hN:X.N[i]? =some x) (hv:PV X.env.scope x) (hd:(x==("__debug__":Str))=false:=by decide) (xj:(x==("__classdict__":Str))=false:=by decide):PE X (.Name x pos) (ir i):=by
 intro pins s σ H Q I h;obtain⟨v,e,h⟩:=h;obtain⟨m,hn,hl⟩:=I.loc;obtain⟨u,r,l⟩:=hl i x v hN e hv;have fin:EP X pins σ Q u s:=⟨v,H,I,r,h⟩;rcases l with⟨hk,hm⟩|⟨hk,c,hc,rA⟩
 ·exact wpAny_Name (wpAny_loadName_local I.ok.kind hk hn hm fin) hd
 ·rcases hk with hk|hk
  ·exact wpAny_Name (wpAny_loadName_cell I.ok.kind hk hc rA fin) hd
  ·exact wpAny_Name (wpAny_loadName_free I.ok.kind hk hc rA fin xj) hd
theorem B9 {i j pos}:PE X (.Constant (.int i) j pos) (tC (.int i)):=λ_ _ _ H _ I h=>wpAny_Constant_int ⟨.int i,H,I.tok _,⟨_,rfl⟩,h⟩
theorem Qp {b j pos}:PE X (.Constant (.bool b) j pos) (tC (.bl b)):=λ_ _ _ H _ I h=>Constant_bool ⟨.bl b,H,I,rfl,h⟩
def Gl (X:Cx) (x:Str):Prop:=X.env.kindOf x=some .globalImplicit
theorem yN {E:cg}{pins:ck}{s:cx}{σ:St}{H:Hp}{x:Str}{u:cw}{pos:Pos}{Q:cg}(I:Inv X pins σ H s) (hg:Gl X x) (hm:X.mg x=some u) (h:Q u s)
  (hd:(x==("__debug__":Str))=false:=by decide):wpAny (model X.prog X.w) X.A (eval (.Name x pos) X.env) Q E s:=
 Calls.Name_function_global I.ok.kind hg (Calls.loadGlobal_global (by rw[I.ok.glob];exact I.mod.glob.keeps I.bk) hm h) hd
theorem lL {E:cg}{pins:ck}{s:cx}{σ:St}{H:Hp}{x:Str}{u:cw}{pos:Pos}{Q:cg}(I:Inv X pins σ H s) (hg:Gl X x) (hm:X.mg x=none) (hv:bootBuiltins x=some u) (h:Q u s)
  (hn:x≠"__name__":=by decide) (hd:(x==("__debug__":Str))=false:=by decide):wpAny (model X.prog X.w) X.A (eval (.Name x pos) X.env) Q E s:=by
 obtain⟨mb,h1,h2⟩:=I.mod.blt;exact Calls.Name_function_global I.ok.kind hg (Calls.loadGlobal_builtin (by rw[I.ok.glob];exact I.mod.glob.keeps I.bk) hm (by rw[I.ok.blt];exact h1.keeps I.bk) ((h2 x hn).trans hv) h) hd
theorem Kb {x:Str}{v:V}{u:cw}{pos:Pos}(hg:Gl X x) (hm:X.mg x=some u) (r:RelV v u) (hd:(x==("__debug__":Str))=false:=by decide):PE X (.Name x pos) (tC v):=
 λ_ _ _ H _ I h=>yN I hg hm ⟨v,H,I,r,h⟩ hd
variable {a b:cE}{ta tb:TE}{pos:Pos}
def PC (X:Cx) (op:CmpOp) (a b:cE) (t:TE):Prop:=
 ∀(pins:ck) (s:cx) (σ:St) (H:Hp) (Q:VK),Inv X pins σ H s->t σ H Q->
  wpAny (model X.prog X.w) X.A (eval a X.env) (λv s₁=>wpAny (model X.prog X.w) X.A (eval b X.env) (λu s₂=>wpAny (model X.prog X.w) X.A (compareOp op v u) (EP X pins σ Q) X.xe s₂) X.xe s₁) X.xe s
noncomputable def tB (t:TE):TT:=λσ H Q=>t σ H λx H1=>∃c,x=.bl c/\Q c H1
theorem Nn {e:cE}{t:TE}(h:PE X e t) (he:∀whole,isTrue e X.env whole=(do let v <-whole;standAt e.pos;holding [v] (truthy v)):=by intro _;rfl):PT X e (tB t):=by
 intro pins s σ H Q I hw;refine isTrue_plain (gS (h pins s σ H _ I hw) λv s1 ⟨x,H1,I1,r1,q1⟩=>?_) (he _)
 obtain⟨d,rfl,q⟩:=q1;cases r1;exact bQ ⟨H1,I1,q⟩
variable {tA V0:TT}{rest:List cE}
noncomputable def Qq (t u:TT):TT:=λσ H Q=>t σ H λc H1=>if c=true then u σ H1 Q else Q false H1
noncomputable def TF (t:TT):TT:=λσ H Q=>t σ H λc H1=>Q (!c) H1
theorem Kc (ha:PT X a tA):PW X (.BoolOp .And [a] pos) tA:=by
 intro wh pins s σ H Q I h;refine isTrue_and (gS (ha pins s σ H Q I h) λc s1 e=>?_)
 cases c with
 |true=>exact isTrue_and_nil e
 |false=>exact e
theorem Np (ha:PT X a tA) (hb:PW X (.BoolOp .And (b::rest) pos) V0):PW X (.BoolOp .And (a::b::rest) pos) (Qq tA V0):=by
 intro wh pins s σ H Q I h;refine isTrue_and (gS (ha pins s σ H _ I h) λc s1 ⟨H1,I1,q1⟩=>?_)
 cases c with
 |true=>exact hb wh pins s1 σ H1 Q I1 q1
 |false=>exact⟨H1,I1,q1⟩
theorem Nq (ha:PT X a tA):PT X (.UnaryOp .Not a pos) (TF tA):=by
 intro pins s σ H Q I h;exact isTrue_not (ha pins s σ H (λc H1=>Q (!c) H1) I h)
noncomputable def Qr (ta tb:TE):TE:=λσ H Q=>ta σ H λx H1=>∃c,x=.bl c/\if c=true then tb σ H1 Q else Q (.bl false) H1
theorem Nr {op} {t:TE}(h:PE X a t):PE X (.BoolOp op [a] pos) t:=λpins s σ H Q I hw=>BoolOp_one (h pins s σ H Q I hw)
theorem Nt (ha:PE X a ta) (hb:PE X (.BoolOp .And (b::rest) pos) tb):PE X (.BoolOp .And (a::b::rest) pos) (Qr ta tb):=by
 intro pins s σ H Q I h;refine BoolOp_and (gS (ha pins s σ H _ I h) λv s1 ⟨x,H1,I1,r1,q1⟩=>?_)
 obtain⟨c,rfl,q1⟩:=q1;cases r1;refine bQ ?_;cases c with
 |true=>exact hb pins s1 σ H1 Q I1 q1
 |false=>exact⟨.bl false,H1,I1,rfl,q1⟩
noncomputable def X6 (t:TT) (ta tb:TE):TE:=λσ H Q=>t σ H λc H1=>if c=true then ta σ H1 Q else tb σ H1 Q
theorem G2 {c:cE}(hc:PT X c tA) (ha:PE X a ta) (hb:PE X b tb):PE X (.IfExp c a b pos) (X6 tA ta tb):=by
 intro pins s σ H Q I h;refine wpAny_IfExp (gS (hc pins s σ H _ I h) λd s1 ⟨H1,I1,q1⟩=>?_)
 cases d with
 |true=>exact ha pins s1 σ H1 Q I1 q1
 |false=>exact hb pins s1 σ H1 Q I1 q1
end
end L2
namespace L2
open PySem PySem.Spec PyProof.Rows
def oF (K:W.Frag) (H:Hp) (a:cD) (xs:List V):Prop:=
 Rd H a (.lst xs)\/
  ∃(o:Obj) (dg:Array cw) (n:Nat),K.lookup a=some o/\o.cls=.type "list"/\o.dict=none/\o.data=.seq dg n/\dg.size<=sizeLine/\Vals xs dg.toList
def iU (K:W.Frag) (H:Hp) (a:cD) (xs:List V):Prop:=
 Rd H a (.tup xs)\/
  ∃(o:Obj) (dg:Array cw) (n:Nat),K.lookup a=some o/\o.cls=.type "tuple"/\o.data=.seq dg n/\dg.size<=sizeLine/\Vals xs dg.toList
noncomputable def TH:cw->Option V
 |.none=>some .fN
 |.bool b=>some (.bl b)
 |.int i _=>some (.int i)
 |.str x _=>some (.str x)
 |.bytes b _=>some (.PR b)
 |.float b _=>some (.SO b)
 |.ref a=>some (.ref a)
 |.type n=>some (.ty n)
 |_=>none
theorem RelV.abs {x:V}{u:cw}(r:RelV x u):TH u=some x:=by
 cases x with
 |fN=>cases r;rfl
 |bl _=>cases r;rfl
 |int _=>obtain⟨t,rfl⟩:=r;rfl
 |str _=>obtain⟨t,rfl⟩:=r;rfl
 |PR _=>obtain⟨t,rfl⟩:=r;rfl
 |SO _=>obtain⟨t,rfl⟩:=r;rfl
 |ref _=>cases r;rfl
 |ty _=>cases r;rfl
theorem RelV.inj {x y:V}{u:cw}(r:RelV x u) (q:RelV y u):x=y:=aS (r.abs.symm.trans q.abs)
theorem Vals.inj:∀{xs ys:List V}{us:cv},Vals xs us->Vals ys us->xs=ys
 |_,_,_,.nil,.nil=>rfl
 |_,_,_,.cons r t,.cons r' t'=>by rw[r.inj r',Vals.inj t t']
section
variable {X:Cx}{pins:ck}{σ:St}{H:Hp}{s:cx}{a:cD}{xs ys:List V}
theorem oF.of {K:W.Frag}(h:H a=some (.lst xs)):oF K H a xs:=.inl (.inl h)
theorem iU.of {K:W.Frag}(h:H a=some (.tup xs)):iU K H a xs:=.inl (.inl h)
theorem Inv.list (I:Inv X pins σ H s) (h:oF X.K H a xs):∃dg:cv,Vals xs dg/\PlainL s.heap a dg.toArray/\xs.length<=sizeLine:=by
 rcases h with h|⟨o,dg,n,hk,hc,hd,hs,hz,r⟩
 ·obtain⟨z,dg,n,r,e⟩:=h.ok I.fP;exact⟨dg,r,⟨_,n,e,rfl,rfl,rfl⟩,z⟩
 ·refine⟨dg.toList,r,⟨o,n,I.Fb a o hk,hc,hd,by simpa using hs⟩,?_⟩
  have e:=r.length;simp only[aN]at e;omega
theorem Inv.tuple (I:Inv X pins σ H s) (h:iU X.K H a xs):∃dg:cv,Vals xs dg/\IsTup s.heap a dg.toArray/\xs.length<=sizeLine:=by
 rcases h with h|⟨o,dg,n,hk,hc,hs,hz,r⟩
 ·obtain⟨z,dg,r,p⟩:=h.ok I.fP;exact⟨dg,r,p,z⟩
 ·refine⟨dg.toList,r,⟨o,I.Fb a o hk,hc,n,by simpa using hs⟩,?_⟩
  have e:=r.length;simp only[aN]at e;omega
theorem Inv.G3 (I:Inv X pins σ H s) (h:oF X.K H a xs) (h':oF X.K H a ys):xs=ys:=by
 obtain⟨dg,r,⟨o,n,e,_,_,d⟩,_⟩:=I.list h;obtain⟨its',r',⟨o',n',e',_,_,d'⟩,_⟩:=I.list h';rw[e]at e';cases e';rw[d]at d';injection d' with d1 _
 have:dg=its':=by simpa using congrArg Array.toList d1
 subst this;exact r.inj r'
theorem Inv.Fc (I:Inv X pins σ H s) (h:iU X.K H a xs) (h':iU X.K H a ys):xs=ys:=by
 obtain⟨dg,r,⟨o,e,_,n,d⟩,_⟩:=I.tuple h;obtain⟨its',r',⟨o',e',_,n',d'⟩,_⟩:=I.tuple h';rw[e]at e';cases e';rw[d]at d';injection d' with d1 _
 have:dg=its':=by simpa using congrArg Array.toList d1
 subst this;exact r.inj r'
end
noncomputable abbrev Cx.xk (X:Cx) (E:cg):Cx:={X with xe:=E}
noncomputable abbrev Cx.D3 (X:Cx):Cx:=X.xk λ_ _=>False
theorem Cx.Ok.xk {X:Cx}(ok:X.Ok) (E:cg):(X.xk E).Ok:=
 ⟨ok.mod,ok.kind,ok.glob,ok.blt,ok.above,ok.inj,ok.has,ok.Qm,ok.hd,ok.frames,ok.SR,ok.VX,ok.bs,ok.J1,ok.G0,ok.Ka,ok.uy,ok.Nk,ok.tb⟩
theorem Cx.Ok.oO {X:Cx}{E:cg}(ok:(X.xk E).Ok):X.Ok:=
 ⟨ok.mod,ok.kind,ok.glob,ok.blt,ok.above,ok.inj,ok.has,ok.Qm,ok.hd,ok.frames,ok.SR,ok.VX,ok.bs,ok.J1,ok.G0,ok.Ka,ok.uy,ok.Nk,ok.tb⟩
section
variable {X:Cx}{pins:ck}{σ:St}{H:Hp}{s:cx}{E:cg}
theorem Inv.xk (I:Inv X pins σ H s) (E:cg):Inv (X.xk E) pins σ H s:=⟨I.ok.xk E,I.os,I.bare,I.base,I.loc,I.cell,I.free,I.oN,I.pin,I.fP,I.len⟩
theorem Inv.oO (I:Inv (X.xk E) pins σ H s):Inv X pins σ H s:=⟨I.ok.oO,I.os,I.bare,I.base,I.loc,I.cell,I.free,I.oN,I.pin,I.fP,I.len⟩
theorem SP.oO {D:Ends}{f:Flow}{s':cx}(h:SP (X.xk E) pins D f s'):SP X pins D f s':=by
 cases f with
 |next=>obtain⟨σ',H',I,q⟩:=h;exact⟨σ',H',I.oO,q⟩
 |brk=>obtain⟨σ',H',I,q⟩:=h;exact⟨σ',H',I.oO,q⟩
 |cont=>obtain⟨σ',H',I,q⟩:=h;exact⟨σ',H',I.oO,q⟩
 |ret u=>obtain⟨v,σ',H',I,r,q⟩:=h;exact⟨v,σ',H',I.oO,r,q⟩
theorem xP.D3 {st:List cF}{t:TS}(h:xP X.D3 st t):xP X st t:=λpins s σ H D I hw=>
 bP (h pins s σ H D (I.xk _) hw) (λ_ _ q=>q.oO) λ_ _ z=>False.elim z
end
section
variable {X:Cx}{st:cF}{rest:List cF}{t u:TS}{e:cE}{te:TE}{pos:Pos}
noncomputable def Qs:TS:=λD σ H=>D.nx σ H
noncomputable def TJ (t u:TS):TS:=λD σ H=>t {D with nx:=u D} σ H
theorem D4:xP X [] Qs:=λ_ _ σ H _ I h=>wpAny_execs_nil ⟨σ,H,I,h⟩
theorem vg (h1:PS X st t) (h2:xP X rest u):xP X (st::rest) (TJ t u):=by
 intro pins s σ H D I h;refine wpAny_execs_cons (gS (h1 pins s σ H {D with nx:=u D} I h) λf s1 q=>?_)
 cases f with
 |next=>
  obtain⟨σ',H',I',q⟩:=q;exact h2 pins s1 σ' H' D I' q
 |ret v=>exact q
 |brk=>exact q
 |cont=>exact q
theorem D5 (h1:PS X st t):xP X [st] t:=by
 intro pins s σ H D I h;refine wpAny_execs_cons (gS (h1 pins s σ H D I h) λf s1 q=>?_)
 cases f with
 |next=>exact wpAny_execs_nil q
 |ret v=>exact q
 |brk=>exact q
 |cont=>exact q
theorem Inv.quiet {pins:ck}{σ:St}{H:Hp}{s:cx}(I:Inv X pins σ H s):interactive X.env=false:=by simp[interactive,I.ok.kind]
noncomputable def Qt (te:TE):TS:=λD σ H=>te σ H λ_ H1=>D.nx σ H1
theorem Kd (he:PE X e te) (hs:swapsWith e none pos.line X.env=pure false:=by rfl):PS X (.Expr e pos) (Qt te):=by
 intro pins s σ H D I h;exact wpAny_Expr_any (gS (he pins s σ H _ I h) λv s1 ⟨x,H1,I1,r1,q1⟩=>⟨σ,H1,I1,q1⟩) I.quiet hs
noncomputable def TK (te:TE):TS:=λD σ H=>te σ H D.rt
theorem Nu (he:PE X e te):PS X (.Return (some e) pos) (TK te):=by
 intro pins s σ H D I h;exact wpAny_Return_some (gS (he pins s σ H _ I h) λv s1 ⟨x,H1,I1,r1,q1⟩=>⟨x,σ,H1,I1,r1,q1⟩)
noncomputable def TL (c:TT) (t u:TS):TS:=λD σ H=>c σ H λb H1=>if b=true then t D σ H1 else u D σ H1
theorem Ml {c:cE}{a b:List cF}{tc:TT}(hc:PT X c tc) (ha:xP X a t) (hb:xP X b u):PS X (.If c a b pos) (TL tc t u):=by
 intro pins s σ H D I h;refine wpAny_If (gS (hc pins s σ H _ I h) λd s1 ⟨H1,I1,q1⟩=>?_)
 cases d with
 |true=>exact ha pins s1 σ H1 D I1 q1
 |false=>exact hb pins s1 σ H1 D I1 q1
end
noncomputable abbrev TG:=V->St->Hp->(St->Hp->Prop)->Prop
noncomputable abbrev Mm:=List V->St->Hp->(St->Hp->Prop)->Prop
def PG (X:Cx) (target:cE) (t:TG):Prop:=
 ∀(pins:ck) (s:cx) (σ:St) (H:Hp) (v:V) (u:cw) (Q:St->Hp->Prop),Inv X pins σ H s->RelV v u->t v σ H Q->
  wpAny (model X.prog X.w) X.A (assign target X.env u) (λ_ s'=>∃σ' H',Inv X pins σ' H' s'/\Q σ' H') X.xe s
def PZ (X:Cx) (ts:List cE) (t:Mm):Prop:=
 ∀(pins:ck) (s:cx) (σ:St) (H:Hp) (vs:List V) (us:cv) (Q:St->Hp->Prop),Inv X pins σ H s->Vals vs us->t vs σ H Q->
  wpAny (model X.prog X.w) X.A (assignInOrder ((assignEach ts X.env).map (·.2)) us) (λ_ s'=>∃σ' H',Inv X pins σ' H' s'/\Q σ' H') X.xe s
noncomputable abbrev Ke:=V->V->V->Hp->(Hp->Prop)->Prop
def Qu (X:Cx) (t:Ke):Prop:=
 ∀(pins:ck) (s:cx) (σ:St) (H:Hp) (o i v:V) (ov iv u:cw) (Q:Hp->Prop),Inv X pins σ H s->RelV o ov->RelV i iv->RelV v u->t o i v H Q->
  wpAny (model X.prog X.w) X.A (setItem ov iv u) (λ_ s'=>∃H',Inv X pins σ H' s'/\Q H') X.xe s
section
variable {X:Cx}{pos:Pos}
noncomputable def vh (i:Nat):TG:=λv σ H Q=>Q (σ.set i (some v)) H
theorem gU {i:Nat}{x:Str}(hN:X.N.Nodup) (hi:X.N[i]? =some x) (hx:Loc X.env.scope x) (hf:X.fn x=true\/X.env.scope.names.lookup x=some .local:=by first|exact .inl rfl|exact .inr rfl|assumption):PG X (.Name x pos) (vh i):=by
 intro pins s σ H v u Q I r h;exact wpAny_assign_Name (vf I hN hi hx r (λs' I'=>⟨_,H,I',h⟩) hf)
noncomputable def Qv:Mm:=λvs σ H Q=>vs=[]/\Q σ H
noncomputable def Mn (t:TG) (u:Mm):Mm:=λvs σ H Q=>∃v r,vs=v::r/\t v σ H λσ' H'=>u r σ' H' Q
theorem Kf:PZ X [] Qv:=by
 intro pins s σ H vs us Q I r h;obtain⟨e,h⟩:=h;subst e;cases r;exact assignInOrder_nil ⟨σ,H,I,h⟩
theorem rB {e:cE}{es:List cE}{t:TG}{u:Mm}(h1:PG X e t) (h2:PZ X es u)
  (hs:(assignEach (e::es) X.env).map (·.2)=assign e X.env::(assignEach es X.env).map (·.2):=by rfl):PZ X (e::es) (Mn t u):=by
 intro pins s σ H vs us Q I r h;obtain⟨v,vr,e1,h⟩:=h;subst e1;cases r with
 |cons r rr=>
  rw[hs];refine assignInOrder_cons (gS (h1 pins s σ H _ _ _ I r h) λ_ s1 ⟨σ1,H1,I1,q1⟩=>?_)
  exact h2 pins s1 σ1 H1 _ _ Q I1 rr q1
noncomputable def hJ (K:W.Frag) (n:Nat) (t:Mm):TG:=λv σ H Q=>∃a xs,v=.ref a/\iU K H a xs/\xs.length=n/\t xs σ H Q
theorem Nv {es:List cE}{k:Nat}{t:Mm}{n:Nat}(hc:X.calm=true) (h:PZ X es t)
  (hn:(assignEach es X.env).length=n:=by rfl) (kO:(assignEach es X.env).findIdx? (·.1)=none:=by rfl):PG X (.Tuple es k pos) (hJ X.K n t):=by
 intro pins s σ H v u Q I r hw;obtain⟨a,xs,e1,hq,hl,hw⟩:=hw;subst e1;cases r;obtain⟨dg,rv,ht,hz⟩:=I.tuple hq;refine assign_Tuple_tuple (I.ok.hd hc) ht (by simp[hn,<-hl,rv.length]) kO λh' hx=>?_
 have I1:Inv X pins σ H {s with heap:=h'}:=I.kept (t':=s.toks) λb o e=>hx b o (aD (az e)) e
 exact h pins _ σ H xs _ Q I1 (by simpa using rv) hw
noncomputable def TM (to ti:TE) (t:Ke):TG:=λv σ H Q=>to σ H λo H1=>ti σ H1 λi H2=>t o i v H2 λH3=>Q σ H3
theorem Nw {o i:cE}{to ti:TE}{t:Ke}(ho:PE X o to) (hi:PE X i ti) (hs:Qu X t)
  (ha:∀v,assign (.Subscript o i pos) X.env v=(do
   let ov <-holding [v] (eval o X.env)
   let iv <-holding [v,ov] (eval i X.env)
   standAt pos
   holding [v,ov,iv] (setItem ov iv v)
   release [v,ov,iv] []):=by intro _;rfl):PG X (.Subscript o i pos) (TM to ti t):=by
 intro pins s σ H v u Q I r h;rw[ha];refine aa (bo (gS (ho pins s σ H _ I h) λov s1 ⟨x,H1,I1,r1,q1⟩=>?_))
 refine aa (bo (gS (hi pins s1 σ H1 _ I1 q1) λiv s2 ⟨y,H2,I2,r2,q2⟩=>?_))
 refine aa (wpAny_standAt (aa (bo (gS (hs pins s2 σ H2 x y v ov iv u _ I2 r1 r2 r q2) λ_ s3 ⟨H3,I3,q3⟩=>?_))))
 exact wpAny_release ⟨σ,H3,I3,q3⟩
noncomputable def Kg (te:TE) (g:TG):TS:=λD σ H=>te σ H λx H1=>g x σ H1 D.nx
theorem G4 {tg e:cE}{te:TE}{g:TG}(he:PE X e te) (hg:PG X tg g) (hs:swapsWithSole [tg] e pos.line X.env=pure false:=by rfl) (hw:swappedStores [tg] e X.env=pure none:=by rfl)
  (h1:(assignEach [tg] X.env).map (·.2)=[assign tg X.env]:=by rfl):PS X (.Assign [tg] e pos) (Kg te g):=by
 intro pins s σ H D I h;refine wpAny_Assign_stores (gS (he pins s σ H _ I h) λv s1 ⟨x,H1,I1,r1,q1⟩=>?_) hs hw
 rw[h1];exact gS (hg pins s1 σ H1 x v _ I1 r1 q1) λ_ s2 q=>q
theorem yO {i:Nat}{x:Str}{e:cE}{te:TE}{pos':Pos}(hN:X.N.Nodup) (hi:X.N[i]? =some x) (hx:Loc X.env.scope x) (he:PE X e te) (hs:swapsWith e (some (.Name x pos')) pos.line X.env=pure false:=by rfl) (hf:X.fn x=true\/X.env.scope.names.lookup x=some .local:=by first|exact .inl rfl|exact .inr rfl|assumption):
  PS X (.Assign [.Name x pos'] e pos) (Kg te (vh i)):=by
 intro pins s σ H D I h;refine wpAny_Assign_Name (gS (he pins s σ H _ I h) λv s1 ⟨y,H1,I1,r1,q1⟩=>?_) hs
 exact vf I1 hN hi hx r1 (λs2 I2=>⟨_,H1,I2,q1⟩) hf
end
section
variable {X:Cx}{pos:Pos}
end
structure It where
 go:Nat->Hp->Prop
 Nx:Nat->Hp->V->Hp->Prop
 stop:Nat->Hp->Prop
def Aq (X:Cx) (pins:ck) (H:Hp) (b:cD):Prop:=
 H b=none/\b≠X.env.locals/\b∉X.fs/\(b∈X.ex\/X.s₀.heap.objs.size<=b)/\(∀x c,X.env.cells.lookup x=some c->c≠b)/\∀p∈X.pn++pins,p.1≠b
theorem Inv.G5 {X:Cx}{pins:ck}{σ:St}{H H':Hp}{s:cx}{b:cD}(I:Inv X pins σ H s) (hb:s.heap.objs.size<=b) (hn:H' b=none):Aq X pins H' b:=by
 refine⟨hn,bw (aw I.lt hb),I.Tz hb,.inr (aB I.sz hb),λx c e z=>?_,λp hp z=>?_⟩
 ·obtain⟨v,q⟩:=I.cell x c e;exact absurd (aw q.lt (by rw[z];exact hb)) (Nat.lt_irrefl _)
 ·exact absurd (aw (az (I.pin p hp).1) (by rw[z];exact hb)) (Nat.lt_irrefl _)
structure Turn (P:cz) (w:cA) (K:W.Frag) (tg:cE) (J:It) (fp:List cD) (it:cD) (tn:Nat->Heap->Prop):Prop where
 mem:it∈fp
 obj:∀i h,tn i h->∀b∈fp,∃o,h.get? b=some o/\∀v,o.data≠.cell v
 keep:∀i h h',tn i h->(∀b∈fp,∀o,h.get? b=some o->h'.get? b=some o)->tn i h'
 item:∀(X:Cx),X.prog=P->X.w=w->X.K=K->X.calm=true->∀(i:Nat) (pins:ck) (s:cx) (σ:St) (H:Hp) (E:cg),Inv X pins σ H s->(∀b∈fp,Aq X pins H b)->tn i s.heap->J.go i H->
  wpAny (model P w) X.A (pyNext (.ref it)) (λr s1=>∃u,r=some u/\
   wpAny (model P w) X.A (letOwnedTupleGo tg (.ref it) u) (λ_ s2=>∃x H',Inv X pins σ H' s2/\RelV x u/\J.Nx i H x H'/\tn (i+1) s2.heap/\∀b∈fp,H' b=none) E s1) E s
 done:∀(X:Cx),X.prog=P->X.w=w->X.K=K->X.calm=true->∀(i:Nat) (pins:ck) (s:cx) (σ:St) (H:Hp) (E:cg),Inv X pins σ H s->(∀b∈fp,Aq X pins H b)->tn i s.heap->J.stop i H->
  wpAny (model P w) X.A (pyNext (.ref it)) (λr s1=>r=none/\Inv X pins σ H s1) E s
 self:∀(A:cB) (i:Nat) (s:cx) (Q:cg) (E:cg),tn i s.heap->Q (.ref it) s->wpAny (model P w) A (pyIter (.ref it)) Q E s
noncomputable abbrev TI:=St->Hp->(It->Hp->Prop)->Prop
def V1 (X:Cx) (pins:ck) (σ:St) (tg:cE) (R:It->Hp->Prop) (SU:cw) (s2:cx):Prop:=
 ∃(it:cD) (fp:List cD) (tn:Nat->Heap->Prop) (J:It) (H':Hp),SU=.ref it/\Inv X pins σ H' s2/\Turn X.prog X.w X.K tg J fp it tn/\tn 0 s2.heap/\(∀b∈fp,Aq X pins H' b)/\R J H'
def PI (X:Cx) (tg iter:cE) (wi:TI):Prop:=
 ∀(pins:ck) (s:cx) (σ:St) (H:Hp) (R:It->Hp->Prop),Inv X pins σ H s->wi σ H R->
  wpAny (model X.prog X.w) X.A (eval iter X.env) (λv s1=>wpAny (model X.prog X.w) X.A (pyIter v) (V1 X pins σ tg R) X.xe s1) X.xe s
theorem G6 {M:Model}{A:cB}{E:cg}{s:cx}{tg:cE}{it:cD}{u:cw}{o:Obj}{n:String}{vs:Array cw}{Q:Unit->cx->Prop}(ho:s.heap.get? it=some o) (hc:o.cls=.type n) (hd:o.data=.fields vs)
  (hn:["enumerate","zip","dict_itemiterator","dict_reverseitemiterator","odict_iterator","itertools.zip_longest","itertools.pairwise"].contains n=false) (hQ:Q () s):wpAny M A (letOwnedTupleGo tg (.ref it) u) Q E s:=by
 unfold letOwnedTupleGo;cases tg<;>first
  |exact aj hQ
  |(cases u<;>first
    |exact aj hQ
    |(refine aa (wpAny_load ho ?_)
      rw[hc,hd];show wpAny M A (if(["enumerate","zip","dict_itemiterator","dict_reverseitemiterator","odict_iterator","itertools.zip_longest","itertools.pairwise"].contains n&&vs[0]? ==some (rawInt _))=true then _ else _) Q E s
      rw[if_neg (by intro h;rw[hn,Bool.false_and]at h;cases h)]
      exact aj hQ))
noncomputable def TN (K:W.Frag) (a:cD):It:=
 ⟨λi H=>∃xs x,oF K H a xs/\xs[i]? =some x,λi H x H'=>H'=H/\∀xs,oF K H a xs->xs[i]? =some x,λi H=>∃xs,oF K H a xs/\xs.length<=i⟩
noncomputable def TQ (K:W.Frag) (a:cD):It:=
 ⟨λi H=>∃xs x,iU K H a xs/\xs[i]? =some x,λi H x H'=>H'=H/\∀xs,iU K H a xs->xs[i]? =some x,λi H=>∃xs,iU K H a xs/\xs.length<=i⟩
noncomputable def SV (lo:Int) (n:Nat):It:=⟨λi _=>i<n,λi H x H'=>H'=H/\x=.int (lo+i),λi _=>n<=i⟩
theorem Fe {P:cz}{w:cA}{K:W.Frag}{tg:cE}(a it:cD):Turn P w K tg (TN K a) [it] it (λi h=>h.IsListIter it a i)where
 mem:=by simp
 obj:=λi h st b hb=>by
  have e:b=it:=by simpa using hb
  subst e;obtain⟨o,e,c,d⟩:=st;exact⟨o,e,λv z=>by rw[d]at z;cases z⟩
 keep:=λi h h' st k=>st.at λo e=>k it (by simp) o e
 item:=by
  intro X hP hw hK hc i pins s σ H E I hf st hg;subst hP hw hK;obtain⟨xs,x,hq,hx⟩:=hg;obtain⟨dg,rv,p,hz⟩:=I.list hq;obtain⟨u,hu,ru⟩:=rv.get hx;obtain⟨f0,f1,f2,f3,f4,f5⟩:=hf it (by simp)
  refine wpAny_pyNext_list_item st p.isList (x:=u) (by simpa using hu) λh' Mo sb=>?_
  have I1:Inv X pins σ H {s with heap:=h'}:=I.turned (t':=s.toks) (λb o hb e=>(sb.2 b hb).trans e) f0 f1 f3 f4 f5
  obtain⟨o,e,c,d⟩:=id Mo;exact⟨u,rfl,G6 (s:={s with heap:=h'}) e c d (by decide) ⟨x,H,I1,ru,⟨rfl,λys hy=>by rw[I.G3 hy hq];exact hx⟩,Mo,λb hb=>(hf b hb).1⟩⟩
 done:=by
  intro X hP hw hK hc i pins s σ H E I hf st hg;subst hP hw hK;obtain⟨xs,hq,hx⟩:=hg;obtain⟨dg,rv,p,hz⟩:=I.list hq;obtain⟨f0,f1,f2,f3,f4,f5⟩:=hf it (by simp)
  have hl:=rv.length;exact wpAny_pyNext_list_end (I.ok.hd hc) st p.isList (by simp;omega) λh' eb=>⟨rfl,I.turned (t':=s.toks) (λb o hb e=>eb b o hb e) f0 f1 f3 f4 f5⟩
 self:=λ_ _ _ _ _ st h=>wpAny_pyIter_listiter st h
theorem Ca {P:cz}{w:cA}{K:W.Frag}{tg:cE}(a it:cD):Turn P w K tg (TQ K a) [it] it (λi h=>h.IsTupleIter it a i)where
 mem:=by simp
 obj:=λi h st b hb=>by
  have e:b=it:=by simpa using hb
  subst e;obtain⟨o,e,c,d⟩:=st;exact⟨o,e,λv z=>by rw[d]at z;cases z⟩
 keep:=λi h h' st k=>st.at λo e=>k it (by simp) o e
 item:=by
  intro X hP hw hK hc i pins s σ H E I hf st hg;subst hP hw hK;obtain⟨xs,x,hq,hx⟩:=hg;obtain⟨dg,rv,p,hz⟩:=I.tuple hq;obtain⟨u,hu,ru⟩:=rv.get hx;obtain⟨f0,f1,f2,f3,f4,f5⟩:=hf it (by simp)
  refine wpAny_pyNext_tuple_item st (show s.heap.IsTuple a dg.toArray from p) (x:=u) (by simpa using hu) λh' Mo sb=>?_
  have I1:Inv X pins σ H {s with heap:=h'}:=I.turned (t':=s.toks) (λb o hb e=>(sb.2 b hb).trans e) f0 f1 f3 f4 f5
  obtain⟨o,e,c,d⟩:=id Mo;exact⟨u,rfl,G6 (s:={s with heap:=h'}) e c d (by decide) ⟨x,H,I1,ru,⟨rfl,λys hy=>by rw[I.Fc hy hq];exact hx⟩,Mo,λb hb=>(hf b hb).1⟩⟩
 done:=by
  intro X hP hw hK hc i pins s σ H E I hf st hg;subst hP hw hK;obtain⟨xs,hq,hx⟩:=hg;obtain⟨dg,rv,p,hz⟩:=I.tuple hq;obtain⟨f0,f1,f2,f3,f4,f5⟩:=hf it (by simp)
  have hl:=rv.length;exact wpAny_pyNext_tuple_end (I.ok.hd hc) st (show s.heap.IsTuple a dg.toArray from p) (by simp;omega) λh' eb=>⟨rfl,I.turned (t':=s.toks) (λb o hb e=>eb b o hb e) f0 f1 f3 f4 f5⟩
 self:=λ_ _ _ _ _ st h=>wpAny_pyIter_tupleiter st h
theorem Cb {P:cz}{w:cA}{K:PySem.W.Frag}{tg:cE}(it:cD) (lo:Int) (n:Nat):Turn P w K tg (SV lo n) [it] it (λi h=>IsRangeIter h it (lo+(i:Nat)*1) ((n:Int)-(i:Nat)) 1)where
 mem:=by simp
 obj:=λi h st b hb=>by
  have e:b=it:=by simpa using hb
  subst e;exact⟨_,st,λv z=>by
   have z':Data.fields _=Data.cell v:=z;cases z'⟩
 keep:=λi h h' st k=>k it (by simp) _ st
 item:=by
  intro X hP hw hK hc i pins s σ H E I hf st hg;subst hP hw hK;obtain⟨f0,f1,f2,f3,f4,f5⟩:=hf it (by simp)
  have W:=Walks.range (prog:=X.prog) (w:=X.w) (I.ok.hd hc) it lo 1 n;refine W.item i s _ _ hg st λv h' tk hv Mo kk=>?_
  obtain⟨t,rfl⟩:=hv;have I1:Inv X pins σ H {s with heap:=h',toks:=tk}:=I.turned (λb o hb e=>kk b o (by simpa using hb) e) f0 f1 f3 f4 f5
  refine⟨_,rfl,G6 (s:={s with heap:=h',toks:=tk}) (n:="range_iterator") Mo rfl rfl (by decide) ⟨.int (lo+i),H,I1,⟨t,?_⟩,⟨rfl,rfl⟩,Mo,λb hb=>(hf b hb).1⟩⟩
  rw[Int.mul_one]
 done:=by
  intro X hP hw hK hc i pins s σ H E I hf st hg;subst hP hw hK;obtain⟨f0,f1,f2,f3,f4,f5⟩:=hf it (by simp)
  exact wpAny_pyNext_range_end (I.ok.hd hc) st (by have:n<=i:=hg;omega) λh' eb=>⟨rfl,I.turned (t':=s.toks) (λb o hb e=>eb b o hb e) f0 f1 f3 f4 f5⟩
 self:=λ_ _ _ _ _ st h=>wpAny_pyIter_rangeiter st h
end L2
namespace L2
open PySem PySem.Spec PyProof.Rows
section
variable {X:Cx}{tg:cE}
noncomputable def Qw (K:W.Frag) (tl:TE):TI:=λσ H R=>tl σ H λx H1=>∃a,x=.ref a/\(∃xs,oF K H1 a xs)/\R (TN K a) H1
noncomputable def TR (K:W.Frag) (tl:TE):TI:=λσ H R=>tl σ H λx H1=>∃a,x=.ref a/\(∃xs,iU K H1 a xs)/\R (TQ K a) H1
theorem D6 {l:cE}{tl:TE}(hl:PE X l tl):PI X tg l (Qw X.K tl):=by
 intro pins s σ H R I h;refine gS (hl pins s σ H _ I h) λv s1 ⟨x,H1,I1,r1,q1⟩=>?_
 obtain⟨a,e,⟨xs,hq⟩,q⟩:=q1;subst e;cases r1;obtain⟨dg,rv,p,hz⟩:=I1.list hq;refine wpAny_pyIter_list p.isList ?_;refine⟨s1.heap.objs.size,[s1.heap.objs.size],_,_,H1,rfl,I1.kept (t':=s1.toks) λb o e=>ag _ e,Fe a _,⟨_,ay _ rfl,rfl,rfl⟩,λb hb=>?_,q⟩
 have e:b=s1.heap.objs.size:=by simpa using hb
 subst e;exact I1.G5 (au _) (I1.fP.fresh (au _))
theorem Ny {l:cE}{tl:TE}(hl:PE X l tl):PI X tg l (TR X.K tl):=by
 intro pins s σ H R I h;refine gS (hl pins s σ H _ I h) λv s1 ⟨x,H1,I1,r1,q1⟩=>?_
 obtain⟨a,e,⟨xs,hq⟩,q⟩:=q1;subst e;cases r1;obtain⟨dg,rv,p,hz⟩:=I1.tuple hq;refine wpAny_pyIter_tuple (show s1.heap.IsTuple a dg.toArray from p) ?_
 refine⟨s1.heap.objs.size,[s1.heap.objs.size],_,_,H1,rfl,I1.kept (t':=s1.toks) λb o e=>ag _ e,Ca a _,⟨_,ay _ rfl,rfl,rfl⟩,λb hb=>?_,q⟩
 have e:b=s1.heap.objs.size:=by simpa using hb
 subst e;exact I1.G5 (au _) (I1.fP.fresh (au _))
theorem G7 {pins:ck}{σ:St}{H:Hp}{s:cx}{R:It->Hp->Prop}{E:cg}{lo hi:Int}{t u v:Tok}{tk:Nat}(I:Inv X pins σ H s) (h1: -(2^62)<=lo) (h2:lo<2^62) (h3: -(2^62)<=hi) (h4:hi<2^62)
  (q:R (SV lo (hi-lo).toNat) H):wpAny (model X.prog X.w) X.A (pyIter (.ref s.heap.objs.size)) (V1 X pins σ tg R) E {s with heap:=s.heap.push {cls:=.type "range",data:=.fields #[.int lo t,.int hi u,.int 1 v]},toks:=tk}:=by
 refine wpAny_pyIter_range (IsRange.new ..) (small_one h1 h2 h3 h4) ?_;have I1:Inv X pins σ H {s with heap:=s.heap.push {cls:=.type "range",data:=.fields #[.int lo t,.int hi u,.int 1 v]},toks:=tk}:=I.kept λb o e=>ag _ e
 refine⟨(s.heap.push {cls:=.type "range",data:=.fields #[.int lo t,.int hi u,.int 1 v]}).objs.size,[(s.heap.push {cls:=.type "range",data:=.fields #[.int lo t,.int hi u,.int 1 v]}).objs.size],_,_,H,rfl,
  I1.kept (t':=tk) λb o e=>ag _ e,Cb _ lo (hi-lo).toNat,?_,λb hb=>?_,q⟩
 ·have e1:lo+((0:Nat):Int)*1=lo:=by simp
  have e2:(((hi-lo).toNat:Nat):Int)-((0:Nat):Int)=Builtin.Range.rangeSize lo hi 1:=by rw[rangeSize_one];split<;>omega
  show IsRangeIter _ _ (lo+((0:Nat):Int)*1) ((((hi-lo).toNat:Nat):Int)-((0:Nat):Int)) 1;rw[e1,e2];exact ay _ rfl
 ·have e:b=(s.heap.push {cls:=.type "range",data:=.fields #[.int lo t,.int hi u,.int 1 v]}).objs.size:=by simpa using hb
  subst e;exact I1.G5 (au _) (I1.fP.fresh (au _))
noncomputable def Qx (ta:TA):TI:=λσ H R=>ta σ H λvs H1=>∃j:Int,vs=[.int j]/\-(2^62)<=j/\j<2^62/\R (SV 0 j.toNat) H1
theorem Ff {a:cE}{ta:TA}{p pos:Pos}(hg:Gl X "range") (hm:X.mg "range"=none) (ha:PA X [a] ta) (hs:starEach [a] X.env=[(false,eval a X.env)]:=by rfl):PI X tg (.Call (.Name "range" p) [a] [] pos) (Qx ta):=by
 intro pins s σ H R I h;refine Call_ (lL I hg hm boot_range (PyProof.Rows.callWith_type1 (gS (ha pos pins s σ H _ I h) λus s1 ⟨vs,H1,I1,r1,q1⟩=>?_) hs rfl))
 obtain⟨j,e,q1,q2,q⟩:=q1;subst e;cases r1 with
 |cons r rr=>
  cases rr;obtain⟨t,rfl⟩:=r;exact call_range_1 (G7 I1 (by omega) (by omega) q1 q2 (by simpa using q))
noncomputable def TU (wi:TI) (g:TG) (tb:TS):TS:=λD σ H=>wi σ H λJ H1=>∃W:Nat->Nat->St->Hp->Prop,(∃m,W 0 m σ H1)/\∀i m σ H,W i m σ H->
 (J.stop i H/\D.nx σ H)\/(J.go i H/\∃N:St->Hp->Prop,(∀σ' H',N σ' H'->∃m',m'<m/\W (i+1) m' σ' H')/\∀x H',J.Nx i H x H'->g x σ H' λσ2 H2=>tb {D with nx:=N,ct:=N,bk:=D.nx} σ2 H2)
noncomputable def vi (fp:List cD) (h:Heap):ck:=fp.filterMap λb=>(h.get? b).map λo=>(b,o)
theorem nH {fp:List cD}{h:Heap}{b:cD}{o:Obj}(hb:b∈fp) (e:h.get? b=some o):(b,o)∈vi fp h:=List.mem_filterMap.mpr ⟨b,hb,by rw[e];rfl⟩
theorem Fg {fp:List cD}{h:Heap}{p:cD×Obj}(hp:p∈vi fp h):p.1∈fp/\h.get? p.1=some p.2:=by
 obtain⟨b,hb,e⟩:=List.mem_filterMap.mp hp;cases q:h.get? b with
 |none=>rw[q]at e;cases e
 |some o=>
  rw[q]at e;have e':(b,o)=p:=aS e;subst e';exact⟨hb,q⟩
theorem Inv.pinned {pins:ck}{σ:St}{H:Hp}{s:cx}{fp:List cD}(I:Inv X pins σ H s) (hf:∀b∈fp,Aq X pins H b) (ho:∀b∈fp,∃o,s.heap.get? b=some o/\∀v,o.data≠.cell v):Inv X (pins++vi fp s.heap) σ H s:=
 I.D1 λp hp=>(List.mem_append.mp hp).elim (λz=>I.pin p (aL _ z)) λz=>by
  obtain⟨hb,e⟩:=Fg z;obtain⟨f0,f1,f2,_⟩:=hf p.1 hb;obtain⟨o,e',d⟩:=ho p.1 hb;rw[e]at e';cases e';exact⟨e,f0,f1,f2,d⟩
theorem Inv.rC {pins pl:ck}{σ:St}{H:Hp}{s:cx}(I:Inv X (pins++pl) σ H s):Inv X pins σ H s:=I.D1 λp hp=>I.pin p (aL _ (bC _ hp))
theorem Nz {iter:cE}{body:List cF}{wi:TI}{g:TG}{tb:TS}{pos:Pos}(hp:PassesOwn (model X.prog X.w) X.A X.env X.xe) (hc:X.calm=true) (hi:PI X tg iter wi) (hg:PG X tg g) (hb:xP X body tb)
  (hs:∀x,foldedSetIterable iter X.env x=pure x:=by intro _;rfl):PS X (.For tg iter body [] pos) (TU wi g tb):=by
 intro pins s σ H D I h;refine wpAny_For (gS (hi pins s σ H _ I h) λv s1 h1=>gS h1 λSU s2 h2=>?_) hs
 obtain⟨it,fp,tn,J,H2,e,I2,T,Mp,f2,W,⟨m0,w0⟩,turn⟩:=h2;subst e;have Cc:∀{H':Hp},(∀b∈fp,H' b=none)->∀b∈fp,Aq X pins H' b:=λhn b hb=>⟨hn b hb,(f2 b hb).2⟩
 refine codeAny_forLoop_any (λn s'=>∃i σ' H',Inv X pins σ' H' s'/\tn i s'.heap/\(∀b∈fp,H' b=none)/\W i n σ' H') ?_ m0 ⟨0,σ,H2,I2,Mp,λb hb=>(f2 b hb).1,w0⟩
 rintro n s3 ⟨i,σ3,H3,I3,Qy,Qz,w3⟩
 rcases turn i n σ3 H3 w3 with⟨stop,qn⟩|⟨go,N,hN,step⟩
 ·refine wpAny_passesOwn hp (gS (T.done X rfl rfl rfl hc i pins s3 σ3 H3 X.xe I3 (Cc Qz) Qy stop) λr s4 ⟨hr,I4⟩=>?_)
  subst hr;exact wpAny_execs_nil ⟨σ3,H3,I4,qn⟩
 ·refine wpAny_passesOwn hp (gS (T.item X rfl rfl rfl hc i pins s3 σ3 H3 X.xe I3 (Cc Qz) Qy go) λr s4 ⟨u,hr,h4⟩=>?_)
  subst hr;refine wpAny_passesOwn hp (gS h4 λ_ s5 ⟨x,H5,I5,r5,y5,NA,TV⟩=>?_)
  have TX:=I5.pinned (Cc TV) (T.obj _ _ NA);refine wpAny_passesOwn hp (gS (hg _ s5 σ3 H5 x u _ TX r5 (step x H5 y5)) λ_ s6 ⟨σ6,H6,I6,q6⟩=>?_)
  refine wpAny_passesOwn hp (gS (hb _ s6 σ6 H6 _ I6 q6) λf s7 q7=>?_)
  have again:∀{σ7:St}{H7:Hp},Inv X (pins++vi fp s5.heap) σ7 H7 s7->N σ7 H7->∃m,m<n/\∃i σ' H',Inv X pins σ' H' s7/\tn i s7.heap/\(∀b∈fp,H' b=none)/\W i m σ' H':=λ{σ7 H7} I7 n7=>by
   obtain⟨m',hm,w7⟩:=hN σ7 H7 n7;refine⟨m',hm,i+1,σ7,H7,I7.rC,T.keep _ _ _ NA λb hb o e=>(I7.pin (b,o) (aL _ (aL _ (nH hb e)))).1,λb hb=>?_,w7⟩
   obtain⟨o,e,d⟩:=T.obj _ _ NA b hb;exact(I7.pin (b,o) (aL _ (aL _ (nH hb e)))).2.1
  cases f with
  |next=>obtain⟨σ7,H7,I7,n7⟩:=q7;exact again I7 n7
  |cont=>obtain⟨σ7,H7,I7,n7⟩:=q7;exact again I7 n7
  |brk=>obtain⟨σ7,H7,I7,q7⟩:=q7;exact⟨σ7,H7,I7.rC,q7⟩
  |ret v=>obtain⟨x7,σ7,H7,I7,r7,q7⟩:=q7;exact⟨x7,σ7,H7,I7.rC,r7,q7⟩
end
end L2
namespace L2
open PySem PySem.Spec PyProof.Rows
noncomputable abbrev R2:=V->V->Hp->VK->Prop
def t9 (X:Cx) (f:cw->cw->Sem cw) (r:R2):Prop:=
 ∀(pins:ck) (s:cx) (σ:St) (H:Hp) (x y:V) (v u:cw) (Q:VK),Inv X pins σ H s->RelV x v->RelV y u->r x y H Q->
  wpAny (model X.prog X.w) X.A (f v u) (EP X pins σ Q) X.xe s
def iV (X:Cx) (f:cw) (r:List V->Hp->VK->Prop):Prop:=
 ∀(pins:ck) (s:cx) (σ:St) (H:Hp) (xs:List V) (us:cv) (Q:VK),Inv X pins σ H s->Vals xs us->r xs H Q->
  wpAny (model X.prog X.w) X.A (call f us) (EP X pins σ Q) X.xe s
def TY (X:Cx) (r:V->Hp->(Bool->Hp->Prop)->Prop):Prop:=
 ∀(pins:ck) (s:cx) (σ:St) (H:Hp) (x:V) (v:cw) (Q:Bool->Hp->Prop),Inv X pins σ H s->RelV x v->r x H Q->
  wpAny (model X.prog X.w) X.A (truthy v) (TP X pins σ Q) X.xe s
noncomputable def P0 (r:R2) (ta tb:TE):TE:=λσ H Q=>ta σ H λx H1=>tb σ H1 λy H2=>r x y H2 Q
noncomputable def rI (C:Int->Int->Prop) (g:Int->Int->V):R2:=λx y H Q=>∃i j,x=.int i/\y=.int j/\C i j/\Q (g i j) H
noncomputable def Mq (g:Int->Int->V):R2:=λx y H Q=>∃i j,x=.int i/\y=.int j/\Q (g i j) H
section
variable {X:Cx}{a b c:cE}{ta tb tc:TE}{pos:Pos}
theorem NB (ha:PE X a ta) (hb:PE X b tb) {pins:ck}{s:cx}{σ:St}{H:Hp}{R:V->V->Hp->Prop}(I:Inv X pins σ H s)
  (h:ta σ H λx H1=>tb σ H1 λy H2=>R x y H2) {Q:cg}{f:cw->cw->Sem cw}
  (hf:∀v u s2 x y H2,Inv X pins σ H2 s2->RelV x v->RelV y u->R x y H2->wpAny (model X.prog X.w) X.A (f v u) Q X.xe s2):
  wpAny (model X.prog X.w) X.A (eval a X.env) (λv s₁=>wpAny (model X.prog X.w) X.A (eval b X.env) (λu s₂=>wpAny (model X.prog X.w) X.A (f v u) Q X.xe s₂) X.xe s₁) X.xe s:=by
 refine gS (ha pins s σ H _ I h) λv s1 ⟨x,H1,I1,r1,q1⟩=>?_
 refine gS (hb pins s1 σ H1 _ I1 q1) λu s2 ⟨y,H2,I2,r2,q2⟩=>?_
 exact hf v u s2 x y H2 I2 r1 r2 q2
theorem G8 {op:Operator}{r:R2}(ho:t9 X (binaryOp op) r) (ha:PE X a ta) (hb:PE X b tb):PE X (.BinOp a op b pos) (P0 r ta tb):=by
 intro pins s σ H Q I h;exact wpAny_BinOp (NB ha hb I h λv u s2 x y H2 I2 rx ry q=>ho pins s2 σ H2 x y v u Q I2 rx ry q)
theorem TZ {f:cw->cw->Sem cw}{C:Int->Int->Prop}{g:Int->Int->Int}
  (rule:∀(i j:Int) (t u:Tok) (s:cx) (Q:cg) (E:cg),C i j->Q (.int (g i j) s.toks) {s with toks:=s.toks+1}->wpAny (model X.prog X.w) X.A (f (.int i t) (.int j u)) Q E s):
  t9 X f (rI C λi j=>.int (g i j)):=by
 intro pins s σ H x y v u Q I rx ry h;obtain⟨i,j,rfl,rfl,hc,q⟩:=h;obtain⟨t,rfl⟩:=rx;obtain⟨t',rfl⟩:=ry;exact rule i j t t' s _ _ hc ⟨.int (g i j),H,I.tok _,⟨_,rfl⟩,q⟩
theorem QA {f:cw->cw->Sem cw}{g:Int->Int->Int}
  (rule:∀(i j:Int) (t u:Tok) (s:cx) (Q:cg) (E:cg),Q (.int (g i j) s.toks) {s with toks:=s.toks+1}->wpAny (model X.prog X.w) X.A (f (.int i t) (.int j u)) Q E s):
  t9 X f (Mq λi j=>.int (g i j)):=by
 intro pins s σ H x y v u Q I rx ry h;obtain⟨i,j,rfl,rfl,q⟩:=h;obtain⟨t,rfl⟩:=rx;obtain⟨t',rfl⟩:=ry;exact rule i j t t' s _ _ ⟨.int (g i j),H,I.tok _,⟨_,rfl⟩,q⟩
theorem NC {f:cw->cw->Sem cw}{g:Int->Int->Bool}
  (rule:∀(i j:Int) (t u:Tok) (s:cx) (Q:cg) (E:cg),Q (.bool (g i j)) s->wpAny (model X.prog X.w) X.A (f (.int i t) (.int j u)) Q E s):
  t9 X f (Mq λi j=>.bl (g i j)):=by
 intro pins s σ H x y v u Q I rx ry h;obtain⟨i,j,rfl,rfl,q⟩:=h;obtain⟨t,rfl⟩:=rx;obtain⟨t',rfl⟩:=ry;exact rule i j t t' s _ _ ⟨.bl (g i j),H,I,rfl,q⟩
def QB (i j:Int):Prop:=0<j/\j<1073741824
def Kh (i j:Int):Prop:=(-(2^64)<i/\i<2^64)\/(-(2^64)<j/\j<2^64)
theorem Kh.ok {i j:Int}(h:Kh i j):IntMulOk i j:=by
 rcases h with⟨h1,h2⟩|⟨h1,h2⟩
 ·exact .of_left (intBits_le_64 h1 h2)
 ·exact .of_right (intBits_le_64 h1 h2)
theorem G9:t9 X (binaryOp .Add) (Mq λi j=>.int (i+j)):=QA λ_ _ _ _ _ _ _ q=>add_int q
theorem ND:t9 X (binaryOp .Sub) (Mq λi j=>.int (i-j)):=QA λ_ _ _ _ _ _ _ q=>sub_int q
theorem NF:t9 X (binaryOp .Mult) (rI Kh λi j=>.int (i*j)):=TZ λ_ _ _ _ _ _ _ hc q=>mul_int q hc.ok
theorem Ki:t9 X (binaryOp .FloorDiv) (rI QB λi j=>.int (i/j)):=TZ λi j _ _ _ _ _ hc q=>by
 have h1:(0:Int)<j:=hc.1;have h2:j<1073741824:=hc.2;exact floordiv_int (by omega) (by rw[Int.fdiv_eq_ediv_of_nonneg i (by omega)];exact q) (.inl (PyProof.noPylong_small (by omega)))
theorem NG:t9 X (binaryOp .Mod) (rI (λ_ j=>0<j) λi j=>.int (i%j)):=TZ λi j _ _ _ _ _ hc q=>by
 have h1:(0:Int)<j:=hc;exact mod_int' (by omega) (by rw[Int.fmod_eq_emod_of_nonneg i (by omega)];exact q)
end
section
variable {X:Cx}{a b c:cE}{ta tb tc:TE}{pos:Pos}
theorem QC:t9 X (compareOp .LtE) (Mq λi j=>.bl (decide (i<=j))):=NC λ_ _ _ _ _ _ _ q=>le_int q
theorem QD:t9 X (compareOp .Gt) (Mq λi j=>.bl (decide (j<i))):=NC λ_ _ _ _ _ _ _ q=>gt_int q
theorem QE:t9 X (compareOp .GtE) (Mq λi j=>.bl (decide (j<=i))):=NC λ_ _ _ _ _ _ _ q=>ge_int q
theorem t9.or {f:cw->cw->Sem cw}{r r':R2}(h:t9 X f r) (h':t9 X f r'):t9 X f (λx y H Q=>r x y H Q\/r' x y H Q):=by
 intro pins s σ H x y v u Q I rx ry q;rcases q with q|q
 ·exact h pins s σ H x y v u Q I rx ry q
 ·exact h' pins s σ H x y v u Q I rx ry q
theorem vj (b:cE) {op:CmpOp}(h:op≠.In:=by decide) (h2:op≠.NotIn:=by decide):behindInMarks op b=false:=by
 have e1:(op==CmpOp.In)=false:=by cases op<;>first|rfl|exact absurd rfl h
 have e2:(op==CmpOp.NotIn)=false:=by cases op<;>first|rfl|exact absurd rfl h2
 cases b<;>simp[behindInMarks,e1,e2]
theorem Kj {op:CmpOp}{r:R2}(ho:t9 X (compareOp op) r) (ha:PE X a ta) (hb:PE X b tb) (hm:behindInMarks op b=false):PE X (.Compare a [op] [b] pos) (P0 r ta tb):=by
 intro pins s σ H Q I h;exact wpAny_Compare1 (NB ha hb I h λv u s2 x y H2 I2 rx ry q=>ho pins s2 σ H2 x y v u Q I2 rx ry q) hm
noncomputable def QF (t:TE):TT:=λσ H Q=>t σ H λx H'=>∃k,x=.bl k/\Q k H'
theorem D7 {op:CmpOp}{r:R2}(ho:t9 X (compareOp op) r) (ha:PE X a ta) (hb:PE X b tb) (hm:behindInMarks op b=false):PT X (.Compare a [op] [b] pos) (QF (P0 r ta tb)):=by
 intro pins s σ H Q I h;refine wpAny_isTrue_Compare1 (gS (ha pins s σ H _ I h) λv s1 ⟨x,H1,I1,r1,q1⟩=>gS (hb pins s1 σ H1 _ I1 q1) λu s2 ⟨y,H2,I2,r2,q2⟩=>
  gS (ho pins s2 σ H2 x y v u _ I2 r1 r2 q2) λc s3 ⟨z,H3,I3,r3,k,e,q3⟩=>?_) hm
 subst e;cases r3;exact bQ ⟨H3,I3,q3⟩
def Kk (K:W.Frag) (x:V) (H:Hp) (k:Bool):Prop:=
 match x with
 |.fN=>k=false
 |.bl b=>k=b
 |.int i=>k=(i !=0)
 |.str y=>y.length<=sizeLine/\k=((y.length:Int)!=0)
 |.PR y=>y.size<=sizeLine/\k=((y.size:Int)!=0)
 |.ref p=>(∃xs,oF K H p xs/\k= !xs.isEmpty)\/(∃xs,iU K H p xs/\k= !xs.isEmpty)\/∃kvs,H p=some (.dK kvs)/\k= !kvs.isEmpty
 |_=>False
theorem Cd {κ:Type}{kvs:List (κ×V)}{vs:List (κ×cw)}(r:KV kvs vs):(!vs.isEmpty)= !kvs.isEmpty:=by
 cases r<;>rfl
theorem vk {xs:List V}{dg:cv}(r:Vals xs dg):(!dg.toArray.isEmpty)= !xs.isEmpty:=by
 cases r<;>simp
theorem sS:(sizeLine:Nat)<2^63:=by rw[bu];decide
theorem Ha:TY X (λx H Q=>∃k,Kk X.K x H k/\Q k H):=by
 intro pins s σ H x v Q I rx h;obtain⟨k,e,q⟩:=h;have hl:=sS;have hs:sizeLine=16777216:=bu;cases x with
 |fN=>
  cases rx;have e':k=false:=e;subst e';exact truthy_none ⟨H,I,q⟩
 |bl b=>
  cases rx;have e':k=b:=e;subst e';exact bQ ⟨H,I,q⟩
 |int i=>
  obtain⟨t,rfl⟩:=rx;have e':k=(i !=0):=e;subst e';exact PySem.P.truthy_int ⟨H,I,q⟩
 |str y=>
  obtain⟨t,rfl⟩:=rx;obtain⟨hy,e'⟩:y.length<=sizeLine/\k=((y.length:Int)!=0):=e;subst e';exact PySem.P.truthy_str (by omega) ⟨H,I.tok _,q⟩
 |PR y=>
  obtain⟨t,rfl⟩:=rx;obtain⟨hy,e'⟩:y.size<=sizeLine/\k=((y.size:Int)!=0):=e;subst e';exact W.truthy_bytes (by omega) ⟨H,I.tok _,q⟩
 |ref p=>
  cases rx;have e':(∃xs,oF X.K H p xs/\k= !xs.isEmpty)\/(∃xs,iU X.K H p xs/\k= !xs.isEmpty)\/∃kvs,H p=some (.dK kvs)/\k= !kvs.isEmpty:=e;rcases e' with⟨xs,hx,e'⟩|⟨xs,hx,e'⟩|⟨kvs,hx,e'⟩
  ·subst e';obtain⟨dg,r,pl,hz⟩:=I.list hx;have hlen:=r.length;exact wpAny_truthy_list pl.isList (by simp only[aq];omega) ⟨H,I.tok _,by rw[vk r];exact q⟩
  ·subst e';obtain⟨dg,r,pl,hz⟩:=I.tuple hx;have hlen:=r.length;exact truthy_tuple pl (by simp only[aq];omega) ⟨H,I.tok _,by rw[vk r];exact q⟩
  ·subst e';obtain⟨hz,hS,vs,r,m⟩:kvs.length<=sizeLine/\(p==sysModules)=false/\∃vs,KV kvs vs/\s.heap.DictOf (eU X.prog X.w) p vs:=I.fP p _ hx;have hlen:kvs.length=vs.length:=Paired.length r;exact wpAny_truthy_dict hS m (by omega) ⟨H,I.tok _,by rw[Cd r];exact q⟩
 |_=>exact(show False from e).elim
theorem Hb (ha:PE X a ta) (he:∀whole,isTrue a X.env whole=(do let v <-whole;standAt a.pos;holding [v] (truthy v))):
  PT X a (λσ H Q=>ta σ H λx H'=>∃k,Kk X.K x H' k/\Q k H'):=by
 intro pins s σ H Q I h;exact isTrue_plain (gS (ha pins s σ H _ I h) λv s1 ⟨x,H1,I1,r1,q1⟩=>Ha pins s1 σ H1 x v Q I1 r1 q1) (he _)
theorem vals1 {x:V}{us:cv}(r:Vals [x] us):∃u,us=[u]/\RelV x u:=by
 cases r with
 |cons r1 r2=>cases r2;exact⟨_,rfl,r1⟩
theorem vals2 {x y:V}{us:cv}(r:Vals [x,y] us):∃u w',us=[u,w']/\RelV x u/\RelV y w':=by
 cases r with
 |cons r1 r2=>
  cases r2 with
  |cons r3 r4=>cases r4;exact⟨_,_,rfl,r1,r3⟩
theorem Fh (hc:X.calm=true):iV X (.builtin "max") (λxs H Q=>∃i j,xs=[.int i,.int j]/\Q (.int (if j>i then j else i)) H):=by
 intro pins s σ H xs us Q I r h;obtain⟨i,j,rfl,q⟩:=h;obtain⟨u,w',rfl,⟨t,rfl⟩,⟨t',rfl⟩⟩:=vals2 r;refine max_two_ints (I.ok.hd hc) λh' tk k=>⟨_,H,I.kept k,?_,q⟩
 by_cases hj:j>i
 ·rw[if_pos hj,if_pos hj];exact⟨_,rfl⟩
 ·rw[if_neg hj,if_neg hj];exact⟨_,rfl⟩
theorem Fj (hc:X.calm=true):iV X (.builtin "min") (λxs H Q=>∃i j,xs=[.int i,.int j]/\Q (.int (if j<i then j else i)) H):=by
 intro pins s σ H xs us Q I r h;obtain⟨i,j,rfl,q⟩:=h;obtain⟨u,w',rfl,⟨t,rfl⟩,⟨t',rfl⟩⟩:=vals2 r;refine min_two_ints (I.ok.hd hc) λh' tk k=>⟨_,H,I.kept k,?_,q⟩
 by_cases hj:j<i
 ·rw[if_pos hj,if_pos hj];exact⟨_,rfl⟩
 ·rw[if_neg hj,if_neg hj];exact⟨_,rfl⟩
theorem Fl:iV X (.type "int") (λxs H Q=>(∃i,xs=[.int i]/\Q (.int i) H)\/∃k,xs=[.bl k]/\Q (.int (if k then 1 else 0)) H):=by
 intro pins s σ H xs us Q I r h;rcases h with⟨i,rfl,q⟩|⟨k,rfl,q⟩
 ·obtain⟨u,rfl,t,rfl⟩:=vals1 r;exact call_int_int ⟨.int i,H,I,⟨_,rfl⟩,q⟩
 ·obtain⟨u,rfl,r1⟩:=vals1 r;cases r1;exact call_int_bool ⟨.int (if k then 1 else 0),H,I.tok _,⟨_,rfl⟩,q⟩
end
end L2
namespace L2
open PySem PySem.Spec PyProof.Rows
structure Cg (h:Heap) (x dx C:cD) (mA:cj):Prop where
 obj:h.get? x=some (W.instObj C dx)
 ns:h.Ns1 dx mA
 ne:dx≠x
theorem Fm {h:Heap}{dx:cD}{mA:cj}(n:h.Ns1 dx mA):∃od,h.get? dx=some od/\∀name,W.lookIn name od=some (mA name):=by
 obtain⟨o,es,ep,ho,hd,hk,_,hm⟩:=n;refine⟨o,ho,λname=>?_⟩
 have e:=hm name;unfold nsFind findBy at e;rw[<-Array.find?_toList]at e;unfold W.lookIn;rw[hd];dsimp only;split
 ·rename_i y q;rw[q]at e;exact congrArg some e
 ·rename_i q;rw[q]at e;have a:es.toList.any (·.refKey)=false:=by
   rw[List.any_eq_false];intro y hy;obtain⟨z,t,Ci⟩:=hk y (Array.mem_toList_iff.mp hy);simp[DictEntry.refKey,Ci]
  have a':¬ es.toList.any (·.refKey)=true:=by rw[a];exact aZ
  rw[if_neg a'];exact congrArg some e
theorem Cg.look {h:Heap}{x dx C:cD}{mA:cj}(I:Cg h x dx C mA):∃od,W.InstAt h x (W.instObj C dx) C (some od)/\∀name,W.lookIn name od=some (mA name):=
 let ⟨od,ho,hl⟩:=Fm I.ns
 ⟨od,⟨I.obj,rfl,rfl,ho⟩,hl⟩
section
variable {prog:cz}{w:cA}{A:cB}{E:cg}{s:cx}{K:W.Frag}{x dx C f:cD}{mA:cj}{name:Str}{v:cw}
theorem get_map {expr:Bool}{Q:cg}(X:K.In s.heap) (I:Cg s.heap x dx C mA) (hg:W.plainGet K C name=true) (hh:W.hasDictIn K C=true)
  (ha:W.findIn K (.ref C) name=some none) (hv:mA name=some v) (Kl:W.handedIn v=true) (h:Q v {s with toks:=s.toks+1}):
  wpAny (model prog w) A (getAttr (.ref x) name expr) Q E s:=by
 obtain⟨od,J,hl⟩:=I.look;exact W.get_value X J (W.plainGet_of hg).1 (W.findObj_own hh ha rfl (by rw[hl,hv])) Kl h
theorem Hc {pl:Sem Bool}{Q:cw×cv->cx->Prop}(X:K.In s.heap) (I:Cg s.heap x dx C mA) (hg:W.plainGet K C name=true)
  (hf:W.findIn K (.ref C) name=some (some (.ref f))) (ht:W.isFn K (.ref f)=true) (hv:mA name=none) (h:Q (.ref f,[.ref x]) s):
  wpAny (model prog w) A (getMethod (.ref x) name pl) Q E s:=by
 obtain⟨od,J,hl⟩:=I.look;exact W.method_fn X J (W.plainGet_of hg).1 (W.plainGet_of hg).2 hf (beq_iff_eq.mp ht) (by show(W.lookIn name od).map (·.isSome)=some false;rw[hl,hv];rfl) h
theorem Km {ns:List Str}{Q:Unit->cx->Prop}(X:K.In s.heap) (I:Cg s.heap x dx C mA)
  (hs:W.findIn K (.ref C) "__setattr__"=some (some (.builtin "object.__setattr__"))) (hp:W.plainOver K C=true) (ht:W.takerIn K C name=some none) (hh:W.hasDictIn K C=true)
  (hw:PySem.Within mA ns) (hsz:ns.length<=sizeLine)
  (h:∀h',Cg h' x dx C (λy=>if y=name then some v else mA y)->Heap.SameBut dx s.heap h'->Q () {s with heap:=h',toks:=s.toks+2}):
  wpAny (model prog w) A (setAttr (.ref x) name v) Q E s:=by
 obtain⟨od,J,hl⟩:=I.look;refine W.set_plain X J hs (W.osa_open (s:={s with toks:=s.toks+1}) (r:=none) X J hp ht λb=>?_)
 obtain⟨cd,hc,Mh⟩:=W.any_some hh;have hx:s.heap.get? x=some ⟨.ref C,some dx,.plain,#[]⟩:=I.obj;refine aa (aj (aa (aa (wpAny_loadPart hx (aa (W.Looks.here (s:={s with toks:=s.toks+1}) (W.looks_clsIn X hc) ?_))))))
 rw[Mh];refine aj (a:=some dx) (aa (aj (aa ?_)));refine wpAny_nsSet1 (s:={s with toks:=s.toks+1}) I.ns λh' P1 Cj=>?_
 obtain⟨oD,esD,epD,X7,X8,X9⟩:=P1.count (PySem.Within.cons name v hw);refine aa (wpAny_lookBehind X7 (by rw[X8];exact pastItsLine_dict (aB X9 (by rw[ax];omega))) ?_)
 exact aj (h _ ⟨(Cj.2 _ (Ne.symm I.ne)).trans I.obj,P1,I.ne⟩ Cj)
theorem Hd {R:Result->cx->Prop}{vs:cv}{kw:List (Str×cw)}(X:K.In s.heap) (hm:W.makesIn K C=true)
  (hi:W.findIn K (.ref C) "__init__"=some (some (.ref f))) (hf:W.typeIn K (.ref f)=some (.type "function"))
  (h:codeAny (model prog w) (A.under (.builtin "type.__call__" ⟨.ref C::vs,kw⟩)) (.call (.ref f) ⟨.ref (s.heap.objs.size+1)::vs,kw⟩) (W.InitBack (s.heap.objs.size+1) R)
   {s with heap:=(s.heap.push W.emptyDict).push (W.instObj C s.heap.objs.size)}):
  codeAny (model prog w) A (.call (.ref C) ⟨vs,kw⟩) R s:=by
 obtain⟨hh,g,d,t,os⟩:=s;exact W.make_core (W.makes_of X hm) (W.looks_findIn X hi) (λself=>W.bind_fn X self hf) (.inl rfl) h
end
noncomputable def nI (f:Str) (v:V):List (Str×V)->List (Str×V)
 |[]=>[(f,v)]
 |(g,x)::r=>if g=f then(g,v)::r else(g,x)::nI f v r
theorem hO (f g:Str) (v:V):∀fs:List (Str×V),(nI f v fs).lookup g=if g=f then some v else fs.lookup g
 |[]=>by
  show List.lookup g [(f,v)]=_;by_cases h:g=f
  ·have hb:(g==f)=true:=beq_iff_eq.mpr h;simp only[List.lookup,hb,if_pos h]
  ·have hb:(g==f)=false:=beq_eq_false_iff_ne.mpr h;simp only[List.lookup,hb,if_neg h]
 |(k,x)::r=>by
  have ih:=hO f g v r;rw[show nI f v ((k,x)::r)=(if k=f then(k,v)::r else(k,x)::nI f v r)from rfl]
  by_cases hk:k=f
  ·rw[if_pos hk];by_cases h:g=k
   ·have hb:(g==k)=true:=beq_iff_eq.mpr h;simp only[List.lookup,hb,if_pos (h.trans hk)]
   ·have hb:(g==k)=false:=beq_eq_false_iff_ne.mpr h;simp only[List.lookup,hb,if_neg (λe:g=f=>h (e.trans hk.symm))]
  ·rw[if_neg hk];by_cases h:g=k
   ·have hb:(g==k)=true:=beq_iff_eq.mpr h;simp only[List.lookup,hb,if_neg (λe:g=f=>hk (h.symm.trans e))]
   ·have hb:(g==k)=false:=beq_eq_false_iff_ne.mpr h;simp only[List.lookup,hb];exact ih
theorem sT (f:Str) (v:V):∀fs:List (Str×V),f∈(nI f v fs).map (·.1)/\∀g,g∈fs.map (·.1)->g∈(nI f v fs).map (·.1)
 |[]=>⟨by simp[nI],λg h=>by simp at h⟩
 |(k,x)::r=>by
  obtain⟨i1,i2⟩:=sT f v r;rw[show nI f v ((k,x)::r)=(if k=f then(k,v)::r else(k,x)::nI f v r)from rfl]
  by_cases hk:k=f
  ·rw[if_pos hk];subst hk;exact⟨by simp,λg h=>by simpa using h⟩
  ·rw[if_neg hk];refine⟨?_,λg h=>?_⟩
   ·rw[aE];exact ai _ i1
   ·rw[aE]at h ⊢;rcases List.mem_cons.mp h with e|e
    ·exact List.mem_cons.mpr (.inl e)
    ·exact ai _ (i2 g e)
theorem ua (f:Str) (v:V):∀fs:List (Str×V),(nI f v fs).length<=fs.length+1
 |[]=>by simp[nI]
 |(k,x)::r=>by
  have ih:=ua f v r;rw[show nI f v ((k,x)::r)=(if k=f then(k,v)::r else(k,x)::nI f v r)from rfl]
  by_cases hk:k=f
  ·rw[if_pos hk,ax,ax];omega
  ·rw[if_neg hk,ax,ax];omega
theorem oM.some_of {v:V}{o:Option cw}(r:oM (some v) o):∃u,o=some u/\RelV v u:=by
 cases o with
 |none=>exact(show False from r).elim
 |some u=>exact⟨u,rfl,r⟩
theorem oM.none_of {o:Option cw}(r:oM none o):o=none:=by
 cases o with
 |none=>rfl
 |some u=>exact(show False from r).elim
theorem Fn {v:V}{u:cw}(r:RelV v u):W.handedIn u=true:=by
 cases v with
 |fN=>cases (show u=Value.none from r);rfl
 |bl b=>cases (show u=Value.bool b from r);rfl
 |int i=>obtain⟨t,e⟩:=(show ∃t,u=Value.int i t from r);cases e;rfl
 |str x=>obtain⟨t,e⟩:=(show ∃t,u=Value.str x t from r);cases e;rfl
 |PR b=>obtain⟨t,e⟩:=(show ∃t,u=Value.bytes b t from r);cases e;rfl
 |SO b=>obtain⟨t,e⟩:=(show ∃t,u=Value.float b t from r);cases e;rfl
 |ref a=>cases (show u=Value.ref a from r);rfl
 |ty n=>cases (show u=Value.type n from r);rfl
section
variable {P:cz}{w:cA}{H H':Hp}{h h':Heap}{a C dx:cD}{fs X4:List (Str×V)}
theorem mB (fP:qw P w H h) (e:H a=some (.ins C dx fs)):∃mA,Cg h a dx C mA/\(∀f,oM (fs.lookup f) (mA f))/\PySem.Within mA (fs.map (·.1))/\fs.length<=1000/\H dx=some (.own a):=by
 obtain⟨d,z,ne,ob,mA,n,r,q⟩:=(show g8 P w H h a (.ins C dx fs)from fP a _ e)
 exact⟨mA,⟨ob,n,ne⟩,r,q,z,d⟩
end
structure Kn (K:W.Frag) (C:cD):Prop where
 pg:W.plainGet K C Str.empty=true
 hd:W.hasDictIn K C=true
 po:W.plainOver K C=true
 sa:W.findIn K (.ref C) "__setattr__"=some (some (.builtin "object.__setattr__"))
theorem Kn.get {K:W.Frag}{C:cD}(c:Kn K C) (f:Str):W.plainGet K C f=true:=c.pg
def oP (K:W.Frag) (C:cD) (f:Str):Prop:=W.findIn K (.ref C) f=some none
theorem oP.QG {K:W.Frag}{C:cD}{f:Str}(n:oP K C f):W.takerIn K C f=some none:=by
 unfold W.takerIn;rw[show W.findIn K (.ref C) f=some none from n]
 rfl
structure Meth (K:W.Frag) (C:cD) (m:Str) (f:cD):Prop where
 at_:W.findIn K (.ref C) m=some (some (.ref f))
 fn:W.isFn K (.ref f)=true
 kp:W.keepIn K (.ref f)=true
section
variable {X:Cx}{pins:ck}{σ:St}{H:Hp}{s:cx}{a C dx:cD}{fs:List (Str×V)}{f:Str}{v:V}{A:cB}{E:cg}
theorem Ck {b:Bool}{Q:cg}(I:Inv X pins σ H s) (e:H a=some (.ins C dx fs)) (c:Kn X.K C) (n:oP X.K C f) (l:fs.lookup f=some v)
  (h:∀u s',Inv X pins σ H s'->RelV v u->Q u s'):wpAny (model X.prog X.w) A (getAttr (.ref a) f b) Q E s:=by
 obtain⟨mA,O,r,_,_,_⟩:=mB I.fP e;obtain⟨u,hu,ru⟩:=oM.some_of (v:=v) (o:=mA f) (by rw[<-l];exact r f)
 exact get_map I.Fb O (c.get f) c.hd n hu (Fn ru) (h u _ (I.tok _) ru)
theorem Cm {m:Str}{g:cD}{pl:Sem Bool}{Q:cw×cv->cx->Prop}(I:Inv X pins σ H s) (e:H a=some (.ins C dx fs)) (c:Kn X.K C) (k:Meth X.K C m g) (l:fs.lookup m=none)
  (h:Q (.ref g,[.ref a]) s):wpAny (model X.prog X.w) A (getMethod (.ref a) m pl) Q E s:=by
 obtain⟨mA,O,r,_,_,_⟩:=mB I.fP e;have hn:mA m=none:=oM.none_of (by rw[<-l];exact r m)
 exact Hc I.Fb O (c.get m) k.at_ k.fn hn h
theorem Co {y:V}{u:cw}{Q:Unit->cx->Prop}(I:Inv X pins σ H s) (e:H a=some (.ins C dx fs)) (c:Kn X.K C) (n:oP X.K C f) (hl:fs.length<1000) (ry:RelV y u)
  (h:∀s',Inv X pins σ (upd H a (.ins C dx (nI f y fs))) s'->Q () s'):wpAny (model X.prog X.w) A (setAttr (.ref a) f u) Q E s:=by
 obtain⟨mA,O,r,wi,_,ho⟩:=mB I.fP e;have hz:(fs.map (·.1)).length<=sizeLine:=by rw[ae,bu];omega
 refine Km I.Fb O c.sa c.po n.QG c.hd wi hz λh' O' sb=>h _ ?_
 have hd:∃o,h'.get? dx=some o:=let ⟨o,_,_,e',_⟩:=O'.ns;⟨o,e'⟩;refine I.write (x:=a) (e:=dx) (by rw[e];exact True.intro) (.inr ho) (λb q hb z=>(sb.2 b hb).trans z) hd ?_
 refine⟨by rw[cQ O.ne];exact ho,?_,O.ne,O'.obj,_,O'.ns,λg=>?_,λg hg=>?_⟩
 ·have:=ua f y fs;omega
 ·show oM ((nI f y fs).lookup g) (if g=f then some u else mA g)
  rw[hO];by_cases q:g=f
  ·rw[if_pos q,if_pos q];exact ry
  ·rw[if_neg q,if_neg q];exact r g
 ·by_cases q:g=f
  ·rw[q];exact(sT f y fs).1
  ·refine(sT f y fs).2 g (wi g λz=>hg ?_)
   show(if g=f then some u else mA g)=none
   rw[if_neg q];exact z
theorem Inv.made (I:Inv X pins σ H s):Inv X pins σ (upd (upd H s.heap.objs.size (.own (s.heap.objs.size+1))) (s.heap.objs.size+1) (.ins C s.heap.objs.size []))
  {s with heap:=(s.heap.push W.emptyDict).push (W.instObj C s.heap.objs.size)}:=by
 have e1:(s.heap.push W.emptyDict).get? s.heap.objs.size=some W.emptyDict:=ay s.heap rfl;have e2:((s.heap.push W.emptyDict).push (W.instObj C s.heap.objs.size)).get? (s.heap.objs.size+1)=some (W.instObj C s.heap.objs.size):=by
  have:=ay (s.heap.push W.emptyDict) (o:=W.instObj C s.heap.objs.size) rfl
  rwa [Heap.size_push]at this
 have e3:(s.heap.push W.emptyDict).Ns s.heap.objs.size (λ_=>none):=⟨W.emptyDict,#[],_,e1,rfl,(λe he=>absurd he (by simp)),λ_=>rfl⟩
 have I1:=I.laid (a:=s.heap.objs.size) (o:=.own (s.heap.objs.size+1)) (h':=s.heap.push W.emptyDict) (t':=s.toks) (λb u q=>ag _ q) (au _) ⟨_,e1⟩
 refine I1.laid (a:=s.heap.objs.size+1) (o:=.ins C s.heap.objs.size []) (t':=s.toks) (λb u q=>ag _ q) (Nat.le_of_eq (Heap.size_push _ _)) ?_
 have ne:s.heap.objs.size≠s.heap.objs.size+1:=aD (Nat.lt_succ_self _);refine⟨by rw[cQ ne,cU],bL _,ne,e2,λ_=>none,(Heap.Ns1.of_empty e3).at λo q=>ag _ q,λ_=>True.intro,λy hy=>absurd rfl hy⟩
theorem Ko {prog:cz}{w:cA}{env:Env}{e:cE}{f:Str}{pos:Pos}{s:cx}{Q:cg}(hb:attributeBase e f env (eval e env)=eval e env)
  (h:wpAny (model prog w) A (eval e env) (λo s₁=>wpAny (model prog w) A (getAttr o f true) Q E s₁) E s):wpAny (model prog w) A (eval (.Attribute e f pos) env) Q E s:=
 Attribute_any_ h (by rw[arm_eval_Attribute,hb])
end
noncomputable def QH (K:W.Frag) (ta:TE) (f:Str):TE:=λσ H Q=>ta σ H λx H1=>∃a C dx fs v,x=.ref a/\H1 a=some (.ins C dx fs)/\Kn K C/\oP K C f/\fs.lookup f=some v/\Q v H1
noncomputable def T1 (K:W.Frag) (ta tv:TE) (f:Str):TS:=λD σ H=>tv σ H λy H1=>ta σ H1 λx H2=>∃a C dx fs,x=.ref a/\H2 a=some (.ins C dx fs)/\Kn K C/\oP K C f/\fs.length<1000/\
 D.nx σ (upd H2 a (.ins C dx (nI f y fs)))
section
variable {X:Cx}{o e value:cE}{f:Str}{pos pos' oQ:Pos}{ta tv:TE}
theorem yP (he:PE X e ta) (hb:attributeBase e f X.env (eval e X.env)=eval e X.env):PE X (.Attribute e f pos) (QH X.K ta f):=by
 intro pins s σ H Q I h;refine Ko hb (gS (he pins s σ H _ I h) λu s1 ⟨x,H1,I1,rx,a,C,dx,fs,v,ex,ea,c,n,l,q⟩=>?_)
 subst ex;obtain rfl:u=Value.ref a:=rx;exact Ck I1 ea c n l λu' s2 I2 ru=>⟨v,H1,I2,ru,q⟩
theorem He (ha:PE X o ta) (hv:PE X value tv) (hs:swapsWith value (some (.Attribute o f pos')) pos.line X.env=pure false):PS X (.Assign [.Attribute o f pos'] value pos) (T1 X.K ta tv f):=by
 intro pins s σ H D I h;refine plainObj_wpAny_Assign_Attribute (gS (hv pins s σ H _ I h) λu s1 ⟨y,H1,I1,ry,q⟩=>gS (ha pins s1 σ H1 _ I1 q) λov s2 ⟨x,H2,I2,rx,a,C,dx,fs,ex,ea,c,n,l,q2⟩=>?_) hs
 subst ex;obtain rfl:ov=Value.ref a:=rx;exact Co I2 ea c n l ry λs3 I3=>⟨σ,_,I3,q2⟩
end
section
variable {X:Cx}{pins:ck}{σ:St}{H:Hp}{s:cx}{A:cB}{E:cg}{Q:cg}{c:cw}{b:Bool}
end
end L2
namespace L2
open PySem PySem.Spec PyProof.Rows
structure gr (k:Nat) (A:cB):Prop where
 hd:A.handled=none
 dp:A.depth+3*k+5<recursionLimit
 un:A.units+16*k+200<cLine
 gd:A.guards=some []
theorem gr.mono {j k:Nat}{A:cB}(r:gr k A) (h:j<=k):gr j A:=⟨r.hd,by have:=r.dp;omega,by have:=r.un;omega,r.gd⟩
theorem gr.deeper {k:Nat}{A:cB}(r:gr (k+1) A) (env:Env):gr k (A.deeper env):=
 ⟨r.hd,by have:=r.dp;show A.depth+1+3*k+5<_;omega,by have:=r.un;show A.units+3+16*k+200<_;omega,r.gd⟩
theorem Cp {A:cB}{C:cD}{us:cv}{kw:List (Str×cw)}:(A.under (.builtin "type.__call__" ⟨.ref C::us,kw⟩)).depth=A.depth+1:=by
 first|rfl|simp[Around.under,Code.weight,Code.isCreation,Code.isGuard,Code.isCaller,Code.frames,Code.isFrame,guardIds]
theorem Cq {A:cB}{C:cD}{us:cv}{kw:List (Str×cw)}:(A.under (.builtin "type.__call__" ⟨.ref C::us,kw⟩)).units=A.units+1:=by
 first|rfl|simp[Around.under,Code.cUnits,Code.frames,Code.isFrame]
theorem As {A:cB}{C:cD}{us:cv}{kw:List (Str×cw)}:(A.under (.builtin "type.__call__" ⟨.ref C::us,kw⟩)).guards=A.guards:=by
 cases A with|mk hd d fr gs u=>cases gs<;>rfl
theorem gr.make {k:Nat}{A:cB}(r:gr (k+1) A) (C:cD) (us:cv) (kw:List (Str×cw)):gr k (A.under (.builtin "type.__call__" ⟨.ref C::us,kw⟩)):=
 ⟨r.hd,by have:=r.dp;rw[Cp];omega,by have:=r.un;rw[Cq];omega,As.trans r.gd⟩
theorem gr.depth {k:Nat}{A:cB}(r:gr k A):A.depth<recursionLimit:=by have:=r.dp;omega
theorem gr.units {k:Nat}{A:cB}(r:gr k A):A.units+64<cLine:=by have:=r.un;omega
noncomputable def NH:TA:=λ_ H Q=>Q [] H
noncomputable def Hf (ta:TE) (tr:TA):TA:=λσ H Q=>ta σ H λx H1=>tr σ H1 λxs H2=>Q (x::xs) H2
section
variable {X:Cx}{e:cE}{es:List cE}{te:TE}{t:TA}{pos:Pos}
theorem oR:PA X [] NH:=λ_ _ _ _ H Q I h=>Calls.spliced_nil ⟨[],H,I,.nil,h⟩
theorem mC (ha:PE X e te) (hr:PA X es t) (hs:starEach (e::es) X.env=(false,eval e X.env)::starEach es X.env:=by rfl):PA X (e::es) (Hf te t):=by
 intro pos pins s σ H Q I h;rw[hs];show wpAny _ _ (spliced ((false,eval e X.env)::backTo pos (starEach es X.env))) _ _ s;refine Calls.spliced_cons (gS (ha pins s σ H _ I h) λu s1 ⟨x,H1,I1,r1,q1⟩=>?_)
 exact gS (hr pos pins s1 σ H1 _ I1 q1) λus s2 ⟨xs,H2,I2,r2,q2⟩=>⟨x::xs,H2,I2,.cons r1 r2,q2⟩
noncomputable def T2 (t:TA):TE:=λσ H Q=>t σ H λxs H1=>xs.length<=sizeLine/\∀p,H1 p=none->Q (.ref p) (upd H1 p (.tup xs))
noncomputable def T3 (t:TA):TE:=λσ H Q=>t σ H λxs H1=>xs.length<=sizeLine/\∀p,H1 p=none->Q (.ref p) (upd H1 p (.lst xs))
theorem NI {x1} (h:PA X es t):PE X (.Tuple es x1 pos) (T2 t):=by
 intro pins s σ H Q I hq;refine wpAny_Tuple_spliced (gS (h pos pins s σ H _ I hq) λus s1 ⟨xs,H1,I1,r,z,q⟩=>⟨by rw[<-r.length];exact z,?_⟩)
 have hf:H1 s1.heap.objs.size=none:=I1.fP.fresh (au _);refine⟨.ref s1.heap.objs.size,upd H1 s1.heap.objs.size (.tup xs),I1.laid (t':=s1.toks) (λb u e=>ag _ e) (au _) ?_,rfl,q _ hf⟩
 exact⟨z,us,r,⟨_,ay _ rfl,rfl,_,rfl⟩⟩
theorem NJ (h:PA X es t):PE X (.List es pos) (T3 t):=by
 intro pins s σ H Q I hq;refine wpAny_List_spliced (gS (h pos pins s σ H _ I hq) λus s1 ⟨xs,H1,I1,r,z,q⟩=>⟨by rw[<-r.length];exact z,?_⟩)
 have hf:H1 s1.heap.objs.size=none:=I1.fP.fresh (au _);refine⟨.ref s1.heap.objs.size,upd H1 s1.heap.objs.size (.lst xs),I1.laid (t':=s1.toks) (λb u e=>ag _ e) (au _) ?_,rfl,q _ hf⟩
 exact⟨z,us,0,r,ay _ rfl⟩
end
noncomputable abbrev Sp:=List V->Hp->VK->XK->Prop
noncomputable abbrev Fo:=List Env->Hp->cx->XK->cg
structure Cr (P:cz) (w:cA) (K:W.Frag) (mg:cj) (base:Heap) (A:cB) (outer:List Env) (s:cx) (H:Hp):Prop where
 frames:A.frames=some outer
 mod:Mod K mg base
 bs:∀b o,base.get? b=some o->s.heap.get? b=some o/\H b=none
 J1:base.objs.size<=s.heap.objs.size
 uy:s.heap.FunFrames base outer
 Nk:∀b∈GQ outer,H b=none
 fP:qw P w H s.heap
 bare:AllBare s.gens
 tb:E8 K mg base H
theorem E8.un {K:W.Frag}{mg:cj}{base:Heap}{fs ex:List cD}{H H':Hp}{h h':Heap}(t:E8 K mg base H) (u:Un fs ex H H' h h'):E8 K mg base H':=λx c Pt pos qual hm ht=>by
 obtain⟨⟨m1,e1⟩,hr⟩:=t x c Pt pos qual hm ht;obtain⟨m2,e2⟩:=u.xh Pt _ e1;exact⟨⟨m1++m2,by rw[e2,Array.append_assoc]⟩,hr⟩
def CE (outer:List Env) (P:cz) (w:cA) (H:Hp) (s:cx) (Q:VK) (u:cw) (s':cx):Prop:=
 ∃v H',s'.os=s.os/\AllBare s'.gens/\Un (GQ outer) [] H H' s.heap s'.heap/\qw P w H' s'.heap/\RelV v u/\Q v H'
def CR (CX:Fo) (outer:List Env) (P:cz) (w:cA) (H:Hp) (s:cx) (Q:VK) (E:XK) (r:Result) (s':cx):Prop:=
 match r with
 |.ok (.ret u)=>CE outer P w H s Q u s'
 |.ok _=>False
 |.error e=>CX outer H s E e s'
structure eJ (P:cz) (w:cA) (K:W.Frag) (mg:cj) (base:Heap) (CX:Fo) (k:Nat) (f:cD) (fd:cy) (ps:List Str) (sp:Sp):Prop where
 len:∀vs H Q E,sp vs H Q E->vs.length=ps.length
 run:∀(A:cB) (outer:List Env) (s:cx) (H:Hp) (args:Args) (us:cv) (vs:List V) (Q:VK) (E:XK),gr k A->Cr P w K mg base A outer s H->BindsTo s fd args (ps.zip us)->Vals vs us->sp vs H Q E->
  codeAny (model P w) A (.call (.ref f) args) (CR CX outer P w H s Q E) s
theorem eJ.mono {P:cz}{w:cA}{K:W.Frag}{mg:cj}{base:Heap}{CX:Fo}{j k:Nat}{f:cD}{fd:cy}{ps:List Str}{sp:Sp}(F:eJ P w K mg base CX j f fd ps sp) (h:j<=k):
  eJ P w K mg base CX k f fd ps sp:=⟨F.len,λA outer s H args us vs Q E hr=>F.run A outer s H args us vs Q E (hr.mono h)⟩
theorem eJ.imp {P:cz}{w:cA}{K:W.Frag}{mg:cj}{base:Heap}{CX:Fo}{k:Nat}{f:cD}{fd:cy}{ps:List Str}{sp V2:Sp}(F:eJ P w K mg base CX k f fd ps sp)
  (h:∀vs H Q E,V2 vs H Q E->sp vs H Q E):eJ P w K mg base CX k f fd ps V2:=
 ⟨λvs H Q E q=>F.len vs H Q E (h _ _ _ _ q),λA outer s H args us vs Q E hr he hb hv hs=>F.run A outer s H args us vs Q E hr he hb hv (h _ _ _ _ hs)⟩
theorem Cr.make {P:cz}{w:cA}{K:W.Frag}{mg:cj}{base:Heap}{A:cB}{outer:List Env}{s:cx}{H:Hp}(e:Cr P w K mg base A outer s H) (C:cD) (us:cv) (kw:List (Str×cw)):
  Cr P w K mg base (A.under (.builtin "type.__call__" ⟨.ref C::us,kw⟩)) outer s H:=⟨by first|exact e.frames|(simpa [Around.under,Code.envs,Code.isFrame,pushEnvs]using e.frames),e.mod,e.bs,e.J1,e.uy,e.Nk,e.fP,e.bare,e.tb⟩
section
variable {X:Cx}{pins:ck}{σ:St}{H:Hp}{s s':cx}
theorem Inv.QI (I:Inv X pins σ H s):Cr X.prog X.w X.K X.mg X.base X.A X.stack s H:=
 ⟨I.ok.frames,I.ok.mod,I.bs,aB I.ok.J1 I.sz,I.stack,I.DZ,I.fP,I.bare,I.ok.tb.un I.base⟩
theorem Inv.after {Q:VK}{u:cw}(I:Inv X pins σ H s) (h:CE X.stack X.prog X.w H s Q u s'):EP X pins σ Q u s':=by
 obtain⟨v,H',os,bare,un,fP,r,q⟩:=h;obtain⟨hh,g,d,t,Kp⟩:=s';obtain rfl:Kp=s.os:=os;exact⟨v,H',I.call (h':=hh) (g':=g) (d':=d) (t':=t) (ch:=[]) un fP bare (λb z=>absurd z (by simp)),r,q⟩
end
noncomputable def Mr (sp:Sp) (yQ:List V) (E:XK) (t:TA):TE:=λσ H Q=>t σ H λvs H1=>sp (vs++yQ) H1 Q E
noncomputable def QJ (C:cD) (m:Str) (sp:Sp) (yQ:List V) (E:XK) (ta:TE) (t:TA):TE:=λσ H Q=>ta σ H λx H1=>∃a dx fs,x=.ref a/\H1 a=some (.ins C dx fs)/\fs.lookup m=none/\
 t σ H1 λvs H2=>sp (x::(vs++yQ)) H2 Q E
noncomputable def QK (C:cD) (sp:Sp) (yQ:List V) (E:XK) (t:TA):TE:=λσ H Q=>t σ H λvs H1=>∀x dx,H1 x=none->H1 dx=none->dx≠x->
 sp (.ref x::(vs++yQ)) (upd (upd H1 dx (.own x)) x (.ins C dx [])) (λv H2=>v=.fN/\Q (.ref x) H2) E
def Binds (K:W.Frag) (fd:cy) (ps:List Str) (ds:cv):Prop:=
 ∀(s:cx) (us:cv),K.In s.heap->(us++ds).length=ps.length->BindsTo s fd ⟨us,[]⟩ (ps.zip (us++ds))
theorem Binds.all {K:W.Frag}{fd:cy}{ps:List Str}(h:∀us:cv,us.length=ps.length->bindArgs fd ⟨us,[]⟩=pure (ps.zip us)):Binds K fd ps []:=λs us _ hl=>by
 rw[bB]at hl ⊢;exact .of_eq (h us hl)
def Passes (CX:Fo) (X:Cx) (E:XK):Prop:=∀(pins:ck) (σ:St) (H:Hp) (s:cx) (e:cw) (s':cx),Inv X pins σ H s->CX X.stack H s E e s'->X.xe e s'
section
variable {X:Cx}{CX:Fo}{k:Nat}{f C:cD}{fd:cy}{ps:List Str}{sp:Sp}{yQ:List V}{ds:cv}{E:XK}{x m:Str}{p pos apos:Pos}{e o:cE}{es:List cE}{ta:TE}{t:TA}
theorem Hg {pins:ck}{σ:St}{H:Hp}{s:cx}{Q:VK}{us:cv}{vs:List V}(F:eJ X.prog X.w X.K X.mg X.base CX k f fd ps sp) (hr:gr k X.A) (hb:Binds X.K fd ps ds) (hd:Vals yQ ds) (hx:Passes CX X E)
  (I:Inv X pins σ H s) (r:Vals vs us) (h:sp (vs++yQ) H Q E):wpAny (model X.prog X.w) X.A (call (.ref f) us) (EP X pins σ Q) X.xe s:=by
 have r2:Vals (vs++yQ) (us++ds):=r.append hd;have hl:(us++ds).length=ps.length:=by rw[<-r2.length];exact F.len _ _ _ _ h
 refine wpAny_call (codeAny_mono (F.run X.A X.stack s H ⟨us,[]⟩ (us++ds) (vs++yQ) Q E hr I.QI (hb s us I.Fb hl) r2 h) λr s' hq=>?_)
 cases r with
 |error e=>exact hx pins σ H s e s' I hq
 |ok fl=>
  cases fl with
  |ret u=>exact I.after hq
  |next=>exact False.elim hq
  |brk=>exact False.elim hq
  |cont=>exact False.elim hq
theorem Kq (F:eJ X.prog X.w X.K X.mg X.base CX k f fd ps sp) (hr:gr k X.A) (hg:Gl X x) (hm:X.mg x=some (.ref f)) (hk:W.keepIn X.K (.ref f)=true) (hb:Binds X.K fd ps ds) (hd:Vals yQ ds) (hx:Passes CX X E)
  (ha:PA X (e::es) t) (rD:(x==("__debug__":Str))=false:=by decide) (he:starEach (e::es) X.env=(false,eval e X.env)::starEach es X.env:=by rfl) (jM:(backTo pos (starEach es X.env)).any (·.1)=false:=by rfl):
  PE X (.Call (.Name x p) (e::es) [] pos) (Mr sp yQ E t):=by
 intro pins s σ H Q I h;refine wpAny_Call_Name_kw (yN I hg hm ?_ rD);refine W.callWith_K (h₀:=X.base) I.ok.mod.Ql hk (gS (ha pos pins s σ H _ I h) λus s1 ⟨vs,H1,I1,r,q⟩=>⟨I1.Fb,?_⟩) he jM
 exact Hg F hr hb hd hx I1 r q
theorem D8 {pl:Sem Bool}(he:PE X o ta) (c:Kn X.K C) (hm:Meth X.K C m f) (F:eJ X.prog X.w X.K X.mg X.base CX k f fd ps sp) (hr:gr k X.A) (hb:Binds X.K fd ps ds) (hd:Vals yQ ds) (hx:Passes CX X E) (ha:PA X (e::es) t)
  (kO:starEach (e::es) X.env=(false,eval e X.env)::starEach es X.env:=by rfl) (jM:(backTo pos (starEach es X.env)).any (·.1)=false:=by rfl)
  (ht:eval (.Call (.Attribute o m apos) (e::es) [] pos) X.env=(do
   let ov <-eval o X.env
   standAt apos.atName
   let (f,first) <-holding [ov] (getMethod ov m pl)
   callWith pos f first (backTo pos (starEach (e::es) X.env)) (backToKw pos (keywordEach [] X.env))):=by rfl):
  PE X (.Call (.Attribute o m apos) (e::es) [] pos) (QJ C m sp yQ E ta t):=by
 intro pins s σ H Q I h;refine W.methodCall_KW (pl:=pl) (gS (he pins s σ H _ I h) λu s1 ⟨x,H1,I1,rx,a,dx,fs,ex,ea,l,q⟩=>?_) ht
 subst ex;obtain rfl:u=Value.ref a:=rx;refine Cm I1 ea c hm l ?_;refine W.callWith_K (first:=[.ref a]) (h₀:=X.base) I.ok.mod.Ql hm.kp (gS (ha pos pins s1 σ H1 _ I1 q) λus s2 ⟨vs,H2,I2,r,q2⟩=>⟨I2.Fb,?_⟩) kO jM
 exact Hg (us:=.ref a::us) (vs:=.ref a::vs) F hr hb hd hx I2 (.cons rfl r) q2
structure Mk (K:W.Frag) (C f:cD):Prop where
 makes:W.makesIn K C=true
 init:W.findIn K (.ref C) "__init__"=some (some (.ref f))
 fn:W.isFn K (.ref f)=true
 kp:W.keepIn K (.ref C)=true
theorem Hh {pins:ck}{σ:St}{H:Hp}{s:cx}{Q:VK}{us:cv}{vs:List V}(M:Mk X.K C f) (F:eJ X.prog X.w X.K X.mg X.base CX k f fd ps sp) (hr:gr (k+1) X.A) (hb:Binds X.K fd ps ds) (hd:Vals yQ ds)
  (hx:Passes CX X E) (I:Inv X pins σ H s) (r:Vals vs us)
  (h:∀x dx,H x=none->H dx=none->dx≠x->sp (.ref x::(vs++yQ)) (upd (upd H dx (.own x)) x (.ins C dx [])) (λv H2=>v=.fN/\Q (.ref x) H2) E):
  wpAny (model X.prog X.w) X.A (call (.ref C) us) (EP X pins σ Q) X.xe s:=by
 have hq:=h (s.heap.objs.size+1) s.heap.objs.size (I.fP.fresh (Nat.le_succ _)) (I.fP.fresh (au _)) (aD (Nat.lt_succ_self _));have I2:=Inv.made (C:=C) I;have r2:Vals (V.ref (s.heap.objs.size+1)::(vs++yQ)) (Value.ref (s.heap.objs.size+1)::(us++ds)):=.cons rfl (r.append hd);have hl:(Value.ref (s.heap.objs.size+1)::us++ds).length=ps.length:=by
  have e:=r2.length;rw[F.len _ _ _ _ hq]at e;exact e.symm
 refine wpAny_call (Hd (f:=f) I.Fb M.makes M.init (beq_iff_eq.mp M.fn) (codeAny_mono (F.run _ X.stack _ _ ⟨Value.ref (s.heap.objs.size+1)::us,[]⟩ (Value.ref (s.heap.objs.size+1)::(us++ds)) _ _ E (hr.make C us [])
  (I2.QI.make C us []) (hb _ (Value.ref (s.heap.objs.size+1)::us) I2.Fb hl) r2 hq) λr s' QL=>?_))
 cases r with
 |error e=>exact hx pins σ _ _ e s' I2 QL
 |ok fl=>
  cases fl with
  |ret u=>
   obtain⟨v,H',I3,rv,ev,q3⟩:=I2.after QL;subst ev;exact⟨rv,⟨V.ref (s.heap.objs.size+1),H',I3,rfl,q3⟩⟩
  |next=>exact False.elim QL
  |brk=>exact False.elim QL
  |cont=>exact False.elim QL
theorem Kr (M:Mk X.K C f) (F:eJ X.prog X.w X.K X.mg X.base CX k f fd ps sp) (hr:gr (k+1) X.A) (hg:Gl X x) (hm:X.mg x=some (.ref C)) (hb:Binds X.K fd ps ds) (hd:Vals yQ ds) (hx:Passes CX X E)
  (ha:PA X (e::es) t) (rD:(x==("__debug__":Str))=false:=by decide) (he:starEach (e::es) X.env=(false,eval e X.env)::starEach es X.env:=by rfl) (jM:(backTo pos (starEach es X.env)).any (·.1)=false:=by rfl):
  PE X (.Call (.Name x p) (e::es) [] pos) (QK C sp yQ E t):=by
 intro pins s σ H Q I h;refine wpAny_Call_Name_kw (yN I hg hm ?_ rD);refine W.callWith_K (h₀:=X.base) I.ok.mod.Ql M.kp (gS (ha pos pins s σ H _ I h) λus s1 ⟨vs,H1,I1,r,q⟩=>⟨I1.Fb,?_⟩) he jM
 exact Hh M F hr hb hd hx I1 r q
end
section
variable {X:Cx}{CX:Fo}{k:Nat}{f C:cD}{fd:cy}{ps ks:List Str}{sp:Sp}{E:XK}{x m:Str}{p pos apos Yb:Pos}{e o:cE}{es:List cE}{kws:List Keyword}{te ta:TE}{t tk:TA}{nm:Option Str}
variable {g:cv->cv->cv}{gV:List V->List V->List V}
end
structure dB (N P:List Str) (sc:Scope):Prop where
 kind:sc.kind=.function:=by rfl
 co:sc.isCoroutine=false:=by rfl
 gen:sc.isGenerator=false:=by rfl
 nd:N.Nodup:=by decide +kernel
 pre:N.take P.length=P:=by rfl
 par:∀x∈P,sc.names.lookup x=some .local\/sc.names.lookup x=some .cell:=by decide +kernel
 NK:∀y∈sc.names,y.2≠.free:=by decide +kernel
theorem xQ {kindOf:Str->Option NameKind}{x:Str}:∀{binds:List (Str×cw)}{m:cj},(∀v,(x,v)∉binds)->bindL kindOf binds m x=m x
 |[],_,_=>rfl
 |(n,v)::r,m,h=>by
  unfold bindL;rw[xQ λw hw=>h w (ai _ hw)]
  split
  ·have:x≠n:=by rintro rfl;exact h v af
   simp[this]
  ·rfl
theorem xR {kindOf:Str->Option NameKind}{x:Str}:∀{binds:List (Str×cw)}{m:cj},(∀v,(x,v)∉binds)->bindC kindOf binds m x=m x
 |[],_,_=>rfl
 |(n,v)::r,m,h=>by
  unfold bindC;rw[xR λw hw=>h w (ai _ hw)]
  split
  ·rfl
  ·have:x≠n:=by rintro rfl;exact h v af
   simp[this]
theorem xS {kindOf:Str->Option NameKind}{x:Str}{v:cw}:∀{P:List Str}{vs:cv}{i:Nat}{m:cj},P.Nodup->P[i]? =some x->vs[i]? =some v->kindOf x=some .local->
  bindL kindOf (P.zip vs) m x=some v
 |[],_,_,_,_,h,_,_=>by simp at h
 |_::_,[],_,_,_,_,h,_=>by simp at h
 |p::P,w::vs,0,m,nd,h1,h2,hk=>by
  simp at h1 h2;subst h1;subst h2;show bindL kindOf ((p,w)::P.zip vs) m p=_;unfold bindL;rw[xQ λv hv=>(List.nodup_cons.mp nd).1 (List.of_mem_zip hv).1,if_pos hk]
  simp
 |p::P,w::vs,i+1,m,nd,h1,h2,hk=>by
  show bindL kindOf ((p,w)::P.zip vs) m x=_;unfold bindL;exact xS (i:=i) (List.nodup_cons.mp nd).2 (by simpa using h1) (by simpa using h2) hk
theorem xT {kindOf:Str->Option NameKind}{x:Str}{v:cw}:∀{P:List Str}{vs:cv}{i:Nat}{m:cj},P.Nodup->P[i]? =some x->vs[i]? =some v->kindOf x≠some .local->
  bindC kindOf (P.zip vs) m x=some v
 |[],_,_,_,_,h,_,_=>by simp at h
 |_::_,[],_,_,_,_,h,_=>by simp at h
 |p::P,w::vs,0,m,nd,h1,h2,hk=>by
  simp at h1 h2;subst h1;subst h2;show bindC kindOf ((p,w)::P.zip vs) m p=_;unfold bindC;rw[xR λv hv=>(List.nodup_cons.mp nd).1 (List.of_mem_zip hv).1,if_neg hk]
  simp
 |p::P,w::vs,i+1,m,nd,h1,h2,hk=>by
  show bindC kindOf ((p,w)::P.zip vs) m x=_;unfold bindC;exact xT (i:=i) (List.nodup_cons.mp nd).2 (by simpa using h1) (by simpa using h2) hk
noncomputable def start (N:List Str) (vs:List V):St:=vs.map some++List.replicate (N.length-vs.length) none
noncomputable def qQ (CX:Fo) (P:cz) (w:cA) (K:W.Frag) (mg:cj) (base:Heap) (N:List Str) (qual:Str) (scope:Scope) (f:cD) (cd:cw) (A:cB) (outer:List Env) (s:cx) (H:Hp) (E:XK):Cx where
 prog:=P
 w:=w
 K:=K
 mg:=mg
 base:=base
 A:=A.deeper (envOfC qual scope s.heap.objs.size f cd)
 N:=N
 s₀:=s
 H₀:=H
 env:=envOfC qual scope s.heap.objs.size f cd
 outer:=outer
 stack:=envOfC qual scope s.heap.objs.size f cd::outer
 ex:=[]
 calm:=true
 fn:=λ_=>true
 pn:=[]
 xe:=λe s'=>wpAny (model P w) (A.deeper (envOfC qual scope s.heap.objs.size f cd)) (leaving (envOfC qual scope s.heap.objs.size f cd) e) (λ_ D9=>CX outer H s E e D9) (λe' D9=>CX outer H s E e' D9) s'
theorem Au {sc:Scope}{n:Nat}{x:Str}(h:sc.names.lookup x=some .cell):∃c,(cellsFrom n sc.names []).lookup x=some c:=by
 have q:=W.cellsFrom_some sc.names n [] (.inl h);exact Option.isSome_iff_exists.mp q
theorem Fp {CX:Fo}{P:cz}{w:cA}{K:W.Frag}{mg:cj}{base:Heap}{N ps:List Str}{qual:Str}{scope:Scope}{f:cD}{cd:cw}{A:cB}{outer:List Env}{s s1:cx}{H:Hp}{E:XK}{us:cv}{vs:List V}
  (S:dB N ps scope) (hd:A.handled=none) (e0:Cr P w K mg base A outer s H) (hl:vs.length=ps.length) (r:Vals vs us)
  (x:InCallC s s.heap.objs.size (bindL (envOfC qual scope s.heap.objs.size f cd).kindOf (ps.zip us) λ_=>none) (cellsFrom (s.heap.objs.size+1) scope.names []) (bindC (envOfC qual scope s.heap.objs.size f cd).kindOf (ps.zip us) λ_=>none) s1):
  Inv (qQ CX P w K mg base N qual scope f cd A outer s H E) [] (start N vs) H s1:=by
 have jM:ps.length<=N.length:=by have:=congrArg List.length S.pre;rw[bJ]at this;omega
 obtain⟨h1,tk,rfl,hk⟩:=x.done;have QM:∀b:cD,b∉(qQ CX P w K mg base N qual scope f cd A outer s H E).ex:=λb z=>absurd (show b∈([]:List cD)from z) (by simp)
 refine⟨⟨e0.mod,S.kind,rfl,rfl,au _,λy z c h1 h2=>?_,λy hy=>?_,λy c _ h=>?_,λ_=>hd,Around.frames_deeper e0.frames,.inr ⟨rfl,rfl⟩,λb z=>absurd z (QM b),e0.bs,e0.J1,λb _ _=>QM b,λb z=>absurd z (QM b),e0.uy,e0.Nk,e0.tb⟩,
  rfl,e0.bare,Un.kept hk,⟨_,x.toInCall.ns,λi y v h1 h2 h3=>?_⟩,λy c h=>⟨_,x.cell y c h⟩,e0.fP.fresh (au _),λy c h=>?_,λp hp=>absurd (show p∈([]:ck)from hp) (by simp),e0.fP.kept hk,?_⟩
 ·exact name_of_addr x.apart (PySem.mem_of_lookup h1) (PySem.mem_of_lookup h2)
 ·have hy:scope.names.lookup y=some .cell\/scope.names.lookup y=some .free:=hy;rcases hy with hy|hy
  ·exact Au hy
  ·exact absurd rfl (S.NK _ (PySem.mem_of_lookup hy))
 ·exact bg (x.above y c (PySem.mem_of_lookup h))
 ·have hi:i<vs.length:=by
   unfold start at h2;by_cases hi:i<vs.length
   ·exact hi
   ·rw[aP (by simpa using hi)]at h2
    rw[bf]at h2;split at h2<;>cases h2
  have ha:vs[i]? =some v:=by
   unfold start at h2;rw[aJ (by simpa using hi),av]at h2
   cases e:vs[i]? with
   |none=>rw[e]at h2;cases h2
   |some a=>rw[e]at h2;cases h2;rfl
  obtain⟨u,hu,rv⟩:=r.get ha;have hp:ps[i]? =some y:=by
   rw[<-S.pre,List.getElem?_take_of_lt (by omega)];exact h1
  have V3:ps.Nodup:=by rw[<-S.pre];exact S.nd.sublist (List.take_sublist _ _)
  refine⟨u,rv,?_⟩;rcases S.par y (bh hp)with k|k
  ·exact .inl ⟨k,xS V3 hp hu k⟩
  ·obtain⟨c,e⟩:=Au (n:=s.heap.objs.size+1) k;refine .inr ⟨.inl k,c,e,?_⟩;have q:=x.cell y c e;rw[xT V3 hp hu (by show scope.names.lookup y≠_;rw[k];decide)]at q
   exact q
 ·exact e0.fP.fresh (bg (x.above y c (PySem.mem_of_lookup h)))
 ·unfold start;show _=N.length;rw[aQ,ae,List.length_replicate];omega
theorem Ms {CX:Fo}{P:cz}{w:cA}{K:W.Frag}{mg:cj}{base:Heap}{k:Nat}{f:cD}{name qual:Str}{params:Arguments}{body:List cF}{scope:Scope}{dV kV doc pm gk ct oc:cw}{an od:cp}
  {Ks:cq}{N ps:List Str}{sp:Sp}(lk:K.lookup f=some ⟨oc,od,.func (W.fnOf name qual params body scope dV kV doc pm an gk ct),Ks⟩) (xj:W.codeIn K gk qual=true) (S:dB N ps scope)
  (len:∀vs H Q E,sp vs H Q E->vs.length=ps.length)
  (kC:∀(A:cB) (outer:List Env) (s:cx) (H:Hp) (vs:List V) (Q:VK) (E:XK),gr k (A.deeper (envOfC qual scope s.heap.objs.size f gk))->sp vs H Q E->
   ∃t,xP (qQ CX P w K mg base N qual scope f gk A outer s H E) body t/\t {nx:=λ_ H'=>Q .fN H',rt:=Q} (start N vs) H):
  eJ P w K mg base CX (k+1) f (W.fnOf name qual params body scope dV kV doc pm an gk ct) ps sp:=by
 refine⟨len,λA outer s H args us vs Q E hr e0 hb r J3=>?_⟩
 have hl:=len _ _ _ _ J3;have KX:K.In s.heap:=e0.mod.Ql.keeps λb o e=>(e0.bs b o e).1
 have lim:s.heap.NoLimit:=e0.mod.nolimit.keeps λb o e=>(e0.bs b o e).1
 have QN:∀y∈ps.zip us,scope.names.lookup y.1=some .local\/(scope.names.lookup y.1=some .cell/\((cellsFrom (s.heap.objs.size+1) scope.names []).lookup y.1).isSome=true):=λ⟨n,v⟩ hy=>by
  rcases S.par n (List.of_mem_zip hy).1 with q|q
  ·exact .inl q
  ·exact .inr ⟨q,W.cellsFrom_some _ _ _ (.inl q)⟩
 refine codeAny_call_function hr.depth (KX _ _ lk) rfl S.co S.gen rfl (W.codeRec_of KX xj) (hb _ _ _ _ ?_);refine wpAny_newFunctionEnv_cells S.kind QN λenv he s1 x=>?_
 subst he;refine⟨lim.keeps x.toInCall.keep,codeAny_func ?_⟩;obtain⟨t,ht,hq⟩:=kC A outer s H vs Q E (hr.deeper _) J3;have I:Inv (qQ CX P w K mg base N qual scope f gk A outer s H E) [] (start N vs) H s1:=Fp S hr.hd e0 hl r x;refine bP (ht [] s1 (start N vs) H _ I hq) (λfl s' hs=>?_) λe s' hs=>hs
 have fin:∀{σ':St}{H':Hp}{v:V}{u:cw},Inv (qQ CX P w K mg base N qual scope f gk A outer s H E) [] σ' H' s'->RelV v u->Q v H'->CE outer P w H s Q u s':=
  λ{σ' H' v u} J rv q=>⟨v,H',J.os,J.bare,J.base,J.fP,rv,q⟩
 cases fl with
 |ret u=>
  obtain⟨v,σ',H',J,rv,q⟩:=hs;exact fin J rv q
 |next=>
  obtain⟨σ',H',J,q⟩:=hs;exact fin (v:=V.fN) (u:=Value.none) J rfl q
 |brk=>
  obtain⟨_,_,_,q⟩:=hs;exact False.elim q
 |cont=>
  obtain⟨_,_,_,q⟩:=hs;exact False.elim q
end L2
namespace L2
open PySem PySem.Spec PyProof.Rows
section
variable {X:Cx}{x:Str}{p pos:Pos}{e:cE}{es:List cE}{t:TA}{id T:String}{r:List V->Hp->VK->Prop}
noncomputable def P2 (r:List V->Hp->VK->Prop) (t:TA):TE:=λσ H Q=>t σ H λvs H1=>r vs H1 Q
theorem Av (hc:iV X (.builtin id) r) (hg:Gl X x) (hm:X.mg x=none) (hv:bootBuiltins x=some (.builtin id)) (ha:PA X (e::es) t) (hn:x≠"__name__":=by decide) (rD:(x==("__debug__":Str))=false:=by decide)
  (he:starEach (e::es) X.env=(false,eval e X.env)::starEach es X.env:=by rfl) (jM:(backTo pos (starEach es X.env)).any (·.1)=false:=by rfl):PE X (.Call (.Name x p) (e::es) [] pos) (P2 r t):=by
 intro pins s σ H Q I h;refine wpAny_Call_Name_kw (lL I hg hm hv ?_ hn rD);exact PyProof.Rows.callWith_builtin1 (gS (ha pos pins s σ H _ I h) λus s1 ⟨vs,H1,I1,r1,q1⟩=>hc pins s1 σ H1 vs us Q I1 r1 q1) he jM
theorem sU (hc:iV X (.type T) r) (hg:Gl X x) (hm:X.mg x=none) (hv:bootBuiltins x=some (.type T)) (ha:PA X (e::es) t) (hn:x≠"__name__":=by decide) (rD:(x==("__debug__":Str))=false:=by decide)
  (he:starEach (e::es) X.env=(false,eval e X.env)::starEach es X.env:=by rfl) (jM:(backTo pos (starEach es X.env)).any (·.1)=false:=by rfl):PE X (.Call (.Name x p) (e::es) [] pos) (P2 r t):=by
 intro pins s σ H Q I h;refine wpAny_Call_Name_kw (lL I hg hm hv ?_ hn rD);exact PyProof.Rows.callWith_type1 (gS (ha pos pins s σ H _ I h) λus s1 ⟨vs,H1,I1,r1,q1⟩=>hc pins s1 σ H1 vs us Q I1 r1 q1) he jM
end
end L2
namespace HT
open PySem PyProof.Rows
noncomputable def lexLt:cn->cn->Bool
 |[],[]=>false
 |[],_::_=>true
 |_::_,[]=>false
 |x::xs,y::ys=>if x=y then lexLt xs ys else decide (x<y)
theorem jb (x y:Int) (xs ys:cn):lexLt (x::xs) (y::ys)=if x=y then lexLt xs ys else decide (x<y):=rfl
theorem xl:lexLt [] []=false:=rfl
theorem oS (y:Int) (ys:cn):lexLt [] (y::ys)=true:=rfl
theorem oT (x:Int) (xs:cn):lexLt (x::xs) []=false:=rfl
theorem Hi (A:cB) (s:cx) (a:Int) (t:Tok) (c:Int) (u:Tok):∃e,SeqAt.EqAt A s (.int a t) (.int c u) e/\(e=true↔a=c):=
 ⟨(a==c),SeqAt.EqAt.int_int a t c u,by simp⟩
theorem Hj (A:cB) (s:cx) (a:Int) (t:Tok) (c:Int) (u:Tok) (prog:cz) (w:cA) (E:cg) (Q:cg) (h:Q (.bool (decide (a<c))) s):
  wpAny (model prog w) A (richCompare .Lt (.int a t) (.int c u)) Q E s:=
 (PyProof.Rows.lt_int h:wpAny (model prog w) A (compareOp .Lt (.int a t) (.int c u)) Q E s)
section
open PySem.SeqAt
open PySem.AutoSeq1 (wpAny_loadPart')
open PySem.MeetsSeq PySem.MeetsSeq2 PySem.MeetsSeq3
theorem qx (l b:cD) (items gu:Array cw) (n n2:Nat) (dd J4:cp) (sl Hk:cq) (ns ms:cn) (hi:IntsAre items.toList ns) (hj:IntsAre gu.toList ms):
  Meets (Builtin.«tuple.__lt__» ⟨[.ref l,.ref b],[]⟩)
   (λ_ R s=>s.heap.get? l=some {cls:=.type "tuple",dict:=dd,data:=.seq items n,slots:=sl}/\s.heap.get? b=some {cls:=.type "tuple",dict:=J4,data:=.seq gu n2,slots:=Hk}/\
    R (.ok (.ret (.bool (lexLt ns ms)))) s):=
 .of_wp λprog w A R s h=>by
  obtain⟨hp,g,d,tk,os⟩:=s;obtain⟨hl,hb,h⟩:=h;have f2:=AutoSeq1.sub_tuple_tuple;have z1:items.size=ns.length:=by rw[<-hi.length];simp
  have z2:gu.size=ms.length:=by rw[<-hj.length];simp
  wp_walk using wpAny_loadPart' hl,wpAny_loadPart' hb,wpAny_forIn_list _ (λrest b s'=>b.1=none/\s'=⟨hp,g,d,tk,os⟩/\∃(vs ws:cv) (uz P4:cn),rest=vs.zip ws/\
   IntsAre vs uz/\IntsAre ws P4/\uz.length+gu.size=P4.length+items.size/\R (.ok (.ret (.bool (lexLt uz P4)))) ⟨hp,g,d,tk,os⟩) _
  case turn=>
   rintro⟨y,x⟩ rest b s' ⟨Hl,rfl,vs,ws,uz,P4,hz,T4,SW,hlen,hR⟩
   cases T4 with
   |nil=>rw[List.zip_nil_left]at hz;cases hz
   |cons a t T5=>
    cases SW with
    |nil=>rw[List.zip_nil_right]at hz;cases hz
    |cons c u T6=>
     rw[List.zip_cons_cons]at hz;injection hz with Yc QO
     injection Yc with hy hx
     subst hy hx;rw[jb]at hR;simp only[ax]at hlen;obtain⟨e,he,QP⟩:=Hi A.in1 ⟨hp,g,d,tk,os⟩ a t c u;refine aa (he prog w _ _ ?_);cases e with
     |true=>
      rw[if_pos (QP.mp rfl)]at hR
      wp_walk
      exact⟨rfl,rfl,_,_,_,_,QO,T5,T6,by omega,hR⟩
     |false=>
      rw[if_neg (λq=>absurd (QP.mpr q) aZ)]at hR
      have Yd:=Hj A.in1 ⟨hp,g,d,tk,os⟩ a t c u prog w
      wp_walk using Yd
      exact⟨_,rfl,by simpa using hR⟩
  case fin=>
   rintro⟨b1,b2⟩ s' ⟨Hl,rfl,vs,ws,uz,P4,hz,T4,SW,hlen,hR⟩
   simp only at Hl;subst Hl;have hv:lexLt uz P4=decide (items.size<gu.size):=by
    cases T4 with
    |nil=>
     cases SW with
     |nil=>
      simp only[List.length_nil]at hlen;rw[xl];exact(aG (by omega)).symm
     |cons c u hw=>
      simp only[List.length_nil,ax]at hlen;rw[oS];exact(aR (by omega)).symm
    |cons a t hv=>
     cases SW with
     |nil=>
      simp only[List.length_nil,ax]at hlen;rw[oT];exact(aG (by omega)).symm
     |cons c u hw=>
      rw[List.zip_cons_cons]at hz;cases hz
   rw[hv]at hR
   wp_walk
   exact⟨_,rfl,by simpa [Builtin.Tuple.tupleCompareSizes]using hR⟩
  case h=>
   exact⟨rfl,rfl,items.toList,gu.toList,ns,ms,rfl,hi,hj,by omega,h⟩
end
section
variable {prog:cz}{w:cA}{A:cB}{E:cg}{s:cx}
theorem Ct {l b:cD}{items gu:Array cw}{ns ms:cn}{Q:cg}(hl:IsTup s.heap l items) (hb:IsTup s.heap b gu) (hi:IntsAre items.toList ns) (hj:IntsAre gu.toList ms)
  (hu:A.units<cLine) (h:Q (.bool (lexLt ns ms)) s):wpAny (model prog w) A (compareOp .Lt (.ref l) (.ref b)) Q E s:=by
 obtain⟨⟨cls,dd,data,sl⟩,ho,hc,n,hd⟩:=id hl;obtain⟨⟨NL,J4,data2,Hk⟩,uA,ub,n2,hd2⟩:=id hb;simp only at hc hd ub hd2;subst hc hd ub hd2;exact richCompare_meets_room (op:=.Lt) ⟨_,ho,rfl⟩ ⟨_,uA,rfl⟩ PySem.F.slot_tuple_lt PySem.F.entry_tuple_lt (PySem.F.args_tuple_lt_2 _ _) (qx l b items gu n n2 dd J4 sl Hk ns ms hi hj)
  ⟨ho,uA,show Value.bool (lexLt ns ms)≠Value.notImplemented/\Q (.bool (lexLt ns ms)) s from⟨(λx=>nomatch x),h⟩⟩ hu
theorem Kt {t b:cD}{vs ws:cv}{Q:cg}(ht:IsTup s.heap t vs.toArray) (hb:IsTup s.heap b ws.toArray) (hv:vs≠[])
  (h1:ws=[]->Q (.ref t) s) (h2:ws≠[]->Q (.ref s.heap.objs.size) {s with heap:=s.heap.push {cls:=.type "tuple",data:=.seq (vs++ws).toArray}})
  (hsz:vs.length+ws.length<=sizeLine):wpAny (model prog w) A (binaryOp .Add (.ref t) (.ref b)) Q E s:=by
 obtain⟨⟨cls,dd,data,sl⟩,ho,hc,n,hd⟩:=id ht;obtain⟨⟨NL,J4,data2,Hk⟩,uA,ub,n2,hd2⟩:=id hb;simp only at hc hd ub hd2;subst hc hd ub hd2;have e:vs.toArray++ws.toArray=(vs++ws).toArray:=by simp
 by_cases hw:ws=[]
 ·exact concat_meets ⟨_,ho,rfl⟩ ⟨_,uA,rfl⟩ noFill_tuple_add seq_tuple_add PySem.F.slot_tuple_add PySem.F.entry_tuple_add (PySem.F.args_tuple_add_2 _ _)
   (tuple_addW1 t b vs.toArray ws.toArray n n2 dd J4 sl Hk (by simpa using hv) (by simp[hw])) ⟨ho,uA,h1 hw⟩
 ·refine concat_meets ⟨_,ho,rfl⟩ ⟨_,uA,rfl⟩ noFill_tuple_add seq_tuple_add PySem.F.slot_tuple_add PySem.F.entry_tuple_add (PySem.F.args_tuple_add_2 _ _)
   (tuple_addW2 t b vs.toArray ws.toArray n n2 dd J4 sl Hk (by simpa using hv) (by simpa using hw) (by rw[aq,aq];exact hsz)) ⟨ho,uA,?_⟩
  rw[e];exact h2 hw
noncomputable def g0 (n d:Nat):Option Int->Nat
 |none=>d
 |some v=>if v<0 then(v+(n:Int)).toNat else min v.toNat n
theorem NM (n d:Nat) (hd:d<=n) (o:Option Int):g0 n d o<=n:=by
 cases o with
 |none=>exact hd
 |some v=>
  show(if v<0 then(v+(n:Int)).toNat else min v.toNat n)<=n
  by_cases hv:v<0
  ·rw[if_pos hv];omega
  ·rw[if_neg hv];exact Nat.min_le_right _ _
theorem Ea (v:Int) (n d:Nat):(if v<0 then max (v+(n:Int)) 0 else min v (n:Int))=((g0 n d (some v):Nat):Int):=by
 show(if v<0 then max (v+(n:Int)) 0 else min v (n:Int))=(((if v<0 then(v+(n:Int)).toNat else min v.toNat n):Nat):Int)
 by_cases hv:v<0
 ·simp only[if_pos hv];omega
 ·simp only[if_neg hv];omega
theorem Cu (lo hi:Option Int) (n:Nat):Builtin.Slice.sliceAdjust lo hi 1 (n:Int)=(((g0 n 0 lo:Nat):Int),((g0 n n hi:Nat):Int)):=by
 have h1:¬ ((1:Int)<0):=by omega
 unfold Builtin.Slice.sliceAdjust;simp only[h1,bD];refine Prod.ext ?_ ?_
 ·cases lo with
  |none=>rfl
  |some v=>exact Ea v n 0
 ·cases hi with
  |none=>rfl
  |some v=>exact Ea v n n
theorem Cv (i j:Nat):Builtin.Slice.slicePlaces (i:Int) (j:Int) 1=j-i:=by
 unfold Builtin.Slice.slicePlaces;have h1:(1:Int)>0:=by omega
 simp only[h1,if_true,Int.ediv_one];split<;>omega
theorem vm {v:cw}{o:Option Int}{Q:Option Int->cx->Prop}(p:IsPart v o) (h:Q o s):wpAny (model prog w) A (Builtin.Slice.slicePartIndex v) Q E s:=by
 cases p with
 |none=>exact slicePart_none h
 |int i t=>exact slicePart_int h
theorem m4 {sl:cD}{vl vu:cw}{lo hi:Option Int}{n:Nat}{Q:Int×Int×Nat->cx->Prop}(hs:s.heap.IsSliceOf sl vl vu .none) (pl:IsPart vl lo) (pu:IsPart vu hi)
  (h:Q (((g0 n 0 lo:Nat):Int),1,g0 n n hi-g0 n 0 lo) s):wpAny (model prog w) A (Builtin.Slice.sliceApplied (.ref sl) (pure (n:Int))) Q E s:=by
 obtain⟨os,NN,SX,QQ⟩:=id hs;unfold Builtin.Slice.sliceApplied Builtin.Slice.sliceFields;refine aa (aa (wpAny_field NN QQ (x:=vl) rfl (aa (wpAny_field NN QQ (x:=vu) rfl (aa (wpAny_field NN QQ (x:=.none) rfl (aj ?_)))))));refine aa (slicePart_none ?_);show wpAny _ _ (if((1:Int)==0)=true then _ else _) _ _ s
 rw[if_neg (by decide)]
 refine aa (vm pl (aa (vm pu (aa (aj ?_)))));show wpAny _ _ (match Builtin.Slice.sliceAdjust lo hi 1 (n:Int)with|(lo,hi)=>pure (lo,(1:Int),Builtin.Slice.slicePlaces lo hi 1)) _ _ s
 rw[Cu lo hi n];show wpAny _ _ (pure (((g0 n 0 lo:Nat):Int),(1:Int),Builtin.Slice.slicePlaces ((g0 n 0 lo:Nat):Int) ((g0 n n hi:Nat):Int) 1)) _ _ s;rw[Cv];exact aj h
theorem Hm (xs:Array cw) (i k:Nat):((List.range k).filterMap λ(m:Nat)=>xs[((i:Int)+(m:Int)*1).toNat]?).toArray=((xs.toList.drop i).take k).toArray:=by
 have e:(λ(m:Nat)=>xs[((i:Int)+(m:Int)*1).toNat]?)=λm=>xs[i+m]? :=by
  funext m
  have:((i:Int)+(m:Int)*1).toNat=i+m:=by omega
  rw[this]
 rw[e];have:=pick_run xs i k;rw[List.filterMap_map]at this;have e2:((λx=>xs[x]?)∘λx=>i+x)=λm=>xs[i+m]? :=rfl
 rw[e2]at this;rw[this]
theorem rE {t sl:cD}{items:Array cw}{vl vu:cw}{lo hi:Option Int}{Q:cg}(ht:IsTup s.heap t items) (hs:s.heap.IsSliceOf sl vl vu .none) (pl:IsPart vl lo) (pu:IsPart vu hi)
  (hw:¬ (g0 items.size 0 lo=0/\g0 items.size items.size hi=items.size))
  (h:Q (.ref s.heap.objs.size) {s with heap:=s.heap.push {cls:=.type "tuple",data:=.seq ((items.toList.drop (g0 items.size 0 lo)).take (g0 items.size items.size hi-g0 items.size 0 lo)).toArray}})
  (hsz:items.size<=sizeLine):wpAny (model prog w) A (getItem (.ref t) (.ref sl)) Q E s:=by
 have Eb:sizeOk (.seq ((items.toList.drop (g0 items.size 0 lo)).take (g0 items.size items.size hi-g0 items.size 0 lo)).toArray):=by
  show((items.toList.drop (g0 items.size 0 lo)).take (g0 items.size items.size hi-g0 items.size 0 lo)).toArray.size<=sizeLine;rw[aq,bJ,List.length_drop,aN];omega
 have hj:g0 items.size items.size hi<=items.size:=NM _ _ (au _) hi;obtain⟨os,NN,SX,QQ⟩:=id hs;have T7:s.TypeIs (.ref sl) "slice":=⟨os,NN,SX⟩;unfold getItem;try with_reducible refine bo ?_
 first|refine aa (aj ?_)|skip
 refine aa (wpAny_sequenceKey ht.typeIs (by decide) ?_)
 refine aa (wpAny_callSpecial?_slot (name:=Str.ofString "__getitem__") ht.typeIs PyProof.Rows.slot_tuple_getitem
  (bM PyProof.Rows.slot_tuple_getitem ht.typeIs entry_tuple_getitem ?_ (args_tuple_getitem _ _)))
 show wpAny _ _ (Builtin.Tuple.tupleItemsOf (.ref t)>>=_) _ _ s;refine aa (tupleItemsOf_ ht ?_);refine aa (wpAny_typeOf T7 ?_);rw[if_pos (by decide)]
 refine aa (m4 hs pl pu ?_);have Ye:¬ ((((g0 items.size 0 lo:Nat):Int)==0&&(1:Int)==1&&(g0 items.size items.size hi-g0 items.size 0 lo)==items.size)=true):=by
  intro q;rw[Bool.and_eq_true,Bool.and_eq_true]at q;have q1:((g0 items.size 0 lo:Nat):Int)=0:=eq_of_beq q.1.1;have q2:g0 items.size items.size hi-g0 items.size 0 lo=items.size:=eq_of_beq q.2;exact hw ⟨by omega,by omega⟩
 show wpAny _ _ (if(((g0 items.size 0 lo:Nat):Int)==0&&(1:Int)==1&&(g0 items.size items.size hi-g0 items.size 0 lo)==items.size)=true then _ else _) _ _ s
 rw[if_neg Ye,Hm]
 first
  |exact aa (m:=Builtin.Tuple.tupleExact _) (bR (aj ⟨_,rfl,aj h⟩) Eb)
  |exact aa (m:=Builtin.Tuple.tupleExact _) (bR (aa (aj (aj ⟨_,rfl,aj h⟩))) Eb)
  |exact aa (aa (m:=Builtin.Tuple.tupleExact _) (bR (aj (aj ⟨_,rfl,aj h⟩)) Eb))
  |exact aa (aa (m:=Builtin.Tuple.tupleExact _) (bR (aj ⟨_,rfl,aj h⟩) Eb))
end
end HT
namespace L2
open PySem PySem.Spec PyProof.Rows
noncomputable abbrev TO:=St->Hp->(Option Int->Hp->Prop)->Prop
def PO (X:Cx) (e:Option cE) (t:TO):Prop:=
 ∀(pins:ck) (s:cx) (σ:St) (H:Hp) (Q:Option Int->Hp->Prop),Inv X pins σ H s->t σ H Q->
  wpAny (model X.prog X.w) X.A (evalPart e X.env) (λu s'=>∃o H',Inv X pins σ H' s'/\IsPart u o/\Q o H') X.xe s
noncomputable def Ku:TO:=λ_ H Q=>Q none H
noncomputable def QR (t:TE):TO:=λσ H Q=>t σ H λx H1=>∃i,x=.int i/\Q (some i) H1
theorem intsAre_of {ns:cn}:∀{us:cv},Vals (ns.map V.int) us->IntsAre us ns:=by
 induction ns with
 |nil=>intro us r;rw[List.map_nil]at r;cases r;exact .nil
 |cons n ns ih=>
  intro us r;rw[aE]at r;cases r with
  |cons r1 r2=>
   obtain⟨t,e⟩:=r1;subst e;exact .cons n t (ih r2)
section
variable {X:Cx}{e:cE}{te:TE}{lo hi:Option cE}{tl th:TO}{pos p2:Pos}
theorem Kv:PO X none Ku:=by
 intro pins s σ H Q I h;rw[evalPart_none];exact aj ⟨none,H,I,.none,h⟩
theorem Kw (h:PE X e te):PO X (some e) (QR te):=by
 intro pins s σ H Q I hw;rw[evalPart_some];refine gS (h pins s σ H _ I hw) λu s1 ⟨x,H1,I1,r1,q1⟩=>?_
 obtain⟨i,rfl,q⟩:=q1;obtain⟨t,rfl⟩:=r1;exact⟨some i,H1,I1,.int i t,q⟩
def Mt (X:Cx) (r:V->Option Int->Option Int->Hp->VK->Prop):Prop:=
 ∀(pins:ck) (s:cx) (σ:St) (H:Hp) (x:V) (v vl vu:cw) (lo hi:Option Int) (sl:cD) (Q:VK),Inv X pins σ H s->RelV x v->s.heap.IsSliceOf sl vl vu .none->IsPart vl lo->IsPart vu hi->r x lo hi H Q->
  ∃T id,typeLookup (.type T) "__getitem__"=pure (some (.builtin id))/\s.TypeIs v T/\wpAny (model X.prog X.w) X.A (getItem v (.ref sl)) (EP X pins σ Q) X.xe s
theorem Mt.or {r r':V->Option Int->Option Int->Hp->VK->Prop}(h:Mt X r) (h':Mt X r'):Mt X (λx lo hi H Q=>r x lo hi H Q\/r' x lo hi H Q):=by
 intro pins s σ H x v vl vu lo hi sl Q I rx hs pl pu q;rcases q with q|q
 ·exact h pins s σ H x v vl vu lo hi sl Q I rx hs pl pu q
 ·exact h' pins s σ H x v vl vu lo hi sl Q I rx hs pl pu q
noncomputable def Yg (r:V->Option Int->Option Int->Hp->VK->Prop) (te:TE) (tl th:TO):TE:=λσ H Q=>te σ H λx H1=>tl σ H1 λl H2=>th σ H2 λu H3=>r x l u H3 Q
theorem Aw {r:V->Option Int->Option Int->Hp->VK->Prop}(hr:Mt X r) (he:PE X e te) (hl:PO X lo tl) (hu:PO X hi th):PE X (.Subscript e (.Slice lo hi none p2) pos) (Yg r te tl th):=by
 intro pins s σ H Q I h;refine Subscript_ (gS (he pins s σ H _ I h) λv s1 ⟨x,H1,I1,r1,q1⟩=>?_)
 refine wpAny_Slice (gS (hl pins s1 σ H1 _ I1 q1) λvl s2 ⟨l,H2,I2,pl,q2⟩=>gS (hu pins s2 σ H2 _ I2 q2) λvu s3 ⟨u,H3,I3,pu,q3⟩=>?_)
 rw[evalPart_none];refine aj ?_;have I4:Inv X pins σ H3 {s3 with heap:=s3.heap.push {cls:=.type "slice",data:=.fields #[vl,vu,.none]}}:=I3.kept (t':=s3.toks) λb ob q=>ag _ q
 obtain⟨T,id,hT,ht,hg⟩:=hr pins {s3 with heap:=s3.heap.push {cls:=.type "slice",data:=.fields #[vl,vu,.none]}} σ H3 x v vl vu l u s3.heap.objs.size Q I4 r1 (Heap.IsSliceOf.new ..) pl pu q3
 show wpAny (model X.prog X.w) X.A (subscriptTail e (.Slice lo hi none p2) v (.ref s3.heap.objs.size)) (EP X pins σ Q) X.xe {s3 with heap:=s3.heap.push {cls:=.type "slice",data:=.fields #[vl,vu,.none]}}
 exact tail_any (ops:=[.ref s3.heap.objs.size,v]) ht hT hg (by with_unfolding_all rfl)
noncomputable def Ax (xs:List V) (lo hi:Option Int):List V:=(xs.drop (HT.g0 xs.length 0 lo)).take (HT.g0 xs.length xs.length hi-HT.g0 xs.length 0 lo)
theorem uc (xs:List V) (lo hi:Option Int):(Ax xs lo hi).length<=xs.length:=by
 unfold Ax;rw[bJ,List.length_drop];omega
noncomputable def T8 (K:W.Frag):V->Option Int->Option Int->Hp->VK->Prop:=λx lo hi H Q=>∃a xs,x=.ref a/\iU K H a xs/\
 ¬ (HT.g0 xs.length 0 lo=0/\HT.g0 xs.length xs.length hi=xs.length)/\∀p,H p=none->Q (.ref p) (upd H p (.tup (Ax xs lo hi)))
theorem NO:Mt X (T8 X.K):=by
 intro pins s σ H x v vl vu lo hi sl Q I rx hs pl pu h;obtain⟨a,xs,rfl,hx,hw,q⟩:=h;cases rx;obtain⟨dg,r,ht,hz⟩:=I.tuple hx;have hlen:dg.toArray.size=xs.length:=by rw[aq];exact r.length.symm
 refine⟨"tuple",_,PyProof.Rows.slot_tuple_getitem.lookup,ht.typeIs,?_⟩;refine HT.rE ht hs pl pu (by rw[hlen];exact hw) ?_ (by rw[hlen];exact hz)
 rw[hlen];refine⟨.ref s.heap.objs.size,_,I.laid (t':=s.toks) (o:=.tup (Ax xs lo hi)) (λb ob q=>ag _ q) (au _) ?_,rfl,q _ (I.fP.fresh (au _))⟩
 exact⟨aB (uc xs lo hi) hz,_,(r.drop (HT.g0 xs.length 0 lo)).take (HT.g0 xs.length xs.length hi-HT.g0 xs.length 0 lo),IsTup.new _ _⟩
noncomputable def Mu (K:W.Frag):R2:=λx y H Q=>∃a b xs ys,x=.ref a/\y=.ref b/\iU K H a xs/\iU K H b ys/\xs≠[]/\xs.length+ys.length<=sizeLine/\
 (ys=[]->Q (.ref a) H)/\(ys≠[]->∀p,H p=none->Q (.ref p) (upd H p (.tup (xs++ys))))
theorem Vals.yR {xs:List V}{us:cv}(r:Vals xs us):us=[]↔xs=[]:=by
 cases r with
 |nil=>simp
 |cons _ _=>simp
theorem Kx:t9 X (binaryOp .Add) (Mu X.K):=by
 intro pins s σ H x y v u Q I rx ry h;obtain⟨a,b,xs,ys,rfl,rfl,ha,hb,hx,hz,q1,q2⟩:=h;cases rx;cases ry;obtain⟨dg,r1,p1,_⟩:=I.tuple ha;obtain⟨eX,r2,p2,_⟩:=I.tuple hb;refine HT.Kt p1 p2 (λz=>hx (r1.yR.mp z)) (λz=>⟨.ref a,H,I,rfl,q1 (r2.yR.mp z)⟩) (λz=>?_) (by rw[<-r1.length,<-r2.length];exact hz)
 refine⟨.ref s.heap.objs.size,_,I.laid (t':=s.toks) (o:=.tup (xs++ys)) (λb ob q=>ag _ q) (au _) ?_,rfl,q2 (λw=>z (r2.yR.mpr w)) _ (I.fP.fresh (au _))⟩
 exact⟨by rw[aQ];exact hz,_,r1.append r2,IsTup.new _ _⟩
end
end L2
namespace L2
open PySem PySem.Spec PyProof.Rows
noncomputable def rq (n:Nat) (i:Int):Option Nat:=if 0<=i then(if i<n then some i.toNat else none)else if -(n:Int)<=i then some (i+n).toNat else none
noncomputable def kD {α:Type}(xs:List α) (i:Int):Option α:=(rq xs.length i).bind λj=>xs[j]?
theorem Ky {n:Nat}{i:Int}{j:Nat}(h:rq n i=some j):seqIndex? i n=some j/\j<n/\-(n:Int)<=i/\i<n:=by
 unfold rq at h;by_cases h0:0<=i
 ·rw[if_pos h0]at h;by_cases h1:i<n
  ·rw[if_pos h1]at h;have e:i.toNat=j:=aS h;exact⟨by rw[seqIndex_of h0 h1,e],by omega,by omega,h1⟩
  ·rw[if_neg h1]at h;cases h
 ·rw[if_neg h0]at h;by_cases h1: -(n:Int)<=i
  ·rw[if_pos h1]at h;have e:(i+n).toNat=j:=aS h;exact⟨by rw[seqIndex_neg (by omega) h1,e],by omega,h1,by omega⟩
  ·rw[if_neg h1]at h;cases h
theorem yS {α:Type}{xs:List α}{i:Int}{v:α}(h:kD xs i=some v):∃j,seqIndex? i xs.length=some j/\xs[j]? =some v/\j<xs.length/\-(xs.length:Int)<=i/\i<xs.length:=by
 unfold kD at h;cases e:rq xs.length i with
 |none=>rw[e]at h;cases h
 |some j=>
  rw[e]at h;obtain⟨h1,h2,h3,h4⟩:=Ky e;exact⟨j,h1,h,h2,h3,h4⟩
def pX (b:cE):Prop:=∀o i,subscripted b false o i=operate [o,i] (getItem o i)
def Hn (X:Cx) (r:R2):Prop:=
 ∀(value slice:cE) (pins:ck) (s:cx) (σ:St) (H:Hp) (x y:V) (v u:cw) (Q:VK),Inv X pins σ H s->RelV x v->RelV y u->r x y H Q->
  subscripted slice false v u=operate [v,u] (getItem v u)->wpAny (model X.prog X.w) X.A (subscriptTail value slice v u) (EP X pins σ Q) X.xe s
def Yh (X:Cx) (id:String) (r:V->List V->Hp->VK->Prop):Prop:=
 ∀(pins:ck) (s:cx) (σ:St) (H:Hp) (x:V) (xs:List V) (v:cw) (us:cv) (Q:VK),Inv X pins σ H s->RelV x v->Vals xs us->r x xs H Q->
  wpAny (model X.prog X.w) X.A (call (.builtin id) (v::us)) (EP X pins σ Q) X.xe s
section
variable {X:Cx}{a b:cE}{ta tb:TE}{pos:Pos}
theorem Hn.or {r r':R2}(h:Hn X r) (h':Hn X r'):Hn X (λx y H Q=>r x y H Q\/r' x y H Q):=by
 intro value slice pins s σ H x y v u Q I rx ry q hs;rcases q with q|q
 ·exact h value slice pins s σ H x y v u Q I rx ry q hs
 ·exact h' value slice pins s σ H x y v u Q I rx ry q hs
theorem Mv {r:R2}(hr:Hn X r) (ha:PE X a ta) (hb:PE X b tb) (hs:pX b):PE X (.Subscript a b pos) (P0 r ta tb):=by
 intro pins s σ H Q I h;exact Subscript_ (NB ha hb I h λv u s2 x y H2 I2 rx ry q=>hr a b pins s2 σ H2 x y v u Q I2 rx ry q (hs _ _))
noncomputable def QS (K:W.Frag):R2:=λx y H Q=>∃p xs i v,x=.ref p/\y=.int i/\oF K H p xs/\kD xs i=some v/\Q v H
noncomputable def QT (K:W.Frag):R2:=λx y H Q=>∃p xs i v,x=.ref p/\y=.int i/\iU K H p xs/\kD xs i=some v/\Q v H
noncomputable def QU:R2:=λx y H Q=>∃z i c,x=.str z/\y=.int i/\z.length<=sizeLine/\kD z.cps.toList i=some c/\Q (.str ⟨#[c]⟩) H
theorem Kz:Hn X (QS X.K):=by
 intro value slice pins s σ H x y v u Q I rx ry h hs;obtain⟨p,xs,i,z,rfl,rfl,hq,he,q⟩:=h;cases rx;obtain⟨t,rfl⟩:=ry;obtain⟨dg,r,pl,hz⟩:=I.list hq;obtain⟨j,h1,h2,h3,h4,h5⟩:=yS he;obtain⟨w,ew,Ho⟩:=r.get h2;have hl:=r.length;have hn:=sS;have fin:EP X pins σ Q w s:=⟨z,H,I,Ho,q⟩;by_cases h0:0<=i
 ·have hj:i.toNat=j:=by
   rw[seqIndex_of h0 h5]at h1;exact aS h1
  exact item_listR pl.isList h0 (by omega) (by rw[hj];simpa using ew) fin hs
 ·have hj:(i+(dg.toArray.size:Int)).toNat=j:=by
   rw[seqIndex_neg (by omega) h4]at h1
   rw[aq,<-hl];exact aS h1
  exact subscriptTail_builtinR (x:=w) pl.isList.typeIs slot_list_getitem.lookup
   (wpAny_getItem_list_neg (Q:=λr s'=>r=w/\EP X pins σ Q r s') pl.isList (by omega) (by rw[aq]<;>omega) (by omega) (by rw[hj];simpa using ew) ⟨rfl,fin⟩) hs
theorem NP:Hn X (QT X.K):=by
 intro value slice pins s σ H x y v u Q I rx ry h hs;obtain⟨p,xs,i,z,rfl,rfl,hq,he,q⟩:=h;cases rx;obtain⟨t,rfl⟩:=ry;obtain⟨dg,r,pl,hz⟩:=I.tuple hq;obtain⟨j,h1,h2,h3,h4,h5⟩:=yS he;obtain⟨w,ew,Ho⟩:=r.get h2;have hl:=r.length;have hn:=sS;have fin:EP X pins σ Q w s:=⟨z,H,I,Ho,q⟩;exact subscriptTail_builtinR (x:=w) pl.typeIs slot_tuple_getitem.lookup
  (getItem_tuple (j:=j) (Q:=λr s'=>r=w/\EP X pins σ Q r s') pl (by omega) (by omega) (by rw[aq,<-hl];exact h1) (by simpa using ew) ⟨rfl,fin⟩) hs
theorem NQ:Hn X QU:=by
 intro value slice pins s σ H x y v u Q I rx ry h hs;obtain⟨z,i,c,rfl,rfl,hz,he,q⟩:=h;obtain⟨t,rfl⟩:=rx;obtain⟨t',rfl⟩:=ry;obtain⟨j,h1,h2,h3,h4,h5⟩:=yS he;have hl:z.cps.toList.length=z.length:=by simp[Str.length]
 rw[hl]at h1 h4 h5;have hn:=sS;exact tail_any (typeIs_str s z t) slot_str_getitem.lookup (getItem_str (c:=c) (by
  have e1:decide (i< -(2^63:Int))=false:=aG (by omega)
  have e2:decide (i ≥ 2^63)=false:=aG (by omega)
  rw[e1,e2,Bool.or_false]) (by rw[h1];simpa using h2) ⟨.str ⟨#[c]⟩,H,I.tok _,⟨_,rfl⟩,q⟩) hs
noncomputable def V4 (K:W.Frag):R2:=λx y H Q=>QS K x y H Q\/QT K x y H Q\/QU x y H Q
theorem NR:Hn X (V4 X.K):=Kz.or (NP.or NQ)
theorem yT (lo hi:Option Int) (n:Nat):(sliceBounds lo hi none n).1=((HT.g0 n 0 lo:Nat):Int)/\(sliceBounds lo hi none n).2.1=((HT.g0 n n hi:Nat):Int)/\(sliceBounds lo hi none n).2.2=1:=by
 refine⟨?_,?_,rfl⟩
 ·cases lo with
  |none=>simp[sliceBounds,HT.g0]
  |some i=>
   simp only[sliceBounds,HT.g0,Option.getD_none,show(1:Int)>0 by decide,if_true]
   by_cases h:i<0
   ·simp only[h,if_true]<;>omega
   ·simp only[h,bD]<;>omega
 ·cases hi with
  |none=>simp[sliceBounds,HT.g0]
  |some i=>
   simp only[sliceBounds,HT.g0,Option.getD_none,show(1:Int)>0 by decide,if_true]
   by_cases h:i<0
   ·simp only[h,if_true]<;>omega
   ·simp only[h,bD]<;>omega
theorem xm (dg:cv) (lo hi:Option Int):slicePick dg.toArray lo hi none=((dg.drop (HT.g0 dg.length 0 lo)).take (HT.g0 dg.length dg.length hi-HT.g0 dg.length 0 lo)).toArray:=by
 obtain⟨h1,h2,h3⟩:=yT lo hi dg.toArray.size;unfold slicePick;rw[h1,h2,h3];simp only[sliceRange_one,pick_run,aq]<;>rfl
noncomputable def T9 (K:W.Frag):V->Option Int->Option Int->Hp->VK->Prop:=λx lo hi H Q=>∃a xs,x=.ref a/\oF K H a xs/\∀p,H p=none->Q (.ref p) (upd H p (.lst (Ax xs lo hi)))
theorem KA:Mt X (T9 X.K):=by
 intro pins s σ H x v vl vu lo hi sl Q I rx hs pl pu h;obtain⟨a,xs,rfl,hx,q⟩:=h;cases rx;obtain⟨dg,r,ht,hz⟩:=I.list hx;have hlen:=r.length;refine⟨"list",_,slot_list_getitem.lookup,ht.isList.typeIs,?_⟩;refine wpAny_getItem_list_slice ht.isList hs pl pu .none (by simp) ?_ (by rw[aq]<;>omega)
 rw[xm,<-hlen];refine⟨.ref s.heap.objs.size,_,I.laid (t':=s.toks) (o:=.lst (Ax xs lo hi)) (λb ob q=>ag _ q) (au _) ?_,rfl,q _ (I.fP.fresh (au _))⟩
 exact⟨aB (uc xs lo hi) hz,_,0,(r.drop (HT.g0 xs.length 0 lo)).take (HT.g0 xs.length xs.length hi-HT.g0 xs.length 0 lo),ay _ rfl⟩
theorem yU:iV X (.builtin "len") (λxs H Q=>∃p ys,xs=[.ref p]/\(oF X.K H p ys\/iU X.K H p ys)/\Q (.int ys.length) H):=by
 intro pins s σ H xs us Q I r h;obtain⟨p,ys,rfl,hq,q⟩:=h;obtain⟨u,rfl,rx⟩:=vals1 r;cases rx;have hn:=sS;rcases hq with hq|hq
 ·obtain⟨dg,r',pl,hz⟩:=I.list hq;have hlen:=r'.length;exact Calls.call_len_list pl.isList (by simp only[aq]<;>omega) ⟨.int ys.length,H,I.tok _,⟨s.toks+1,by rw[aq,hlen]⟩,q⟩
 ·obtain⟨dg,r',pl,hz⟩:=I.tuple hq;have hlen:=r'.length;exact len_tuple pl (by simp only[aq]<;>omega) ⟨.int ys.length,H,I.tok _,⟨s.toks+1,by rw[aq,hlen]⟩,q⟩
theorem yV:iV X (.builtin "len") (λxs H Q=>∃z,xs=[.str z]/\z.length<=sizeLine/\Q (.int z.length) H):=by
 intro pins s σ H xs us Q I r h;obtain⟨z,rfl,hz,q⟩:=h;obtain⟨u,rfl,t,rfl⟩:=vals1 r;have hn:=sS;exact len_str (by omega) ⟨.int z.length,H,I.tok _,⟨_,rfl⟩,q⟩
theorem iV.or {f:cw}{r r':List V->Hp->VK->Prop}(h:iV X f r) (h':iV X f r'):iV X f (λxs H Q=>r xs H Q\/r' xs H Q):=by
 intro pins s σ H xs us Q I rs q;rcases q with q|q
 ·exact h pins s σ H xs us Q I rs q
 ·exact h' pins s σ H xs us Q I rs q
theorem qy:iV X (.type "tuple") (λxs H Q=>∃p ys,xs=[.ref p]/\((oF X.K H p ys/\∀l,H l=none->Q (.ref l) (upd H l (.tup ys)))\/(iU X.K H p ys/\Q (.ref p) H))):=by
 intro pins s σ H xs us Q I r h;obtain⟨p,ys,rfl,h⟩:=h;obtain⟨u,rfl,rx⟩:=vals1 r;cases rx;rcases h with⟨hq,q⟩|⟨hq,q⟩
 ·obtain⟨dg,r',pl,hz⟩:=I.list hq;have hlen:=r'.length;refine call_tuple_list pl.isList (λh' kp=>?_) (by simp only[aq]<;>omega)
  have I1:Inv X pins σ H {s with heap:=h'}:=I.kept (t':=s.toks) kp
  have I2:Inv X pins σ (upd H h'.objs.size (.tup ys)) {s with heap:=h'.push {cls:=.type "tuple",data:=.seq dg.toArray}}:=
   I1.laid (t':=s.toks) (λb o e=>ag _ e) (au _) (show g8 X.prog X.w _ _ _ (.tup ys)from⟨hz,dg,r',IsTup.new _ _⟩)
  exact⟨.ref h'.objs.size,_,I2,rfl,q _ (I1.fP.fresh (au _))⟩
 ·obtain⟨dg,r',pl,hz⟩:=I.tuple hq;exact call_tuple_same pl ⟨.ref p,H,I,rfl,q⟩
def V5 (K:W.Frag) (T:String) (x:V) (H:Hp):Prop:=match x with
 |.str _=>T="str"
 |.int _=>T="int"
 |.ref p=>(T="list"/\∃xs,oF K H p xs)\/(T="tuple"/\∃o,K.lookup p=some o/\o.cls=.type "tuple"/\o.dict=none)\/
   (T="dict"/\((∃kvs,H p=some (.dK kvs))\/∃kvs,H p=some (.dT kvs)))\/(T="set"/\∃S n,H p=some (.set S n))
 |_=>False
theorem NS {pins:ck}{σ:St}{H:Hp}{s:cx}{T:String}{x:V}{v:cw}(I:Inv X pins σ H s) (r:RelV x v) (ty:V5 X.K T x H):
  s.TypeIs v T/\∀a,v=.ref a->∃ob,s.heap.get? a=some ob/\ob.dict=none:=by
 cases x with
 |str z=>
  obtain⟨t,rfl⟩:=r;cases (show T="str" from ty)
  exact⟨typeIs_str s z t,λ_ e=>nomatch e⟩
 |int i=>
  obtain⟨t,rfl⟩:=r;cases (show T="int" from ty)
  exact⟨typeIs_int s i t,λ_ e=>nomatch e⟩
 |ref p=>
  cases r;rcases ty with⟨rfl,xs,hq⟩|⟨rfl,o,hk,hc,hd⟩|⟨rfl,hk⟩|⟨rfl,S,n,hk⟩
  ·obtain⟨dg,_,pl,_⟩:=I.list hq;refine⟨pl.isList.typeIs,λa e=>?_⟩
   cases e;obtain⟨o,n,e,c,hd,_⟩:=pl;exact⟨o,e,hd⟩
  ·refine⟨⟨o,I.Fb p o hk,hc⟩,λa e=>?_⟩
   cases e;exact⟨o,I.Fb _ o hk,hd⟩
  ·have z:∃o,s.heap.get? p=some o/\o.ExactDict:=by
    rcases hk with⟨kvs,hk⟩|⟨kvs,hk⟩
    ·obtain⟨_,_,_,_,o,_,_,e,ex,_⟩:=I.fP p _ hk;exact⟨o,e,ex⟩
    ·obtain⟨_,_,_,_,o,_,_,e,ex,_⟩:=I.fP p _ hk;exact⟨o,e,ex⟩
   obtain⟨o,e,ex⟩:=z;refine⟨⟨o,e,ex.1⟩,λa e2=>?_⟩
   cases e2;exact⟨o,e,ex.2.1⟩
  ·obtain⟨o,_,_,_,e,ex,_⟩:=I.fP p _ hk;refine⟨⟨o,e,ex.1⟩,λa e2=>?_⟩
   cases e2;exact⟨o,e,ex.2.1⟩
 |_=>exact False.elim ty
noncomputable def QV (K:W.Frag) (T:String) (r:V->List V->Hp->VK->Prop) (to:TE) (t:TA):TE:=λσ H Q=>to σ H λx H1=>V5 K T x H1/\t σ H1 λxs H2=>r x xs H2 Q
variable {o e:cE}{es:List cE}{to:TE}{t:TA}{name:Str}{apos dY:Pos}{T id:String}{r:V->List V->Hp->VK->Prop}
theorem Hq (pa:PlainAttrs T) (slot:Slot T name id) (Yi:typeOf (.builtin id)=pure (.type "method_descriptor")) (hm:Yh X id r) (ho:PE X o to) (ha:PA X (e::es) t)
  (oU:attributeBase o name X.env (eval o X.env)=eval o X.env:=by rfl)
  (vn:((backTo dY (starEach (e::es) X.env)).all (λx=> !x.1)&&(backToKw dY (keywordEach [] X.env)).all (λx=>x.1.isSome)
   &&decide ((e::es).length+([]:List Keyword).length+(if([]:List Keyword).isEmpty then 0 else 1)<30))=true:=by rfl)
  (oV:(apos.endLine==dY.line)=true:=by rfl) (hs:starEach (e::es) X.env=(false,eval e X.env)::starEach es X.env:=by rfl) (lM:(backTo dY (starEach es X.env)).any (·.1)=false:=by rfl):
  PE X (.Call (.Attribute o name apos) (e::es) [] dY) (QV X.K T r to t):=by
 intro pins s σ H Q I h;refine wpAny_Call_method_late oU vn oV rfl (gS (ho pins s σ H _ I h) λv s1 ⟨x,H1,I1,r1,ty,q1⟩=>?_)
 obtain⟨h1,h2⟩:=NS I1 r1 ty;refine⟨T,id,pa,slot,Yi,h1,h2,?_⟩;have hA:=ha dY pins s1 σ H1 _ I1 q1;rw[hs]at hA ⊢;refine Calls.callWith_builtin (by show(false||(backTo dY (starEach es X.env)).any (·.1))=false;rw[lM]<;>rfl) (Calls.evalArgs_plain ?_)
 exact gS hA λus s2 ⟨vs,H2,I2,r2,q2⟩=>hm pins s2 σ H2 x vs v us Q I2 r1 r2 q2
end
end L2
namespace L2
open PySem PySem.Spec PyProof.Rows
def V6 (X:Cx) (id:String) (r:V->List V->Hp->VK->Prop):Prop:=
 ∀(pins:ck) (s:cx) (σ:St) (H:Hp) (x:V) (xs:List V) (v:cw) (us:cv) (Q:VK),Inv X pins σ H s->RelV x v->Vals xs us->r x xs H Q->
  wpAny (model X.prog X.w) X.A (call (.builtin id) (v::us)) (EP X pins σ Q) X.xe s
theorem Vals.one:∀{x:V}{us:cv},Vals [x] us->∃u,us=[u]/\RelV x u
 |_,_,.cons r .nil=>⟨_,rfl,r⟩
theorem Vals.eraseIdx:∀{xs:List V}{us:cv}(i:Nat),Vals xs us->Vals (xs.eraseIdx i) (us.eraseIdx i)
 |_,_,_,.nil=>.nil
 |_,_,0,.cons _ t=>t
 |_,_,i+1,.cons r t=>.cons r (Vals.eraseIdx i t)
theorem Vals.rep {xs:List V}{us:cv}(h:Vals xs us):∀k:Nat,Vals (List.replicate k xs).flatten (List.replicate k us).flatten
 |0=>.nil
 |k+1=>by
  rw[List.replicate_succ,List.replicate_succ,List.flatten_cons,List.flatten_cons];exact Vals.append h (Vals.rep h k)
theorem pY {α:Type}:∀(l:List α) (i:Nat),(l.eraseIdx i).length<=l.length
 |[],_=>au _
 |_::_,0=>Nat.le_succ _
 |_::r,i+1=>Nat.succ_le_succ (pY r i)
theorem foldl_rep (dg:cv):∀(k:Nat) (acc:cv),
  List.foldl (λx1 x2=>x1++x2) acc.toArray (List.replicate k dg.toArray)=(acc++(List.replicate k dg).flatten).toArray
 |0,acc=>by simp
 |k+1,acc=>by
  have e:acc.toArray++dg.toArray=(acc++dg).toArray:=by simp
  have e2:(acc++dg)++(List.replicate k dg).flatten=acc++(List.replicate (k+1) dg).flatten:=by
   rw[List.replicate_succ,List.flatten_cons,List.append_assoc]
  rw[<-e2,<-foldl_rep dg k (acc++dg),<-e,List.replicate_succ,List.foldl_cons]
section
variable {X:Cx}{pins:ck}{σ:St}{H:Hp}{s:cx}{l b:cD}{xs ys zs:List V}
theorem Inv.QW {dg its':cv}{n:Nat}{f:Array cw->Array cw}{t':Nat}(I:Inv X pins σ H s) (hH:H l=some (.lst xs))
  (e:s.heap.get? l=some {cls:=.type "list",data:=.seq dg.toArray n}) (hf:f dg.toArray=its'.toArray) (hv:Vals ys its') (hz:ys.length<=sizeLine):
  Inv X pins σ (upd H l (.lst ys)) {s with heap:=s.heap.update l (Obj.mapSeq f),toks:=t'}:=by
 have q:=PySem.IsL.update e f;rw[hf]at q;refine I.write (x:=l) (e:=l) (by rw[hH];exact trivial) (.inl rfl) (λb' u hb hu=>(bx s.heap (Obj.mapSeq f) (Ne.symm hb)).trans hu) ⟨_,q⟩ ?_
 exact⟨hz,its',_,hv,q⟩
theorem Inv.QX {dg:cv}{t':Nat}(I:Inv X pins σ H s) (hv:Vals ys dg) (hz:ys.length<=sizeLine):
  Inv X pins σ (upd H s.heap.objs.size (.lst ys)) {s with heap:=s.heap.push {cls:=.type "list",data:=.seq dg.toArray},toks:=t'}:=
 I.laid (λ_ _ q=>ag _ q) (au _) ⟨hz,dg,0,hv,ay _ rfl⟩
theorem Inv.fresh (I:Inv X pins σ H s):H s.heap.objs.size=none:=I.fP.fresh (au _)
theorem Inv.QY (I:Inv X pins σ H s) (hH:H l=some (.lst xs)):xs.length<=sizeLine/\∃(dg:cv) (n:Nat),Vals xs dg/\xs.length=dg.length/\s.heap.get? l=some {cls:=.type "list",data:=.seq dg.toArray n}:=by
 obtain⟨z,dg,n,r,e⟩:=I.fP l _ hH;exact⟨z,dg,n,r,r.length,e⟩
theorem Hr {n:Nat}(h:n<=sizeLine):Builtin.List.listTooLong n=false:=by
 unfold Builtin.List.listTooLong;exact aG (by omega)
end
section
variable {X:Cx}
noncomputable def Ec:V->List V->Hp->VK->Prop:=λx vs H Q=>∃l xs y,x=.ref l/\vs=[y]/\H l=some (.lst xs)/\xs.length<sizeLine/\Q .fN (upd H l (.lst (xs++[y])))
theorem xU:V6 X "list.append" Ec:=by
 intro pins s σ H x vs v us Q I rx rv h;obtain⟨l,xs,y,rfl,rfl,hH,hz,q⟩:=h;cases rx;obtain⟨u,rfl,ru⟩:=rv.one;obtain⟨z,dg,n,r,hl,e⟩:=I.QY hH;refine call_meets F.slot_list_append ⟨_,e,rfl⟩ F.entry_list_append (F.args_list_append_2 _ _) (PySem.list_append l dg.toArray n u (by rw[aq];omega)) ⟨e,?_⟩
 refine⟨.fN,_,I.QW (its':=dg++[u]) hH e (by simp) (r.append (.cons ru .nil)) ?_,rfl,q⟩
 rw[aQ,List.length_singleton];omega
noncomputable def yW:V->List V->Hp->VK->Prop:=λx vs H Q=>∃l xs i k y,x=.ref l/\vs=[.int i]/\H l=some (.lst xs)/\-(2^63)<=i/\i<2^63/\seqIndex? i xs.length=some k/\xs[k]? =some y/\Q y (upd H l (.lst (xs.eraseIdx k)))
theorem Ay:V6 X "list.pop" yW:=by
 intro pins s σ H x vs v us Q I rx rv h;obtain⟨l,xs,i,k,y,rfl,rfl,hH,h1,h2,hk,hy,q⟩:=h;cases rx;obtain⟨u,rfl,ru⟩:=rv.one;obtain⟨t,rfl⟩:=ru;obtain⟨z,dg,n,r,hl,e⟩:=I.QY hH;obtain⟨w,hw,Ho⟩:=r.get hy;refine call_meets F.slot_list_pop ⟨_,e,rfl⟩ F.entry_list_pop (F.args_list_pop_2 _ _)
  (MeetsSeq.list_pop_at l dg.toArray n i t k w (fitsIndex_both h1 h2) (by rw[aq,<-hl];exact hk) (by rw[<-Array.getElem?_toList];exact hw) (by rw[aq];omega)) ⟨e,?_⟩
 refine⟨y,_,I.QW (its':=dg.eraseIdx k) hH e ?_ (r.eraseIdx k) ?_,Ho,q⟩
 ·show dg.toArray.eraseIdxIfInBounds k=(dg.eraseIdx k).toArray;rw[List.eraseIdxIfInBounds_toArray]
 ·have:=pY xs k;omega
theorem len_rep {α:Type}(xs:List α) (k:Nat):(List.replicate k xs).flatten.length=k*xs.length:=by
 induction k with
 |zero=>simp
 |succ k ih=>rw[List.replicate_succ,List.flatten_cons,aQ,ih,Nat.succ_mul,Nat.add_comm]
end
section
variable {prog:cz}{w:cA}{A:cB}{E:cg}{s:cx}
end
section
variable {X:Cx}
end
end L2
namespace V7
open PySem PySem.W PySem.Calls PyProof.Rows
theorem uB {P:Params}{h:Heap}:∀(ns:cn) (vs:cv),WellAll P h vs (ns.map WData.int)->IntsAre vs ns:=by
 intro ns;induction ns with
 |nil=>
  intro vs w;rw[List.map_nil]at w;cases w;exact .nil
 |cons n ns ih=>
  intro vs w;rw[aE]at w;cases w with
  |cons a b=>
   cases a;exact .cons _ _ (ih _ b)
theorem Fq {l:OpenLaw}{n:Nat}(hn:l.most=some n) {P:Params}{h:Heap}{args:List WData}{vals:cv}
  (KC:l.row.toRowW.claim.pre args=true) (Ua:WellAll P h vals args):
  ∃a vs ns,vals=[Value.ref a]/\args=[WData.list (ns.map WData.int)]/\h.get? a=some {cls:=.type "list",data:=.seq vs.toArray}/\IntsAre vs ns/\ns.length<=n:=by
 have Yj:WShape.hasAll [] args [.list .int]=true:=(pre_splitW KC).1;have hc:l.pre.holds [] {args:=args}=true:=(pre_splitW KC).2;obtain⟨d,r,rfl,h1,h2⟩:=hasAllW_cons Yj;obtain rfl:=hasAllW_nil h2;obtain⟨xs,rfl,h3⟩:=hasW_list h1;obtain⟨ns,rfl⟩:=items_int h3;have hlen:ns.length<=n:=by
  unfold OpenLaw.pre at hc;have h4:(WTm.not (.lt (.lit (.int (n:Int))) (.len (.arg 0)))).holds [] {args:=[.list (ns.map .int)]}=true:=by
   have h4:=(holds_andW hc).1;rw[hn]at h4;exact h4
  have h5:=condW_of h4 (w_not (w_lt w_lit (w_len_list (w_arg rfl))));rw[ae]at h5;refine Nat.le_of_not_lt λq=>?_
  have q':(n:Int)<((ns.length:Nat):Int):=by omega
  first
   |(rw[aR q']at h5;exact absurd h5 (by decide))
   |(simp at h5;omega)
 cases Ua with
 |cons w1 w2=>
  cases w2;cases w1 with
  |list ho vo=>exact⟨_,_,ns,rfl,rfl,ho,uB ns _ vo,hlen⟩
theorem Fs (l:OpenLaw) (args:List WData):l.row.toRowW.claim.post args (.bool true) args=true:=
 postW_of (r:=l.row.toRowW) (X:=(true==true))
  (show WShape.has [] (.bool true) .bool=true by first|rfl|decide|simp[WShape.has,WShape.arms,WShape.armsAll])
  (show(WTm.eq .res (.lit (.bool true))).value [] {args:=args,res:=some (.bool true),after:=args}=some (.bool (true==true))from w_eq_bool (w_res rfl) w_lit) rfl
theorem Az {l:OpenLaw}{n:Nat}{q:cz}{loose:List Str}{XP:(cj)->Heap->Prop}{YP:cA->Heap->Prop}{d:DefRec}
  (hn:l.most=some n) (QZ:d.params.defaults=[])
  (call:∀(w:cA) (s₀ s₁:cx) (mg mb:cj) (fa:cD) (o:Obj) (pm cd doc:cw) (a:cD) (vs:cv) (ns:cn),
   Ground q loose [] XP w s₀ mg mb s₁.heap->YP w s₁.heap->
   s₁.heap.get? fa=some o->o.data=.func (docDef d.name d.params d.body d.scope pm cd doc)->s₁.heap.CodeRec cd d.name->mg d.name=some (.ref fa)->
   s₁.heap.get? a=some {cls:=.type "list",data:=.seq vs.toArray}->IntsAre vs ns->ns.length<=n->s₁.gens=#[]->
   codeAny (model l.prog w) callerA (.call (.ref fa) ⟨[.ref a],[]⟩) (λr s'=>r=.ok (.ret (.bool true))/\OldK s₁.heap s'.heap/\s'.os=s₁.os/\AllBare s'.gens) s₁):
  WalkO q loose XP YP l.row.toRowW d [] (λf vs=>PySem.call f vs):=by
 intro w s₀ s₁ mg mb G Y fa o pm cd doc dV kV ho hd xj hD NT hg args vals as KC NU hrd Ua Q0;obtain rfl:dV=.none:=Dflts.none hD QZ;obtain rfl:kV=.none:=Dflts.noKw hD;obtain⟨a,vs,ns,rfl,rfl,NV,hints,hlen⟩:=Fq hn KC Ua;refine enter_call (codeAny_mono (call w s₀ s₁ mg mb fa o pm cd doc a vs ns G Y ho (fd_plain hd) xj NT NV hints hlen hg) λr s' hq=>?_)
 obtain⟨rfl,h2,h3,h4⟩:=hq;exact⟨.inl ⟨.bool true,.bool true,[],rfl,λ_=>rfl,.bool true,Fs l _,λ_=>⟨List.Pairwise.nil,λ_ hm=>(nomatch hm)⟩⟩,h2,h3,h4⟩
section
variable {prog:cz}{w:cA}{A:cB}{E:cg}{s:cx}{K:Frag}
end
end V7
namespace L2
open PySem PySem.Spec PyProof.Rows
theorem m6:∀{vs:cv}{ns:cn},IntsAre vs ns->Vals (ns.map V.int) vs
 |_,_,.nil=>.nil
 |_,_,.cons n t h=>.cons ⟨t,rfl⟩ (m6 h)
end L2
namespace L2
open PySem PySem.Spec PyProof.Rows
end L2
namespace L2
open PySem PySem.Spec PyProof.Rows
noncomputable def inClass (s:cF) (j:Nat):cF:=match s with
 |.ClassDef _ _ _ body _ _ _ _ _ _ _=>body.getD j (.Pass ⟨0,0,0,0⟩)
 |_=>.Pass ⟨0,0,0,0⟩
noncomputable def dJ (s:cF):Arguments:=match s with
 |.FunctionDef _ a _ _ _ _ _ _ _ _=>a
 |_=>{posonlyargs:=[],args:=[],vararg:=none,kwonlyargs:=[],kw_defaults:=[],kwarg:=none,defaults:=[]}
noncomputable def dv (s:cF):List cF:=match s with
 |.FunctionDef _ _ b _ _ _ _ _ _ _=>b
 |_=>[]
noncomputable def cM (s:cF):Scope:=match s with
 |.FunctionDef _ _ _ _ _ _ sc _ _ _=>sc
 |_=>{kind:=.function,names:=[],isGenerator:=false,isCoroutine:=false}
noncomputable abbrev ju:Fo:=λ_ _ _ _ _ _=>False
noncomputable abbrev E0:XK:=λ_ _ _=>False
theorem Ed {X:Cx}:Passes ju X E0:=λ_ _ _ _ _ _ _ h=>h.elim
structure nF (K:W.Frag) (x qual:Str) (st:cF) (f:cD) (fd:cy):Prop where
 ex:∃(oc:cw) (od:cp) (kV doc pm:cw) (an:cp) (gk ct:cw) (Ks:cq),
  fd=W.fnOf x qual (dJ st) (dv st) (cM st) .none kV doc pm an gk ct/\K.lookup f=some ⟨oc,od,.func fd,Ks⟩/\W.codeIn K gk qual=true
 kp:W.keepIn K (.ref f)=true
section
variable {P:cz}{w:cA}{K:W.Frag}{mg:cj}{base:Heap}
theorem nF.ok {x qual:Str}{st:cF}{f:cD}{fd:cy}{N ps:List Str}{k:Nat}{sp:Sp}(F:nF K x qual st f fd) (S:dB N ps (cM st)) (len:∀vs H Q E,sp vs H Q E->vs.length=ps.length)
  (kC:∀(gk:cw) (A:cB) (outer:List Env) (s:cx) (H:Hp) (vs:List V) (Q:VK) (E:XK),gr k (A.deeper (envOfC qual (cM st) s.heap.objs.size f gk))->sp vs H Q E->
   ∃t,xP (qQ ju P w K mg base N qual (cM st) f gk A outer s H E).D3 (dv st) t/\t {nx:=λ_ H'=>Q .fN H',rt:=Q} (start N vs) H):eJ P w K mg base ju (k+1) f fd ps sp:=by
 obtain⟨oc,od,kV,doc,pm,an,gk,ct,Ks,rfl,lk,xj⟩:=F.ex;refine Ms lk xj S len λA outer s H vs Q E hr J3=>?_
 obtain⟨t,h,q⟩:=kC gk A outer s H vs Q E hr J3;exact⟨t,h.D3,q⟩
theorem nF.binds {x qual:Str}{st:cF}{f:cD}{fd:cy}{ps:List Str}(F:nF K x qual st f fd)
  (h:∀(kV doc pm:cw) (an:cp) (gk ct:cw) (us:cv),us.length=ps.length->bindArgs (W.fnOf x qual (dJ st) (dv st) (cM st) .none kV doc pm an gk ct) ⟨us,[]⟩=pure (ps.zip us)):Binds K fd ps []:=by
 obtain⟨oc,od,kV,doc,pm,an,gk,ct,Ks,rfl,lk,xj⟩:=F.ex;exact .all (h kV doc pm an gk ct)
theorem eP {x qual:Str}{st:cF}{f:cD}{oc:cw}{od an:cp}{Ks:cq}{kV doc pm gk ct:cw}(l:K.lookup f=some ⟨oc,od,.func (W.fnOf x qual (dJ st) (dv st) (cM st) .none kV doc pm an gk ct),Ks⟩)
  (c:W.codeIn K gk qual=true) (k:W.keepIn K (.ref f)=true):nF K x qual st f (W.fnOf x qual (dJ st) (dv st) (cM st) .none kV doc pm an gk ct):=⟨⟨oc,od,kV,doc,pm,an,gk,ct,Ks,rfl,l,c⟩,k⟩
end
theorem jR {n:Nat}(h:n<=1000):n<sizeLine:=Nat.lt_of_le_of_lt h (by decide)
section
variable {X:Cx}
theorem pv (i:Nat) {x:Str}{pos:Pos}(hN:X.N[i]? =some x:=by rfl) (hv:PV X.env.scope x:=by first|exact Or.inl rfl|exact Or.inr (Or.inl rfl)|exact Or.inr (Or.inr rfl)) (hd:(x==("__debug__":Str))=false:=by decide)
  (xj:(x==("__classdict__":Str))=false:=by decide):PE X (.Name x pos) (ir i):=B8 hN hv hd xj
end
theorem Ft {A B:Prop}(h:B):if false=true then A else B:=by
 rw[if_neg aZ];exact h
theorem AA {A B:Prop}(h:A):if true=true then A else B:=by
 rw[if_pos rfl];exact h
def dR (H H':Hp):Prop:=∀b o,H b=some o->H' b=some o
theorem dR.refl (H:Hp):dR H H:=λ_ _ h=>h
theorem dR.trans {H H1 H2:Hp}(a:dR H H1) (b:dR H1 H2):dR H H2:=λc o h=>b c o (a c o h)
theorem dR.free {H H':Hp}(e:dR H H') {l:cD}(h:H' l=Option.none):H l=Option.none:=by
 cases q:H l with
 |none=>rfl
 |some o=>
  rw[e l o q]at h;cases h
end L2
namespace L2
open PySem PySem.Spec PyProof.Rows
noncomputable def sV (K:W.Frag):List (cD×Array cw):=ux.filterMap λ(t:Str×Pos×Str)=>(W.tabIn K t.1).map λq=>(q.2,xg t.2.1 t.2.2)
theorem KD {K:W.Frag}{b:cD}{ps:Array cw}(h:(b,ps)∈sV K):∃x c pos qual,(x,pos,qual)∈ux/\W.tabIn K x=some (c,b)/\ps=xg pos qual:=by
 obtain⟨⟨x,pos,qual⟩,hm,he⟩:=List.mem_filterMap.mp h;cases ht:W.tabIn K x with
 |none=>rw[show W.tabIn K (x,pos,qual).1=none from ht]at he;cases he
 |some q=>
  obtain⟨c,P⟩:=q;rw[show W.tabIn K (x,pos,qual).1=some (c,P)from ht]at he
  cases he;exact⟨x,c,pos,qual,hm,ht,rfl⟩
theorem Hs {K:W.Frag}{x:Str}{c b:cD}{pos:Pos}{qual:Str}(hm:(x,pos,qual)∈ux) (ht:W.tabIn K x=some (c,b)):(b,xg pos qual)∈sV K:=
 List.mem_filterMap.mpr ⟨(x,pos,qual),hm,by show(W.tabIn K x).map _=_;rw[ht];rfl⟩
theorem rF {α:Type}:∀{l:List (cD×α)}{b:cD}{v:α},(l.map (·.1)).Nodup->(b,v)∈l->l.lookup b=some v
 |[],_,_,_,h=>by cases h
 |(c,u)::r,b,v,nd,h=>by
  rw[aE,List.nodup_cons]at nd;rcases List.mem_cons.mp h with e|h
  ·cases e;simp[bq]
  ·have jr:b≠c:=λz=>nd.1 (by rw[<-z];exact List.mem_map_of_mem (f:=(·.1)) h)
   have hb:(b==c)=false:=by simpa using jr
   rw[bq,hb];exact rF nd.2 h
theorem ud {α:Type}:∀{l:List (cD×α)}{b:cD}{v:α},l.lookup b=some v->(b,v)∈l
 |[],_,_,h=>by cases h
 |(c,u)::r,b,v,h=>by
  by_cases e:b=c
  ·subst e;simp only[bq,bN,Option.some.injEq]at h;subst h;exact af
  ·have hb:(b==c)=false:=by simpa using e
   simp only[bq,hb]at h;exact ai _ (ud h)
noncomputable def tabsOk (K:W.Frag):Bool:=W.noTabs K&&decide ((sV K).map (·.1)).Nodup
theorem Fu {P:cz}{w:cA}{K:W.Frag}{mg mb:cj}{CX:Fo}{k:Nat}{fa a:cD}{fd:cy}{x:Str}{sp:Sp}{s₁:cx}{vs:cv}{ns:cn}
  (KX:K.In s₁.heap) (KG:s₁.heap.Ns mainGlobals mg) (hb:s₁.heap.Ns builtinsNs mb) (V8:∀x:Str,x≠"__name__"->mb x=bootBuiltins x) (NW:s₁.heap.NoLimit) (hg:s₁.gens=#[])
  (ha:s₁.heap.get? a=some {cls:=.type "list",data:=.seq vs.toArray}) (hi:IntsAre vs ns) (hl:ns.length<=sizeLine) (hr:gr k callerA)
  (Ub:tabsOk K=true) (hT:∀x c Pt pos qual,(x,pos,qual)∈ux->W.tabIn K x=some (c,Pt)->W.CodeHd s₁.heap c Pt/\s₁.heap.get? Pt=some (W.tabObj #[]))
  (Yk:∃bm ob,mg "__builtins__"=some (.ref bm)/\bm≠builtinsNs/\s₁.heap.get? bm=some ob/\ob.cls=.type "module"/\ob.dict=some builtinsNs/\ob.data=.plain)
  (F:∀base:Heap,K.In base->base.Ns mainGlobals mg->eJ P w K mg base CX k fa fd [x] sp) (Q1:∀(s:cx) (u:cw),BindsTo s fd ⟨[u],[]⟩ [(x,u)])
  (J3:∀H:Hp,oF K H a (ns.map V.int)->sp [.ref a] H (λv _=>v=.bl true) λ_ _ _=>False)
  (Uc:∀H e s',CX [] H s₁ (λ_ _ _=>False) e s'->False):
  codeAny (model P w) callerA (.call (.ref fa) ⟨[.ref a],[]⟩) (λr s'=>r=.ok (.ret (.bool true))/\OldK s₁.heap s'.heap/\s'.os=s₁.os/\AllBare s'.gens) s₁:=by
 have rv:=m6 hi;have Ud:=hi.length;obtain⟨P5,Q2⟩:=Bool.and_eq_true_iff.mp Ub;have J5:((sV K).map (·.1)).Nodup:=bK Q2
 have atT:∀{b:cD}{ps:Array cw},(sV K).lookup b=some ps->∃c pos qual,ps=xg pos qual/\W.CodeHd s₁.heap c b/\s₁.heap.get? b=some (W.tabObj #[]):=λ{b ps} h=>by
  obtain⟨x,c,pos,qual,hm,ht,e⟩:=KD (ud h);exact⟨c,pos,qual,e,hT x c b pos qual hm ht⟩
 have core:∀H0:Hp,(∀b u,H0 b=some u->b=a/\K.lookup a=none/\u=.B2 {cls:=.type "list",data:=.seq vs.toArray} (.lst (ns.map V.int)))->oF K H0 a (ns.map V.int)->
   codeAny (model P w) callerA (.call (.ref fa) ⟨[.ref a],[]⟩) (λr s'=>r=.ok (.ret (.bool true))/\OldK s₁.heap s'.heap/\s'.os=s₁.os/\AllBare s'.gens) s₁:=by
  intro H0 h0 Yl;have hex:∃H:Hp,(∀b u,H0 b=some u->H b=some u)/\(∀b ps,(sV K).lookup b=some ps->H b=some (.B7 ps))/\∀b u,H b=some u->(b=a/\K.lookup a=none/\u=.B2 {cls:=.type "list",data:=.seq vs.toArray} (.lst (ns.map V.int)))\/∃ps,(sV K).lookup b=some ps/\u=.B7 ps:=by
   refine⟨λb=>match(sV K).lookup b with|some ps=>some (HO.B7 ps)|none=>H0 b,λb u e=>?_,λb ps e=>?_,λb u e=>?_⟩
   ·show(match(sV K).lookup b with|some ps=>some (HO.B7 ps)|none=>H0 b)=_
    cases q:(sV K).lookup b with
    |none=>exact e
    |some ps=>
     obtain⟨c,pos,qual,_,_,e2⟩:=atT q;obtain⟨rfl,_⟩:=h0 b u e;rw[ha]at e2;cases e2
   ·show(match(sV K).lookup b with|some ps=>some (HO.B7 ps)|none=>H0 b)=_
    rw[e]
   ·have e':(match(sV K).lookup b with|some ps=>some (HO.B7 ps)|none=>H0 b)=some u:=e
    cases q:(sV K).lookup b with
    |none=>
     rw[q]at e';exact .inl (h0 b u e')
    |some ps=>
     rw[q]at e';cases e';exact .inr ⟨ps,rfl,rfl⟩
  obtain⟨H,up,ut,uo⟩:=hex;have hS:oF K H a (ns.map V.int):=by
   rcases Yl with h|h
   ·rcases h with h|⟨o,h⟩
    ·exact .inl (.inl (up _ _ h))
    ·exact .inl (.inr ⟨o,up _ _ h⟩)
   ·exact .inr h
  have fP:qw P w H s₁.heap:=λb u e=>by
   rcases uo b u e with⟨rfl,_,rfl⟩|⟨ps,q,rfl⟩
   ·exact⟨ha,by rw[ae];exact hl,vs,_,rv,ha⟩
   ·obtain⟨c,pos,qual,rfl,_,e2⟩:=atT q;exact⟨#[],e2,trivial,pos,qual,#[],by simp,.inl rfl⟩
  have uS:∀{b:cD}{o:Obj},s₁.heap.get? b=some o->H b=none->(xi s₁.heap H).get? b=some o:=λe n=>GZ e n
  have QM:∀{b:cD}{o:Obj}{es:Array DictEntry}{ep:Nat},s₁.heap.get? b=some o->o.data=.dict es ep->H b=none:=λ{b o es ep} e d=>by
   cases q:H b with
   |none=>rfl
   |some u=>
    rcases uo b u q with⟨rfl,_,_⟩|⟨ps,q2,_⟩
    ·rw[ha]at e;cases e;have d':Data.seq vs.toArray _=Data.dict es ep:=d;cases d'
    ·obtain⟨c,pos,qual,_,_,e2⟩:=atT q2;rw[e]at e2;cases e2;cases d
  have SY:∀{b:cD}{m:cj},s₁.heap.Ns b m->(xi s₁.heap H).Ns b m:=λ{b m} ⟨o,es,ep,e,d,r⟩=>⟨o,es,ep,uS e (QM e d),d,r⟩
  have V9:K.In (xi s₁.heap H):=λb o e=>uS (KX b o e) (by
   cases q:H b with
   |none=>rfl
   |some u=>
    rcases uo b u q with⟨rfl,hk,_⟩|⟨ps,q2,_⟩
    ·rw[hk]at e;cases e
    ·obtain⟨c,pos,qual,_,_,e2⟩:=atT q2;rw[KX b o e]at e2;cases e2;have h2:=List.all_eq_true.mp P5 (b,W.tabObj #[]) (W.mem_of_lookupK e);exact absurd (show false=true from h2) aZ)
  have hM:Mod K mg (xi s₁.heap H):=⟨V9,SY KG,⟨mb,SY hb,V8⟩,let ⟨mc,h1,h2⟩:=NW;⟨mc,SY h1,h2⟩⟩;have Wa:∀{b:cD}{o:Obj}{T:String},s₁.heap.get? b=some o->o.cls=.type T->T≠"list"->H b=none:=λ{b o T} e d nl=>by
   cases q:H b with
   |none=>rfl
   |some u=>
    rcases uo b u q with⟨rfl,_,_⟩|⟨ps,q2,_⟩
    ·rw[ha]at e;cases e;injection (show Value.type "list"=Value.type T from d)with d'
     exact absurd d'.symm nl
    ·obtain⟨c,pos,qual,_,_,e2⟩:=atT q2;rw[e]at e2;cases e2;cases d
  have S0:E8 K mg (xi s₁.heap H) H:=λx c Pt pos qual hm ht=>by
   obtain⟨hC,hP⟩:=hT x c Pt pos qual hm ht;obtain⟨o,Ym,file,tf,flags,tg,Yn,text,tt,c1,c2,c3⟩:=hC;obtain⟨bm,ob,b1,b2,b3,b4,b5,b6⟩:=Yk;refine⟨⟨#[],by rw[ut Pt _ (rF J5 (Hs hm ht))];simp⟩,⟨o,Ym,file,tf,flags,tg,Yn,text,tt,uS c1 (Wa c1 c2 (by decide)),c2,c3⟩,bm,ob,b1,b2,λz=>?_,λz=>?_,uS b3 (Wa b3 b4 (by decide)),b4,b5,b6⟩
   ·obtain⟨og,es,ep,e,hd,_⟩:=KG;rw[z,e]at b3;cases b3;rw[hd]at b6;cases b6
   ·rw[z,hP]at b3;cases b3;cases b4
  have e0:Cr P w K mg (xi s₁.heap H) callerA [] s₁ H:=⟨rfl,hM,λb o e=>J9 e,Nat.le_of_eq (E9 _ _),trivial,λb hb=>absurd (show b∈([]:List cD)from hb) (by simp),fP,.of_eq hg,S0⟩
  refine codeAny_mono ((F _ V9 (SY KG)).run callerA [] s₁ H ⟨[.ref a],[]⟩ [.ref a] [.ref a] _ _ hr e0 (Q1 s₁ (.ref a)) (.cons rfl .nil) (J3 H hS)) λr s' h=>?_
  cases r with
  |error e=>exact(Uc H e s' h).elim
  |ok fl=>
   cases fl with
   |next=>exact False.elim h
   |brk=>exact False.elim h
   |cont=>exact False.elim h
   |ret u=>
    obtain⟨v,H',os,bare,un,Q3,r',q⟩:=h;have q':v=.bl true:=q;subst q';obtain rfl:u=Value.bool true:=r';refine⟨rfl,⟨λb o e=>?_,λb o e=>un.there b o e (by simp)⟩,os,bare⟩
    cases q:H b with
    |none=>exact .inl (un.keep b o e q (by intro z;exact absurd (show b∈([]:List cD)from z) (by simp)) (by simp))
    |some u=>
     rcases uo b u q with⟨_,_,rfl⟩|⟨ps,q2,rfl⟩
     ·have z2:=un.yK b _ _ q;obtain⟨e1,_⟩:=fP b _ q;obtain⟨e2,_⟩:=Q3 b _ z2;rw[e]at e1;cases e1;exact .inl e2
     ·obtain⟨c,pos,qual,_,hC,e2⟩:=atT q2;obtain⟨more,e3⟩:=un.xh b _ q;obtain⟨qs,e4,_⟩:=(show xM H' s'.heap b (ps++more)from Q3 b _ e3)
      rw[e]at e2;cases e2;exact .inr (.inl ⟨(hC.tab e).isCodeTable,rfl,#[],qs,rfl,by rw[e4];simp⟩)
 cases hk:K.lookup a with
 |some o=>
  have e:=KX a o hk;rw[ha]at e;cases e;exact core (λ_=>none) (λb u z=>by cases z) (.inr ⟨_,vs.toArray,_,hk,rfl,rfl,rfl,by rw[aq,Ud];exact hl,by simpa using rv⟩)
 |none=>
  refine core (λb=>if b=a then some (.B2 {cls:=.type "list",data:=.seq vs.toArray} (.lst (ns.map V.int)))else none) (λb u z=>?_) (.inl (.inr ⟨{cls:=.type "list",data:=.seq vs.toArray},if_pos rfl⟩))
  by_cases hb:b=a
  ·have z':=(if_pos hb).symm.trans z;cases z';exact⟨hb,hk,rfl⟩
  ·have z':=(if_neg hb).symm.trans z;cases z'
theorem KH {l:W.OpenLaw}{n k:Nat}{q:cz}{loose:List Str}{XP:(cj)->Heap->Prop}{YP:cA->Heap->Prop}{d:DefRec}{K:Params->W.Frag}{CX:cA->Fo}{sp:cA->Sp}{x:Str}
  (hn:l.most=some n) (P1:n<=sizeLine) (QZ:d.params.defaults=[]) (hr:gr k callerA)
  (hY:∀(w:cA) (h:Heap),YP w h->(K w.params).In h)
  (Ht:∀t∈ux,((recsOf q).find? λe=>e.name==t.1).isSome=true)
  (F:∀(w:cA) (mg:cj) (fa:cD) (h:Heap),(K w.params).In h->h.Ns mainGlobals mg->mg d.name=some (.ref fa)->
   tabsOk (K w.params)=true/\∃fd:cy,(∀(s:cx) (u:cw),BindsTo s fd ⟨[u],[]⟩ [(x,u)])/\
    ∀base:Heap,(K w.params).In base->base.Ns mainGlobals mg->eJ l.prog w (K w.params) mg base (CX w) k fa fd [x] (sp w))
  (J3:∀(w:cA) (H:Hp) (a:cD) (ns:cn),ns.length<=n->oF (K w.params) H a (ns.map V.int)->sp w [.ref a] H (λv _=>v=.bl true) λ_ _ _=>False)
  (Uc:∀(w:cA) (H:Hp) (s:cx) (e:cw) (s':cx),CX w [] H s (λ_ _ _=>False) e s'->False):
  W.WalkO q loose XP YP l.row.toRowW d [] (λf vs=>PySem.call f vs):=by
 refine V7.Az hn QZ λw s₀ s₁ mg mb fa o pm cd doc a vs ns G Y ho hd xj NT NV hints hlen hg=>?_
 have KX:=hY w _ Y;obtain⟨Ub,fd,hb,hF⟩:=F w mg fa _ KX G.T.g NT;refine Fu KX G.T.g G.T.b G.T.builtins G.T.nolimit hg NV hints (aB hlen P1) hr Ub (λx c Pt pos qual hm ht=>?_) (let ⟨bm,ob,b1,b2,b3,b4,b5,b6⟩:=G.T.bmain;⟨bm,ob,b1,b2,b3,b4,b5,b6⟩) hF hb (λH hS=>J3 w H a ns hlen hS) λH e s'=>Uc w H s₁ e s'
 obtain⟨d',Mh⟩:=Option.isSome_iff_exists.mp (Ht _ hm);exact W.tab_of G.T KX Mh ht
end L2
namespace L2
open PySem PySem.Spec PyProof.Rows
theorem lN (env:Env):∀(names:List (Str×NameKind)) (x:Str),
  (names.map λ(n,k)=>if(k==NameKind.free&&env.scope.kind==.function&&env.kindOf n==some .cell)then(n,NameKind.cell)else(n,k)).lookup x=
   (names.lookup x).map λk=>if(k==NameKind.free&&env.scope.kind==.function&&env.kindOf x==some .cell)then NameKind.cell else k
 |[],_=>rfl
 |(n,k)::r,x=>by
  have ih:=lN env r x;rw[aE];show List.lookup x ((if(k==NameKind.free&&env.scope.kind==.function&&env.kindOf n==some .cell)=true then(n,NameKind.cell)else(n,k))::_)=_
  by_cases hx:x=n
  ·subst hx;by_cases hc:(k==NameKind.free&&env.scope.kind==.function&&env.kindOf x==some .cell)=true
   ·rw[if_pos hc];simp only[bq,bN,bA];rw[if_pos hc]
   ·rw[if_neg hc];simp only[bq,bN,bA];rw[if_neg hc]
  ·have hb:(x==n)=false:=by simpa using hx
   by_cases hc:(k==NameKind.free&&env.scope.kind==.function&&env.kindOf n==some .cell)=true
   ·rw[if_pos hc];simp only[bq,hb];exact ih
   ·rw[if_neg hc];simp only[bq,hb];exact ih
theorem mem_lookup {α:Type}:∀{l:List (Str×α)}{x:Str}{a:α},l.lookup x=some a->(x,a)∈l
 |[],_,_,h=>by cases h
 |(n,b)::r,x,a,h=>by
  by_cases hx:x=n
  ·subst hx;simp only[bq,bN,Option.some.injEq]at h;subst h;exact af
  ·have hb:(x==n)=false:=by simpa using hx
   simp only[bq,hb]at h;exact ai _ (mem_lookup h)
theorem Cw {scope:Scope}{env:Env}(h:∀y∈scope.names,y.2=.free->∃c,env.cells.lookup y.1=some c):
  ∃cl,closureFor scope env=pure cl/\(∀x c,cl.lookup x=some c->env.cells.lookup x=some c/\(x,NameKind.free)∈scope.names)/\(∀x,(x,NameKind.free)∈scope.names->∃c,cl.lookup x=some c):=by
 have loop:∀(l:List (Str×NameKind)) (acc:List (Str×cD)) (f:Str×NameKind->List (Str×cD)->Sem (ForInStep (List (Str×cD)))),
   (∀n k a,f (n,k) a=if(k==NameKind.free)=true then(do let c <-cellOf env n;pure (ForInStep.yield ((n,c)::a)))else pure (ForInStep.yield a))->
   (∀y∈l,y.2=.free->∃c,env.cells.lookup y.1=some c)->
   ∃cl,forIn l acc f=pure cl/\(∀x c,cl.lookup x=some c->acc.lookup x=some c\/(env.cells.lookup x=some c/\(x,NameKind.free)∈l))/\(∀x,((x,NameKind.free)∈l\/∃c,acc.lookup x=some c)->∃c,cl.lookup x=some c):=by
  intro l;induction l with
  |nil=>intro acc f _ _;exact⟨acc,rfl,λx c e=>.inl e,λx e=>e.elim (λz=>nomatch z) id⟩
  |cons y r ih=>
   intro acc f hf hl;obtain⟨n,k⟩:=y;have hr:∀y∈r,y.2=.free->∃c,env.cells.lookup y.1=some c:=λy hy=>hl y (ai _ hy)
   rw[List.forIn_cons,hf];by_cases hk:k=.free
   ·subst hk;obtain⟨c,hc⟩:=hl (n,.free) af rfl;have ec:cellOf env n=pure c:=by unfold cellOf;rw[hc]
    rw[if_pos (by rfl),ec]
    obtain⟨cl,e1,e2,e3⟩:=ih ((n,c)::acc) f hf hr;refine⟨cl,by simpa using e1,λx d hx=>?_,λx hx=>e3 x ?_⟩
    ·rcases e2 x d hx with z|⟨z1,z2⟩
     ·by_cases P6:x=n
      ·subst P6;simp only[bq,bN,Option.some.injEq]at z;subst z;exact .inr ⟨hc,af⟩
      ·have hb:(x==n)=false:=by simpa using P6
       simp only[bq,hb]at z;exact .inl z
     ·exact .inr ⟨z1,ai _ z2⟩
    ·by_cases P6:x=n
     ·subst P6;exact .inr ⟨c,by simp[bq]⟩
     ·have hb:(x==n)=false:=by simpa using P6
      rcases hx with z|⟨d,z⟩
      ·rcases List.mem_cons.mp z with z|z
       ·cases z;exact absurd rfl P6
       ·exact .inl z
      ·exact .inr ⟨d,by simp only[bq,hb];exact z⟩
   ·have hb:(k==NameKind.free)=false:=by simpa using hk
    rw[if_neg (by rw[hb];exact aZ)]
    obtain⟨cl,e1,e2,e3⟩:=ih acc f hf hr;refine⟨cl,by simpa using e1,λx d hx=>(e2 x d hx).elim .inl λz=>.inr ⟨z.1,ai _ z.2⟩,λx hx=>e3 x ?_⟩
    rcases hx with z|z
    ·rcases List.mem_cons.mp z with z|z
     ·cases z;exact absurd rfl hk
     ·exact .inl z
    ·exact .inr z
 have ec:closureFor scope env=forIn scope.names ([]:List (Str×cD)) (λ(x:Str×NameKind) a=>if(x.2==NameKind.free)=true then(do let c <-cellOf env x.1;pure (ForInStep.yield ((x.1,c)::a)))else pure (ForInStep.yield a)):=by
  unfold closureFor;simp only[bind_pure]
 obtain⟨cl,e1,e2,e3⟩:=loop scope.names [] (λ(x:Str×NameKind) a=>if(x.2==NameKind.free)=true then(do let c <-cellOf env x.1;pure (ForInStep.yield ((x.1,c)::a)))else pure (ForInStep.yield a)) (λn k a=>rfl) h
 refine⟨cl,?_,λx c hx=>?_,λx hx=>e3 x (.inl hx)⟩
 ·rw[ec,e1]
 ·rcases e2 x c hx with z|z
  ·simp at z
  ·exact z
noncomputable def df (X:Cx) (scope:Scope) (cl:List (Str×cD)) (C:cD) (s:cx) (H:Hp) (fp:List cD):Cx:=
 {X with s₀:=s,H₀:=H,env:=compEnvC scope cl C X.env,outer:=X.stack,ex:=fp,fn:=λ_=>false,pn:=[],xe:=λ_ _=>False}
noncomputable def uT (N:List Str) (outer names:List (Str×NameKind)) (x:Str):Bool:=
 names.all (λy=>(y.2!=.cell&&(y.2!=.local||y.1==x|| !(N.contains y.1)))&&(y.2!=.local||names.lookup y.1==some .local)&&(y.2!=.free||((outer.lookup y.1==some .cell||outer.lookup y.1==some .free)&&names.lookup y.1==some .free)))&&names.lookup x==some .local
structure gm (X:Cx) (scope:Scope) (x:Str) (j:Nat):Prop where
 kind:scope.kind=.function
 ok:uT X.N X.env.scope.names scope.names x=true
 hj:X.N[j]? =some x
 nd:X.N.Nodup
section
variable {X:Cx}{scope:Scope}{x:Str}{j:Nat}
theorem gm.all (S:gm X scope x j):∀y∈scope.names,y.2≠.cell/\(y.2=.local->scope.names.lookup y.1=some .local)/\(y.2=.free->(X.env.kindOf y.1=some .cell\/X.env.kindOf y.1=some .free)/\scope.names.lookup y.1=some .free):=λy hy=>by
 have h:=S.ok;unfold uT at h;have h1:=(List.all_eq_true.mp (Bool.and_eq_true_iff.mp h).1) y hy;have h2:=Bool.and_eq_true_iff.mp h1;have h3:=Bool.and_eq_true_iff.mp h2.1;have h0:=Bool.and_eq_true_iff.mp h3.1;refine⟨by simpa using h0.1,λe=>?_,λe=>?_⟩
 ·have:=h3.2;rw[e]at this
  simpa using this
 ·have:=h2.2;rw[e]at this;exact(by simpa using this:(X.env.scope.names.lookup y.1=some .cell\/X.env.scope.names.lookup y.1=some .free)/\scope.names.lookup y.1=some .free)
theorem gm.only(S:gm X scope x j) {y:Str}(hm:(y,NameKind.local)∈scope.names) {i:Nat}(vp:i≠j) (e:X.N[i]? =some y):False:=by
 have h:=S.ok;unfold uT at h;have h1:=(List.all_eq_true.mp (Bool.and_eq_true_iff.mp h).1) _ hm;have h2:=Bool.and_eq_true_iff.mp h1;have h3:=Bool.and_eq_true_iff.mp h2.1;have h0:=(Bool.and_eq_true_iff.mp h3.1).2;have hN:y∈X.N:=bh e;have Yo:X.N.contains y=true:=by simpa using hN
 simp only[Yo,bne_self_eq_false,Bool.false_or,bT,Bool.or_false]at h0;have:y=x:=by simpa using h0
 subst this;exact vp (ve S.nd e S.hj)
theorem gm.hx (S:gm X scope x j):scope.names.lookup x=some .local:=by
 have h:=S.ok;unfold uT at h
 simpa using (Bool.and_eq_true_iff.mp h).2
end
def Hu (X:Cx) (ifs:List cE) (t:TT):Prop:=
 ∀(pins:ck) (s:cx) (σ:St) (H:Hp) (Q:Bool->Hp->Prop),Inv X pins σ H s->t σ H Q->
  wpAny (model X.prog X.w) X.A (forIn ifs true λc r=>if r=true then do let ok <-isTrue c X.env (eval c X.env);pure (ForInStep.yield ok)else pure (ForInStep.yield r)) (TP X pins σ Q) X.xe s
noncomputable def Q4:TT:=λ_ H Q=>Q true H
theorem rG {X:Cx}:Hu X [] Q4:=λ_ _ _ H _ I h=>wpAny_tests_nil ⟨H,I,h⟩
theorem AB {X:Cx}{c:cE}{t:TT}(h:PT X c t):Hu X [c] t:=λpins s σ H Q I q=>wpAny_tests_one (h pins s σ H Q I q)
noncomputable def xV (wi:TI) (j:Nat) (tt:TT) (te:TE):TE:=λσ H Q=>wi σ H λJ H1=>∀D,H1 D=none->∃W:Nat->Nat->List V->Hp->Prop,(∃m,W 0 m [] (upd H1 D (.lst [])))/\
 ∀i m acc H,W i m acc H->(J.stop i H/\Q (.ref D) H)\/(J.go i H/\∀x H',J.Nx i H x H'->tt (σ.set j (some x)) H' λb H2=>
  if b=true then te (σ.set j (some x)) H2 λy H3=>H3 D=some (.lst acc)/\acc.length<sizeLine/\∃m',m'<m/\W (i+1) m' (acc++[y]) (upd H3 D (.lst (acc++[y])))else ∃m',m'<m/\W (i+1) m' acc H2)
theorem yX {prog:cz}{w:cA}{A:cB}{R:Result->cx->Prop}{s:cx}{elt target iter:cE}{ifs:List cE}{scope:Scope}{pos:Pos}{it acc:cw}{env:Env}(I:Nat->cx->Prop)
  (turn:∀n s,I n s->wpAny (model prog w) A (pyNext it) (λr s₁=>match r with
   |none=>R (.ok .next) s₁
   |some v=>wpAny (model prog w) A (letOwnedTupleGo target it v) (λ_ s₁=>wpAny (model prog w) A (assign target env v) (λ_ s₂=>
     wpAny (model prog w) A (forIn ifs true λc r=>if r=true then do let ok <-isTrue c env (eval c env);pure (ForInStep.yield ok)else pure (ForInStep.yield r)) (λok s₃=>
      if ok=true then wpAny (model prog w) A (eval elt env) (λx s₄=>
       wpAny (model prog w) A (call (.builtin "list.append") [acc,x]) (λ_ s₅=>∃m,m<n/\I m s₅) (λ_ _=>False) s₄) (λ_ _=>False) s₃
      else ∃m,m<n/\I m s₃) (λ_ _=>False) s₂) (λ_ _=>False) s₁) (λ_ _=>False) s₁) (λ_ _=>False) s)
  (n:Nat) (h:I n s):
  codeAny (model prog w) A (.compLoop (.ListComp elt [⟨target,iter,ifs,0⟩] scope pos) 0 it acc env) R s:=by
 refine codeAny_loop rfl I (λn s hI=>?_) n h
 show wpAny _ A ((compTurn (.ListComp elt [⟨target,iter,ifs,0⟩] scope pos) 0 it acc env).onRaise (λx=>do noteFrame x env;theTreesLotGoes x)) _ _ s
 refine wpAny_noted ?_;rw[compTurn_list];refine aa (wpAny_standAt (aa (bP (turn n s hI) (λr s₁ h₁=>?_) λ_ _ h'=>h'.elim)))
 cases r with
 |none=>exact aj h₁
 |some v=>
  refine aa (bP h₁ (λ_ s₁ h₁=>?_) λ_ _ h'=>h'.elim)
  refine aa (bP h₁ (λ_ s₂ h₂=>aa (bP h₂ (λok s₃ h₃=>?_) λ_ _ h'=>h'.elim)) λ_ _ h'=>h'.elim)
  cases ok with
  |false=>exact aj ⟨rfl,h₃⟩
  |true=>
   exact aa (aa (bP h₃ (λx s₄ h₄=>aa (bP h₄ (λ_ s₅ h₅=>aj (aj ⟨rfl,h₅⟩)) λ_ _ h'=>h'.elim)) λ_ _ h'=>h'.elim))
section
variable {X:Cx}{elt iter:cE}{ifs:List cE}{x:Str}{px pos:Pos}{scope:Scope}{j:Nat}{wi:TI}{tt:TT}{te:TE}
theorem vq (hc:X.calm=true) (S:gm X scope x j) {cl:List (Str×cD)}(rH:closureFor scope X.env=pure cl) (GR:∀y c,cl.lookup y=some c->X.env.cells.lookup y=some c/\(y,NameKind.free)∈scope.names)
  (P7:∀y,(y,NameKind.free)∈scope.names->∃c,cl.lookup y=some c)
  (ht:∀cl C s H fp,Hu (df X scope cl C s H fp) ifs tt) (he:∀cl C s H fp,PE (df X scope cl C s H fp) elt te)
  {pins:ck}{σ:St}{H2:Hp}{s₂:cx}{it:cD}{fp:List cD}{tn:Nat->Heap->Prop}{J:It}{Q:VK}(I2:Inv X pins σ H2 s₂) (T:Turn X.prog X.w X.K (.Name x px) J fp it tn) (Mp:tn 0 s₂.heap) (f2:∀b∈fp,Aq X pins H2 b)
  (hR:∀D,H2 D=none->∃W:Nat->Nat->List V->Hp->Prop,(∃m,W 0 m [] (upd H2 D (.lst [])))/\
   ∀i m acc H,W i m acc H->(J.stop i H/\Q (.ref D) H)\/(J.go i H/\∀x H',J.Nx i H x H'->tt (σ.set j (some x)) H' λb H2=>
    if b=true then te (σ.set j (some x)) H2 λy H3=>H3 D=some (.lst acc)/\acc.length<sizeLine/\∃m',m'<m/\W (i+1) m' (acc++[y]) (upd H3 D (.lst (acc++[y])))else ∃m',m'<m/\W (i+1) m' acc H2))
  {RR:cw->cD->Result->cx->Prop}
  (Yp:∀D C s' H' m',s₂.heap.objs.size<=C->Inv X pins σ H' s'->s'.heap.Ns C m'->H' C=none->Q (.ref D) H'->RR (.ref D) C (.ok .next) s') {E:cg}:
  wpAny (model X.prog X.w) X.A (newList []) (λacc s₃=>wpAny (model X.prog X.w) X.A (newFunctionEnv scope X.env.globals cl [] X.env.qual none .none (some X.env)) (λQ5 s₄=>
   codeAny (model X.prog X.w) X.A (.compStart (.ListComp elt [⟨.Name x px,iter,ifs,0⟩] scope pos) 0 (.ref it) acc {Q5 with scope:=relabel scope X.env}) (RR acc Q5.locals) s₄) E s₃) E s₂:=by
 have A1:=S.all;refine bR (wpAny_newFunctionEnv (λy hy=>(A1 y hy).1) (by intro y hy;simp at hy) (λh₁ KJ Hv=>?_) S.kind)
 dsimp only at KJ Hv ⊢;generalize Q6:s₂.heap.push {cls:=.type "list",dict:=none,data:=.seq ([]:cv).toArray}=G at KJ Hv ⊢;have hC:G.objs.size=s₂.heap.objs.size+1:=by rw[<-Q6,Heap.size_push]
 have S1:s₂.heap.objs.size≠G.objs.size:=by rw[hC];exact aD (Nat.lt_succ_self _)
 have Cy:s₂.heap.objs.size<=G.objs.size:=by rw[hC];exact Nat.le_succ _
 have below:∀b,b<s₂.heap.objs.size->b≠G.objs.size/\b≠s₂.heap.objs.size:=λb hb=>⟨by rw[hC];exact aD (Nat.lt_succ_of_lt hb),aD hb⟩
 have old:∀b o,s₂.heap.get? b=some o->h₁.get? b=some o:=λb o e=>Hv.extBut b o (below b (az e)).1 (ag _ (Q6▸ag _ e))
 have oG:h₁.get? s₂.heap.objs.size=some {cls:=.type "list",data:=.seq ([]:cv).toArray 0}:=Hv.extBut _ _ S1 (ag _ (Q6▸ay _ rfl));generalize hCn:G.objs.size=C at KJ Hv hC S1 Cy below ⊢;generalize Cz:s₂.heap.objs.size=D at oG hC S1 Cy below ⊢;have Wb:H2 D=none:=by rw[<-Cz];exact I2.fP.fresh (au _)
 have Yq:H2 C=none:=I2.fP.fresh (by rw[Cz];exact Cy)
 obtain⟨W,⟨m0,w0⟩,turn⟩:=hR D Wb;have Hw:∀b∈fp,b<D:=λb hb=>by
  obtain⟨o,e,_⟩:=T.obj 0 _ Mp b hb;rw[<-Cz];exact az e
 have ok:(df X scope cl C s₂ H2 fp).Ok:=by
  have o:=I2.ok;refine⟨o.mod,S.kind,o.glob,o.blt,by show s₂.heap.objs.size<=C;rw[Cz];exact Cy,λy z c e1 e2=>o.inj y z c (GR y c e1).1 (GR z c e2).1,λy hy=>?_,λy c z=>(by cases z),o.hd,o.frames,.inl rfl,λb hb=>⟨?_,λy c e=>(f2 b hb).2.2.2.2.1 y c (GR y c e).1⟩,
   λb ob e=>I2.bs b ob e,aB o.J1 I2.sz,λb ob e hb=>?_,λb hb z=>?_,I2.stack,I2.DZ,I2.ok.tb.un I2.base⟩
  ·have q:((relabel scope X.env).names.lookup y=some .cell\/(relabel scope X.env).names.lookup y=some .free):=hy;have e:=lN X.env scope.names y;have fr:scope.names.lookup y=some .free:=by
    cases k:scope.names.lookup y with
    |none=>
     rw[k]at e;have e':(relabel scope X.env).names.lookup y=none:=e;rw[e']at q;rcases q with q|q<;>cases q
    |some kk=>
     by_cases hk:kk=.free
     ·rw[hk]
     ·rw[k]at e;have hb:(kk==NameKind.free)=false:=by simpa using hk
      have e':(relabel scope X.env).names.lookup y=some kk:=by
       refine e.trans ?_;simp only[bA,hb,Bool.false_and,aH,bD]
      rw[e']at q;have hm:(y,kk)∈scope.names:=mem_lookup k;rcases q with q|q
      ·exact absurd (aS q) (A1 _ hm).1
      ·exact absurd (aS q) hk
   exact P7 y (mem_lookup fr)
  ·show b≠C;exact aD (aw (Hw b hb) Cy)
  ·rcases(f2 b hb).2.2.2.1 with z|z
   ·exact o.G0 b ob e z
   ·exact absurd (aw (az e) (aB o.J1 z)) (Nat.lt_irrefl _)
  ·rcases List.mem_cons.mp (I2.yL b z)with z|z
   ·exact(f2 b hb).2.1 z
   ·exact(f2 b hb).2.2.1 z
 have Q7:Un (GQ X.stack) fp H2 (upd H2 D (.lst [])) s₂.heap h₁:=Un.laid old (by rw[Cz];exact au _) Wb
 have KL:∀y c,cl.lookup y=some c->c<D:=λy c e=>by
  obtain⟨v,z⟩:=I2.cell y c (GR y c e).1;rw[<-Cz];exact z.lt
 have Cc:∀{H':Hp},(∀b∈fp,H' b=none)->∀b∈fp,Aq (df X scope cl C s₂ H2 fp) [] H' b:=λhn b hb=>
  ⟨hn b hb,aD (aw (Hw b hb) Cy),λz=>(List.mem_cons.mp (I2.yL b z)).elim (λq=>(f2 b hb).2.1 q) λq=>(f2 b hb).2.2.1 q,.inl hb,λy c e=>(f2 b hb).2.2.2.2.1 y c (GR y c e).1,(λp hp=>nomatch hp)⟩
 have Q8:(relabel scope X.env).names.lookup x=some .local:=lookup_relabel_local S.hx;have start:Inv (df X scope cl C s₂ H2 fp) [] (σ.set j none) (upd H2 D (.lst [])) {s₂ with heap:=h₁,toks:=s₂.toks+([]:List (Str×cw)).length}:=by
  refine⟨ok,rfl,I2.bare,Q7,⟨_,KJ,λi y v e1 e2 e3=>?_⟩,λy c e=>?_,?_,λy c e=>?_,(λp hp=>nomatch hp),?_,?_⟩
  ·obtain⟨m,hn,hl⟩:=I2.loc;by_cases vp:i=j
   ·subst vp;have:(σ.set i none)[i]? =some none\/(σ.set i none)[i]? =none:=by
     by_cases hi:i<σ.length
     ·left;rw[bc hi]
     ·right;simp;omega
    rcases this with q|q<;>(rw[q]at e2;cases e2)
   ·rw[aF (Ne.symm vp)]at e2;have S2:(relabel scope X.env).names.lookup y=some .local\/(relabel scope X.env).names.lookup y=some .cell\/(relabel scope X.env).names.lookup y=some .free:=e3;have er:=lN X.env scope.names y;have S3:(relabel scope X.env).names.lookup y=(scope.names.lookup y).map λk=>if(k==NameKind.free&&X.env.scope.kind==.function&&X.env.kindOf y==some .cell)then NameKind.cell else k:=er
    cases k:scope.names.lookup y with
    |none=>
     rw[k]at S3;have NX:(relabel scope X.env).names.lookup y=none:=S3;rw[NX]at S2;rcases S2 with q|q|q<;>cases q
    |some kk=>
     have hm:(y,kk)∈scope.names:=mem_lookup k;obtain⟨a1,a2,a3⟩:=A1 _ hm;by_cases hk:kk=.free
     ·subst hk;obtain⟨o1,_⟩:=a3 rfl;have Ue:PV X.env.scope y:=o1.elim (λz=>.inr (.inl z)) λz=>.inr (.inr z)
      obtain⟨u,r,l⟩:=hl i y v e1 e2 Ue;obtain⟨c',m3⟩:=P7 y hm;refine⟨u,r,.inr ⟨?_,c',m3,?_⟩⟩
      ·show(relabel scope X.env).names.lookup y=some .cell\/(relabel scope X.env).names.lookup y=some .free;rw[S3,k];simp only[bA];split
       ·exact .inl rfl
       ·exact .inr rfl
      ·rcases l with⟨l1,_⟩|⟨_,c,ec,z⟩
       ·rcases o1 with o1|o1<;>(rw[l1]at o1;cases o1)
       ·have Wc:=(GR y c' m3).1;rw[ec]at Wc;cases Wc;obtain⟨oc,ho,hd⟩:=z;exact⟨oc,old _ _ ho,hd⟩
     ·have hb:(kk==NameKind.free)=false:=by simpa using hk
      have NX:(relabel scope X.env).names.lookup y=some kk:=by rw[S3,k];simp only[bA,hb,Bool.false_and,aH,bD]
      rw[NX]at S2;rcases S2 with q|q|q
      ·
       cases q;exact(S.only hm vp e1).elim
      ·cases q;exact absurd rfl a1
      ·cases q;exact absurd rfl hk
  ·obtain⟨v,oc,ho,hd⟩:=I2.cell y c (GR y c e).1;exact⟨v,oc,old _ _ ho,hd⟩
  ·show upd H2 D (.lst []) C=none;rw[cQ (Ne.symm S1)];exact Yq
  ·rw[cQ (aD (KL y c e))];exact I2.oN y c (GR y c e).1
  ·exact I2.fP.laid old (by rw[Cz];exact au _) ⟨bL _,[],0,.nil,oG⟩
  ·show(σ.set j none).length=X.N.length;rw[List.length_set];exact I2.len
 have Wd:tn 0 h₁:=T.keep _ _ _ Mp λb hb o e=>old b o e
 have Yr:∀b∈fp,upd H2 D (.lst []) b=none:=λb hb=>by rw[cQ (aD (Hw b hb))];exact(f2 b hb).1
 have NY:j<σ.length:=by rw[I2.len];exact(List.getElem?_eq_some_iff.mp S.hj).1
 have loop:∀s₄:cx,s₄={s₂ with heap:=h₁,toks:=s₂.toks+([]:List (Str×cw)).length}->
   codeAny (model X.prog X.w) X.A (.compLoop (.ListComp elt [⟨.Name x px,iter,ifs,0⟩] scope pos) 0 (.ref it) (.ref D) (compEnvC scope cl C X.env)) (RR (.ref D) C) s₄:=by
  rintro s₄ rfl
  refine yX (λn s'=>∃i acc H',Inv (df X scope cl C s₂ H2 fp) [] (σ.set j none) H' s'/\tn i s'.heap/\(∀b∈fp,H' b=none)/\W i n acc H') ?_ m0 ⟨0,[],_,start,Wd,Yr,w0⟩
  rintro n s3 ⟨i,acc,H3,I3,Qy,Qz,w3⟩
  rcases turn i n acc H3 w3 with⟨stop,qn⟩|⟨go,step⟩
  ·refine gS (T.done (df X scope cl C s₂ H2 fp) rfl rfl rfl hc i [] s3 _ H3 _ I3 (Cc Qz) Qy stop) λr s4 ⟨hr,I4⟩=>?_
   subst hr;obtain⟨m',xO,_⟩:=I4.loc;exact Yp D C s4 H3 m' (by rw[Cz];exact Cy) (I2.Qo (ch:=fp) I4.os I4.base I4.fP I4.bare λb hb=>⟨(f2 b hb).2.2.2.1,(f2 b hb).2.1,(f2 b hb).2.2.2.2.1,(f2 b hb).2.2.2.2.2⟩) xO I4.free qn
  ·refine gS (T.item (df X scope cl C s₂ H2 fp) rfl rfl rfl hc i [] s3 _ H3 _ I3 (Cc Qz) Qy go) λr s4 ⟨u,hr,h4⟩=>?_
   subst hr;refine gS h4 λ_ s5 ⟨y,H5,I5,r5,y5,NA,TV⟩=>?_
   have TX:=I5.pinned (Cc TV) (T.obj _ _ NA);refine wpAny_assign_Name (vf TX S.nd (show(df X scope cl C s₂ H2 fp).N[j]? =some x from S.hj) (.inl Q8) r5 (λs6 I6=>?_) (.inr Q8))
   have eσ:(σ.set j none).set j (some y)=σ.set j (some y):=by rw[List.set_set]
   rw[eσ]at I6;refine gS (ht cl C s₂ H2 fp _ s6 _ H5 _ I6 (step y H5 y5)) λb s7 ⟨H7,I7,q7⟩=>?_
   have again:∀{H8:Hp}{s8:cx}{NZ:List V},Inv (df X scope cl C s₂ H2 fp) ([]++vi fp s5.heap) (σ.set j (some y)) H8 s8->(∃m',m'<n/\W (i+1) m' NZ H8)->∃m,m<n/\∃i acc H',Inv (df X scope cl C s₂ H2 fp) [] (σ.set j none) H' s8/\tn i s8.heap/\(∀b∈fp,H' b=none)/\W i m acc H':=λ{H8 s8 NZ} I8 ⟨m',hm,w8⟩=>by
    refine⟨m',hm,i+1,NZ,H8,I8.rC.weak (by simp) (λk v e=>?_),T.keep _ _ _ NA λb hb o e=>(I8.pin (b,o) (aL _ (aL _ (nH hb e)))).1,λb hb=>?_,w8⟩
    ·by_cases hk:k=j
     ·subst hk;rw[bc NY]at e;cases e
     ·rw[aF (Ne.symm hk)]at e ⊢;exact e
    ·obtain⟨o,e,d⟩:=T.obj _ _ NA b hb;exact(I8.pin (b,o) (aL _ (aL _ (nH hb e)))).2.1
   cases b with
   |false=>exact again I7 (by simpa using q7)
   |true=>
    simp only[if_true]at q7 ⊢;refine gS (he cl C s₂ H2 fp _ s7 _ H7 _ I7 q7) λv s8 ⟨z,H8,I8,r8,Ys,Yt,q8⟩=>?_
    refine gS (xU (X:=df X scope cl C s₂ H2 fp) _ s8 _ H8 (.ref D) [z] (.ref D) [v] (λ_ H9=>∃m',m'<n/\W (i+1) m' (acc++[z]) H9) I8 rfl (.cons r8 .nil) ⟨D,acc,z,rfl,rfl,Ys,Yt,q8⟩) λ_ s9 ⟨_,H9,I9,_,q9⟩=>?_
    exact again I9 q9
 exact codeAny_compStart_list (loop _ rfl) (T.self _ 0 _ _ _ Wd (loop _ rfl))
theorem vt (I0:X.Ok) (S:gm X scope x j):∃cl,closureFor scope X.env=pure cl/\(∀y c,cl.lookup y=some c->X.env.cells.lookup y=some c/\(y,NameKind.free)∈scope.names)/\(∀y,(y,NameKind.free)∈scope.names->∃c,cl.lookup y=some c):=
 Cw λy hy e=>I0.has y.1 ((S.all y hy).2.2 e).1
theorem yY (hc:X.calm=true) (S:gm X scope x j) (hi:PI X (.Name x px) iter wi) (ht:∀cl C s H fp,Hu (df X scope cl C s H fp) ifs tt) (he:∀cl C s H fp,PE (df X scope cl C s H fp) elt te)
  (hs:∀v,foldedSetIterable iter X.env v=pure v:=by intro _;rfl):PE X (.ListComp elt [⟨.Name x px,iter,ifs,0⟩] scope pos) (xV wi j tt te):=by
 intro pins s σ H Q I h;obtain⟨cl,rH,GR,P7⟩:=vt I.ok S;rw[eval_ListComp];refine wpAny_comprehension_free (use:=none) rfl hs rH S.kind (λy hy=>(S.all y hy).2.1) (gS (hi pins s σ H _ I h) λv s1 h1=>gS h1 λSU s2 h2=>?_)
 obtain⟨it,fp,tn,J,H2,e,I2,T,Mp,f2,hR⟩:=h2;subst e;refine vq hc S rH GR P7 ht he I2 T Mp f2 hR (RR:=λacc C=>compPost (model X.prog X.w) X.A X.xe none (EP X pins σ Q) acc C) ?_
 intro D C s' H' m' hC I' hn hf q;refine⟨m',hn,λh' Hx=>⟨.ref D,H',?_,rfl,q⟩⟩
 exact I'.turned (t':=s'.toks) (it:=C) (λb o hb e=>(Hx.2 b hb).trans e) hf (bw (aw I2.lt hC)) (.inr (aB I2.sz hC))
  (λy c e z=>by obtain⟨v,q⟩:=I2.cell y c e;exact absurd (aw q.lt (by rw[z];exact hC)) (Nat.lt_irrefl _)) λp hp z=>absurd (aw (az (I2.pin p hp).1) (by rw[z];exact hC)) (Nat.lt_irrefl _)
noncomputable def AD (i:Nat) (t:TE):TS:=λDn σ H=>t σ H λv H1=>Dn.nx (σ.set i (some v)) H1
theorem qR {i:Nat}{y:Str}{py mO:Pos}(hc:X.calm=true) (S:gm X scope x j) (hi:PI X (.Name x px) iter wi) (ht:∀cl C s H fp,Hu (df X scope cl C s H fp) ifs tt) (he:∀cl C s H fp,PE (df X scope cl C s H fp) elt te)
  (hN:X.N[i]? =some y) (hy:Loc X.env.scope y) (hf:X.fn y=true\/X.env.scope.names.lookup y=some .local)
  (CA:swapsWith (.ListComp elt [⟨.Name x px,iter,ifs,0⟩] scope pos) (some (.Name y py)) mO.line X.env=pure true)
  (hs:∀v,foldedSetIterable iter X.env v=pure v:=by intro _;rfl):PS X (.Assign [.Name y py] (.ListComp elt [⟨.Name x px,iter,ifs,0⟩] scope pos) mO) (AD i (xV wi j tt te)):=by
 intro pins s σ H Dn I h;obtain⟨cl,rH,GR,P7⟩:=vt I.ok S;rw[exec_Assign_Name_used _ _ _ _ CA];refine aa (wpAny_standAt (aa ?_));show wpAny _ X.A (do let _ <-comprehension (.ListComp elt [⟨.Name x px,iter,ifs,0⟩] scope pos) scope X.env _ (newList []) false (eval iter X.env) (some (assign (.Name y py) X.env))) _ _ s
 refine aa (bP (wpAny_comprehension_free (use:=some (assign (.Name y py) X.env)) (Q:=λ_ s'=>SP X pins Dn .next s') rfl hs rH S.kind (λy hy=>(S.all y hy).2.1)
  (gS (hi pins s σ H _ I h) λv s1 h1=>gS h1 λSU s2 h2=>?_)) (λ_ s' hq=>aj (aj hq)) λ_ _ e=>e)
 obtain⟨it,fp,tn,J,H2,e,I2,T,Mp,f2,hR⟩:=h2;subst e;refine vq (Q:=λv H1=>Dn.nx (σ.set i (some v)) H1) hc S rH GR P7 ht he I2 T Mp f2 hR (RR:=λacc C=>compPost (model X.prog X.w) X.A X.xe (some (assign (.Name y py) X.env)) (λ_ s'=>SP X pins Dn .next s') acc C) ?_
 intro D C s' H' m' hC I' hn Fv q;show wpAny _ X.A (assign (.Name y py) X.env (.ref D)) _ _ _;have We:C≠X.env.locals:=bw (aw I2.lt hC);have Wf:∀y c,X.env.cells.lookup y=some c->c≠C:=λy c e z=>by obtain⟨v,q⟩:=I2.cell y c e;exact absurd (aw q.lt (by rw[z];exact hC)) (Nat.lt_irrefl _)
 refine wpAny_assign_Name (xN (v:=.ref D) I' S.nd hN hy rfl (λs6 I6 Yu=>?_) hf)
 obtain⟨a,Fw,ha⟩:=Yu;have Yv:C≠a:=ha.elim (λz=>by rw[z];exact We) λz w=>Wf _ _ z w.symm
 refine⟨m',hn.sameBut Fw Yv,λh' Hx=>⟨_,H',?_,q⟩⟩
 exact I6.turned (t':=s6.toks) (it:=C) (λb o hb e=>(Hx.2 b hb).trans e) Fv We (.inr (aB I2.sz hC)) Wf λp hp z=>absurd (aw (az (I2.pin p hp).1) (by rw[z];exact hC)) (Nat.lt_irrefl _)
end
end L2
namespace So
open PySem PySem.W PyProof.Rows
noncomputable def iu {α:Type}(lt:Nat->Nat->Bool):KasT α->α
 |.ret a=>a
 |.ask i j k=>iu lt (k (lt i j))
theorem lF {α β:Type}(lt:Nat->Nat->Bool) (f:α->KasT β):∀t:KasT α,iu lt (t.bind f)=iu lt (f (iu lt t))
 |.ret _=>rfl
 |.ask i j k=>lF lt f (k (lt i j))
section
variable (rank:Nat->Int)
noncomputable def kk (p:Array Nat) (i:Nat):Int:=rank (p.getD i 0)
def CB (p:Array Nat) (n:Nat):Prop:=∀i j,i<=j->j<n->kk rank p i<=kk rank p j
def Dec (p:Array Nat) (n:Nat):Prop:=∀i j,i<=j->j<n->kk rank p j<=kk rank p i
variable {rank}
theorem AE {p q:Array Nat}{i j:Nat}(h:p[i]? =q[j]?):kk rank p i=kk rank q j:=by
 unfold kk;rw[aT,aT,h]
theorem CC {p:Array Nat}{i j:Nat}(hj:j<=p.size) (k:Nat):kk rank (kas_rev p i j) k=if i<=k/\k<j then kk rank p (i+j-1-k)else kk rank p k:=by
 have e:=getElem?_mirror_all (xs:=p) (i:=i) hj k;unfold kas_rev;split
 ·rename_i h;rw[if_pos h]at e;exact AE e
 ·rename_i h;rw[if_neg h]at e;exact AE e
theorem sW {p:Array Nat}{i j:Nat}(hj:j<=p.size) (he:∀k,i<=k->k<j->kk rank p k=kk rank p (j-1)) (k:Nat):kk rank (kas_rev p i j) k=kk rank p k:=by
 rw[CC hj];split
 ·rw[he _ (by omega) (by omega),he k (by omega) (by omega)]
 ·rfl
theorem i4 (p:Array Nat) (i j:Nat):(kas_rev p i j).Perm p:=mirror_perm _ _ _ _
theorem vv (p:Array Nat) (i j:Nat):(kas_rev p i j).size=p.size:=(i4 p i j).size_eq
theorem CB.snoc {p:Array Nat}{n:Nat}(h:CB rank p n) (h1:1<=n) (hx:kk rank p (n-1)<=kk rank p n):CB rank p (n+1):=λi j vp hj=>by
 by_cases Hy:j<n
 ·exact h i j vp Hy
 ·have e:j=n:=by omega
  subst e;by_cases hi:i=j
  ·subst hi;exact Int.le_refl _
  ·exact Int.le_trans (h i (j-1) (by omega) (by omega)) hx
theorem Dec.snoc {p:Array Nat}{n:Nat}(h:Dec rank p n) (h1:1<=n) (hx:kk rank p n<=kk rank p (n-1)):Dec rank p (n+1):=λi j vp hj=>by
 by_cases Hy:j<n
 ·exact h i j vp Hy
 ·have e:j=n:=by omega
  subst e;by_cases hi:i=j
  ·subst hi;exact Int.le_refl _
  ·exact Int.le_trans hx (h i (j-1) (by omega) (by omega))
theorem Dec.congr {p q:Array Nat}{n:Nat}(h:Dec rank p n) (e:∀k,kk rank q k=kk rank p k):Dec rank q n:=λi j vp hj=>by rw[e,e];exact h i j vp hj
variable {lt:Nat->Nat->Bool}(eY:∀i j,lt i j=decide (rank i<rank j))
include eY
theorem Hz {p:Array Nat}(f n:Nat):iu lt (kas_asc p (f+1) n)=if rank (p.getD n 0)<rank (p.getD (n-1) 0)then n else iu lt (kas_asc p f (n+1)):=by
 show iu lt (if lt (p.getD n 0) (p.getD (n-1) 0)=true then KasT.ret n else kas_asc p f (n+1))=_
 rw[eY];by_cases c:rank (p.getD n 0)<rank (p.getD (n-1) 0)
 ·rw[aR c,if_pos rfl,if_pos c];rfl
 ·rw[aG c,if_neg aZ,if_neg c]
theorem yZ {p:Array Nat}:∀(f n:Nat),1<=n->CB rank p n->let m:=iu lt (kas_asc p f n);n<=m/\m<=n+f/\CB rank p m/\(m=n+f\/kk rank p m<kk rank p (m-1))
 |0,n,h1,h=>⟨au _,au _,h,.inl rfl⟩
 |f+1,n,h1,h=>by
  dsimp only;rw[Hz eY];by_cases c:rank (p.getD n 0)<rank (p.getD (n-1) 0)
  ·rw[if_pos c];exact⟨au _,by omega,h,.inr c⟩
  ·rw[if_neg c];have ih:=yZ f (n+1) (by omega) (h.snoc h1 (by show rank _<=rank _;omega))
   dsimp only at ih;obtain⟨a,b,c',d⟩:=ih;exact⟨by omega,by omega,c',d.elim (λz=>.inl (by omega)) .inr⟩
theorem Fx (f:Nat) (p:Array Nat) (n q:Nat):iu lt (kas_desc (f+1) p n q)=if rank (p.getD n 0)<rank (p.getD (n-1) 0)then(if q>0 then iu lt (kas_desc f (kas_rev p (n-(q+1)) n) (n+1) 0)else iu lt (kas_desc f p (n+1) 0))
  else if rank (p.getD (n-1) 0)<rank (p.getD n 0)then(p,n,q)else iu lt (kas_desc f p (n+1) (q+1)):=by
 show iu lt (if lt (p.getD n 0) (p.getD (n-1) 0)=true then(if q>0 then kas_desc f (kas_rev p (n-(q+1)) n) (n+1) 0 else kas_desc f p (n+1) 0)
  else .ask (p.getD (n-1) 0) (p.getD n 0) λd=>if d=true then .ret (p,n,q)else kas_desc f p (n+1) (q+1))=_
 rw[eY];by_cases c:rank (p.getD n 0)<rank (p.getD (n-1) 0)
 ·rw[aR c,if_pos rfl,if_pos c];split<;>rfl
 ·rw[aG c,if_neg aZ,if_neg c];show iu lt (if lt (p.getD (n-1) 0) (p.getD n 0)=true then KasT.ret (p,n,q)else kas_desc f p (n+1) (q+1))=_
  rw[eY];by_cases c2:rank (p.getD (n-1) 0)<rank (p.getD n 0)
  ·rw[aR c2,if_pos rfl,if_pos c2];rfl
  ·rw[aG c2,if_neg aZ,if_neg c2]
theorem rJ:∀(f:Nat) (p:Array Nat) (n q:Nat),1<=n->n+f<=p.size->Dec rank p n->q+1<=n->(∀i,n-(q+1)<=i->i<n->kk rank p i=kk rank p (n-1))->
  let r:=iu lt (kas_desc f p n q);r.1.Perm p/\n<=r.2.1/\r.2.1<=n+f/\Dec rank r.1 r.2.1/\r.2.2+1<=r.2.1/\(∀i,r.2.1-(r.2.2+1)<=i->i<r.2.1->kk rank r.1 i=kk rank r.1 (r.2.1-1))
 |0,p,n,q,h1,hz,h,hq,he=>⟨Array.Perm.refl _,au _,au _,h,hq,he⟩
 |f+1,p,n,q,h1,hz,h,hq,he=>by
  dsimp only;rw[Fx eY];by_cases c:rank (p.getD n 0)<rank (p.getD (n-1) 0)
  ·rw[if_pos c];have hx:kk rank p n<=kk rank p (n-1):=Int.le_of_lt c;by_cases Wg:q>0
   ·rw[if_pos Wg];have es:=sW (rank:=rank) (p:=p) (i:=n-(q+1)) (j:=n) (by omega) he
    have ih:=rJ f (kas_rev p (n-(q+1)) n) (n+1) 0 (by omega) (by rw[vv];omega) ((h.snoc h1 hx).congr es) (by omega) (λi a b=>by rw[show i=n+1-1 by omega])
    dsimp only at ih;obtain⟨a,b,c',d⟩:=ih;exact⟨a.trans (i4 _ _ _),by omega,by omega,d⟩
   ·rw[if_neg Wg];have ih:=rJ f p (n+1) 0 (by omega) (by omega) (h.snoc h1 hx) (by omega) (λi a b=>by rw[show i=n+1-1 by omega])
    dsimp only at ih;obtain⟨a,b,c',d⟩:=ih;exact⟨a,by omega,by omega,d⟩
  ·rw[if_neg c];by_cases c2:rank (p.getD (n-1) 0)<rank (p.getD n 0)
   ·rw[if_pos c2];exact⟨Array.Perm.refl _,au _,by show n<=_;omega,h,hq,he⟩
   ·rw[if_neg c2];have ex:kk rank p n=kk rank p (n-1):=by unfold kk;omega
    have ih:=rJ f p (n+1) (q+1) (by omega) (by omega) (h.snoc h1 (Int.le_of_eq ex)) (by omega) (λi a b=>by
     rw[show n+1-1=n by omega]
     by_cases hi:i=n
     ·rw[hi]
     ·rw[ex];exact he i (by omega) (by omega))
    dsimp only at ih;obtain⟨a,b,c',d⟩:=ih;exact⟨a,by omega,by omega,d⟩
theorem xW {p:Array Nat}{n nrem:Nat}(h1:1<=n) (hn:n<=nrem) (hz:nrem<=p.size) (h:Dec rank p n):let r:=iu lt (kas_tail3 n nrem p);r.2.Perm p/\1<=r.1/\r.1<=nrem/\CB rank r.2 r.1:=by
 dsimp only;unfold kas_tail3;rw[lF];have hi:CB rank (kas_rev p 0 n) n:=λi j vp hj=>by
  rw[CC (by omega),CC (by omega),if_pos (by omega),if_pos (by omega)]
  exact h _ _ (by omega) (by omega)
 have ih:=yZ eY (p:=kas_rev p 0 n) (nrem-n) n h1 hi;dsimp only at ih;exact⟨i4 _ _ _,by show 1<=iu lt (kas_asc _ _ _);omega,by show iu lt (kas_asc _ _ _)<=nrem;omega,ih.2.2.1⟩
theorem rK {p:Array Nat}{n nrem:Nat}(hn:n+1<=nrem) (hz:nrem<=p.size) (h:Dec rank p (n+1)):let r:=iu lt (kas_descPart n nrem p);r.2.Perm p/\1<=r.1/\r.1<=nrem/\CB rank r.2 r.1:=by
 dsimp only;unfold kas_descPart;rw[lF];have ih:=rJ eY (nrem-(n+1)) p (n+1) 0 (by omega) (by omega) h (by omega) (λi a b=>by rw[show i=n+1-1 by omega])
 dsimp only at ih;generalize iu lt (kas_desc (nrem-(n+1)) p (n+1) 0)=r at ih ⊢;obtain⟨a,b,c,d,e,g⟩:=ih;have sz:r.1.size=p.size:=a.size_eq;by_cases hq:r.2.2>0
 ·rw[if_pos hq];have es:=sW (rank:=rank) (p:=r.1) (i:=r.2.1-(r.2.2+1)) (j:=r.2.1) (by omega) g
  have t:=xW eY (p:=kas_rev r.1 (r.2.1-(r.2.2+1)) r.2.1) (n:=r.2.1) (nrem:=nrem) (by omega) (by omega) (by rw[vv];omega) (d.congr es)
  exact⟨t.1.trans ((i4 _ _ _).trans a),t.2⟩
 ·rw[if_neg hq];have t:=xW eY (p:=r.1) (n:=r.2.1) (nrem:=nrem) (by omega) (by omega) (by omega) d
  exact⟨t.1.trans a,t.2⟩
theorem Fy {p:Array Nat}{nrem:Nat}(h1:1<=nrem) (hz:nrem<=p.size):let r:=iu lt (kas_count nrem p);r.2.Perm p/\1<=r.1/\r.1<=nrem/\CB rank r.2 r.1:=by
 dsimp only;unfold kas_count;rw[lF];have ih:=yZ eY (p:=p) (nrem-1) 1 (au _) (λi j vp hj=>by have:i=j:=(by omega);subst this;exact Int.le_refl _)
 dsimp only at ih;generalize iu lt (kas_asc p (nrem-1) 1)=n at ih ⊢;obtain⟨a,b,c,d⟩:=ih;by_cases Wh:n=nrem
 ·rw[if_pos (by simpa using Wh)]
  exact⟨Array.Perm.refl _,a,by show n<=nrem;omega,c⟩
 ·rw[if_neg (by simpa using Wh)]
  have hl:kk rank p n<kk rank p (n-1):=d.resolve_left (by omega)
  by_cases Mw:n>1
  ·rw[if_pos Mw];have e0:iu lt (KasT.ask (p.getD 0 0) (p.getD (n-1) 0) λc=>if c=true then .ret (n,p)else kas_descPart n nrem (kas_rev p 0 n))=iu lt (if lt (p.getD 0 0) (p.getD (n-1) 0)=true then .ret (n,p)else kas_descPart n nrem (kas_rev p 0 n)):=rfl
   rw[e0,eY];by_cases hr:rank (p.getD 0 0)<rank (p.getD (n-1) 0)
   ·rw[aR hr,if_pos rfl];exact⟨Array.Perm.refl _,a,by show n<=nrem;omega,c⟩
   ·rw[aG hr,if_neg aZ];have vo:∀k,0<=k->k<n->kk rank p k=kk rank p (n-1):=λk _ hk=>by
     have a1:=c 0 k (by omega) hk
     have a2:=c k (n-1) (by omega) (by omega)
     have a3:¬ kk rank p 0<kk rank p (n-1):=hr;omega
    have es:=sW (rank:=rank) (p:=p) (i:=0) (j:=n) (by omega) vo
    have t:=rK eY (p:=kas_rev p 0 n) (n:=n) (nrem:=nrem) (by omega) (by rw[vv];omega) (λi j vp hj=>by
     rw[es,es];by_cases Hy:j<n
     ·rw[vo i (by omega) (by omega),vo j (by omega) Hy];exact Int.le_refl _
     ·have e:j=n:=by omega
      subst e;by_cases hi:i=j
      ·subst hi;exact Int.le_refl _
      ·rw[vo i (by omega) (by omega)];exact Int.le_of_lt hl)
    exact⟨t.1.trans (i4 _ _ _),t.2⟩
  ·rw[if_neg Mw];have e:n=1:=by omega
   subst e;exact rK eY (by omega) hz (λi j vp hj=>by
    by_cases hi:i=j
    ·subst hi;exact Int.le_refl _
    ·have:i=0:=by omega
     have:j=1:=by omega
     subst_vars
     exact Int.le_of_lt hl)
theorem sX {p:Array Nat}{k:Nat}(hs:CB rank p k):∀(f l r:Nat),l<=r->r<=k->r-l<=f->(∀i,i<l->kk rank p i<=kk rank p k)->(∀i,r<=i->i<k->kk rank p k<kk rank p i)->
  let m:=iu lt (kas_place p k f l r);m<=k/\(∀i,i<m->kk rank p i<=kk rank p k)/\(∀i,m<=i->i<k->kk rank p k<kk rank p i)
 |0,l,r,h1,h2,h3,Q0,S4=>by
  have e:l=r:=by omega
  subst e;exact⟨h2,Q0,S4⟩
 |f+1,l,r,h1,h2,h3,Q0,S4=>by
  dsimp only;unfold kas_place;by_cases hg:l ≥ r
  ·rw[if_pos hg];have e:l=r:=by omega
   subst e;exact⟨h2,Q0,S4⟩
  ·rw[if_neg hg];simp only[iu];rw[eY];have sQ:l<=(l+r)/2:=by omega
   have oJ:(l+r)/2<r:=by omega
   generalize (l+r)/2=m at sQ oJ ⊢;by_cases c:rank (p.getD k 0)<rank (p.getD m 0)
   ·rw[aR c,if_pos rfl];have ih:=sX hs f l m sQ (by omega) (by omega) Q0 (λi a b=>Int.lt_of_lt_of_le c (hs m i a b))
    exact ih
   ·rw[aG c,if_neg aZ];have ih:=sX hs f (m+1) r (by omega) h2 (by omega) (λi a=>Int.le_trans (hs i m (by omega) (by omega)) (by show rank _<=rank _;omega)) S4
    exact ih
theorem xX {p:Array Nat}{src d:Nat}(hs:src<p.size) (hd:d<=src) (k:Nat):kk rank (bubble p src d) k=if k=src-d then kk rank p src else if src-d<k/\k<=src then kk rank p (k-1)else kk rank p k:=by
 have e:=getElem?_bubble hs d hd k;by_cases h1:k=src-d
 ·rw[if_pos h1]at e ⊢;exact AE e
 ·rw[if_neg h1]at e ⊢;by_cases h2:src-d<k/\k<=src
  ·rw[if_pos h2]at e ⊢;exact AE e
  ·rw[if_neg h2]at e ⊢;exact AE e
theorem Ee:∀(f:Nat) (p:Array Nat) (k:Nat),k+f<=p.size->CB rank p k->let r:=iu lt (kas_bin f p k);r.Perm p/\CB rank r (k+f)
 |0,p,k,hz,h=>⟨Array.Perm.refl _,h⟩
 |f+1,p,k,hz,h=>by
  dsimp only;unfold kas_bin;rw[lF];have pl:=sX eY h k 0 k (bL _) (au _) (by omega) (λi a=>absurd a (Nat.not_lt_zero _)) (λi a b=>by omega)
  dsimp only at pl;generalize iu lt (kas_place p k k 0 k)=l at pl ⊢;obtain⟨h1,h2,h3⟩:=pl;have ks:k<p.size:=by omega
  have inc:CB rank (bubble p k (k-l)) (k+1):=λi j vp hj=>by
   rw[xX eY ks (by omega),xX eY ks (by omega),show k-(k-l)=l by omega]
   by_cases hi:i=l
   ·rw[if_pos hi];by_cases NY:j=l
    ·rw[if_pos NY];exact Int.le_refl _
    ·rw[if_neg NY,if_pos (by omega)]
     exact Int.le_of_lt (h3 (j-1) (by omega) (by omega))
   ·rw[if_neg hi];by_cases Wi:l<i/\i<=k
    ·rw[if_pos Wi,if_neg (by omega),if_pos (by omega)]
     exact h (i-1) (j-1) (by omega) (by omega)
    ·rw[if_neg Wi];by_cases NY:j=l
     ·rw[if_pos NY];exact h2 i (by omega)
     ·rw[if_neg NY];by_cases Ug:l<j/\j<=k
      ·rw[if_pos Ug];exact h i (j-1) (by omega) (by omega)
      ·rw[if_neg Ug];exact h i j vp (by omega)
  have ih:=Ee f (bubble p k (k-l)) (k+1) (by rw[bubble_size];omega) inc
  dsimp only at ih;exact⟨ih.1.trans (bubble_perm _ _ _),by rw[show k+(f+1)=k+1+f by omega];exact ih.2⟩
theorem vw (n:Nat) (h1:1<=n):let r:=iu lt (kas_sort n);r.Perm (List.toArray (List.range n))/\CB rank r n:=by
 dsimp only;unfold kas_sort;rw[lF];have hz:(List.toArray (List.range n)).size=n:=by simp
 have c:=Fy eY (p:=List.toArray (List.range n)) h1 (by omega)
 dsimp only at c;generalize iu lt (kas_count n (List.toArray (List.range n)))=r at c ⊢;obtain⟨a,b,d,e⟩:=c;have sz:r.2.size=n:=a.size_eq.trans hz;by_cases Q9:r.1<n
 ·rw[if_pos Q9];have m:max r.1 1=r.1:=by omega
  rw[m];have bn:=Ee eY (n-r.1) r.2 r.1 (by omega) e
  dsimp only at bn;exact⟨bn.1.trans a,by have:=bn.2;rwa [show r.1+(n-r.1)=n by omega]at this⟩
 ·rw[if_neg Q9];have:r.1=n:=by omega
  exact⟨a,by show CB rank r.2 n;rw[<-this];exact e⟩
end
end So
namespace DL
open PySem PySem.Spec PyProof.Rows L2
inductive D where
 |fN|bl (b:Bool)|int (i:Int)|str (x:Str)|tup (ds:List D)|lst (ds:List D)
mutual
inductive Is (C:Hp):V->D->Prop where
 |fN:Is C .fN .fN
 |bl (b:Bool):Is C (.bl b) (.bl b)
 |int (i:Int):Is C (.int i) (.int i)
 |str (x:Str):Is C (.str x) (.str x)
 |tup {a:cD}{xs:List V}{ds:List D}:C a=some (.tup xs)->IsL C xs ds->Is C (.ref a) (.tup ds)
 |lst {a:cD}{xs:List V}{ds:List D}:Rd C a (.lst xs)->IsL C xs ds->Is C (.ref a) (.lst ds)
inductive IsL (C:Hp):List V->List D->Prop where
 |nil:IsL C [] []
 |cons {v:V}{d:D}{vs:List V}{ds:List D}:Is C v d->IsL C vs ds->IsL C (v::vs) (d::ds)
end
theorem _root_.L2.Rd.same {C C':Hp}(e:dR C C') {a:cD}{u:HO}(h:Rd C a u):Rd C' a u:=by
 rcases h with h|⟨o,h⟩
 ·exact .inl (e _ _ h)
 ·exact .inr ⟨o,e _ _ h⟩
mutual
theorem Is.mono {C C':Hp}(e:dR C C'):∀{v:V}{d:D},Is C v d->Is C' v d
 |_,_,.fN=>.fN
 |_,_,.bl b=>.bl b
 |_,_,.int i=>.int i
 |_,_,.str x=>.str x
 |_,_,.tup h l=>.tup (e _ _ h) (IsL.mono e l)
 |_,_,.lst h l=>.lst (h.same e) (IsL.mono e l)
theorem IsL.mono {C C':Hp}(e:dR C C'):∀{vs:List V}{ds:List D},IsL C vs ds->IsL C' vs ds
 |_,_,.nil=>.nil
 |_,_,.cons h t=>.cons (Is.mono e h) (IsL.mono e t)
end
section
variable {C:Hp}
theorem IsL.length:∀{vs:List V}{ds:List D},IsL C vs ds->vs.length=ds.length
 |_,_,.nil=>rfl
 |_,_,.cons _ t=>congrArg (·+1) (IsL.length t)
theorem IsL.get:∀{vs:List V}{ds:List D}{i:Nat}{d:D},IsL C vs ds->ds[i]? =some d->∃v,vs[i]? =some v/\Is C v d
 |_,_,_,_,.nil,e=>by simp at e
 |_,_,0,_,.cons h _,e=>by simp at e;subst e;exact⟨_,rfl,h⟩
 |_,_,i+1,_,.cons _ t,e=>by
  obtain⟨v,h1,h2⟩:=IsL.get (i:=i) t (by simpa using e)
  exact⟨v,by simpa using h1,h2⟩
theorem IsL.get':∀{vs:List V}{ds:List D}{i:Nat}{v:V},IsL C vs ds->vs[i]? =some v->∃d,ds[i]? =some d/\Is C v d
 |_,_,_,_,.nil,e=>by simp at e
 |_,_,0,_,.cons h _,e=>by simp at e;subst e;exact⟨_,rfl,h⟩
 |_,_,i+1,_,.cons _ t,e=>by
  obtain⟨v,h1,h2⟩:=IsL.get' (i:=i) t (by simpa using e)
  exact⟨v,by simpa using h1,h2⟩
theorem IsL.append:∀{vs ws:List V}{ds es:List D},IsL C vs ds->IsL C ws es->IsL C (vs++ws) (ds++es)
 |_,_,_,_,.nil,s=>s
 |_,_,_,_,.cons h t,s=>.cons h (IsL.append t s)
theorem IsL.take:∀{vs:List V}{ds:List D}(n:Nat),IsL C vs ds->IsL C (vs.take n) (ds.take n)
 |_,_,0,_=>.nil
 |_,_,_+1,.nil=>.nil
 |_,_,n+1,.cons h t=>.cons h (IsL.take n t)
theorem IsL.drop:∀{vs:List V}{ds:List D}(n:Nat),IsL C vs ds->IsL C (vs.drop n) (ds.drop n)
 |_,_,0,h=>h
 |_,_,_+1,.nil=>.nil
 |_,_,n+1,.cons _ t=>IsL.drop n t
theorem IsL.eraseIdx:∀{vs:List V}{ds:List D}(n:Nat),IsL C vs ds->IsL C (vs.eraseIdx n) (ds.eraseIdx n)
 |_,_,_,.nil=>.nil
 |_,_,0,.cons _ t=>t
 |_,_,n+1,.cons h t=>.cons h (IsL.eraseIdx n t)
theorem IsL.ints (ns:cn):IsL C (ns.map V.int) (ns.map D.int):=by
 induction ns with
 |nil=>exact .nil
 |cons n r ih=>exact .cons (.int n) ih
theorem IsL.mD:∀{ns:cn}{vs:List V},IsL C vs (ns.map D.int)->vs=ns.map V.int
 |[],_,.nil=>rfl
 |n::r,_,.cons (.int _) t=>by rw[IsL.mD t];rfl
theorem IsL.CG:∀{bs:List Bool}{vs:List V},IsL C vs (bs.map D.bl)->vs=bs.map V.bl
 |[],_,.nil=>rfl
 |n::r,_,.cons (.bl _) t=>by rw[IsL.CG t];rfl
theorem IsL.one {v:V}{d:D}(h:Is C v d):IsL C [v] [d]:=.cons h .nil
end
structure oK (C H C' H':Hp):Prop where
 c:dR C C'
 h:dR H H'
 s:dR C' H'
 n:∀a u,C' a=some u->C a=some u\/H a=none
theorem eD {H:Hp}{p:cD}{o:HO}(h:H p=none):dR H (upd H p o):=λb u q=>by rw[cQ (cS q h)];exact q
noncomputable def B3:HO->Bool
 |.ext _=>true
 |.ins _ _ _=>true
 |.own _=>true
 |.dK _=>true
 |_=>false
class Mem where
 cell:cp
 face:cp
 ok:Hp->Hp->Prop
 has:Hp->Hp->D->Prop
 rel:Hp->Hp->Hp->Hp->Prop
 of0:∀{C H C' H':Hp},oK C H C' H'->rel C H C' H'
 trans:∀{C H C' H' C2 H2:Hp},rel C H C' H'->rel C' H' C2 H2->rel C H C2 H2
 chg:∀{C H C' H':Hp}{a:cD}{o:HO},rel C H C' H'->H a=none->rel C H C' (upd H' a o)
 give:∀{C H C' H':Hp}{a:cD}{o:HO},rel C H C' H'->C' a=none->H' a=some o->B3 o=false->rel C H (upd C' a o) H'
 S5:∀{C H C' H':Hp},rel C H C' H'->ok C H->ok C' H'
 KN:∀{C H C' H':Hp}{k:D},rel C H C' H'->ok C H->has C H k->has C' H' k
 Ra:∀{C H:Hp}{a:cD}{o:HO},ok C H->(∀u,H a=some u->B3 u=false)->ok C (upd H a o)
 HA:∀{C H:Hp}{a:cD}{o:HO}{k:D},ok C H->(∀u,H a=some u->B3 u=false)->has C H k->has C (upd H a o) k
 S6:∀{C H:Hp}{a:cD}{o:HO},ok C H->C a=none->H a=some o->B3 o=false->ok (upd C a o) H
 KO:∀{C H:Hp}{a:cD}{o:HO}{k:D},ok C H->C a=none->H a=some o->B3 o=false->has C H k->has (upd C a o) H k
@[reducible] noncomputable def Mem.keep:Mem where
 cell:=none
 face:=none
 ok:=λ_ _=>True
 has:=λ_ _ _=>False
 rel:=λ_ H _ H'=>dR H H'
 of0:=λe=>e.h
 trans:=λa b=>a.trans b
 chg:=λ{_ _ _ _ a o} r h b u q=>by rw[cQ (cS q h)];exact r b u q
 give:=λr _ _ _=>r
 S5:=λ_ _=>trivial
 KN:=λ_ _ h=>h
 Ra:=λ_ _=>trivial
 HA:=λ_ _ h=>h
 S6:=λ_ _ _ _=>trivial
 KO:=λ_ _ _ _ h=>h
structure Ev [m:Mem] (C H C' H':Hp):Prop where
 c:dR C C'
 h:∀b o,H b=some o->(m.cell≠some b\/B3 o=false)->H' b=some o
 x:∀b o,H b=some o->m.cell=some b->B3 o=true->∃o',H' b=some o'/\B3 o'=true
 s:dR C' H'
 n:∀a u,C' a=some u->C a=some u\/H a=none
 r:m.rel C H C' H'
section
variable {C H C' H' C2 H2:Hp}
theorem oK.refl (s:dR C H):oK C H C H:=⟨dR.refl _,dR.refl _,s,λ_ _ e=>.inl e⟩
theorem oK.trans (a:oK C H C' H') (b:oK C' H' C2 H2):oK C H C2 H2:=
 ⟨a.c.trans b.c,a.h.trans b.h,b.s,λp u e=>(b.n p u e).elim (a.n p u) λz=>.inr (a.h.free z)⟩
theorem oK.new (s:dR C H) {p:cD}{o:HO}(h:H p=none):oK C H (upd C p o) (upd H p o):=
 ⟨eD (s.free h),eD h,λb u q=>by
  by_cases e:b=p
  ·subst e;rw[cU]at q ⊢;exact q
  ·rw[cQ e]at q ⊢;exact s b u q,λb u q=>by
  by_cases e:b=p
  ·subst e;exact .inr h
  ·rw[cQ e]at q;exact .inl q⟩
theorem oK.fu (s:dR C H) {p:cD}{o:HO}(h:H p=none):oK C H C (upd H p o):=
 ⟨dR.refl _,eD h,s.trans (eD h),λ_ _ e=>.inl e⟩
theorem Ev.ue (e:@Ev Mem.keep C H C' H'):oK C H C' H':=⟨@Ev.c Mem.keep _ _ _ _ e,@Ev.r Mem.keep _ _ _ _ e,@Ev.s Mem.keep _ _ _ _ e,@Ev.n Mem.keep _ _ _ _ e⟩
variable [Mem]
theorem oK.up (e:oK C H C' H'):Ev C H C' H':=⟨e.c,λb o q _=>e.h b o q,λb o q _ x=>⟨o,e.h b o q,x⟩,e.s,e.n,Mem.of0 e⟩
theorem Ev.free (e:Ev C H C' H') {a:cD}(h:H' a=none):H a=none:=by
 cases q:H a with
 |none=>rfl
 |some o=>
  cases hx:B3 o with
  |false=>rw[e.h a o q (.inr hx)]at h;cases h
  |true=>
   by_cases hc:Mem.cell=some a
   ·obtain⟨o',h1,_⟩:=e.x a o q hc hx;rw[h1]at h;cases h
   ·rw[e.h a o q (.inl hc)]at h;cases h
theorem Ev.hh (e:Ev C H C' H') {a:cD}{o:HO}(h:H a=some o) (hx:B3 o=false:=by rfl):H' a=some o:=e.h a o h (.inr hx)
theorem Ev.refl (s:dR C H):Ev C H C H:=(oK.refl s).up
theorem Ev.trans (a:Ev C H C' H') (b:Ev C' H' C2 H2):Ev C H C2 H2:=
 ⟨a.c.trans b.c,λp o q x=>b.h p o (a.h p o q x) x,λp o q c x=>let ⟨o',h1,h2⟩:=a.x p o q c x;b.x p o' h1 c h2,b.s,λp u e=>(b.n p u e).elim (a.n p u) λz=>.inr (a.free z),Mem.trans a.r b.r⟩
theorem Ev.new (s:dR C H) {p:cD}{o:HO}(h:H p=none):Ev C H (upd C p o) (upd H p o):=(oK.new s h).up
theorem Ev.fu (s:dR C H) {p:cD}{o:HO}(h:H p=none):Ev C H C (upd H p o):=(oK.fu s h).up
theorem Ev.nn (a:Ev C H C' H') {p:cD}(h:C p=none) {u:HO}(h2:H p=some u):C' p=none:=by
 cases q:C' p with
 |none=>rfl
 |some o=>rcases a.n p o q with z|z<;>simp_all
theorem Ev.Ef (e:Ev C H C' H') {a:cD}(hn:H a=none) (hc:C' a=none) (o:HO):Ev C H C' (upd H' a o):=
 ⟨e.c,λb u q x=>by rw[cQ (cS q hn)];exact e.h b u q x,λb u q c x=>by rw[cQ (cS q hn)];exact e.x b u q c x,λb u q=>by rw[cQ (cS q hc)];exact e.s b u q,e.n,Mem.chg e.r hn⟩
theorem Ev.Mx (e:Ev C H C' H') {a:cD}{o:HO}(hn:H a=none) (hc:C' a=none) (ho:H' a=some o) (hx:B3 o=false:=by rfl):Ev C H (upd C' a o) H':=
 ⟨e.c.trans (eD hc),e.h,e.x,λb u z=>by
   by_cases hb:b=a
   ·subst hb;rw[cU]at z;cases z;exact ho
   ·rw[cQ hb]at z;exact e.s b u z,λb u z=>by
   by_cases hb:b=a
   ·subst hb;exact .inr hn
   ·rw[cQ hb]at z;exact e.n b u z,Mem.give e.r hc ho hx⟩
end
inductive Sl where
 |no|dat (d:D)|own (ds:List D)|memo (ks:List D)
noncomputable abbrev dM:=List Sl
structure Sx [m:Mem] (δ:dM) (σ:L2.St) (C H:Hp):Prop where
 sub:dR C H
 dat:∀(i:Nat) (d:D),δ[i]? =some (.dat d)->∃v,σ[i]? =some (some v)/\Is C v d
 own:∀(i:Nat) (ds:List D),δ[i]? =some (.own ds)->∃(a:cD) (xs:List V),σ[i]? =some (some (.ref a))/\C a=none/\H a=some (.lst xs)/\IsL C xs ds
 za:∀(i j:Nat) (ds es:List D) (a:cD),δ[i]? =some (.own ds)->δ[j]? =some (.own es)->σ[i]? =some (some (.ref a))->σ[j]? =some (some (.ref a))->i=j
 len:δ.length=σ.length
 mem:∀(i:Nat) (ks:List D),δ[i]? =some (.memo ks)->∃a:cD,m.face=some a/\σ[i]? =some (some (.ref a))/\m.ok C H/\∀k∈ks,m.has C H k
section
variable [Mem] {δ:dM}{σ:L2.St}{C H C' H':Hp}
theorem Sx.ev (x:Sx δ σ C H) (e:Ev C H C' H'):Sx δ σ C' H' where
 sub:=e.s
 dat:=λi d q=>let ⟨v,h1,h2⟩:=x.dat i d q;⟨v,h1,h2.mono e.c⟩
 own:=λi ds q=>let ⟨a,xs,h1,h2,h3,h4⟩:=x.own i ds q;⟨a,xs,h1,e.nn h2 h3,e.hh h3,h4.mono e.c⟩
 za:=x.za
 len:=x.len
 mem:=λi ks q=>let ⟨a,h1,h2,h3,h4⟩:=x.mem i ks q;⟨a,h1,h2,Mem.S5 e.r h3,λk hk=>Mem.KN e.r h3 (h4 k hk)⟩
omit [Mem] in
theorem getElem?_set_cases {α:Type}{l:List α}{i j:Nat}{a b:α}(h:(l.set i a)[j]? =some b):(j=i/\b=a)\/(j≠i/\l[j]? =some b):=by
 by_cases e:j=i
 ·subst e;by_cases hl:j<l.length
  ·rw[bc hl]at h;exact .inl ⟨rfl,(aS h).symm⟩
  ·have:(l.set j a)[j]? =none:=by simp;omega
   rw[this]at h;cases h
 ·rw[aF (Ne.symm e)]at h;exact .inr ⟨e,h⟩
omit [Mem] in
theorem CH {α:Type}{l:List α}{i:Nat}{a b:α}(h:(l.set i a)[i]? =some b):i<l.length:=by
 by_cases hl:i<l.length
 ·exact hl
 ·have:(l.set i a)[i]? =none:=by simp;omega
  rw[this]at h;cases h
theorem Sx.nJ (x:Sx δ σ C H) {i:Nat}{v:V}{d:D}(h:Is C v d):Sx (δ.set i (.dat d)) (σ.set i (some v)) C H where
 sub:=x.sub
 dat:=λk d' q=>by
  rcases getElem?_set_cases q with⟨rfl,e⟩|⟨hk,e⟩
  ·cases e;have:=CH q;exact⟨v,by rw[bc (by rw[<-x.len];exact this)],h⟩
  ·obtain⟨v',h1,h2⟩:=x.dat k d' e;exact⟨v',by rw[aF (Ne.symm hk)];exact h1,h2⟩
 own:=λk ds q=>by
  rcases getElem?_set_cases q with⟨rfl,e⟩|⟨hk,e⟩
  ·cases e
  ·obtain⟨a,xs,h1,h2⟩:=x.own k ds e;exact⟨a,xs,by rw[aF (Ne.symm hk)];exact h1,h2⟩
 za:=λk l ds es a q1 q2 q3 q4=>by
  rcases getElem?_set_cases q1 with⟨_,e1⟩|⟨hk,e1⟩
  ·cases e1
  rcases getElem?_set_cases q2 with⟨_,e2⟩|⟨hl,e2⟩
  ·cases e2
  rw[aF (Ne.symm hk)]at q3;rw[aF (Ne.symm hl)]at q4;exact x.za k l ds es a e1 e2 q3 q4
 len:=by simp[x.len]
 mem:=λk ks q=>by
  rcases getElem?_set_cases q with⟨rfl,e⟩|⟨hk,e⟩
  ·cases e
  ·obtain⟨a,h1,h2,h3⟩:=x.mem k ks e;exact⟨a,h1,by rw[aF (Ne.symm hk)];exact h2,h3⟩
theorem Sx.zd (x:Sx δ σ C H) {i:Nat}{a:cD}{xs:List V}{ds:List D}(hc:C a=none) (hH:H a=some (.lst xs)) (hl:IsL C xs ds)
  (hn:∀(k:Nat) (es:List D),δ[k]? =some (.own es)->σ[k]? ≠some (some (.ref a))):Sx (δ.set i (.own ds)) (σ.set i (some (.ref a))) C H where
 sub:=x.sub
 dat:=λk d' q=>by
  rcases getElem?_set_cases q with⟨rfl,e⟩|⟨hk,e⟩
  ·cases e
  ·obtain⟨v',h1,h2⟩:=x.dat k d' e;exact⟨v',by rw[aF (Ne.symm hk)];exact h1,h2⟩
 own:=λk es q=>by
  rcases getElem?_set_cases q with⟨rfl,e⟩|⟨hk,e⟩
  ·cases e;have:=CH q;exact⟨a,xs,by rw[bc (by rw[<-x.len];exact this)],hc,hH,hl⟩
  ·obtain⟨b,ys,h1,h2⟩:=x.own k es e;exact⟨b,ys,by rw[aF (Ne.symm hk)];exact h1,h2⟩
 za:=λk l AF es b q1 q2 q3 q4=>by
  rcases getElem?_set_cases q1 with⟨hk,e1⟩|⟨hk,e1⟩
  ·rcases getElem?_set_cases q2 with⟨g9,e2⟩|⟨g9,e2⟩
   ·rw[hk,g9]
   ·subst hk;have e3:=getElem?_set_cases q3;rcases e3 with⟨_,e3⟩|⟨z,_⟩
    ·cases e3;rw[aF (Ne.symm g9)]at q4;exact absurd q4 (hn l es e2)
    ·exact absurd rfl z
  ·rcases getElem?_set_cases q2 with⟨g9,e2⟩|⟨g9,e2⟩
   ·subst g9;rcases getElem?_set_cases q4 with⟨_,e4⟩|⟨z,_⟩
    ·cases e4;rw[aF (Ne.symm hk)]at q3;exact absurd q3 (hn k AF e1)
    ·exact absurd rfl z
   ·rw[aF (Ne.symm hk)]at q3;rw[aF (Ne.symm g9)]at q4;exact x.za k l AF es b e1 e2 q3 q4
 len:=by simp[x.len]
 mem:=λk ks q=>by
  rcases getElem?_set_cases q with⟨rfl,e⟩|⟨hk,e⟩
  ·cases e
  ·obtain⟨a,h1,h2,h3⟩:=x.mem k ks e;exact⟨a,h1,by rw[aF (Ne.symm hk)];exact h2,h3⟩
theorem Sx.mut (x:Sx δ σ C H) {i:Nat}{a:cD}{ys:List V}{ds es:List D}(hi:δ[i]? =some (.own ds)) (ha:σ[i]? =some (some (.ref a))) (hl:IsL C ys es):
  Sx (δ.set i (.own es)) σ C (upd H a (.lst ys))where
 sub:=λb u q=>by
  obtain⟨a',xs,h1,h2,_⟩:=x.own i ds hi;rw[ha]at h1;cases h1;have:b≠a:=λz=>by rw[z,h2]at q;cases q
  rw[cQ this];exact x.sub b u q
 dat:=λk d' q=>by
  rcases getElem?_set_cases q with⟨rfl,e⟩|⟨hk,e⟩
  ·cases e
  ·exact x.dat k d' e
 own:=λk fs q=>by
  obtain⟨a',xs,h1,h2,_⟩:=x.own i ds hi;rw[ha]at h1;cases h1;rcases getElem?_set_cases q with⟨rfl,e⟩|⟨hk,e⟩
  ·cases e;exact⟨a,ys,ha,h2,cU,hl⟩
  ·obtain⟨b,zs,Aj,B4,Fz,KP⟩:=x.own k fs e;have:b≠a:=λz=>by subst z;exact hk (x.za k i fs ds b e hi Aj ha)
   exact⟨b,zs,Aj,B4,by rw[cQ this];exact Fz,KP⟩
 za:=λk l AF G1 b q1 q2 q3 q4=>by
  have HB:∀{k:Nat}{G1:List D},(δ.set i (Sl.own es))[k]? =some (.own G1)->∃fs,δ[k]? =some (.own fs):=λ{k G1} q=>by
   rcases getElem?_set_cases q with⟨rfl,e⟩|⟨hk,e⟩
   ·exact⟨ds,hi⟩
   ·exact⟨_,e⟩
  obtain⟨f1,e1⟩:=HB q1;obtain⟨f2,e2⟩:=HB q2;exact x.za k l f1 f2 b e1 e2 q3 q4
 len:=by simp[x.len]
 mem:=λk ks q=>by
  obtain⟨a',xs,h1,h2,h3,_⟩:=x.own i ds hi;rw[ha]at h1;cases h1;have hx:∀u,H a=some u->B3 u=false:=λu q=>by rw[h3]at q;cases q;rfl
  rcases getElem?_set_cases q with⟨rfl,e⟩|⟨hk,e⟩
  ·cases e
  ·obtain⟨b,h1,h2,h3,h4⟩:=x.mem k ks e;exact⟨b,h1,h2,Mem.Ra h3 hx,λk hk=>Mem.HA h3 hx (h4 k hk)⟩
theorem Sx.give (x:Sx δ σ C H) {i:Nat}{a:cD}{xs:List V}{ds:List D}(hi:δ[i]? =some (.own ds)) (ha:σ[i]? =some (some (.ref a))) (hH:H a=some (.lst xs)) (hl:IsL C xs ds):
  Sx (δ.set i (.dat (.lst ds))) σ (upd C a (.lst xs)) H:=by
 obtain⟨a',xs',h1,h2,h3,_⟩:=x.own i ds hi;rw[ha]at h1;cases h1;have sc:dR C (upd C a (.lst xs)):=eD h2;exact {
  sub:=λb u q=>by
   by_cases e:b=a
   ·subst e;rw[cU]at q;cases q;exact hH
   ·rw[cQ e]at q;exact x.sub b u q
  dat:=λk d' q=>by
   rcases getElem?_set_cases q with⟨rfl,e⟩|⟨hk,e⟩
   ·cases e;exact⟨_,ha,.lst (.inl cU) (hl.mono sc)⟩
   ·obtain⟨v,q1,q2⟩:=x.dat k d' e;exact⟨v,q1,q2.mono sc⟩
  own:=λk fs q=>by
   rcases getElem?_set_cases q with⟨rfl,e⟩|⟨hk,e⟩
   ·cases e
   ·obtain⟨b,zs,Aj,B4,Fz,KP⟩:=x.own k fs e;have:b≠a:=λz=>by subst z;exact hk (x.za k i fs ds b e hi Aj ha)
    exact⟨b,zs,Aj,by rw[cQ this];exact B4,Fz,KP.mono sc⟩
  za:=λk l AF G1 b q1 q2 q3 q4=>by
   rcases getElem?_set_cases q1 with⟨_,e1⟩|⟨_,e1⟩
   ·cases e1
   rcases getElem?_set_cases q2 with⟨_,e2⟩|⟨_,e2⟩
   ·cases e2
   exact x.za k l AF G1 b e1 e2 q3 q4
  len:=by simp[x.len]
  mem:=λk ks q=>by
   rcases getElem?_set_cases q with⟨rfl,e⟩|⟨hk,e⟩
   ·cases e
   ·obtain⟨b,h1,B4,h3,h4⟩:=x.mem k ks e;exact⟨b,h1,B4,Mem.S6 h3 h2 hH rfl,λk hk=>Mem.KO h3 h2 hH rfl (h4 k hk)⟩}
end
variable [Mem]
def oW (C H:Hp) (v:V) (d:D):Prop:=Is C v d\/∃a xs ds,v=.ref a/\d=.lst ds/\C a=none/\H a=some (.lst xs)/\IsL C xs ds
noncomputable def tD (f:dM->Option D):TE:=λσ H Q=>∃C δ d,Sx δ σ C H/\f δ=some d/\∀v C' H',Ev C H C' H'->Is C' v d->Q v H'
noncomputable def tO (f:dM->Option D):TE:=λσ H Q=>∃C δ d,Sx δ σ C H/\f δ=some d/\∀v C' H',Ev C H C' H'->oW C' H' v d->Q v H'
noncomputable def tF (f:dM->Option (List D)):TE:=λσ H Q=>∃C δ ds,Sx δ σ C H/\f δ=some ds/\∀a xs C' H',Ev C H C' H'->H a=none->C' a=none->H' a=some (.lst xs)->IsL C' xs ds->Q (.ref a) H'
noncomputable def tQ (f:dM->Option Bool):TT:=λσ H Q=>∃C δ b,Sx δ σ C H/\f δ=some b/\∀C' H',Ev C H C' H'->Q b H'
noncomputable def P8 (f:dM->Option (List D)):TA:=λσ H Q=>∃C δ ds,Sx δ σ C H/\f δ=some ds/\∀vs C' H',Ev C H C' H'->IsL C' vs ds->Q vs H'
abbrev PD (X:Cx) (e:cE) (f:dM->Option D):Prop:=PE X e (tD f)
abbrev PO (X:Cx) (e:cE) (f:dM->Option D):Prop:=PE X e (tO f)
abbrev PF (X:Cx) (e:cE) (f:dM->Option (List D)):Prop:=PE X e (tF f)
abbrev PQ (X:Cx) (e:cE) (f:dM->Option Bool):Prop:=PT X e (tQ f)
abbrev GS (X:Cx) (es:List cE) (f:dM->Option (List D)):Prop:=PA X es (P8 f)
omit [Mem] in
theorem _root_.L2.PE.imp {X:Cx}{e:cE}{t t':TE}(h:PE X e t) (m:∀σ H Q,t' σ H Q->t σ H Q):PE X e t':=λpins s σ H Q I q=>h pins s σ H Q I (m σ H Q q)
omit [Mem] in
theorem _root_.L2.PT.imp {X:Cx}{e:cE}{t t':TT}(h:PT X e t) (m:∀σ H Q,t' σ H Q->t σ H Q):PT X e t':=λpins s σ H Q I q=>h pins s σ H Q I (m σ H Q q)
omit [Mem] in
theorem _root_.L2.PW.imp {X:Cx}{e:cE}{t t':TT}(h:PW X e t) (m:∀σ H Q,t' σ H Q->t σ H Q):PW X e t':=λwhole pins s σ H Q I q=>h whole pins s σ H Q I (m σ H Q q)
omit [Mem] in
theorem _root_.L2.PA.imp {X:Cx}{es:List cE}{t t':TA}(h:PA X es t) (m:∀σ H Q,t' σ H Q->t σ H Q):PA X es t':=λpos pins s σ H Q I q=>h pos pins s σ H Q I (m σ H Q q)
omit [Mem] in
theorem _root_.L2.PS.imp {X:Cx}{st:cF}{t t':TS}(h:PS X st t) (m:∀Dn σ H,t' Dn σ H->t Dn σ H):PS X st t':=λpins s σ H Dn I q=>h pins s σ H Dn I (m Dn σ H q)
omit [Mem] in
theorem _root_.L2.xP.imp {X:Cx}{st:List cF}{t t':TS}(h:xP X st t) (m:∀Dn σ H,t' Dn σ H->t Dn σ H):xP X st t':=λpins s σ H Dn I q=>h pins s σ H Dn I (m Dn σ H q)
section
variable {X:Cx}{e a b c:cE}{pos:Pos}
theorem PD.o {f:dM->Option D}(h:PD X e f):PO X e f:=h.imp λσ H Q ⟨C,δ,d,x,q,k⟩=>⟨C,δ,d,x,q,λv C' H' ev i=>k v C' H' ev (.inl i)⟩
noncomputable def dL (f:dM->Option (List D)):dM->Option D:=λδ=>(f δ).map D.lst
theorem PF.d {f:dM->Option (List D)}(h:PF X e f):PD X e (dL f):=h.imp λσ H Q ⟨C,δ,d,x,q,k⟩=>by
 unfold dL at q;cases hf:f δ with
 |none=>rw[hf]at q;cases q
 |some ds=>
  rw[hf]at q;have q':d=.lst ds:=(aS q).symm;subst q';exact⟨C,δ,ds,x,hf,λa xs C' H' ev h1 h2 h3 h4=>k (.ref a) (upd C' a (.lst xs)) H' (ev.Mx h1 h2 h3) (.lst (.inl cU) (h4.mono (eD h2)))⟩
noncomputable def cP (i:Nat):dM->Option D:=λδ=>match δ[i]? with|some (.dat d)=>some d|_=>none
noncomputable def de (i:Nat):dM->Option D:=λδ=>match δ[i]? with|some (.dat d)=>some d|some (.own ds)=>some (.lst ds)|_=>none
noncomputable def dC (d:D):dM->Option D:=λ_=>some d
theorem FA {i:Nat}(h:PE X e (ir i)):PD X e (cP i):=h.imp λσ H Q ⟨C,δ,d,x,q,k⟩=>by
 unfold cP at q;split at q
 ·rename_i d' hd;cases q;obtain⟨v,h1,h2⟩:=x.dat i _ hd;exact⟨v,h1,k v C H (.refl x.sub) h2⟩
 ·cases q
theorem FC {i:Nat}(h:PE X e (ir i)):PO X e (de i):=h.imp λσ H Q ⟨C,δ,d,x,q,k⟩=>by
 unfold de at q;split at q
 ·rename_i d' hd;cases q;obtain⟨v,h1,h2⟩:=x.dat i _ hd;exact⟨v,h1,k v C H (.refl x.sub) (.inl h2)⟩
 ·rename_i ds hd;cases q;obtain⟨a,xs,h1,h2,h3,h4⟩:=x.own i _ hd;exact⟨_,h1,k _ C H (.refl x.sub) (.inr ⟨a,xs,ds,rfl,rfl,h2,h3,h4⟩)⟩
 ·cases q
theorem ze {v:V}{d:D}(h:PE X e (tC v)) (hd:∀C,Is C v d):PD X e (dC d):=h.imp λσ H Q ⟨C,δ,d',x,q,k⟩=>by
 cases q;exact k v C H (.refl x.sub) (hd C)
theorem N0 {i:Int}{j:Nat}:PD X (.Constant (.int i) j pos) (dC (.int i)):=ze B9 λ_=>.int i
theorem Rb {i:Bool}{j:Nat}:PD X (.Constant (.bool i) j pos) (dC (.bl i)):=ze Qp λ_=>.bl i
theorem KQ {x:Str}{i:Int}{t:Tok}(hg:Gl X x) (hm:X.mg x=some (.int i t)) (hd:(x==("__debug__":Str))=false:=by decide):PD X (.Name x pos) (dC (.int i)):=ze (Kb (v:=.int i) hg hm ⟨t,rfl⟩ hd) λ_=>.int i
def My (r:R2) (op:D->D->Option D):Prop:=∀C H x y dx dy d Q,dR C H->oW C H x dx->oW C H y dy->op dx dy=some d->(∀v C' H',oK C H C' H'->Is C' v d->Q v H')->r x y H Q
def S7 (r:R2) (op:D->D->Option (List D)):Prop:=∀C H x y dx dy ds Q,dR C H->oW C H x dx->oW C H y dy->op dx dy=some ds->(∀a xs C' H',oK C H C' H'->H a=none->C' a=none->H' a=some (.lst xs)->IsL C' xs ds->Q (.ref a) H')->r x y H Q
noncomputable def dt {α:Type}(op:D->D->Option α) (f g:dM->Option D):dM->Option α:=λδ=>(f δ).bind λx=>(g δ).bind λy=>op x y
theorem oW.ev {C H C' H':Hp}{v:V}{d:D}(h:oW C H v d) (e:Ev C H C' H'):oW C' H' v d:=by
 rcases h with h|⟨a,xs,ds,h1,h2,h3,h4,h5⟩
 ·exact .inl (h.mono e.c)
 ·exact .inr ⟨a,xs,ds,h1,h2,e.nn h3 h4,e.hh h4,h5.mono e.c⟩
theorem Eg {r:R2}{op:D->D->Option D}{f g:dM->Option D}(hd:My r op):∀σ H Q,tD (dt op f g) σ H Q->P0 r (tO f) (tO g) σ H Q:=λσ H Q ⟨C,δ,d,x,q,k⟩=>by
 unfold dt at q;cases hf:f δ with
 |none=>rw[hf]at q;cases q
 |some dx=>
  cases hg:g δ with
  |none=>rw[hf,hg]at q;cases q
  |some dy=>
   rw[hf,hg]at q;refine⟨C,δ,dx,x,hf,λv C1 H1 e1 i1=>⟨C1,δ,dy,x.ev e1,hg,λu C2 H2 e2 i2=>hd C2 H2 v u dx dy d Q e2.s (i1.ev e2) i2 q λw C3 H3 e3 i3=>k w C3 H3 ((e1.trans e2).trans e3.up) i3⟩⟩
theorem Rc {r:R2}{op:D->D->Option (List D)}{f g:dM->Option D}(hd:S7 r op):∀σ H Q,tF (dt op f g) σ H Q->P0 r (tO f) (tO g) σ H Q:=λσ H Q ⟨C,δ,d,x,q,k⟩=>by
 unfold dt at q;cases hf:f δ with
 |none=>rw[hf]at q;cases q
 |some dx=>
  cases hg:g δ with
  |none=>rw[hf,hg]at q;cases q
  |some dy=>
   rw[hf,hg]at q;refine⟨C,δ,dx,x,hf,λv C1 H1 e1 i1=>⟨C1,δ,dy,x.ev e1,hg,λu C2 H2 e2 i2=>hd C2 H2 v u dx dy d Q e2.s (i1.ev e2) i2 q λa xs C3 H3 e3 h3=>k a xs C3 H3 ((e1.trans e2).trans e3.up) ((e1.trans e2).free h3)⟩⟩
theorem xY {op:Operator}{r:R2}{o:D->D->Option D}{f g:dM->Option D}(ho:t9 X (binaryOp op) r) (hd:My r o) (ha:PO X a f) (hb:PO X b g):PD X (.BinOp a op b pos) (dt o f g):=(G8 ho ha hb).imp (Eg hd)
theorem Mz {op:Operator}{r:R2}{o:D->D->Option (List D)}{f g:dM->Option D}(ho:t9 X (binaryOp op) r) (hd:S7 r o) (ha:PO X a f) (hb:PO X b g):PF X (.BinOp a op b pos) (dt o f g):=(G8 ho ha hb).imp (Rc hd)
theorem Rf {r:R2}{o:D->D->Option D}{f g:dM->Option D}(ho:Hn X r) (hd:My r o) (ha:PO X a f) (hb:PO X b g) (hs:pX b):PD X (.Subscript a b pos) (dt o f g):=(Mv ho ha hb hs).imp (Eg hd)
noncomputable def oI (g:Int->Int->D):D->D->Option D
 |.int i,.int j=>some (g i j)
 |_,_=>none
noncomputable def Eh (c:Int->Int->Bool) (g:Int->Int->D):D->D->Option D
 |.int i,.int j=>if c i j=true then some (g i j)else none
 |_,_=>none
theorem oW.int {C H:Hp}{v:V}{i:Int}(h:oW C H v (.int i)):v=.int i:=by
 rcases h with h|⟨_,_,_,_,z,_⟩
 ·cases h;rfl
 ·cases z
theorem oW.is {C H:Hp}{v:V}{d:D}(h:oW C H v d) (hd:∀ds,d≠.lst ds):Is C v d:=by
 rcases h with h|⟨_,_,ds,_,z,_⟩
 ·exact h
 ·exact absurd z (hd ds)
theorem HC {gV:Int->Int->V}{g:Int->Int->D}(h:∀C i j,Is C (gV i j) (g i j)):My (Mq gV) (oI g):=λC H x y dx dy d Q s ix iy q k=>by
 unfold oI at q;split at q
 ·rename_i i j;cases q;exact⟨i,j,ix.int,iy.int,k _ C H (.refl s) (h C i j)⟩
 ·cases q
theorem HD {P:Int->Int->Prop}{c:Int->Int->Bool}{gV:Int->Int->V}{g:Int->Int->D}(hc:∀i j,c i j=true->P i j) (h:∀C i j,Is C (gV i j) (g i j)):My (rI P gV) (Eh c g):=λC H x y dx dy d Q s ix iy q k=>by
 unfold Eh at q;split at q
 ·rename_i i j;split at q
  ·rename_i PY;cases q;exact⟨i,j,ix.int,iy.int,hc i j PY,k _ C H (.refl s) (h C i j)⟩
  ·cases q
 ·cases q
noncomputable def jN:=oI λi j=>.int (i+j)
noncomputable def qS:=oI λi j=>.int (i-j)
noncomputable def FD (i j:Int):Bool:=(decide (-(2^64)<i)&&decide (i<2^64))||(decide (-(2^64)<j)&&decide (j<2^64))
noncomputable def rL:=Eh FD λi j=>.int (i*j)
noncomputable def N1 (_ j:Int):Bool:=decide (0<j)&&decide (j<1073741824)
noncomputable def FE:=Eh N1 λi j=>.int (i/j)
noncomputable def CI (_ j:Int):Bool:=decide (0<j)
noncomputable def xn:=Eh CI λi j=>.int (i%j)
theorem N4 {f g:dM->Option D}(ha:PO X a f) (hb:PO X b g):PD X (.BinOp a .Add b pos) (dt jN f g):=xY G9 (HC λ_ _ _=>.int _) ha hb
theorem N5 {f g:dM->Option D}(ha:PO X a f) (hb:PO X b g):PD X (.BinOp a .Sub b pos) (dt qS f g):=xY ND (HC λ_ _ _=>.int _) ha hb
theorem N6 {f g:dM->Option D}(ha:PO X a f) (hb:PO X b g):PD X (.BinOp a .Mult b pos) (dt rL f g):=xY NF (HD (λi j h=>by
 unfold FD at h;unfold Kh
 simpa using h) λ_ _ _=>.int _) ha hb
theorem N7 {f g:dM->Option D}(ha:PO X a f) (hb:PO X b g):PD X (.BinOp a .FloorDiv b pos) (dt FE f g):=xY Ki (HD (λi j h=>by
 unfold N1 at h;unfold QB
 simpa using h) λ_ _ _=>.int _) ha hb
theorem N8 {f g:dM->Option D}(ha:PO X a f) (hb:PO X b g):PD X (.BinOp a .Mod b pos) (dt xn f g):=xY NG (HD (λi j h=>by
 unfold CI at h
 simpa using h) λ_ _ _=>.int _) ha hb
noncomputable def N9:=oI λi j=>.bl (decide (i<=j))
noncomputable def Oa:=oI λi j=>.bl (decide (j<i))
noncomputable def Uh:=oI λi j=>.bl (decide (j<=i))
def vy (X:Cx) (op:CmpOp) (o:D->D->Option D):Prop:=∃r,t9 X (compareOp op) r/\My r o
theorem Rg:vy X .LtE N9:=⟨_,QC,HC λ_ _ _=>.bl _⟩
theorem Rh:vy X .Gt Oa:=⟨_,QD,HC λ_ _ _=>.bl _⟩
theorem Ui:vy X .GtE Uh:=⟨_,QE,HC λ_ _ _=>.bl _⟩
theorem Ob {op:CmpOp}{o:D->D->Option D}{f g:dM->Option D}(c:vy X op o) (ha:PO X a f) (hb:PO X b g) (hm:behindInMarks op b=false:=by first|exact vj _|rfl):PD X (.Compare a [op] [b] pos) (dt o f g):=by
 obtain⟨r,ho,hd⟩:=c;exact(Kj ho ha hb hm).imp (Eg hd)
noncomputable def qB (f:dM->Option D):dM->Option Bool:=λδ=>match f δ with|some (.bl b)=>some b|_=>none
theorem Uj {f:dM->Option D}{δ:dM}{b:Bool}(h:qB f δ=some b):f δ=some (.bl b):=by
 unfold qB at h;split at h
 ·rename_i e;cases h;exact e
 ·cases h
theorem MA {t:TE}{f:dM->Option D}(h:∀σ H Q,tD f σ H Q->t σ H Q):∀σ H Q,tQ (qB f) σ H Q->t σ H λx H1=>∃c,x=.bl c/\Q c H1:=λσ H Q ⟨C,δ,b,x,q,k⟩=>
 h σ H _ ⟨C,δ,.bl b,x,Uj q,λv C' H' ev i=>by cases i;exact⟨b,rfl,k C' H' ev⟩⟩
theorem Oc {f:dM->Option D}(h:PD X e f) (he:∀whole,isTrue e X.env whole=(do let v <-whole;standAt e.pos;holding [v] (truthy v)):=by intro _;rfl):PQ X e (qB f):=(Nn h he).imp (MA λ_ _ _ h=>h)
theorem Od {op:CmpOp}{o:D->D->Option D}{f g:dM->Option D}(c:vy X op o) (ha:PO X a f) (hb:PO X b g) (hm:behindInMarks op b=false:=by first|exact vj _|rfl):PQ X (.Compare a [op] [b] pos) (qB (dt o f g)):=by
 obtain⟨r,ho,hd⟩:=c;exact(D7 ho ha hb hm).imp (MA (Eg hd))
noncomputable def qq (f g:dM->Option Bool):dM->Option Bool:=λδ=>match f δ with|some true=>g δ|some false=>some false|none=>none
noncomputable def sY (f:dM->Option Bool):dM->Option Bool:=λδ=>(f δ).map not
abbrev S8 (X:Cx) (e:cE) (f:dM->Option Bool):Prop:=PW X e (tQ f)
theorem Oe {f g:dM->Option Bool}:∀σ H Q,tQ (qq f g) σ H Q->Qq (tQ f) (tQ g) σ H Q:=λσ H Q ⟨C,δ,b,x,q,k⟩=>by
 unfold qq at q;split at q
 ·rename_i hf;exact⟨C,δ,true,x,hf,λC' H' ev=>AA ⟨C',δ,b,x.ev ev,q,λC2 H2 e2=>k C2 H2 (ev.trans e2)⟩⟩
 ·rename_i hf;cases q;exact⟨C,δ,false,x,hf,λC' H' ev=>Ft (k C' H' ev)⟩
 ·cases q
theorem HE {f:dM->Option Bool}(ha:PQ X a f):S8 X (.BoolOp .And [a] pos) f:=Kc ha
theorem KR {rest:List cE}{f g:dM->Option Bool}(ha:PQ X a f) (hb:S8 X (.BoolOp .And (b::rest) pos) g):S8 X (.BoolOp .And (a::b::rest) pos) (qq f g):=(Np ha hb).imp Oe
theorem Of {f:dM->Option Bool}(ha:PQ X a f):PQ X (.UnaryOp .Not a pos) (sY f):=(Nq ha).imp λσ H Q ⟨C,δ,b,x,q,k⟩=>by
 unfold sY at q;cases hf:f δ with
 |none=>rw[hf]at q;cases q
 |some c=>
  rw[hf]at q;cases q;exact⟨C,δ,c,x,hf,k⟩
noncomputable def FF (f g:dM->Option D):dM->Option D:=λδ=>match f δ with|some (.bl true)=>g δ|some (.bl false)=>some (.bl false)|_=>none
theorem Og {op:BoolOp}{f:dM->Option D}(h:PD X a f):PD X (.BoolOp op [a] pos) f:=Nr h
theorem Oh {rest:List cE}{f g:dM->Option D}(ha:PD X a f) (hb:PD X (.BoolOp .And (b::rest) pos) g):PD X (.BoolOp .And (a::b::rest) pos) (FF f g):=(Nt ha hb).imp λσ H Q ⟨C,δ,d,x,q,k⟩=>by
 unfold FF at q;split at q
 ·rename_i hf;exact⟨C,δ,_,x,hf,λv C' H' ev i=>by cases i;exact⟨true,rfl,AA ⟨C',δ,d,x.ev ev,q,λu C2 H2 e2 i2=>k u C2 H2 (ev.trans e2) i2⟩⟩⟩
 ·rename_i hf;cases q;exact⟨C,δ,_,x,hf,λv C' H' ev i=>by cases i;exact⟨false,rfl,Ft (k _ C' H' ev (.bl _))⟩⟩
 ·cases q
noncomputable def Ri (c:dM->Option Bool) (f g:dM->Option D):dM->Option D:=λδ=>match c δ with|some true=>f δ|some false=>g δ|none=>none
theorem HF {q:dM->Option Bool}{f g:dM->Option D}(hc:PQ X c q) (ha:PD X a f) (hb:PD X b g):PD X (.IfExp c a b pos) (Ri q f g):=(G2 hc ha hb).imp λσ H Q ⟨C,δ,d,x,h,k⟩=>by
 unfold Ri at h;split at h
 ·rename_i hf;exact⟨C,δ,true,x,hf,λC' H' ev=>AA ⟨C',δ,d,x.ev ev,h,λu C2 H2 e2 i2=>k u C2 H2 (ev.trans e2) i2⟩⟩
 ·rename_i hf;exact⟨C,δ,false,x,hf,λC' H' ev=>Ft ⟨C',δ,d,x.ev ev,h,λu C2 H2 e2 i2=>k u C2 H2 (ev.trans e2) i2⟩⟩
 ·cases h
end
noncomputable def isStar:cE->Bool
 |.Starred _ _=>true
 |_=>false
theorem eG {e:cE}{es:List cE}{env:Env}(h:isStar e=false):starEach (e::es) env=(false,eval e env)::starEach es env:=by
 cases e<;>first|(cases h;done)|(rw[starEach];intro _ _ z;cases z)
noncomputable def noStar (es:List cE):Bool:=es.all λe=> !isStar e
theorem fx {pos:Pos}{env:Env}:∀{es:List cE},noStar es=true->(backTo pos (starEach es env)).any (·.1)=false
 |[],_=>rfl
 |e::es,h=>by
  unfold noStar at h;rw[List.all_cons,Bool.and_eq_true]at h;rw[eG (by simpa using h.1)]
  unfold backTo;rw[aE,bF];have:=fx (pos:=pos) (env:=env) (es:=es) h.2;unfold backTo at this;rw[this];rfl
theorem HG {e:cE}{env:Env}{pos:Pos}(h:isStar e=false):((backTo pos (starEach [e] env)).all (λx=> !x.1)&&(backToKw pos (keywordEach [] env)).all (λx=>x.1.isSome)
   &&decide ([e].length+([]:List Keyword).length+(if([]:List Keyword).isEmpty then 0 else 1)<30))=true:=by
 rw[eG h];rfl
section
variable {X:Cx}{e:cE}{es:List cE}{pos p:Pos}{x:Str}
noncomputable def cL:dM->Option (List D):=λ_=>some []
noncomputable def aY (f:dM->Option D) (g:dM->Option (List D)):dM->Option (List D):=λδ=>(f δ).bind λd=>(g δ).map λds=>d::ds
theorem rM:GS X [] cL:=(oR (X:=X)).imp λσ H Q ⟨C,δ,ds,x,q,k⟩=>by cases q;exact k [] C H (.refl x.sub) .nil
theorem oX {f:dM->Option D}{g:dM->Option (List D)}(ha:PD X e f) (hr:GS X es g) (hs:starEach (e::es) X.env=(false,eval e X.env)::starEach es X.env:=by exact eG rfl):GS X (e::es) (aY f g):=(mC ha hr hs).imp λσ H Q ⟨C,δ,ds,x,q,k⟩=>by
 unfold aY at q;cases hf:f δ with
 |none=>rw[hf]at q;cases q
 |some d=>
  cases hg:g δ with
  |none=>rw[hf,hg]at q;cases q
  |some r=>
   rw[hf,hg]at q;cases q;exact⟨C,δ,d,x,hf,λv C1 H1 e1 i1=>⟨C1,δ,r,x.ev e1,hg,λvs C2 H2 e2 i2=>k _ C2 H2 (e1.trans e2) (.cons (i1.mono e2.c) i2)⟩⟩
inductive xo (C H:Hp):List V->List D->Prop where
 |nil:xo C H [] []
 |cons {v:V}{d:D}{vs:List V}{ds:List D}:oW C H v d->xo C H vs ds->xo C H (v::vs) (d::ds)
noncomputable def Uk (f:dM->Option (List D)):TA:=λσ H Q=>∃C δ ds,Sx δ σ C H/\f δ=some ds/\∀vs C' H',Ev C H C' H'->xo C' H' vs ds->Q vs H'
abbrev Oi (X:Cx) (es:List cE) (f:dM->Option (List D)):Prop:=PA X es (Uk f)
theorem KS:Oi X [] cL:=(oR (X:=X)).imp λσ H Q ⟨C,δ,ds,x,q,k⟩=>by cases q;exact k [] C H (.refl x.sub) .nil
theorem HH {f:dM->Option D}{g:dM->Option (List D)}(ha:PO X e f) (hr:Oi X es g) (hs:starEach (e::es) X.env=(false,eval e X.env)::starEach es X.env:=by exact eG rfl):Oi X (e::es) (aY f g):=(mC ha hr hs).imp λσ H Q ⟨C,δ,ds,x,q,k⟩=>by
 unfold aY at q;cases hf:f δ with
 |none=>rw[hf]at q;cases q
 |some d=>
  cases hg:g δ with
  |none=>rw[hf,hg]at q;cases q
  |some r=>
   rw[hf,hg]at q;cases q;exact⟨C,δ,d,x,hf,λv C1 H1 e1 i1=>⟨C1,δ,r,x.ev e1,hg,λvs C2 H2 e2 i2=>k _ C2 H2 (e1.trans e2) (.cons (i1.ev e2) i2)⟩⟩
noncomputable def eE (f:dM->Option (List D)):dM->Option D:=λδ=>(f δ).bind λds=>if ds.length<=1000 then some (.tup ds)else none
theorem Oj {k:Nat}{f:dM->Option (List D)}(h:GS X es f):PD X (.Tuple es k pos) (eE f):=(NI h).imp λσ H Q ⟨C,δ,d,x,q,k⟩=>by
 unfold eE at q;cases hf:f δ with
 |none=>rw[hf]at q;cases q
 |some ds=>
  rw[hf]at q;simp only[ao]at q;split at q
  ·rename_i hz;cases q;refine⟨C,δ,ds,x,hf,λvs C1 H1 e1 i1=>⟨?_,λp hp=>k _ _ _ (e1.trans (.new e1.s hp)) (.tup cU (i1.mono (eD (e1.s.free hp))))⟩⟩
   rw[i1.length];exact bg (jR hz)
  ·cases q
noncomputable def jS (f:dM->Option (List D)):dM->Option (List D):=λδ=>(f δ).bind λds=>if ds.length<=1000 then some ds else none
theorem Ol {f:dM->Option (List D)}(h:GS X es f):PF X (.List es pos) (jS f):=(NJ h).imp λσ H Q ⟨C,δ,d,x,q,k⟩=>by
 unfold jS at q;cases hf:f δ with
 |none=>rw[hf]at q;cases q
 |some ds=>
  rw[hf]at q;simp only[ao]at q;split at q
  ·rename_i hz;cases q;refine⟨C,δ,_,x,hf,λvs C1 H1 e1 i1=>⟨?_,λp hp=>k p vs C1 _ (e1.trans (.fu e1.s hp)) (e1.free hp) (e1.s.free hp) cU i1⟩⟩
   rw[i1.length];exact bg (jR hz)
  ·cases q
noncomputable def pZ (g:List D->Option D):Sp:=λvs H Q _=>∃C ds d,dR C H/\IsL C vs ds/\g ds=some d/\∀v C' H',oK C H C' H'->Is C' v d->Q v H'
noncomputable def cO (g:List D->Option D) (f:dM->Option (List D)):dM->Option D:=λδ=>(f δ).bind g
theorem KU {g:List D->Option D}{E:XK}{f:dM->Option (List D)}:∀σ H Q,tD (cO g f) σ H Q->Mr (pZ g) [] E (P8 f) σ H Q:=λσ H Q ⟨C,δ,d,x,q,k⟩=>by
 unfold cO at q;cases hf:f δ with
 |none=>rw[hf]at q;cases q
 |some ds=>
  rw[hf]at q;exact⟨C,δ,ds,x,hf,λvs C1 H1 e1 i1=>⟨C1,ds,d,e1.s,by rw[bB];exact i1,q,λv C2 H2 e2 i2=>k v C2 H2 (e1.trans e2.up) i2⟩⟩
theorem KW {k:Nat}{f:cD}{fd:cy}{ps:List Str}{g:List D->Option D}{fa:dM->Option (List D)}(F:eJ X.prog X.w X.K X.mg X.base ju k f fd ps (pZ g)) (hr:gr k X.A) (hg:Gl X x) (hm:X.mg x=some (.ref f)) (hk:W.keepIn X.K (.ref f)=true) (hb:Binds X.K fd ps [])
  (ha:GS X (e::es) fa) (rD:(x==("__debug__":Str))=false:=by decide) (he:starEach (e::es) X.env=(false,eval e X.env)::starEach es X.env:=by exact eG rfl) (jM:(backTo pos (starEach es X.env)).any (·.1)=false:=by exact fx rfl):
  PD X (.Call (.Name x p) (e::es) [] pos) (cO g fa):=(Kq F hr hg hm hk hb .nil Ed ha rD he jM).imp KU
def CD (r:List V->Hp->VK->Prop) (g:List D->Option D):Prop:=∀C H vs ds d Q,dR C H->xo C H vs ds->g ds=some d->(∀v C' H',oK C H C' H'->Is C' v d->Q v H')->r vs H Q
def CF (r:List V->Hp->VK->Prop) (g:List D->Option (List D)):Prop:=∀C H vs ds d Q,dR C H->xo C H vs ds->g ds=some d->(∀a xs C' H',oK C H C' H'->H a=none->C' a=none->H' a=some (.lst xs)->IsL C' xs d->Q (.ref a) H')->r vs H Q
def ow (X:Cx) (f:cw) (g:List D->Option D):Prop:=∃r,iV X f r/\CD r g
def Ei (X:Cx) (f:cw) (g:List D->Option (List D)):Prop:=∃r,iV X f r/\CF r g
noncomputable def fj (g:List D->Option (List D)) (f:dM->Option (List D)):dM->Option (List D):=λδ=>(f δ).bind g
theorem MB {r:List V->Hp->VK->Prop}{g:List D->Option D}{f:dM->Option (List D)}(hd:CD r g):∀σ H Q,tD (cO g f) σ H Q->P2 r (Uk f) σ H Q:=λσ H Q ⟨C,δ,d,x,q,k⟩=>by
 unfold cO at q;cases hf:f δ with
 |none=>rw[hf]at q;cases q
 |some ds=>
  rw[hf]at q;exact⟨C,δ,ds,x,hf,λvs C1 H1 e1 i1=>hd C1 H1 vs ds d Q e1.s i1 q λv C2 H2 e2 i2=>k v C2 H2 (e1.trans e2.up) i2⟩
theorem Rj {r:List V->Hp->VK->Prop}{g:List D->Option (List D)}{f:dM->Option (List D)}(hd:CF r g):∀σ H Q,tF (fj g f) σ H Q->P2 r (Uk f) σ H Q:=λσ H Q ⟨C,δ,d,x,q,k⟩=>by
 unfold fj at q;cases hf:f δ with
 |none=>rw[hf]at q;cases q
 |some ds=>
  rw[hf]at q;exact⟨C,δ,ds,x,hf,λvs C1 H1 e1 i1=>hd C1 H1 vs ds d Q e1.s i1 q λa xs C2 H2 e2 h2=>k a xs C2 H2 (e1.trans e2.up) (e1.free h2)⟩
theorem HI {id:String}{g:List D->Option D}{f:dM->Option (List D)}(hc:ow X (.builtin id) g) (hg:Gl X x) (hm:X.mg x=none) (hv:bootBuiltins x=some (.builtin id)) (ha:Oi X (e::es) f) (hn:x≠"__name__":=by decide) (rD:(x==("__debug__":Str))=false:=by decide)
  (he:starEach (e::es) X.env=(false,eval e X.env)::starEach es X.env:=by exact eG rfl) (jM:(backTo pos (starEach es X.env)).any (·.1)=false:=by exact fx rfl):PD X (.Call (.Name x p) (e::es) [] pos) (cO g f):=by
 obtain⟨r,h1,h2⟩:=hc;exact(Av h1 hg hm hv ha hn rD he jM).imp (MB h2)
theorem HJ {id:String}{g:List D->Option (List D)}{f:dM->Option (List D)}(hc:Ei X (.builtin id) g) (hg:Gl X x) (hm:X.mg x=none) (hv:bootBuiltins x=some (.builtin id)) (ha:Oi X (e::es) f) (hn:x≠"__name__":=by decide) (rD:(x==("__debug__":Str))=false:=by decide)
  (he:starEach (e::es) X.env=(false,eval e X.env)::starEach es X.env:=by exact eG rfl) (jM:(backTo pos (starEach es X.env)).any (·.1)=false:=by exact fx rfl):PF X (.Call (.Name x p) (e::es) [] pos) (fj g f):=by
 obtain⟨r,h1,h2⟩:=hc;exact(Av h1 hg hm hv ha hn rD he jM).imp (Rj h2)
theorem FG {T:String}{g:List D->Option D}{f:dM->Option (List D)}(hc:ow X (.type T) g) (hg:Gl X x) (hm:X.mg x=none) (hv:bootBuiltins x=some (.type T)) (ha:Oi X (e::es) f) (hn:x≠"__name__":=by decide) (rD:(x==("__debug__":Str))=false:=by decide)
  (he:starEach (e::es) X.env=(false,eval e X.env)::starEach es X.env:=by exact eG rfl) (jM:(backTo pos (starEach es X.env)).any (·.1)=false:=by exact fx rfl):PD X (.Call (.Name x p) (e::es) [] pos) (cO g f):=by
 obtain⟨r,h1,h2⟩:=hc;exact(sU h1 hg hm hv ha hn rD he jM).imp (MB h2)
end
end DL
namespace DL
open PySem PySem.Spec PyProof.Rows L2
variable [Mem]
structure Gd (B C0 H0:Hp) (δ:dM) (σ:L2.St) (C H:Hp):Prop where
 b:dR B C
 ev:Ev C0 H0 C H
 x:Sx δ σ C H
 fr:∀(i:Nat) (ds:List D) (a:cD),δ[i]? =some (.own ds)->σ[i]? =some (some (.ref a))->H0 a=none
inductive R where
 |next (δ:dM)|ret (d:D)|brk (δ:dM)|cont (δ:dM)
noncomputable abbrev _root_.bY:=dM->Option (List D)
noncomputable abbrev _root_.bZ:=dM->Option R
noncomputable abbrev _root_.cb:=dM->Option D
noncomputable abbrev _root_.cc:=dM->Option Bool
noncomputable abbrev _root_.cf:=List D->Option D
noncomputable abbrev _root_.cu:=List D
noncomputable def Fi (B C0 H0:Hp) (Dn:Ends):R->Prop
 |.next δ=>∀σ C H,Gd B C0 H0 δ σ C H->Dn.nx σ H
 |.ret d=>∀v C H,Ev C0 H0 C H->Is C v d->Dn.rt v H
 |.brk δ=>∀σ C H,Gd B C0 H0 δ σ C H->Dn.bk σ H
 |.cont δ=>∀σ C H,Gd B C0 H0 δ σ C H->Dn.ct σ H
noncomputable def tS (B C0 H0:Hp) (f:bZ):TS:=λDn σ H=>∃C δ r,Gd B C0 H0 δ σ C H/\f δ=some r/\Fi B C0 H0 Dn r
def PB (X:Cx) (C0 H0:Hp) (st:cF) (f:bZ):Prop:=∀B,PS X st (tS B C0 H0 f)
def CJ (X:Cx) (C0 H0:Hp) (st:List cF) (f:bZ):Prop:=∀B,xP X st (tS B C0 H0 f)
section
variable {B C0 H0 C H C' H':Hp}{δ:dM}{σ:L2.St}
theorem Gd.Ak (g:Gd B C0 H0 δ σ C H) (e:Ev C H C' H'):Gd B C0 H0 δ σ C' H':=⟨g.b.trans e.c,g.ev.trans e,g.x.ev e,g.fr⟩
theorem Gd.nJ (g:Gd B C0 H0 δ σ C H) {i:Nat}{v:V}{d:D}(h:Is C v d):Gd B C0 H0 (δ.set i (.dat d)) (σ.set i (some v)) C H:=
 ⟨g.b,g.ev,g.x.nJ h,λk ds a q1 q2=>by
  rcases getElem?_set_cases q1 with⟨_,e⟩|⟨hk,e⟩
  ·cases e
  ·rw[aF (Ne.symm hk)]at q2;exact g.fr k ds a e q2⟩
theorem Gd.zd (g:Gd B C0 H0 δ σ C H) (e:Ev C H C' H') {i:Nat}{a:cD}{xs:List V}{ds:cu}(hn:H a=none) (hc:C' a=none) (hH:H' a=some (.lst xs)) (hl:IsL C' xs ds):Gd B C0 H0 (δ.set i (.own ds)) (σ.set i (some (.ref a))) C' H':=
 ⟨g.b.trans e.c,g.ev.trans e,(g.x.ev e).zd hc hH hl (λk es q z=>by
   obtain⟨b,ys,h1,h2,h3,_⟩:=g.x.own k es q;rw[z]at h1;cases h1;rw[hn]at h3;cases h3),
  λk es b q1 q2=>by
   rcases getElem?_set_cases q1 with⟨rfl,e1⟩|⟨hk,e1⟩
   ·rcases getElem?_set_cases q2 with⟨_,e2⟩|⟨z,_⟩
    ·cases e2;exact g.ev.free hn
    ·exact absurd rfl z
   ·rw[aF (Ne.symm hk)]at q2;exact g.fr k es b e1 q2⟩
theorem Gd.mut (g:Gd B C0 H0 δ σ C H) {i:Nat}{a:cD}{ys:List V}{ds es:cu}(hi:δ[i]? =some (.own ds)) (ha:σ[i]? =some (some (.ref a))) (hl:IsL C ys es):Gd B C0 H0 (δ.set i (.own es)) σ C (upd H a (.lst ys)):=by
 obtain⟨a',xs,h1,h2,h3,_⟩:=g.x.own i ds hi;rw[ha]at h1;cases h1;refine⟨g.b,g.ev.Ef (g.fr i ds a hi ha) h2 _,g.x.mut hi ha hl,λk fs b q1 q2=>?_⟩
 rcases getElem?_set_cases q1 with⟨rfl,e1⟩|⟨hk,e1⟩
 ·exact g.fr k ds b hi q2
 ·exact g.fr k fs b e1 q2
noncomputable def vz (i:Nat) (δ:dM):dM:=match δ[i]? with|some (.own ds)=>δ.set i (.dat (.lst ds))|_=>δ
theorem Gd.give (g:Gd B C0 H0 δ σ C H) (i:Nat):∃C',Gd B C0 H0 (vz i δ) σ C' H:=by
 unfold vz;split
 ·rename_i ds hi;obtain⟨a,xs,h1,h2,h3,h4⟩:=g.x.own i ds hi;refine⟨upd C a (.lst xs),g.b.trans (eD h2),g.ev.Mx (g.fr i ds a hi h1) h2 h3,g.x.give hi h1 h3 h4,λk fs b q1 q2=>?_⟩
  ·rcases getElem?_set_cases q1 with⟨_,e1⟩|⟨hk,e1⟩
   ·cases e1
   ·exact g.fr k fs b e1 q2
 ·exact⟨C,g⟩
end
section
variable {X:Cx}{C0 H0:Hp}{st:cF}{Rk rest:List cF}{e:cE}{pos:Pos}{f g:bZ}
noncomputable def kE:bZ:=λδ=>some (.next δ)
noncomputable def ei (f g:bZ):bZ:=λδ=>match f δ with|some (.next δ')=>g δ'|r=>r
theorem KY:CJ X C0 H0 [] kE:=λB=>D4.imp λDn σ H ⟨C,δ,r,g,q,k⟩=>by cases q;exact k σ C H g
theorem KZ (h:PB X C0 H0 st f):CJ X C0 H0 [st] f:=λB=>D5 (h B)
theorem HK (h:PB X C0 H0 st f) (h2:CJ X C0 H0 rest g):CJ X C0 H0 (st::rest) (ei f g):=λB=>(vg (h B) (h2 B)).imp λDn σ H ⟨C,δ,r,gd,q,k⟩=>by
 unfold ei at q;split at q
 ·rename_i δ' hf;exact⟨C,δ,.next δ',gd,hf,λσ' C' H' g'=>⟨C',δ',r,g',q,k⟩⟩
 ·rename_i hn;refine⟨C,δ,r,gd,q,?_⟩;cases r with
  |next δ'=>exact absurd q (hn δ')
  |ret d=>exact k
  |brk δ'=>exact k
  |cont δ'=>exact k
noncomputable def qz (i:Nat) (f:bZ):bZ:=λδ=>f (vz i δ)
theorem HL (i:Nat) (h:CJ X C0 H0 Rk f):CJ X C0 H0 Rk (qz i f):=λB=>(h B).imp λDn σ H ⟨C,δ,r,gd,q,k⟩=>by
 obtain⟨C',g'⟩:=gd.give i;exact⟨C',_,r,g',q,k⟩
noncomputable def eQ (f:cb):bZ:=λδ=>(f δ).map .ret
theorem Om {f:cb}(he:PD X e f):PB X C0 H0 (.Return (some e) pos) (eQ f):=λB=>(Nu he).imp λDn σ H ⟨C,δ,r,gd,q,k⟩=>by
 unfold eQ at q;cases hf:f δ with
 |none=>rw[hf]at q;cases q
 |some d=>
  rw[hf]at q;cases q;exact⟨C,δ,d,gd.x,hf,λv C' H' ev i=>k v C' H' (gd.ev.trans ev) i⟩
noncomputable def lu (i:Nat) (f:cb):bZ:=λδ=>(f δ).map λd=>.next (δ.set i (.dat d))
noncomputable def gp (i:Nat) (f:bY):bZ:=λδ=>(f δ).map λds=>.next (δ.set i (.own ds))
theorem Oo {B:Hp}{i:Nat}{f:cb}{t:TE}(h:∀σ H Q,tD f σ H Q->t σ H Q):∀Dn σ H,tS B C0 H0 (lu i f) Dn σ H->t σ H λv H1=>Dn.nx (σ.set i (some v)) H1:=λDn σ H ⟨C,δ,r,gd,q,k⟩=>by
 unfold lu at q;cases hf:f δ with
 |none=>rw[hf]at q;cases q
 |some d=>
  rw[hf]at q;cases q;exact h σ H _ ⟨C,δ,d,gd.x,hf,λv C' H' ev i=>k _ C' H' ((gd.Ak ev).nJ i)⟩
theorem CK {B:Hp}{i:Nat}{f:bY}{t:TE}(h:∀σ H Q,tF f σ H Q->t σ H Q):∀Dn σ H,tS B C0 H0 (gp i f) Dn σ H->t σ H λv H1=>Dn.nx (σ.set i (some v)) H1:=λDn σ H ⟨C,δ,r,gd,q,k⟩=>by
 unfold gp at q;cases hf:f δ with
 |none=>rw[hf]at q;cases q
 |some ds=>
  rw[hf]at q;cases q;exact h σ H _ ⟨C,δ,ds,gd.x,hf,λa xs C' H' ev h1 h2 h3 h4=>k _ C' H' (gd.zd ev h1 h2 h3 h4)⟩
theorem Oq (i:Nat) {x:Str}{pos':Pos}{f:cb}(hN:X.N.Nodup) (he:PD X e f) (hi:X.N[i]? =some x:=by rfl) (hx:Loc X.env.scope x:=by first|exact Or.inl rfl|exact Or.inr rfl) (hs:swapsWith e (some (.Name x pos')) pos.line X.env=pure false:=by rfl) (hf:X.fn x=true\/X.env.scope.names.lookup x=some .local:=by first|exact .inl rfl|exact .inr rfl):
  PB X C0 H0 (.Assign [.Name x pos'] e pos) (lu i f):=λB=>(yO hN hi hx he hs hf).imp (Oo λ_ _ _ h=>h)
theorem K0 (i:Nat) {x:Str}{pos':Pos}{f:bY}(hN:X.N.Nodup) (he:PF X e f) (hi:X.N[i]? =some x:=by rfl) (hx:Loc X.env.scope x:=by first|exact Or.inl rfl|exact Or.inr rfl) (hs:swapsWith e (some (.Name x pos')) pos.line X.env=pure false:=by rfl) (hf:X.fn x=true\/X.env.scope.names.lookup x=some .local:=by first|exact .inl rfl|exact .inr rfl):
  PB X C0 H0 (.Assign [.Name x pos'] e pos) (gp i f):=λB=>(yO hN hi hx he hs hf).imp (CK λ_ _ _ h=>h)
noncomputable def p6 (c:cc) (f g:bZ):bZ:=λδ=>match c δ with|some true=>f δ|some false=>g δ|none=>none
theorem Rl {c:cE}{a b:List cF}{q:cc}(hc:PQ X c q) (ha:CJ X C0 H0 a f) (hb:CJ X C0 H0 b g):PB X C0 H0 (.If c a b pos) (p6 q f g):=λB=>(Ml hc (ha B) (hb B)).imp λDn σ H ⟨C,δ,r,gd,h,k⟩=>by
 unfold p6 at h;split at h
 ·rename_i hf;exact⟨C,δ,true,gd.x,hf,λC' H' ev=>AA ⟨C',δ,r,gd.Ak ev,h,k⟩⟩
 ·rename_i hf;exact⟨C,δ,false,gd.x,hf,λC' H' ev=>Ft ⟨C',δ,r,gd.Ak ev,h,k⟩⟩
 ·cases h
noncomputable def sZ (i:Nat) (f:cb):bZ:=λδ=>match δ[i]? with
 |some (.own ds)=>(f δ).bind λd=>if ds.length<1000000 then some (.next (δ.set i (.own (ds++[d]))))else none
 |_=>none
omit [Mem] in
theorem rN {n:Nat}(h:n<1000000):n<sizeLine:=aw h (by decide)
theorem FH {i:Nat}{o:cE}{f:cb}{apos:Pos}{t:TA}(ht:PA X [e] t) (ho:PE X o (ir i)) (he:∀σ H Q,P8 (aY f cL) σ H Q->t σ H Q)
  (call:PE X (.Call (.Attribute o "append" apos) [e] [] pos) (QV X.K "list" Ec (ir i) t)) {pos':Pos}(hs:swapsWith (.Call (.Attribute o "append" apos) [e] [] pos) none pos'.line X.env=pure false:=by rfl):
  PB X C0 H0 (.Expr (.Call (.Attribute o "append" apos) [e] [] pos) pos') (sZ i f):=λB=>(Kd call hs).imp λDn σ H ⟨C,δ,r,gd,q,k⟩=>by
 unfold sZ at q;split at q
 ·rename_i ds hi;cases hf:f δ with
  |none=>rw[hf]at q;cases q
  |some d=>
   rw[hf]at q;simp only[ao]at q;split at q
   ·rename_i hz;cases q;obtain⟨a,xs,h1,h2,h3,h4⟩:=gd.x.own i ds hi;refine⟨_,h1,.inl ⟨rfl,_,oF.of h3⟩,he σ H _ ⟨C,δ,[d],gd.x,by unfold aY cL;rw[hf];rfl,λvs C' H' ev i'=>?_⟩⟩
    cases i' with
    |cons i1 i2=>
     cases i2;refine⟨a,xs,_,rfl,rfl,ev.hh h3,by rw[h4.length];exact rN hz,k σ C' _ ((gd.Ak ev).mut hi h1 ((h4.mono ev.c).append (.one i1)))⟩
   ·cases q
 ·cases q
end
def Wk (J:It) (ds:cu) (C:Hp):Prop:=∀i C' H',dR C C'->dR C' H'->(∀d,ds[i]? =some d->J.go i H'/\∀x H3,J.Nx i H' x H3->H3=H'/\Is C' x d)/\(ds.length<=i->J.stop i H')
def Yw (J:It) (ds:cu) (C H:Hp):Prop:=∀i C' H',Ev C H C' H'->(∀d,ds[i]? =some d->J.go i H'/\∀x H3,J.Nx i H' x H3->H3=H'/\Is C' x d)/\(ds.length<=i->J.stop i H')
noncomputable def tI (f:bY):TI:=λσ H R=>∃C δ ds,Sx δ σ C H/\f δ=some ds/\∀J C' H',Ev C H C' H'->Wk J ds C'->R J H'
noncomputable def Wj (f:bY):TI:=λσ H R=>∃C δ ds,Sx δ σ C H/\f δ=some ds/\∀J C' H',Ev C H C' H'->Yw J ds C' H'->R J H'
omit [Mem] in
theorem _root_.L2.PI.imp {X:Cx}{tg e:cE}{t t':TI}(h:PI X tg e t) (m:∀σ H Q,t' σ H Q->t σ H Q):PI X tg e t':=λpins s σ H Q I q=>h pins s σ H Q I (m σ H Q q)
abbrev MC (X:Cx) (tg e:cE) (f:bY):Prop:=PI X tg e (tI f)
abbrev Ot (X:Cx) (tg e:cE) (f:bY):Prop:=PI X tg e (Wj f)
section
variable {X:Cx}{tg e:cE}
theorem MC.weak {f:bY}(h:MC X tg e f):Ot X tg e f:=h.imp λσ H R ⟨C,δ,ds,x,q,k⟩=>⟨C,δ,ds,x,q,λJ C' H' ev wk=>k J C' H' ev λi C2 H2 e2=>wk i C2 H2 e2.c e2.s⟩
noncomputable def iL (f:cb):bY:=λδ=>match f δ with|some (.lst ds)=>some ds|_=>none
noncomputable def iT (f:cb):bY:=λδ=>match f δ with|some (.tup ds)=>some ds|_=>none
theorem xZ {K:W.Frag}{C:Hp}{a:cD}{xs:List V}{ds:cu}(h:Rd C a (.lst xs)) (hl:IsL C xs ds):Wk (TN K a) ds C:=λi C' H' sc sh=>by
 have hq:oF K H' a xs:=.inl ((h.same sc).same sh);refine⟨λd hd=>?_,λhi=>⟨xs,hq,by rw[hl.length];exact hi⟩⟩
 obtain⟨v,hv,is⟩:=hl.get hd;exact⟨⟨xs,v,hq,hv⟩,λx H3 ⟨e1,e2⟩=>⟨e1,by
  have:=e2 xs hq;rw[hv]at this;cases this;exact is.mono sc⟩⟩
theorem HM {K:W.Frag}{C:Hp}{a:cD}{xs:List V}{ds:cu}(h:C a=some (.tup xs)) (hl:IsL C xs ds):Wk (TQ K a) ds C:=λi C' H' sc sh=>by
 have hq:iU K H' a xs:=iU.of (sh _ _ (sc _ _ h));refine⟨λd hd=>?_,λhi=>⟨xs,hq,by rw[hl.length];exact hi⟩⟩
 obtain⟨v,hv,is⟩:=hl.get hd;exact⟨⟨xs,v,hq,hv⟩,λx H3 ⟨e1,e2⟩=>⟨e1,by
  have:=e2 xs hq;rw[hv]at this;cases this;exact is.mono sc⟩⟩
theorem AG {f:cb}(h:PD X e f):MC X tg e (iL f):=(D6 h).imp λσ H R ⟨C,δ,ds,x,q,k⟩=>by
 unfold iL at q;split at q
 ·rename_i es hf;cases q;refine⟨C,δ,_,x,hf,λv C' H' ev i=>?_⟩
  cases i with
  |lst hr hl=>exact⟨_,rfl,⟨_,.inl (hr.same ev.s)⟩,k _ C' H' ev (xZ hr hl)⟩
 ·cases q
theorem Ej {f:cb}(h:PD X e f):MC X tg e (iT f):=(Ny h).imp λσ H R ⟨C,δ,ds,x,q,k⟩=>by
 unfold iT at q;split at q
 ·rename_i es hf;cases q;refine⟨C,δ,_,x,hf,λv C' H' ev i=>?_⟩
  cases i with
  |tup hr hl=>exact⟨_,rfl,⟨_,iU.of (ev.s _ _ hr)⟩,k _ C' H' ev (HM hr hl)⟩
 ·cases q
theorem K1 {f:cb}(h:PO X e f):Ot X tg e (iL f):=(D6 h).imp λσ H R ⟨C,δ,ds,x,q,k⟩=>by
 unfold iL at q;split at q
 ·rename_i es hf;cases q;refine⟨C,δ,_,x,hf,λv C' H' ev i=>?_⟩
  rcases i with i|⟨a,xs,AF,rfl,e2,h2,h3,h4⟩
  ·cases i with
   |lst hr hl=>exact⟨_,rfl,⟨_,.inl (hr.same ev.s)⟩,k _ C' H' ev λi C2 H2 e2=>xZ hr hl i C2 H2 e2.c e2.s⟩
  ·cases e2;refine⟨a,rfl,⟨xs,oF.of h3⟩,k _ C' H' ev λi C2 H2 e2=>?_⟩
   have hq:oF X.K H2 a xs:=oF.of (e2.hh h3);refine⟨λd hd=>?_,λhi=>⟨xs,hq,by rw[h4.length];exact hi⟩⟩
   obtain⟨v,hv,is⟩:=h4.get hd;exact⟨⟨xs,v,hq,hv⟩,λx H3 ⟨z1,z2⟩=>⟨z1,by
    have:=z2 xs hq;rw[hv]at this;cases this;exact is.mono e2.c⟩⟩
 ·cases q
noncomputable def dF (lo:Int):Nat->cn
 |0=>[]
 |n+1=>lo::dF (lo+1) n
omit [Mem] in
theorem lO:∀(n i:Nat) (lo:Int),(dF lo n)[i]? =if i<n then some (lo+i)else none
 |0,i,lo=>by simp[dF]
 |n+1,0,lo=>by simp[dF]
 |n+1,i+1,lo=>by
  show(dF (lo+1) n)[i]? =_;rw[lO n i (lo+1)];by_cases h:i<n
  ·rw[if_pos h,if_pos (by omega)];congr 1;omega
  ·rw[if_neg h,if_neg (by omega)]
omit [Mem] in
theorem ef:∀(n:Nat) (lo:Int),(dF lo n).length=n
 |0,_=>rfl
 |n+1,lo=>congrArg (·+1) (ef n (lo+1))
theorem CL {lo:Int}{n:Nat}{C:Hp}:Wk (SV lo n) ((dF lo n).map D.int) C:=λi C' H' sc sh=>by
 refine⟨λd hd=>?_,λhi=>?_⟩
 ·rw[av,lO]at hd;split at hd
  ·rename_i h;cases hd;exact⟨h,λx H3 ⟨e1,e2⟩=>⟨e1,by rw[e2];exact .int _⟩⟩
  ·cases hd
 ·rw[ae,ef]at hi;exact hi
noncomputable def ya (f:bY):bY:=λδ=>match f δ with|some [.int j]=>if j<1000000/\-1000000<j then some ((dF 0 j.toNat).map D.int)else none|_=>none
theorem CM {a:cE}{f:bY}{p pos:Pos}(hg:Gl X "range") (hm:X.mg "range"=none) (ha:GS X [a] f) (hs:starEach [a] X.env=[(false,eval a X.env)]:=by exact eG rfl):MC X tg (.Call (.Name "range" p) [a] [] pos) (ya f):=(Ff hg hm ha hs).imp λσ H R ⟨C,δ,ds,x,q,k⟩=>by
 unfold ya at q;split at q
 ·rename_i j hf;split at q
  ·rename_i hj;cases q;refine⟨C,δ,_,x,hf,λvs C' H' ev i=>?_⟩
   cases i with
   |cons i1 i2=>
    cases i2;cases i1;exact⟨j,rfl,by omega,by omega,k _ C' H' ev CL⟩
  ·cases q
 ·cases q
noncomputable def jo (j:Nat) (f:bZ):cu->bZ
 |[],δ=>some (.next δ)
 |d::ds,δ=>match f (δ.set j (.dat d))with
  |some (.next δ')=>jo j f ds δ'
  |some (.cont δ')=>jo j f ds δ'
  |some (.brk δ')=>some (.next δ')
  |some (.ret r)=>some (.ret r)
  |none=>none
noncomputable def oH (j:Nat) (i:bY) (f:bZ):bZ:=λδ=>(i δ).bind λds=>jo j f ds δ
theorem Ou {C0 H0:Hp}{iter:cE}{body:List cF}{i:bY}{f:bZ}{pos:Pos}{j:Nat}(hp:PassesOwn (model X.prog X.w) X.A X.env X.xe) (hc:X.calm=true) (hi:MC X tg iter i) (hg:PG X tg (vh j)) (hb:CJ X C0 H0 body f)
  (hs:∀x,foldedSetIterable iter X.env x=pure x:=by intro _;rfl):PB X C0 H0 (.For tg iter body [] pos) (oH j i f):=λB pins s σ H Dn I h=>by
 obtain⟨C,δ,r,gd,q,k⟩:=h;unfold oH at q;cases hf:i δ with
 |none=>rw[hf]at q;cases q
 |some ds=>
  rw[hf]at q;simp only[ao]at q;have main:∀J C1 H1,Ev C H C1 H1->Wk J ds C1->∃W:Nat->Nat->L2.St->Hp->Prop,(∃m,W 0 m σ H1)/\∀i m σ H,W i m σ H->
    (J.stop i H/\Dn.nx σ H)\/(J.go i H/\∃N:L2.St->Hp->Prop,(∀σ' H',N σ' H'->∃m',m'<m/\W (i+1) m' σ' H')/\∀x H',J.Nx i H x H'->vh j x σ H' λσ2 H2=>tS C1 C0 H0 f {Dn with nx:=N,ct:=N,bk:=Dn.nx} σ2 H2):=by
   intro J C1 H1 ev wk;have bs:dR B C1:=gd.b.trans ev.c;refine⟨λn m σ H=>∃C δ,m=ds.length-n/\n<=ds.length/\Gd C1 C0 H0 δ σ C H/\jo j f (ds.drop n) δ=some r,⟨ds.length,C1,δ,by simp,bL _,⟨dR.refl _,gd.ev.trans ev,gd.x.ev ev,gd.fr⟩,by simpa using q⟩,?_⟩
   rintro n m σ2 H2 ⟨C2,δ2,rfl,hn,g2,q2⟩
   have w:=wk n C2 H2 g2.b g2.x.sub;by_cases eY:n<ds.length
   ·have hd:ds[n]? =some ds[n]:=ah eY;obtain⟨go,yl⟩:=w.1 _ hd;rw[List.drop_eq_getElem_cons eY]at q2;refine .inr ⟨go,λσ' H'=>∃C' δ',Gd C1 C0 H0 δ' σ' C' H'/\jo j f (ds.drop (n+1)) δ'=some r,λσ' H' ⟨C',δ',g',q'⟩=>⟨ds.length-(n+1),by omega,C',δ',rfl,eY,g',q'⟩,λx H3 y=>?_⟩
    obtain⟨rfl,is⟩:=yl x H3 y;have g3:=g2.nJ (i:=j) is;unfold jo at q2;show tS C1 C0 H0 f {Dn with nx:=_,ct:=_,bk:=Dn.nx} (σ2.set j (some x)) _
    cases Rm:f (δ2.set j (.dat ds[n]))with
    |none=>rw[Rm]at q2;cases q2
    |some rb=>
     rw[Rm]at q2;refine⟨C2,δ2.set j (.dat ds[n]),rb,g3,Rm,?_⟩;cases rb with
     |next δ'=>exact λσ' C' H' g'=>⟨C',δ',g',q2⟩
     |cont δ'=>exact λσ' C' H' g'=>⟨C',δ',g',q2⟩
     |brk δ'=>
      cases q2;exact λσ' C' H' g'=>k σ' C' H' ⟨bs.trans g'.b,g'.ev,g'.x,g'.fr⟩
     |ret d=>
      cases q2;exact k
   ·have e:n=ds.length:=by omega
    subst e;rw[List.drop_length]at q2;unfold jo at q2;cases q2;exact .inl ⟨w.2 (au _),k σ2 C2 H2 ⟨bs.trans g2.b,g2.ev,g2.x,g2.fr⟩⟩
  refine Nz (tb:=λUl σ' H'=>∃C1,tS C1 C0 H0 f Ul σ' H') hp hc hi hg (λpins s σ H Ul I ⟨C1,h⟩=>hb C1 pins s σ H Ul I h) hs pins s σ H Dn I ?_
  refine⟨C,δ,ds,gd.x,hf,λJ C1 H1 ev wk=>?_⟩
  obtain⟨W,w0,st⟩:=main J C1 H1 ev wk;refine⟨W,w0,λi m σ H w=>?_⟩
  rcases st i m σ H w with z|⟨go,N,hN,hy⟩
  ·exact .inl z
  ·exact .inr ⟨go,N,hN,λx H' y=>⟨C1,hy x H' y⟩⟩
noncomputable def kF (j:Nat) (t:cc) (f:cb) (δ:dM):cu->Option (cu)
 |[]=>some []
 |d::ds=>match t (δ.set j (.dat d))with
  |some true=>(f (δ.set j (.dat d))).bind λy=>(kF j t f δ ds).map λys=>y::ys
  |some false=>kF j t f δ ds
  |none=>none
noncomputable def eh (i:bY) (j:Nat) (t:cc) (f:cb):bY:=λδ=>(i δ).bind λds=>if ds.length<1000000 then kF j t f δ ds else none
noncomputable def jO:cc:=λ_=>some true
theorem zf:∀σ H Q,tQ jO σ H Q->Q4 σ H Q:=λσ H Q ⟨C,δ,b,x,q,k⟩=>by cases q;exact k C H (.refl x.sub)
theorem zg {i:bY}{j:Nat}{t:cc}{f:cb}{tt:TT}(ht:∀σ H Q,tQ t σ H Q->tt σ H Q):∀σ H Q,tF (eh i j t f) σ H Q->xV (Wj i) j tt (tD f) σ H Q:=λσ H Q ⟨C,δ,ys,x,q,k⟩=>by
 unfold eh at q;cases hf:i δ with
 |none=>rw[hf]at q;cases q
 |some ds=>
  rw[hf]at q;simp only[ao]at q;split at q
  case isFalse=>cases q
  rename_i hz;refine⟨C,δ,ds,x,hf,λJ C1 H1 ev wk A hA=>?_⟩
  refine⟨λn m acc H'=>∃C' done rest,m=ds.length-n/\n<=ds.length/\Ev C1 H1 C' H'/\C' A=none/\H' A=some (.lst acc)/\IsL C' acc done/\done.length<=n/\kF j t f δ (ds.drop n)=some rest/\ys=done++rest,
   ⟨ds.length,C1,[],ys,by simp,bL _,.fu ev.s hA,ev.s.free hA,cU,.nil,au _,by simpa using q,rfl⟩,?_⟩
  rintro n m acc H2 ⟨C2,done,rest,rfl,hn,e2,a2,b2,l2,Um,q2,ey⟩
  have w:=wk n C2 H2 e2;by_cases eY:n<ds.length
  ·have hd:ds[n]? =some ds[n]:=ah eY;obtain⟨go,yl⟩:=w.1 _ hd;rw[List.drop_eq_getElem_cons eY]at q2;refine .inr ⟨go,λv H3 y=>?_⟩
   obtain⟨rfl,is⟩:=yl v H3 y;have x2:Sx δ σ C2 H3:=x.ev (ev.trans e2);have x3:=x2.nJ (i:=j) is;unfold kF at q2;split at q2
   ·rename_i Uo;refine ht _ _ _ ⟨C2,_,true,x3,Uo,λC4 H4 e4=>AA ?_⟩
    cases Ov:f (δ.set j (.dat ds[n]))with
    |none=>rw[Ov]at q2;cases q2
    |some y=>
     rw[Ov]at q2;simp only[ao]at q2;cases hr:kF j t f δ (ds.drop (n+1))with
     |none=>rw[hr]at q2;cases q2
     |some rs=>
      rw[hr]at q2;cases q2;refine⟨C4,_,y,x3.ev e4,Ov,λu C5 H5 e5 i5=>?_⟩
      have yb:=e4.trans e5;have Ox:=yb.hh b2;have a5:=yb.nn a2 b2;refine⟨Ox,?_,ds.length-(n+1),by omega,C5,done++[y],rs,rfl,eY,(e2.trans yb).Ef hA a5 _,a5,cU,(l2.mono yb.c).append (.one i5),?_,hr,?_⟩
      ·rw[l2.length];exact rN (by omega)
      ·rw[aQ,List.length_singleton];omega
      ·rw[ey,List.append_assoc];rfl
   ·rename_i Uo;refine ht _ _ _ ⟨C2,_,false,x3,Uo,λC4 H4 e4=>Ft ?_⟩
    exact⟨ds.length-(n+1),by omega,C4,done,rest,rfl,eY,e2.trans e4,e4.nn a2 b2,e4.hh b2,l2.mono e4.c,by omega,q2,ey⟩
   ·cases q2
  ·have e:n=ds.length:=by omega
   subst e;rw[List.drop_length]at q2;unfold kF at q2;cases q2;rw[bB]at ey;subst ey;exact .inl ⟨w.2 (au _),k A acc C2 H2 (ev.trans e2) (ev.free hA) a2 b2 l2⟩
end
section
variable {X:Cx}{elt iter:cE}{x:Str}{px pos:Pos}{scope:Scope}{i:bY}{t:cc}{f:cb}
theorem K2 (j:Nat) (hc:X.calm=true) (S:gm X scope x j) (hi:Ot X (.Name x px) iter i) (he:∀cl C s H fp,PD (df X scope cl C s H fp) elt f)
  (hs:∀v,foldedSetIterable iter X.env v=pure v:=by intro _;rfl):PF X (.ListComp elt [⟨.Name x px,iter,[],0⟩] scope pos) (eh i j jO f):=(yY hc S hi (λ_ _ _ _ _=>rG) he hs).imp (zg zf)
theorem FJ (j:Nat) {c:cE}(hc:X.calm=true) (S:gm X scope x j) (hi:Ot X (.Name x px) iter i) (ht:∀cl C s H fp,PQ (df X scope cl C s H fp) c t) (he:∀cl C s H fp,PD (df X scope cl C s H fp) elt f)
  (hs:∀v,foldedSetIterable iter X.env v=pure v:=by intro _;rfl):PF X (.ListComp elt [⟨.Name x px,iter,[c],0⟩] scope pos) (eh i j t f):=(yY hc S hi (λcl C s H fp=>AB (ht cl C s H fp)) he hs).imp (zg λ_ _ _ h=>h)
variable {C0 H0:Hp}{y:Str}{py mO:Pos}
theorem CN (k j:Nat) (hc:X.calm=true) (S:gm X scope x j) (hi:Ot X (.Name x px) iter i) (he:∀cl C s H fp,PD (df X scope cl C s H fp) elt f)
  (hN:X.N[k]? =some y:=by rfl) (hy:Loc X.env.scope y:=by first|exact Or.inl rfl|exact Or.inr rfl) (hf:X.fn y=true\/X.env.scope.names.lookup y=some .local:=by first|exact .inl rfl|exact .inr rfl)
  (CA:swapsWith (.ListComp elt [⟨.Name x px,iter,[],0⟩] scope pos) (some (.Name y py)) mO.line X.env=pure true:=by rfl)
  (hs:∀v,foldedSetIterable iter X.env v=pure v:=by intro _;rfl):PB X C0 H0 (.Assign [.Name y py] (.ListComp elt [⟨.Name x px,iter,[],0⟩] scope pos) mO) (gp k (eh i j jO f)):=λB=>
 (qR hc S hi (λ_ _ _ _ _=>rG) he hN hy hf CA hs).imp (CK (zg zf))
theorem zh (k j:Nat) {c:cE}(hc:X.calm=true) (S:gm X scope x j) (hi:Ot X (.Name x px) iter i) (ht:∀cl C s H fp,PQ (df X scope cl C s H fp) c t) (he:∀cl C s H fp,PD (df X scope cl C s H fp) elt f)
  (hN:X.N[k]? =some y:=by rfl) (hy:Loc X.env.scope y:=by first|exact Or.inl rfl|exact Or.inr rfl) (hf:X.fn y=true\/X.env.scope.names.lookup y=some .local:=by first|exact .inl rfl|exact .inr rfl)
  (CA:swapsWith (.ListComp elt [⟨.Name x px,iter,[c],0⟩] scope pos) (some (.Name y py)) mO.line X.env=pure true:=by rfl)
  (hs:∀v,foldedSetIterable iter X.env v=pure v:=by intro _;rfl):PB X C0 H0 (.Assign [.Name y py] (.ListComp elt [⟨.Name x px,iter,[c],0⟩] scope pos) mO) (gp k (eh i j t f)):=λB=>
 (qR hc S hi (λcl C s H fp=>AB (ht cl C s H fp)) he hN hy hf CA hs).imp (CK (zg λ_ _ _ h=>h))
end
end DL
namespace DL
open PySem PySem.Spec PyProof.Rows L2
noncomputable def gY (n:Nat) (np:Nat) (f:bZ) (ds:cu):Option D:=
 if ds.length=np then(match f (ds.map Sl.dat++List.replicate (n-np) Sl.no)with|some (.ret d)=>some d|some (.next _)=>some .fN|_=>none)else none
theorem MD {P:cz}{w:cA}{K:W.Frag}{mg:cj}{base:Heap}{x qual:Str}{st:cF}{f:cD}{fd:cy}{N ps:List Str}{k:Nat}(F:nF K x qual st f fd) (S:dB N ps (cM st)) {fb:bZ}
  (kC:∀(gk:cw) (A:cB) (outer:List Env) (s:cx) (H:Hp) (E:XK),gr k (A.deeper (envOfC qual (cM st) s.heap.objs.size f gk))->∀C0 H0,@CJ Mem.keep (qQ ju P w K mg base N qual (cM st) f gk A outer s H E).D3 C0 H0 (dv st) fb):
  eJ P w K mg base ju (k+1) f fd ps (pZ (gY N.length ps.length fb)):=by
 letI:Mem:=Mem.keep
 refine F.ok S (λvs H Q E h=>?_) (λgk A outer s H vs Q E hr h=>?_)
 ·obtain⟨C,ds,d,_,i,q,_⟩:=h;unfold gY at q;split at q
  ·rename_i hl;rw[i.length];exact hl
  ·cases q
 ·obtain⟨C,ds,d,sub,i,q,k⟩:=h;refine⟨tS C C H fb,kC gk A outer s H E hr C H C,?_⟩;unfold gY at q;split at q
  case isFalse=>cases q
  rename_i hl;have hN:ps.length<=N.length:=by have:=S.pre;rw[<-this,bJ];omega
  have sx:Sx (ds.map Sl.dat++List.replicate (N.length-ps.length) Sl.no) (L2.start N vs) C H:=by
   have lv:=i.length;refine⟨sub,λn d e=>?_,λn es e=>?_,λn m es fs a e=>?_,?_,λn ks e=>?_⟩
   ·by_cases hn:n<ds.length
    ·rw[aJ (by simpa using hn),av]at e
     cases hd:ds[n]? with
     |none=>rw[hd]at e;cases e
     |some d'=>
      rw[hd]at e;cases e;obtain⟨v,h1,h2⟩:=i.get hd;refine⟨v,?_,h2⟩;unfold L2.start;rw[aJ (by rw[ae,lv];exact hn),av,h1];rfl
    ·rw[aP (by rw[ae];omega),bf]at e
     split at e<;>cases e
   ·by_cases hn:n<ds.length
    ·rw[aJ (by simpa using hn),av]at e
     cases hd:ds[n]? with
     |none=>rw[hd]at e;cases e
     |some d'=>rw[hd]at e;cases e
    ·rw[aP (by rw[ae];omega),bf]at e
     split at e<;>cases e
   ·by_cases hn:n<ds.length
    ·rw[aJ (by simpa using hn),av]at e
     cases hd:ds[n]? with
     |none=>rw[hd]at e;cases e
     |some d'=>rw[hd]at e;cases e
    ·rw[aP (by rw[ae];omega),bf]at e
     split at e<;>cases e
   ·unfold L2.start;simp only[aQ,ae,List.length_replicate];omega
   ·by_cases hn:n<ds.length
    ·rw[aJ (by simpa using hn),av]at e
     cases hd:ds[n]? with
     |none=>rw[hd]at e;cases e
     |some d'=>rw[hd]at e;cases e
    ·rw[aP (by rw[ae];omega),bf]at e
     split at e<;>cases e
  have gd:Gd C C H (ds.map Sl.dat++List.replicate (N.length-ps.length) Sl.no) (L2.start N vs) C H:=⟨dR.refl _,.refl sub,sx,λn es a e _=>by
   obtain⟨a',xs,h1,h2,h3,_⟩:=sx.own n es e;exfalso;by_cases hn:n<ds.length
   ·rw[aJ (by simpa using hn),av]at e
    cases hd:ds[n]? with
    |none=>rw[hd]at e;cases e
    |some d'=>rw[hd]at e;cases e
   ·rw[aP (by rw[ae];omega),bf]at e
    split at e<;>cases e⟩
  split at q
  ·rename_i d' hf;cases q;exact⟨C,_,_,gd,hf,λv C' H' ev i'=>k v C' H' ev.ue i'⟩
  ·rename_i δ' hf;cases q;exact⟨C,_,_,gd,hf,λσ' C' H' g'=>k .fN C' H' g'.ev.ue .fN⟩
  ·cases q
end DL
namespace DL
open PySem PySem.Spec PyProof.Rows L2
mutual
noncomputable def dN:D->D->Bool
 |.fN,.fN=>true
 |.bl a,.bl b=>a==b
 |.bl a,.int b=>(if a then 1 else 0)==b
 |.int a,.bl b=>a==(if b then 1 else 0)
 |.int a,.int b=>a==b
 |.str a,.str b=>a==b
 |.tup a,.tup b=>kP a b
 |.lst a,.lst b=>kP a b
 |_,_=>false
noncomputable def kP:cu->cu->Bool
 |[],[]=>true
 |a::as,b::bs=>dN a b&&kP as bs
 |_,_=>false
end
mutual
noncomputable def dU:D->Nat
 |.tup ds=>gZ ds+1
 |.lst ds=>gZ ds+1
 |_=>0
noncomputable def gZ:cu->Nat
 |[]=>0
 |d::ds=>max (dU d) (gZ ds)
end
theorem jv:∀{ds:cu}{d:D},d∈ds->dU d<=gZ ds
 |e::r,d,h=>by
  unfold gZ;rcases List.mem_cons.mp h with h|h
  ·subst h;omega
  ·have:=jv h;omega
mutual
theorem oY:∀d:D,dN d d=true
 |.fN=>by unfold dN;rfl
 |.bl b=>by unfold dN;simp
 |.int i=>by unfold dN;simp
 |.str x=>by unfold dN;simp
 |.tup ds=>by unfold dN;exact tj ds
 |.lst ds=>by unfold dN;exact tj ds
theorem tj:∀ds:cu,kP ds ds=true
 |[]=>by unfold kP;rfl
 |d::ds=>by unfold kP;rw[oY d,tj ds];rfl
end
theorem kG:∀(as bs:cu),kP as bs=((List.range (min as.length bs.length)).all (λj=>dN (as.getD j .fN) (bs.getD j .fN))&&as.length==bs.length)
 |[],[]=>by unfold kP;rfl
 |[],b::bs=>by unfold kP;simp
 |a::as,[]=>by unfold kP;simp
 |a::as,b::bs=>by
  unfold kP;rw[kG as bs];have e:min (a::as).length (b::bs).length=min as.length bs.length+1:=by simp only[ax];omega
  rw[e,List.range_succ_eq_map,List.all_cons,List.all_map];simp only[ax,List.getD_cons_zero,Nat.add_left_inj,Nat.add_eq,Nat.add_zero,Bool.and_assoc]
  congr 1
  have e2:(as.length+1==bs.length+1)=(as.length==bs.length):=by
   rw[Bool.eq_iff_iff];simp
  rw[e2]
  congr 1
mutual
theorem Is.inj {C:Hp}:∀{v:V}{d e:D},Is C v d->Is C v e->d=e
 |_,_,_,.fN,.fN=>rfl
 |_,_,_,.bl _,.bl _=>rfl
 |_,_,_,.int _,.int _=>rfl
 |_,_,_,.str _,.str _=>rfl
 |_,_,_,.tup h l,.tup h' l'=>by
  rw[h]at h';cases h';rw[IsL.inj l l']
 |_,_,_,.lst h l,.lst h' l'=>by
  have:∀{a:cD}{xs ys:List V},Rd C a (.lst xs)->Rd C a (.lst ys)->xs=ys:=λ{a xs ys} p q=>by
   rcases p with p|⟨o,p⟩<;>rcases q with q|⟨o',q⟩<;>(rw[p]at q;cases q)<;>rfl
  cases this h h';rw[IsL.inj l l']
 |_,_,_,.tup h l,.lst h' l'=>by
  rcases h' with q|⟨o',q⟩<;>(rw[h]at q;cases q)
 |_,_,_,.lst h l,.tup h' l'=>by
  rcases h with q|⟨o',q⟩<;>(rw[h']at q;cases q)
theorem IsL.inj {C:Hp}:∀{vs:List V}{ds es:cu},IsL C vs ds->IsL C vs es->ds=es
 |_,_,_,.nil,.nil=>rfl
 |_,_,_,.cons h t,.cons h' t'=>by rw[Is.inj h h',IsL.inj t t']
end
section
variable {X:Cx}{pins:ck}{σ:L2.St}{C H:Hp}{s:cx}
theorem HN (I:Inv X pins σ H s) (sub:dR C H):∀(n:Nat) (A:cB) (d e:D) (v w:V) (u z:cw),dU d<=n->A.units+n<cLine->Is C v d->Is C w e->RelV v u->RelV w z->SeqAt.EqAt A s u z (dN d e):=by
 intro n;induction n with
 |zero=>
  intro A d e v w u z hd hu iv iw ru rz;have g7:A.units<cLine:=by omega
  cases iv with
  |tup h l=>unfold dU at hd;omega
  |lst h l=>unfold dU at hd;omega
  |fN=>
   cases ru;cases iw with
   |tup h l=>cases rz;obtain⟨dg,_,p,_⟩:=I.tuple (iU.of (K:=X.K) (sub _ _ h));unfold dN;exact SeqAt.EqAt.none_tuple p g7
   |lst h l=>cases rz;obtain⟨dg,_,p,_⟩:=I.list (.inl (h.same sub));unfold dN;exact SeqAt.EqAt.none_list p.isList g7
   |fN=>cases rz;unfold dN;exact SeqAt.EqAt.same _
   |bl b=>cases rz;unfold dN;exact SeqAt.EqAt.none_bool b
   |int b=>obtain⟨t,rfl⟩:=rz;unfold dN;exact SeqAt.EqAt.none_int b t
   |str b=>obtain⟨t,rfl⟩:=rz;unfold dN;exact SeqAt.EqAt.none_str b t
  |bl a=>
   cases ru;cases iw with
   |tup h l=>cases rz;obtain⟨dg,_,p,_⟩:=I.tuple (iU.of (K:=X.K) (sub _ _ h));unfold dN;exact SeqAt.EqAt.bool_tuple a p g7
   |lst h l=>cases rz;obtain⟨dg,_,p,_⟩:=I.list (.inl (h.same sub));unfold dN;exact SeqAt.EqAt.bool_list a p.isList g7
   |fN=>cases rz;unfold dN;exact SeqAt.EqAt.bool_none a
   |bl b=>cases rz;unfold dN;exact SeqAt.EqAt.bool_bool a b
   |int b=>obtain⟨t,rfl⟩:=rz;unfold dN;exact SeqAt.EqAt.bool_int a b t
   |str b=>obtain⟨t,rfl⟩:=rz;unfold dN;exact SeqAt.EqAt.bool_str a b t
  |int a=>
   obtain⟨t',rfl⟩:=ru;cases iw with
   |tup h l=>cases rz;obtain⟨dg,_,p,_⟩:=I.tuple (iU.of (K:=X.K) (sub _ _ h));unfold dN;exact SeqAt.EqAt.int_tuple a t' p g7
   |lst h l=>cases rz;obtain⟨dg,_,p,_⟩:=I.list (.inl (h.same sub));unfold dN;exact SeqAt.EqAt.int_list a t' p.isList g7
   |fN=>cases rz;unfold dN;exact SeqAt.EqAt.int_none a t'
   |bl b=>cases rz;unfold dN;exact SeqAt.EqAt.int_bool a t' b
   |int b=>obtain⟨t,rfl⟩:=rz;unfold dN;exact SeqAt.EqAt.int_int a t' b t
   |str b=>obtain⟨t,rfl⟩:=rz;unfold dN;exact SeqAt.EqAt.int_str a t' b t
  |str a=>
   obtain⟨t',rfl⟩:=ru;cases iw with
   |tup h l=>cases rz;obtain⟨dg,_,p,_⟩:=I.tuple (iU.of (K:=X.K) (sub _ _ h));unfold dN;exact SeqAt.EqAt.str_tuple a t' p g7
   |lst h l=>cases rz;obtain⟨dg,_,p,_⟩:=I.list (.inl (h.same sub));unfold dN;exact SeqAt.EqAt.str_list a t' p.isList g7
   |fN=>cases rz;unfold dN;exact SeqAt.EqAt.str_none a t'
   |bl b=>cases rz;unfold dN;exact SeqAt.EqAt.str_bool a t' b
   |int b=>obtain⟨t,rfl⟩:=rz;unfold dN;exact SeqAt.EqAt.str_int a t' b t
   |str b=>obtain⟨t,rfl⟩:=rz;unfold dN;exact SeqAt.EqAt.str_str a t' b t
 |succ n ih=>
  intro A d e v w u z hd hu iv iw ru rz;have g7:A.units<cLine:=by omega
  have Oy:A.in1.units+n<cLine:=by show A.units+1+n<cLine;omega
  have items:∀{xs ys:List V}{ds es:cu}{dg eX:cv},gZ ds<=n->IsL C xs ds->IsL C ys es->Vals xs dg->Vals ys eX->
    ∀j (h1:j<dg.toArray.size) (h2:j<eX.toArray.size),SeqAt.EqAt A.in1 s dg.toArray[j] eX.toArray[j] (dN (ds.getD j .fN) (es.getD j .fN)):=λ{xs ys ds es dg eX} hn l1 l2 r1 r2 j h1 h2=>by
   have Aj:j<dg.length:=by simpa using h1
   have B4:j<eX.length:=by simpa using h2
   have g1:xs[j]? =some (xs[j]'(by rw[r1.length];exact Aj)):=ah _
   have g2:ys[j]? =some (ys[j]'(by rw[r2.length];exact B4)):=ah _
   obtain⟨u1,q1,k1⟩:=r1.get g1;obtain⟨u2,q2,k2⟩:=r2.get g2;obtain⟨d1,e1,i1⟩:=l1.get' g1;obtain⟨d2,e2,i2⟩:=l2.get' g2;have w1:dg.toArray[j]=u1:=by
    rw[ah Aj]at q1
    simpa using aS q1
   have w2:eX.toArray[j]=u2:=by
    rw[ah B4]at q2
    simpa using aS q2
   rw[w1,w2,ak,ak,e1,e2];exact ih A.in1 d1 d2 _ _ u1 u2 (aB (jv (bh e1)) hn) Oy i1 i2 k1 k2
  cases iv with
  |fN=>exact ih A .fN e .fN w u z (by unfold dU;omega) (by omega) .fN iw ru rz
  |bl b=>exact ih A (.bl b) e (.bl b) w u z (by unfold dU;omega) (by omega) (.bl b) iw ru rz
  |int b=>exact ih A (.int b) e (.int b) w u z (by unfold dU;omega) (by omega) (.int b) iw ru rz
  |str b=>exact ih A (.str b) e (.str b) w u z (by unfold dU;omega) (by omega) (.str b) iw ru rz
  |@tup a xs ds h l=>
   cases ru;obtain⟨dg,r1,p1,z1⟩:=I.tuple (iU.of (K:=X.K) (sub _ _ h));unfold dU at hd;cases iw with
   |fN=>cases rz;unfold dN;exact SeqAt.EqAt.tuple_none p1 g7
   |bl b=>cases rz;unfold dN;exact SeqAt.EqAt.tuple_bool b p1 g7
   |int b=>obtain⟨t,rfl⟩:=rz;unfold dN;exact SeqAt.EqAt.tuple_int b t p1 g7
   |str b=>obtain⟨t,rfl⟩:=rz;unfold dN;exact SeqAt.EqAt.tuple_str b t p1 g7
   |lst h2 l2=>cases rz;obtain⟨eX,_,p2,_⟩:=I.list (.inl (h2.same sub));unfold dN;exact SeqAt.EqAt.tuple_list p1 p2.isList g7
   |@tup b ys es h2 l2=>
    cases rz;by_cases Ek:a=b
    ·subst Ek;have e:=Is.inj (Is.tup h l) (Is.tup h2 l2);rw[<-e,oY];exact SeqAt.EqAt.same _
    ·obtain⟨eX,r2,p2,z2⟩:=I.tuple (iU.of (K:=X.K) (sub _ _ h2));have q:=SeqAt.RcAt.tuples p1 p2 g7 (items (by omega) l l2 r1 r2)
     unfold dN;rw[kG];have e1:dg.toArray.size=ds.length:=by rw[aq,<-r1.length,l.length]
     have e2:eX.toArray.size=es.length:=by rw[aq,<-r2.length,l2.length]
     rw[e1,e2]at q;exact SeqAt.EqAt.of_refs Ek q
  |@lst a xs ds h l=>
   cases ru;obtain⟨dg,r1,p1,z1⟩:=I.list (.inl (h.same sub));unfold dU at hd;cases iw with
   |fN=>cases rz;unfold dN;exact SeqAt.EqAt.list_none p1.isList g7
   |bl b=>cases rz;unfold dN;exact SeqAt.EqAt.list_bool b p1.isList g7
   |int b=>obtain⟨t,rfl⟩:=rz;unfold dN;exact SeqAt.EqAt.list_int b t p1.isList g7
   |str b=>obtain⟨t,rfl⟩:=rz;unfold dN;exact SeqAt.EqAt.list_str b t p1.isList g7
   |tup h2 l2=>cases rz;obtain⟨eX,_,p2,_⟩:=I.tuple (iU.of (K:=X.K) (sub _ _ h2));unfold dN;exact SeqAt.EqAt.list_tuple p1.isList p2 g7
   |@lst b ys es h2 l2=>
    cases rz;by_cases Ek:a=b
    ·subst Ek;have e:=Is.inj (Is.lst h l) (Is.lst h2 l2);rw[<-e,oY];exact SeqAt.EqAt.same _
    ·obtain⟨eX,r2,p2,z2⟩:=I.list (.inl (h2.same sub));have e1:dg.toArray.size=ds.length:=by rw[aq,<-r1.length,l.length]
     have e2:eX.toArray.size=es.length:=by rw[aq,<-r2.length,l2.length]
     unfold dN;rw[kG];by_cases hl:ds.length=es.length
     ·have q:=SeqAt.RcAt.lists p1.isList p2.isList (by rw[e1,e2];exact hl) g7 (items (by omega) l l2 r1 r2)
      rw[e1]at q;rw[<-hl,Nat.min_self,bN,Bool.and_true];exact SeqAt.EqAt.of_refs Ek q
     ·have q:=SeqAt.RcAt.lists_lengths p1.isList p2.isList (by rw[e1,e2];simpa using hl) g7
      have e3:(ds.length==es.length)=false:=by simpa using hl
      rw[e3,Bool.and_false];exact SeqAt.EqAt.of_refs Ek q
theorem rO (I:Inv X pins σ H s) (sub:dR C H) {A:cB}(hu:A.in1.units+30<cLine) {xs ys:List V}{ds es:cu}{dg eX:cv}(hn:gZ ds<=30) (l1:IsL C xs ds) (l2:IsL C ys es) (r1:Vals xs dg) (r2:Vals ys eX):
  ∀j (h1:j<dg.toArray.size) (h2:j<eX.toArray.size),SeqAt.EqAt A.in1 s dg.toArray[j] eX.toArray[j] (dN (ds.getD j .fN) (es.getD j .fN)):=λj h1 h2=>by
 have Aj:j<dg.length:=by simpa using h1
 have B4:j<eX.length:=by simpa using h2
 have g1:xs[j]? =some (xs[j]'(by rw[r1.length];exact Aj)):=ah _
 have g2:ys[j]? =some (ys[j]'(by rw[r2.length];exact B4)):=ah _
 obtain⟨u1,q1,k1⟩:=r1.get g1;obtain⟨u2,q2,k2⟩:=r2.get g2;obtain⟨d1,e1,i1⟩:=l1.get' g1;obtain⟨d2,e2,i2⟩:=l2.get' g2;have w1:dg.toArray[j]=u1:=by
  rw[ah Aj]at q1
  simpa using aS q1
 have w2:eX.toArray[j]=u2:=by
  rw[ah B4]at q2
  simpa using aS q2
 rw[w1,w2,ak,ak,e1,e2];exact HN I sub 30 A.in1 d1 d2 _ _ u1 u2 (aB (jv (bh e1)) hn) hu i1 i2 k1 k2
theorem Oz (I:Inv X pins σ H s) (sub:dR C H) {A:cB}{d e:D}{v w:V}{u z:cw}(hd:dU d<=30) (hu:A.units+40<cLine) (iv:Is C v d) (iw:Is C w e) (ru:RelV v u) (rz:RelV w z):SeqAt.RcAt A s u z (dN d e):=by
 have g7:A.units<cLine:=by omega
 have Oy:A.in1.units+30<cLine:=by show A.units+1+30<cLine;omega
 cases iv with
 |fN=>
  cases ru;cases iw with
  |fN=>cases rz;unfold dN;exact SeqAt.RcAt.none_none
  |bl b=>cases rz;unfold dN;exact SeqAt.RcAt.none_bool b
  |int b=>obtain⟨t,rfl⟩:=rz;unfold dN;exact SeqAt.RcAt.none_int b t
  |str b=>obtain⟨t,rfl⟩:=rz;unfold dN;exact SeqAt.RcAt.none_str b t
  |@tup b ys es h2 l2=>cases rz;obtain⟨eX,r2,p2,z2⟩:=I.tuple (iU.of (K:=X.K) (sub _ _ h2));unfold dN;exact SeqAt.RcAt.none_tuple p2 g7
  |@lst b ys es h2 l2=>cases rz;obtain⟨eX,r2,p2,z2⟩:=I.list (.inl (h2.same sub));unfold dN;exact SeqAt.RcAt.none_list p2.isList g7
 |bl a=>
  cases ru;cases iw with
  |fN=>cases rz;unfold dN;exact SeqAt.RcAt.bool_none a
  |bl b=>cases rz;unfold dN;exact SeqAt.RcAt.bool_bool a b
  |int b=>obtain⟨t,rfl⟩:=rz;unfold dN;exact SeqAt.RcAt.bool_int a b t
  |str b=>obtain⟨t,rfl⟩:=rz;unfold dN;exact SeqAt.RcAt.bool_str a b t
  |@tup b ys es h2 l2=>cases rz;obtain⟨eX,r2,p2,z2⟩:=I.tuple (iU.of (K:=X.K) (sub _ _ h2));unfold dN;exact SeqAt.RcAt.bool_tuple a p2 g7
  |@lst b ys es h2 l2=>cases rz;obtain⟨eX,r2,p2,z2⟩:=I.list (.inl (h2.same sub));unfold dN;exact SeqAt.RcAt.bool_list a p2.isList g7
 |int a=>
  obtain⟨t',rfl⟩:=ru;cases iw with
  |fN=>cases rz;unfold dN;exact SeqAt.RcAt.int_none a t'
  |bl b=>cases rz;unfold dN;exact SeqAt.RcAt.int_bool a t' b
  |int b=>obtain⟨t,rfl⟩:=rz;unfold dN;exact SeqAt.RcAt.int_int a t' b t
  |str b=>obtain⟨t,rfl⟩:=rz;unfold dN;exact SeqAt.RcAt.int_str a t' b t
  |@tup b ys es h2 l2=>cases rz;obtain⟨eX,r2,p2,z2⟩:=I.tuple (iU.of (K:=X.K) (sub _ _ h2));unfold dN;exact SeqAt.RcAt.int_tuple a t' p2 g7
  |@lst b ys es h2 l2=>cases rz;obtain⟨eX,r2,p2,z2⟩:=I.list (.inl (h2.same sub));unfold dN;exact SeqAt.RcAt.int_list a t' p2.isList g7
 |str a=>
  obtain⟨t',rfl⟩:=ru;cases iw with
  |fN=>cases rz;unfold dN;exact SeqAt.RcAt.str_none a t'
  |bl b=>cases rz;unfold dN;exact SeqAt.RcAt.str_bool a t' b
  |int b=>obtain⟨t,rfl⟩:=rz;unfold dN;exact SeqAt.RcAt.str_int a t' b t
  |str b=>obtain⟨t,rfl⟩:=rz;unfold dN;exact SeqAt.RcAt.str_str a t' b t
  |@tup b ys es h2 l2=>cases rz;obtain⟨eX,r2,p2,z2⟩:=I.tuple (iU.of (K:=X.K) (sub _ _ h2));unfold dN;exact SeqAt.RcAt.str_tuple a t' p2 g7
  |@lst b ys es h2 l2=>cases rz;obtain⟨eX,r2,p2,z2⟩:=I.list (.inl (h2.same sub));unfold dN;exact SeqAt.RcAt.str_list a t' p2.isList g7
 |@tup a xs ds h l=>
  cases ru;obtain⟨dg,r1,p1,z1⟩:=I.tuple (iU.of (K:=X.K) (sub _ _ h));unfold dU at hd;cases iw with
  |fN=>cases rz;unfold dN;exact SeqAt.RcAt.tuple_none p1 g7
  |bl b=>cases rz;unfold dN;exact SeqAt.RcAt.tuple_bool b p1 g7
  |int b=>obtain⟨t,rfl⟩:=rz;unfold dN;exact SeqAt.RcAt.tuple_int b t p1 g7
  |str b=>obtain⟨t,rfl⟩:=rz;unfold dN;exact SeqAt.RcAt.tuple_str b t p1 g7
  |@tup b ys es h2 l2=>
   cases rz;obtain⟨eX,r2,p2,z2⟩:=I.tuple (iU.of (K:=X.K) (sub _ _ h2));have q:=SeqAt.RcAt.tuples p1 p2 g7 (rO I sub Oy (by omega) l l2 r1 r2)
   unfold dN;rw[kG];have e1:dg.toArray.size=ds.length:=by rw[aq,<-r1.length,l.length]
   have e2:eX.toArray.size=es.length:=by rw[aq,<-r2.length,l2.length]
   rw[e1,e2]at q;exact q
  |@lst b ys es h2 l2=>cases rz;obtain⟨eX,r2,p2,z2⟩:=I.list (.inl (h2.same sub));unfold dN;exact SeqAt.RcAt.tuple_list p1 p2.isList g7
 |@lst a xs ds h l=>
  cases ru;obtain⟨dg,r1,p1,z1⟩:=I.list (.inl (h.same sub));unfold dU at hd;cases iw with
  |fN=>cases rz;unfold dN;exact SeqAt.RcAt.list_none p1.isList g7
  |bl b=>cases rz;unfold dN;exact SeqAt.RcAt.list_bool b p1.isList g7
  |int b=>obtain⟨t,rfl⟩:=rz;unfold dN;exact SeqAt.RcAt.list_int b t p1.isList g7
  |str b=>obtain⟨t,rfl⟩:=rz;unfold dN;exact SeqAt.RcAt.list_str b t p1.isList g7
  |@tup b ys es h2 l2=>cases rz;obtain⟨eX,r2,p2,z2⟩:=I.tuple (iU.of (K:=X.K) (sub _ _ h2));unfold dN;exact SeqAt.RcAt.list_tuple p1.isList p2 g7
  |@lst b ys es h2 l2=>
   cases rz;obtain⟨eX,r2,p2,z2⟩:=I.list (.inl (h2.same sub));have e1:dg.toArray.size=ds.length:=by rw[aq,<-r1.length,l.length]
   have e2:eX.toArray.size=es.length:=by rw[aq,<-r2.length,l2.length]
   unfold dN;rw[kG];by_cases hl:ds.length=es.length
   ·have q:=SeqAt.RcAt.lists p1.isList p2.isList (by rw[e1,e2];exact hl) g7 (rO I sub Oy (by omega) l l2 r1 r2)
    rw[e1]at q;rw[<-hl,Nat.min_self,bN,Bool.and_true];exact q
   ·have q:=SeqAt.RcAt.lists_lengths p1.isList p2.isList (by rw[e1,e2];simpa using hl) g7
    have e3:(ds.length==es.length)=false:=by simpa using hl
    rw[e3,Bool.and_false];exact q
theorem OA (I:Inv X pins σ H s) (sub:dR C H) {A:cB}{d e:D}{v w:V}{u z:cw}(hd:dU d<=30) (hu:A.units+40<cLine) (iv:Is C v d) (iw:Is C w e) (ru:RelV v u) (rz:RelV w z):SeqAt.RcNeAt A s u z (!(dN d e)):=by
 have g7:A.units<cLine:=by omega
 have Oy:A.in1.units+30<cLine:=by show A.units+1+30<cLine;omega
 cases iv with
 |fN=>
  cases ru;cases iw with
  |fN=>cases rz;unfold dN;exact SeqAt.RcNeAt.none_none
  |bl b=>cases rz;unfold dN;exact SeqAt.RcNeAt.none_bool b
  |int b=>obtain⟨t,rfl⟩:=rz;unfold dN;exact SeqAt.RcNeAt.none_int b t
  |str b=>obtain⟨t,rfl⟩:=rz;unfold dN;exact SeqAt.RcNeAt.none_str b t
  |@tup b ys es h2 l2=>cases rz;obtain⟨eX,r2,p2,z2⟩:=I.tuple (iU.of (K:=X.K) (sub _ _ h2));unfold dN;exact SeqAt.RcNeAt.none_tuple p2 g7
  |@lst b ys es h2 l2=>cases rz;obtain⟨eX,r2,p2,z2⟩:=I.list (.inl (h2.same sub));unfold dN;exact SeqAt.RcNeAt.none_list p2.isList g7
 |bl a=>
  cases ru;cases iw with
  |fN=>cases rz;unfold dN;exact SeqAt.RcNeAt.bool_none a
  |bl b=>cases rz;unfold dN;exact SeqAt.RcNeAt.bool_bool a b
  |int b=>obtain⟨t,rfl⟩:=rz;unfold dN;exact SeqAt.RcNeAt.bool_int a b t
  |str b=>obtain⟨t,rfl⟩:=rz;unfold dN;exact SeqAt.RcNeAt.bool_str a b t
  |@tup b ys es h2 l2=>cases rz;obtain⟨eX,r2,p2,z2⟩:=I.tuple (iU.of (K:=X.K) (sub _ _ h2));unfold dN;exact SeqAt.RcNeAt.bool_tuple a p2 g7
  |@lst b ys es h2 l2=>cases rz;obtain⟨eX,r2,p2,z2⟩:=I.list (.inl (h2.same sub));unfold dN;exact SeqAt.RcNeAt.bool_list a p2.isList g7
 |int a=>
  obtain⟨t',rfl⟩:=ru;cases iw with
  |fN=>cases rz;unfold dN;exact SeqAt.RcNeAt.int_none a t'
  |bl b=>cases rz;unfold dN;exact SeqAt.RcNeAt.int_bool a t' b
  |int b=>obtain⟨t,rfl⟩:=rz;unfold dN;exact SeqAt.RcNeAt.int_int a t' b t
  |str b=>obtain⟨t,rfl⟩:=rz;unfold dN;exact SeqAt.RcNeAt.int_str a t' b t
  |@tup b ys es h2 l2=>cases rz;obtain⟨eX,r2,p2,z2⟩:=I.tuple (iU.of (K:=X.K) (sub _ _ h2));unfold dN;exact SeqAt.RcNeAt.int_tuple a t' p2 g7
  |@lst b ys es h2 l2=>cases rz;obtain⟨eX,r2,p2,z2⟩:=I.list (.inl (h2.same sub));unfold dN;exact SeqAt.RcNeAt.int_list a t' p2.isList g7
 |str a=>
  obtain⟨t',rfl⟩:=ru;cases iw with
  |fN=>cases rz;unfold dN;exact SeqAt.RcNeAt.str_none a t'
  |bl b=>cases rz;unfold dN;exact SeqAt.RcNeAt.str_bool a t' b
  |int b=>obtain⟨t,rfl⟩:=rz;unfold dN;exact SeqAt.RcNeAt.str_int a t' b t
  |str b=>obtain⟨t,rfl⟩:=rz;unfold dN;exact SeqAt.RcNeAt.str_str a t' b t
  |@tup b ys es h2 l2=>cases rz;obtain⟨eX,r2,p2,z2⟩:=I.tuple (iU.of (K:=X.K) (sub _ _ h2));unfold dN;exact SeqAt.RcNeAt.str_tuple a t' p2 g7
  |@lst b ys es h2 l2=>cases rz;obtain⟨eX,r2,p2,z2⟩:=I.list (.inl (h2.same sub));unfold dN;exact SeqAt.RcNeAt.str_list a t' p2.isList g7
 |@tup a xs ds h l=>
  cases ru;obtain⟨dg,r1,p1,z1⟩:=I.tuple (iU.of (K:=X.K) (sub _ _ h));unfold dU at hd;cases iw with
  |fN=>cases rz;unfold dN;exact SeqAt.RcNeAt.tuple_none p1 g7
  |bl b=>cases rz;unfold dN;exact SeqAt.RcNeAt.tuple_bool b p1 g7
  |int b=>obtain⟨t,rfl⟩:=rz;unfold dN;exact SeqAt.RcNeAt.tuple_int b t p1 g7
  |str b=>obtain⟨t,rfl⟩:=rz;unfold dN;exact SeqAt.RcNeAt.tuple_str b t p1 g7
  |@tup b ys es h2 l2=>
   cases rz;obtain⟨eX,r2,p2,z2⟩:=I.tuple (iU.of (K:=X.K) (sub _ _ h2));have q:=SeqAt.RcNeAt.tuples p1 p2 g7 (rO I sub Oy (by omega) l l2 r1 r2)
   unfold dN;rw[kG];have e1:dg.toArray.size=ds.length:=by rw[aq,<-r1.length,l.length]
   have e2:eX.toArray.size=es.length:=by rw[aq,<-r2.length,l2.length]
   rw[e1,e2]at q;exact q
  |@lst b ys es h2 l2=>cases rz;obtain⟨eX,r2,p2,z2⟩:=I.list (.inl (h2.same sub));unfold dN;exact SeqAt.RcNeAt.tuple_list p1 p2.isList g7
 |@lst a xs ds h l=>
  cases ru;obtain⟨dg,r1,p1,z1⟩:=I.list (.inl (h.same sub));unfold dU at hd;cases iw with
  |fN=>cases rz;unfold dN;exact SeqAt.RcNeAt.list_none p1.isList g7
  |bl b=>cases rz;unfold dN;exact SeqAt.RcNeAt.list_bool b p1.isList g7
  |int b=>obtain⟨t,rfl⟩:=rz;unfold dN;exact SeqAt.RcNeAt.list_int b t p1.isList g7
  |str b=>obtain⟨t,rfl⟩:=rz;unfold dN;exact SeqAt.RcNeAt.list_str b t p1.isList g7
  |@tup b ys es h2 l2=>cases rz;obtain⟨eX,r2,p2,z2⟩:=I.tuple (iU.of (K:=X.K) (sub _ _ h2));unfold dN;exact SeqAt.RcNeAt.list_tuple p1.isList p2 g7
  |@lst b ys es h2 l2=>
   cases rz;obtain⟨eX,r2,p2,z2⟩:=I.list (.inl (h2.same sub));have e1:dg.toArray.size=ds.length:=by rw[aq,<-r1.length,l.length]
   have e2:eX.toArray.size=es.length:=by rw[aq,<-r2.length,l2.length]
   unfold dN;rw[kG];by_cases hl:ds.length=es.length
   ·have q:=SeqAt.RcNeAt.lists p1.isList p2.isList (by rw[e1,e2];exact hl) g7 (rO I sub Oy (by omega) l l2 r1 r2)
    rw[e1]at q;rw[<-hl,Nat.min_self,bN,Bool.and_true];exact q
   ·have q:=SeqAt.RcNeAt.lists_lengths p1.isList p2.isList (by rw[e1,e2];simpa using hl) g7
    have e3:(ds.length==es.length)=false:=by simpa using hl
    rw[e3,Bool.and_false];exact q
end
end DL
namespace DL
open PySem PySem.Spec PyProof.Rows L2
variable [Mem]
theorem oW.list {K:W.Frag}{C H:Hp}{v:V}{ds:cu}(s:dR C H) (h:oW C H v (.lst ds)):∃a xs,v=.ref a/\oF K H a xs/\IsL C xs ds:=by
 rcases h with h|⟨a,xs,es,h1,h2,h3,h4,h5⟩
 ·cases h with
  |lst h l=>exact⟨_,_,rfl,.inl (h.same s),l⟩
 ·cases h2;exact⟨a,xs,h1,oF.of h4,h5⟩
theorem oW.tup {K:W.Frag}{C H:Hp}{v:V}{ds:cu}(s:dR C H) (h:oW C H v (.tup ds)):∃a xs,v=.ref a/\iU K H a xs/\IsL C xs ds/\C a=some (.tup xs):=by
 rcases h with h|⟨a,xs,es,h1,h2,_⟩
 ·cases h with
  |tup h l=>exact⟨_,_,rfl,iU.of (s _ _ h),l,h⟩
 ·cases h2
theorem IsL.kD {C:Hp}{xs:List V}{ds:cu}(l:IsL C xs ds) {i:Int}{d:D}(h:kD ds i=some d):∃v,L2.kD xs i=some v/\Is C v d:=by
 unfold L2.kD at h ⊢;rw[l.length];cases hk:rq ds.length i with
 |none=>rw[hk]at h;cases h
 |some j=>
  rw[hk]at h;exact l.get h
noncomputable def i8:D->D->Option D
 |.lst ds,.int i=>kD ds i
 |.tup ds,.int i=>kD ds i
 |.str z,.int i=>if z.length<=1000000 then(kD z.cps.toList i).map λc=>.str ⟨#[c]⟩else none
 |_,_=>none
section
variable {X:Cx}{a b c e o:cE}{pos:Pos}{f g h:cb}
theorem Rn:My (V4 X.K) i8:=λC H x y dx dy d Q s ix iy q k=>by
 unfold i8 at q;split at q
 ·rename_i ds i;obtain⟨p,xs,rfl,hq,l⟩:=ix.list (K:=X.K) s;obtain⟨v,h1,h2⟩:=l.kD q;exact .inl ⟨p,xs,i,v,rfl,iy.int,hq,h1,k v C H (.refl s) h2⟩
 ·rename_i ds i;obtain⟨p,xs,rfl,hq,l,_⟩:=ix.tup (K:=X.K) s;obtain⟨v,h1,h2⟩:=l.kD q;exact .inr (.inl ⟨p,xs,i,v,rfl,iy.int,hq,h1,k v C H (.refl s) h2⟩)
 ·rename_i z i;split at q
  ·rename_i hz;cases hc:kD z.cps.toList i with
   |none=>rw[hc]at q;cases q
   |some c=>
    rw[hc]at q;cases q;have:=ix.is (λ_ z=>by cases z)
    cases this;exact .inr (.inr ⟨z,i,c,rfl,iy.int,aB hz (by decide),hc,k _ C H (.refl s) (.str _)⟩)
  ·cases q
 ·cases q
theorem OB (ha:PO X a f) (hb:PO X b g) (hs:pX b):PD X (.Subscript a b pos) (dt i8 f g):=Rf NR Rn ha hb hs
noncomputable def qA (d e:D):Option D:=if dU d<=30 then some (.bl (dN d e))else none
theorem oW.both {C H:Hp}{v:V}{d:D}(h:oW C H v d):∃C',dR C C'/\(dR C H->dR C' H)/\Is C' v d:=by
 rcases h with h|⟨a,xs,ds,rfl,rfl,h3,h4,h5⟩
 ·exact⟨C,dR.refl _,id,h⟩
 ·refine⟨upd C a (.lst xs),eD h3,λs b u q=>?_,.lst (.inl cU) (h5.mono (eD h3))⟩
  by_cases e:b=a
  ·subst e;rw[cU]at q;cases q;exact h4
  ·rw[cQ e]at q;exact s b u q
theorem oW.two {C H:Hp}{v w:V}{d e:D}(s:dR C H) (h:oW C H v d) (h':oW C H w e):∃C',dR C' H/\Is C' v d/\Is C' w e:=by
 obtain⟨C1,a1,b1,i1⟩:=h.both;have s1:=b1 s;rcases h' with h'|⟨a,xs,ds,rfl,rfl,h3,h4,h5⟩
 ·exact⟨C1,s1,i1,h'.mono a1⟩
 ·cases q:C1 a with
  |none=>
   refine⟨upd C1 a (.lst xs),λb u z=>?_,i1.mono (eD q),.lst (.inl cU) ((h5.mono a1).mono (eD q))⟩
   by_cases e:b=a
   ·subst e;rw[cU]at z;cases z;exact h4
   ·rw[cQ e]at z;exact s1 b u z
  |some u=>
   have:=s1 a u q;rw[h4]at this;cases this;exact⟨C1,s1,i1,.lst (.inl q) (h5.mono a1)⟩
theorem uC (hu:X.A.units+64<cLine):vy X .Eq qA:=by
 refine⟨λx y H Q=>∃C dx dy,dR C H/\Is C x dx/\Is C y dy/\dU dx<=30/\Q (.bl (dN dx dy)) H,?_,?_⟩
 ·rintro pins s σ H x y v u Q I rx ry ⟨C,dx,dy,sub,ix,iy,hd,q⟩
  have fin:EP X pins σ Q (.bool (dN dx dy)) s:=⟨.bl _,H,I,rfl,q⟩;exact Oz I sub hd (by omega) ix iy rx ry X.prog X.w _ _ fin
 ·intro C H x y dx dy d Q s ix iy q k;unfold qA at q;split at q
  ·rename_i hd;cases q;obtain⟨C',s',i1,i2⟩:=oW.two s ix iy;exact⟨C',dx,dy,s',i1,i2,hd,k _ C H (.refl s) (.bl _)⟩
  ·cases q
noncomputable def yc (d e:D):Option D:=if dU d<=30 then some (.bl (!(dN d e)))else none
theorem zi (hu:X.A.units+64<cLine):vy X .NotEq yc:=by
 refine⟨λx y H Q=>∃C dx dy,dR C H/\Is C x dx/\Is C y dy/\dU dx<=30/\Q (.bl (!(dN dx dy))) H,?_,?_⟩
 ·rintro pins s σ H x y v u Q I rx ry ⟨C,dx,dy,sub,ix,iy,hd,q⟩
  have fin:EP X pins σ Q (.bool (!(dN dx dy))) s:=⟨.bl _,H,I,rfl,q⟩;exact OA I sub hd (by omega) ix iy rx ry X.prog X.w _ _ fin
 ·intro C H x y dx dy d Q s ix iy q k;unfold yc at q;split at q
  ·rename_i hd;cases q;obtain⟨C',s',i1,i2⟩:=oW.two s ix iy;exact⟨C',dx,dy,s',i1,i2,hd,k _ C H (.refl s) (.bl _)⟩
  ·cases q
noncomputable def qC:D->Option (cu)
 |.lst ds=>some ds
 |.tup ds=>some ds
 |_=>none
noncomputable def memD (d:D) (ds:cu):Bool:=ds.any λe=>dN e d
noncomputable def CO (d e:D):Option D:=(qC e).bind λds=>if gZ ds<=30 then some (.bl (memD d ds))else none
noncomputable def qU (d e:D):Option D:=(qC e).bind λds=>if gZ ds<=30 then some (.bl (!(memD d ds)))else none
theorem rP {pins:ck}{σ:L2.St}{C H:Hp}{s:cx}(I:Inv X pins σ H s) (sub:dR C H) {A:cB}(hu:A.units+31<cLine) {d:D}{w:V}{z:cw}(iw:Is C w d) (rz:RelV w z):
  ∀{xs:List V}{ds:cu}{dg:cv},gZ ds<=30->IsL C xs ds->Vals xs dg->∃e:cw->Bool,(∀y∈dg,SeqAt.EqAt A.in1 s y z (e y))/\dg.any e=memD d ds:=λ{xs ds dg} hn l r=>by
 classical
 have one:∀{v:V}{u:cw}{c:D},c∈ds->Is C v c->RelV v u->SeqAt.EqAt A.in1 s u z (dN c d):=λ{v u c} hc i ru=>
  HN I sub 30 A.in1 c d v w u z (aB (jv hc) hn) (by show A.units+1+30<cLine;omega) i iw ru rz
 let e:cw->Bool:=λu=>if h:∃v c,c∈ds/\Is C v c/\RelV v u then dN h.choose_spec.choose d else false
 have he:∀{v u c},c∈ds->Is C v c->RelV v u->e u=dN c d:=λ{v u c} hc i ru=>by
  have hx:∃v c,c∈ds/\Is C v c/\RelV v u:=⟨v,c,hc,i,ru⟩;show(if h:∃v c,c∈ds/\Is C v c/\RelV v u then dN h.choose_spec.choose d else false)=_
  rw[dif_pos hx];obtain⟨h1,h2,h3⟩:=hx.choose_spec.choose_spec;have ev:hx.choose=v:=h3.inj ru;have ec:hx.choose_spec.choose=c:=by
   have B4:Is C v hx.choose_spec.choose:=by rw[<-ev];exact h2
   exact B4.inj i
  rw[ec]
 refine⟨e,λy hy=>?_,?_⟩
 ·obtain⟨j,hj,ej⟩:=List.getElem_of_mem hy;have g1:xs[j]? =some (xs[j]'(by rw[r.length];exact hj)):=ah _
  obtain⟨u1,q1,k1⟩:=r.get g1;obtain⟨c,e1,i1⟩:=l.get' g1;have hc:=bh e1;rw[ah hj]at q1;have eu:u1=y:=by rw[<-ej];exact(aS q1).symm
  subst eu;rw[he hc i1 k1];exact one hc i1 k1
 ·have aux:∀{xs:List V}{es:cu}{dg:cv},(∀c∈es,c∈ds)->IsL C xs es->Vals xs dg->dg.any e=es.any λc=>dN c d:=by
   intro xs es dg hs l;induction es generalizing xs dg with
   |nil=>cases l;intro r;cases r;rfl
   |cons c es ih=>
    intro r;cases l with
    |cons i l=>
     cases r with
     |cons rr r=>
      rw[bF,bF,he (hs c af) i rr,ih (λc hc=>hs c (ai _ hc)) l r]
  exact aux (λc hc=>hc) l r
theorem OD (hu:X.A.units+64<cLine):vy X .In CO:=by
 refine⟨λx y H Q=>∃C dx ds,dR C H/\Is C x dx/\(Is C y (.lst ds)\/Is C y (.tup ds))/\gZ ds<=30/\Q (.bl (memD dx ds)) H,?_,?_⟩
 ·rintro pins s σ H x y v u Q I rx ry ⟨C,dx,ds,sub,ix,iy,hd,q⟩
  rcases iy with iy|iy
  ·cases iy with
   |lst h l=>
    cases ry;obtain⟨dg,r,pl,hz⟩:=I.list (.inl (h.same sub));obtain⟨e,h1,h2⟩:=rP I sub (A:=X.A) (by omega) ix rx hd l r
    refine SeqAt.in_listAt e pl.isList (λw hw=>h1 w (by simpa using hw)) ⟨.bl _,H,I,rfl,?_⟩
    rw[show dg.toArray.any e=dg.any e by simp,h2]
    exact q
  ·cases iy with
   |tup h l=>
    cases ry;obtain⟨dg,r,pl,hz⟩:=I.tuple (iU.of (K:=X.K) (sub _ _ h));obtain⟨e,h1,h2⟩:=rP I sub (A:=X.A) (by omega) ix rx hd l r
    refine SeqAt.in_tupleAt e pl (λw hw=>h1 w (by simpa using hw)) ⟨.bl _,H,I,rfl,?_⟩
    rw[show dg.toArray.any e=dg.any e by simp,h2]
    exact q
 ·intro C H x y dx dy d Q s ix iy q k;unfold CO at q;cases hs:qC dy with
  |none=>rw[hs]at q;cases q
  |some ds=>
   rw[hs]at q;simp only[ao]at q;split at q
   ·rename_i hd;cases q;obtain⟨C',s',i1,i2⟩:=oW.two s ix iy;refine⟨C',dx,ds,s',i1,?_,hd,k _ C H (.refl s) (.bl _)⟩;unfold qC at hs;split at hs
    ·cases hs;exact .inl i2
    ·cases hs;exact .inr i2
    ·cases hs
   ·cases q
theorem rQ (hu:X.A.units+64<cLine):vy X .NotIn qU:=by
 refine⟨λx y H Q=>∃C dx ds,dR C H/\Is C x dx/\(Is C y (.lst ds)\/Is C y (.tup ds))/\gZ ds<=30/\Q (.bl (!(memD dx ds))) H,?_,?_⟩
 ·rintro pins s σ H x y v u Q I rx ry ⟨C,dx,ds,sub,ix,iy,hd,q⟩
  rcases iy with iy|iy
  ·cases iy with
   |lst h l=>
    cases ry;obtain⟨dg,r,pl,hz⟩:=I.list (.inl (h.same sub));obtain⟨e,h1,h2⟩:=rP I sub (A:=X.A) (by omega) ix rx hd l r
    refine SeqAt.notIn_listAt e pl.isList (λw hw=>h1 w (by simpa using hw)) ⟨.bl _,H,I,rfl,?_⟩
    rw[show dg.toArray.any e=dg.any e by simp,h2]
    exact q
  ·cases iy with
   |tup h l=>
    cases ry;obtain⟨dg,r,pl,hz⟩:=I.tuple (iU.of (K:=X.K) (sub _ _ h));obtain⟨e,h1,h2⟩:=rP I sub (A:=X.A) (by omega) ix rx hd l r
    refine SeqAt.notIn_tupleAt e pl (λw hw=>h1 w (by simpa using hw)) ⟨.bl _,H,I,rfl,?_⟩
    rw[show dg.toArray.any e=dg.any e by simp,h2]
    exact q
 ·intro C H x y dx dy d Q s ix iy q k;unfold qU at q;cases hs:qC dy with
  |none=>rw[hs]at q;cases q
  |some ds=>
   rw[hs]at q;simp only[ao]at q;split at q
   ·rename_i hd;cases q;obtain⟨C',s',i1,i2⟩:=oW.two s ix iy;refine⟨C',dx,ds,s',i1,?_,hd,k _ C H (.refl s) (.bl _)⟩;unfold qC at hs;split at hs
    ·cases hs;exact .inl i2
    ·cases hs;exact .inr i2
    ·cases hs
   ·cases q
noncomputable def intsOf:cu->Option (cn)
 |[]=>some []
 |.int i::r=>(intsOf r).map λns=>i::ns
 |_=>none
omit [Mem] in
theorem iz:∀{ds:cu}{ns:cn},intsOf ds=some ns->ds=ns.map D.int
 |[],_,h=>by cases h;rfl
 |.int i::r,ns,h=>by
  unfold intsOf at h;cases hr:intsOf r with
  |none=>rw[hr]at h;cases h
  |some ms=>rw[hr]at h;cases h;rw[iz hr];rfl
omit [Mem] in
theorem hU (ns:cn):intsOf (ns.map D.int)=some ns:=by
 induction ns with
 |nil=>rfl
 |cons n r ih=>show(intsOf (r.map D.int)).map _=_;rw[ih];rfl
noncomputable def nL:cf
 |[.lst ds]=>some (.int ds.length)
 |[.tup ds]=>some (.int ds.length)
 |[.str z]=>if z.length<=1000000 then some (.int z.length)else none
 |_=>none
theorem xo.one {C H:Hp}{vs:List V}{d:D}(h:xo C H vs [d]):∃v,vs=[v]/\oW C H v d:=by
 cases h with|cons h t=>cases t;exact⟨_,rfl,h⟩
theorem xo.two {C H:Hp}{vs:List V}{d e:D}(h:xo C H vs [d,e]):∃v w,vs=[v,w]/\oW C H v d/\oW C H w e:=by
 cases h with|cons h t=>cases t with|cons h2 t=>cases t;exact⟨_,_,rfl,h,h2⟩
theorem yd:ow X (.builtin "len") nL:=by
 refine⟨_,yU.or yV,?_⟩;intro C H vs ds d Q s i q k;unfold nL at q;split at q
 ·cases q;obtain⟨v,rfl,j⟩:=i.one;obtain⟨p,xs,rfl,hq,l⟩:=j.list (K:=X.K) s;exact .inl ⟨p,xs,rfl,.inl hq,by rw[l.length];exact k _ C H (.refl s) (.int _)⟩
 ·cases q;obtain⟨v,rfl,j⟩:=i.one;obtain⟨p,xs,rfl,hq,l,_⟩:=j.tup (K:=X.K) s;exact .inl ⟨p,xs,rfl,.inr hq,by rw[l.length];exact k _ C H (.refl s) (.int _)⟩
 ·split at q
  ·rename_i hz;cases q;obtain⟨v,rfl,j⟩:=i.one;have:=j.is (λ_ z=>by cases z);cases this
   exact .inr ⟨_,rfl,aB hz (by decide),k _ C H (.refl s) (.int _)⟩
  ·cases q
 ·cases q
noncomputable def hJ:cf
 |[.lst ds]=>some (.tup ds)
 |[.tup ds]=>some (.tup ds)
 |_=>none
theorem eV:ow X (.type "tuple") hJ:=by
 refine⟨_,qy,?_⟩;intro C H vs ds d Q s i q k;unfold hJ at q;split at q
 ·cases q;obtain⟨v,rfl,j⟩:=i.one;obtain⟨p,xs,rfl,hq,l⟩:=j.list (K:=X.K) s;exact⟨p,xs,rfl,.inl ⟨hq,λt ht=>k _ _ _ (.new s ht) (.tup cU (l.mono (eD (s.free ht))))⟩⟩
 ·cases q;obtain⟨v,rfl,j⟩:=i.one;obtain⟨p,xs,rfl,hq,l,hc⟩:=j.tup (K:=X.K) s;exact⟨p,xs,rfl,.inr ⟨hq,k _ C H (.refl s) (.tup hc l)⟩⟩
 ·cases q
noncomputable def Em:cf
 |[.int i,.int j]=>some (.int (if j<i then j else i))
 |_=>none
noncomputable def AH:cf
 |[.int i,.int j]=>some (.int (if j>i then j else i))
 |_=>none
theorem OE (hc:X.calm=true):ow X (.builtin "min") Em:=by
 refine⟨_,Fj hc,?_⟩;intro C H vs ds d Q s i q k;unfold Em at q;split at q
 ·rename_i i' j';cases q;obtain⟨v,w,rfl,i1,i2⟩:=i.two;exact⟨i',j',by rw[i1.int,i2.int],k _ C H (.refl s) (.int _)⟩
 ·cases q
theorem HP (hc:X.calm=true):ow X (.builtin "max") AH:=by
 refine⟨_,Fh hc,?_⟩;intro C H vs ds d Q s i q k;unfold AH at q;split at q
 ·rename_i i' j';cases q;obtain⟨v,w,rfl,i1,i2⟩:=i.two;exact⟨i',j',by rw[i1.int,i2.int],k _ C H (.refl s) (.int _)⟩
 ·cases q
noncomputable def xp:D->D->Option (cu)
 |.lst a,.lst b=>if a.length+b.length<=1000000 then some (a++b)else none
 |_,_=>none
end
end DL
namespace DL
open PySem PySem.Spec PyProof.Rows L2
variable [Mem]
omit [Mem] in
theorem ez:bootBuiltins "tuple"=some (.type "tuple"):=by decide +kernel
omit [Mem] in
theorem K3:bootBuiltins "list"=some (.type "list"):=by decide +kernel
omit [Mem] in
theorem OF:bootBuiltins "int"=some (.type "int"):=by decide +kernel
omit [Mem] in
theorem tm:bootBuiltins "len"=some (.builtin "len"):=by decide +kernel
omit [Mem] in
theorem HQ:bootBuiltins "all"=some (.builtin "all"):=by decide +kernel
omit [Mem] in
theorem HR:bootBuiltins "min"=some (.builtin "min"):=by decide +kernel
omit [Mem] in
theorem HS:bootBuiltins "max"=some (.builtin "max"):=by decide +kernel
omit [Mem] in
theorem fH:bootBuiltins "sorted"=some (.builtin "sorted"):=by decide +kernel
theorem oW.HU {C H:Hp}{v:V}{ds:cu}(s:dR C H) (h:oW C H v (.lst ds)):∃a xs,v=.ref a/\Rd H a (.lst xs)/\IsL C xs ds:=by
 rcases h with h|⟨a,xs,es,h1,h2,h3,h4,h5⟩
 ·cases h with
  |lst h l=>exact⟨_,_,rfl,h.same s,l⟩
 ·cases h2;exact⟨a,xs,h1,.inl h4,h5⟩
section
variable {X:Cx}{a b c e o:cE}{pos p p2:Pos}{f g h:cb}
theorem K4:t9 X (binaryOp .Add) (λx y H Q=>∃l b xs zs,x=.ref l/\y=.ref b/\Rd H l (.lst xs)/\Rd H b (.lst zs)/\xs.length+zs.length<=sizeLine/\∀p,H p=none->Q (.ref p) (upd H p (.lst (xs++zs)))):=by
 intro pins s σ H x y v u Q I rx ry h;obtain⟨l,b,xs,zs,rfl,rfl,hH,hB,hz,q⟩:=h;cases rx;cases ry;obtain⟨z,dg,n,r,e⟩:=hH.ok I.fP;obtain⟨z2,eX,n2,r2,e2⟩:=hB.ok I.fP;have l1:=r.length;have l2:=r2.length;refine PySem.P.add_list e e2 ?_ (by rw[aq,aq];omega)
 have ea:dg.toArray++eX.toArray=(dg++eX).toArray:=by simp
 rw[ea];exact⟨.ref _,_,I.QX (t':=s.toks) (r.append r2) (by rw[aQ];omega),rfl,q _ I.fresh⟩
theorem K5:S7 (λx y H Q=>∃l b xs zs,x=.ref l/\y=.ref b/\Rd H l (.lst xs)/\Rd H b (.lst zs)/\xs.length+zs.length<=sizeLine/\∀p,H p=none->Q (.ref p) (upd H p (.lst (xs++zs)))) xp:=λC H x y dx dy ds Q s ix iy q k=>by
 unfold xp at q;split at q
 ·split at q
  ·rename_i hz;cases q;obtain⟨p1,xs,rfl,h1,l1⟩:=ix.HU s;obtain⟨p2,ys,rfl,h2,l2⟩:=iy.HU s;exact⟨p1,p2,xs,ys,rfl,rfl,h1,h2,by rw[l1.length,l2.length];exact aB hz (by decide),λt ht=>k t _ C _ (.fu s ht) ht (s.free ht) cU (l1.append l2)⟩
  ·cases q
 ·cases q
theorem K6 (ha:PO X a f) (hb:PO X b g):PF X (.BinOp a .Add b pos) (dt xp f g):=Mz K4 K5 ha hb
noncomputable def cutD (ds:cu) (lo hi:Option Int):cu:=(ds.drop (HT.g0 ds.length 0 lo)).take (HT.g0 ds.length ds.length hi-HT.g0 ds.length 0 lo)
noncomputable def K7:dM->Option (Option Int):=λ_=>some none
noncomputable def xq (f:cb):dM->Option (Option Int):=λδ=>match f δ with|some (.int i)=>some (some i)|_=>none
noncomputable def tP (f:dM->Option (Option Int)):TO:=λσ H Q=>∃C δ o,Sx δ σ C H/\f δ=some o/\∀C' H',Ev C H C' H'->Q o H'
omit [Mem] in
theorem _root_.L2.PO.imp {X:Cx}{e:Option cE}{t t':TO}(h:L2.PO X e t) (m:∀σ H Q,t' σ H Q->t σ H Q):L2.PO X e t':=λpins s σ H Q I q=>h pins s σ H Q I (m σ H Q q)
theorem Ro:L2.PO X none (tP K7):=Kv.imp λσ H Q ⟨C,δ,o,x,q,k⟩=>by cases q;exact k C H (.refl x.sub)
theorem OG (h:PO X e f):L2.PO X (some e) (tP (xq f)):=(Kw h).imp λσ H Q ⟨C,δ,o,x,q,k⟩=>by
 unfold xq at q;split at q
 ·rename_i i hf;cases q;exact⟨C,δ,_,x,hf,λv C' H' ev i'=>⟨i,i'.int,k C' H' ev⟩⟩
 ·cases q
noncomputable def HV (f:cb) (lo hi:dM->Option (Option Int)):bY:=λδ=>match f δ with
 |some (.lst ds)=>(lo δ).bind λl=>(hi δ).map λu=>cutD ds l u
 |_=>none
theorem IsL.cut {C:Hp}{xs:List V}{ds:cu}(l:IsL C xs ds) (lo hi:Option Int):IsL C (Ax xs lo hi) (cutD ds lo hi):=by
 unfold Ax cutD;rw[l.length];exact(l.drop _).take _
theorem OH {lo hi:Option cE}{fl fh:dM->Option (Option Int)}(he:PO X e f) (hl:L2.PO X lo (tP fl)) (hh:L2.PO X hi (tP fh)):PF X (.Subscript e (.Slice lo hi none p2) pos) (HV f fl fh):=(Aw KA he hl hh).imp λσ H Q ⟨C,δ,ds,x,q,k⟩=>by
 unfold HV at q;split at q
 ·rename_i es hf;cases h1:fl δ with
  |none=>rw[h1]at q;cases q
  |some l=>
   cases h2:fh δ with
   |none=>rw[h1,h2]at q;cases q
   |some u=>
    rw[h1,h2]at q;cases q;refine⟨C,δ,_,x,hf,λv C1 H1 e1 i1=>⟨C1,δ,l,x.ev e1,h1,λC2 H2 e2=>⟨C2,δ,u,x.ev (e1.trans e2),h2,λC3 H3 e3=>?_⟩⟩⟩
    obtain⟨p,xs,rfl,hq,ll⟩:=((i1.ev e2).ev e3).list (K:=X.K) e3.s;have ev:=(e1.trans e2).trans e3;exact⟨p,xs,rfl,hq,λt ht=>k t _ C3 _ (ev.trans (.fu e3.s ht)) (ev.free ht) (e3.s.free ht) cU (ll.cut l u)⟩
 ·cases q
theorem AI (hc:X.calm=true):iV X (.builtin "all") (λxs H Q=>∃(p:cD) (bs:List Bool),xs=[.ref p]/\oF X.K H p (bs.map V.bl)/\Q (.bl (bs.all id)) H):=by
 intro pins s σ H xs us Q I r h;obtain⟨p,bs,rfl,hq,q⟩:=h;obtain⟨u,rfl,r1⟩:=vals1 r;cases r1;obtain⟨dg,rv,pl,hz⟩:=I.list hq;have eY:p<s.heap.objs.size:=by obtain⟨o,n,e,_⟩:=pl;exact az e
 have hlen:=rv.length;rw[ae]at hlen;have Rp:∀(i:Nat) (v:cw),dg.toArray[i]? =some v->v=.bool (bs.getD i false):=λi v hv=>by
  have Kl:dg[i]? =some v:=by simpa using hv
  have hi:i<dg.length:=(List.getElem?_eq_some_iff.mp Kl).1;have g1:(bs.map V.bl)[i]? =some (.bl (bs.getD i false)):=by
   rw[av,ah (by omega),ak,ah (by omega)];rfl
  obtain⟨w,h1,h2⟩:=rv.get g1;rw[Kl]at h1;cases h1;exact h2
 refine call_all_walk (wpAny_pyIter_list pl.isList ⟨s.heap.objs.size,_,_,_,_,_,λi=>bs.getD i false,rfl,Walks.list (A:=X.A.in1) (I.ok.hd hc) s.heap.objs.size p (aD eY) dg.toArray,⟨⟨_,ay _ rfl,rfl,rfl⟩,?_⟩,λi v s' Q' E' hv hQ=>?_,λh' tk kk=>?_⟩)
 ·obtain⟨o,n,e,h1,h2,h3⟩:=pl;exact⟨o,ag _ e,h1,n,h3⟩
 ·rw[Rp i v hv];exact bQ hQ
 ·have I1:L2.Inv X pins σ H {s with heap:=s.heap.push {cls:=.type "list_iterator",data:=.fields #[.ref p,.int 0 0]}}:=I.kept (t':=s.toks) λb o e=>ag _ e
  obtain⟨f0,f1,f2,f3,f4,f5⟩:=I.G5 (H':=H) (au _) (I.fP.fresh (au _));have I2:=I1.turned (t':=tk) (h':=h') (it:=s.heap.objs.size) (λb o hb e=>kk b o (by simpa using hb) e) f0 f1 f3 f4 f5
  refine⟨.bl (bs.all id),H,I2,?_,q⟩;show Value.bool _=Value.bool _
  congr 1
  rw[aq,<-hlen];clear Rp hlen;rw[Bool.eq_iff_iff];simp only[List.all_eq_true,List.mem_range,id];constructor
  ·intro h b hb;obtain⟨i,hi,e⟩:=List.getElem_of_mem hb;have:=h i hi;rw[ak,ah hi]at this;rw[<-e];exact this
  ·intro h i hi;rw[ak,ah hi];exact h _ (List.getElem_mem hi)
noncomputable def m7:cu->Option (List Bool)
 |[]=>some []
 |.bl i::r=>(m7 r).map λns=>i::ns
 |_=>none
omit [Mem] in
theorem vA:∀{ds:cu}{ns:List Bool},m7 ds=some ns->ds=ns.map D.bl
 |[],_,h=>by cases h;rfl
 |.bl i::r,ns,h=>by
  unfold m7 at h;cases hr:m7 r with
  |none=>rw[hr]at h;cases h
  |some ms=>rw[hr]at h;cases h;rw[vA hr];rfl
omit [Mem] in
theorem FK (ns:List Bool):m7 (ns.map D.bl)=some ns:=by
 induction ns with
 |nil=>rfl
 |cons n r ih=>show(m7 (r.map D.bl)).map _=_;rw[ih];rfl
noncomputable def HW:cf
 |[.lst ds]=>(m7 ds).map λbs=>.bl (bs.all id)
 |_=>none
theorem ME (hc:X.calm=true):ow X (.builtin "all") HW:=by
 refine⟨_,AI hc,?_⟩;intro C H vs ds d Q s i q k;unfold HW at q;split at q
 ·rename_i es;cases hb:m7 es with
  |none=>rw[hb]at q;cases q
  |some bs=>
   rw[hb]at q;cases q;obtain⟨v,rfl,j⟩:=i.one;obtain⟨p,xs,rfl,hq,l⟩:=j.list (K:=X.K) s;rw[vA hb]at l;cases l.CG;exact⟨p,bs,rfl,hq,k _ C H (.refl s) (.bl _)⟩
 ·cases q
theorem FL {ta:TA}(hg:Gl X "range") (hm:X.mg "range"=none) (ha:PA X [a] ta) (hs:starEach [a] X.env=[(false,eval a X.env)]:=by exact eG rfl):
  PE X (.Call (.Name "range" p) [a] [] pos) (λσ H Q=>ta σ H λvs H1=>∃j:Int,vs=[.int j]/\∀t,H1 t=none->Q (.ref t) (upd H1 t (.Mg 0 j))):=by
 intro pins s σ H Q I h;refine Call_ (lL I hg hm boot_range (PyProof.Rows.callWith_type1 (gS (ha pos pins s σ H _ I h) λus s1 ⟨vs,H1,I1,r1,q1⟩=>?_) hs rfl))
 obtain⟨j,e,q⟩:=q1;subst e;obtain⟨u,rfl,t,rfl⟩:=vals1 r1;refine call_range_1 ⟨.ref s1.heap.objs.size,_,I1.laid (o:=.Mg 0 j) (λb o e=>ag _ e) (au _) ?_,rfl,q _ (I1.fP.fresh (au _))⟩
 exact⟨_,_,_,ay _ rfl⟩
theorem xr {n:Nat}:∀(dg:cv) (lo:Int),dg.length=n->(∀(j:Nat) (v:cw),dg[j]? =some v->∃t,v=Value.int (lo+(j:Int)) t)->Vals ((dF lo n).map V.int) dg:=by
 induction n with
 |zero=>intro dg lo hl _;cases dg with|nil=>exact .nil|cons _ _=>simp at hl
 |succ n ih=>
  intro dg lo hl h;cases dg with
  |nil=>simp at hl
  |cons v r=>
   refine .cons ?_ (ih r (lo+1) (by simpa using hl) λj w hw=>?_)
   ·obtain⟨t,e⟩:=h 0 v rfl;exact⟨t,by rw[e];simp⟩
   ·obtain⟨t,e⟩:=h (j+1) w (by simpa using hw)
    exact⟨t,by rw[e];congr 1;omega⟩
theorem xt (hc:X.calm=true):iV X (.type "list") (λxs H Q=>∃(p:cD) (hi:Int),xs=[.ref p]/\H p=some (.Mg 0 hi)/\hi<1000000/\-1000000<hi/\∀l,H l=none->Q (.ref l) (upd H l (.lst ((dF 0 hi.toNat).map V.int)))):=by
 intro pins s σ H xs us Q I r h;obtain⟨p,hi,rfl,hp,h1,h2,q⟩:=h;obtain⟨u,rfl,rx⟩:=vals1 r;cases rx;obtain⟨t,u,v,e⟩:=I.fP p _ hp;refine call_list_range (n:=hi.toNat) (I.ok.hd hc) e (small_one (by omega) (by omega) (by omega) (by omega)) ?_ (by omega) λh' tk lx c' kp e' it=>?_
 ·rw[rangeSize_one];split<;>omega
 ·refine⟨.ref s.heap.objs.size,_,I.laid (t':=tk) kp (au _) (show g8 X.prog X.w _ h' _ (.lst ((dF 0 hi.toNat).map V.int))from⟨?_,lx.toList,c',?_,by simpa using e'⟩),rfl,q _ (I.fP.fresh (au _))⟩
  ·rw[ae,ef];exact bg (rN (by omega))
  ·refine xr lx.toList 0 (by simpa using it.1) λj v hv=>?_
   obtain⟨t,e⟩:=it.2 j v (by simpa using hv)
   exact⟨t,by rw[e];congr 1;omega⟩
theorem zj {f:bY}{p' pos':Pos}(hc:X.calm=true) (hg:Gl X "list") (hm:X.mg "list"=none) (Up:Gl X "range") (Am:X.mg "range"=none) (ha:GS X [a] f) (hs:starEach [a] X.env=[(false,eval a X.env)]:=by exact eG rfl)
  (he:starEach [.Call (.Name "range" p') [a] [] pos'] X.env=(false,eval (.Call (.Name "range" p') [a] [] pos') X.env)::starEach [] X.env:=by exact eG rfl) (jM:(backTo pos (starEach [] X.env)).any (·.1)=false:=by exact fx rfl):
  PF X (.Call (.Name "list" p) [.Call (.Name "range" p') [a] [] pos'] [] pos) (ya f):=
 (sU (xt hc) hg hm K3 (mC (FL Up Am ha hs) oR he) (by decide) (by decide) he jM).imp λσ H Q ⟨C,δ,ds,x,q,k⟩=>by
  unfold ya at q;split at q
  ·rename_i j hf;split at q
   ·rename_i hj;cases q;refine⟨C,δ,_,x,hf,λvs C' H' ev i=>?_⟩
    cases i with
    |cons i1 i2=>
     cases i2;cases i1;refine⟨j,rfl,λt ht=>⟨t,j,rfl,cU,hj.1,hj.2,λl hl=>?_⟩⟩
     have e1:=Ev.fu (o:=HO.Mg 0 j) ev.s ht;exact k l _ C' _ ((ev.trans e1).trans (.fu e1.s hl)) (ev.free (e1.free hl)) (ev.s.free (e1.free hl)) cU (.ints _)
   ·cases q
  ·cases q
end
end DL
namespace So
open PySem PySem.W PyProof.Rows
noncomputable def mP {α:Type}(n:Nat) (P:α->Prop):KasT α->Prop
 |.ret a=>P a
 |.ask i j k=>i<n/\j<n/\∀b,mP n P (k b)
theorem mP.bind {α β:Type}{n:Nat}{P:α->Prop}{R:β->Prop}{f:α->KasT β}(hf:∀a,P a->mP n R (f a)):∀{t:KasT α},mP n P t->mP n R (t.bind f)
 |.ret a,h=>hf a h
 |.ask i j k,h=>⟨h.1,h.2.1,λb=>mP.bind hf (h.2.2 b)⟩
def Al (p:Array Nat) (n:Nat):Prop:=0<n/\∀x∈p,x<n
theorem Al.at {p:Array Nat}{n:Nat}(h:Al p n) (i:Nat):p.getD i 0<n:=by
 rw[aT];cases e:p[i]? with
 |none=>exact h.1
 |some x=>exact h.2 x (Array.mem_of_getElem? e)
theorem Al.perm {p q:Array Nat}{n:Nat}(h:Al p n) (e:q.Perm p):Al q n:=⟨h.1,λx hx=>h.2 x (e.mem_iff.mp hx)⟩
theorem zk {p:Array Nat}{n:Nat}(h:Al p n):∀(f m:Nat),mP n (λ_=>True) (kas_asc p f m)
 |0,_=>trivial
 |f+1,m=>⟨h.at _,h.at _,λb=>by
  cases b with
  |true=>exact trivial
  |false=>exact zk h f (m+1)⟩
theorem rR {n:Nat}:∀(f:Nat) (p:Array Nat) (m q:Nat),Al p n->mP n (λr=>Al r.1 n) (kas_desc f p m q)
 |0,_,_,_,h=>h
 |f+1,p,m,q,h=>⟨h.at _,h.at _,λb=>by
  cases b with
  |true=>
   show mP n _ (if q>0 then _ else _)
   split
   ·exact rR f _ _ _ (h.perm (i4 _ _ _))
   ·exact rR f _ _ _ h
  |false=>exact⟨h.at _,h.at _,λb=>by
    cases b with
    |true=>exact h
    |false=>exact rR f _ _ _ h⟩⟩
theorem ye {n m k:Nat}{p:Array Nat}(h:Al p n):mP n (λr=>Al r.2 n) (kas_tail3 m k p):=
 mP.bind (n:=n) (R:=λr:Nat×Array Nat=>Al r.2 n) (P:=λ_=>True) (f:=λm'=>KasT.ret (m',kas_rev p 0 m)) (λ_ _=>(h.perm (i4 _ _ _):Al (kas_rev p 0 m) n)) (zk (h.perm (i4 _ _ _)) _ _)
theorem rS {n m k:Nat}{p:Array Nat}(h:Al p n):mP n (λr=>Al r.2 n) (kas_descPart m k p):=
 mP.bind (λr hr=>by
  split
  ·exact ye (hr.perm (i4 _ _ _))
  ·exact ye hr) (rR _ _ _ _ h)
theorem FN {n k:Nat}{p:Array Nat}(h:Al p n):mP n (λr=>Al r.2 n) (kas_count k p):=
 mP.bind (λm _=>by
  split
  ·exact h
  ·split
   ·exact⟨h.at _,h.at _,λb=>by
     cases b with
     |true=>exact h
     |false=>exact rS (h.perm (i4 _ _ _))⟩
   ·exact rS h) (zk h _ _)
theorem tu {n k:Nat}{p:Array Nat}(h:Al p n):∀(f l r:Nat),mP n (λ_=>True) (kas_place p k f l r)
 |0,_,_=>trivial
 |f+1,l,r=>by
  unfold kas_place;split
  ·exact trivial
  ·exact⟨h.at _,h.at _,λb=>by
    cases b with
    |true=>exact tu h f _ _
    |false=>exact tu h f _ _⟩
theorem En {n:Nat}:∀(f:Nat) (p:Array Nat) (k:Nat),Al p n->mP n (λr=>Al r n) (kas_bin f p k)
 |0,_,_,h=>h
 |f+1,p,k,h=>mP.bind (λl _=>En f _ _ (h.perm (bubble_perm _ _ _))) (tu h _ _ _)
theorem vB {n:Nat}(hn:0<n):mP n (λr=>Al r n) (kas_sort n):=
 mP.bind (λr hr=>by
  split
  ·exact En _ _ _ hr
  ·exact hr) (FN ⟨hn,λx hx=>by simpa using hx⟩)
theorem p7 {α:Type}{n:Nat}{P:α->Prop}{cmp:Nat->Nat->(Bool->cx->Prop)->cx->Prop}{lt:Nat->Nat->Bool}{s:cx}(hc:∀i j (Q:Bool->cx->Prop),i<n->j<n->Q (lt i j) s->cmp i j Q s) {Q:α->cx->Prop}:
  ∀(t:KasT α),mP n P t->Q (iu lt t) s->t.kasWp cmp Q s
 |.ret _,_,h=>h
 |.ask i j k,a,h=>hc i j _ a.1 a.2.1 (p7 hc (k (lt i j)) (a.2.2 _) h)
end So
namespace HT
theorem nM:∀a:cn,lexLt a a=false
 |[]=>rfl
 |x::a=>by rw[jb,if_pos rfl];exact nM a
theorem kH:∀{a b c:cn},lexLt a b=true->lexLt b c=true->lexLt a c=true
 |[],[],_,h,_=>by cases h
 |[],_::_,[],_,h=>by cases h
 |[],_::_,_::_,_,_=>rfl
 |_::_,[],_,h,_=>by cases h
 |_::_,_::_,[],_,h=>by cases h
 |x::a,y::b,z::c,h1,h2=>by
  rw[jb]at h1 h2 ⊢;split at h1
  ·rename_i e;subst e;split at h2
   ·rename_i e2;subst e2;rw[if_pos rfl];exact kH h1 h2
   ·rename_i e2;rw[if_neg e2];exact h2
  ·rename_i e;have q1:x<y:=bK h1;split at h2
   ·rename_i e2;subst e2;rw[if_neg e];exact h1
   ·have q2:y<z:=bK h2;rw[if_neg (by omega)];exact aR (by omega)
theorem gc:∀{a b:cn},lexLt a b=false->lexLt b a=false->a=b
 |[],[],_,_=>rfl
 |[],_::_,h,_=>by cases h
 |_::_,[],_,h=>by cases h
 |x::a,y::b,h1,h2=>by
  rw[jb]at h1 h2;by_cases e:x=y
  ·subst e;rw[if_pos rfl]at h1 h2;rw[gc h1 h2]
  ·rw[if_neg e]at h1;rw[if_neg (Ne.symm e)]at h2;have q1:=of_decide_eq_false h1;have q2:=of_decide_eq_false h2;omega
end HT
namespace L2
open PySem PySem.Spec PyProof.Rows
theorem qw.has {P:cz}{w:cA}{H:Hp}{h:Heap}(x:qw P w H h) {a:cD}{o:HO}(e:H a=some o):∃ob,h.get? a=some ob:=by
 have q:=x a o e;cases o with
 |lst xs=>obtain⟨_,_,_,_,e⟩:=q;exact⟨_,e⟩
 |tup xs=>obtain⟨_,_,_,ob,e,_⟩:=q;exact⟨ob,e⟩
 |dK kvs=>obtain⟨_,_,_,_,o,_,_,e,_⟩:=q;exact⟨_,e⟩
 |dT kvs=>obtain⟨_,_,_,_,o,_,_,e,_⟩:=q;exact⟨_,e⟩
 |set S n=>obtain⟨o,_,_,_,e,_⟩:=q;exact⟨_,e⟩
 |ins C dx fs=>obtain⟨_,_,_,e,_⟩:=q;exact⟨_,e⟩
 |own y=>obtain⟨_,e⟩:=q;exact⟨_,e⟩
 |xd fs=>obtain⟨_,⟨_,_,_,e,_⟩,_⟩:=q;exact⟨_,e⟩
 |Mg lo hi=>obtain⟨_,_,_,e⟩:=q;exact⟨_,e⟩
 |B2 ob u=>obtain⟨e,_⟩:=q;exact⟨_,e⟩
 |B7 ps=>obtain⟨_,e,_⟩:=(show xM H h a ps from q);exact⟨_,e⟩
 |met f y=>exact⟨_,(show h.get? a=some _ from q)⟩
 |ext φ=>obtain⟨_,⟨_,e⟩,_⟩:=q;exact⟨_,e⟩
theorem vC:∀vs:cv,(vs.zip vs).map (·.2)=vs
 |[]=>rfl
 |v::r=>congrArg (v:: ·) (vC r)
theorem yf {α:Type}{p q:α->Bool}:∀{l:List α},(∀x∈l,p x=true->q x=true)->(∃x∈l,q x=true/\p x=false)->l.countP p<l.countP q
 |[],_,h=>by obtain⟨x,hx,_⟩:=h;cases hx
 |y::l,hs,h=>by
  have Hx:∀x∈l,p x=true->q x=true:=λx hx=>hs x (ai _ hx)
  have le:l.countP p<=l.countP q:=List.countP_mono_left Hx;rw[List.countP_cons,List.countP_cons];obtain⟨x,hx,h1,h2⟩:=h;rcases List.mem_cons.mp hx with rfl|hx
  ·rw[h1,h2];simp only[if_true,aH,bD];omega
  ·have ih:=yf Hx ⟨x,hx,h1,h2⟩;cases hp:p y with
   |false=>simp only[aH,bD];omega
   |true=>rw[hs y af hp];simp only[if_true];omega
noncomputable def p8 (nss:cm) (a:cn):Int:=((([]:cn)::nss).countP λx=>HT.lexLt x a:Nat)
theorem kQ (nss:cm) (i:Nat):nss.getD i []∈([]:cn)::nss:=by
 rw[ak];cases e:nss[i]? with
 |none=>exact af
 |some x=>exact ai _ (bh e)
theorem jT {nss:cm}{a b:cn}(ha:a∈([]:cn)::nss) (hb:b∈([]:cn)::nss):HT.lexLt a b=decide (p8 nss a<p8 nss b):=by
 unfold p8;cases h:HT.lexLt a b with
 |true=>
  have:=yf (l:=([]:cn)::nss) (p:=λx=>HT.lexLt x a) (q:=λx=>HT.lexLt x b) (λx _ hx=>HT.kH hx h) ⟨a,ha,h,HT.nM a⟩
  exact(aR (by omega)).symm
 |false=>
  refine(aG ?_).symm;have:(([]:cn)::nss).countP (λx=>HT.lexLt x b)<=(([]:cn)::nss).countP (λx=>HT.lexLt x a):=List.countP_mono_left λx _ hx=>by
   cases h2:HT.lexLt b a with
   |true=>exact HT.kH hx h2
   |false=>rw[HT.gc h h2];exact hx
  omega
noncomputable def zl (K:W.Frag) (H:Hp):List V->cm->Prop:=Paired λv ns=>∃a,v=.ref a/\iU K H a (ns.map V.int)
theorem oZ {prog:cz}{w:cA}{A:cB}{s:cx}{Q:Bool->cx->Prop}{bb:Bool}:∀(us zs:cv) (ns ms:cn) (i:Nat) (fin:Bool),IntsAre us ns->IntsAre zs ms->
  (bb=true\/True)->fin=(if ns.length<ms.length then true else false)->Q (HT.lexLt ns ms) s->W.KatLex prog w A bb fin Q (us.zip zs) i s
 |[],zs,ns,ms,i,fin,h1,h2,_,e,q=>by
  cases h1;show Q fin s;rw[e];cases h2 with
  |nil=>exact q
  |cons n t h=>rw[HT.oS]at q;simpa using q
 |_::_,[],ns,ms,i,fin,h1,h2,_,e,q=>by
  cases h2;cases h1 with
  |cons n t h=>
   show Q fin s;rw[e];rw[HT.oT]at q
   simpa using q
 |u::us,z::zs,ns,ms,i,fin,h1,h2,hb,e,q=>by
  cases h1 with
  |cons n t h1=>
   cases h2 with
   |cons m t' h2=>
    refine W.kat_cons (wpAny_eqBool_int ?_);rw[HT.jb]at q;by_cases Uq:n=m
    ·subst Uq;rw[bN];rw[if_pos rfl]at q;refine W.kat_yes (oZ us zs _ _ (i+1) fin h1 h2 hb ?_ q);rw[e];simp only[ax,Nat.add_lt_add_iff_right]
    ·have jr:(n==m)=false:=by simpa using Uq
     rw[jr];rw[if_neg Uq]at q;refine W.kat_no ?_;cases V8:(bb&&i==0)with
     |true=>exact oneLt_int q
     |false=>exact W.kat_one _ _ (lt_int q)
theorem CP {h:Heap}{a:cD}{m m':cj}(x:h.Ns a m) (y:h.Ns a m'):m=m':=by
 obtain⟨o,es,ep,e,d,_,f⟩:=x;obtain⟨o',G1,Nm,e',d',_,f'⟩:=y;rw[e]at e';cases e';rw[d]at d';injection d' with d1 _
 subst d1
 funext n
 rw[<-f,<-f']
section
variable {X:Cx}
theorem tw:iV X (.builtin "sorted") (λxs H Q=>∃(p:cD) (ns:cn),xs=[.ref p]/\oF X.K H p (ns.map V.int)/\ns.length<64/\∀(l:cD) (ms:cn),H l=none->ms.Perm ns->ms.Pairwise (·<= ·)->Q (.ref l) (upd H l (.lst (ms.map V.int)))):=by
 intro pins s σ H xs us Q I r h;obtain⟨p,ns,rfl,hq,CQ,q⟩:=h;obtain⟨u,rfl,rx⟩:=vals1 r;cases rx;obtain⟨dg,rv,pl,hz⟩:=I.list hq;have hi:IntsAre dg ns:=intsAre_of rv;have hl:=hi.length;refine sorted_ints pl.isList hi (by omega) λout uz a1 a2 a3=>?_
 obtain⟨e,he⟩:=sortedAll_at s.heap dg out;refine⟨.ref (s.heap.objs.size+1),_,I.laid (t':=s.toks) (o:=.lst (uz.map V.int)) (λb o z=>sortedAll_old z) (Nat.le_succ _) ?_,rfl,q _ uz (I.fP.fresh (Nat.le_succ _)) a2 a3⟩
 refine⟨?_,out.toList,e,m6 a1,by simpa using he⟩
 have:=a2.length_eq;rw[ae];exact bg (jR (by omega))
theorem zm {prog:cz}{w:cA}{A:cB}{E:cg}{s:cx}{l:cD}{vs:cv}{Q:cg}(hl:s.heap.IsList l vs.toArray) (h2:vs.length<2)
  (h:Q (.ref (s.heap.objs.size+1)) {s with heap:=sortedAll s.heap vs vs.toArray}):wpAny (model prog w) A (call (.builtin "sorted") [.ref l]) Q E s:=by
 refine Calls.call_function_entry kind_sorted plain_sorted entry_sorted (args_sorted1 _) ?_;unfold Builtin.«sorted»;refine aa (m:=checkCount "sorted" 1 1 _) (aj (aa (collect_list hl (aa (wpAny_newList ?_ (hsz:=by rw[bu];omega))) (by rw[bu];omega))))
 have z1:((s.heap.push (seqObj "list" #[] 0)).update s.heap.objs.size (Obj.mapSeq (·++vs.toArray))).objs.size=s.heap.objs.size+1:=by rw[Heap.size_update,size_push']
 generalize hG:(s.heap.push (seqObj "list" #[] 0)).update s.heap.objs.size (Obj.mapSeq (·++vs.toArray))=G at z1
 have h':Q (.ref (s.heap.objs.size+1)) {s with heap:=sortedHeap (G.push (seqObj "list" vs.toArray 0)) (s.heap.objs.size+1) vs vs.toArray}:=by rw[<-hG];exact h
 have o1:(G.push (seqObj "list" vs.toArray 0)).get? (s.heap.objs.size+1)=some (seqObj "list" vs.toArray 0):=by rw[<-z1];exact ay _ rfl
 show wpAny _ _ (do let _ <-holding [Value.ref G.objs.size] (call (.builtin "list.sort") [Value.ref G.objs.size]);ret (Value.ref G.objs.size)) _ _ {s with heap:=G.push (seqObj "list" vs.toArray 0)}
 rw[z1];generalize hT:G.push (seqObj "list" vs.toArray 0)=T at o1 h';generalize s.heap.objs.size+1=a at o1 h';have ha:a<T.objs.size:=az o1;refine aa (bo (bM slot_list_sort ⟨_,o1,rfl⟩ entry_list_sort ?_ (args_list_sort _)));rw[list_sort_plain];refine aa (listItems_at o1 rfl (aa (listUpdate_at o1 rfl ?_ (hsz:=by rw[aq,bu];omega))))
 obtain⟨e1,sR⟩:∃e1,(T.update a (Obj.mapSeq λ_=>#[])).get? a=some (seqObj "list" #[] e1):=⟨_,get?_update_seq o1 (λ_=>#[])⟩
 refine aa (seqEpoch_at sR rfl (aa (wpAny_newTuple (aa (wpAny_newList (bo ?_))) (by show vs.length<=_;rw[bu];omega))))
 have OI:(((T.update a (Obj.mapSeq λ_=>#[])).push (seqObj "tuple" vs.toArray 0)).push (seqObj "list" #[] 0)).get? a=some (seqObj "list" #[] e1):=by
  rw[Heap.get?_push_ne _ _ _ (by rw[size_push',Heap.size_update];exact aD (Nat.lt_succ_of_lt ha)),Heap.get?_push_ne _ _ _ (by rw[Heap.size_update];exact aD ha)]
  exact sR
 show wpAny (model prog w) _ _ _ _ {s with heap:=((T.update a (Obj.mapSeq λ_=>#[])).push (seqObj "tuple" vs.toArray 0)).push (seqObj "list" #[] 0)}
 dsimp only;have hsz:vs.toArray.size<2:=by rw[aq];exact h2
 rw[if_pos hsz,if_pos hsz];refine aa (aj ?_);rw[StateT.run_pure];refine aa (aj ?_);dsimp only;have CS:(vs.toArray.zip vs.toArray).map (·.2)=vs.toArray:=by
  apply Array.toList_inj.mp
  rw[Array.toList_map,Array.toList_zip];exact vC vs
 rw[show(arrOf (SortSt.mk' general' (vs.toArray.zip vs.toArray) #[] 7 none))=vs.toArray.zip vs.toArray from rfl]at *
 refine aa (seqEpoch_at OI rfl (aa (listUpdate_at OI rfl ?_ (hsz2:=by rw[CS,aq,bu];omega))))
 rw[CS];simp only[bne_self_eq_false,aH,bD];exact aj ⟨_,rfl,aj ⟨_,rfl,h'⟩⟩
theorem uD:iV X (.builtin "sorted") (λxs H Q=>∃(p:cD) (vs:List V),xs=[.ref p]/\oF X.K H p vs/\vs.length<2/\∀l,H l=none->Q (.ref l) (upd H l (.lst vs))):=by
 intro pins s σ H xs us Q I r h;obtain⟨p,vs,rfl,hq,h2,q⟩:=h;obtain⟨u,rfl,rx⟩:=vals1 r;cases rx;obtain⟨dg,rv,pl,hz⟩:=I.list hq;have hl:=rv.length;refine zm pl.isList (by omega) ?_
 obtain⟨e,he⟩:=sortedAll_at s.heap dg dg.toArray;exact⟨.ref (s.heap.objs.size+1),_,I.laid (t':=s.toks) (o:=.lst vs) (λb o z=>sortedAll_old z) (Nat.le_succ _) ⟨hz,dg,e,rv,he⟩,rfl,q _ (I.fP.fresh (Nat.le_succ _))⟩
theorem tE (hu:X.A.units+64<cLine):iV X (.builtin "sorted") (λxs H Q=>∃(p:cD) (vs:List V) (nss:cm),xs=[.ref p]/\oF X.K H p vs/\zl X.K H vs nss/\2<=vs.length/\vs.length<64/\(∀ns∈nss,ns≠[])/\
  ∀(l:cD) (ix:List Nat),H l=none->ix.Perm (List.range vs.length)->(ix.map λi=>nss.getD i []).Pairwise (λa b=>HT.lexLt b a=false)->Q (.ref l) (upd H l (.lst (ix.map λi=>vs.getD i .fN)))):=by
 intro pins s σ H xs us Q I r h;obtain⟨p,vs,nss,rfl,hq,ht,h2,CQ,jr,q⟩:=h;obtain⟨u,rfl,rx⟩:=vals1 r;cases rx;obtain⟨dg,rv,pl,hz⟩:=I.list hq;have hlen:=rv.length;have Wl:=Paired.length ht;obtain⟨m,F⟩:=I.fr;have N:News X.base X.env.locals s.heap (jt X.base s.heap X.env.locals):=vd;have vD:∀i,i<vs.length->∃(a:cD) (o:Obj) (ts:cv) (n:Nat),dg.getD i Value.none=.ref a/\vs.getD i .fN=.ref a/\a≠X.env.locals/\s.heap.get? a=some o/\o.cls=.type "tuple"/\o.data=.seq ts.toArray n/\IntsAre ts (nss.getD i []):=λi hi=>by
  have g1:vs[i]? =some vs[i]:=ah hi;obtain⟨w,h1,h3⟩:=rv.get g1;have g2:∀{vs:List V}{nss:cm}{i:Nat}{v:V},zl X.K H vs nss->vs[i]? =some v->∃ns a,nss[i]? =some ns/\v=.ref a/\iU X.K H a (ns.map V.int):=by
   intro vs nss i v t e;induction t generalizing i with
   |nil=>simp at e
   |cons x t ih=>
    cases i with
    |zero=>
     simp at e;subst e;obtain⟨a,e1,e2⟩:=x;exact⟨_,a,rfl,e1,e2⟩
    |succ i=>exact ih (by simpa using e)
  obtain⟨ns,a,e1,e2,e3⟩:=g2 ht g1;rw[e2]at h3;cases h3;obtain⟨ts,r2,⟨o,ho,hc,n,hd⟩,_⟩:=I.tuple e3;refine⟨a,o,ts,n,?_,?_,?_,ho,hc,hd,?_⟩
  ·rw[ak,h1];rfl
  ·rw[ak,g1,e2];rfl
  ·intro z;obtain⟨oL,es,ep,hL,Rq,_⟩:=F.ns;rw[z,hL]at ho;cases ho;rw[Rq]at hd;cases hd
  ·rw[ak,e1];exact intsAre_of r2
 refine W.kat_sorted F N pl.isList (by omega) (by omega) λD e1 h' F' N' eY=>?_
 have Cz:s.heap.get? D=none:=by
  cases e:s.heap.get? D with
  |none=>rfl
  |some o=>
   have n1:=(N' (D,_) (.head _)).2.1;have n2:=(N' (D,_) (.head _)).2.2;exact absurd (eY (D,o) (my n1 n2 e)) (Nat.lt_irrefl _)
 have uf:∀{h':Heap}{o1:Obj},Fr X.base X.env.locals h' m->News X.base X.env.locals h' ((D,o1)::jt X.base s.heap X.env.locals)->∀b o,b≠X.env.locals->s.heap.get? b=some o->h'.get? b=some o:=λ{h' o1} F' N' b o hb e=>by
  cases g:X.base.get? b with
  |some u=>
   have:=I.bk b u g;rw[e]at this;cases this;exact F'.keep b _ g
  |none=>exact(N' (b,o) (.tail _ (my hb g e))).1
 have qD:=uf F' N';have Rr:∃fs:cv,fs.length=dg.length/\W.KatTups h' dg fs/\∀v∈fs,∃i t,v=Value.int i t:=by
  have aux:∀(l:cv),(∀v∈l,∃(a:cD) (o:Obj) (ts:cv) (n:Nat) (ns:cn),v=.ref a/\h'.get? a=some o/\o.cls=.type "tuple"/\o.data=.seq ts.toArray n/\IntsAre ts ns/\ns≠[])->∃fs:cv,fs.length=l.length/\W.KatTups h' l fs/\∀v∈fs,∃i t,v=Value.int i t:=by
   intro l;induction l with
   |nil=>intro _;exact⟨[],rfl,.nil,λv hv=>nomatch hv⟩
   |cons v l ih=>
    intro h;obtain⟨fs,l1,l2,l3⟩:=ih λw hw=>h w (ai _ hw)
    obtain⟨a,o,ts,n,ns,rfl,e2,e3,e4,e5,e6⟩:=h v af;cases e5 with
    |nil=>exact absurd rfl e6
    |cons i t e5=>
     refine⟨Value.int i t::fs,by simp[l1],.cons e2 e3 e4 (by simp) l2,λw hw=>?_⟩
     rcases List.mem_cons.mp hw with rfl|hw
     ·exact⟨i,t,rfl⟩
     ·exact l3 w hw
  refine aux dg λv hv=>?_
  obtain⟨i,hi,e⟩:=List.getElem_of_mem hv;obtain⟨a,o,ts,n,b1,b2,b3,b4,b5,b6,b7⟩:=vD i (by omega)
  have ev:v=.ref a:=by
   rw[ak,ah hi]at b1;rw[<-e];exact b1
  refine⟨a,o,ts,n,_,ev,qD a o b3 b4,b5,b6,b7,jr _ ?_⟩;rw[ak,ah (by omega)]
  exact List.getElem_mem _
 obtain⟨fs,f1,f2,f3⟩:=Rr;refine W.kat_kind (T:=.type "int") f2 (by omega) (λv hv=>?_) (by decide) ?_
 ·obtain⟨i,t,rfl⟩:=f3 v hv;exact λA Q E s' k q=>aj q
 rw[<-hlen];have cmp:∀i j (R:Bool->cx->Prop),i<vs.length->j<vs.length->R (HT.lexLt (nss.getD i []) (nss.getD j [])) {s with heap:=h'}->W.kas_ask X.prog X.w X.A.in1.in1 (tuples' (Value.type "int"!=Value.type "tuple")) dg i j R {s with heap:=h'}:=λi j R hi hj hR=>by
  obtain⟨a,o,ts,n,b1,b2,b3,b4,b5,b6,b7⟩:=vD i hi;obtain⟨a',o',Rt,n',c1,c2,c3,c4,c5,c6,c7⟩:=vD j hj;show wpAny _ _ (keyLt' _ (dg.getD i Value.none) (dg.getD j Value.none)) _ _ _;rw[b1,c1];refine W.kat_lt (qD a o b3 b4) b6 (qD a' o' c3 c4) c6 ?_;have s1:ts.toArray.size=(nss.getD i []).length:=by rw[aq,b7.length]
  have s2:Rt.toArray.size=(nss.getD j []).length:=by rw[aq,c7.length]
  refine oZ _ _ (nss.getD i []) (nss.getD j []) 0 _ (by simpa using b7) (by simpa using c7) (.inr trivial) ?_ hR
  rw[s1,s2];by_cases h:(nss.getD i []).length<(nss.getD j []).length
  ·rw[if_pos h];exact aR h
  ·rw[if_neg h];exact aG h
 refine So.p7 (n:=vs.length) cmp _ (So.vB (by omega)) ?_
 obtain⟨s1,s2⟩:=So.vw (lt:=λi j=>HT.lexLt (nss.getD i []) (nss.getD j [])) (rank:=λi=>p8 nss (nss.getD i [])) (λi j=>jT (kQ _ _) (kQ _ _)) vs.length (by omega)
 generalize So.iu _ (W.kas_sort vs.length)=ar at s1 s2;have pm:ar.toList.Perm (List.range vs.length):=by simpa using Array.perm_iff_toList_perm.mp s1
 have sz:ar.size=vs.length:=by simpa using s1.size_eq
 have below:∀i∈ar.toList,i<vs.length:=λi hi=>by simpa using pm.mem_iff.mp hi
 refine⟨_,_,F',N',.head λp hp=>aD (eY p hp),λh2 c F2 N2=>?_⟩
 have hD:H D=none:=by
  cases e:H D with
  |none=>rfl
  |some u=>obtain⟨o,z⟩:=I.fP.has e;rw[Cz]at z;cases z
 have vl:Vals (ar.toList.map λi=>vs.getD i .fN) (ar.toList.map λi=>dg.getD i Value.none):=by
  have aux:∀(l:List Nat),(∀i∈l,i<vs.length)->Vals (l.map λi=>vs.getD i .fN) (l.map λi=>dg.getD i Value.none):=by
   intro l;induction l with
   |nil=>intro _;exact .nil
   |cons i l ih=>
    intro h;refine .cons ?_ (ih λk hk=>h k (ai _ hk))
    have hi:=h i af;show RelV (vs.getD i .fN) (dg.getD i Value.none);obtain⟨w,e1,e2⟩:=rv.get (ah hi);rw[ak,ak,e1,ah hi];exact e2
  exact aux _ below
 have iW:=uf F2 N2;have Ru:h2.get? D=some {cls:=.type "list",data:=.seq (ar.toList.map λi=>dg.getD i Value.none).toArray c}:=(N2 _ (.head _)).1
 refine⟨.ref D,upd H D (.lst (ar.toList.map λi=>vs.getD i .fN)),?_,rfl,q D ar.toList hD pm ?_⟩
 ·show Inv X pins σ _ {s with heap:=h2,gens:=s.gens,drawn:=s.drawn,toks:=s.toks}
  refine I.step (g':=s.gens) (d':=s.drawn) (t':=s.toks) (ch:=[]) (λ_ z=>nomatch z) (λb o h1 _ _ e _=>iW b o h1 e) (λb o h1 _ _ e _=>⟨o.slots,iW b o h1 e⟩) (λb o _ e hn=>?_) (λb o _ e=>?_) (λb xs e=>?_) (λb o xs e=>?_) (λb ps e=>⟨#[],?_⟩) (λm' hm=>?_) (λb u e=>?_) I.bare
  ·rw[cQ (λz=>by rw[z,Cz]at e;cases e)];exact hn
  ·by_cases hb:b=X.env.locals
   ·obtain⟨o',_,_,e',_⟩:=F2.ns;exact⟨o',by rw[hb];exact e'⟩
   ·exact⟨o,iW b o hb e⟩
  ·rw[cQ (cS e hD)];exact e
  ·rw[cQ (cS e hD)];exact e
  ·rw[cQ (cS e hD),e];simp
  ·rw[CP hm F.ns];exact F2.ns
  ·by_cases hb:b=D
   ·subst hb;rw[cU]at e;cases e;exact⟨by rw[ae,aN,sz];exact bg (jR (by omega)),_,c,vl,Ru⟩
   ·rw[cQ hb]at e;refine(I.fP b u e).yJ (λk v hk z=>iW k v ?_ z) (λk z=>by rw[cQ (cS z hD)];exact z) λk xs z=>by rw[cQ (cS z hD)];exact z
    rcases hk with rfl|hk
    ·intro z;rw[z,I.free]at e;cases e
    ·intro z;rw[z,I.free]at hk;cases hk
 ·rw[List.pairwise_map,List.pairwise_iff_getElem];intro i j hi hj vp;have xf:i<ar.size:=by simpa using hi
  have GU:j<ar.size:=by simpa using hj
  have le:=s2 i j (bg vp) (by omega)
  unfold So.kk at le;rw[aT,aT,aU xf,aU GU]at le;simp only[Option.getD_some]at le;have e:=jT (nss:=nss) (a:=nss.getD (ar[j]) []) (b:=nss.getD (ar[i]) []) (kQ _ _) (kQ _ _);simp only[Array.getElem_toList];rw[e];exact aG (by omega)
end
end L2
namespace DL
open PySem PySem.Spec PyProof.Rows L2
variable [Mem]
noncomputable def HX (a b:Int):Bool:=decide (a<=b)
noncomputable def sortI (ns:cn):cn:=ns.mergeSort HX
noncomputable def Rv (a b:cn):Bool:= !(HT.lexLt b a)
noncomputable def fQ (nss:cm):cm:=nss.mergeSort Rv
omit [Mem] in
theorem sortI_perm (ns:cn):(sortI ns).Perm ns:=List.mergeSort_perm _ _
omit [Mem] in
theorem rT (ns:cn):(sortI ns).Pairwise (·<= ·):=
 (List.pairwise_mergeSort (le:=HX) (λa b c h1 h2=>by simp only[HX,decide_eq_true_eq]at *; omega) (λa b=>by simp only[HX,Bool.or_eq_true,decide_eq_true_eq];omega) ns).imp λ{a b} h=>by simpa [HX]using h
omit [Mem] in
theorem eA (nss:cm):(fQ nss).Perm nss:=List.mergeSort_perm _ _
omit [Mem] in
theorem o3 (nss:cm):(fQ nss).Pairwise (λa b=>HT.lexLt b a=false):=
 (List.pairwise_mergeSort (le:=Rv) (λa b c h1 h2=>by
  simp only[Rv,Bool.not_eq_true']at *;cases h:HT.lexLt c a with
  |false=>rfl
  |true=>
   cases hb:HT.lexLt b c with
   |true=>rw[HT.kH hb h]at h1;cases h1
   |false=>rw[HT.gc hb h2]at h1;rw[h1]at h;cases h) (λa b=>by
  simp only[Rv,Bool.or_eq_true,Bool.not_eq_true'];cases h:HT.lexLt b a with
  |false=>exact .inl rfl
  |true=>
   right;cases h2:HT.lexLt a b with
   |false=>rfl
   |true=>have:=HT.kH h h2;rw[HT.nM]at this;cases this) nss).imp λ{a b} h=>by simpa [Rv]using h
omit [Mem] in
theorem fB {α:Type}{R:α->α->Prop}(Rw:∀a b,R a b->R b a->a=b):∀{l m:List α},l.Perm m->l.Pairwise R->m.Pairwise R->l=m
 |[],m,h,_,_=>by have:=h.length_eq;cases m with|nil=>rfl|cons _ _=>cases this
 |a::l,m,h,p,q=>by
  cases m with
  |nil=>exact absurd h.length_eq (by simp)
  |cons b m=>
   have Ek:a=b:=by
    by_cases e:a=b
    ·exact e
    ·have h1:a∈m:=(List.mem_cons.mp (h.mem_iff.mp af)).resolve_left e;have h2:b∈l:=(List.mem_cons.mp (h.mem_iff.mpr af)).resolve_left (Ne.symm e);exact Rw a b ((List.pairwise_cons.mp p).1 b h2) ((List.pairwise_cons.mp q).1 a h1)
   subst Ek;rw[fB Rw ((List.perm_cons a).mp h) (List.pairwise_cons.mp p).2 (List.pairwise_cons.mp q).2]
noncomputable def tupI (ns:cn):D:=.tup (ns.map D.int)
noncomputable abbrev _root_.cG (i:Int):DL.Sl:=.dat (.int i)
noncomputable abbrev _root_.cH (l:List Int):DL.Sl:=.dat (tupI l)
noncomputable def jU:cu->Option (cm)
 |[]=>some []
 |.tup ds::r=>(intsOf ds).bind λns=>(jU r).map λnss=>ns::nss
 |_=>none
omit [Mem] in
theorem p9:∀{ds:cu}{nss:cm},jU ds=some nss->ds=nss.map tupI
 |[],_,h=>by cases h;rfl
 |.tup es::r,nss,h=>by
  unfold jU at h;cases h1:intsOf es with
  |none=>rw[h1]at h;cases h
  |some ns=>
   cases h2:jU r with
   |none=>rw[h1,h2]at h;cases h
   |some ms=>rw[h1,h2]at h;cases h;rw[p9 h2,iz h1];rfl
omit [Mem] in
theorem qV (nss:cm):jU (nss.map tupI)=some nss:=by
 induction nss with
 |nil=>rfl
 |cons n r ih=>show(intsOf (n.map D.int)).bind _=_;rw[hU];show(jU (r.map tupI)).map _=_;rw[ih];rfl
noncomputable def fy:cu->Option (cu)
 |[.lst ds]=>if ds.length<64 then
   (match intsOf ds with
   |some ns=>some ((sortI ns).map D.int)
   |none=>(jU ds).bind λnss=>if nss.all (λns=> !ns.isEmpty)=true then some ((fQ nss).map tupI)else none)
  else none
 |_=>none
theorem IsL.Eo {K:W.Frag}{C H:Hp}(s:dR C H):∀{nss:cm}{vs:List V},IsL C vs (nss.map tupI)->zl K H vs nss
 |[],_,.nil=>.nil
 |ns::r,_,.cons h t=>by
  cases h with
  |tup h l=>
   cases l.mD;exact .cons ⟨_,rfl,iU.of (s _ _ h)⟩ (IsL.Eo s t)
theorem IsL.places {C:Hp}{vs:List V}{ds:cu}(l:IsL C vs ds):∀(ix:List Nat),(∀i∈ix,i<ds.length)->IsL C (ix.map λi=>vs.getD i .fN) (ix.map λi=>ds.getD i .fN)
 |[],_=>.nil
 |i::ix,h=>by
  refine .cons ?_ (IsL.places l ix λk hk=>h k (ai _ hk))
  have hi:=h i af;obtain⟨v,h1,h2⟩:=l.get (ah hi);show Is C (vs.getD i .fN) (ds.getD i .fN);rw[ak,ak,h1,ah hi];exact h2
omit [Mem] in
theorem lP {α:Type}(l:List α) (d:α):(List.range l.length).map (λi=>l.getD i d)=l:=by
 apply List.ext_getElem
 ·simp
 ·intro i h1 h2;simp[ak,ah h2]
omit [Mem] in
theorem zo {α β:Type}(f:α->β) (l:List α) (a:α) (b:β) (ix:List Nat) (h:∀i∈ix,i<l.length):(ix.map λi=>(l.map f).getD i b)=(ix.map λi=>l.getD i a).map f:=by
 rw[aV];apply bS
 intro i hi;have:=h i hi;simp[ak,av,ah this]
section
variable {X:Cx}
theorem lQ (hu:X.A.units+64<cLine):Ei X (.builtin "sorted") fy:=by
 refine⟨_,tw.or (uD.or (tE hu)),?_⟩;intro C H vs ds d Q s i q k;unfold fy at q;split at q
 ·rename_i es;split at q
  case isFalse=>cases q
  rename_i CQ;obtain⟨v,rfl,j⟩:=i.one;obtain⟨p,xs,rfl,hq,l⟩:=j.list (K:=X.K) s;split at q
  ·rename_i ns hi;cases q;rw[iz hi]at l CQ;cases l.mD;refine .inl ⟨p,ns,rfl,hq,by simpa using CQ,λt ms ht pm pw=>?_⟩
   have e:ms=sortI ns:=fB (λa b h1 h2=>Int.le_antisymm h1 h2) (pm.trans (sortI_perm ns).symm) pw (rT ns)
   subst e;exact k t _ C _ (.fu s ht) ht (s.free ht) cU (.ints _)
  ·cases hn:jU es with
   |none=>rw[hn]at q;cases q
   |some nss=>
    rw[hn]at q;simp only[ao]at q;split at q
    ·rename_i vo;cases q;have ee:=p9 hn;subst ee;have lv:=l.length;rw[ae]at lv CQ;by_cases h2:xs.length<2
     ·refine .inr (.inl ⟨p,xs,rfl,hq,h2,λt ht=>?_⟩)
      have e:fQ nss=nss:=by
       have:nss.length<2:=by omega
       match nss,this with
       |[],_=>exact List.Perm.eq_nil (eA [])
       |[a],_=>exact List.perm_singleton.mp (eA [a])
      rw[e]at k;exact k t xs C _ (.fu s ht) ht (s.free ht) cU l
     ·refine .inr (.inr ⟨p,xs,nss,rfl,hq,l.Eo s,by omega,by omega,λns KG=>?_,λt ix ht pm pw=>?_⟩)
      ·have:=List.all_eq_true.mp vo ns KG;intro z;subst z;simp at this
      ·have lt:∀i∈ix,i<(nss.map tupI).length:=λi hi=>by
        have:=pm.mem_iff.mp hi;rw[List.mem_range]at this;rw[ae];omega
       have lt':∀i∈ix,i<nss.length:=λi hi=>by have:=lt i hi;rwa [ae]at this
       have e:(ix.map λi=>nss.getD i [])=fQ nss:=by
        refine fB (λa b h1 h2=>HT.gc h2 h1) ?_ pw (o3 nss)
        have e1:(ix.map λi=>nss.getD i []).Perm ((List.range nss.length).map λi=>nss.getD i []):=List.Perm.map _ (by rw[<-lv];exact pm)
        rw[lP]at e1;exact e1.trans (eA nss).symm
       have ll:=l.places ix lt;rw[zo tupI nss [] .fN ix lt',e]at ll;exact k t _ C _ (.fu s ht) ht (s.free ht) cU ll
    ·cases q
 ·cases q
end
section
variable {X:Cx}{e:cE}{pos:Pos}{C0 H0:Hp}{f:cb}
noncomputable def K8:List Nat->Mm
 |[]=>Qv
 |i::is=>Mn (vh i) (K8 is)
noncomputable def CT:List Nat->cu->dM->dM
 |i::is,d::ds,δ=>CT is ds (δ.set i (.dat d))
 |_,_,δ=>δ
theorem MF {B C H:Hp}{Q:L2.St->Hp->Prop}:∀(is:List Nat) {xs:List V}{ds:cu}{δ:dM}{σ:L2.St},IsL C xs ds->ds.length=is.length->Gd B C0 H0 δ σ C H->(∀σ',Gd B C0 H0 (CT is ds δ) σ' C H->Q σ' H)->K8 is xs σ H Q
 |[],_,_,_,_,.nil,_,g,k=>⟨rfl,k _ g⟩
 |_::_,_,_,_,_,.nil,h,_,_=>by cases h
 |i::is,_,_,_,_,.cons h t,hl,g,k=>⟨_,_,rfl,MF is t (by simpa using hl) (g.nJ h) k⟩
noncomputable def K9 (is:List Nat) (f:cb):bZ:=λδ=>match f δ with
 |some (.tup ds)=>if ds.length=is.length then some (.next (CT is ds δ))else none
 |_=>none
theorem OJ (is:List Nat) {es:List cE}{kt:Nat}{oQ:Pos}(hc:X.calm=true) (he:PD X e f) (hg:PZ X es (K8 is)) (hn:(assignEach es X.env).length=is.length:=by rfl) (kO:(assignEach es X.env).findIdx? (·.1)=none:=by rfl)
  (hs:swapsWithSole [.Tuple es kt oQ] e pos.line X.env=pure false:=by rfl) (hw:swappedStores [.Tuple es kt oQ] e X.env=pure none:=by rfl) (h1:(assignEach [.Tuple es kt oQ] X.env).map (·.2)=[assign (.Tuple es kt oQ) X.env]:=by rfl):
  PB X C0 H0 (.Assign [.Tuple es kt oQ] e pos) (K9 is f):=λB=>(G4 he (Nv hc hg hn kO) hs hw h1).imp λDn σ H ⟨C,δ,r,gd,q,k⟩=>by
 unfold K9 at q;split at q
 ·rename_i ds hf;split at q
  ·rename_i hl;cases q;refine⟨C,δ,_,gd.x,hf,λv C' H' ev i=>?_⟩
   cases i with
   |tup hr l=>exact⟨_,_,rfl,iU.of (ev.s _ _ hr),by rw[l.length];exact hl,MF is l hl (gd.Ak ev) λσ' g'=>k σ' C' H' g'⟩
  ·cases q
 ·cases q
theorem OK {i:Nat}{o:cE}{apos:Pos}(ho:PE X o (ir i)) (he:PD X e f) (m8:starEach [e] X.env=(false,eval e X.env)::starEach [] X.env:=by exact eG rfl) (oU:attributeBase o "append" X.env (eval o X.env)=eval o X.env:=by rfl)
  (vn:((backTo pos (starEach [e] X.env)).all (λx=> !x.1)&&(backToKw pos (keywordEach [] X.env)).all (λx=>x.1.isSome)
   &&decide ([e].length+([]:List Keyword).length+(if([]:List Keyword).isEmpty then 0 else 1)<30))=true:=by exact HG rfl)
  (oV:(apos.endLine==pos.line)=true:=by rfl) (lM:(backTo pos (starEach [] X.env)).any (·.1)=false:=by exact fx rfl) {pos':Pos}(hs:swapsWith (.Call (.Attribute o "append" apos) [e] [] pos) none pos'.line X.env=pure false:=by rfl):
  PB X C0 H0 (.Expr (.Call (.Attribute o "append" apos) [e] [] pos) pos') (sZ i f):=
 FH (oX he rM m8) ho (λ_ _ _ h=>h) (Hq PySem.F.plainAttrs_list PySem.F.slot_list_append PySem.F.type_list_append xU ho (oX he rM m8) oU vn oV m8 lM) hs
theorem Gd.fu {B C H:Hp}{δ:dM}{σ:L2.St}(g:Gd B C0 H0 δ σ C H) {a:cD}(h0:H0 a=none) (hc:C a=none) (hn:∀(k:Nat) (es:cu),δ[k]? =some (.own es)->σ[k]? ≠some (some (.ref a))) (hx:∀u,H a=some u->B3 u=false) (o:HO):Gd B C0 H0 δ σ C (upd H a o):=
 ⟨g.b,g.ev.Ef h0 hc o,⟨λb u q=>by rw[cQ (cS q hc)];exact g.x.sub b u q,g.x.dat,λk ds q=>by
   obtain⟨b,xs,h1,h2,h3,h4⟩:=g.x.own k ds q;exact⟨b,xs,h1,h2,by rw[cQ (λz=>hn k ds q (by rw[h1,z]))];exact h3,h4⟩,g.x.za,g.x.len,λk ks q=>by
   obtain⟨b,h1,h2,h3,h4⟩:=g.x.mem k ks q;exact⟨b,h1,h2,Mem.Ra h3 hx,λk hk=>Mem.HA h3 hx (h4 k hk)⟩⟩,g.fr⟩
theorem Gd.La {B C H:Hp}{δ:dM}{σ:L2.St}(g:Gd B C0 H0 δ σ C H) {i:Nat}{a:cD}{xs:List V}{ds:cu}(h0:H0 a=none) (hc:C a=none) (hH:H a=some (.lst xs)) (hl:IsL C xs ds) (hn:∀(k:Nat) (es:cu),δ[k]? =some (.own es)->σ[k]? ≠some (some (.ref a))):Gd B C0 H0 (δ.set i (.own ds)) (σ.set i (some (.ref a))) C H:=
 ⟨g.b,g.ev,g.x.zd hc hH hl hn,λk es b q1 q2=>by
  rcases getElem?_set_cases q1 with⟨rfl,e1⟩|⟨hk,e1⟩
  ·rcases getElem?_set_cases q2 with⟨_,e2⟩|⟨z,_⟩
   ·cases e2;exact h0
   ·exact absurd rfl z
  ·rw[aF (Ne.symm hk)]at q2;exact g.fr k es b e1 q2⟩
noncomputable def qr (j m:Nat) (f:cb) (δ:dM):cu->cu->Option (cu×cu)
 |ls,[]=>some ([],ls)
 |ls,d::ds=>match f ((δ.set m (.own ls)).set j (.dat d))with
  |some (.int i)=>if 0<=i then(match ls[i.toNat]? with
   |some x=>(qr j m f δ (ls.eraseIdx i.toNat) ds).map λr=>(x::r.1,r.2)
   |none=>none)else none
  |_=>none
noncomputable def yg (k j m:Nat) (i:bY) (f:cb):bZ:=λδ=>match δ[m]? with
 |some (.own ls)=>if ls.length<1000000 then(i δ).bind λds=>if ds.length<1000000 then(qr j m f δ ls ds).map λr=>.next ((δ.set m (.own r.2)).set k (.own r.1))else none else none
 |_=>none
omit [Mem] in
theorem getElem?_set_own {δ:dM}{m k:Nat}{ls es:cu}(hm:∃fs,δ[m]? =some (Sl.own fs)) (h:(δ.set m (Sl.own ls))[k]? =some (.own es)):∃fs,δ[k]? =some (.own fs):=by
 rcases getElem?_set_cases h with⟨rfl,_⟩|⟨_,e⟩
 ·exact hm
 ·exact⟨_,e⟩
theorem HY {B:Hp}{k j m:Nat}{i:bY}{tt:TT}(HZ:m≠j) (ht:∀σ H Q,tQ jO σ H Q->tt σ H Q) {K:W.Frag}:∀Dn σ H,tS B C0 H0 (yg k j m i f) Dn σ H->
  AD k (xV (tI i) j tt (QV K "list" yW (ir m) (P8 (aY f cL)))) Dn σ H:=λDn σ H ⟨C,δ,r,gd,q,kk⟩=>by
 unfold yg at q;split at q
 case h_2=>cases q
 rename_i ls hm;split at q
 case isFalse=>cases q
 rename_i Rx;cases hf:i δ with
 |none=>rw[hf]at q;cases q
 |some ds=>
  rw[hf]at q;simp only[ao]at q;split at q
  case isFalse=>cases q
  rename_i hz;cases hp:qr j m f δ ls ds with
  |none=>rw[hp]at q;cases q
  |some pr=>
   rw[hp]at q;cases q;obtain⟨ys,rem⟩:=pr;refine⟨C,δ,ds,gd.x,hf,λJ C1 H1 ev wk A hA=>?_⟩
   have g1:=gd.Ak ev;have Ia:∀(k:Nat) (es:cu),δ[k]? =some (.own es)->σ[k]? ≠some (some (.ref A)):=λk es e z=>by
    obtain⟨a,xs,h1,_,h3,_⟩:=g1.x.own k es e;rw[z]at h1;cases h1;rw[hA]at h3;cases h3
   have CU:∀(ls:cu) (k:Nat) (es:cu),(δ.set m (.own ls))[k]? =some (.own es)->σ[k]? ≠some (some (.ref A)):=λls k es e=>by
    obtain⟨fs,e'⟩:=getElem?_set_own ⟨_,hm⟩ e;exact Ia k fs e'
   have OL:H0 A=none:=g1.ev.free hA;have dm:δ.set m (.own ls)=δ:=by
    apply List.ext_getElem?
    intro n;by_cases e:n=m
    ·subst e;rw[bc (List.getElem?_eq_some_iff.mp hm).1,hm]
    ·rw[aF (Ne.symm e)]
   refine⟨λn mm acc H'=>∃C' lc done rest,mm=ds.length-n/\n<=ds.length/\Gd B C0 H0 (δ.set m (.own lc)) σ C' H'/\dR C1 C'/\C' A=none/\H' A=some (.lst acc)/\IsL C' acc done/\done.length<=n/\lc.length<1000000/\qr j m f δ lc (ds.drop n)=some (rest,rem)/\ys=done++rest,
    ⟨ds.length,C1,ls,[],ys,by simp,bL _,by rw[dm];exact g1.fu OL (ev.s.free hA) Ia (λu q=>by rw[hA]at q;cases q) _,dR.refl _,ev.s.free hA,cU,.nil,au _,Rx,by simpa using hp,rfl⟩,?_⟩
   rintro n mm acc H2 ⟨C2,lc,done,rest,rfl,hn,g2,sc,a2,b2,l2,Um,Ur,q2,ey⟩
   have w:=wk n C2 H2 sc g2.x.sub;by_cases eY:n<ds.length
   ·have hd:ds[n]? =some ds[n]:=ah eY;obtain⟨go,yl⟩:=w.1 _ hd;rw[List.drop_eq_getElem_cons eY]at q2;refine .inr ⟨go,λv H3 y=>?_⟩
    obtain⟨rfl,is⟩:=yl v H3 y;have x3:=g2.x.nJ (i:=j) is;unfold qr at q2;split at q2
    case h_2=>cases q2
    rename_i ii Us;split at q2
    case isFalse=>cases q2
    rename_i Ut;split at q2
    case h_2=>cases q2
    rename_i x hx;cases hr:qr j m f δ (lc.eraseIdx ii.toNat) (ds.drop (n+1))with
    |none=>rw[hr]at q2;cases q2
    |some pr=>
     rw[hr]at q2;cases q2;have Uu:m<δ.length:=(List.getElem?_eq_some_iff.mp hm).1;have om:(δ.set m (.own lc))[m]? =some (.own lc):=bc Uu;obtain⟨a,xs,h1,h2,h3,h4⟩:=g2.x.own m lc om;refine ht _ _ _ ⟨C2,_,true,x3,rfl,λC4 H4 e4=>AA ?_⟩
     have g4:=g2.Ak e4;have Fz:=e4.hh h3;refine⟨.ref a,by rw[aF (Ne.symm HZ)];exact h1,.inl ⟨rfl,_,oF.of Fz⟩,C4,_,[.int ii],x3.ev e4,by unfold aY cL;rw[Us];rfl,λvs C5 H5 e5 i5=>?_⟩
     cases i5 with
     |cons Uv Uw=>
      cases Uw;cases Uv;have yb:=e4.trans e5;have g5:=g2.Ak yb;have Ux:=yb.hh h3;have l5:=h4.mono yb.c;obtain⟨vx,Ry,Uy⟩:=l5.get hx;have hlen:xs.length=lc.length:=l5.length;have Uz:ii.toNat<xs.length:=(List.getElem?_eq_some_iff.mp Ry).1;have aA:a≠A:=λz=>CU lc m lc om (by rw[h1,z])
      have Ox:H5 A=some (.lst acc):=yb.hh b2;have a5:=yb.nn a2 b2;refine⟨a,xs,ii,ii.toNat,vx,rfl,rfl,Ux,by omega,by omega,seqIndex_of Ut (by omega),Ry,?_⟩
      refine⟨by rw[cQ (Ne.symm aA)];exact Ox,by rw[l2.length];exact rN (by omega),ds.length-(n+1),by omega,C5,lc.eraseIdx ii.toNat,done++[x],pr.1,rfl,eY,?_,sc.trans yb.c,a5,cU,(l2.mono yb.c).append (.one Uy),?_,?_,hr,?_⟩
      ·have g6:=g5.mut (es:=lc.eraseIdx ii.toNat) om h1 (l5.eraseIdx ii.toNat);rw[List.set_set]at g6;exact g6.fu OL a5 (CU _) (λu q=>by rw[cQ (Ne.symm aA),Ox]at q;cases q;rfl) _
      ·rw[aQ,List.length_singleton];omega
      ·exact Nat.lt_of_le_of_lt (pY _ _) Ur
      ·rw[ey,List.append_assoc];rfl
   ·have e:n=ds.length:=by omega
    subst e;rw[List.drop_length]at q2;unfold qr at q2;cases q2;rw[bB]at ey;subst ey;refine .inl ⟨w.2 (au _),kk _ C2 H2 ?_⟩;exact g2.La OL a2 b2 l2 (CU _)
variable {elt o iter:cE}{x y:Str}{px py mO apos dY:Pos}{scope:Scope}{i:bY}
theorem Lb (k j m:Nat) (hc:X.calm=true) (HZ:m≠j) (S:gm X scope x j) (hi:MC X (.Name x px) iter i) (ho:∀cl C s H fp,PE (df X scope cl C s H fp) o (ir m)) (he:∀cl C s H fp,PD (df X scope cl C s H fp) e f)
  (m8:∀cl C s H fp,starEach [e] (df X scope cl C s H fp).env=(false,eval e (df X scope cl C s H fp).env)::starEach [] (df X scope cl C s H fp).env:=by intros;exact eG rfl)
  (oU:∀cl C s H fp,attributeBase o "pop" (df X scope cl C s H fp).env (eval o (df X scope cl C s H fp).env)=eval o (df X scope cl C s H fp).env:=by intros;rfl)
  (vn:∀cl C s H fp,((backTo dY (starEach [e] (df X scope cl C s H fp).env)).all (λx=> !x.1)&&(backToKw dY (keywordEach [] (df X scope cl C s H fp).env)).all (λx=>x.1.isSome)
   &&decide ([e].length+([]:List Keyword).length+(if([]:List Keyword).isEmpty then 0 else 1)<30))=true:=by intros;exact HG rfl)
  (oV:(apos.endLine==dY.line)=true:=by rfl) (lM:∀cl C s H fp,(backTo dY (starEach [] (df X scope cl C s H fp).env)).any (·.1)=false:=by intros;rfl)
  (hN:X.N[k]? =some y:=by rfl) (hy:Loc X.env.scope y:=by first|exact Or.inl rfl|exact Or.inr rfl) (hf:X.fn y=true\/X.env.scope.names.lookup y=some .local:=by first|exact .inl rfl|exact .inr rfl)
  (CA:swapsWith (.ListComp (.Call (.Attribute o "pop" apos) [e] [] dY) [⟨.Name x px,iter,[],0⟩] scope pos) (some (.Name y py)) mO.line X.env=pure true:=by rfl)
  (hs:∀v,foldedSetIterable iter X.env v=pure v:=by intro _;rfl):PB X C0 H0 (.Assign [.Name y py] (.ListComp (.Call (.Attribute o "pop" apos) [e] [] dY) [⟨.Name x px,iter,[],0⟩] scope pos) mO) (yg k j m i f):=λB=>
 (qR hc S hi (λ_ _ _ _ _=>rG) (λcl C s H fp=>Hq PySem.F.plainAttrs_list PySem.F.slot_list_pop PySem.F.type_list_pop Ay (ho cl C s H fp) (oX (he cl C s H fp) rM (m8 cl C s H fp)) (oU cl C s H fp) (vn cl C s H fp) oV (m8 cl C s H fp) (lM cl C s H fp)) hN hy hf CA hs).imp (HY HZ zf)
end
end DL
namespace DL
open PySem PySem.Spec PyProof.Rows L2
def js (P:cz) (w:cA) (K:W.Frag) (mg:cj) (base:Heap) (k:Nat) (x:Str) (g:cf):Prop:=
 ∃f fd ps,eJ P w K mg base ju k f fd ps (pZ g)/\mg x=some (.ref f)/\W.keepIn K (.ref f)=true/\Binds K fd ps []
theorem js.mono {P:cz}{w:cA}{K:W.Frag}{mg:cj}{base:Heap}{j k:Nat}{x:Str}{g:cf}(c:js P w K mg base j x g) (h:j<=k):js P w K mg base k x g:=
 let ⟨f,fd,ps,F,r⟩:=c;⟨f,fd,ps,F.mono h,r⟩
section
variable {X:Cx}{e:cE}{es:List cE}{p pos:Pos}{x:Str}
theorem Ib [Mem] {k:Nat}{g:cf}{fa:bY}(c:js X.prog X.w X.K X.mg X.base k x g) (hr:gr k X.A) (hg:Gl X x) (ha:GS X (e::es) fa)
  (rD:(x==("__debug__":Str))=false:=by decide) (he:starEach (e::es) X.env=(false,eval e X.env)::starEach es X.env:=by exact eG rfl) (jM:(backTo pos (starEach es X.env)).any (·.1)=false:=by exact fx rfl):
  PD X (.Call (.Name x p) (e::es) [] pos) (cO g fa):=by
 obtain⟨f,fd,ps,F,hm,hk,hb⟩:=c;exact KW F hr hg hm hk hb ha rD he jM
end
end DL
namespace DL
open PySem PySem.Spec PyProof.Rows L2
noncomputable def zp (K:W.Frag):Bool:=K.all λp=>match p.2.data with
 |.seq _ _=>(match p.2.cls with|.type t=>t !="list"|_=>true)
 |_=>true
theorem mem_of_lookup {K:W.Frag}{a:cD}{o:Obj}(e:K.lookup a=some o):(a,o)∈K:=by
 induction K with
 |nil=>cases e
 |cons p r ih=>
  obtain⟨b,u⟩:=p;rw[bq]at e;by_cases h:a=b
  ·subst h;simp only[bN]at e;cases e;exact af
  ·have hb:(a==b)=false:=by simpa using h
   simp only[hb]at e;exact ai _ (ih e)
theorem CV {K:W.Frag}(h:zp K=true) {a:cD}{o:Obj}{dg:Array cw}{n:Nat}(e:K.lookup a=some o) (hc:o.cls=.type "list") (hs:o.data=.seq dg n):False:=by
 have:=List.all_eq_true.mp h _ (mem_of_lookup e);simp only[hs,hc]at this;simp at this
theorem Rz {l:W.OpenLaw}{q:cz}{loose:List Str}{XP:(cj)->Heap->Prop}{YP:cA->Heap->Prop}{d:DefRec}{K:Params->W.Frag}{x:Str}{g:cf}(hn:l.most=some 63) (QZ:d.params.defaults=[])
  (hY:∀(w:cA) (h:Heap),YP w h->(K w.params).In h)
  (hg:∀ns:cn,ns.length<=63->g [.lst (ns.map D.int)]=some (.bl true))
  (Ht:∀t∈ux,((recsOf q).find? λe=>e.name==t.1).isSome=true)
  (F:∀(w:cA) (mg:cj) (fa:cD) (h:Heap),(K w.params).In h->h.Ns mainGlobals mg->mg d.name=some (.ref fa)->
   zp (K w.params)=true/\tabsOk (K w.params)=true/\∃fd:cy,(∀(s:cx) (u:cw),BindsTo s fd ⟨[u],[]⟩ [(x,u)])/\∀base:Heap,(K w.params).In base->base.Ns mainGlobals mg->eJ l.prog w (K w.params) mg base ju 65 fa fd [x] (pZ g)):
  W.WalkO q loose XP YP l.row.toRowW d [] (λf vs=>PySem.call f vs):=
 L2.KH (n:=63) (k:=65) (x:=x) (CX:=λ_=>ju) (sp:=λw vs H Q E=>zp (K w.params)=true->pZ g vs H Q E) hn (by decide) QZ ⟨rfl,by decide,by decide,rfl⟩ hY Ht
  (λw mg fa h k1 k2 k3=>by
   obtain⟨z,tz,fd,b,f⟩:=F w mg fa h k1 k2 k3;exact⟨tz,fd,b,λbase e1 e2=>(f base e1 e2).imp λvs H Q E h=>h z⟩)
  (λw H a ns hl hS hz=>by
   have hr:Rd H a (.lst (ns.map V.int)):=by
    rcases hS with h|⟨o,dg,n,e1,e2,_,e4,_⟩
    ·exact h
    ·exact(CV hz e1 e2 e4).elim
   exact⟨H,[.lst (ns.map D.int)],.bl true,dR.refl H,.cons (.lst hr (.ints ns)) .nil,hg ns hl,λv C' H' ev i=>by cases i;rfl⟩)
  λ_ _ _ _ _ z=>z
end DL
namespace DL
open PySem PySem.Spec PyProof.Rows L2
variable [Mem]
structure WD (X:Cx) (e:cE) (f:cb):Prop where
 go:PD X e f
structure WO (X:Cx) (e:cE) (f:cb):Prop where
 go:PO X e f
structure WF (X:Cx) (e:cE) (f:bY):Prop where
 go:PF X e f
structure WQ (X:Cx) (e:cE) (f:cc):Prop where
 go:PQ X e f
structure MG (X:Cx) (e:cE) (f:cc):Prop where
 go:S8 X e f
structure Ic (X:Cx) (es:List cE) (f:bY):Prop where
 go:GS X es f
structure P9 (X:Cx) (es:List cE) (f:bY):Prop where
 go:Oi X es f
structure uE (X:Cx) (tg e:cE) (f:bY):Prop where
 go:MC X tg e f
structure Qa (X:Cx) (tg e:cE) (f:bY):Prop where
 go:Ot X tg e f
structure WB (X:Cx) (C0 H0:Hp) (st:cF) (f:bZ):Prop where
 go:PB X C0 H0 st f
structure vE (X:Cx) (C0 H0:Hp) (st:List cF) (f:bZ):Prop where
 go:CJ X C0 H0 st f
structure WP (X:Cx) (e:Option cE) (f:dM->Option (Option Int)):Prop where
 go:L2.PO X e (tP f)
section
variable {X:Cx}{e tg:cE}{pos:Pos}
theorem cN (i:Nat) {x:Str}(hN:X.N[i]? =some x:=by rfl) (hv:PV X.env.scope x:=by first|exact Or.inl rfl|exact Or.inr (Or.inl rfl)|exact Or.inr (Or.inr rfl)) (hd:(x==("__debug__":Str))=false:=by decide) (xj:(x==("__classdict__":Str))=false:=by decide):WO X (.Name x pos) (de i):=⟨FC (B8 hN hv hd xj)⟩
theorem cK (i:Nat) {x:Str}(hN:X.N[i]? =some x:=by rfl) (hv:PV X.env.scope x:=by first|exact Or.inl rfl|exact Or.inr (Or.inl rfl)|exact Or.inr (Or.inr rfl)) (hd:(x==("__debug__":Str))=false:=by decide) (xj:(x==("__classdict__":Str))=false:=by decide):WD X (.Name x pos) (cP i):=⟨FA (B8 hN hv hd xj)⟩
theorem WD.o {f:cb}(h:WD X e f):WO X e f:=⟨h.go.o⟩
theorem WF.d {f:bY}(h:WF X e f):WD X e (dL f):=⟨h.go.d⟩
theorem MG.pt {f:cc}(h:MG X e f):WQ X e f:=⟨h.go.pt⟩
theorem uE.weak {f:bY}(h:uE X tg e f):Qa X tg e f:=⟨h.go.weak⟩
theorem Ie:WP X none K7:=⟨Ro⟩
theorem CW {f:cb}(h:WO X e f):WP X (some e) (xq f):=⟨OG h.go⟩
end
end DL
namespace DL
open PySem PySem.Spec PyProof.Rows L2
theorem gn {P:cz}{w:cA}{K:W.Frag}{mg:cj}{base:Heap}{x qual:Str}{st:cF}{f:cD}{fd:cy}{N ps:List Str}{k:Nat}(F:nF K x qual st f fd) (S:dB N ps (cM st)) {fb:bZ}
  (kC:∀(m:Mem) (gk:cw) (A:cB) (outer:List Env) (s:cx) (H:Hp) (E:XK),gr k (A.deeper (envOfC qual (cM st) s.heap.objs.size f gk))->∀C0 H0,vE (qQ ju P w K mg base N qual (cM st) f gk A outer s H E).D3 C0 H0 (dv st) fb):
  eJ P w K mg base ju (k+1) f fd ps (pZ (gY N.length ps.length fb)):=MD F S λgk A outer s H E hr C0 H0=>@vE.go Mem.keep _ _ _ _ _ (kC Mem.keep gk A outer s H E hr C0 H0)
variable [Mem]
section
variable {C:Hp}
end
section
variable {C H C' H' C2 H2:Hp}
variable [Mem]
end
section
variable [Mem] {δ:dM}{σ:L2.St}{C H C' H':Hp}
end
variable [Mem]
section
variable {X:Cx}{e a b c:cE}{pos:Pos}
theorem cV {i:Int}{j:Nat}:WD X (.Constant (.int i) j pos) (dC (.int i)):=⟨N0⟩
theorem vF {i:Bool}{j:Nat}:WD X (.Constant (.bool i) j pos) (dC (.bl i)):=⟨Rb⟩
theorem i9 {x:Str}{i:Int}{t:Tok}(hg:Gl X x) (hm:X.mg x=some (.int i t)) (hd:(x==("__debug__":Str))=false:=by decide):WD X (.Name x pos) (dC (.int i)):=⟨KQ hg hm hd⟩
theorem jw {f g:cb}(ha:WO X a f) (hb:WO X b g):WD X (.BinOp a .Add b pos) (dt jN f g):=⟨N4 ha.go hb.go⟩
theorem tG {f g:cb}(ha:WO X a f) (hb:WO X b g):WD X (.BinOp a .Sub b pos) (dt qS f g):=⟨N5 ha.go hb.go⟩
theorem vG {f g:cb}(ha:WO X a f) (hb:WO X b g):WD X (.BinOp a .Mult b pos) (dt rL f g):=⟨N6 ha.go hb.go⟩
theorem CY {f g:cb}(ha:WO X a f) (hb:WO X b g):WD X (.BinOp a .FloorDiv b pos) (dt FE f g):=⟨N7 ha.go hb.go⟩
theorem CZ {f g:cb}(ha:WO X a f) (hb:WO X b g):WD X (.BinOp a .Mod b pos) (dt xn f g):=⟨N8 ha.go hb.go⟩
theorem vH {op:CmpOp}{o:D->D->Option D}{f g:cb}(c:vy X op o) (ha:WO X a f) (hb:WO X b g) (hm:behindInMarks op b=false:=by first|exact vj _|rfl):WD X (.Compare a [op] [b] pos) (dt o f g):=⟨Ob c ha.go hb.go hm⟩
theorem vI {f:cb}(h:WD X e f) (he:∀whole,isTrue e X.env whole=(do let v <-whole;standAt e.pos;holding [v] (truthy v)):=by intro _;rfl):WQ X e (qB f):=⟨Oc h.go he⟩
theorem eN {op:CmpOp}{o:D->D->Option D}{f g:cb}(c:vy X op o) (ha:WO X a f) (hb:WO X b g) (hm:behindInMarks op b=false:=by first|exact vj _|rfl):WQ X (.Compare a [op] [b] pos) (qB (dt o f g)):=⟨Od c ha.go hb.go hm⟩
theorem vJ {f:cc}(ha:WQ X a f):MG X (.BoolOp .And [a] pos) f:=⟨HE ha.go⟩
theorem uU {rest:List cE}{f g:cc}(ha:WQ X a f) (hb:MG X (.BoolOp .And (b::rest) pos) g):MG X (.BoolOp .And (a::b::rest) pos) (qq f g):=⟨KR ha.go hb.go⟩
theorem vK {f:cc}(ha:WQ X a f):WQ X (.UnaryOp .Not a pos) (sY f):=⟨Of ha.go⟩
theorem OM {op:BoolOp}{f:cb}(h:WD X a f):WD X (.BoolOp op [a] pos) f:=⟨Og h.go⟩
theorem ON {rest:List cE}{f g:cb}(ha:WD X a f) (hb:WD X (.BoolOp .And (b::rest) pos) g):WD X (.BoolOp .And (a::b::rest) pos) (FF f g):=⟨Oh ha.go hb.go⟩
theorem AJ {q:cc}{f g:cb}(hc:WQ X c q) (ha:WD X a f) (hb:WD X b g):WD X (.IfExp c a b pos) (Ri q f g):=⟨HF hc.go ha.go hb.go⟩
end
section
variable {X:Cx}{e:cE}{es:List cE}{pos p:Pos}{x:Str}
theorem cJ:Ic X [] cL:=⟨rM⟩
theorem aX {f:cb}{g:bY}(ha:WD X e f) (hr:Ic X es g) (hs:starEach (e::es) X.env=(false,eval e X.env)::starEach es X.env:=by exact eG rfl):Ic X (e::es) (aY f g):=⟨oX ha.go hr.go hs⟩
theorem dq:P9 X [] cL:=⟨KS⟩
theorem cZ {f:cb}{g:bY}(ha:WO X e f) (hr:P9 X es g) (hs:starEach (e::es) X.env=(false,eval e X.env)::starEach es X.env:=by exact eG rfl):P9 X (e::es) (aY f g):=⟨HH ha.go hr.go hs⟩
theorem dS {k:Nat}{f:bY}(h:Ic X es f):WD X (.Tuple es k pos) (eE f):=⟨Oj h.go⟩
theorem jV {f:bY}(h:Ic X es f):WF X (.List es pos) (jS f):=⟨Ol h.go⟩
theorem gf {id:String}{g:cf}{f:bY}(hc:ow X (.builtin id) g) (hg:Gl X x) (hm:X.mg x=none) (hv:bootBuiltins x=some (.builtin id)) (ha:P9 X (e::es) f) (hn:x≠"__name__":=by decide) (rD:(x==("__debug__":Str))=false:=by decide) (he:starEach (e::es) X.env=(false,eval e X.env)::starEach es X.env:=by exact eG rfl) (jM:(backTo pos (starEach es X.env)).any (·.1)=false:=by exact fx rfl):WD X (.Call (.Name x p) (e::es) [] pos) (cO g f):=⟨HI hc hg hm hv ha.go hn rD he jM⟩
theorem jx {id:String}{g:cu->Option (cu)}{f:bY}(hc:Ei X (.builtin id) g) (hg:Gl X x) (hm:X.mg x=none) (hv:bootBuiltins x=some (.builtin id)) (ha:P9 X (e::es) f) (hn:x≠"__name__":=by decide) (rD:(x==("__debug__":Str))=false:=by decide) (he:starEach (e::es) X.env=(false,eval e X.env)::starEach es X.env:=by exact eG rfl) (jM:(backTo pos (starEach es X.env)).any (·.1)=false:=by exact fx rfl):WF X (.Call (.Name x p) (e::es) [] pos) (fj g f):=⟨HJ hc hg hm hv ha.go hn rD he jM⟩
theorem dP {T:String}{g:cf}{f:bY}(hc:ow X (.type T) g) (hg:Gl X x) (hm:X.mg x=none) (hv:bootBuiltins x=some (.type T)) (ha:P9 X (e::es) f) (hn:x≠"__name__":=by decide) (rD:(x==("__debug__":Str))=false:=by decide) (he:starEach (e::es) X.env=(false,eval e X.env)::starEach es X.env:=by exact eG rfl) (jM:(backTo pos (starEach es X.env)).any (·.1)=false:=by exact fx rfl):WD X (.Call (.Name x p) (e::es) [] pos) (cO g f):=⟨FG hc hg hm hv ha.go hn rD he jM⟩
end
variable [Mem]
section
variable {B C0 H0 C H C' H':Hp}{δ:dM}{σ:L2.St}
end
section
variable {X:Cx}{C0 H0:Hp}{st:cF}{Rk rest:List cF}{e:cE}{pos:Pos}{f g:bZ}
theorem fU:vE X C0 H0 [] kE:=⟨KY⟩
theorem da (h:WB X C0 H0 st f):vE X C0 H0 [st] f:=⟨KZ h.go⟩
theorem cW (h:WB X C0 H0 st f) (h2:vE X C0 H0 rest g):vE X C0 H0 (st::rest) (ei f g):=⟨HK h.go h2.go⟩
theorem lR (i:Nat) (h:vE X C0 H0 Rk f):vE X C0 H0 Rk (qz i f):=⟨HL i h.go⟩
theorem dH {f:cb}(he:WD X e f):WB X C0 H0 (.Return (some e) pos) (eQ f):=⟨Om he.go⟩
theorem jy (i:Nat) {x:Str}{pos':Pos}{f:cb}(hN:X.N.Nodup) (he:WD X e f) (hi:X.N[i]? =some x:=by rfl) (hx:Loc X.env.scope x:=by first|exact Or.inl rfl|exact Or.inr rfl) (hs:swapsWith e (some (.Name x pos')) pos.line X.env=pure false:=by rfl) (hf:X.fn x=true\/X.env.scope.names.lookup x=some .local:=by first|exact .inl rfl|exact .inr rfl):WB X C0 H0 (.Assign [.Name x pos'] e pos) (lu i f):=⟨Oq i hN he.go hi hx hs hf⟩
theorem iA (i:Nat) {x:Str}{pos':Pos}{f:bY}(hN:X.N.Nodup) (he:WF X e f) (hi:X.N[i]? =some x:=by rfl) (hx:Loc X.env.scope x:=by first|exact Or.inl rfl|exact Or.inr rfl) (hs:swapsWith e (some (.Name x pos')) pos.line X.env=pure false:=by rfl) (hf:X.fn x=true\/X.env.scope.names.lookup x=some .local:=by first|exact .inl rfl|exact .inr rfl):WB X C0 H0 (.Assign [.Name x pos'] e pos) (gp i f):=⟨K0 i hN he.go hi hx hs hf⟩
theorem jP {c:cE}{a b:List cF}{q:cc}(hc:WQ X c q) (ha:vE X C0 H0 a f) (hb:vE X C0 H0 b g):WB X C0 H0 (.If c a b pos) (p6 q f g):=⟨Rl hc.go ha.go hb.go⟩
end
section
variable {X:Cx}{tg e:cE}
theorem AK {f:cb}(h:WD X e f):uE X tg e (iL f):=⟨AG h.go⟩
theorem eZ {f:cb}(h:WD X e f):uE X tg e (iT f):=⟨Ej h.go⟩
theorem uV {f:cb}(h:WO X e f):Qa X tg e (iL f):=⟨K1 h.go⟩
theorem nN {a:cE}{f:bY}{p pos:Pos}(hg:Gl X "range") (hm:X.mg "range"=none) (ha:Ic X [a] f) (hs:starEach [a] X.env=[(false,eval a X.env)]:=by exact eG rfl):uE X tg (.Call (.Name "range" p) [a] [] pos) (ya f):=⟨CM hg hm ha.go hs⟩
theorem mQ {C0 H0:Hp}{iter:cE}{body:List cF}{i:bY}{f:bZ}{pos:Pos}{j:Nat}(hp:PassesOwn (model X.prog X.w) X.A X.env X.xe) (hc:X.calm=true) (hi:uE X tg iter i) (hg:PG X tg (vh j)) (hb:vE X C0 H0 body f) (hs:∀x,foldedSetIterable iter X.env x=pure x:=by intro _;rfl):WB X C0 H0 (.For tg iter body [] pos) (oH j i f):=⟨Ou hp hc hi.go hg hb.go hs⟩
end
section
variable {X:Cx}{elt iter:cE}{x:Str}{px pos:Pos}{scope:Scope}{i:bY}{t:cc}{f:cb}
theorem nO (j:Nat) (hc:X.calm=true) (S:gm X scope x j) (hi:Qa X (.Name x px) iter i) (he:∀cl C s H fp,WD (df X scope cl C s H fp) elt f) (hs:∀v,foldedSetIterable iter X.env v=pure v:=by intro _;rfl):WF X (.ListComp elt [⟨.Name x px,iter,[],0⟩] scope pos) (eh i j jO f):=⟨K2 j hc S hi.go (λcl C s H fp=>(he cl C s H fp).go) hs⟩
theorem gO (j:Nat) {c:cE}(hc:X.calm=true) (S:gm X scope x j) (hi:Qa X (.Name x px) iter i) (ht:∀cl C s H fp,WQ (df X scope cl C s H fp) c t) (he:∀cl C s H fp,WD (df X scope cl C s H fp) elt f) (hs:∀v,foldedSetIterable iter X.env v=pure v:=by intro _;rfl):WF X (.ListComp elt [⟨.Name x px,iter,[c],0⟩] scope pos) (eh i j t f):=⟨FJ j hc S hi.go (λcl C s H fp=>(ht cl C s H fp).go) (λcl C s H fp=>(he cl C s H fp).go) hs⟩
variable {C0 H0:Hp}{y:Str}{py mO:Pos}
theorem vL (k j:Nat) (hc:X.calm=true) (S:gm X scope x j) (hi:Qa X (.Name x px) iter i) (he:∀cl C s H fp,WD (df X scope cl C s H fp) elt f) (hN:X.N[k]? =some y:=by rfl) (hy:Loc X.env.scope y:=by first|exact Or.inl rfl|exact Or.inr rfl) (hf:X.fn y=true\/X.env.scope.names.lookup y=some .local:=by first|exact .inl rfl|exact .inr rfl) (CA:swapsWith (.ListComp elt [⟨.Name x px,iter,[],0⟩] scope pos) (some (.Name y py)) mO.line X.env=pure true:=by rfl) (hs:∀v,foldedSetIterable iter X.env v=pure v:=by intro _;rfl):WB X C0 H0 (.Assign [.Name y py] (.ListComp elt [⟨.Name x px,iter,[],0⟩] scope pos) mO) (gp k (eh i j jO f)):=⟨CN k j hc S hi.go (λcl C s H fp=>(he cl C s H fp).go) hN hy hf CA hs⟩
theorem zq (k j:Nat) {c:cE}(hc:X.calm=true) (S:gm X scope x j) (hi:Qa X (.Name x px) iter i) (ht:∀cl C s H fp,WQ (df X scope cl C s H fp) c t) (he:∀cl C s H fp,WD (df X scope cl C s H fp) elt f) (hN:X.N[k]? =some y:=by rfl) (hy:Loc X.env.scope y:=by first|exact Or.inl rfl|exact Or.inr rfl) (hf:X.fn y=true\/X.env.scope.names.lookup y=some .local:=by first|exact .inl rfl|exact .inr rfl) (CA:swapsWith (.ListComp elt [⟨.Name x px,iter,[c],0⟩] scope pos) (some (.Name y py)) mO.line X.env=pure true:=by rfl) (hs:∀v,foldedSetIterable iter X.env v=pure v:=by intro _;rfl):WB X C0 H0 (.Assign [.Name y py] (.ListComp elt [⟨.Name x px,iter,[c],0⟩] scope pos) mO) (gp k (eh i j t f)):=⟨zh k j hc S hi.go (λcl C s H fp=>(ht cl C s H fp).go) (λcl C s H fp=>(he cl C s H fp).go) hN hy hf CA hs⟩
end
section
variable {X:Cx}{pins:ck}{σ:L2.St}{C H:Hp}{s:cx}
end
variable [Mem]
section
variable {X:Cx}{a b c e o:cE}{pos:Pos}{f g h:cb}
theorem eB (ha:WO X a f) (hb:WO X b g) (hs:pX b):WD X (.Subscript a b pos) (dt i8 f g):=⟨OB ha.go hb.go hs⟩
end
variable [Mem]
section
variable {X:Cx}{a b c e o:cE}{pos p p2:Pos}{f g h:cb}
theorem zr (ha:WO X a f) (hb:WO X b g):WF X (.BinOp a .Add b pos) (dt xp f g):=⟨K6 ha.go hb.go⟩
theorem OO {lo hi:Option cE}{fl fh:dM->Option (Option Int)}(he:WO X e f) (hl:WP X lo fl) (hh:WP X hi fh):WF X (.Subscript e (.Slice lo hi none p2) pos) (HV f fl fh):=⟨OH he.go hl.go hh.go⟩
theorem rU {f:bY}{p' pos':Pos}(hc:X.calm=true) (hg:Gl X "list") (hm:X.mg "list"=none) (Up:Gl X "range") (Am:X.mg "range"=none) (ha:Ic X [a] f) (hs:starEach [a] X.env=[(false,eval a X.env)]:=by exact eG rfl) (he:starEach [.Call (.Name "range" p') [a] [] pos'] X.env=(false,eval (.Call (.Name "range" p') [a] [] pos') X.env)::starEach [] X.env:=by exact eG rfl) (jM:(backTo pos (starEach [] X.env)).any (·.1)=false:=by exact fx rfl):WF X (.Call (.Name "list" p) [.Call (.Name "range" p') [a] [] pos'] [] pos) (ya f):=⟨zj hc hg hm Up Am ha.go hs he jM⟩
end
variable [Mem]
section
variable {X:Cx}
end
section
variable {X:Cx}{e:cE}{pos:Pos}{C0 H0:Hp}{f:cb}
theorem OP (is:List Nat) {es:List cE}{kt:Nat}{oQ:Pos}(hc:X.calm=true) (he:WD X e f) (hg:PZ X es (K8 is)) (hn:(assignEach es X.env).length=is.length:=by rfl) (kO:(assignEach es X.env).findIdx? (·.1)=none:=by rfl) (hs:swapsWithSole [.Tuple es kt oQ] e pos.line X.env=pure false:=by rfl) (hw:swappedStores [.Tuple es kt oQ] e X.env=pure none:=by rfl) (h1:(assignEach [.Tuple es kt oQ] X.env).map (·.2)=[assign (.Tuple es kt oQ) X.env]:=by rfl):WB X C0 H0 (.Assign [.Tuple es kt oQ] e pos) (K9 is f):=⟨OJ is hc he.go hg hn kO hs hw h1⟩
theorem vM {i:Nat}{o:cE}{apos:Pos}(ho:PE X o (ir i)) (he:WD X e f) (m8:starEach [e] X.env=(false,eval e X.env)::starEach [] X.env:=by exact eG rfl) (oU:attributeBase o "append" X.env (eval o X.env)=eval o X.env:=by rfl) (vn:((backTo pos (starEach [e] X.env)).all (λx=> !x.1)&&(backToKw pos (keywordEach [] X.env)).all (λx=>x.1.isSome)
   &&decide ([e].length+([]:List Keyword).length+(if([]:List Keyword).isEmpty then 0 else 1)<30))=true:=by exact HG rfl) (oV:(apos.endLine==pos.line)=true:=by rfl) (lM:(backTo pos (starEach [] X.env)).any (·.1)=false:=by exact fx rfl) {pos':Pos}(hs:swapsWith (.Call (.Attribute o "append" apos) [e] [] pos) none pos'.line X.env=pure false:=by rfl):WB X C0 H0 (.Expr (.Call (.Attribute o "append" apos) [e] [] pos) pos') (sZ i f):=⟨OK ho he.go m8 oU vn oV lM hs⟩
variable {elt o iter:cE}{x y:Str}{px py mO apos dY:Pos}{scope:Scope}{i:bY}
theorem Lc (k j m:Nat) (hc:X.calm=true) (HZ:m≠j) (S:gm X scope x j) (hi:uE X (.Name x px) iter i) (ho:∀cl C s H fp,PE (df X scope cl C s H fp) o (ir m)) (he:∀cl C s H fp,WD (df X scope cl C s H fp) e f) (m8:∀cl C s H fp,starEach [e] (df X scope cl C s H fp).env=(false,eval e (df X scope cl C s H fp).env)::starEach [] (df X scope cl C s H fp).env:=by intros;exact eG rfl) (oU:∀cl C s H fp,attributeBase o "pop" (df X scope cl C s H fp).env (eval o (df X scope cl C s H fp).env)=eval o (df X scope cl C s H fp).env:=by intros;rfl) (vn:∀cl C s H fp,((backTo dY (starEach [e] (df X scope cl C s H fp).env)).all (λx=> !x.1)&&(backToKw dY (keywordEach [] (df X scope cl C s H fp).env)).all (λx=>x.1.isSome)
   &&decide ([e].length+([]:List Keyword).length+(if([]:List Keyword).isEmpty then 0 else 1)<30))=true:=by intros;exact HG rfl) (oV:(apos.endLine==dY.line)=true:=by rfl) (lM:∀cl C s H fp,(backTo dY (starEach [] (df X scope cl C s H fp).env)).any (·.1)=false:=by intros;rfl) (hN:X.N[k]? =some y:=by rfl) (hy:Loc X.env.scope y:=by first|exact Or.inl rfl|exact Or.inr rfl) (hf:X.fn y=true\/X.env.scope.names.lookup y=some .local:=by first|exact .inl rfl|exact .inr rfl) (CA:swapsWith (.ListComp (.Call (.Attribute o "pop" apos) [e] [] dY) [⟨.Name x px,iter,[],0⟩] scope pos) (some (.Name y py)) mO.line X.env=pure true:=by rfl) (hs:∀v,foldedSetIterable iter X.env v=pure v:=by intro _;rfl):WB X C0 H0 (.Assign [.Name y py] (.ListComp (.Call (.Attribute o "pop" apos) [e] [] dY) [⟨.Name x px,iter,[],0⟩] scope pos) mO) (yg k j m i f):=⟨Lb k j m hc HZ S hi.go ho (λcl C s H fp=>(he cl C s H fp).go) m8 oU vn oV lM hN hy hf CA hs⟩
end
section
variable {X:Cx}{e:cE}{es:List cE}{p pos:Pos}{x:Str}
theorem cY {k:Nat}{g:cf}{fa:bY}(c:js X.prog X.w X.K X.mg X.base k x g) (hr:gr k X.A) (hg:Gl X x) (ha:Ic X (e::es) fa) (rD:(x==("__debug__":Str))=false:=by decide) (he:starEach (e::es) X.env=(false,eval e X.env)::starEach es X.env:=by exact eG rfl) (jM:(backTo pos (starEach es X.env)).any (·.1)=false:=by exact fx rfl):WD X (.Call (.Name x p) (e::es) [] pos) (cO g fa):=⟨Ib c hr hg ha.go rD he jM⟩
end
end DL
namespace DL
open PySem PySem.Spec PyProof.Rows L2
variable [Mem]
noncomputable def Ig:D->Option Bool
 |.fN=>some false
 |.bl b=>some b
 |.int i=>some (i !=0)
 |.str z=>if z.length<=1000000 then some ((z.length:Int)!=0)else none
 |.tup ds=>some (!ds.isEmpty)
 |.lst ds=>some (!ds.isEmpty)
noncomputable def qT (f:cb):cc:=λδ=>(f δ).bind Ig
theorem IsL.isEmpty {C:Hp}{xs:List V}{ds:cu}(l:IsL C xs ds):xs.isEmpty=ds.isEmpty:=by cases l<;>rfl
theorem Ep {K:W.Frag}{C H:Hp}{v:V}{d:D}{b:Bool}(s:dR C H) (i:oW C H v d) (h:Ig d=some b):Kk K v H b:=by
 cases d with
 |fN=>cases h;have:=i.is (λ_ z=>by cases z);cases this;rfl
 |bl c=>cases h;have:=i.is (λ_ z=>by cases z);cases this;rfl
 |int c=>cases h;have:=i.is (λ_ z=>by cases z);cases this;rfl
 |str z=>
  simp only[Ig]at h;split at h
  ·rename_i hz;cases h;have:=i.is (λ_ z=>by cases z);cases this
   exact⟨aB hz (by decide),rfl⟩
  ·cases h
 |tup ds=>
  cases h;obtain⟨a,xs,rfl,hq,l,_⟩:=i.tup (K:=K) s;exact .inr (.inl ⟨xs,hq,by rw[l.isEmpty]⟩)
 |lst ds=>
  cases h;obtain⟨a,xs,rfl,hq,l⟩:=i.list (K:=K) s;exact .inl ⟨xs,hq,by rw[l.isEmpty]⟩
section
variable {X:Cx}{a b c e o:cE}{pos p p2:Pos}{f g h:cb}
theorem Ih (ha:PO X e f) (he:∀whole,isTrue e X.env whole=(do let v <-whole;standAt e.pos;holding [v] (truthy v)):=by intro _;rfl):PQ X e (qT f):=(Hb ha he).imp λσ H Q ⟨C,δ,b,x,q,k⟩=>by
 unfold qT at q;cases hf:f δ with
 |none=>rw[hf]at q;cases q
 |some d=>
  rw[hf]at q;exact⟨C,δ,d,x,hf,λv C' H' ev i=>⟨b,Ep ev.s i q,k C' H' ev⟩⟩
theorem Ii:t9 X (binaryOp .Add) (λx y H Q=>∃a b ys,x=.ref a/\y=.ref b/\iU X.K H a []/\iU X.K H b ys/\Q (.ref b) H):=by
 intro pins s σ H x y v u Q I rx ry h;obtain⟨a,b,ys,rfl,rfl,ha,hb,q⟩:=h;cases rx;cases ry;obtain⟨dg,r1,p1,_⟩:=I.tuple ha;obtain⟨eX,r2,p2,_⟩:=I.tuple hb;have e0:dg=[]:=by cases r1;rfl
 obtain⟨⟨cls,dd,data,sl⟩,ho,hc,n,hd⟩:=id p1;obtain⟨⟨NL,J4,data2,Hk⟩,uA,ub,n2,hd2⟩:=id p2;simp only at hc hd ub hd2;subst hc hd ub hd2;exact concat_meets ⟨_,ho,rfl⟩ ⟨_,uA,rfl⟩ noFill_tuple_add seq_tuple_add PySem.F.slot_tuple_add PySem.F.entry_tuple_add (PySem.F.args_tuple_add_2 _ _)
   (tuple_addW0 a b dg.toArray eX.toArray n n2 dd J4 sl Hk (by simp[e0])) ⟨ho,uA,⟨.ref b,H,I,rfl,q⟩⟩
noncomputable def mv:D->D->Option D
 |.tup a,.tup b=>if a.length+b.length<=1000000 then some (.tup (a++b))else none
 |_,_=>none
theorem Ld:My (λx y H Q=>(∃a b ys,x=.ref a/\y=.ref b/\iU X.K H a []/\iU X.K H b ys/\Q (.ref b) H)\/Mu X.K x y H Q) mv:=λC H x y dx dy d Q s ix iy q k=>by
 unfold mv at q;split at q
 ·rename_i ds es;split at q
  ·rename_i hz;cases q;obtain⟨a,xs,rfl,hq,l,hc⟩:=ix.tup (K:=X.K) s;obtain⟨b,ys,rfl,S9,l2,ub⟩:=iy.tup (K:=X.K) s;cases ds with
   |nil=>
    cases l;exact .inl ⟨a,b,ys,rfl,rfl,hq,S9,k _ C H (.refl s) (.tup ub l2)⟩
   |cons d0 ds=>
    refine .inr ⟨a,b,xs,ys,rfl,rfl,hq,S9,(λz=>by rw[z]at l;cases l),by rw[l.length,l2.length];exact aB hz (by decide),λz=>?_,λz t ht=>?_⟩
    ·subst z;cases l2;exact k _ C H (.refl s) (.tup hc (by rw[bB];exact l))
    ·exact k _ _ _ (.new s ht) (.tup cU ((l.append l2).mono (eD (s.free ht))))
  ·cases q
 ·cases q
theorem Lf (ha:PO X a f) (hb:PO X b g):PD X (.BinOp a .Add b pos) (dt mv f g):=xY (Ii.or Kx) Ld ha hb
theorem IsL.OQ {C:Hp}{xs:List V}{ds:cu}(l:IsL C xs ds) {lo hi:Option Int}(h:HT.g0 xs.length 0 lo=0/\HT.g0 xs.length xs.length hi=xs.length):IsL C xs (cutD ds lo hi):=by
 unfold cutD;rw[<-l.length,h.1,h.2,List.drop_zero,Nat.sub_zero,l.length,List.take_length];exact l
end
end DL
namespace DL
open PySem PySem.Spec PyProof.Rows L2
noncomputable instance:DecidableEq D:=Classical.typeDecidableEq D
mutual
inductive KI (h:Heap):cw->D->Prop where
 |int (n:Int) (t:Tok):KI h (.int n t) (.int n)
 |tup {a:cD}{o:Obj}{items:Array cw}{n:Nat}{ds:cu}:h.get? a=some o->o.cls=.type "tuple"->o.data=.seq items n->qW h items.toList ds->KI h (.ref a) (.tup ds)
inductive qW (h:Heap):cv->cu->Prop where
 |nil:qW h [] []
 |cons {v:cw}{d:D}{vs:cv}{ds:cu}:KI h v d->qW h vs ds->qW h (v::vs) (d::ds)
end
theorem qW.length {h:Heap}:∀{vs:cv}{ds:cu},qW h vs ds->vs.length=ds.length
 |_,_,.nil=>rfl
 |_,_,.cons _ t=>congrArg (·+1) t.length
theorem qW.get {h:Heap}:∀{vs:cv}{ds:cu}{i:Nat}{v:cw},qW h vs ds->vs[i]? =some v->∃d,ds[i]? =some d/\KI h v d
 |_,_,_,_,.nil,e=>by simp at e
 |_,_,0,_,.cons h _,e=>⟨_,rfl,by simp only[aM,Option.some.injEq]at e;subst e;exact h⟩
 |_,_,i+1,_,.cons _ t,e=>by
  obtain⟨d,h1,h2⟩:=t.get (i:=i) (by simpa using e)
  exact⟨d,by simpa using h1,h2⟩
mutual
theorem KI.inj {h:Heap}:∀{v:cw}{d e:D},KI h v d->KI h v e->d=e
 |_,_,_,.int n t,.int _ _=>rfl
 |_,_,_,.tup h1 h2 h3 l,.tup Aj B4 Fz l'=>by
  rw[h1]at Aj;cases Aj;rw[h3]at Fz;injection Fz with e1 _;subst e1
  rw[l.inj l']
theorem qW.inj {h:Heap}:∀{vs:cv}{ds es:cu},qW h vs ds->qW h vs es->ds=es
 |_,_,_,.nil,.nil=>rfl
 |_,_,_,.cons h t,.cons h' t'=>by rw[h.inj h',t.inj t']
end
mutual
theorem KI.keeps {h h':Heap}{x:cD}{ox:Obj}{es:Array DictEntry}{ep:Nat}(ho:h.get? x=some ox) (hd:ox.data=.dict es ep) (hs:Heap.SameBut x h h'):∀{v:cw}{d:D},KI h v d->KI h' v d
 |_,_,.int n t=>.int n t
 |_,_,@KI.tup _ a o items n ds h1 h2 h3 l=>by
  have jr:a≠x:=by
   rintro rfl
   rw[ho]at h1;cases h1;rw[hd]at h3;exact nomatch h3
  exact .tup ((hs.2 a jr).trans h1) h2 h3 (qW.keeps ho hd hs l)
theorem qW.keeps {h h':Heap}{x:cD}{ox:Obj}{es:Array DictEntry}{ep:Nat}(ho:h.get? x=some ox) (hd:ox.data=.dict es ep) (hs:Heap.SameBut x h h'):∀{vs:cv}{ds:cu},qW h vs ds->qW h' vs ds
 |_,_,.nil=>.nil
 |_,_,.cons h t=>.cons (KI.keeps ho hd hs h) (qW.keeps ho hd hs t)
end
mutual
noncomputable def eI:D->Int
 |.int n=>hashInt n
 |.tup ds=>reduceHash (Builtin.Tuple.tupleHashOf (lS ds))
 |_=>0
noncomputable def lS:cu->cn
 |[]=>[]
 |d::ds=>eI d::lS ds
end
mutual
noncomputable def vN:D->Nat
 |.tup ds=>oy ds+1
 |_=>1
noncomputable def oy:cu->Nat
 |[]=>0
 |d::ds=>vN d+oy ds
end
theorem nQ:∀a b:cu,lS (a++b)=lS a++lS b
 |[],b=>by simp[lS]
 |x::a,b=>by simp[lS,nQ a b]
theorem nR:∀a b:cu,oy (a++b)=oy a+oy b
 |[],b=>by simp[oy]
 |x::a,b=>by simp[oy,nR a b,Nat.add_assoc]
section
variable {prog:cz}{w:cA}{E:cg}
theorem KI.hash (n:Nat):∀(A:cB) (s:cx) (v:cw) (d:D) (Q:Int->cx->Prop),dU d<=n->A.units+n<cLine->KI s.heap v d->Q (eI d) {s with toks:=s.toks+vN d}->wpAny (model prog w) A (pyHash v) Q E s:=by
 induction n with
 |zero=>
  intro A s v d Q hn hu k h;cases k with
  |int i t=>
   unfold eI vN at h;exact wpAny_pyHash_int h
  |tup h1 h2 h3 l=>unfold dU at hn;omega
 |succ n ih=>
  intro A s v d Q hn hu k h;cases k with
  |int i t=>
   unfold eI vN at h;exact wpAny_pyHash_int h
  |@tup a o items m ds ho hc hd l=>
   have hT:s.TypeIs (.ref a) "tuple":=⟨o,ho,hc⟩;have xO:gZ ds<=n:=by unfold dU at hn;omega
   unfold eI vN at h;unfold pyHash
   first|unfold pyHashByItsType|skip
   first|refine aa (wpAny_cRoomFor_or (.inr (by omega)) ?_)|skip
   refine aa (wpAny_specialOf hT F.slot_tuple_hash.lookup ?_);show wpAny _ _ (if(some (Value.builtin "tuple.__hash__")==some Value.none)=true then _ else _) Q E s
   rw[if_neg (by rw[beq_builtin_none];exact aZ)]
   refine aa (wpAny_specialOf hT F.slot_tuple_hash.lookup ?_);show wpAny _ _ (callSpecialIfBoundUnlessNone? (.ref a) "__hash__" _>>=_) Q E s;refine aa (wpAny_callSpecialIfBoundUnlessNone?_slot hT F.slot_tuple_hash (bM F.slot_tuple_hash hT F.entry_tuple_hash ?_ (F.args_tuple_hash_1 _)));show wpAny _ _ (Builtin.Tuple.tupleItemsOf (.ref a)>>=_) _ _ s;refine aa (wpAny_tupleItemsOf ho hd ?_);refine aa ?_;rw[<-Array.forIn_toList];refine wpAny_forIn_list _
    (λrest (b:Array Int) s'=>∃done left,ds=done++left/\qW s.heap rest left/\b.toList=lS done/\s'={s with toks:=s.toks+oy done})
    _ ?_ ?_ _ _ ⟨[],ds,rfl,l,by simp[lS],by simp[oy]⟩
   ·rintro x rest b s' ⟨done,left,rfl,hl,hb,rfl⟩
    cases hl with
    |@cons _ k _ RA h1 g9=>
     have hk:dU k<=n:=aB (jv (aL _ af)) xO;refine aa (ih _ {s with toks:=s.toks+oy done} x k _ hk ?_ h1 ?_)
     ·show A.units+1+n<cLine;omega
     ·first
       |exact aj ⟨done++[k],RA,by simp,g9,by simp[hb,nQ,lS],by simp[Nat.add_assoc,nR,oy]⟩
       |exact aa (aj (aj ⟨done++[k],RA,by simp,g9,by simp[hb,nQ,lS],by simp[Nat.add_assoc,nR,oy]⟩))
   ·rintro b s' ⟨done,left,rfl,hl,hb,rfl⟩
    cases hl;rw[bB]at h;show wpAny _ _ (retInt (Builtin.Tuple.tupleHashOf b.toList)) _ _ _;rw[hb];refine wpAny_ret_mkInt ?_;show wpAny _ _ (if(decide (-(2:Int)^63<=Builtin.Tuple.tupleHashOf (lS done))&&decide (Builtin.Tuple.tupleHashOf (lS done)<2^63))=true then _ else _) Q E _
    unfold reduceHash at h;by_cases hr:(decide (-(2:Int)^63<=Builtin.Tuple.tupleHashOf (lS done))&&decide (Builtin.Tuple.tupleHashOf (lS done)<2^63))=true
    ·rw[if_pos hr];rw[if_pos hr]at h;exact aj (by simpa [Nat.add_assoc]using h)
    ·rw[if_neg hr];rw[if_neg hr]at h;exact aa (wpAny_rule (aj (by simpa [Nat.add_assoc]using h)))
theorem KI.eq (n:Nat):∀(A:cB) (s:cx) (u v:cw) (d e:D),dU d<=n->A.units+n<cLine->KI s.heap u d->KI s.heap v e->SeqAt.EqAt A s u v (dN d e):=by
 induction n with
 |zero=>
  intro A s u v d e hn hu ku kv;have g7:A.units<cLine:=by omega
  cases ku with
  |int i t=>
   cases kv with
   |int j t'=>unfold dN;exact SeqAt.EqAt.int_int i t j t'
   |@tup b o2 gu n2 es uA ub hd2 l2=>unfold dN;exact SeqAt.EqAt.int_tuple i t (items:=gu) ⟨o2,uA,ub,n2,hd2⟩ g7
  |tup h1 h2 h3 l=>unfold dU at hn;omega
 |succ n ih=>
  intro A s u v d e hn hu ku kv;have g7:A.units<cLine:=by omega
  cases ku with
  |int i t=>
   cases kv with
   |int j t'=>unfold dN;exact SeqAt.EqAt.int_int i t j t'
   |@tup b o2 gu n2 es uA ub hd2 l2=>unfold dN;exact SeqAt.EqAt.int_tuple i t (items:=gu) ⟨o2,uA,ub,n2,hd2⟩ g7
  |@tup a o items m ds ho hc hd l=>
   have xO:gZ ds<=n:=by unfold dU at hn;omega
   have p1:IsTup s.heap a items:=⟨o,ho,hc,m,hd⟩;cases kv with
   |int j t'=>unfold dN;exact SeqAt.EqAt.tuple_int j t' p1 g7
   |@tup b o2 gu n2 es uA ub hd2 l2=>
    have p2:IsTup s.heap b gu:=⟨o2,uA,ub,n2,hd2⟩;by_cases Ek:a=b
    ·subst Ek;have e:=KI.inj (KI.tup ho hc hd l) (KI.tup uA ub hd2 l2);rw[<-e,oY];exact SeqAt.EqAt.same _
    ·have hits:∀j (h1:j<items.size) (h2:j<gu.size),SeqAt.EqAt A.in1 s items[j] gu[j] (dN (ds.getD j .fN) (es.getD j .fN)):=λj h1 h2=>by
      obtain⟨d1,e1,i1⟩:=l.get (i:=j) (v:=items[j]) (by simp[h1])
      obtain⟨d2,e2,i2⟩:=l2.get (i:=j) (v:=gu[j]) (by simp[h2])
      rw[ak,ak,e1,e2];exact ih A.in1 s _ _ d1 d2 (aB (jv (bh e1)) xO) (by show A.units+1+n<cLine;omega) i1 i2
     have q:=SeqAt.RcAt.tuples p1 p2 g7 hits;have z1:items.size=ds.length:=by rw[<-aN,l.length]
     have z2:gu.size=es.length:=by rw[<-aN,l2.length]
     unfold dN;rw[kG];rw[z1,z2]at q;exact SeqAt.EqAt.of_refs Ek q
mutual
theorem KI.dN {h h':Heap}:∀{u v:cw}{d e:D},KI h u d->KI h' v e->dN d e=decide (d=e)
 |_,_,_,_,.int i t,.int j t'=>by unfold DL.dN;by_cases e:i=j<;>simp[e]
 |_,_,_,_,.int i t,.tup _ _ _ _=>by unfold DL.dN;simp
 |_,_,_,_,.tup _ _ _ _,.int j t'=>by unfold DL.dN;simp
 |_,_,_,_,.tup _ _ _ l,.tup _ _ _ l'=>by
  unfold DL.dN;rw[qW.kP l l'];simp
theorem qW.kP {h h':Heap}:∀{us vs:cv}{ds es:cu},qW h us ds->qW h' vs es->kP ds es=decide (ds=es)
 |_,_,_,_,.nil,.nil=>by unfold DL.kP;simp
 |_,_,_,_,.nil,.cons _ _=>by unfold DL.kP;simp
 |_,_,_,_,.cons _ _,.nil=>by unfold DL.kP;simp
 |_,_,_,_,.cons a b,.cons a' b'=>by
  unfold DL.kP;rw[KI.dN a a',qW.kP b b'];simp[Bool.decide_and]
end
theorem KI.quiet (n:Nat):∀(A:cB) (s:cx) (u:cw) (d:D) (Q:Bool->cx->Prop),dU d<=n->KI s.heap u d->Q true s->wpAny (model prog w) A (eqIsQuiet n u) Q E s:=by
 induction n with
 |zero=>
  intro A s u d Q hn k h;cases k with
  |int i t=>rw[eqIsQuiet_byValue _ rfl];exact aj h
  |tup h1 h2 h3 l=>unfold dU at hn;omega
 |succ n ih=>
  intro A s u d Q hn k h;cases k with
  |int i t=>rw[eqIsQuiet_byValue _ rfl];exact aj h
  |@tup a o items m ds ho hc hd l=>
   have hT:s.TypeIs (.ref a) "tuple":=⟨o,ho,hc⟩;have xO:gZ ds<=n:=by unfold dU at hn;omega
   unfold eqIsQuiet;refine aa (wpAny_specialOf hT F.slot_tuple_eq.lookup ?_);show wpAny _ _ (isInstance (.ref a) (.type "tuple")>>=_) _ _ s;refine aa (wpAny_isInstance hT isSubtype_tuple_tuple ?_);simp only[bT,aH,bD];refine aa (wpAny_seqItems ho hd ?_);refine aa ?_;show wpAny _ _ (forIn items _ _) _ _ s;rw[<-Array.forIn_toList];refine wpAny_forIn_list _ (λrest r s'=>r.1=none/\s'=s/\∃es,(∀e∈es,dU e<=n)/\qW s.heap rest es) _ ?_ ?_ _ _ ⟨rfl,rfl,ds,λe he=>aB (jv he) xO,l⟩
   ·rintro v rest r s' ⟨hr,rfl,es,he,hk⟩
    cases hk with
    |cons k1 k2=>
     refine aa (ih A s' v _ _ (he _ af) k1 ?_);simp only[bT,aH,bD];exact aj ⟨rfl,rfl,_,λe h=>he e (ai _ h),k2⟩
   ·rintro⟨r1,r2⟩ s' ⟨hr,rfl,_⟩
    simp only at hr;subst hr;exact aj h
end
noncomputable def ly (prog:cz) (w:cA):HeapKind prog w D where
 is:=λh d a=>KI h (.ref a) d/\dU d<=4
 hash:=eI
 draws:=vN
 room:=λA=>A.units+8<cLine
 inj:=λhx hy=>hx.1.inj hy.1
 keeps:=λx ho hd hs=>⟨x.1.keeps ho hd hs,x.2⟩
 pyHash:=λhu hk h=>KI.hash 4 _ _ _ _ _ hk.2 (by omega) hk.1 h
 eqBool:=λhu hx hy h=>KI.eq 4 _ _ _ _ _ _ hx.2 (by omega) hx.1 hy.1 _ _ _ _ (by rw[KI.dN hx.1 hy.1];exact h)
 quiet:=λhk h=>KI.quiet 8 _ _ _ _ _ (aB hk.2 (by decide)) hk.1 h
end DL
namespace DL
open PySem PySem.Spec PyProof.Rows L2
mutual
noncomputable def o4:D->Bool
 |.int _=>true
 |.tup ds=>nc ds
 |_=>false
noncomputable def nc:cu->Bool
 |[]=>true
 |d::ds=>o4 d&&nc ds
end
section
variable {X:Cx}{pins:ck}{σ:L2.St}{C H:Hp}{s:cx}
mutual
theorem Is.ki (I:Inv X pins σ H s) (sub:dR C H):∀(d:D) {v:V}{u:cw},o4 d=true->Is C v d->RelV v u->KI s.heap u d
 |.int i,_,_,_,is,ru=>by
  cases is;obtain⟨t,rfl⟩:=ru;exact .int i t
 |.tup ds,_,_,hk,is,ru=>by
  cases is with
  |tup h l=>
   cases ru;obtain⟨dg,r,⟨o,ho,hc,n,hd⟩,_⟩:=I.tuple (iU.of (K:=X.K) (sub _ _ h));unfold o4 at hk;exact .tup ho hc hd (by have:=IsL.Wm I sub ds hk l r;simpa using this)
 |.fN,_,_,hk,_,_=>by unfold o4 at hk;cases hk
 |.bl _,_,_,hk,_,_=>by unfold o4 at hk;cases hk
 |.str _,_,_,hk,_,_=>by unfold o4 at hk;cases hk
 |.lst _,_,_,hk,_,_=>by unfold o4 at hk;cases hk
theorem IsL.Wm (I:Inv X pins σ H s) (sub:dR C H):∀(ds:cu) {vs:List V}{us:cv},nc ds=true->IsL C vs ds->Vals vs us->qW s.heap us ds
 |[],_,_,_,l,r=>by
  cases l;cases r;exact .nil
 |d::ds,_,_,hk,l,r=>by
  cases l with
  |cons h t=>
   cases r with
   |cons r rs=>
    unfold nc at hk;rw[Bool.and_eq_true]at hk;exact .cons (Is.ki I sub d hk.1 h r) (IsL.Wm I sub ds hk.2 t rs)
end
end
structure jQ where
 W:D->Option D
 enc:D->Nat
 N:Nat
 hN:N<=1000000
 lt:∀k d,W k=some d->enc k<N
 inj:∀k k' d d',W k=some d->W k'=some d'->enc k=enc k'->k=k'
 key:∀k d,W k=some d->o4 k=true/\dU k<=4
noncomputable def mE (a:cD) (xs:List (D×cD×cw)):Heap->Prop:=λh=>∃o es ep,h.get? a=some o/\o.ExactDict/\o.data=.dict es ep/\es.toList=xs.map (λx=>(⟨eI x.1,.ref x.2.1,x.2.2⟩:DictEntry))/\(xs.map (·.1)).Nodup
structure eK (a:cD) (M:jQ) (C H:Hp) (xs:List (D×cD×cw)):Prop where
 h:H a=some (.ext (mE a xs))
 c:C a=none
 sm:(a==sysModules)=false
 nd:(xs.map (·.1)).Nodup
 ent:∀x∈xs,Is C (.ref x.2.1) x.1/\∃v d,RelV v x.2.2/\Is C v d/\M.W x.1=some d
theorem yh:∀(N:Nat) (l:List Nat),l.Nodup->(∀x∈l,x<N)->l.length<=N
 |0,l,_,h=>by
  cases l with
  |nil=>exact au _
  |cons a r=>exact absurd (h a af) (Nat.not_lt_zero _)
 |N+1,l,nd,h=>by
  have h1:=yh N (l.erase N) (nd.erase N) (λx hx=>by
   have:=(nd.mem_erase_iff.mp hx);have:=h x this.2;omega)
  have h2:l.length<=(l.erase N).length+1:=by
   rw[List.length_erase];split<;>omega
  omega
theorem eK.len {a:cD}{M:jQ}{C H:Hp}{xs:List (D×cD×cw)}(m:eK a M C H xs):xs.length<=M.N:=by
 have h:=yh M.N (xs.map λx=>M.enc x.1) ?_ ?_
 ·simpa using h
 ·have nd:=m.nd;rw[List.Nodup,List.pairwise_map]at nd ⊢;refine List.Pairwise.imp_of_mem (λ{x y} hx hy jr he=>?_) nd
  obtain⟨_,v,d,_,_,w1⟩:=m.ent x hx;obtain⟨_,v',d',_,_,w2⟩:=m.ent y hy;exact jr (M.inj _ _ _ _ w1 w2 he)
 ·intro n hn;obtain⟨x,hx,rfl⟩:=List.mem_map.mp hn;obtain⟨_,v,d,_,_,w1⟩:=m.ent x hx;exact M.lt _ _ w1
section
variable {a:cD}{M:jQ}{C H C' H':Hp}{xs:List (D×cD×cw)}
theorem eK.RB (m:eK a M C H xs) (e:oK C H C' H'):eK a M C' H' xs where
 h:=e.h _ _ m.h
 c:=by
  cases q:C' a with
  |none=>rfl
  |some u=>
   rcases e.n a u q with z|z
   ·rw[m.c]at z;cases z
   ·rw[m.h]at z;cases z
 sm:=m.sm
 nd:=m.nd
 ent:=λx hx=>let ⟨h1,v,d,h2,h3,h4⟩:=m.ent x hx;⟨h1.mono e.c,v,d,h2,h3.mono e.c,h4⟩
theorem eK.FO (m:eK a M C H xs) {b:cD}{o:HO}(hb:b≠a):eK a M C (upd H b o) xs where
 h:=by rw[cQ (Ne.symm hb)];exact m.h
 c:=m.c
 sm:=m.sm
 nd:=m.nd
 ent:=m.ent
theorem eK.FP (m:eK a M C H xs) {b:cD}{o:HO}(hb:b≠a) (hc:C b=none):eK a M (upd C b o) H xs where
 h:=m.h
 c:=by rw[cQ (Ne.symm hb)];exact m.c
 sm:=m.sm
 nd:=m.nd
 ent:=λx hx=>let ⟨h1,v,d,h2,h3,h4⟩:=m.ent x hx;⟨h1.mono (eD hc),v,d,h2,h3.mono (eD hc),h4⟩
theorem eK.ne (m:eK a M C H xs) {b:cD}(h:∀u,H b=some u->B3 u=false):b≠a:=λz=>by
 subst z;have:=h _ m.h;cases this
theorem eK.Qb (m:eK a M C H xs) {b:cD}(h:H b=none):b≠a:=λz=>by
 subst z;rw[m.h]at h;cases h
end
section
variable {X:Cx}{M:jQ}{a:cD}{pins:ck}{σ:L2.St}{C H:Hp}{s:cx}{xs ys:List (D×cD×cw)}
theorem eK.dict (I:Inv X pins σ H s) (sub:dR C H) (m:eK a M C H xs):s.heap.DictOfH (ly X.prog X.w) a xs:=by
 obtain⟨⟨o,es,ep,h1,h2,h3,h4,h5⟩,_⟩:=I.fP a _ m.h;exact⟨o,es,ep,h1,h2,h3,h4,λx hx=>by
  obtain⟨h1,v,d,_,_,w⟩:=m.ent x hx;obtain⟨k1,k2⟩:=M.key _ _ w;exact⟨Is.ki I sub _ k1 h1 rfl,k2⟩,h5⟩
theorem eK.keys_eq (I:Inv X pins σ H s) (sub:dR C H) (m:eK a M C H xs) (m':eK a M C H ys):xs.map (·.1)=ys.map (·.1):=by
 obtain⟨o,es,ep,h1,h2,h3,h4,h5,h6⟩:=m.dict I sub;obtain⟨o',G1,Nm,Aj,B4,Fz,KP,Wn,Yx⟩:=m'.dict I sub;rw[h1]at Aj;cases Aj;rw[h3]at Fz;injection Fz with e1 _;subst e1
 rw[h4]at KP;clear h1 h2 B4 h3 h4 h6 Yx m m';induction xs generalizing ys with
 |nil=>cases ys with
  |nil=>rfl
  |cons _ _=>cases KP
 |cons x xs ih=>
  cases ys with
  |nil=>cases KP
  |cons y ys=>
   rw[aE,aE]at KP;injection KP with e1 e2
   have ea:x.2.1=y.2.1:=by
    have:(entryOfKey (ly X.prog X.w) x).key=(entryOfKey (ly X.prog X.w) y).key:=congrArg DictEntry.key e1;injection this
   have k1:=(h5 x af).1;have k2:=(Wn y af).1;rw[ea]at k1;rw[aE,aE,k1.inj k2,ih (λx hx=>h5 x (ai _ hx)) (λx hx=>Wn x (ai _ hx)) e2]
theorem tH {xs:List (D×cD×cw)}{k:D}:(atKey xs k).isSome=true↔k∈xs.map (·.1):=by
 unfold atKey;rw[Option.isSome_map,List.find?_isSome];constructor
 ·rintro⟨x,hx,e⟩
  exact List.mem_map.mpr ⟨x,hx,by simpa using e⟩
 ·intro h;obtain⟨x,hx,e⟩:=List.mem_map.mp h;exact⟨x,hx,by simpa using e⟩
theorem FQ {xs:List (D×cD×cw)}{k:D}{p:cD×cw}(h:atKey xs k=some p):(k,p)∈xs:=by
 unfold atKey at h;cases q:xs.find? (λx=>decide (x.1=k))with
 |none=>rw[q]at h;cases h
 |some x=>
  rw[q]at h;cases h;have h1:=List.mem_of_find?_eq_some q;have h2:=List.find?_some q;have h3:x.1=k:=by simpa using h2
  rw[<-h3];exact h1
noncomputable def OR (a:cD) (M:jQ):R2:=λx y H Q=>∃C ds xs,dR C H/\Is C x (.tup ds)/\o4 (.tup ds)=true/\dU (.tup ds)<=4/\y=.ref a/\eK a M C H xs/\Q (.bl (!(atKey xs (.tup ds)).isSome)) H
theorem zt (hu:X.A.units+64<cLine):t9 X (compareOp .NotIn) (OR a M):=by
 intro pins s σ H x y v u Q I rx ry h;obtain⟨C,ds,xs,sub,is,hk,hd,rfl,m,q⟩:=h;cases is with
 |@tup p ws _ hp l=>
  cases rx;cases ry;have Ci:(ly X.prog X.w).is s.heap (.tup ds) p:=⟨Is.ki I sub _ hk (.tup hp l) rfl,hd⟩;have hm:=m.dict I sub;show wpAny _ _ (do return .bool (!(<-contains (.ref a) (.ref p)))) (EP X pins σ Q) X.xe s
  refine aa ?_;unfold contains;try with_reducible refine bo ?_
  refine aa (wpAny_specialOf hm.typeIs slot_dict_contains.lookup ?_);show wpAny _ _ (if(some (Value.builtin "dict.__contains__")==some Value.none)=true then _ else _) _ X.xe s
  rw[if_neg (by rw[beq_builtin_none];exact aZ)]
  refine aa (wpAny_callSpecialUnlessNone?_slot (name:=Str.ofString "__contains__") hm.typeIs slot_dict_contains
   (bM slot_dict_contains hm.typeIs entry_dict_contains ?_ (args_dict_contains _ _)))
  show wpAny _ _ (dictGet a (.ref p)>>=_) _ _ s;have hV:(ly X.prog X.w).room X.A.in1:=by show X.A.units+1+8<cLine;omega
  refine aa (wpAny_dictGet_heap hV Ci hm ?_);cases hf:atKey xs (.tup ds)with
  |some p'=>
   rw[hf]at q;show wpAny _ _ (ret (.bool true)) _ _ _;exact aj ⟨_,rfl,bQ (aj ⟨.bl _,H,I.tok _,rfl,q⟩)⟩
  |none=>
   rw[hf]at q;show wpAny _ _ (Builtin.Dict.pendingKey? a (.ref p)>>=_) _ _ _;exact aa (wpAny_pendingKey_other m.sm (aj ⟨_,rfl,bQ (aj ⟨.bl _,H,I.tok _,rfl,q⟩)⟩))
noncomputable def RC (a:cD) (M:jQ):R2:=λx y H Q=>∃C ds xs,dR C H/\x=.ref a/\Is C y (.tup ds)/\o4 (.tup ds)=true/\dU (.tup ds)<=4/\eK a M C H xs/\D.tup ds∈xs.map (·.1)/\∀v d,M.W (.tup ds)=some d->Is C v d->Q v H
theorem Lg (hu:X.A.units+64<cLine):Hn X (RC a M):=by
 intro value slice pins s σ H x y v u Q I rx ry h hs;obtain⟨C,ds,xs,sub,rfl,is,hk,hd,m,jW,q⟩:=h;cases is with
 |@tup p ws _ hp l=>
  cases rx;cases ry;have Ci:(ly X.prog X.w).is s.heap (.tup ds) p:=⟨Is.ki I sub _ hk (.tup hp l) rfl,hd⟩;have hm:=m.dict I sub;have hV:(ly X.prog X.w).room X.A.in1:=by show X.A.units+1+8<cLine;omega
  cases hf:atKey xs (.tup ds)with
  |none=>
   have:=tH.mpr jW;rw[hf]at this;cases this
  |some pv=>
   obtain⟨_,v',d,r,i,w⟩:=m.ent _ (FQ hf);exact tail_any (ops:=[.ref a,.ref p]) hm.typeIs slot_dict_getitem.lookup (wpAny_getItem_heap hV Ci hm hf ⟨v',H,I.tok _,r,q v' d w i⟩) hs
theorem vO {xs:List (D×cD×cw)}{k:D}{v:cw}:(xs.map (putAt k v)).map (·.1)=xs.map (·.1):=by
 rw[aV];apply bS
 intro x _;unfold putAt;simp only[Function.comp_apply];split<;>rfl
noncomputable def RD (a:cD) (M:jQ):Ke:=λo i v H Q=>∃C ds d xs,dR C H/\o=.ref a/\Is C i (.tup ds)/\Is C v d/\M.W (.tup ds)=some d/\eK a M C H xs/\
 ∀ys,eK a M C (upd H a (.ext (mE a ys))) ys->(∀k,(∃zs,eK a M C H zs/\k∈zs.map (·.1))->k∈ys.map (·.1))->D.tup ds∈ys.map (·.1)->Q (upd H a (.ext (mE a ys)))
theorem Ij (hu:X.A.units+64<cLine):Qu X (RD a M):=by
 intro pins s σ H o i v ov iv u Q I ro ri rv h;obtain⟨C,ds,d,xs,sub,rfl,is,Wo,hw,m,q⟩:=h;obtain⟨hk,hd⟩:=M.key _ _ hw;cases is with
 |@tup p ws _ hp l=>
  cases ro;cases ri;have Ci:(ly X.prog X.w).is s.heap (.tup ds) p:=⟨Is.ki I sub _ hk (.tup hp l) rfl,hd⟩;have hm:=m.dict I sub;have hV:(ly X.prog X.w).room X.A.in1:=by show X.A.units+1+8<cLine;omega
  refine wpAny_setItem_heap hV Ci hm (λh' Am Hx=>?_) (aB m.len (aB M.hN (by decide)))
  have keys:(storedH xs (.tup ds) p u).map (·.1)=if(atKey xs (.tup ds)).isSome then xs.map (·.1)else xs.map (·.1)++[.tup ds]:=by
   unfold storedH;split
   ·exact vO
   ·simp
  have jW:D.tup ds∈(storedH xs (.tup ds) p u).map (·.1):=by
   rw[keys];split
   ·rename_i hh;exact tH.mp hh
   ·exact aL _ af
  have hold:∀k∈xs.map (·.1),k∈(storedH xs (.tup ds) p u).map (·.1):=λk h=>by
   rw[keys];split
   ·exact h
   ·exact bC _ h
  obtain⟨oo,es,ep,g1,g2,g3,g4,g5,g6⟩:=Am;have m':eK a M C (upd H a (.ext (mE a (storedH xs (.tup ds) p u)))) (storedH xs (.tup ds) p u):=by
   refine⟨cU,m.c,m.sm,g6,λx hx=>?_⟩
   unfold storedH at hx;split at hx
   ·obtain⟨y,hy,rfl⟩:=List.mem_map.mp hx;obtain⟨h1,v',d',r,i',w⟩:=m.ent y hy;unfold putAt;split
    ·rename_i e;refine⟨h1,v,d,rv,Wo,?_⟩;show M.W y.1=some d;rw[e];exact hw
    ·exact⟨h1,v',d',r,i',w⟩
   ·rcases List.mem_append.mp hx with hx|hx
    ·exact m.ent x hx
    ·rw[bt]at hx;subst hx;exact⟨.tup hp l,v,d,rv,Wo,hw⟩
  have ok:g8 X.prog X.w (upd H a (.ext (mE a (storedH xs (.tup ds) p u)))) h' a (.ext (mE a (storedH xs (.tup ds) p u))):=
   ⟨⟨oo,es,ep,g1,g2,g3,g4,g6⟩,⟨oo,g1⟩,λh1 h2 ⟨o1,e1,p1,q1,q2⟩ st=>⟨o1,e1,p1,st _ q1,q2⟩⟩
  refine⟨_,I.write (e:=a) (by rw[m.h];exact trivial) (.inl rfl) (λb ob hb hq=>(Hx.2 b hb).trans hq) ⟨oo,g1⟩ ok,q _ m' (λk ⟨zs,mz,hz⟩=>hold k (by rw[m.keys_eq I sub mz];exact hz)) jW⟩
end
end DL
namespace DL
open PySem PySem.Spec PyProof.Rows L2
def FR (δ' δ:dM):Prop:=δ'.length=δ.length/\∀(i:Nat) (s:Sl),δ'[i]? =some s->s=.no\/δ[i]? =some s\/∃ks RA,s=.memo RA/\δ[i]? =some (.memo ks)/\∀k∈RA,k∈ks
section
variable [Mem] {δ δ':dM}{σ:L2.St}{B C0 H0 C H:Hp}
theorem FR.own (w:FR δ' δ) {i:Nat}{ds:cu}(q:δ'[i]? =some (.own ds)):δ[i]? =some (.own ds):=by
 rcases w.2 i _ q with z|z|⟨_,_,z,_⟩
 ·cases z
 ·exact z
 ·cases z
theorem Sx.weak (x:Sx δ σ C H) (w:FR δ' δ):Sx δ' σ C H where
 sub:=x.sub
 dat:=λi d q=>by
  rcases w.2 i _ q with z|z|⟨_,_,z,_⟩
  ·cases z
  ·exact x.dat i d z
  ·cases z
 own:=λi ds q=>x.own i ds (w.own q)
 za:=λi j ds es a q1 q2 q3 q4=>x.za i j ds es a (w.own q1) (w.own q2) q3 q4
 len:=w.1.trans x.len
 mem:=λi ks q=>by
  rcases w.2 i _ q with z|z|⟨Yy,ks2,z,z2,z3⟩
  ·cases z
  ·exact x.mem i ks z
  ·cases z;obtain⟨a,h1,h2,h3,h4⟩:=x.mem i Yy z2;exact⟨a,h1,h2,h3,λk hk=>h4 k (z3 k hk)⟩
theorem Gd.weak (g:Gd B C0 H0 δ σ C H) (w:FR δ' δ):Gd B C0 H0 δ' σ C H:=⟨g.b,g.ev,g.x.weak w,λk ds a q1 q2=>g.fr k ds a (w.own q1) q2⟩
theorem Sx.Er (x:Sx δ σ C H) {i:Nat}{ks:cu}{k:D}(hi:δ[i]? =some (.memo ks)) (hk:Mem.has C H k):Sx (δ.set i (.memo (k::ks))) σ C H where
 sub:=x.sub
 dat:=λj d q=>by
  rcases getElem?_set_cases q with⟨rfl,e⟩|⟨hj,e⟩
  ·cases e
  ·exact x.dat j d e
 own:=λj ds q=>by
  rcases getElem?_set_cases q with⟨rfl,e⟩|⟨hj,e⟩
  ·cases e
  ·exact x.own j ds e
 za:=λj l ds es a q1 q2 q3 q4=>by
  rcases getElem?_set_cases q1 with⟨_,e⟩|⟨_,e1⟩
  ·cases e
  rcases getElem?_set_cases q2 with⟨_,e⟩|⟨_,e2⟩
  ·cases e
  exact x.za j l ds es a e1 e2 q3 q4
 len:=by simp[x.len]
 mem:=λj ls q=>by
  rcases getElem?_set_cases q with⟨rfl,e⟩|⟨hj,e⟩
  ·cases e;obtain⟨a,h1,h2,h3,h4⟩:=x.mem j ks hi;refine⟨a,h1,h2,h3,λc hc=>?_⟩
   rcases List.mem_cons.mp hc with rfl|hc
   ·exact hk
   ·exact h4 c hc
  ·exact x.mem j ls e
theorem Gd.Er (g:Gd B C0 H0 δ σ C H) {i:Nat}{ks:cu}{k:D}(hi:δ[i]? =some (.memo ks)) (hk:Mem.has C H k):Gd B C0 H0 (δ.set i (.memo (k::ks))) σ C H:=
 ⟨g.b,g.ev,g.x.Er hi hk,λj ds a q1 q2=>by
  rcases getElem?_set_cases q1 with⟨_,e⟩|⟨_,e⟩
  ·cases e
  ·exact g.fr j ds a e q2⟩
end
noncomputable def forget (fs:List Nat) (δ:dM):dM:=fs.foldl (λδ i=>δ.set i .no) δ
theorem mR:∀(fs:List Nat) (δ:dM),(forget fs δ).length=δ.length
 |[],_=>rfl
 |i::fs,δ=>by
  show(forget fs (δ.set i .no)).length=_;rw[mR fs,List.length_set]
theorem vP:∀(fs:List Nat) (δ:dM) (i:Nat) (s:Sl),(forget fs δ)[i]? =some s->s=.no\/δ[i]? =some s
 |[],_,_,_,h=>.inr h
 |j::fs,δ,i,s,h=>by
  rcases vP fs (δ.set j .no) i s h with z|z
  ·exact .inl z
  ·rcases getElem?_set_cases z with⟨_,e⟩|⟨_,e⟩
   ·exact .inl e
   ·exact .inr e
theorem AL (fs:List Nat) (δ:dM) (i:Nat) (k:D) (ks:cu):FR ((forget fs δ).set i (.memo [k])) (δ.set i (.memo (k::ks))):=by
 refine⟨by simp[mR],λj s q=>?_⟩
 rcases getElem?_set_cases q with⟨rfl,e⟩|⟨hj,e⟩
 ·have hl:j<δ.length:=by have:=CH q;rwa [mR]at this
  exact .inr (.inr ⟨k::ks,[k],e,by rw[bc hl],λc hc=>by rw[bt]at hc;subst hc;exact af⟩)
 ·rcases vP fs δ j s e with z|z
  ·exact .inl z
  ·exact .inr (.inl (by rw[aF (Ne.symm hj)];exact z))
open Classical in
noncomputable def rV (i:Nat) (fs:List Nat) (fk:cb) (fb:bZ):bZ:=λδ=>match δ[i]?,fk δ,fb δ with
 |some (.memo _),some (.tup ds),some (.next δ2)=>if o4 (.tup ds)=true/\dU (.tup ds)<=4/\FR ((forget fs δ).set i (.memo [.tup ds])) δ2 then some (.next ((forget fs δ).set i (.memo [.tup ds])))else none
 |_,_,_=>none
noncomputable def o5 (M:jQ) (i:Nat) (fk:cb):cb:=λδ=>match δ[i]?,fk δ with
 |some (.memo ks),some (.tup ds)=>if o4 (.tup ds)=true/\dU (.tup ds)<=4/\D.tup ds∈ks then M.W (.tup ds)else none
 |_,_=>none
noncomputable def o6 (M:jQ) (i:Nat) (fk fe:cb):bZ:=λδ=>match δ[i]?,fk δ,fe δ with
 |some (.memo ks),some (.tup ds),some d=>if M.W (.tup ds)=some d then some (.next (δ.set i (.memo (.tup ds::ks))))else none
 |_,_,_=>none
section
variable {X:Cx}{a:cD}{M:jQ}{C0 H0:Hp}{e k o:cE}{body:List cF}{pos pos' p p2:Pos}{i:Nat}
end
end DL
namespace DL
open PySem PySem.Spec PyProof.Rows L2
section
variable {X:Cx}{e:cE}{es:List cE}{p pos:Pos}{x:Str}{a:cD}{M:jQ}
end
noncomputable def startM (n np j:Nat) (ds:cu):dM:=(ds.take j).map Sl.dat++.memo []::(ds.drop j).map Sl.dat++List.replicate (n-np) Sl.no
theorem qX {n np j:Nat}{ds:cu}(hl:ds.length+1=np) (hj:j<np) (i:Nat):(startM n np j ds)[i]? =if i<j then(ds[i]?).map Sl.dat else if i=j then some (.memo [])else if i<np then(ds[i-1]?).map Sl.dat else if i<np+(n-np)then some .no else none:=by
 unfold startM;have l1:((ds.take j).map Sl.dat).length=j:=by rw[ae,bJ];omega
 have l2:((ds.drop j).map Sl.dat).length=ds.length-j:=by rw[ae,List.length_drop]
 rw[List.append_assoc];by_cases h1:i<j
 ·rw[if_pos h1,aJ (by omega),av,List.getElem?_take_of_lt h1]
 ·rw[if_neg h1,aP (by omega),l1]
  by_cases h2:i=j
  ·subst h2;rw[if_pos rfl,Nat.sub_self];rfl
  ·rw[if_neg h2,List.cons_append];obtain⟨r,hr⟩:∃r,i-j=r+1:=⟨i-j-1,by omega⟩
   rw[hr,aK];by_cases h3:i<np
   ·rw[if_pos h3,aJ (by omega),av,List.getElem?_drop]
    congr 2
    omega
   ·rw[if_neg h3,aP (by omega),bf]
    congr 1
    rw[eq_iff_iff];constructor<;>intro _<;>omega
end DL
namespace DL
open PySem PySem.Spec PyProof.Rows L2
section
variable {X:Cx}{e:cE}{es:List cE}{p pos pos':Pos}{x:Str}{a:cD}{M:jQ}{C0 H0:Hp}{rest:List cF}
theorem _root_.L2.Inv.UA {pins:ck}{σ:L2.St}{H:Hp}{s:cx}(I:Inv X pins σ H s):sysModules<s.heap.objs.size:=by
 have h:mainGlobals<s.heap.objs.size:=(I.mod.glob.keeps I.bk).lt;exact bG (by decide) h
noncomputable def RE:TE:=λ_ H Q=>∀p,H p=none->(p==sysModules)=false->Q (.ref p) (upd H p (.ext (mE p [])))
theorem Lh:PE X (.Dict [] [] pos) RE:=λpins s σ H Q I h=>
 wpAny_Dict_empty ⟨.ref s.heap.objs.size,_,I.laid (a:=s.heap.objs.size) (o:=.ext (mE s.heap.objs.size [])) (t':=s.toks) (λ_ _ q=>ag _ q) (au _)
  ⟨⟨_,#[],0,ay _ rfl,⟨rfl,rfl,rfl⟩,rfl,rfl,List.nodup_nil⟩,⟨_,ay _ rfl⟩,λh1 h2 ⟨o1,e1,p1,q1,q2⟩ st=>⟨o1,e1,p1,st _ q1,q2⟩⟩,rfl,
  h _ (I.fP.fresh (au _)) (beq_eq_false_iff_ne.mpr (Ne.symm (aD I.UA)))⟩
theorem Dc {C H:Hp}{p:cD}(hc:C p=none) (hs:(p==sysModules)=false) (hH:H p=some (.ext (mE p []))):eK p M C H []:=⟨hH,hc,hs,List.nodup_nil,λ_ h=>by cases h⟩
noncomputable def noOwn (δ:dM):Bool:=δ.all λs=>match s with|.own _=>false|_=>true
noncomputable def o7 (δ:dM):Bool:=δ.all λs=>match s with|.memo _=>false|_=>true
theorem vQ {δ:dM}(h:noOwn δ=true) {i:Nat}{ds:cu}(q:δ[i]? =some (.own ds)):False:=by
 have:=List.all_eq_true.mp h _ (bh q);cases this
theorem yi {δ:dM}(h:o7 δ=true) {i:Nat}{ds:cu}(q:δ[i]? =some (.memo ds)):False:=by
 have:=List.all_eq_true.mp h _ (bh q);cases this
noncomputable def Ik (i:Nat):R->Option R
 |.next δ=>if o7 (δ.set i .no)=true then some (.next (δ.set i .no))else none
 |.ret d=>some (.ret d)
 |.brk δ=>if o7 (δ.set i .no)=true then some (.brk (δ.set i .no))else none
 |.cont δ=>if o7 (δ.set i .no)=true then some (.cont (δ.set i .no))else none
end
end DL
namespace HT
open PySem PySem.Spec PyProof.Rows
section
variable {prog:cz}{w:cA}{A:cB}{E:cg}{s:cx}
theorem qt {t sl:cD}{items:Array cw}{vl vu:cw}{lo hi:Option Int}{Q:cg}(ht:IsTup s.heap t items) (hs:s.heap.IsSliceOf sl vl vu .none) (pl:IsPart vl lo) (pu:IsPart vu hi)
  (hw:g0 items.size 0 lo=0/\g0 items.size items.size hi=items.size)
  (h:Q (.ref t) s):wpAny (model prog w) A (getItem (.ref t) (.ref sl)) Q E s:=by
 obtain⟨os,NN,SX,QQ⟩:=id hs;have T7:s.TypeIs (.ref sl) "slice":=⟨os,NN,SX⟩;unfold getItem;try with_reducible refine bo ?_
 first|refine aa (aj ?_)|skip
 refine aa (wpAny_sequenceKey ht.typeIs (by decide) ?_)
 refine aa (wpAny_callSpecial?_slot (name:=Str.ofString "__getitem__") ht.typeIs PyProof.Rows.slot_tuple_getitem
  (bM PyProof.Rows.slot_tuple_getitem ht.typeIs entry_tuple_getitem ?_ (args_tuple_getitem _ _)))
 show wpAny _ _ (Builtin.Tuple.tupleItemsOf (.ref t)>>=_) _ _ s;refine aa (tupleItemsOf_ ht ?_);refine aa (wpAny_typeOf T7 ?_);rw[if_pos (by decide)]
 refine aa (m4 hs pl pu ?_);have UB:(((g0 items.size 0 lo:Nat):Int)==0&&(1:Int)==1&&(g0 items.size items.size hi-g0 items.size 0 lo)==items.size)=true:=by
  rw[hw.1,hw.2];simp
 show wpAny _ _ (if(((g0 items.size 0 lo:Nat):Int)==0&&(1:Int)==1&&(g0 items.size items.size hi-g0 items.size 0 lo)==items.size)=true then _ else _) _ _ s
 rw[if_pos UB];unfold Builtin.Tuple.tupleIsExact;refine aa (aa (wpAny_typeOf ht.typeIs (aj ?_)));rw[if_pos (by decide)]
 first
  |exact aa (wpAny_rule (aa (aj ⟨_,rfl,aj h⟩)))
  |exact aa (wpAny_rule (aj ⟨_,rfl,aj h⟩))
end
end HT
namespace DL
open PySem PySem.Spec PyProof.Rows L2
variable [Mem]
section
variable {X:Cx}{a b c e o:cE}{pos p p2:Pos}{f g h:cb}
theorem Li:Mt X (λx lo hi H Q=>∃a xs,x=.ref a/\iU X.K H a xs/\(HT.g0 xs.length 0 lo=0/\HT.g0 xs.length xs.length hi=xs.length)/\Q (.ref a) H):=by
 intro pins s σ H x v vl vu lo hi sl Q I rx hs pl pu h;obtain⟨a,xs,rfl,hx,hw,q⟩:=h;cases rx;obtain⟨dg,r,ht,hz⟩:=I.tuple hx;have hlen:dg.toArray.size=xs.length:=by rw[aq];exact r.length.symm
 refine⟨"tuple",_,PyProof.Rows.slot_tuple_getitem.lookup,ht.typeIs,?_⟩;exact HT.qt ht hs pl pu (by rw[hlen];exact hw) ⟨.ref a,H,I,rfl,q⟩
noncomputable def AM (f:cb) (lo hi:dM->Option (Option Int)):cb:=λδ=>match f δ with
 |some (.tup ds)=>(lo δ).bind λl=>(hi δ).map λu=>.tup (cutD ds l u)
 |_=>none
theorem OS {lo hi:Option cE}{fl fh:dM->Option (Option Int)}(he:PO X e f) (hl:L2.PO X lo (tP fl)) (hh:L2.PO X hi (tP fh)):PD X (.Subscript e (.Slice lo hi none p2) pos) (AM f fl fh):=(Aw (Li.or NO) he hl hh).imp λσ H Q ⟨C,δ,d,x,q,k⟩=>by
 unfold AM at q;split at q
 ·rename_i es hf;cases h1:fl δ with
  |none=>rw[h1]at q;cases q
  |some l=>
   cases h2:fh δ with
   |none=>rw[h1,h2]at q;cases q
   |some u=>
    rw[h1,h2]at q;cases q;refine⟨C,δ,_,x,hf,λv C1 H1 e1 i1=>⟨C1,δ,l,x.ev e1,h1,λC2 H2 e2=>⟨C2,δ,u,x.ev (e1.trans e2),h2,λC3 H3 e3=>?_⟩⟩⟩
    obtain⟨p,xs,rfl,hq,ll,hc⟩:=((i1.ev e2).ev e3).tup (K:=X.K) e3.s;have ev:=(e1.trans e2).trans e3;by_cases hw:HT.g0 xs.length 0 l=0/\HT.g0 xs.length xs.length u=xs.length
    ·exact .inl ⟨p,xs,rfl,hq,hw,k _ C3 H3 ev (.tup hc (ll.OQ hw))⟩
    ·exact .inr ⟨p,xs,rfl,hq,hw,λt ht=>k _ _ _ (ev.trans (.new e3.s ht)) (.tup cU ((ll.cut l u).mono (eD (e3.s.free ht))))⟩
 ·cases q
end
end DL
namespace DL
open PySem PySem.Spec PyProof.Rows L2
variable [Mem]
section
variable {X:Cx}
end
section
variable {X:Cx}{a b c e o:cE}{pos p p2:Pos}{f g h:cb}{C0 H0:Hp}
noncomputable def AN:cf
 |[.int i]=>some (.int i)
 |[.bl k]=>some (.int (if k then 1 else 0))
 |_=>none
theorem OT:ow X (.type "int") AN:=by
 refine⟨_,Fl,?_⟩;intro C H vs ds d Q s i q k;unfold AN at q;split at q
 ·cases q;obtain⟨v,rfl,j⟩:=i.one;exact .inl ⟨_,by rw[j.int],k _ C H (.refl s) (.int _)⟩
 ·cases q;obtain⟨v,rfl,j⟩:=i.one;have:=j.is (λ_ z=>by cases z);cases this
  exact .inr ⟨_,rfl,k _ C H (.refl s) (.int _)⟩
 ·cases q
end
end DL
namespace DL
open PySem PySem.Spec PyProof.Rows L2
variable [Mem]
variable [Mem]
section
variable {X:Cx}{a b c e o:cE}{pos p p2:Pos}{f g h:cb}
theorem Il (ha:WO X e f) (he:∀whole,isTrue e X.env whole=(do let v <-whole;standAt e.pos;holding [v] (truthy v)):=by intro _;rfl):WQ X e (qT f):=⟨Ih ha.go he⟩
theorem qb (ha:WO X a f) (hb:WO X b g):WD X (.BinOp a .Add b pos) (dt mv f g):=⟨Lf ha.go hb.go⟩
end
variable [Mem]
section
variable {X:Cx}{a b c e o:cE}{pos p p2:Pos}{f g h:cb}
theorem Im {lo hi:Option cE}{fl fh:dM->Option (Option Int)}(he:WO X e f) (hl:WP X lo fl) (hh:WP X hi fh):WD X (.Subscript e (.Slice lo hi none p2) pos) (AM f fl fh):=⟨OS he.go hl.go hh.go⟩
end
variable [Mem]
section
variable {X:Cx}
end
section
variable {X:Cx}{a b c e o:cE}{pos p p2:Pos}{f g h:cb}{C0 H0:Hp}
end
end DL
namespace DL
open PySem PySem.Spec PyProof.Rows L2
section
variable [Mem] {X:Cx}{C0 H0:Hp}{st:cF}{pos:Pos}
end
theorem Lj {P:cz}{w:cA}{K:W.Frag}{mg:cj}{base:Heap}{k:Nat}{f:cD}{fd:cy}{ps:List Str}:eJ P w K mg base ju k f fd ps (pZ λ_=>none):=
 ⟨(λvs H Q E ⟨_,_,_,_,_,q,_⟩=>by cases q),λA outer s H args us vs Q E _ _ _ _ ⟨_,_,_,_,_,q,_⟩=>by cases q⟩
section
variable {X:Cx}{e k o:cE}{es:List cE}{body rest:List cF}{p pos pos' p2:Pos}{x:Str}{a:cD}{M:jQ}{C0 H0:Hp}{i:Nat}
end
theorem OU {P:cz}{w:cA}{K:W.Frag}{mg:cj}{base:Heap}{x qual:Str}{st:cF}{f:cD}{fd:cy}{N ps:List Str}{k:Nat}(F:nF K x qual st f fd) (S:dB N ps (cM st)) {fb:bZ}
  (kC:∀(gk:cw) (A:cB) (outer:List Env) (s:cx) (H:Hp) (E:XK),gr k (A.deeper (envOfC qual (cM st) s.heap.objs.size f gk))->∀C0 H0,@vE Mem.keep (qQ ju P w K mg base N qual (cM st) f gk A outer s H E).D3 C0 H0 (dv st) fb):
  eJ P w K mg base ju (k+1) f fd ps (pZ (gY N.length ps.length fb)):=MD F S λgk A outer s H E hr C0 H0=>@vE.go Mem.keep _ _ _ _ _ (kC gk A outer s H E hr C0 H0)
end DL
namespace DL
open PySem PySem.Spec PyProof.Rows L2
theorem Io:bootBuiltins "any"=some (.builtin "any"):=by decide +kernel
section
variable {X:Cx}
theorem AO (hc:X.calm=true):iV X (.builtin "any") (λxs H Q=>∃(p:cD) (bs:List Bool),xs=[.ref p]/\oF X.K H p (bs.map V.bl)/\Q (.bl (bs.any id)) H):=by
 intro pins s σ H xs us Q I r h;obtain⟨p,bs,rfl,hq,q⟩:=h;obtain⟨u,rfl,r1⟩:=vals1 r;cases r1;obtain⟨dg,rv,pl,hz⟩:=I.list hq;have eY:p<s.heap.objs.size:=by obtain⟨o,n,e,_⟩:=pl;exact az e
 have hlen:=rv.length;rw[ae]at hlen;have Rp:∀(i:Nat) (v:cw),dg.toArray[i]? =some v->v=.bool (bs.getD i false):=λi v hv=>by
  have Kl:dg[i]? =some v:=by simpa using hv
  have hi:i<dg.length:=(List.getElem?_eq_some_iff.mp Kl).1;have g1:(bs.map V.bl)[i]? =some (.bl (bs.getD i false)):=by
   rw[av,ah (by omega),ak,ah (by omega)];rfl
  obtain⟨w,h1,h2⟩:=rv.get g1;rw[Kl]at h1;cases h1;exact h2
 refine call_any_walk (wpAny_pyIter_list pl.isList ⟨s.heap.objs.size,_,_,_,_,_,λi=>bs.getD i false,rfl,Walks.list (A:=X.A.in1) (I.ok.hd hc) s.heap.objs.size p (aD eY) dg.toArray,⟨⟨_,ay _ rfl,rfl,rfl⟩,?_⟩,λi v s' Q' E' hv hQ=>?_,λh' tk kk=>?_⟩)
 ·obtain⟨o,n,e,h1,h2,h3⟩:=pl;exact⟨o,ag _ e,h1,n,h3⟩
 ·rw[Rp i v hv];exact bQ hQ
 ·have I1:L2.Inv X pins σ H {s with heap:=s.heap.push {cls:=.type "list_iterator",data:=.fields #[.ref p,.int 0 0]}}:=I.kept (t':=s.toks) λb o e=>ag _ e
  obtain⟨f0,f1,f2,f3,f4,f5⟩:=I.G5 (H':=H) (au _) (I.fP.fresh (au _));have I2:=I1.turned (t':=tk) (h':=h') (it:=s.heap.objs.size) (λb o hb e=>kk b o (by simpa using hb) e) f0 f1 f3 f4 f5
  refine⟨.bl (bs.any id),H,I2,?_,q⟩;show Value.bool _=Value.bool _
  congr 1
  rw[aq,<-hlen];clear Rp hlen;rw[Bool.eq_iff_iff];simp only[bO,List.mem_range,id];constructor
  ·rintro⟨i,hi,h⟩
   rw[ak,ah hi]at h;exact⟨_,List.getElem_mem hi,h⟩
  ·rintro⟨b,hb,h⟩
   obtain⟨i,hi,e⟩:=List.getElem_of_mem hb;refine⟨i,hi,?_⟩;rw[ak,ah hi];show bs[i]=true;rw[e];exact h
noncomputable def FT:cf
 |[.lst ds]=>(m7 ds).map λbs=>.bl (bs.any id)
 |_=>none
theorem MH (hc:X.calm=true):ow X (.builtin "any") FT:=by
 refine⟨_,AO hc,?_⟩;intro C H vs ds d Q s i q k;unfold FT at q;split at q
 ·rename_i es;cases hb:m7 es with
  |none=>rw[hb]at q;cases q
  |some bs=>
   rw[hb]at q;cases q;letI:=Mem.keep
   obtain⟨v,rfl,j⟩:=i.one;obtain⟨p,xs,rfl,hq,l⟩:=j.list (K:=X.K) s;rw[vA hb]at l;cases l.CG;exact⟨p,bs,rfl,hq,k _ C H (.refl s) (.bl _)⟩
 ·cases q
end
end DL
namespace L2
open PySem PySem.Spec PyProof.Rows
section
variable {prog:cz}{w:cA}{A:cB}{E:cg}{s:cx}
theorem AQ {Q:cv->cx->Prop}{t:cD}{vs:cv}(ht:IsTup s.heap t vs.toArray)
  (hQ:Q vs {s with heap:=(s.heap.push (seqObj "list" #[] 0)).update s.heap.objs.size (Obj.mapSeq (·++vs.toArray))}) (hsz:vs.length<=sizeLine):
  wpAny (model prog w) A (collect (.ref t)) Q E s:=by
 obtain⟨o,ho,hc,n,hd⟩:=id ht;unfold collect;refine aa (wpAny_runValue (codeAny_builtin F.entry_proto_collect ?_));rw[bX F.plain_proto_collect _];show wpAny _ A.in1 (newList []>>=λl=>again (.builtin "list.__iadd__" ⟨[l,.ref t],[]⟩)) _ _ s
 refine aa (bR ?_);refine aj ⟨plainId_quiet F.plain_list_iadd _,codeAny_builtin F.entry_list_iadd ?_⟩;rw[bX F.plain_list_iadd _];show wpAny _ A.in1 (Builtin.List.listExtendWith (.ref s.heap.objs.size) (.ref t) (.ref s.heap.objs.size)) _ _ _;have hS:(s.heap.push {cls:=.type "list",data:=.seq ([]:cv).toArray}).get? s.heap.objs.size=some {cls:=.type "list",data:=.seq #[] 0}:=ay _ rfl;have Yz:=Heap.get?_update_self (Obj.mapSeq (·++vs.toArray)) hS rfl
 have RF:wpAny (model prog w) A (match Value.ref s.heap.objs.size with
   |Value.ref a=>do
    match(<-load a).data with
     |Data.seq xs _=>pure xs.toList
     |_=>unsupported "internal:collect"
   |_=>unsupported "internal:collect") Q E {s with heap:=(s.heap.push {cls:=.type "list",data:=.seq ([]:cv).toArray}).update s.heap.objs.size (Obj.mapSeq (·++vs.toArray))}:=by
  show wpAny _ A (load s.heap.objs.size>>=_) _ _ _;refine aa (wpAny_load Yz ?_);refine aj ?_;have e:((#[]:Array cw)++vs.toArray).toList=vs:=by simp
  show Q ((#[]:Array cw)++vs.toArray).toList _;rw[e];exact hQ
 refine bP (wpAny_extend_seq (hsz:=by rw[aq];exact hsz) (A:=A) (R:=λr s'=>r=.ok (.ret (.ref s.heap.objs.size))/\s'={s with heap:=(s.heap.push {cls:=.type "list",data:=.seq ([]:cv).toArray}).update s.heap.objs.size (Obj.mapSeq (·++vs.toArray))})
  (s:={s with heap:=s.heap.push {cls:=.type "list",data:=.seq ([]:cv).toArray}}) _ t _ 0 (.inr rfl) hS (ag _ ho) hc hd ⟨rfl,rfl⟩) (λfin s' h=>?_) (λe s' h=>?_)
 ·cases fin with
  |done f=>
   obtain⟨e,rfl⟩:=h;cases e;exact RF
  |again c'=>exact⟨h.1,codeAny_mono h.2 λr D9 hr=>by obtain⟨rfl,rfl⟩:=hr;exact RF⟩
 ·exact absurd h.1 (by simp)
theorem zu {t:cD}{vs:cv}{ns:cn}{Q:cg}(ht:IsTup s.heap t vs.toArray) (hI:IntsAre vs ns) (CQ:vs.length<64)
  (h:∀(out:Array cw) (uz:cn),IntsAre out.toList uz->uz.Perm ns->uz.Pairwise (·<= ·)->Q (.ref (s.heap.objs.size+1)) {s with heap:=sortedAll s.heap vs out}):
  wpAny (model prog w) A (call (.builtin "sorted") [.ref t]) Q E s:=by
 refine Calls.call_function_entry kind_sorted plain_sorted entry_sorted (args_sorted1 _) ?_;unfold Builtin.«sorted»;refine aa (m:=checkCount "sorted" 1 1 _) (aj ?_);refine aa (AQ ht ?_ (by rw[bu];omega))
 refine aa (wpAny_newList ?_ (hsz:=by rw[bu];omega))
 have hsz:((s.heap.push (seqObj "list" #[] 0)).update s.heap.objs.size (Obj.mapSeq (·++vs.toArray))).objs.size=s.heap.objs.size+1:=by
  rw[Heap.size_update,size_push']
 have yM:(((s.heap.push (seqObj "list" #[] 0)).update s.heap.objs.size (Obj.mapSeq (·++vs.toArray))).push (seqObj "list" vs.toArray 0)).get? (s.heap.objs.size+1)=some (seqObj "list" vs.toArray 0):=by
  rw[<-hsz];exact ay _ rfl
 show wpAny _ _ _ _ _ {s with heap:=((s.heap.push (seqObj "list" #[] 0)).update s.heap.objs.size (Obj.mapSeq (·++vs.toArray))).push (seqObj "list" vs.toArray 0)}
 rw[hsz];refine aa (bo (bM slot_list_sort ⟨_,yM,rfl⟩ entry_list_sort (list_sort_tree yM hI CQ λout uz a1 a2 a3=>⟨_,rfl,?_⟩) (args_list_sort _)))
 exact aj ⟨_,rfl,h out uz a1 a2 a3⟩
end
section
variable {X:Cx}
theorem rW:iV X (.builtin "sorted") (λxs H Q=>∃(p:cD) (ns:cn),xs=[.ref p]/\iU X.K H p (ns.map V.int)/\ns.length<64/\∀(l:cD) (ms:cn),H l=none->ms.Perm ns->ms.Pairwise (·<= ·)->Q (.ref l) (upd H l (.lst (ms.map V.int)))):=by
 intro pins s σ H xs us Q I r h;obtain⟨p,ns,rfl,hq,CQ,q⟩:=h;obtain⟨u,rfl,rx⟩:=vals1 r;cases rx;obtain⟨dg,rv,pl,hz⟩:=I.tuple hq;have hi:IntsAre dg ns:=intsAre_of rv;have hl:=hi.length;refine zu pl hi (by omega) λout uz a1 a2 a3=>?_
 obtain⟨e,he⟩:=sortedAll_at s.heap dg out;refine⟨.ref (s.heap.objs.size+1),_,I.laid (t':=s.toks) (o:=.lst (uz.map V.int)) (λb o z=>sortedAll_old z) (Nat.le_succ _) ?_,rfl,q _ uz (I.fP.fresh (Nat.le_succ _)) a2 a3⟩
 refine⟨?_,out.toList,e,m6 a1,by simpa using he⟩
 have:=a2.length_eq;rw[ae];exact bg (jR (by omega))
end
end L2
namespace DL
open PySem PySem.Spec PyProof.Rows L2
section
variable {X:Cx}
noncomputable def kJ:cu->Option (cu)
 |[.tup ds]=>if ds.length<64 then(intsOf ds).map λns=>(sortI ns).map D.int else none
 |_=>none
theorem yj (hu:X.A.units+64<cLine):Ei X (.builtin "sorted") kJ:=by
 refine⟨_,rW,?_⟩;intro C H vs ds d Q s i q k;unfold kJ at q;split at q
 ·rename_i es;split at q
  ·rename_i CQ;cases hn:intsOf es with
   |none=>rw[hn]at q;cases q
   |some ns=>
    rw[hn]at q;cases q;letI:=Mem.keep
    obtain⟨v,rfl,j⟩:=i.one;obtain⟨p,xs,rfl,hq,l,_⟩:=j.tup (K:=X.K) s;have e:=iz hn;subst e;cases l.mD;rw[ae]at CQ;refine⟨p,ns,rfl,hq,CQ,λt ms ht pm pw=>?_⟩
    have e:ms=sortI ns:=fB (λa b h1 h2=>by omega) (pm.trans (sortI_perm ns).symm) pw (rT ns)
    subst e;exact k t _ C _ (.fu s ht) ht (s.free ht) cU (.ints _)
  ·cases q
 ·cases q
end
end DL
namespace DL
open PySem PySem.Spec PyProof.Rows L2
structure OC where
 cl:cD
 fG:Str
 fK:Str
 Mf:D->jQ
structure rX where
 o:cD
 dx:cD
 a:cD
structure gq (Y:OC) (A:rX) (G:D) (C H:Hp) (xs:List (D×cD×cw)):Prop where
 h:∃fs gv,H A.o=some (.ins Y.cl A.dx fs)/\fs.lookup Y.fG=some gv/\fs.lookup Y.fK=some (.ref A.a)/\(∀m,m≠Y.fG->m≠Y.fK->fs.lookup m=none)/\Is C gv G
 c:C A.o=none
 m:eK A.a (Y.Mf G) C H xs
section
variable {Y:OC}{A:rX}{G:D}{C H C' H':Hp}{xs:List (D×cD×cw)}
theorem gq.RB (m:gq Y A G C H xs) (e:oK C H C' H'):gq Y A G C' H' xs where
 h:=let ⟨fs,gv,h1,h2,h3,h4,h5⟩:=m.h;⟨fs,gv,e.h _ _ h1,h2,h3,h4,h5.mono e.c⟩
 c:=by
  obtain⟨fs,gv,h1,_⟩:=m.h;cases q:C' A.o with
  |none=>rfl
  |some u=>
   rcases e.n A.o u q with z|z
   ·rw[m.c]at z;cases z
   ·rw[h1]at z;cases z
 m:=m.m.RB e
theorem gq.FO (m:gq Y A G C H xs) {b:cD}{o:HO}(hb:b≠A.o) (Lk:b≠A.a):gq Y A G C (upd H b o) xs where
 h:=let ⟨fs,gv,h1,h2⟩:=m.h;⟨fs,gv,by rw[cQ (Ne.symm hb)];exact h1,h2⟩
 c:=m.c
 m:=m.m.FO Lk
theorem gq.FP (m:gq Y A G C H xs) {b:cD}{o:HO}(hb:b≠A.o) (Lk:b≠A.a) (hc:C b=none):gq Y A G (upd C b o) H xs where
 h:=let ⟨fs,gv,h1,h2,h3,h4,h5⟩:=m.h;⟨fs,gv,h1,h2,h3,h4,h5.mono (eD hc)⟩
 c:=by rw[cQ (Ne.symm hb)];exact m.c
 m:=m.m.FP Lk hc
theorem gq.ne (m:gq Y A G C H xs) {b:cD}(h:∀u,H b=some u->B3 u=false):b≠A.o/\b≠A.a:=by
 refine⟨λz=>?_,m.m.ne h⟩
 obtain⟨fs,gv,h1,_⟩:=m.h;subst z;have:=h _ h1;cases this
theorem gq.Qb (m:gq Y A G C H xs) {b:cD}(h:H b=none):b≠A.o/\b≠A.a:=by
 refine⟨λz=>?_,m.m.Qb h⟩
 obtain⟨fs,gv,h1,_⟩:=m.h;subst z;rw[h1]at h;cases h
theorem gq.MI (m:gq Y A G C H xs) {b:cD}{o:HO}(ho:H b=some o) (hx:B3 o=false):b≠A.o/\b≠A.a:=m.ne λu q=>by rw[ho]at q;cases q;exact hx
theorem gq.oa (m:gq Y A G C H xs):A.o≠A.a:=λz=>by
 obtain⟨fs,gv,h1,_⟩:=m.h;have:=m.m.h;rw[<-z,h1]at this;cases this
end
@[reducible] noncomputable def dD (Y:OC) (A:rX) (G:D):Mem where
 cell:=some A.a
 face:=some A.o
 ok:=λC H=>∃xs,gq Y A G C H xs
 has:=λC H k=>∃xs,gq Y A G C H xs/\k∈xs.map (·.1)
 rel:=λC H C' H'=>((∃xs,gq Y A G C H xs)->∃xs,gq Y A G C' H' xs)/\∀k,(∃xs,gq Y A G C H xs/\k∈xs.map (·.1))->∃xs,gq Y A G C' H' xs/\k∈xs.map (·.1)
 of0:=λe=>⟨λ⟨xs,m⟩=>⟨xs,m.RB e⟩,λk ⟨xs,m,hk⟩=>⟨xs,m.RB e,hk⟩⟩
 trans:=λr1 r2=>⟨λh=>r2.1 (r1.1 h),λk h=>r2.2 k (r1.2 k h)⟩
 chg:=λ{_ _ _ _ b o} r hb=>⟨λ⟨xs,m⟩=>let ⟨ys,m'⟩:=r.1 ⟨xs,m⟩;⟨ys,m'.FO (m.Qb hb).1 (m.Qb hb).2⟩,λk ⟨xs,m,hk⟩=>let ⟨ys,m',Dd⟩:=r.2 k ⟨xs,m,hk⟩;⟨ys,m'.FO (m.Qb hb).1 (m.Qb hb).2,Dd⟩⟩
 give:=λ{_ _ _ H' b o} r hc ho hx=>⟨λh=>let ⟨ys,m'⟩:=r.1 h;⟨ys,m'.FP (m'.MI ho hx).1 (m'.MI ho hx).2 hc⟩,λk h=>let ⟨ys,m',Dd⟩:=r.2 k h;⟨ys,m'.FP (m'.MI ho hx).1 (m'.MI ho hx).2 hc,Dd⟩⟩
 S5:=λr h=>r.1 h
 KN:=λr _ h=>r.2 _ h
 Ra:=λ⟨xs,m⟩ h=>⟨xs,m.FO (m.ne h).1 (m.ne h).2⟩
 HA:=λ_ h ⟨xs,m,hk⟩=>⟨xs,m.FO (m.ne h).1 (m.ne h).2,hk⟩
 S6:=λ{_ _ b o} ⟨xs,m⟩ hc ho hx=>⟨xs,m.FP (m.MI ho hx).1 (m.MI ho hx).2 hc⟩
 KO:=λ{_ _ b o k} _ hc ho hx ⟨xs,m,hk⟩=>⟨xs,m.FP (m.MI ho hx).1 (m.MI ho hx).2 hc,hk⟩
noncomputable def ng (G:D) (i:Nat):cb:=λδ=>match δ[i]? with
 |some (.memo _)=>some G
 |_=>none
structure lT (K:W.Frag) (Y:OC):Prop where
 cl:Kn K Y.cl
 nG:oP K Y.cl Y.fG
 nK:oP K Y.cl Y.fK
section
variable {X:Cx}{Y:OC}{A:rX}{G:D}{C0 H0:Hp}{e k o:cE}{body:List cF}{pos pos' p p2 po:Pos}{i:Nat}
theorem Ll (Z:lT X.K Y) (ho:PE X o (ir i)) (hb:attributeBase o Y.fG X.env (eval o X.env)=eval o X.env):@PD (dD Y A G) X (.Attribute o Y.fG po) (ng G i):=by
 letI:=dD Y A G
 refine(yP ho hb).imp λσ H Q ⟨C,δ,d,x,q,fin⟩=>?_
 unfold ng at q;split at q
 ·rename_i ks hi;cases q;obtain⟨a',h1,h2,⟨xs,m⟩,_⟩:=x.mem i ks hi;cases h1;obtain⟨fs,gv,g1,g2,g3,g4,g5⟩:=m.h;exact⟨.ref A.o,h2,A.o,Y.cl,A.dx,fs,gv,rfl,g1,Z.cl,Z.nG,g2,fin gv C H (.refl x.sub) g5⟩
 ·cases q
theorem OV {σ:L2.St}{C H:Hp}{δ:dM}{ks:cu}{Q:VK}(Z:lT X.K Y) (x:@Sx (dD Y A G) δ σ C H) (hi:δ[i]? =some (.memo ks)) (q:Q (.ref A.a) H):QH X.K (ir i) Y.fK σ H Q:=by
 obtain⟨a',h1,h2,⟨xs,m⟩,_⟩:=@Sx.mem (dD Y A G) _ _ _ _ x i ks hi;cases h1;obtain⟨fs,gv,g1,g2,g3,g4,g5⟩:=m.h;exact⟨.ref A.o,h2,A.o,Y.cl,A.dx,fs,_,rfl,g1,Z.cl,Z.nK,g3,q⟩
theorem Ip (fs:List Nat) {fk:cb}{fb:bZ}(hu:X.A.units+64<cLine) (Z:lT X.K Y) (hk:@PD (dD Y A G) X k fk) (ho:PE X o (ir i)) (hb:attributeBase o Y.fK X.env (eval o X.env)=eval o X.env) (UC:@CJ (dD Y A G) X C0 H0 body fb) (hm:behindInMarks .NotIn (.Attribute o Y.fK po)=false):
  @PB (dD Y A G) X C0 H0 (.If (.Compare k [.NotIn] [.Attribute o Y.fK po] pos) body [] pos') (rV i fs fk fb):=λB=>by
 letI:=dD Y A G
 refine(Ml (D7 (zt (a:=A.a) (M:=Y.Mf G) hu) hk (yP ho hb) hm) (UC B) D4).imp λDn σ H ⟨C,δ,r,gd,q,fin⟩=>?_
 unfold rV at q;split at q
 ·rename_i ks ds δ2 hi RG Rm;split at q
  ·rename_i hc;obtain⟨c1,c2,c3⟩:=hc;cases q;refine⟨C,δ,.tup ds,gd.x,RG,λv C1 H1 e1 i1=>?_⟩
   have g1:=gd.Ak e1;obtain⟨a',h1,h2,⟨xs,m⟩,h4⟩:=g1.x.mem i ks hi;refine OV Z g1.x hi ⟨C1,ds,xs,e1.s,i1,c1,c2,rfl,m.m,_,rfl,?_⟩;cases hs:(atKey xs (.tup ds)).isSome with
   |true=>exact Ft (fin σ C1 H1 ((g1.Er hi ⟨xs,m,tH.mp hs⟩).weak (AL fs δ i _ ks)))
   |false=>exact AA ⟨C1,δ,.next δ2,g1,Rm,λσ' C' H' g'=>fin σ' C' H' (g'.weak c3)⟩
  ·cases q
 ·cases q
theorem FU {fk:cb}(hu:X.A.units+64<cLine) (Z:lT X.K Y) (ho:PE X o (ir i)) (hb:attributeBase o Y.fK X.env (eval o X.env)=eval o X.env) (hk:@PD (dD Y A G) X k fk) (hs:pX k):@PD (dD Y A G) X (.Subscript (.Attribute o Y.fK po) k pos) (o5 (Y.Mf G) i fk):=by
 letI:=dD Y A G
 refine(Mv (Lg (a:=A.a) (M:=Y.Mf G) hu) (yP ho hb) hk hs).imp λσ H Q ⟨C,δ,d,x,q,fin⟩=>?_
 unfold o5 at q;split at q
 ·rename_i ks ds hi RG;split at q
  ·rename_i hc;obtain⟨c1,c2,c3⟩:=hc;refine OV Z x hi ⟨C,δ,.tup ds,x,RG,λv C1 H1 e1 i1=>?_⟩
   obtain⟨a',h1,_,_,h4⟩:=(x.ev e1).mem i ks hi;obtain⟨xs,m,hx⟩:=h4 _ c3;refine⟨C1,ds,xs,e1.s,rfl,i1,c1,c2,m.m,hx,λw d' hw iw=>?_⟩
   rw[q]at hw;cases hw;exact fin w C1 H1 e1 iw
  ·cases q
 ·cases q
theorem De {C H:Hp}{xs ys:List (D×cD×cw)}(s:dR C H) (m:gq Y A G C H xs) (m':eK A.a (Y.Mf G) C (upd H A.a (.ext (mE A.a ys))) ys) (hk:∀k,(∃zs,eK A.a (Y.Mf G) C H zs/\k∈zs.map (·.1))->k∈ys.map (·.1)):
  gq Y A G C (upd H A.a (.ext (mE A.a ys))) ys/\@Ev (dD Y A G) C H C (upd H A.a (.ext (mE A.a ys))):=by
 letI:=dD Y A G
 have m2:gq Y A G C (upd H A.a (.ext (mE A.a ys))) ys:=⟨let ⟨fs,gv,h1,h2⟩:=m.h;⟨fs,gv,by rw[cQ m.oa];exact h1,h2⟩,m.c,m'⟩
 refine⟨m2,dR.refl _,λb o q h=>?_,λb o q h x=>?_,λb u q=>?_,λb u q=>.inl q,⟨λ_=>⟨ys,m2⟩,λk ⟨zs,mz,hz⟩=>⟨ys,m2,hk k ⟨zs,mz.m,hz⟩⟩⟩⟩
 ·have:b≠A.a:=λz=>by
   subst z;rcases h with h|h
   ·exact h rfl
   ·rw[m.m.h]at q;cases q;cases h
  rw[cQ this];exact q
 ·cases h;exact⟨_,cU,rfl⟩
 ·rw[cQ (cS q m.m.c)];exact s b u q
theorem FV {fk fe:cb}(hu:X.A.units+64<cLine) (Z:lT X.K Y) (he:@PD (dD Y A G) X e fe) (ho:PE X o (ir i)) (hb:attributeBase o Y.fK X.env (eval o X.env)=eval o X.env) (hk:@PD (dD Y A G) X k fk)
  (ha:∀v,assign (.Subscript (.Attribute o Y.fK po) k p) X.env v=(do
   let ov <-holding [v] (eval (.Attribute o Y.fK po) X.env)
   let iv <-holding [v,ov] (eval k X.env)
   standAt p
   holding [v,ov,iv] (setItem ov iv v)
   release [v,ov,iv] []))
  (hs:swapsWithSole [.Subscript (.Attribute o Y.fK po) k p] e pos.line X.env=pure false) (hw:swappedStores [.Subscript (.Attribute o Y.fK po) k p] e X.env=pure none) (h1:(assignEach [.Subscript (.Attribute o Y.fK po) k p] X.env).map (·.2)=[assign (.Subscript (.Attribute o Y.fK po) k p) X.env]):
  @PB (dD Y A G) X C0 H0 (.Assign [.Subscript (.Attribute o Y.fK po) k p] e pos) (o6 (Y.Mf G) i fk fe):=λB=>by
 letI:=dD Y A G
 refine(G4 he (Nw (yP ho hb) hk (Ij (a:=A.a) (M:=Y.Mf G) hu) ha) hs hw h1).imp λDn σ H ⟨C,δ,r,gd,q,fin⟩=>?_
 unfold o6 at q;split at q
 ·rename_i ks ds d hi RG Ov;split at q
  ·rename_i hc;cases q;refine⟨C,δ,d,gd.x,Ov,λv C1 H1 e1 i1=>?_⟩
   have g1:=gd.Ak e1;refine OV Z g1.x hi ⟨C1,δ,.tup ds,g1.x,RG,λkv C2 H2 e2 i2=>?_⟩
   have g2:=g1.Ak e2;obtain⟨a',z1,z2,⟨xs,m⟩,_⟩:=g2.x.mem i ks hi;refine⟨C2,ds,d,xs,e2.s,rfl,i2,i1.mono e2.c,hc,m.m,λys m' Dd jW=>fin σ C2 _ ?_⟩
   obtain⟨m2,ev⟩:=De e2.s m m' Dd;exact(g2.Ak ev).Er hi ⟨ys,m2,jW⟩
  ·cases q
 ·cases q
end
end DL
namespace DL
open PySem PySem.Spec PyProof.Rows L2
noncomputable def GV (Y:OC) (g:cf):Sp:=λvs H Q _=>∃C G ds d A ws,dR C H/\vs=.ref A.o::ws/\IsL C ws ds/\(∃xs,gq Y A G C H xs)/\g (G::ds)=some d/\∀v C' H',@Ev (dD Y A G) C H C' H'->Is C' v d->Q v H'
noncomputable def lU (i:Nat) (G:D) (g:cf) (f:bY):cb:=λδ=>match δ[i]? with
 |some (.memo _)=>(f δ).bind λds=>g (G::ds)
 |_=>none
noncomputable def rY (g:cf) (fg:cb) (fa:bY):cb:=λδ=>(fg δ).bind λG=>(fa δ).bind λds=>g (G::ds)
section
variable {X:Cx}{Y:OC}{A:rX}{G:D}{C0 H0:Hp}{e o:cE}{es:List cE}{pos p po apos:Pos}{i k:Nat}{m x:Str}{f:cD}{fd:cy}{ps:List Str}{g:cf}{fa:bY}
theorem Iq {pl:Sem Bool}(Z:lT X.K Y) (ho:PE X o (ir i)) (hm:Meth X.K Y.cl m f) (h1:m≠Y.fG) (h2:m≠Y.fK) (F:eJ X.prog X.w X.K X.mg X.base ju k f fd ps (GV Y g)) (hr:gr k X.A) (hb:Binds X.K fd ps []) (ha:@GS (dD Y A G) X (e::es) fa)
  (kO:starEach (e::es) X.env=(false,eval e X.env)::starEach es X.env) (jM:(backTo pos (starEach es X.env)).any (·.1)=false)
  (ht:eval (.Call (.Attribute o m apos) (e::es) [] pos) X.env=(do
   let ov <-eval o X.env
   standAt apos.atName
   let (f,first) <-holding [ov] (getMethod ov m pl)
   callWith pos f first (backTo pos (starEach (e::es) X.env)) (backToKw pos (keywordEach [] X.env)))):
  @PD (dD Y A G) X (.Call (.Attribute o m apos) (e::es) [] pos) (lU i G g fa):=by
 letI:=dD Y A G
 refine(D8 ho Z.cl hm F hr hb .nil Ed ha kO jM ht).imp λσ H Q ⟨C,δ,d,x,q,fin⟩=>?_
 unfold lU at q;split at q
 ·rename_i ks hi;cases hf:fa δ with
  |none=>rw[hf]at q;cases q
  |some ds=>
   rw[hf]at q;simp only[ao]at q;obtain⟨a',z1,z2,⟨xs,mm⟩,_⟩:=x.mem i ks hi;cases z1;obtain⟨fs,gv,g1,g2,g3,g4,g5⟩:=mm.h;refine⟨.ref A.o,z2,A.o,A.dx,fs,rfl,g1,g4 m h1 h2,C,δ,ds,x,hf,λvs C1 H1 e1 i1=>?_⟩
   obtain⟨_,_,_,ok,_⟩:=(x.ev e1).mem i ks hi;show GV Y g (V.ref A.o::(vs++[])) H1 Q E0;rw[bB];exact⟨C1,G,ds,d,A,vs,e1.s,rfl,i1,ok,q,λv C2 H2 e2 i2=>fin v C2 H2 (e1.trans e2) i2⟩
 ·cases q
end
noncomputable def nh (n np:Nat) (fb:D->bZ):cf
 |G::ds=>if ds.length+1=np/\0<np then(match fb G (startM n np 0 ds)with|some (.ret d)=>some d|some (.next _)=>some .fN|_=>none)else none
 |[]=>none
theorem OW {P:cz}{w:cA}{K:W.Frag}{mg:cj}{base:Heap}{x qual:Str}{st:cF}{f:cD}{fd:cy}{N ps:List Str}{k:Nat}(Y:OC) (F:nF K x qual st f fd) (S:dB N ps (cM st)) {fb:D->bZ}
  (kC:∀(A:rX) (G:D) (gk:cw) (Ar:cB) (outer:List Env) (s:cx) (H:Hp) (E:XK),gr k (Ar.deeper (envOfC qual (cM st) s.heap.objs.size f gk))->∀C0 H0,@CJ (dD Y A G) (qQ ju P w K mg base N qual (cM st) f gk Ar outer s H E).D3 C0 H0 (dv st) (fb G)):
  eJ P w K mg base ju (k+1) f fd ps (GV Y (nh N.length ps.length fb)):=by
 refine F.ok S (λvs H Q E h=>?_) (λgk Ar outer s H vs Q E hr h=>?_)
 ·obtain⟨C,G,ds,d,A,ws,_,rfl,i,_,q,_⟩:=h;simp only[nh]at q;split at q
  ·rename_i hl;have h1:=i.length;rw[ax];omega
  ·cases q
 ·obtain⟨C,G,ds,d,A,ws,sub,rfl,i,ok,q,fin⟩:=h;letI:=dD Y A G
  refine⟨tS C C H (fb G),kC A G gk Ar outer s H E hr C H C,?_⟩;simp only[nh]at q;split at q
  case isFalse=>cases q
  rename_i hl;obtain⟨hl,Hy⟩:=hl;have hN:ps.length<=N.length:=by have:=S.pre;rw[<-this,bJ];omega
  have lv:(V.ref A.o::ws).length=ps.length:=by
   have h1:=i.length;rw[ax];omega
  have sg:∀n:Nat,n<(V.ref A.o::ws).length->(L2.start N (V.ref A.o::ws))[n]? =some (V.ref A.o::ws)[n]? :=λn hn=>by
   unfold L2.start;rw[aJ (by rw[ae];exact hn),av,ah hn];rfl
  have noOwn:∀n es,(startM N.length ps.length 0 ds)[n]? ≠some (Sl.own es):=λn es e=>by
   rw[qX hl Hy]at e;split at e
   ·cases hd:ds[n]? with
    |none=>rw[hd]at e;cases e
    |some d'=>rw[hd]at e;cases e
   ·split at e
    ·cases e
    ·split at e
     ·cases hd:ds[n-1]? with
      |none=>rw[hd]at e;cases e
      |some d'=>rw[hd]at e;cases e
     ·split at e<;>cases e
  have sx:Sx (startM N.length ps.length 0 ds) (L2.start N (V.ref A.o::ws)) C H:=by
   refine⟨sub,λn d e=>?_,λn es e=>absurd e (noOwn n es),λn m es fs a e=>absurd e (noOwn n es),?_,λn ks e=>?_⟩
   ·rw[qX hl Hy]at e;split at e
    ·rename_i h1;omega
    ·split at e
     ·cases e
     ·rename_i h1 h2;split at e
      ·rename_i h3;cases hd:ds[n-1]? with
       |none=>rw[hd]at e;cases e
       |some d'=>
        rw[hd]at e;cases e;obtain⟨v,g1,g2⟩:=i.get hd;refine⟨v,?_,g2⟩;rw[sg n (by omega)]
        obtain⟨n',rfl⟩:∃n',n=n'+1:=⟨n-1,by omega⟩
        rw[aK];exact congrArg some g1
      ·split at e<;>cases e
   ·unfold L2.start startM;simp only[aQ,ae,List.length_replicate,ax,bJ,List.length_drop];have h1:=i.length;omega
   ·rw[qX hl Hy]at e;split at e
    ·rename_i h1;omega
    ·split at e
     ·rename_i h2;subst h2;cases e;exact⟨A.o,rfl,by rw[sg 0 (by omega)];rfl,ok,λk hk=>by cases hk⟩
     ·split at e
      ·cases hd:ds[n-1]? with
       |none=>rw[hd]at e;cases e
       |some d'=>rw[hd]at e;cases e
      ·split at e<;>cases e
  have gd:Gd C C H (startM N.length ps.length 0 ds) (L2.start N (V.ref A.o::ws)) C H:=⟨dR.refl _,.refl sub,sx,λn es a e _=>absurd e (noOwn n es)⟩
  split at q
  ·rename_i d' hf;cases q;exact⟨C,_,_,gd,hf,λv C' H' ev i'=>fin v C' H' ev i'⟩
  ·rename_i δ' hf;cases q;exact⟨C,_,_,gd,hf,λσ' C' H' g'=>fin .fN C' H' g'.ev .fN⟩
  ·cases q
noncomputable def vR (Y:OC) (H:Hp) (x dx p:cD) (gv:V):Hp:=upd (upd (upd H x (.ins Y.cl dx (nI Y.fG gv []))) p (.ext (mE p []))) x (.ins Y.cl dx (nI Y.fK (.ref p) (nI Y.fG gv [])))
noncomputable def Ir (Y:OC):TS:=λDn σ H=>∃x dx gv,σ[0]? =some (some (.ref x))/\σ[1]? =some (some gv)/\H x=some (.ins Y.cl dx [])/\∀p,p≠x->H p=none->(p==sysModules)=false->Dn.nx σ (vR Y H x dx p gv)
noncomputable def zv (Y:OC):Sp:=λvs H Q _=>∃x dx gv,vs=[.ref x,gv]/\H x=some (.ins Y.cl dx [])/\∀p,p≠x->H p=none->(p==sysModules)=false->Q .fN (vR Y H x dx p gv)
section
variable {X:Cx}{Y:OC}{e0 e1 e2:cE}{p1 p2 p3 p4 p5:Pos}
theorem Iu (Z:lT X.K Y) (h0:PE X e0 (ir 0)) (h1:PE X e1 (ir 1)) (h2:PE X e2 (ir 0))
  (s1:swapsWith e1 (some (.Attribute e0 Y.fG p1)) p2.line X.env=pure false) (s2:swapsWith (.Dict [] [] p4) (some (.Attribute e2 Y.fK p3)) p5.line X.env=pure false):
  xP X [.Assign [.Attribute e0 Y.fG p1] e1 p2,.Assign [.Attribute e2 Y.fK p3] (.Dict [] [] p4) p5] (Ir Y):=λpins s σ H Dn I h=>by
 obtain⟨x,dx,gv,q0,q1,hx,fin⟩:=h;refine vg (He h0 h1 s1) (D5 (He h2 (Lh (pos:=p4)) s2)) pins s σ H Dn I ?_;refine⟨gv,q1,.ref x,q0,x,Y.cl,dx,[],rfl,hx,Z.cl,Z.nG,by decide,?_⟩
 intro p hp hs;have jr:p≠x:=λz=>by subst z;rw[cU]at hp;cases hp
 refine⟨.ref x,q0,x,Y.cl,dx,_,rfl,by rw[cQ (Ne.symm jr),cU],Z.cl,Z.nK,by show(1:Nat)<1000;decide,?_⟩
 exact fin p jr (by rw[cQ jr]at hp;exact hp) hs
end
theorem Lm {P:cz}{w:cA}{K:W.Frag}{mg:cj}{base:Heap}{x qual:Str}{st:cF}{f:cD}{fd:cy}{N:List Str}{p1 p2:Str}{k:Nat}(Y:OC) (F:nF K x qual st f fd) (S:dB N [p1,p2] (cM st)) (hN:N.length=2)
  (kC:∀(gk:cw) (Ar:cB) (outer:List Env) (s:cx) (H:Hp) (E:XK),xP (qQ ju P w K mg base N qual (cM st) f gk Ar outer s H E).D3 (dv st) (Ir Y)):
  eJ P w K mg base ju (k+1) f fd [p1,p2] (zv Y):=by
 refine F.ok S (λvs H Q E h=>?_) (λgk Ar outer s H vs Q E hr h=>?_)
 ·obtain⟨x,dx,gv,rfl,_⟩:=h;rfl
 ·obtain⟨x,dx,gv,rfl,hx,fin⟩:=h;refine⟨Ir Y,kC gk Ar outer s H E,x,dx,gv,?_,?_,hx,fin⟩<;>rfl
noncomputable def Iv (Y:OC) (fg:cb):TE:=λσ H Q=>∃C δ G,@Sx Mem.keep δ σ C H/\fg δ=some G/\∀A C' H',oK C H C' H'->H A.o=none->H A.a=none->gq Y A G C' H' []->Q (.ref A.o) H'
section
variable {X:Cx}{Y:OC}{A:rX}{G:D}{C0 H0:Hp}{e o:cE}{es:List cE}{pos p po apos:Pos}{i k:Nat}{m x:Str}{f:cD}{fd:cy}{ps:List Str}{g:cf}{fa:bY}{fg:cb}{rest:List cF}
theorem Ln (Z:lT X.K Y) (UD:Y.fK≠Y.fG) (M:Mk X.K Y.cl f) (F:eJ X.prog X.w X.K X.mg X.base ju k f fd ps (zv Y)) (hr:gr (k+1) X.A) (hg:Gl X x) (hm:X.mg x=some (.ref Y.cl)) (hb:Binds X.K fd ps [])
  (ha:@PD Mem.keep X e fg) (rD:(x==("__debug__":Str))=false:=by decide) (he:starEach [e] X.env=(false,eval e X.env)::starEach [] X.env:=by exact eG rfl) (jM:(backTo pos (starEach [] X.env)).any (·.1)=false:=by exact fx rfl):
  PE X (.Call (.Name x p) [e] [] pos) (Iv Y fg):=by
 letI:=Mem.keep
 refine(Kr M F hr hg hm hb .nil Ed (mC ha oR he) rD he jM).imp λσ H Q ⟨C,δ,G,sx,q,fin⟩=>?_
 refine⟨C,δ,G,sx,q,λv C1 H1 e1 i1=>?_⟩
 intro x dx hx MJ jr;refine⟨x,dx,v,rfl,cU,λp hp Ta B5=>⟨rfl,?_⟩⟩
 have e1:=e1.ue;have YA:p≠dx:=λz=>by
  subst z;rw[cQ hp,cU]at Ta;cases Ta
 have Es:H1 p=none:=by rw[cQ hp,cQ YA]at Ta;exact Ta
 have hH:∀b,b≠x->b≠p->b≠dx->vR Y (upd (upd H1 dx (.own x)) x (.ins Y.cl dx [])) x dx p v b=H1 b:=λb n1 n2 n3=>by
  unfold vR;rw[cQ n1,cQ n2,cQ n1,cQ n1,cQ n3]
 have ev:oK C1 H1 C1 (vR Y (upd (upd H1 dx (.own x)) x (.ins Y.cl dx [])) x dx p v):=by
  refine⟨dR.refl _,λb u q=>?_,λb u q=>?_,λb u q=>.inl q⟩
  ·rw[hH b (cS q hx) (cS q Es) (cS q MJ)];exact q
  ·have q':=e1.s b u q;rw[hH b (cS q' hx) (cS q' Es) (cS q' MJ)];exact q'
 refine fin ⟨x,dx,p⟩ C1 _ (e1.trans ev) (e1.h.free hx) (e1.h.free Es) ⟨⟨_,v,cU,?_,?_,λm h1 h2=>?_,i1⟩,e1.s.free hx,Dc (e1.s.free Es) B5 ?_⟩
 ·rw[hO,if_neg (Ne.symm UD),hO,if_pos rfl]
 ·rw[hO,if_pos rfl]
 ·rw[hO,if_neg h2,hO,if_neg h1];rfl
 ·show vR Y _ x dx p v p=_;unfold vR;rw[cQ hp,cU]
theorem Lo {C H C1 H1 C2 H2:Hp}(e1:oK C H C1 H1) (hn:H A.a=none) (e2:@Ev (dD Y A G) C1 H1 C2 H2):oK C H C2 H2:=by
 letI:=dD Y A G
 refine⟨e1.c.trans e2.c,λb o q=>?_,e2.s,λb u q=>?_⟩
 ·have hb:b≠A.a:=λz=>by subst z;rw[hn]at q;cases q
  exact e2.h b o (e1.h b o q) (.inl λz=>hb (aS z).symm)
 ·rcases e2.n b u q with z|z
  ·exact e1.n b u z
  ·exact .inr (e1.h.free z)
theorem Df {pl:Sem Bool}(Z:lT X.K Y) (ho:PE X o (Iv Y fg)) (hm:Meth X.K Y.cl m f) (h1:m≠Y.fG) (h2:m≠Y.fK) (F:eJ X.prog X.w X.K X.mg X.base ju k f fd ps (GV Y g)) (hr:gr k X.A) (hb:Binds X.K fd ps []) (ha:@GS Mem.keep X (e::es) fa)
  (kO:starEach (e::es) X.env=(false,eval e X.env)::starEach es X.env) (jM:(backTo pos (starEach es X.env)).any (·.1)=false)
  (ht:eval (.Call (.Attribute o m apos) (e::es) [] pos) X.env=(do
   let ov <-eval o X.env
   standAt apos.atName
   let (f,first) <-holding [ov] (getMethod ov m pl)
   callWith pos f first (backTo pos (starEach (e::es) X.env)) (backToKw pos (keywordEach [] X.env)))):
  @PD Mem.keep X (.Call (.Attribute o m apos) (e::es) [] pos) (rY g fg fa):=by
 letI:=Mem.keep
 refine(D8 ho Z.cl hm F hr hb .nil Ed ha kO jM ht).imp λσ H Q ⟨C,δ,d,x,q,fin⟩=>?_
 unfold rY at q;cases hG:fg δ with
 |none=>rw[hG]at q;cases q
 |some G=>
  cases hf:fa δ with
  |none=>rw[hG,hf]at q;cases q
  |some ds=>
   rw[hG,hf]at q;simp only[ao]at q;refine⟨C,δ,G,x,hG,λA C1 H1 e1 n1 n2 mm=>?_⟩
   obtain⟨fs,gv,g1,g2,g3,g4,g5⟩:=mm.h;refine⟨A.o,A.dx,fs,rfl,g1,g4 m h1 h2,C1,δ,ds,x.ev e1.up,hf,λvs C2 H2 e2 i2=>?_⟩
   show GV Y g (V.ref A.o::(vs++[])) H2 Q E0;rw[bB];have UE:=e2.ue;exact⟨C2,G,ds,d,A,vs,UE.s,rfl,i2,⟨[],mm.RB UE⟩,q,λv C3 H3 e3 i3=>fin v C3 H3 (Lo (e1.trans UE) n2 e3).up i3⟩
end
end DL
namespace DL
open PySem PySem.Spec PyProof.Rows L2
def lq (P:cz) (w:cA) (K:W.Frag) (mg:cj) (base:Heap) (k:Nat) (Y:OC) (m:Str) (g:cf):Prop:=
 ∃f fd ps,eJ P w K mg base ju k f fd ps (GV Y g)/\Meth K Y.cl m f/\Binds K fd ps []/\m≠Y.fG/\m≠Y.fK
theorem lq.mono {P:cz}{w:cA}{K:W.Frag}{mg:cj}{base:Heap}{k l:Nat}{Y:OC}{m:Str}{g:cf}(c:lq P w K mg base k Y m g) (h:k<=l):lq P w K mg base l Y m g:=
 let ⟨f,fd,ps,F,r⟩:=c;⟨f,fd,ps,F.mono h,r⟩
def tJ (P:cz) (w:cA) (K:W.Frag) (mg:cj) (base:Heap) (k:Nat) (Y:OC) (x:Str):Prop:=
 ∃f fd ps,eJ P w K mg base ju k f fd ps (zv Y)/\Mk K Y.cl f/\mg x=some (.ref Y.cl)/\Binds K fd ps []/\Y.fK≠Y.fG
theorem tJ.mono {P:cz}{w:cA}{K:W.Frag}{mg:cj}{base:Heap}{k l:Nat}{Y:OC}{x:Str}(c:tJ P w K mg base k Y x) (h:k<=l):tJ P w K mg base l Y x:=
 let ⟨f,fd,ps,F,r⟩:=c;⟨f,fd,ps,F.mono h,r⟩
theorem AR {P:cz}{w:cA}{K:W.Frag}{mg:cj}{base:Heap}{k:Nat}{f:cD}{fd:cy}{ps:List Str}{Y:OC}:eJ P w K mg base ju k f fd ps (GV Y λ_=>none):=
 ⟨(λvs H Q E ⟨_,_,_,_,_,_,_,_,_,_,q,_⟩=>by cases q),λA outer s H args us vs Q E _ _ _ _ ⟨_,_,_,_,_,_,_,_,_,_,q,_⟩=>by cases q⟩
structure RH (X:Cx) (Y:OC) (e:cE) (f:cb):Prop where
 go:PE X e (Iv Y f)
section
variable {X:Cx}{Y:OC}{A:rX}{G:D}{C0 H0:Hp}{e k o:cE}{es:List cE}{body rest:List cF}{pos pos' p p2 po apos:Pos}{i l:Nat}{m x:Str}{g:cf}{fa:bY}{fg:cb}
theorem uW (Z:lT X.K Y) (ho:PE X o (ir i)) (hb:attributeBase o Y.fG X.env (eval o X.env)=eval o X.env:=by rfl):@WD (dD Y A G) X (.Attribute o Y.fG po) (ng G i):=by
 letI:=dD Y A G
 exact⟨Ll Z ho hb⟩
theorem Iw (fs:List Nat) {fk:cb}{fb:bZ}(hu:X.A.units+64<cLine) (Z:lT X.K Y) (hk:@WD (dD Y A G) X k fk) (ho:PE X o (ir i)) (UC:@vE (dD Y A G) X C0 H0 body fb) (hb:attributeBase o Y.fK X.env (eval o X.env)=eval o X.env:=by rfl) (hm:behindInMarks .NotIn (.Attribute o Y.fK po)=false:=by first|exact vj _|rfl):
  @WB (dD Y A G) X C0 H0 (.If (.Compare k [.NotIn] [.Attribute o Y.fK po] pos) body [] pos') (rV i fs fk fb):=by
 letI:=dD Y A G
 exact⟨Ip fs hu Z hk.go ho hb UC.go hm⟩
theorem FW {fk:cb}(hu:X.A.units+64<cLine) (Z:lT X.K Y) (ho:PE X o (ir i)) (hk:@WD (dD Y A G) X k fk) (hs:pX k) (hb:attributeBase o Y.fK X.env (eval o X.env)=eval o X.env:=by rfl):@WD (dD Y A G) X (.Subscript (.Attribute o Y.fK po) k pos) (o5 (Y.Mf G) i fk):=by
 letI:=dD Y A G
 exact⟨FU hu Z ho hb hk.go hs⟩
theorem FX {fk fe:cb}(hu:X.A.units+64<cLine) (Z:lT X.K Y) (he:@WD (dD Y A G) X e fe) (ho:PE X o (ir i)) (hk:@WD (dD Y A G) X k fk) (hb:attributeBase o Y.fK X.env (eval o X.env)=eval o X.env:=by rfl)
  (ha:∀v,assign (.Subscript (.Attribute o Y.fK po) k p) X.env v=(do
   let ov <-holding [v] (eval (.Attribute o Y.fK po) X.env)
   let iv <-holding [v,ov] (eval k X.env)
   standAt p
   holding [v,ov,iv] (setItem ov iv v)
   release [v,ov,iv] []):=by intro _;rfl)
  (hs:swapsWithSole [.Subscript (.Attribute o Y.fK po) k p] e pos.line X.env=pure false:=by rfl) (hw:swappedStores [.Subscript (.Attribute o Y.fK po) k p] e X.env=pure none:=by rfl) (h1:(assignEach [.Subscript (.Attribute o Y.fK po) k p] X.env).map (·.2)=[assign (.Subscript (.Attribute o Y.fK po) k p) X.env]:=by rfl):
  @WB (dD Y A G) X C0 H0 (.Assign [.Subscript (.Attribute o Y.fK po) k p] e pos) (o6 (Y.Mf G) i fk fe):=by
 letI:=dD Y A G
 exact⟨FV hu Z he.go ho hb hk.go ha hs hw h1⟩
theorem rZ {pl:Sem Bool}(Z:lT X.K Y) (c:lq X.prog X.w X.K X.mg X.base l Y m g) (hr:gr l X.A) (ho:PE X o (ir i)) (ha:@Ic (dD Y A G) X (e::es) fa)
  (kO:starEach (e::es) X.env=(false,eval e X.env)::starEach es X.env:=by exact eG rfl) (jM:(backTo pos (starEach es X.env)).any (·.1)=false:=by exact fx rfl)
  (ht:eval (.Call (.Attribute o m apos) (e::es) [] pos) X.env=(do
   let ov <-eval o X.env
   standAt apos.atName
   let (f,first) <-holding [ov] (getMethod ov m pl)
   callWith pos f first (backTo pos (starEach (e::es) X.env)) (backToKw pos (keywordEach [] X.env))):=by rfl):
  @WD (dD Y A G) X (.Call (.Attribute o m apos) (e::es) [] pos) (lU i G g fa):=by
 obtain⟨f,fd,ps,F,hm,hb,h1,h2⟩:=c;letI:=dD Y A G
 exact⟨Iq Z ho hm h1 h2 F hr hb ha.go kO jM ht⟩
theorem UG (Z:lT X.K Y) (c:tJ X.prog X.w X.K X.mg X.base l Y x) (hr:gr (l+1) X.A) (hg:Gl X x) (ha:@WD Mem.keep X e fg) (rD:(x==("__debug__":Str))=false:=by decide) (he:starEach [e] X.env=(false,eval e X.env)::starEach [] X.env:=by exact eG rfl) (jM:(backTo pos (starEach [] X.env)).any (·.1)=false:=by exact fx rfl):
  RH X Y (.Call (.Name x p) [e] [] pos) fg:=by
 obtain⟨f,fd,ps,F,M,hm,hb,UD⟩:=c;exact⟨Ln Z UD M F hr hg hm hb (@WD.go Mem.keep _ _ _ ha) rD he jM⟩
theorem Dg {pl:Sem Bool}(Z:lT X.K Y) (c:lq X.prog X.w X.K X.mg X.base l Y m g) (hr:gr l X.A) (ho:RH X Y o fg) (ha:@Ic Mem.keep X (e::es) fa)
  (kO:starEach (e::es) X.env=(false,eval e X.env)::starEach es X.env:=by exact eG rfl) (jM:(backTo pos (starEach es X.env)).any (·.1)=false:=by exact fx rfl)
  (ht:eval (.Call (.Attribute o m apos) (e::es) [] pos) X.env=(do
   let ov <-eval o X.env
   standAt apos.atName
   let (f,first) <-holding [ov] (getMethod ov m pl)
   callWith pos f first (backTo pos (starEach (e::es) X.env)) (backToKw pos (keywordEach [] X.env))):=by rfl):
  @WD Mem.keep X (.Call (.Attribute o m apos) (e::es) [] pos) (rY g fg fa):=by
 obtain⟨f,fd,ps,F,hm,hb,h1,h2⟩:=c;exact @WD.mk Mem.keep _ _ _ (Df Z ho.go hm h1 h2 F hr hb (@Ic.go Mem.keep _ _ _ ha) kO jM ht)
end
theorem uX {P:cz}{w:cA}{K:W.Frag}{mg:cj}{base:Heap}{x qual:Str}{st:cF}{f:cD}{fd:cy}{N ps:List Str}{k:Nat}(Y:OC) (F:nF K x qual st f fd) (S:dB N ps (cM st)) {fb:D->bZ}
  (kC:∀(A:rX) (G:D) (gk:cw) (Ar:cB) (outer:List Env) (s:cx) (H:Hp) (E:XK),gr k (Ar.deeper (envOfC qual (cM st) s.heap.objs.size f gk))->∀C0 H0,@vE (dD Y A G) (qQ ju P w K mg base N qual (cM st) f gk Ar outer s H E).D3 C0 H0 (dv st) (fb G)):
  eJ P w K mg base ju (k+1) f fd ps (GV Y (nh N.length ps.length fb)):=OW Y F S λA G gk Ar outer s H E hr C0 H0=>@vE.go (dD Y A G) _ _ _ _ _ (kC A G gk Ar outer s H E hr C0 H0)
end DL
namespace DL
open PySem PySem.Spec PyProof.Rows L2
end DL
namespace DL
open PySem PySem.Spec PyProof.Rows L2
section
variable {K:W.Frag}{Ce Cf Cn ea:cD}{oe:Obj}
end
end DL
namespace DL
open PySem PySem.Spec PyProof.Rows L2
section
variable {P:cz}{w:cA}{K:W.Frag}{mg:cj}{base:Heap}{N:List Str}{qual:Str}{scope:Scope}{f:cD}{cd:cw}{A:cB}{outer:List Env}{s0:cx}{H0:Hp}{E:XK}{Ce:cD}
end
section
variable {X:Cx}{k:Nat}
end
end DL
namespace DL
open PySem PySem.Spec PyProof.Rows L2
section
variable {X:Cx}{k:Nat}
end
section
variable [Mem] {X:Cx}{E:XK}{Ce:cD}{C0 H0:Hp}{st:cF}{body rest:List cF}{c:cE}{pos:Pos}
end
end DL
namespace DL
open PySem PySem.Spec PyProof.Rows L2
section
variable [Mem] {X:Cx}{E:XK}{Ce Cf Cn:cD}{C0 H0:Hp}{k:Nat}
end
end DL
namespace DL
open PySem PySem.Spec PyProof.Rows L2
section
variable {X:Cx}{ea:cD}{oe:Obj}{pins:ck}{σ:L2.St}{H:Hp}{s:cx}
end
section
variable [Mem] {X:Cx}{ea Ce Cf Cn:cD}{oe:Obj}{n c:Str}{p p1 p2 pos:Pos}{j:Nat}{b:Bool}
end
end DL
namespace DL
open PySem PySem.Spec PyProof.Rows L2
section
variable [Mem] {X:Cx}{k:Nat}{f Ce Cf Cn:cD}{fd:cy}{ps:List Str}{g:cu->Option (Option D)}{fa:bY}{x:Str}{p pos:Pos}{e:cE}{es:List cE}
end
end DL
namespace DL
open PySem PySem.Spec PyProof.Rows L2
section
variable [Mem] {X:Cx}{C0 H0:Hp}{k:Nat}{Ce Cf Cn:cD}{g:cu->Option (Option D)}{fa:bY}{x n c y:Str}{p p2 dY YB Lp oQ py:Pos}{e:cE}{es:List cE}{b0:cF}{Wq:List cF}{c0:D}{vc:V}
end
end DL
namespace HT
open PySem PySem.Spec PyProof.Rows
section
variable {prog:cz}{w:cA}{A:cB}{E:cg}{s:cx}
end
end HT
namespace DL
open PySem PySem.Spec PyProof.Rows L2
section
variable [Mem] {X:Cx}{e:cE}{pos p0 p1 p2:Pos}{k0:Nat}{f:cb}
end
end DL
namespace DL
open PySem PySem.Spec PyProof.Rows L2
section
variable [Mem] {X:Cx}
end
section
variable {X:Cx}
end
end DL
namespace DL
open PySem PySem.Spec PyProof.Rows L2
section
variable {X:Cx}
end
end DL
namespace DL
open PySem PySem.Spec PyProof.Rows L2
section
variable [Mem] {X:Cx}{e o:cE}{f:cb}{x:Str}{xs:List Str}{p p2 pos apos:Pos}
end
end DL
namespace DL
open PySem PySem.Spec PyProof.Rows L2
noncomputable def iS (f:cb):bY:=λδ=>match f δ with
 |some (.lst ds)=>some ds
 |some (.tup ds)=>some ds
 |_=>none
noncomputable def RI:cn->Int
 |[]=>0
 |a::r=>if r.isEmpty then a else(if a<RI r then RI r else a)
noncomputable def jq:cn->Int
 |[]=>0
 |a::r=>if r.isEmpty then a else(if jq r<a then jq r else a)
noncomputable def AS:cf
 |[.lst ds]=>(intsOf ds).bind λns=>if ns.isEmpty then none else some (.int (jq ns))
 |_=>none
theorem vS:∀(l:cn),l≠[]->jq l∈l/\∀x∈l,jq l<=x
 |[],h=>absurd rfl h
 |[a],_=>by simp[jq]
 |a::b::r,_=>by
  obtain⟨h1,h2⟩:=vS (b::r) (by simp)
  have e:jq (a::b::r)=(if jq (b::r)<a then jq (b::r)else a):=by rw[jq];simp
  rw[e];refine⟨?_,λx hx=>?_⟩
  ·by_cases h:jq (b::r)<a
   ·rw[if_pos h];exact ai _ h1
   ·rw[if_neg h];exact af
  ·rcases List.mem_cons.mp hx with rfl|q
   ·split<;>omega
   ·have:=h2 x q;split<;>omega
theorem vT:∀{ns:cn}{dg:cv},Vals (ns.map V.int) dg->∃xs:Array (Int×Tok),dg.toArray=intItems xs/\xs.toList.map (·.1)=ns
 |[],_,.nil=>⟨#[],by simp[intItems],rfl⟩
 |n::ns,_,.cons r t=>by
  obtain⟨tk,rfl⟩:=r;obtain⟨xs,e1,e2⟩:=vT t;refine⟨((n,tk)::xs.toList).toArray,?_,by simpa using e2⟩
  have:intItems xs=(xs.toList.map λp=>Value.int p.1 p.2).toArray:=by cases xs;simp[intItems]
  rw[this]at e1;have e3:=congrArg Array.toList e1;simp only[]at e3;simp[intItems,e3]
section
variable {X:Cx}
theorem xu (hc:X.calm=true):iV X (.builtin "min") (λxs H Q=>∃(p:cD) (ns:cn),xs=[.ref p]/\oF X.K H p (ns.map V.int)/\ns≠[]/\Q (.int (jq ns)) H):=by
 intro pins s σ H xs us Q I r h;obtain⟨p,ns,rfl,hq,jr,q⟩:=h;obtain⟨u,rfl,r1⟩:=vals1 r;cases r1;obtain⟨dg,rv,pl,hz⟩:=I.list hq;obtain⟨ys,e1,e2⟩:=vT rv;have hl:=pl.isList;rw[e1]at hl;have hsz:0<ys.size:=by
  have:(ys.toList.map (·.1)).length=ns.length:=by rw[e2]
  rw[ae,aN]at this;cases ns with
  |nil=>exact absurd rfl jr
  |cons a r=>rw[ax]at this;omega
 refine min_intList (I.ok.hd hc) hl hsz λv h' tk hv k=>⟨_,H,I.kept k,?_,q⟩
 obtain⟨t,rfl⟩:=intItems_at hv;obtain⟨h1,h2⟩:=argBest_lt (numAt ys) (ys.size-1);generalize argBest (λi j=>decide (numAt ys i<numAt ys j)) (ys.size-1)=j at *
 have hn:numAt ys j∈ns:=by
  rw[numAt_eq,e2,ak];have hj:j<ns.length:=by rw[<-e2,ae,aN];omega
  rw[ah hj];exact List.getElem_mem hj
 obtain⟨m1,m2⟩:=vS ns jr;have le1:=m2 _ hn;have Um:numAt ys j<=jq ns:=by
  obtain⟨i,hi,e⟩:=List.getElem_of_mem m1;have xf:i<ys.size:=by rw[<-e2,ae,aN]at hi;exact hi
  have:=h2 i (by omega)
  rw[numAt_eq ys i,e2,ak,ah hi]at this;simp only[Option.getD_some]at this;rw[e]at this;exact this
 exact⟨t,by rw[show numAt ys j=jq ns by omega]⟩
end
section
variable [Mem] {X:Cx}{e o tg a b:cE}{f g:cb}{pos apos:Pos}
theorem OX (hc:X.calm=true):ow X (.builtin "min") AS:=by
 refine⟨_,xu hc,?_⟩;intro C H vs ds d Q s i q k;unfold AS at q;split at q
 ·rename_i es;cases hb:intsOf es with
  |none=>rw[hb]at q;cases q
  |some ns=>
   rw[hb]at q;simp only[ao]at q;split at q
   ·cases q
   ·rename_i jr;cases q;obtain⟨v,rfl,j⟩:=i.one;obtain⟨p,xs,rfl,hq,l⟩:=j.list (K:=X.K) s;rw[iz hb]at l;cases l.mD;exact⟨p,ns,rfl,hq,λz=>jr (by rw[z];rfl),k _ C H (.refl s) (.int _)⟩
 ·cases q
theorem Et (h:WD X e f):uE X tg e (iS f):=⟨λpins s σ H Q I ⟨C,δ,ds,x,q,k⟩=>by
 unfold iS at q;split at q
 ·rename_i es hf;exact AG h.go pins s σ H Q I ⟨C,δ,ds,x,by unfold iL;rw[hf];exact q,k⟩
 ·rename_i es hf;exact Ej h.go pins s σ H Q I ⟨C,δ,ds,x,by unfold iT;rw[hf];exact q,k⟩
 ·cases q⟩
end
end DL
namespace LW
open PySem DL
open L2 (kD rq)
noncomputable def r6:bZ:=
  (eQ (dt xn (dt xn (dt rL (de 0) (dC (.int 48271))) (de 1)) (de 2)))
noncomputable def o8:bZ:=
  r6
noncomputable def cX:cf:=gY 3 3 o8
noncomputable def lV:bZ:=
  (lu 4 (dt jN (de 1) (cO cX (aY (cP 0) (aY (dC (.int 9973)) (aY (dt jN (dt qS (de 2) (de 1)) (dC (.int 1))) cL))))))
noncomputable def lW:bZ:=
  (gp 5 (jS cL))
noncomputable def lX:bZ:=
  (lu 7 (dt jN (dC (.int 1)) (cO cX (aY (dt jN (de 0) (dt rL (dC (.int 7)) (de 6))) (aY (dC (.int 9949)) (aY (cO Em (aY (dC (.int 4)) (aY (de 4) cL))) cL))))))
noncomputable def hW:bZ:=
  (lu 7 (dC (.int 2)))
noncomputable def gw:bZ:=
  (p6 (qq (qB (dt Oa (dt xn (de 0) (dC (.int 3))) (dC (.int 0)))) (qq (qB (dt qA (de 7) (dC (.int 1)))) (qB (dt Oa (de 4) (dC (.int 1)))))) hW kE)
noncomputable def lY:bZ:=
  (gp 8 (ya (aY (cP 4) cL)))
noncomputable def lZ:bZ:=
  (yg 9 10 8 (ya (aY (cP 7) cL)) (cO cX (aY (dt jN (dt jN (de 0) (dt rL (dC (.int 11)) (de 6))) (dt rL (dC (.int 3)) (de 10))) (aY (dC (.int 9941)) (aY (dt qS (de 4) (de 10)) cL)))))
noncomputable def ma:bZ:=
  (sZ 5 (cO hJ (aY (dL (fj fy (aY (de 9) cL))) cL)))
noncomputable def hX:bZ:=
  (p6 (qB (dt qU (cO hJ (aY (dL (fj fy (aY (de 9) cL))) cL)) (de 5))) ma kE)
noncomputable def gG:bZ:=
  (ei lX
   (ei gw
   (ei lY
   (ei lZ
   (qz 9 hX)))))
noncomputable def kR:bZ:=
  (oH 6 (ya (aY (cO cX (aY (cP 0) (aY (dC (.int 9967)) (aY (dt jN (de 3) (dC (.int 1))) cL)))) cL)) gG)
noncomputable def kT:bZ:=
  (eQ (eE (aY (cP 4) (aY (cO hJ (aY (dL (fj fy (aY (de 5) cL))) cL)) cL))))
noncomputable def kn:bZ:=
  (ei lV
  (ei lW
  (ei kR
  kT)))
noncomputable def dw:cf:=gY 11 4 kn
noncomputable def mS:bZ:=
  (lu 4 (cO dw (aY (cP 0) (aY (cP 1) (aY (cP 2) (aY (cP 3) cL))))))
noncomputable def qE:bZ:=
  (eQ (eE (aY (cP 4) (aY (cO cX (aY (cP 0) (aY (dC (.int 9931)) (aY (dC (.int 2)) cL)))) (aY (dt jN (dC (.int 1)) (dt FE (cO cX (aY (cP 0) (aY (dC (.int 9929)) (aY (dC (.int 5)) cL)))) (dC (.int 3)))) (aY (dt jN (dC (.int 1)) (dt FE (cO cX (aY (cP 0) (aY (dC (.int 9923)) (aY (dC (.int 5)) cL)))) (dC (.int 3)))) cL))))))
noncomputable def lz:bZ:=
  (ei mS
  qE)
noncomputable def dE:cf:=gY 5 4 lz
end LW
namespace LW
open PySem DL
open L2 (kD rq)
noncomputable def jz (c p m:Int):Int:=c*48271%p%m
theorem kr {c p m:Int}(hm:0<m):0<=jz c p m:=Int.emod_nonneg _ (by omega)
theorem kx {c p m:Int}(hm:0<m):jz c p m<m:=Int.emod_lt_of_pos _ hm
theorem qF {c p m:Int}(hp:0<p) (hm:0<m):cX [.int c,.int p,.int m]=some (.int (jz c p m)):=by
 simp[cX,o8,r6,gY,eQ,dt,de,dC,rL,xn,Eh,FD,CI,hp,hm,jz]
theorem AU {j:Nat}{f:bZ}(P:Nat->dM->Prop):∀(ds:cu) (n:Nat) (δ:dM),P n δ->
  (∀i δ d,ds[i]? =some d->P (n+i) δ->∃δ',f (δ.set j (.dat d))=some (.next δ')/\P (n+i+1) δ')->∃δ',jo j f ds δ=some (.next δ')/\P (n+ds.length) δ'
 |[],n,δ,h0,_=>⟨δ,rfl,h0⟩
 |d::ds,n,δ,h0,st=>by
  obtain⟨δ1,e1,h1⟩:=st 0 δ d rfl h0;obtain⟨δ2,e2,h2⟩:=AU P ds (n+1) δ1 h1 (λi δ d hd hp=>by
   have:=st (i+1) δ d (by simpa using hd) (by rw[show n+(i+1)=n+1+i by omega];exact hp)
   rw[show n+(i+1)+1=n+1+i+1 by omega]at this
   exact this)
  refine⟨δ2,?_,by rw[show n+(d::ds).length=n+1+ds.length by simp;omega];exact h2⟩
  unfold jo;rw[e1];exact e2
theorem qY {α:Type}:∀(ls:List α) (i:Nat) (h:i<ls.length),(ls[i]::ls.eraseIdx i).Perm ls
 |a::l,0,_=>List.Perm.refl _
 |a::l,i+1,h=>by
  simp only[List.getElem_cons_succ,List.eraseIdx_cons_succ];exact(List.Perm.swap _ _ _).trans (List.Perm.cons _ (qY l i (by simpa using h)))
theorem zw {j m:Nat}{f:cb}{δ:dM}:∀(ds ls:cu),ds.length<=ls.length->
  (∀k d lc,ds[k]? =some d->lc.length+k=ls.length->∃i:Int,f ((δ.set m (.own lc)).set j (.dat d))=some (.int i)/\0<=i/\i<lc.length)->
  ∃xs rest,qr j m f δ ls ds=some (xs,rest)/\(xs++rest).Perm ls/\xs.length=ds.length
 |[],ls,_,_=>⟨[],ls,rfl,List.Perm.refl _,rfl⟩
 |d::ds,ls,hl,h=>by
  obtain⟨i,e,h0,h1⟩:=h 0 d ls rfl rfl;have hi:i.toNat<ls.length:=by omega
  have le:(ls.eraseIdx i.toNat).length=ls.length-1:=List.length_eraseIdx_of_lt hi;obtain⟨xs,rest,e2,p,l⟩:=zw ds (ls.eraseIdx i.toNat) (by simp at hl;omega) (λk d lc hd hk=>h (k+1) d lc (by simpa using hd) (by omega))
  refine⟨ls[i.toNat]::xs,rest,?_,?_,by simp[l]⟩
  ·unfold qr;rw[e];simp only[if_pos h0,ah hi,e2,bA]
  ·rw[List.cons_append];refine(List.Perm.cons _ p).trans ?_;exact qY _ _ hi
theorem hZ:∀(n:Nat) (lo x:Int),x∈dF lo n↔lo<=x/\x<lo+n
 |0,lo,x=>by simp only[dF,bH,false_iff];omega
 |n+1,lo,x=>by
  simp only[dF,List.mem_cons,hZ n (lo+1) x];omega
theorem ie:∀(n:Nat) (lo:Int),(dF lo n).Pairwise (·< ·)
 |0,_=>.nil
 |n+1,lo=>by
  simp only[dF,List.pairwise_cons];exact⟨λx hx=>by rw[hZ]at hx;omega,ie n (lo+1)⟩
end LW
namespace ST
open PySem SetTable
abbrev fm (l:List Nat):Prop:=l.Pairwise (·< ·)
theorem uY {l:List Nat}(h:fm l) {i k:Nat}(YC:i<k) (hk:k<l.length):l[i]'(by omega)<l[k]:=List.pairwise_iff_getElem.mp h i k (by omega) hk YC
theorem zx (xs:Array Nat) (j:Nat) (hr:fm xs.toList):∀(fuel lo hi:Nat),lo<=hi->hi<=xs.size->hi-lo<=fuel->(∀k (h:k<xs.size),k<lo->xs[k]<j)->(∀k (h:k<xs.size),hi<=k->j<=xs[k])->
  let r:=below.go xs j fuel lo hi
  r<=xs.size/\(∀k (h:k<xs.size),k<r->xs[k]<j)/\(∀k (h:k<xs.size),r<=k->j<=xs[k])
 |0,lo,hi,h1,h2,h3,h4,h5=>by
  have e:lo=hi:=by omega
  subst e;exact⟨h2,h4,h5⟩
 |fuel+1,lo,hi,h1,h2,h3,h4,h5=>by
  unfold below.go;by_cases eY:lo<hi
  ·simp only[if_pos eY];have RJ:(lo+hi)/2<xs.size:=by omega
   have hg:xs.getD ((lo+hi)/2) j=xs[(lo+hi)/2]:=by simp[RJ]
   rw[hg];by_cases hc:xs[(lo+hi)/2]<j
   ·rw[if_pos hc];refine zx xs j hr fuel ((lo+hi)/2+1) hi (by omega) h2 (by omega) (λk hk YD=>?_) h5
    by_cases UH:k=(lo+hi)/2
    ·subst UH;exact hc
    ·have:=uY hr (i:=k) (k:=(lo+hi)/2) (by omega) (by simpa using RJ)
     simp only[Array.getElem_toList]at this;omega
   ·rw[if_neg hc];refine zx xs j hr fuel lo ((lo+hi)/2) (by omega) (by omega) (by omega) h4 (λk hk YD=>?_)
    by_cases UH:k=(lo+hi)/2
    ·subst UH;omega
    ·have:=uY hr (i:=(lo+hi)/2) (k:=k) (by omega) (by simpa using hk)
     simp only[Array.getElem_toList]at this;omega
  ·simp only[if_neg eY];have e:lo=hi:=by omega
   subst e;exact⟨h2,h4,h5⟩
theorem nS (xs:Array Nat) (j:Nat) (hr:fm xs.toList):below xs j<=xs.size/\(∀k (h:k<xs.size),k<below xs j->xs[k]<j)/\(∀k (h:k<xs.size),below xs j<=k->j<=xs[k]):=
 zx xs j hr xs.size 0 xs.size (bL _) (au _) (by omega) (λk h hk=>by omega) (λk h hk=>by omega)
theorem Iy {xs:Array Nat}{j i:Nat}(hr:fm xs.toList) (h:xs[i]? =some j):below xs j=i:=by
 obtain⟨h1,h2,h3⟩:=nS xs j hr;obtain⟨hi,hv⟩:=Array.getElem?_eq_some_iff.mp h;by_cases eY:i<below xs j
 ·have:=h2 i hi eY;omega
 ·by_cases Mw:below xs j<i
  ·have hb:below xs j<xs.size:=by omega
   have:=uY hr (i:=below xs j) (k:=i) Mw (by simpa using hi)
   simp only[Array.getElem_toList]at this;have:=h3 (below xs j) hb (au _);omega
  ·omega
structure Tb (t:cC):Prop where
 rise:fm t.place.toList
 Qc:t.dummies=#[]
theorem ni {t:cC}(h:Tb t) {j i:Nat}(hi:t.place[i]? =some j):t.slot j=.live i:=by
 unfold slot;rw[Iy h.rise hi];simp[hi]
theorem vU {t:cC}(h:Tb t) {j:Nat}(hj:j∉t.place.toList):t.slot j=.empty:=by
 unfold slot;have h1:¬ (t.place[below t.place j]? ==some j)=true:=λz=>hj (by
  have z':t.place[below t.place j]? =some j:=by simpa using z
  exact Array.mem_toList_iff.mpr (Array.mem_of_getElem? z'))
 have h2:has t.dummies j=false:=by rw[h.Qc];rfl
 simp only[if_neg h1,h2];rfl
theorem qZ {t:cC}(h:Tb t) (j:Nat):(∃i,t.slot j=.live i/\t.place[i]? =some j)\/(t.slot j=.empty/\j∉t.place.toList):=by
 by_cases hj:j∈t.place.toList
 ·obtain⟨i,hi⟩:=bp hj;have xf:t.place[i]? =some j:=by simpa using hi
  exact .inl ⟨i,ni h xf,xf⟩
 ·exact .inr ⟨vU h hj,hj⟩
end ST
namespace ST
open PySem SetTable
noncomputable def it {α:Type}(f:α->α):Nat->α->α
 |0,a=>a
 |n+1,a=>it f n (f a)
theorem rf {α:Type}(f:α->α):∀(m n:Nat) (a:α),it f (m+n) a=it f n (it f m a)
 |0,n,a=>by rw[Nat.zero_add];rfl
 |m+1,n,a=>by rw[show m+1+n=(m+n)+1 by omega];exact rf f m n (f a)
theorem nT {α:Type}(f:α->α) (n:Nat) (a:α):it f (n+1) a=f (it f n a):=rf f n 1 a
noncomputable def lp (mask i pt:Nat):Nat:=(i*5+1+pt/32)%(mask+1)
noncomputable def fR (mask:Nat) (p:Probe):Probe:={p with j:=lp mask p.i p.perturb,more:=runEnd mask (lp mask p.i p.perturb)-lp mask p.i p.perturb,i:=lp mask p.i p.perturb,perturb:=p.perturb/32}
noncomputable def iB (mask:Nat) (p:Probe):Probe:=if p.more>0 then {p with j:=p.j+1,more:=p.more-1}else fR mask p
theorem Iz (t:cC) (p:Probe):t.advance p=iB t.mask p:=by
 unfold SetTable.advance iB;split<;>rfl
theorem OY (mask i:Nat):runEnd mask i-i<=9:=by unfold runEnd;split<;>omega
theorem vV (mask:Nat):∀(k:Nat) (p:Probe),k<=p.more->it (iB mask) k p={p with j:=p.j+k,more:=p.more-k}
 |0,p,_=>rfl
 |k+1,p,h=>by
  show it (iB mask) k (iB mask p)=_;have e:iB mask p={p with j:=p.j+1,more:=p.more-1}:=by unfold iB;rw[if_pos (by omega)]
  rw[e,vV mask k _ (by show k<=p.more-1;omega)]
  show({p with j:=p.j+1+k,more:=p.more-1-k}:Probe)={p with j:=p.j+(k+1),more:=p.more-(k+1)}
  rw[show p.j+1+k=p.j+(k+1) by omega,show p.more-1-k=p.more-(k+1) by omega]
theorem ug (mask:Nat) (p:Probe):it (iB mask) (p.more+1) p=fR mask p:=by
 rw[nT,vV mask p.more p (au _)];unfold iB;rw[if_neg (by show ¬ p.more-p.more>0;omega)]
 rfl
theorem blocks (mask:Nat):∀(n:Nat) (p:Probe),p.more<=9->∃k,k<=10*n/\it (iB mask) k p=it (fR mask) n p
 |0,p,_=>⟨0,au _,rfl⟩
 |n+1,p,h=>by
  obtain⟨k,h1,h2⟩:=blocks mask n (fR mask p) (OY mask _);refine⟨p.more+1+k,by omega,?_⟩
  rw[rf,ug];exact h2
theorem Dh (mask:Nat):∀(n:Nat) (p:Probe),(it (fR mask) n p).perturb=p.perturb/32^n
 |0,p=>by show p.perturb=_;rw[Nat.pow_zero,Nat.div_one]
 |n+1,p=>by
  show(it (fR mask) n (fR mask p)).perturb=_;rw[Dh mask n];show p.perturb/32/32^n=_;rw[Nat.div_div_eq_div_mul,Nat.pow_succ,Nat.mul_comm]
noncomputable def Lq (mask i:Nat):Nat:=(i*5+1)%(mask+1)
theorem IA (mask:Nat):∀(n:Nat) (p:Probe),p.perturb/32=0->(it (fR mask) n p).i=it (Lq mask) n p.i
 |0,p,_=>rfl
 |n+1,p,h=>by
  show(it (fR mask) n (fR mask p)).i=it (Lq mask) n (Lq mask p.i);rw[IA mask n _ (by show p.perturb/32/32=0;rw[h])]
  congr 1
  show lp mask p.i p.perturb=Lq mask p.i;unfold lp Lq;rw[h,Nat.add_zero]
theorem RK:∀i:Fin 8,∀e:Fin 8,∃m:Fin 8,it (Lq 7) m.val i.val=e.val:=by decide +kernel
theorem MK:∀i:Fin 32,∀e:Fin 32,∃m:Fin 32,it (Lq 31) m.val i.val=e.val:=by decide +kernel
theorem reach {mask:Nat}(hm:mask=7\/mask=31) {p:Probe}(h9:p.more<=9) (hp:p.perturb<2^64) {e:Nat}(he:e<=mask):∃k,k<10*turns mask/\(it (iB mask) k p).j=e:=by
 have key:∃m,m<=mask/\it (Lq mask) m (it (fR mask) 12 p).i=e:=by
  have hi:(it (fR mask) 12 p).i<=mask:=by
   rw[nT];show lp mask _ _<=mask;unfold lp;have:=Nat.mod_lt ((it (fR mask) 11 p).i*5+1+(it (fR mask) 11 p).perturb/32) (show 0<mask+1 by omega)
   omega
  rcases hm with rfl|rfl
  ·obtain⟨m,hm⟩:=RK ⟨(it (fR 7) 12 p).i,by omega⟩ ⟨e,by omega⟩
   exact⟨m.val,by omega,hm⟩
  ·obtain⟨m,hm⟩:=MK ⟨(it (fR 31) 12 p).i,by omega⟩ ⟨e,by omega⟩
   exact⟨m.val,by omega,hm⟩
 obtain⟨m,h1,h2⟩:=key;obtain⟨k,h3,h4⟩:=blocks mask (12+m) p h9;refine⟨k,by unfold turns;omega,?_⟩
 rw[h4,rf];have h0:(it (fR mask) 12 p).perturb/32=0:=by
  rw[Dh,Nat.div_div_eq_div_mul];apply Nat.div_eq_of_lt
  exact aw hp (by decide)
 have hj:∀(n:Nat) (q:Probe),q.j=q.i->(it (fR mask) n q).j=(it (fR mask) n q).i:=λn=>by
  cases n with
  |zero=>exact λq h=>h
  |succ n=>intro q _;rw[nT];rfl
 rw[hj m _ (by rw[nT];rfl),IA mask m _ h0,h2]
end ST
namespace ST
open PySem SetTable
structure Pb (p:Probe):Prop where
 nine:p.more<=9
 IB:p.perturb<2^64
 dm:p.dummy=none
theorem Pb.iB {mask:Nat}{p:Probe}(h:Pb p):Pb (iB mask p):=by
 unfold ST.iB;split
 ·exact⟨by show p.more-1<=9;have:=h.nine;omega,h.IB,h.dm⟩
 ·exact⟨OY mask _,Nat.lt_of_le_of_lt (Nat.div_le_self _ _) h.IB,h.dm⟩
theorem Eu (h:Int):bits h<2^64:=by
 unfold bits;have h1:=Int.emod_lt_of_pos h (show(0:Int)<2^64 by decide)
 have h2:=Int.emod_nonneg h (show(2^64:Int)≠0 by decide)
 omega
theorem IC (t:cC) (h:Int):Pb (t.probeStart h):=⟨OY _ _,Eu h,rfl⟩
theorem Di {t:cC}(ht:Tb t) {ha:Nat->Int}{h:Int}:∀(fuel:Nat) (p:Probe),Pb p->(∃k,k<fuel/\t.slot (it (iB t.mask) k p).j=.empty)->
  ∃k,(∀m,m<k->∃i,t.slot (it (iB t.mask) m p).j=.live i/\ha i≠h)/\
   ((t.slot (it (iB t.mask) k p).j=.empty/\probe.go t ha h fuel p=some (.empty (it (iB t.mask) k p).j none))\/
    ∃i,t.slot (it (iB t.mask) k p).j=.live i/\ha i=h/\probe.go t ha h fuel p=some (.candidate (it (iB t.mask) k p).j i (it (iB t.mask) (k+1) p)))
 |0,p,_,⟨k,hk,_⟩=>by omega
 |fuel+1,p,hp,⟨k,hk,he⟩=>by
  rcases qZ ht p.j with⟨i,hs,_⟩|⟨hs,_⟩
  ·by_cases hh:ha i=h
   ·refine⟨0,λm hm=>by omega,.inr ⟨i,hs,hh,?_⟩⟩
    unfold probe.go;rw[hs];show(if(ha i==h)=true then _ else _)=_
    rw[if_pos (beq_iff_eq.mpr hh),Iz];rfl
   ·have e:probe.go t ha h (fuel+1) p=probe.go t ha h fuel (iB t.mask p):=by
     conv=>lhs;unfold probe.go
     rw[hs];show(if(ha i==h)=true then _ else _)=_
     rw[if_neg (λz=>hh (beq_iff_eq.mp z)),Iz]
    have Tc:k≠0:=λz=>by
     subst z;have Td:t.slot p.j=.empty:=he;rw[hs]at Td;cases Td
    obtain⟨k',rfl⟩:∃k',k=k'+1:=⟨k-1,by omega⟩
    obtain⟨k2,h1,h2⟩:=Di ht fuel (iB t.mask p) hp.iB ⟨k',by omega,he⟩
    refine⟨k2+1,λm hm=>?_,?_⟩
    ·cases m with
     |zero=>exact⟨i,hs,hh⟩
     |succ m=>exact h1 m (by omega)
    ·rw[e];exact h2
  ·refine⟨0,λm hm=>by omega,.inl ⟨hs,?_⟩⟩
   unfold probe.go;rw[hs];show some (Met.empty p.j p.dummy)=_;rw[hp.dm];rfl
structure Wt (t:cC) (hs:cn):Prop where
 tb:Tb t
 mask:t.mask=7\/t.mask=31
 len:t.place.size=hs.length
 le:∀j∈t.place.toList,j<=t.mask
 room:t.place.size<t.mask+1
 way:∀(i:Nat) (h:Int),hs[i]? =some h->∃k,t.place[i]? =some (it (iB t.mask) k (t.probeStart h)).j/\∀m,m<k->(it (iB t.mask) m (t.probeStart h)).j∈t.place.toList
theorem FY {n:Nat}:∀{l:List Nat},fm l->(∀j∈l,j<=n)->l.length<n+1->∃e,e<=n/\e∉l:=by
 intro l hr hle hlen;by_cases h:∀e,e<=n->e∈l
 ·exfalso;have:=bW (l₁:=List.range (n+1)) (l₂:=l) List.nodup_range λe he=>h e (by have:=List.mem_range.mp he;omega)
  rw[List.length_range]at this;omega
 ·simp only[Classical.not_forall]at h;obtain⟨e,he,hn⟩:=h;exact⟨e,he,hn⟩
end ST
namespace ST
open PySem SetTable
noncomputable def ins {α:Type}(l:List α) (p:Nat) (x:α):List α:=l.take p++x::l.drop p
theorem mT {α:Type}(xs:Array α) (p:Nat) (x:α):(insertAt xs p x).toList=ins xs.toList p x:=by
 unfold insertAt ins;simp[Array.toList_append,Array.toList_push,Array.toList_extract,List.extract_eq_drop_take];exact List.take_of_length_le (by simp)
theorem mB {α:Type}{l:List α}{p:Nat}{x:α}(hp:p<=l.length) (i:Nat):(ins l p x)[i]? =if i<p then l[i]? else if i=p then some x else l[i-1]? :=by
 unfold ins;have hl:(l.take p).length=p:=by rw[bJ];omega
 by_cases h:i<p
 ·rw[if_pos h,aJ (by omega),List.getElem?_take,if_pos h]
 ·rw[if_neg h,aP (by omega),hl]
  by_cases h2:i=p
  ·rw[if_pos h2,h2,Nat.sub_self];rfl
  ·rw[if_neg h2];obtain⟨d,hd⟩:∃d,i-p=d+1:=⟨i-p-1,by omega⟩
   rw[hd,aK,List.getElem?_drop]
   congr 1
   omega
theorem uZ {α:Type}{l:List α}{p:Nat}{x y:α}:y∈ins l p x↔y=x\/y∈l:=by
 unfold ins;rw[List.mem_append,List.mem_cons];have:y∈l↔y∈l.take p\/y∈l.drop p:=by rw[<-List.mem_append,List.take_append_drop]
 rw[this];constructor
 ·rintro(h|h|h)
  ·exact .inr (.inl h)
  ·exact .inl h
  ·exact .inr (.inr h)
 ·rintro(h|h|h)
  ·exact .inr (.inl h)
  ·exact .inl h
  ·exact .inr (.inr h)
theorem jX {α:Type}{l:List α}{p:Nat}{x:α}(hp:p<=l.length):(ins l p x).length=l.length+1:=by
 unfold ins;simp only[aQ,bJ,ax,List.length_drop];omega
theorem ins_map {α β:Type}(f:α->β) (l:List α) (p:Nat) (x:α):(ins l p x).map f=ins (l.map f) p (f x):=by
 unfold ins;simp[List.map_take,List.map_drop]
theorem ID {xs:Array Nat}{j:Nat}(hr:fm xs.toList) (hj:j∉xs.toList):fm (ins xs.toList (below xs j) j):=by
 obtain⟨h1,h2,h3⟩:=nS xs j hr;unfold ins;refine List.pairwise_append.mpr ⟨List.Pairwise.sublist (List.take_sublist _ _) hr,List.pairwise_cons.mpr ⟨λy hy=>?_,List.Pairwise.sublist (List.drop_sublist _ _) hr⟩,λa ha b hb=>?_⟩
 ·obtain⟨i,hi⟩:=bp hy;rw[List.getElem?_drop]at hi;have eY:below xs j+i<xs.size:=by have:=(List.getElem?_eq_some_iff.mp hi).1;simpa using this
  have uF:=h3 (below xs j+i) eY (by omega)
  have e:xs[below xs j+i]=y:=by have:=(List.getElem?_eq_some_iff.mp hi).2;simpa using this
  have jr:y≠j:=λz=>hj (z▸List.mem_of_mem_drop hy)
  omega
 ·have UI:a<j:=by
   obtain⟨i,hi⟩:=bp ha;rw[List.getElem?_take]at hi;split at hi
   ·rename_i eY;have hl:i<xs.size:=by have:=(List.getElem?_eq_some_iff.mp hi).1;simpa using this
    have e:xs[i]=a:=by have:=(List.getElem?_eq_some_iff.mp hi).2;simpa using this
    have:=h2 i hl eY;omega
   ·cases hi
  have Hl:j<=b:=by
   rcases List.mem_cons.mp hb with rfl|hb
   ·exact au _
   ·obtain⟨i,hi⟩:=bp hb;rw[List.getElem?_drop]at hi;have eY:below xs j+i<xs.size:=by have:=(List.getElem?_eq_some_iff.mp hi).1;simpa using this
    have:=h3 (below xs j+i) eY (by omega)
    have e:xs[below xs j+i]=b:=by have:=(List.getElem?_eq_some_iff.mp hi).2;simpa using this
    omega
  omega
structure Pm (mask:Nat) (p:Probe):Prop where
 pb:Pb p
 le:p.j+p.more<=mask
theorem IE {mask i:Nat}(h:i<=mask):i+(runEnd mask i-i)<=mask:=by unfold runEnd;split<;>omega
theorem Pm.iB {mask:Nat}{p:Probe}(h:Pm mask p):Pm mask (iB mask p):=by
 refine⟨h.pb.iB,?_⟩;unfold ST.iB;have:=h.le;split
 ·show p.j+1+(p.more-1)<=mask;omega
 ·show lp mask p.i p.perturb+(runEnd mask (lp mask p.i p.perturb)-lp mask p.i p.perturb)<=mask;exact IE (by unfold lp;have:=Nat.mod_lt (p.i*5+1+p.perturb/32) (show 0<mask+1 by omega);omega)
theorem Pm.it {mask:Nat}:∀(k:Nat) {p:Probe},Pm mask p->Pm mask (it (ST.iB mask) k p)
 |0,_,h=>h
 |k+1,_,h=>Pm.it k h.iB
theorem o9 (t:cC) (h:Int):Pm t.mask (t.probeStart h):=
 ⟨IC t h,IE (by have:=Nat.mod_lt (bits h) (show 0<t.mask+1 by omega);show bits h%(t.mask+1)<=t.mask;omega)⟩
theorem Wt.put {t:cC}{hs:cn}(w:Wt t hs) {h:Int}{k:Nat}(he:(it (iB t.mask) k (t.probeStart h)).j∉t.place.toList) (hb:∀m,m<k->(it (iB t.mask) m (t.probeStart h)).j∈t.place.toList) (hV:t.place.size+1<t.mask+1):
  Wt (t.put (it (iB t.mask) k (t.probeStart h)).j).1 (ins hs (t.put (it (iB t.mask) k (t.probeStart h)).j).2 h)/\(t.put (it (iB t.mask) k (t.probeStart h)).j).2<=hs.length/\(t.put (it (iB t.mask) k (t.probeStart h)).j).1.mask=t.mask/\(t.put (it (iB t.mask) k (t.probeStart h)).j).1.place.size=t.place.size+1:=by
 generalize hj:(it (iB t.mask) k (t.probeStart h)).j=j at he ⊢;have UJ:j<=t.mask:=by rw[<-hj];have:=(Pm.it k (o9 t h)).le;omega
 obtain⟨b1,_,_⟩:=nS t.place j w.tb.rise;have hd:has t.dummies j=false:=by rw[w.tb.Qc];rfl
 have e1:(t.put j).1.place.toList=ins t.place.toList (below t.place j) j:=mT _ _ _;have e2:(t.put j).2=below t.place j:=rfl;have e3:(t.put j).1.mask=t.mask:=rfl;have e4:∀h',(t.put j).1.probeStart h'=t.probeStart h':=λh'=>rfl
 have e5:(t.put j).1.dummies=#[]:=by show(if has t.dummies j=true then _ else t.dummies)=_;rw[hd];exact w.tb.Qc
 have Wr:below t.place j<=t.place.toList.length:=by simpa using b1
 have hsz:(t.put j).1.place.size=t.place.size+1:=by
  have:=congrArg List.length e1;rw[jX Wr]at this
  simpa using this
 have UK:below t.place j<=hs.length:=by rw[<-w.len];exact b1
 refine⟨⟨⟨by rw[e1];exact ID w.tb.rise he,e5⟩,by rw[e3];exact w.mask,?_,?_,by rw[e3,hsz];exact hV,?_⟩,by rw[e2];exact UK,e3,hsz⟩
 ·rw[hsz,e2,jX UK,w.len]
 ·intro y hy;rw[e1]at hy;rw[e3];rcases uZ.mp hy with rfl|hy
  ·exact UJ
  ·exact w.le y hy
 ·intro i h' hi;rw[e3,e4,e1];have hp:(t.put j).1.place[i]? =(ins t.place.toList (below t.place j) j)[i]? :=by rw[<-e1];simp
  rw[hp,mB Wr];rw[e2,mB UK]at hi;by_cases c1:i<below t.place j
  ·rw[if_pos c1]at hi ⊢;obtain⟨k',h1,h2⟩:=w.way i h' hi;exact⟨k',by simpa using h1,λm hm=>uZ.mpr (.inr (h2 m hm))⟩
  ·rw[if_neg c1]at hi ⊢;by_cases c2:i=below t.place j
   ·rw[if_pos c2]at hi ⊢;cases hi;exact⟨k,by rw[hj],λm hm=>uZ.mpr (.inr (hb m hm))⟩
   ·rw[if_neg c2]at hi ⊢;obtain⟨k',h1,h2⟩:=w.way (i-1) h' hi;exact⟨k',by simpa using h1,λm hm=>uZ.mpr (.inr (h2 m hm))⟩
theorem AV (led:Bool):Wt (fresh 0 0 led) []:=
 ⟨⟨List.Pairwise.nil,rfl⟩,.inl rfl,rfl,(λj hj=>by cases hj),(by show 0<8;decide),(λi h hi=>by cases hi)⟩
end ST
namespace ST
open PySem SetTable
noncomputable def fr (owner:Array (Option Nat)) (j:Nat):Bool:=(owner.getD j (some 0)).isNone
noncomputable def FZ (mask i pt:Nat):Probe:={j:=i,more:=runEnd mask i-i,i:=i,perturb:=pt,dummy:=none}
theorem Ga (mask i pt:Nat):fR mask (FZ mask i pt)=FZ mask (lp mask i pt) (pt/32):=rfl
theorem OZ (mask i:Nat):i<=runEnd mask i:=by unfold runEnd;split<;>omega
theorem yk (mask:Nat) (owner:Array (Option Nat)):∀(fuel i pt:Nat),(∃n,n<fuel/\fr owner (it (fR mask) n (FZ mask i pt)).j=true)->
  ∃k,layClean.free mask owner fuel i pt=some (it (iB mask) k (FZ mask i pt)).j/\fr owner (it (iB mask) k (FZ mask i pt)).j=true/\∀m,m<k->fr owner (it (iB mask) m (FZ mask i pt)).j=false
 |0,i,pt,⟨n,hn,_⟩=>by omega
 |fuel+1,i,pt,⟨n,hn,hf⟩=>by
  unfold layClean.free;have uF:=OZ mask i;have Te:∀k,k<=runEnd mask i-i->(it (iB mask) k (FZ mask i pt)).j=i+k:=λk hk=>by rw[vV mask k _ hk];rfl
  cases ML:(List.range (runEnd mask i+1-i)).find? λk=>(owner.getD (i+k) (some 0)).isNone with
  |some k=>
   obtain⟨h1,h2,h3⟩:=List.find?_range_eq_some.mp ML;have hk:k<=runEnd mask i-i:=by have:=List.mem_range.mp h2;omega
   refine⟨k,by rw[Te k hk],by rw[Te k hk];exact h1,λm hm=>?_⟩
   rw[Te m (by omega)]
   have:=h3 m hm;unfold fr;cases hx:(owner.getD (i+m) (some 0)).isNone with
   |false=>rfl
   |true=>rw[hx]at this;exact absurd this (by simp)
  |none=>
   have vo:∀k,k<=runEnd mask i-i->fr owner (i+k)=false:=λk hk=>by
    have:=List.find?_eq_none.mp ML k (List.mem_range.mpr (by omega))
    unfold fr;cases hx:(owner.getD (i+k) (some 0)).isNone with
    |false=>rfl
    |true=>rw[hx]at this;exact absurd rfl this
   have hn0:n≠0:=λz=>by
    subst z;have h0:fr owner i=true:=hf;rw[show i=i+0 from rfl,vo 0 (bL _)]at h0
    cases h0
   obtain⟨n',rfl⟩:∃n',n=n'+1:=⟨n-1,by omega⟩
   obtain⟨k,e1,e2,e3⟩:=yk mask owner fuel (lp mask i pt) (pt/32) ⟨n',by omega,hf⟩
   have kO:∀m,it (iB mask) (runEnd mask i-i+1+m) (FZ mask i pt)=it (iB mask) m (FZ mask (lp mask i pt) (pt/32)):=λm=>by
    rw[rf];have:=ug mask (FZ mask i pt);rw[show(FZ mask i pt).more=runEnd mask i-i from rfl]at this
    rw[this,Ga]
   refine⟨runEnd mask i-i+1+k,?_,by rw[kO];exact e2,λm hm=>?_⟩
   ·rw[kO];exact e1
   ·by_cases oJ:m<=runEnd mask i-i
    ·rw[Te m oJ];exact vo m oJ
    ·obtain⟨m',rfl⟩:∃m',m=runEnd mask i-i+1+m':=⟨m-(runEnd mask i-i+1),by omega⟩
     rw[kO];exact e3 m' (by omega)
theorem O0 {mask:Nat}(hm:mask=7\/mask=31) {p:Probe}(hp:p.perturb<2^64) {e:Nat}(he:e<=mask):∃n,n<turns mask/\(it (fR mask) n p).j=e:=by
 have key:∃m,m<=mask/\it (Lq mask) m (it (fR mask) 12 p).i=e:=by
  have hi:(it (fR mask) 12 p).i<=mask:=by
   rw[nT];show lp mask _ _<=mask;unfold lp;have:=Nat.mod_lt ((it (fR mask) 11 p).i*5+1+(it (fR mask) 11 p).perturb/32) (show 0<mask+1 by omega)
   omega
  rcases hm with rfl|rfl
  ·obtain⟨m,hm⟩:=RK ⟨(it (fR 7) 12 p).i,by omega⟩ ⟨e,by omega⟩
   exact⟨m.val,by omega,hm⟩
  ·obtain⟨m,hm⟩:=MK ⟨(it (fR 31) 12 p).i,by omega⟩ ⟨e,by omega⟩
   exact⟨m.val,by omega,hm⟩
 obtain⟨m,h1,h2⟩:=key;refine⟨12+m,by unfold turns;omega,?_⟩
 rw[rf];have h0:(it (fR mask) 12 p).perturb/32=0:=by
  rw[Dh,Nat.div_div_eq_div_mul];apply Nat.div_eq_of_lt
  exact aw hp (by decide)
 have hj:∀(n:Nat) (q:Probe),q.j=q.i->(it (fR mask) n q).j=(it (fR mask) n q).i:=λn=>by
  cases n with
  |zero=>exact λq h=>h
  |succ n=>intro q _;rw[nT];rfl
 rw[hj m _ (by rw[nT];rfl),IA mask m _ h0,h2]
noncomputable def way (mask:Nat) (h:Int) (k:Nat):Nat:=(it (iB mask) k (FZ mask (bits h%(mask+1)) (bits h))).j
structure Ow (mask:Nat) (owner:Array (Option Nat)) (hs:cn):Prop where
 size:owner.size=mask+1
 of:∀(j k:Nat),owner[j]? =some (some k)->∃h q,hs[k]? =some h/\j=way mask h q/\∀m,m<q->fr owner (way mask h m)=false
 has:∀k:Nat,k<hs.length->∃j:Nat,owner[j]? =some (some k)
 one:∀(j j' k:Nat),owner[j]? =some (some k)->owner[j']? =some (some k)->j=j'
theorem IF (mask:Nat) (h:Int) (k:Nat):way mask h k<=mask:=by
 have:=(Pm.it k (o9 {fresh 0 0 true with mask:=mask} h)).le
 exact aB (Nat.le_add_right _ _) this
theorem IG {owner:Array (Option Nat)}{j:Nat}(h:j<owner.size):fr owner j=true↔owner[j]? =some none:=by
 unfold fr;rw[aU h,show owner.getD j (some 0)=owner[j] by simp[h]]
 cases owner[j]<;>simp
theorem Ow.room {mask:Nat}{owner:Array (Option Nat)}{hs:cn}(o:Ow mask owner hs) (hl:hs.length<mask+1):∃e,e<=mask/\fr owner e=true:=by
 by_cases h:∀e,e<=mask->fr owner e=false
 ·exfalso;have own:∀e,e<=mask->∃k,owner[e]? =some (some k):=λe he=>by
   have eY:e<owner.size:=by rw[o.size];omega
   cases hx:owner[e]with
   |none=>
    have:=(IG eY).mpr (by rw[aU eY,hx])
    rw[h e he]at this;cases this
   |some k=>exact⟨k,by rw[aU eY,hx]⟩
  let f:Nat->Nat:=λe=>match owner[e]? with|some (some k)=>k|_=>0
  have hf:∀e,e<=mask->owner[e]? =some (some (f e)):=λe he=>by
   obtain⟨k,hk⟩:=own e he;show owner[e]? =some (some (match owner[e]? with|some (some k)=>k|_=>0))
   rw[hk]
  have nd:((List.range (mask+1)).map f).Nodup:=by
   refine List.pairwise_map.mpr (List.Pairwise.imp_of_mem (λ{a b} ha hb Ek z=>?_) List.pairwise_lt_range)
   have UI:=hf a (by have:=List.mem_range.mp ha;omega)
   have Hl:=hf b (by have:=List.mem_range.mp hb;omega)
   rw[<-z]at Hl;exact absurd (o.one a b _ UI Hl) (by omega)
  have:=bW (l₂:=List.range hs.length) nd λk hk=>by
   obtain⟨e,he,rfl⟩:=List.mem_map.mp hk;obtain⟨h',q,h1,_⟩:=o.of e _ (hf e (by have:=List.mem_range.mp he;omega))
   exact List.mem_range.mpr (List.getElem?_eq_some_iff.mp h1).1
  rw[ae,List.length_range,List.length_range]at this;omega
 ·simp only[Classical.not_forall]at h;obtain⟨e,he,hn⟩:=h;exact⟨e,he,by cases hx:fr owner e with|true=>rfl|false=>exact absurd hx hn⟩
theorem Ow.step {mask:Nat}{owner:Array (Option Nat)}{hs:cn}(hm:mask=7\/mask=31) (o:Ow mask owner hs) (hl:hs.length<mask+1) (h:Int):
  ∃j,layClean.free mask owner (turns mask) (bits h%(mask+1)) (bits h)=some j/\Ow mask (owner.setIfInBounds j (some hs.length)) (hs++[h]):=by
 obtain⟨e,he,Ov⟩:=o.room hl;obtain⟨n,hn,jr⟩:=O0 hm (p:=FZ mask (bits h%(mask+1)) (bits h)) (Eu h) he;obtain⟨q,e1,e2,e3⟩:=yk mask owner (turns mask) (bits h%(mask+1)) (bits h) ⟨n,hn,by rw[jr];exact Ov⟩
 have O1:way mask h q<owner.size:=by rw[o.size];have:=IF mask h q;omega
 have Hy:owner[way mask h q]? =some none:=(IG O1).mp e2;have get:∀j':Nat,(owner.setIfInBounds (way mask h q) (some hs.length))[j']? =if way mask h q=j' then some (some hs.length)else owner[j']? :=λj'=>by
  rw[Array.getElem?_setIfInBounds];by_cases hx:way mask h q=j'
  ·rw[if_pos hx,if_pos hx,if_pos (by first|exact O1|(rw[<-hx];exact O1))]
  ·rw[if_neg hx,if_neg hx]
 have Ws:∀j':Nat,fr owner j'=false->fr (owner.setIfInBounds (way mask h q) (some hs.length)) j'=false:=λj' hx=>by
  unfold fr at hx ⊢;rw[aT]at hx ⊢;rw[get j'];by_cases hy:way mask h q=j'
  ·rw[if_pos hy];rfl
  ·rw[if_neg hy];exact hx
 refine⟨way mask h q,e1,⟨by rw[Array.size_setIfInBounds];exact o.size,λj' k hk=>?_,λk hk=>?_,λj1 j2 k h1 h2=>?_⟩⟩
 ·rw[get j']at hk;by_cases hx:way mask h q=j'
  ·rw[if_pos hx]at hk;cases hk;exact⟨h,q,by simp,hx.symm,λm Qd=>Ws _ (e3 m Qd)⟩
  ·rw[if_neg hx]at hk;obtain⟨h',q',a1,a2,a3⟩:=o.of j' k hk;exact⟨h',q',by rw[aJ (List.getElem?_eq_some_iff.mp a1).1];exact a1,a2,λm Qd=>Ws _ (a3 m Qd)⟩
 ·rw[aQ,List.length_singleton]at hk;by_cases hx:k=hs.length
  ·exact⟨way mask h q,by rw[get,if_pos rfl,hx]⟩
  ·obtain⟨j',GU⟩:=o.has k (by omega)
   refine⟨j',?_⟩;rw[get,if_neg (λz=>by rw[<-z,Hy]at GU;cases GU)]
   exact GU
 ·rw[get]at h1 h2;have old:∀j':Nat,owner[j']? =some (some hs.length)->False:=λj' GU=>by
   obtain⟨h',q',a1,_⟩:=o.of j' _ GU;exact absurd (List.getElem?_eq_some_iff.mp a1).1 (by omega)
  by_cases x1:way mask h q=j1
  ·by_cases x2:way mask h q=j2
   ·rw[<-x1,<-x2]
   ·rw[if_pos x1]at h1;rw[if_neg x2]at h2;cases h1;exact(old j2 h2).elim
  ·by_cases x2:way mask h q=j2
   ·rw[if_neg x1]at h1;rw[if_pos x2]at h2;cases h2;exact(old j1 h1).elim
   ·rw[if_neg x1]at h1;rw[if_neg x2]at h2;exact o.one j1 j2 k h1 h2
theorem O2 (mask:Nat):Ow mask (Array.replicate (mask+1) none) []:=by
 have no:∀(j k:Nat),(Array.replicate (mask+1) (none:Option Nat))[j]? =some (some k)->False:=λj k h=>by
  rw[Array.getElem?_replicate]at h;split at h<;>cases h
 exact⟨by simp,λj k h=>(no j k h).elim,(λk h=>by cases h),λj j' k h _=>(no j k h).elim⟩
noncomputable def IH (mask:Nat) (acc:Option (Array (Option Nat)×Nat)) (h:Int):Option (Array (Option Nat)×Nat):=acc.bind λx=>(layClean.free mask x.1 (turns mask) (bits h%(mask+1)) (bits h)).bind λj=>some (x.1.setIfInBounds j (some x.2),x.2+1)
theorem AW {mask:Nat}(hm:mask=7\/mask=31):∀(rest dn:cn) (owner:Array (Option Nat)),Ow mask owner dn->(dn++rest).length<mask+2->∃zy,rest.foldl (IH mask) (some (owner,dn.length))=some (zy,(dn++rest).length)/\Ow mask zy (dn++rest)
 |[],dn,owner,o,_=>⟨owner,by rw[bB];rfl,by rw[bB];exact o⟩
 |h::rest,dn,owner,o,hl=>by
  rw[aQ,ax]at hl;obtain⟨j,e1,o1⟩:=o.step hm (by omega) h
  obtain⟨zy,e2,o2⟩:=AW hm rest (dn++[h]) _ o1 (by simp;omega)
  refine⟨zy,?_,by rw[show dn++h::rest=dn++[h]++rest by simp];exact o2⟩
  rw[show dn++h::rest=dn++[h]++rest by simp,<-e2]
  show rest.foldl (IH mask) (IH mask (some (owner,dn.length)) h)=_
  congr 1
  show(layClean.free mask owner (turns mask) (bits h%(mask+1)) (bits h)).bind _=_;rw[e1];simp
theorem AX {mask:Nat}(hm:mask=7\/mask=31) (hashes:Array Int) (hl:hashes.size<mask+2):∃owner,layClean mask hashes=some owner/\Ow mask owner hashes.toList:=by
 obtain⟨owner,e,o⟩:=AW hm hashes.toList [] _ (O2 mask) (by simpa using hl)
 refine⟨owner,?_,o⟩;have:layClean mask hashes=(hashes.toList.foldl (IH mask) (some (Array.replicate (mask+1) none,0))).map (·.1):=by
  unfold layClean;rw[<-Array.foldl_toList];rfl
 rw[this];have e':hashes.toList.foldl (IH mask) (some (Array.replicate (mask+1) none,0))=some (owner,([]++hashes.toList).length):=e;rw[e'];rfl
end ST
namespace ST
open PySem SetTable
noncomputable def live (mask:Nat) (owner:Array (Option Nat)):List (Nat×Nat):=(List.range (mask+1)).filterMap λj=>(owner.getD j none).map (j, ·)
theorem md {mask:Nat}{owner:Array (Option Nat)}{hs:cn}(o:Ow mask owner hs) {j k:Nat}:(j,k)∈live mask owner↔owner[j]? =some (some k):=by
 unfold live;rw[List.mem_filterMap];constructor
 ·rintro⟨j',GU,e⟩
  cases hg:owner.getD j' none with
  |none=>rw[hg]at e;cases e
  |some k'=>
   rw[hg]at e;have e':(j',k')=(j,k):=aS e;cases e';rw[aT]at hg;cases hx:owner[j]? with
   |none=>rw[hx]at hg;cases hg
   |some y=>rw[hx]at hg;rw[show y=some k from hg]
 ·intro h;have eY:j<owner.size:=(Array.getElem?_eq_some_iff.mp h).1;rw[o.size]at eY;refine⟨j,List.mem_range.mpr eY,?_⟩;rw[aT,h];rfl
theorem Dj (f:Nat->Option Nat):∀l:List Nat,(l.filterMap λj=>(f j).map (j, ·)).map (·.1)=l.filter λj=>(f j).isSome
 |[]=>rfl
 |a::l=>by
  rw[List.filterMap_cons,br];cases h:f a with
  |none=>simpa [h]using Dj f l
  |some k=>simpa [h]using Dj f l
theorem ym (mask:Nat) (owner:Array (Option Nat)):fm ((live mask owner).map (·.1)):=by
 unfold live;rw[Dj (λj=>owner.getD j none)]
 exact List.Pairwise.filter _ List.pairwise_lt_range
theorem vW {mask:Nat}{owner:Array (Option Nat)}{hs:cn}(o:Ow mask owner hs):((live mask owner).map (·.2)).Perm (List.range hs.length):=by
 have nd:((live mask owner).map (·.2)).Nodup:=by
  refine List.pairwise_map.mpr (List.Pairwise.imp_of_mem (λ{a b} ha hb Ek z=>?_) (List.pairwise_map.mp (ym mask owner)))
  obtain⟨a1,a2⟩:=a;obtain⟨b1,b2⟩:=b;have h1:=(md o).mp ha;have h2:=(md o).mp hb;have z':a2=b2:=z;rw[z']at h1;have e:=o.one a1 b1 b2 h1 h2;have YE:a1<b1:=Ek;omega
 refine(List.perm_ext_iff_of_nodup nd List.nodup_range).mpr λk=>?_
 rw[List.mem_map,List.mem_range];constructor
 ·rintro⟨⟨j,k'⟩,hm,rfl⟩
  obtain⟨h,q,h1,_⟩:=o.of j k' ((md o).mp hm);exact(List.getElem?_eq_some_iff.mp h1).1
 ·intro hk;obtain⟨j,hj⟩:=o.has k hk;exact⟨(j,k),(md o).mpr hj,rfl⟩
theorem Lr {mask:Nat}(hm:mask=7\/mask=31) (finger moves:Nat) (led plain:Bool) (hashes:Array Int) (hl:hashes.size<mask+1):
  ∃(t:cC) (order:List Nat),laid mask finger moves led plain hashes=some (t,order.toArray)/\order.Perm (List.range hashes.size)/\Wt t (order.map λk=>hashes.getD k 0)/\t.mask=mask/\t.led=led/\t.plain=plain/\t.moves=moves/\t.finger=finger:=by
 obtain⟨owner,e,o⟩:=AX hm hashes (by omega)
 refine⟨_,(live mask owner).map (·.2),by unfold laid;rw[e];rfl,by simpa using vW o,⟨⟨ym mask owner,rfl⟩,hm,?_,λj hj=>?_,?_,λi h hi=>?_⟩,rfl,rfl,rfl,rfl,rfl⟩
 ·show((live mask owner).map (·.1)).toArray.size=_
  rw[aq,ae,ae,ae]
 ·obtain⟨⟨j',k⟩,Am,rfl⟩:=List.mem_map.mp (show j∈(live mask owner).map (·.1)from hj)
  have:=(Array.getElem?_eq_some_iff.mp ((md o).mp Am)).1;rw[o.size]at this;show j'<=mask;omega
 ·have:=(vW o).length_eq;show((live mask owner).map (·.1)).toArray.size<mask+1
  rw[ae,List.length_range]at this;rw[aq,ae,this]
  simpa using hl
 ·rw[av,av]at hi;cases hx:(live mask owner)[i]? with
  |none=>rw[hx]at hi;cases hi
  |some y=>
   obtain⟨j,k⟩:=y;rw[hx]at hi;have hy:hashes.getD k 0=h:=aS hi;have II:=(md o).mp (bh hx);obtain⟨h',q,a1,a2,a3⟩:=o.of j k II;have hh:h'=h:=by
    rw[<-hy,aT];have YF:hashes[k]? =some h':=by simpa using a1
    rw[YF];rfl
   subst hh;refine⟨q,?_,λm Qd=>?_⟩
   ·show((live mask owner).map (·.1)).toArray[i]? =some (way mask h' q)
    rw[List.getElem?_toArray,av,hx,<-a2];rfl
   ·show way mask h' m∈(live mask owner).map (·.1)
    have eY:way mask h' m<owner.size:=by rw[o.size];have:=IF mask h' m;omega
    have:=a3 m Qd;cases hz:owner[way mask h' m]with
    |none=>
     have:=(IG eY).mpr (by rw[aU eY,hz])
     rw[a3 m Qd]at this;cases this
    |some k'=>
     exact List.mem_map.mpr ⟨(way mask h' m,k'),(md o).mpr (by rw[aU eY,hz]),rfl⟩
theorem range_all {α:Type}:∀l:List α,(List.range l.length).filterMap (l[·]?)=l
 |[]=>rfl
 |a::l=>by
  rw[ax,List.range_succ_eq_map,List.filterMap_cons];show a::((List.range l.length).map Nat.succ).filterMap ((a::l)[·]?)=_
  rw[List.filterMap_map]
  congr 1
  exact range_all l
theorem reorder {α:Type}{es:Array α}{order:List Nat}(hp:order.Perm (List.range es.size)):(order.toArray.filterMap (es[·]?)).toList.Perm es.toList/\∀(f:α->Int),(order.toArray.filterMap (es[·]?)).toList.map f=order.map λk=>(es.map f).getD k 0:=by
 have e1:(order.toArray.filterMap (es[·]?)).toList=order.filterMap (es[·]?):=by simp
 have e2:(List.range es.size).filterMap (es[·]?)=es.toList:=by
  have:=range_all es.toList
  simpa using this
 refine⟨by rw[e1,<-e2];exact hp.filterMap _,λf=>?_⟩
 rw[e1,List.map_filterMap];have jW:∀k∈order,k<es.size:=λk hk=>List.mem_range.mp (hp.mem_iff.mp hk)
 clear hp e1 e2;induction order with
 |nil=>rfl
 |cons a r ih=>
  have ha:=jW a af;rw[List.filterMap_cons,aE,<-ih λk hk=>jW k (ai _ hk)]
  simp[ha]
end ST
namespace ST
open PySem PySem.Spec PyProof.Rows DL SetTable
structure El (P:cw->Prop) (h:Heap) (e:Int×cw) (d:D):Prop where
 ki:KI h e.2 d
 hash:e.1=eI d
 dep:dU d<=4
 ref:∃b,e.2=.ref b
 src:P e.2
def Dk (P:cw->Prop) (h:Heap) (es:List (Int×cw)) (ds:cu):Prop:=es.length=ds.length/\∀(i:Nat) (e:Int×cw),es[i]? =some e->∃d,ds[i]? =some d/\El P h e d
section
variable {prog:cz}{w:cA}{A:cB}{E:cg}{s:cx}
theorem Ew (n:Nat):∀(A:cB) (s:cx) (v:cw) (d:D) (Q:Bool->cx->Prop),dU d<=n->KI s.heap v d->Q false s->wpAny (model prog w) A (ofAClassStatement n v) Q E s:=by
 induction n with
 |zero=>
  intro A s v d Q hn k h;cases k with
  |int i t=>unfold ofAClassStatement;exact aj h
  |tup h1 h2 h3 l=>unfold dU at hn;omega
 |succ n ih=>
  intro A s v d Q hn k h;cases k with
  |int i t=>unfold ofAClassStatement;exact aj h
  |@tup a o items m ds ho hc hd l=>
   have hT:s.TypeIs (.ref a) "tuple":=⟨o,ho,hc⟩;have xO:gZ ds<=n:=by unfold dU at hn;omega
   unfold ofAClassStatement;refine aa (wpAny_typeOf hT ?_);show wpAny _ _ (pure true>>=_) _ _ s;refine aa (aj ?_);simp only[bT,aH,bD];refine aa (wpAny_seqItems ho hd ?_);refine aa ?_;show wpAny _ _ (forIn items _ _) _ _ s;rw[<-Array.forIn_toList];refine wpAny_forIn_list _ (λrest r s'=>r.1=none/\s'=s/\∃es,(∀e∈es,dU e<=n)/\qW s.heap rest es) _ ?_ ?_ _ _ ⟨rfl,rfl,ds,λe he=>aB (jv he) xO,l⟩
   ·rintro v rest r s' ⟨hr,rfl,es,he,hk⟩
    cases hk with
    |cons k1 k2=>
     refine aa (ih A s' v _ _ (he _ af) k1 ?_);simp only[aH,bD];exact aj ⟨rfl,rfl,_,λe h=>he e (ai _ h),k2⟩
   ·rintro⟨r1,r2⟩ s' ⟨hr,rfl,_⟩
    simp only at hr;subst hr;exact aj h
theorem Lu {x:cw}{dx:D}(hx:KI s.heap x dx) (MJ:dU dx<=4) (stored:cv) (kO:∀y∈stored,∃d,KI s.heap y d/\dU d<=4) {Q:Bool->cx->Prop}(h:Q false s):wpAny (model prog w) A (searchCouldBeSeen x stored) Q E s:=by
 unfold searchCouldBeSeen;refine aa ?_;refine wpAny_forIn_list _ (λrest r s'=>r.1=none/\s'=s/\∀y∈rest,∃d,KI s.heap y d/\dU d<=4) _ ?_ ?_ _ _ ⟨rfl,rfl,kO⟩
 ·rintro y rest r s' ⟨hr,rfl,hk⟩
  obtain⟨d,kd,hd⟩:=hk y af;have MM:∀z∈rest,∃d,KI s'.heap z d/\dU d<=4:=λz hz=>hk z (ai _ hz)
  have key:∀(b:Bool) (R:ForInStep (Option Bool×Unit)->cx->Prop),R (.yield (none,())) s'->wpAny (model prog w) A (if(b||carriedByValue x&&carriedByValue y)=true then pure (ForInStep.yield (none,()))else do
    let q <-eqIsQuiet 8 x
    if(!q)=true then pure (ForInStep.done (some true,()))else do
     let q <-eqIsQuiet 8 y
     if(!q)=true then pure (ForInStep.done (some true,()))else do
      let q <-ofAClassStatement 8 x
      if q=true then pure (ForInStep.done (some true,()))else do
       let q <-ofAClassStatement 8 y
       if q=true then pure (ForInStep.done (some true,()))else pure (ForInStep.yield (none,()))) R E s':=λb R hR=>by
   split
   ·exact aj hR
   ·refine aa (KI.quiet 8 A s' x dx _ (by omega) hx ?_)
    simp only[bT,aH,bD];refine aa (KI.quiet 8 A s' y d _ (by omega) kd ?_)
    simp only[bT,aH,bD];refine aa (Ew 8 A s' x dx _ (by omega) hx ?_)
    simp only[aH,bD];refine aa (Ew 8 A s' y d _ (by omega) kd ?_)
    simp only[aH,bD];exact aj hR
  split
  ·exact key _ _ ⟨rfl,rfl,MM⟩
  ·exact key _ _ ⟨rfl,rfl,MM⟩
 ·rintro⟨r1,r2⟩ s' ⟨hr,rfl,_⟩
  simp only at hr;subst hr;exact aj h
end
end ST
namespace ST
open PySem PySem.Spec PyProof.Rows DL SetTable
section
variable {prog:cz}{w:cA}{A:cB}{E:cg}{s:cx}
theorem Wt.UL {t:cC}{hs:cn}(W:Wt t hs):t.gaveWay=false:=by
 unfold gaveWay;rcases W.mask with h|h<;>rw[h]<;>rfl
theorem Wt.emp {t:cC}{hs:cn}(W:Wt t hs):∃e,e<=t.mask/\t.slot e=.empty:=by
 obtain⟨e,h1,h2⟩:=FY (n:=t.mask) W.tb.rise W.le (by have:=W.room;simpa using this)
 exact⟨e,h1,vU W.tb h2⟩
theorem Gb {P:cw->Prop}{a xa:cD}{o:Obj}{es:Array (Int×cw)}{ep:Nat}{t:cC}{ds:cu}{dx:D}{Q:SetFound->cx->Prop}(ho:s.heap.get? a=some o) (hd:o.data=.set es ep t) (hf:t.fits es.size=true) (W:Wt t (es.toList.map (·.1)))
  (hE:Dk P s.heap es.toList ds) (hx:KI s.heap (.ref xa) dx) (MJ:dU dx<=4) (hu:A.units+8<cLine)
  (Wu:dx∈ds->Q (.there none) s) (S9:dx∉ds->∀k,(it (iB t.mask) k (t.probeStart (eI dx))).j∉t.place.toList->(∀m,m<k->(it (iB t.mask) m (t.probeStart (eI dx))).j∈t.place.toList)->Q (.free (it (iB t.mask) k (t.probeStart (eI dx))).j false) s):
  ∀(r fuel k0 K:Nat) (IJ:Option Probe),IJ.getD (t.probeStart (eI dx))=it (iB t.mask) k0 (t.probeStart (eI dx))->t.slot (it (iB t.mask) K (t.probeStart (eI dx))).j=.empty->k0<=K->K-k0<=r->r<fuel->
   (∀m,m<k0->∃i d,t.slot (it (iB t.mask) m (t.probeStart (eI dx))).j=.live i/\ds[i]? =some d/\d≠dx)->
   wpAny (model prog w) A (setSearchFrom a (.ref xa) (eI dx) true fuel IJ) Q E s:=by
 intro r;induction r using Nat.strongRecOn with
 |_ r ih=>
  intro fuel k0 K IJ kO hK hk hr RL RM;obtain⟨fuel,rfl⟩:∃f,fuel=f+1:=⟨fuel-1,by omega⟩
  unfold setSearchFrom;refine aa (wpAny_setState_of ho hd hf ?_);dsimp only;rw[W.UL];simp only[aH,bD];rw[kO];obtain⟨e0,RN,IK⟩:=W.emp;have u0:=Pm.it k0 (o9 t (eI dx));obtain⟨q,hq,YG⟩:=reach W.mask u0.pb.nine u0.pb.IB RN;obtain⟨k,Lv,Lw⟩:=Di W.tb (ha:=λi=>(es[i]?.map (·.1)).getD 0) (h:=eI dx) (10*turns t.mask) _ u0.pb ⟨q,hq,by rw[YG];exact IK⟩
  have YH:∀m,it (iB t.mask) m (it (iB t.mask) k0 (t.probeStart (eI dx)))=it (iB t.mask) (k0+m) (t.probeStart (eI dx)):=λm=>(rf _ _ _ _).symm
  simp only[YH]at Lv Lw;have entry:∀i j,t.slot j=.live i->∃e d,es[i]? =some e/\ds[i]? =some d/\El P s.heap e d/\t.place[i]? =some j:=λi j hj=>by
   rcases qZ W.tb j with⟨i',h1,h2⟩|⟨h1,_⟩
   ·rw[hj]at h1;cases h1;have eY:i<es.size:=by
     have:=(Array.getElem?_eq_some_iff.mp h2).1;have hl:=W.len;simp at hl;omega
    obtain⟨d,h3,h4⟩:=hE.2 i es[i] (by simp[eY])
    exact⟨es[i],d,by simp[eY],h3,h4,h2⟩
   ·rw[hj]at h1;cases h1
  have other:∀m,m<k->∃i d,t.slot (it (iB t.mask) (k0+m) (t.probeStart (eI dx))).j=.live i/\ds[i]? =some d/\d≠dx:=λm hm=>by
   obtain⟨i,h1,h2⟩:=Lv m hm;obtain⟨e,d,h3,h4,h5,_⟩:=entry i _ h1;refine⟨i,d,h1,h4,λz=>h2 ?_⟩
   rw[h3];show e.1=_;rw[h5.hash,z]
  have IL:∀m,m<k0+k->∃i d,t.slot (it (iB t.mask) m (t.probeStart (eI dx))).j=.live i/\ds[i]? =some d/\d≠dx:=λm hm=>by
   by_cases RO:m<k0
   ·exact RM m RO
   ·obtain⟨m',rfl⟩:∃m',m=k0+m':=⟨m-k0,by omega⟩
    exact other m' (by omega)
  rcases Lw with⟨Dl,e⟩|⟨i,Ex,hha,e⟩
  ·
   have xv:dx∉ds:=λjW=>by
    obtain⟨i,hi⟩:=bp jW;have eY:i<es.toList.length:=by rw[hE.1];exact(List.getElem?_eq_some_iff.mp hi).1
    obtain⟨d,h1,h2⟩:=hE.2 i _ (ah eY);rw[hi]at h1;cases h1;obtain⟨ki,p1,p2⟩:=W.way i (eI dx) (by rw[av,ah eY];exact congrArg some h2.hash)
    have MN:(it (iB t.mask) (k0+k) (t.probeStart (eI dx))).j∉t.place.toList:=λz=>by
     obtain⟨i',xf⟩:=bp z;rw[ni W.tb (i:=i') (by simpa using xf)]at Dl;cases Dl
    rcases Nat.lt_trichotomy ki (k0+k)with Lx|heq|Mw
    ·obtain⟨i',d',q1,q2,q3⟩:=IL ki Lx;rw[ni W.tb p1]at q1;cases q1;rw[hi]at q2;exact q3 (aS q2).symm
    ·subst heq;exact MN (Array.mem_toList_iff.mpr (Array.mem_of_getElem? p1))
    ·exact MN (p2 _ Mw)
   have fin:=S9 xv (k0+k) (λz=>by
     obtain⟨i',xf⟩:=bp z;rw[ni W.tb (i:=i') (by simpa using xf)]at Dl;cases Dl) (λm hm=>by
     obtain⟨i,d,q1,_⟩:=IL m hm;obtain⟨_,_,_,_,_,q5⟩:=entry i _ q1;exact Array.mem_toList_iff.mpr (Array.mem_of_getElem? q5))
   split
   ·rename_i met hm;have z:=hm.symm.trans e;cases z;exact aj fin
   ·rename_i hm;exact(hm _ e).elim
  ·obtain⟨⟨hv,y⟩,d,h3,h4,h5,h6⟩:=entry i _ Ex;obtain⟨b,YI⟩:=h5.ref;have RP:y=.ref b:=YI;have YJ:k0+k<K:=by
    rcases Nat.lt_trichotomy K (k0+k)with eY|heq|Mw
    ·obtain⟨i',d',q1,_⟩:=IL K eY;rw[hK]at q1;cases q1
    ·subst heq;rw[hK]at Ex;cases Ex
    ·exact Mw
   have MO:t.sameMemory t.moves t.mask=some true:=by unfold sameMemory;rw[if_pos (bN _)]
   have RQ:dN d dx=decide (d=dx):=KI.dN h5.ki hx;split
   ·rename_i met hm;have z:=hm.symm.trans e;cases z;dsimp only;split
    ·refine aa (Lu hx MJ _ (λv hv=>?_) ?_)
     ·obtain⟨en,YK,rfl⟩:=List.mem_map.mp hv;have UM:en∈es.toList:=by
       have:=Array.mem_toList_iff.mp YK;exact Array.mem_toList_iff.mpr (Array.mem_filter.mp this).1
      obtain⟨i',xf⟩:=bp UM;obtain⟨d',_,h8⟩:=hE.2 i' en xf;exact⟨d',h8.ki,h8.dep⟩
     simp only[aH,bD];rw[h3];dsimp only;refine aa (bo ((KI.eq 4 A s y (.ref xa) d dx h5.dep (by omega) h5.ki hx) prog w _ _ ?_))
     refine aa (wpAny_setState_of ho hd hf ?_);dsimp only;rw[RQ];by_cases Ly:d=dx
     ·rw[aR Ly];exact aj (Wu (Ly▸bh h4))
     ·rw[aG Ly,MO];simp only[Bool.and_false,aH,bD,if_true];rw[Ex];dsimp only;rw[h3];dsimp only;rw[RP];refine aa (wpAny_isSame_ref_self ?_);refine aa (aj ?_);simp only[if_true];exact ih (K-(k0+k+1)) (by omega) fuel (k0+k+1) K _ rfl hK (by omega) (au _) (by omega) λm oJ=>by
       by_cases RO:m<k0+k
       ·exact IL m RO
       ·have:m=k0+k:=by omega
        subst this;exact⟨i,d,Ex,h4,Ly⟩
    ·rw[h3];dsimp only;refine aa (bo ((KI.eq 4 A s y (.ref xa) d dx h5.dep (by omega) h5.ki hx) prog w _ _ ?_))
     refine aa (wpAny_setState_of ho hd hf ?_);dsimp only;rw[RQ];by_cases Ly:d=dx
     ·rw[aR Ly];exact aj (Wu (Ly▸bh h4))
     ·rw[aG Ly,MO];simp only[Bool.and_false,aH,bD,if_true];rw[Ex];dsimp only;rw[h3];dsimp only;rw[RP];refine aa (wpAny_isSame_ref_self ?_);refine aa (aj ?_);simp only[if_true];exact ih (K-(k0+k+1)) (by omega) fuel (k0+k+1) K _ rfl hK (by omega) (au _) (by omega) λm oJ=>by
       by_cases RO:m<k0+k
       ·exact IL m RO
       ·have:m=k0+k:=by omega
        subst this;exact⟨i,d,Ex,h4,Ly⟩
   ·rename_i hm;exact(hm _ e).elim
end
end ST
namespace ST
open PySem PySem.Spec PyProof.Rows DL SetTable
mutual
theorem ki_set {h h':Heap}{x:cD}{ox:Obj}{es:Array (Int×cw)}{ep:Nat}{t:cC}(ho:h.get? x=some ox) (hd:ox.data=.set es ep t) (hs:Heap.SameBut x h h'):∀{v:cw}{d:D},KI h v d->KI h' v d
 |_,_,.int n t=>.int n t
 |_,_,@KI.tup _ a o items n ds h1 h2 h3 l=>by
  have jr:a≠x:=by
   rintro rfl
   rw[ho]at h1;cases h1;rw[hd]at h3;exact nomatch h3
  exact .tup ((hs.2 a jr).trans h1) h2 h3 (Ey ho hd hs l)
theorem Ey {h h':Heap}{x:cD}{ox:Obj}{es:Array (Int×cw)}{ep:Nat}{t:cC}(ho:h.get? x=some ox) (hd:ox.data=.set es ep t) (hs:Heap.SameBut x h h'):∀{vs:cv}{ds:cu},qW h vs ds->qW h' vs ds
 |_,_,.nil=>.nil
 |_,_,.cons h t=>.cons (ki_set ho hd hs h) (Ey ho hd hs t)
end
theorem Dk.imp {P:cw->Prop}{h h':Heap}{es:List (Int×cw)}{ds:cu}(e:Dk P h es ds) (m:∀v d,KI h v d->KI h' v d):Dk P h' es ds:=
 ⟨e.1,λi x hx=>let ⟨d,h1,h2⟩:=e.2 i x hx;⟨d,h1,⟨m _ _ h2.ki,h2.hash,h2.dep,h2.ref,h2.src⟩⟩⟩
theorem Dk.ins {P:cw->Prop}{h:Heap}{es:List (Int×cw)}{ds:cu}(e:Dk P h es ds) {p:Nat}(hp:p<=es.length) {x:Int×cw}{d:D}(hx:El P h x d):Dk P h (ST.ins es p x) (ST.ins ds p d):=by
 have vX:p<=ds.length:=by rw[<-e.1];exact hp
 refine⟨by rw[jX hp,jX vX,e.1],λi y hy=>?_⟩
 rw[mB hp]at hy;rw[mB vX];by_cases c1:i<p
 ·rw[if_pos c1]at hy ⊢;exact e.2 i y hy
 ·rw[if_neg c1]at hy ⊢;by_cases c2:i=p
  ·rw[if_pos c2]at hy ⊢;cases hy;exact⟨d,rfl,hx⟩
  ·rw[if_neg c2]at hy ⊢;exact e.2 (i-1) y hy
theorem Dm {α:Type}(l:List α):∀(order:List Nat),(∀k∈order,k<l.length)->∀i:Nat,(order.filterMap λk:Nat=>l[k]?)[i]? =(order[i]?).bind λk:Nat=>l[k]?
 |[],_,i=>by simp
 |a::r,h,i=>by
  have ha:=h a af;have e:l[a]? =some l[a]:=ah ha;rw[List.filterMap_cons,e];cases i with
  |zero=>simp[e]
  |succ i=>simpa using Dm l r (λk hk=>h k (ai _ hk)) i
theorem Dk.reorder {P:cw->Prop}{h:Heap}{es:List (Int×cw)}{ds:cu}(e:Dk P h es ds) {order:List Nat}(hp:order.Perm (List.range es.length)):Dk P h (order.filterMap λk:Nat=>es[k]?) (order.filterMap λk:Nat=>ds[k]?)/\(order.filterMap λk:Nat=>ds[k]?).Perm ds:=by
 have jW:∀k∈order,k<es.length:=λk hk=>List.mem_range.mp (hp.mem_iff.mp hk)
 have RS:∀k∈order,k<ds.length:=λk hk=>by rw[<-e.1];exact jW k hk
 have RT:∀{α:Type}(l:List α) (o:List Nat),(∀k∈o,k<l.length)->(o.filterMap λk:Nat=>l[k]?).length=o.length:=λl o=>by
  induction o with
  |nil=>intro _;rfl
  |cons a r ih=>
   intro hh;rw[List.filterMap_cons,ah (hh a af)];show(r.filterMap λk:Nat=>l[k]?).length+1=_
   rw[ih λk hk=>hh k (ai _ hk)];rfl
 refine⟨⟨by rw[RT es order jW,RT ds order RS],λi x hx=>?_⟩,?_⟩
 ·rw[Dm es order jW]at hx;rw[Dm ds order RS];cases hk:order[i]? with
  |none=>rw[hk]at hx;cases hx
  |some k=>rw[hk]at hx;exact e.2 k x hx
 ·have h1:=hp.filterMap (λk:Nat=>ds[k]?)
  rw[e.1,range_all]at h1;exact h1
section
variable {prog:cz}{w:cA}{A:cB}{E:cg}{s:cx}
theorem RU (n:Nat):∀(A:cB) (s:cx) (v:cw) (d:D) (Q:Bool->cx->Prop),dU d<=n->KI s.heap v d->Q true s->wpAny (model prog w) A (hashByValue n v) Q E s:=by
 induction n with
 |zero=>
  intro A s v d Q hn k h;cases k with
  |int i t=>unfold hashByValue;exact aj h
  |tup h1 h2 h3 l=>unfold dU at hn;omega
 |succ n ih=>
  intro A s v d Q hn k h;cases k with
  |int i t=>unfold hashByValue;exact aj h
  |@tup a o items m ds ho hc hd l=>
   have hT:s.TypeIs (.ref a) "tuple":=⟨o,ho,hc⟩;have xO:gZ ds<=n:=by unfold dU at hn;omega
   unfold hashByValue;refine aa (wpAny_specialOf hT F.slot_tuple_hash.lookup ?_);dsimp only;refine aa (wpAny_seqItems ho hd ?_);refine aa ?_;show wpAny _ _ (forIn items _ _) _ _ s;rw[<-Array.forIn_toList];refine wpAny_forIn_list _ (λrest r s'=>r.1=none/\s'=s/\∃es,(∀e∈es,dU e<=n)/\qW s.heap rest es) _ ?_ ?_ _ _ ⟨rfl,rfl,ds,λe he=>aB (jv he) xO,l⟩
   ·rintro v rest r s' ⟨hr,rfl,es,he,hk⟩
    cases hk with
    |cons k1 k2=>
     refine aa (ih A s' v _ _ (he _ af) k1 ?_);simp only[bT,aH,bD];exact aj ⟨rfl,rfl,_,λe h=>he e (ai _ h),k2⟩
   ·rintro⟨r1,r2⟩ s' ⟨hr,rfl,_⟩
    simp only at hr;subst hr;exact aj h
structure uG (P:cw->Prop) (ld:Bool) (h:Heap) (a:cD) (ds:cu):Prop where
 ex:∃(o:Obj) (es:Array (Int×cw)) (ep:Nat) (t:cC),h.get? a=some o/\o.ExactSet/\o.data=.set es ep t/\Wt t (es.toList.map (·.1))/\Dk P h es.toList ds/\t.place.size*5<t.mask*3/\t.plain=true/\t.led=ld
 nd:ds.Nodup
theorem Wt.fits {t:cC}{es:Array (Int×cw)}(W:Wt t (es.toList.map (·.1))):t.fits es.size=true:=by
 have h1:=W.len;have h2:=W.room;simp at h1;unfold SetTable.fits SetTable.fill;rw[W.tb.Qc];simp only[Bool.and_eq_true,beq_iff_eq,decide_eq_true_eq,aq,List.length_nil];omega
theorem vY {α:Type}(l:List α) (p:Nat) (x:α):(ins l p x).Perm (x::l):=by
 unfold ins;refine List.perm_middle.trans (List.Perm.cons x ?_);rw[List.take_append_drop]
theorem O3 {P:cw->Prop}{ld:Bool}{a xa:cD}{ds:cu}{dx:D}{Q:Bool->cx->Prop}(S:uG P ld s.heap a ds) (hx:KI s.heap (.ref xa) dx) (MJ:dU dx<=4) (hP:P (.ref xa)) (hu:A.units+8<cLine) (hn:ds.length<18)
  (h:∀h' AF,Heap.SameBut a s.heap h'->uG P ld h' a AF->AF.Perm (if dx∈ds then ds else dx::ds)->Q (!decide (dx∈ds)) {s with heap:=h'}):
  wpAny (model prog w) A (setAddHashed a (.ref xa) (eI dx)) Q E s:=by
 obtain⟨o,es,ep,t,ho,hex,hd,W,hE,hV,jM,Lz⟩:=S.ex;have hf:=W.fits;have hlen:t.place.size=es.size:=by have:=W.len;simpa using this
 unfold setAddHashed setAddHashedIn;refine bo (aa (wpAny_setState_of ho hd hf ?_));dsimp only;have RV:byScan (.ref xa) es=false:=rfl;rw[RV];simp only[aH,bD];obtain⟨e0,RN,IK⟩:=W.emp;have u0:=o9 t (eI dx);obtain⟨K,P5,Q2⟩:=reach W.mask u0.pb.nine u0.pb.IB RN;have YL:K<100000:=by
  rcases W.mask with hm|hm<;>(rw[hm]at P5;unfold turns at P5;omega)
 unfold setSearch;refine aa (Gb ho hd hf W hE hx MJ hu (λjW=>?_) (λxv k LA J6=>?_) K 100000 0 K none rfl (by rw[Q2];exact IK) (bL _) (by omega) YL (λm hm=>by omega))
 ·have:=h s.heap ds (Heap.SameBut.refl a s.heap) S (by rw[if_pos jW])
  rw[aR jW]at this;exact aj this
 ·dsimp only;refine aa (wpAny_setState_of ho hd hf ?_);dsimp only;have YM:t.place.size+1<t.mask+1:=by omega
  obtain⟨W1,Es,sQ,uH⟩:=W.put LA J6 YM;have AY:(t.put (it (iB t.mask) k (t.probeStart (eI dx))).j).1.plain=true:=jM;have Ge:(t.put (it (iB t.mask) k (t.probeStart (eI dx))).j).1.led=ld:=Lz;generalize t.put (it (iB t.mask) k (t.probeStart (eI dx))).j=tp at W1 Es sQ uH AY Ge;obtain⟨t1,p⟩:=tp;dsimp only at W1 Es sQ uH AY Ge;rw[if_pos AY];refine aa (RU 8 A s (.ref xa) dx _ (by omega) hx ?_)
  simp only[if_true];have Qe:p<=es.toList.length:=by simpa using Es
  have MP:(insertAt es p (eI dx,Value.ref xa)).toList=ins es.toList p (eI dx,Value.ref xa):=mT _ _ _;have O4:Wt t1 ((insertAt es p (eI dx,Value.ref xa)).toList.map (·.1)):=by rw[MP,ins_map];exact W1
  have IM:(insertAt es p (eI dx,Value.ref xa)).size=es.size+1:=by
   rw[<-aN,MP,jX Qe,aN]
  have YN:ds.length=es.size:=by rw[<-hE.1,aN]
  refine aa (wpAny_storeSet_of ho hd ?_ (by rw[IM];exact aB (by omega:es.size+1<=100) (by decide)))
  have RW:Heap.SameBut a s.heap (s.heap.update a (Obj.putSet (insertAt es p (eI dx,Value.ref xa)) t1)):=Heap.SameBut.update ..;have sR:(s.heap.update a (Obj.putSet (insertAt es p (eI dx,Value.ref xa)) t1)).get? a=some {o with data:=.set (insertAt es p (eI dx,Value.ref xa)) (ep+1) t1}:=by
   have:=Heap.get?_update_self (Obj.putSet (insertAt es p (eI dx,Value.ref xa)) t1) ho (by rw[putSet_of _ t1 hd];rfl)
   rw[putSet_of _ t1 hd]at this;exact this
  have Wv:∀v d,KI s.heap v d->KI (s.heap.update a (Obj.putSet (insertAt es p (eI dx,Value.ref xa)) t1)) v d:=λv d=>ki_set ho hd RW
  have Ww:Dk P (s.heap.update a (Obj.putSet (insertAt es p (eI dx,Value.ref xa)) t1)) (insertAt es p (eI dx,Value.ref xa)).toList (ins ds p dx):=by
   rw[MP];exact(hE.imp Wv).ins Qe ⟨Wv _ _ hx,rfl,MJ,⟨xa,rfl⟩,hP⟩
  have oz:(ins ds p dx).Perm (dx::ds):=vY ds p dx;have J5:(ins ds p dx).Nodup:=oz.nodup_iff.mpr (List.nodup_cons.mpr ⟨xv,S.nd⟩);have Ez:t1.fill=t1.place.size:=by unfold SetTable.fill;rw[W1.tb.Qc];rfl
  have RX:(!decide (dx∈ds))=true:=by rw[aG xv];rfl
  by_cases EA:t1.tooFull=true
  ·
   have RL:t1.mask*3<=t1.place.size*5:=by
    have:decide (t1.fill*5 ≥ t1.mask*3)=true:=EA;rw[Ez]at this;have:=bK this;omega
   have UN:t.mask=7:=by
    rcases W.mask with hm|hm
    ·exact hm
    ·rw[sQ,hm,uH]at RL;omega
   have h4:es.size=4:=by rw[sQ,UN,uH]at RL;rw[UN]at hV;omega
   generalize YO:insertAt es p (eI dx,Value.ref xa)=tK at *;have O5:tK.size=5:=by rw[IM,h4]
   obtain⟨t2,order,RY,UO,W2,oJ,RZ,UP,_⟩:=Lr (mask:=31) (.inr rfl) t1.finger (t1.movedTo 31) t1.led t1.plain (tK.map (·.1)) (by simp[O5])
   have MQ:order.Perm (List.range tK.size):=by simpa using UO
   obtain⟨rp,UQ⟩:=reorder (es:=tK) MQ;have hsz2:(order.toArray.filterMap (tK[·]?)).size=tK.size:=by
    have:=rp.length_eq
    simpa using this
   have Wx:Wt t2 ((order.toArray.filterMap (tK[·]?)).toList.map (·.1)):=by rw[UQ (·.1)];exact W2
   simp only[Bool.not_false,Bool.true_and,if_pos EA];refine aa ?_;unfold setRelay;refine aa (wpAny_setState_of sR rfl O4.fits ?_);dsimp only;have hw:sizeAbove (grown (es.size+1))=32:=by rw[h4];rfl
   have YQ:t1.relaid (tK.map (·.1)) (grown (es.size+1))=some (t2,order.toArray):=by unfold relaid;rw[hw];exact RY
   rw[hw,if_neg (by decide),YQ]
   refine aa ?_;show wpAny _ _ (if((order.toArray.filterMap (tK[·]?)).size !=tK.size)=true then(unsupported "internal:set-table-lost-an-element">>=λ_=>pure (order.toArray.filterMap (tK[·]?),t2))else pure (order.toArray.filterMap (tK[·]?),t2)) _ _ _
   rw[if_neg (by rw[hsz2];simp)]
   refine aj ?_;dsimp only;refine wpAny_storeSet_of sR rfl ?_ (by rw[hsz2,O5];decide)
   have Wy:Heap.SameBut a (s.heap.update a (Obj.putSet tK t1)) ((s.heap.update a (Obj.putSet tK t1)).update a (Obj.putSet (order.toArray.filterMap (tK[·]?)) t2)):=Heap.SameBut.update ..
   have uA:((s.heap.update a (Obj.putSet tK t1)).update a (Obj.putSet (order.toArray.filterMap (tK[·]?)) t2)).get? a=some {o with data:=.set (order.toArray.filterMap (tK[·]?)) (ep+1+1) t2}:=by
    have:=Heap.get?_update_self (Obj.putSet (order.toArray.filterMap (tK[·]?)) t2) sR (by rw[putSet_of _ t2 rfl];rfl)
    rw[putSet_of _ t2 rfl]at this;exact this
   have eq2:(order.toArray.filterMap (tK[·]?)).toList=order.filterMap λk:Nat=>tK.toList[k]? :=by simp
   obtain⟨Wz,R1⟩:=(Ww.imp (λv d=>ki_set sR rfl Wy)).reorder (order:=order) (by simpa using MQ)
   rw[<-eq2]at Wz;have:=h _ _ (RW.trans Wy) ⟨⟨_,_,_,t2,uA,hex,rfl,Wx,Wz,by have h1:=Wx.len;rw[ae,aN,hsz2,O5]at h1;rw[oJ,h1];decide,by rw[UP];exact AY,by rw[RZ];exact Ge⟩,(R1.trans oz).nodup_iff.mpr (List.nodup_cons.mpr ⟨xv,S.nd⟩)⟩ (by rw[if_neg xv];exact R1.trans oz)
   rw[RX]at this;exact aj this
  ·have RL:t1.place.size*5<t1.mask*3:=by
    have h0:¬ (decide (t1.fill*5 ≥ t1.mask*3)=true):=EA;rw[Ez]at h0
    simpa using h0
   simp only[Bool.not_false,Bool.true_and,if_neg EA];have:=h _ (ins ds p dx) RW ⟨⟨_,_,_,t1,sR,hex,rfl,O4,Ww,RL,AY,Ge⟩,J5⟩ (by rw[if_neg xv];exact oz)
   rw[RX]at this;exact aj this
end
end ST
namespace ST
open PySem PySem.Spec PyProof.Rows DL SetTable
def Tk (h h':Heap):Prop:=∀b o,h.get? b=some o->o.cls=.type "tuple"->h'.get? b=some o
theorem Tk.trans {h h1 h2:Heap}(a:Tk h h1) (b:Tk h1 h2):Tk h h2:=λx o e c=>b x o (a x o e c) c
mutual
theorem IP {h h':Heap}(t:Tk h h'):∀{v:cw}{d:D},KI h v d->KI h' v d
 |_,_,.int n t=>.int n t
 |_,_,.tup h1 h2 h3 l=>.tup (t _ _ h1 h2) h2 h3 (IQ t l)
theorem IQ {h h':Heap}(t:Tk h h'):∀{vs:cv}{ds:cu},qW h vs ds->qW h' vs ds
 |_,_,.nil=>.nil
 |_,_,.cons h r=>.cons (IP t h) (IQ t r)
end
theorem uG.mono {P:cw->Prop}{ld:Bool}{h h':Heap}{a:cD}{ds:cu}(S:uG P ld h a ds) (hS:∀o,h.get? a=some o->h'.get? a=some o) (t:Tk h h'):uG P ld h' a ds:=by
 obtain⟨o,es,ep,tb,h1,h2,h3,h4,h5,h6,h7⟩:=S.ex;exact⟨⟨o,es,ep,tb,hS o h1,h2,h3,h4,h5.imp λv d=>IP t,h6,h7⟩,S.nd⟩
theorem uG.tk {P:cw->Prop}{ld:Bool}{h h':Heap}{a:cD}{ds:cu}(S:uG P ld h a ds) (hs:Heap.SameBut a h h'):Tk h h':=λb o e c=>by
 obtain⟨o',es,ep,tb,h1,h2,_⟩:=S.ex;have jr:b≠a:=λz=>by
  subst z;rw[h1]at e;cases e;rw[h2.1]at c;exact absurd c (by decide)
 exact(hs.2 b jr).trans e
theorem vZ {P:cw->Prop}{h:Heap}{a:cD}(led:Bool) (ho:h.get? a=some {cls:=.type "set",dict:=none,data:=.set #[] 0 (.fresh 0 0 led)}):uG P led h a []:=
 ⟨⟨_,#[],0,_,ho,⟨rfl,rfl,rfl⟩,rfl,AV led,⟨rfl,λi e he=>by simp at he⟩,by show 0*5<7*3;decide,rfl,rfl⟩,List.nodup_nil⟩
section
variable {prog:cz}{w:cA}{A:cB}{R:Result->cx->Prop}{I:cD}{fp wr:List cD}{G:Array GenState->Array GenState->Prop}{n:Nat}{P:Nat->cw->Prop}{St:Nat->cx->Prop}
theorem MR {Pv:cw->Prop}{ld:Bool}(W:WalksS prog w A.in1 I fp wr G n P St) (S:cD) (IS:S∉fp) (val:Nat->D) (h0:Heap)
  (zA:∀i v,P i v->(∃xa,v=.ref xa)/\dU (val i)<=4/\KI h0 v (val i)/\Pv v) (hb:n<=18) (hu:A.units+9<cLine)
  (YR:∀i (s:cx) b o,St i s->b∈wr->s.heap.get? b=some o->o.cls≠.type "tuple"):
  ∀(k i:Nat) (s:cx),n-i=k->i<=n->St i s->Tk h0 s.heap->
   (∃ds,uG Pv ld s.heap S ds/\ds.length<=i/\∀d,d∈ds↔∃m,m<i/\val m=d)->
   (∀s',Moved (S::wr) G s s'->Tk h0 s'.heap->(∃ds,uG Pv ld s'.heap S ds/\ds.length<=n/\∀d,d∈ds↔∃m,m<n/\val m=d)->R (.ok (.ret .none)) s')->
   codeAny (model prog w) A (.builtin "set.update.loop" ⟨[.ref S,.ref I],[]⟩) R s:=by
 have R3:S∉wr:=λh=>IS (W.sub _ h)
 have zB:∀b∈wr,b∈S::wr:=λb hb=>ai _ hb
 have Tf:∀{i:Nat}{s s':cx},St i s->Moved wr G s s'->Tk s.heap s'.heap:=λkO hm b o e c=>hm.heap b o (λhb=>YR _ _ b o kO hb e c) e
 intro k;induction k with
 |zero=>
  intro i s hk hi kO hT ⟨ds,hS,hl,mw⟩ hR;have jW:i=n:=by omega
  subst jW;refine codeAny_builtin PyProof.Rows.F.entry_set_update_loop ?_;rw[bX PyProof.Rows.F.plain_set_update_loop _];show wpAny _ A.in1 (pyNext (.ref I)>>=_) _ _ s;refine aa (W.done s _ _ kO λs' hm=>?_)
  show wpAny _ A.in1 (ret Value.none) _ _ s';exact aj (hR s' ⟨λb o hb e=>hm.heap b o (λz=>hb (zB b z)) e,hm.gens,hm.drawn,hm.os,hm.toks⟩ (hT.trans (Tf kO hm)) ⟨ds,hS.mono (λo e=>hm.heap S o R3 e) (Tf kO hm),hl,mw⟩)
 |succ k ih=>
  intro i s hk hi kO hT ⟨ds,hS,hl,mw⟩ hR;have eY:i<n:=by omega
  refine codeAny_builtin PyProof.Rows.F.entry_set_update_loop ?_;rw[bX PyProof.Rows.F.plain_set_update_loop _];show wpAny _ A.in1 (pyNext (.ref I)>>=_) _ _ s;refine aa (W.item i s _ _ eY kO λv s' hP O6 hm=>?_)
  obtain⟨⟨xa,rfl⟩,IT,YS,YT⟩:=zA i v hP;have WA:=hT.trans (Tf kO hm);have MS:=hS.mono (λo e=>hm.heap S o R3 e) (Tf kO hm)
  show wpAny _ A.in1 (holding [Value.ref xa] (setAdd S (.ref xa))>>=_) _ _ s';refine aa (bo ?_);unfold setAdd;refine bo ?_;have R4:=IP WA YS;refine aa (KI.hash 4 A.in1 s' (.ref xa) (val i) _ IT (by show A.units+1+4<cLine;omega) R4 ?_)
  refine O3 (s:={s' with toks:=s'.toks+vN (val i)}) MS R4 IT YT (by show A.units+1+8<cLine;omega) (by omega) λh' AF Fw Qf u0=>?_
  have UR:Tk s'.heap h':=MS.tk Fw;refine aj ⟨plainId_quiet PyProof.Rows.F.plain_set_update_loop _,ih (i+1) _ (by omega) eY (W.frame _ s' _ _ O6 (Nat.le_add_right _ _) λb hb o e=>?_) (WA.trans UR) ⟨AF,Qf,?_,λd=>?_⟩ λD9 O7 YU O8=>?_⟩
  ·rw[Fw.2 b (λh:b=S=>IS (by rw[<-h];exact hb))];exact e
  ·have:=u0.length_eq;by_cases jW:val i∈ds
   ·rw[if_pos jW]at this;omega
   ·rw[if_neg jW,ax]at this;omega
  ·rw[u0.mem_iff];have base:=mw d;constructor
   ·intro hd;split at hd
    ·obtain⟨m,h1,h2⟩:=base.mp hd;exact⟨m,by omega,h2⟩
    ·rcases List.mem_cons.mp hd with rfl|hd
     ·exact⟨i,by omega,rfl⟩
     ·obtain⟨m,h1,h2⟩:=base.mp hd;exact⟨m,by omega,h2⟩
   ·rintro⟨m,h1,h2⟩
    by_cases US:m=i
    ·subst US;subst h2;split
     ·rename_i jW;exact jW
     ·exact af
    ·have:=base.mpr ⟨m,by omega,h2⟩
     split
     ·exact this
     ·exact ai _ this
  ·refine hR D9 (Moved.trans W.gtrans ?_ O7) YU O8;refine⟨λb o hb e=>?_,hm.gens,hm.drawn,hm.os,?_⟩
   ·rw[Fw.2 b (λh:b=S=>hb (by rw[h];exact af))]
    exact hm.heap b o (λz=>hb (zB b z)) e
   ·exact aB hm.toks (Nat.le_add_right _ _)
end
end ST
namespace ST
open PySem PySem.Spec PyProof.Rows DL SetTable
noncomputable abbrev dc (led:Bool):Obj:={cls:=.type "set",dict:=none,data:=.set #[] 0 (.fresh 0 0 led)}
section
variable {prog:cz}{w:cA}{A:cB}{E:cg}{s:cx}
def Made (P:cw->Prop) (ld:Bool) (s:cx) (val:cu) (h':Heap):Prop:=(∃ds,uG P ld h' s.heap.objs.size ds/\∀d,d∈ds↔d∈val)/\∀b o,b<s.heap.objs.size->s.heap.get? b=some o->h'.get? b=some o
theorem Gf {l:cD}{items:Array cw}{val:cu}{led:Bool}(hh:A.handled=none) (hu:A.units+20<cLine) (hl:s.heap.IsList l items) (hn:items.size=val.length)
  (hit:∀(i:Nat) (v:cw),items[i]? =some v->(∃xa,v=.ref xa)/\dU (val.getD i .fN)<=4/\KI s.heap v (val.getD i .fN)) (hb:items.size<=18) {Q:PySem.Fin->cx->Prop}
  (h:∀h' tk,Made (·∈items.toList) led s val h'->Q (.done (.ret .none)) {s with heap:=h',toks:=tk}):
  wpAny (model prog w) A (Builtin.«set.__init__» ⟨[.ref s.heap.objs.size,.ref l],[]⟩) Q E {s with heap:=s.heap.push (dc led)}:=by
 obtain⟨⟨R5,AZ,MT,v3⟩,MU,rH,nl,MV⟩:=hl;simp only at rH MV;subst rH MV;have hS:(s.heap.push (dc led)).get? s.heap.objs.size=some (dc led):=ay _ rfl;have hT:Shared.TypeIs {s with heap:=s.heap.push (dc led)} (.ref s.heap.objs.size) "set":=⟨_,hS,rfl⟩
 have IU:(s.heap.push (dc led)).get? l=some {cls:=.type "list",dict:=AZ,data:=.seq items nl,slots:=v3}:=ag _ MU;have R6:=PySem.F.sub_list_set;have R7:=PySem.F.sub_list_frozenset;have jr:(Value.type "list"==Value.type "dict")=false:=by decide
 have J7:(s.heap.push (dc led)).IsList l items:=⟨_,IU,rfl,nl,rfl⟩;unfold Builtin.«set.__init__» noKeywords Builtin.Frozenset.updateFrom;generalize R8:pyIter=PI
 wp_walk
 subst R8;refine wpAny_pyIter_list J7 ?_;refine aa (wpAny_runValue ?_);have MW:l<s.heap.objs.size:=az MU;have IV:(s.heap.push (dc led)).objs.size=s.heap.objs.size+1:=Heap.size_push ..;have Dp:l≠(s.heap.push (dc led)).objs.size:=by rw[IV];exact aD (Nat.lt_succ_of_lt MW)
 have IS:s.heap.objs.size∉[(s.heap.push (dc led)).objs.size,l]:=by
  rw[IV];simp only[List.mem_cons,bH,or_false,not_or];exact⟨aD (Nat.lt_succ_self _),bw MW⟩
 have R9:((s.heap.push (dc led)).push {cls:=.type "list_iterator",data:=.fields #[.ref l,.int 0 0]}).get? s.heap.objs.size=some (dc led):=ag _ hS;have W:=(Walks.list (prog:=prog) (w:=w) (A:=A.in1) hh (s.heap.push (dc led)).objs.size l Dp items).toS;refine MR (Pv:=(·∈items.toList)) W s.heap.objs.size IS (λi=>val.getD i .fN) s.heap (λi v hv=>⟨(hit i v hv).1,(hit i v hv).2.1,(hit i v hv).2.2,Array.mem_toList_iff.mpr (Array.mem_of_getElem? hv)⟩) hb (by omega) (λi s' b o st UT e c=>?_) (items.size-0) 0 _ (by omega) (bL _) ⟨⟨_,ay _ rfl,rfl,rfl⟩,J7.push _⟩ (λb o e _=>ag _ (ag _ e)) ⟨[],vZ led R9,au _,λd=>⟨(λz=>by cases z),λ⟨m,hm,_⟩=>by omega⟩⟩ (λs' hm UU ⟨ds,Sa,_,mw⟩=>?_)
 ·have Hl:b=(s.heap.push (dc led)).objs.size:=by simpa using UT
  obtain⟨o',e',c',_⟩:=st.1;subst Hl;rw[e]at e';cases e';rw[c]at c';exact absurd c' (by decide)
 ·obtain⟨h',g',d',An,Kp⟩:=s';have eg:g'=s.gens:=hm.gens;have ed:d'=s.drawn:=hm.drawn;have eo:Kp=s.os:=hm.os;subst eg ed eo;show wpAny _ _ _ _ _ _;refine aj ?_;show wpAny _ _ (ret Value.none) _ _ _;refine aj (h h' An ⟨⟨ds,Sa,λd=>(mw d).trans ⟨λ⟨m,sQ,oJ⟩=>?_,λhd=>?_⟩⟩,λb o hb e=>?_⟩)
  ·have:m<val.length:=by rw[<-hn];exact sQ
   rw[<-oJ];show val.getD m .fN∈val;rw[ak,ah this];exact List.getElem_mem this
  ·obtain⟨m,oJ⟩:=bp hd;refine⟨m,by rw[hn];exact(List.getElem?_eq_some_iff.mp oJ).1,?_⟩
   show val.getD m .fN=d;rw[ak,oJ];rfl
  ·have Sb:b≠s.heap.objs.size:=aD hb;have Lk:b≠(s.heap.push (dc led)).objs.size:=by rw[IV];exact aD (Nat.lt_succ_of_lt hb)
   exact hm.heap b o (by simp only[List.mem_cons,bH,or_false,not_or];exact⟨Sb,Lk⟩) (ag _ (ag _ e))
end
end ST
namespace ST
open PySem PySem.Spec PyProof.Rows DL SetTable
section
variable {prog:cz}{w:cA}{A:cB}{E:cg}{s:cx}
theorem LB (a:cw) {Q₁:cg}
  (h:Q₁ (.ref s.heap.objs.size) {s with heap:=s.heap.push (dc (!w.params.followText "set-order"))}):
  codeAny (model prog w) A (.call (.builtin "set.__new__") ⟨[.type "set",a],[]⟩) (wants Q₁ E) s:=by
 refine codeAny_of_tree ?_;show wpAny _ A.in1 (checkBuiltinCall "set.__new__" ⟨[.type "set",a],[]⟩>>=λ_=>again (.builtin "set.__new__" ⟨[.type "set",a],[]⟩)) _ _ s
 refine aa (wpAny_of_eq (PySem.F.newCall_set_1 a) (aj ⟨plainId_quiet PySem.F.plain_set_new _,codeAny_builtin PySem.F.entry_set_new ?_⟩));rw[bX PySem.F.plain_set_new _];unfold Builtin.«set.__new__» Builtin.Frozenset.newClass;have zB:=sub_set_self;obtain⟨hp,g,d,tk,os⟩:=s;dsimp only
 wp_walk
 refine wpAny_askSetting (aj ?_);dsimp only;simp only[newObj];refine aa (wpAny_alloc (aj ?_));exact aj h
set_option maxHeartbeats 8000000 in
theorem mU {x:cw}{Mk:Heap->Prop}{Q:cg}
  (Sd:∀{Q:PySem.Fin->cx->Prop},(∀h' tk,Mk h'->Q (.done (.ret .none)) {s with heap:=h',toks:=tk})->wpAny (model prog w) A.in1.in1 (Builtin.«set.__init__» ⟨[.ref s.heap.objs.size,x],[]⟩) Q E {s with heap:=s.heap.push (dc (!w.params.followText "set-order"))})
  (h:∀h' tk,Mk h'->Q (.ref s.heap.objs.size) {s with heap:=h',toks:=tk}):
  wpAny (model prog w) A (call (.type "set") [x]) Q E s:=by
 obtain⟨c,tl,YV⟩:=PySem.F.called_set.mro;have EB:=PySem.F.called_set.made;have zB:=PySem.F.called_set.sub;have h1:=PySem.F.called_set.notType;have h2:=PySem.F.called_set.canCreate;have WC:=PySem.F.typeCall_set_1 x;refine wpAny_call (codeAny_of_tree ?_);show wpAny _ _ (callAny (.type "set") _) _ _ _;refine aj ⟨Code.quiet_builtin _ (by decide +kernel),codeAny_builtin PySem.F.entry_type_call ?_⟩
 rw[Around.under_plain (weight_type_call_type "set" [x] []) rfl]
 repeat (any_goals (first|assumption|wp_step))
 refine codeAny_mono (LB x (E:=E) (Q₁:=λobj s₁=>obj=.ref s.heap.objs.size/\s₁={s with heap:=s.heap.push (dc (!w.params.followText "set-order"))}) ⟨rfl,rfl⟩) λr s₁ hr=>?_
 cases r with
 |error e=>exact hr
 |ok fl=>
  cases fl with
  |ret obj=>
   obtain⟨rfl,rfl⟩:=hr;have hT:Shared.TypeIs {s with heap:=s.heap.push (dc (!w.params.followText "set-order"))} (.ref s.heap.objs.size) "set":=⟨_,ay _ rfl,rfl⟩
   have Ex:=PySem.F.called_set.init.lookup;have hbi:=PySem.F.called_set.init.bind (.ref s.heap.objs.size)
   repeat (any_goals (first|assumption|wp_step))
   refine codeAny_mono (codeAny_call_builtin (R:=wants (λr s₂=>r=.none/\∃h' tk,s₂={s with heap:=h',toks:=tk}/\Mk h') E) PySem.F.called_set.init.plain PySem.F.entry_set_init (check_set_init_1 hT ?_)) λr₂ s₂ UW=>?_
   ·exact Sd λh' tk hm=>⟨rfl,h',tk,rfl,hm⟩
   ·cases r₂ with
    |error e=>exact UW
    |ok YW=>
     cases YW with
     |ret r=>
      obtain⟨rfl,h',tk,rfl,hm⟩:=UW
      repeat (any_goals (first|assumption|wp_step))
      exact h _ _ hm
     |_=>exact UW.elim
  |_=>exact hr.elim
theorem xw {l:cD}{items:Array cw}{val:cu}{Q:cg}(hh:A.handled=none) (hu:A.units+40<cLine) (hl:s.heap.IsList l items) (hn:items.size=val.length)
  (hit:∀(i:Nat) (v:cw),items[i]? =some v->(∃xa,v=.ref xa)/\dU (val.getD i .fN)<=4/\KI s.heap v (val.getD i .fN)) (hb:items.size<=18)
  (h:∀h' tk,Made (·∈items.toList) (!w.params.followText "set-order") s val h'->Q (.ref s.heap.objs.size) {s with heap:=h',toks:=tk}):
  wpAny (model prog w) A (call (.type "set") [.ref l]) Q E s:=
 mU (λhQ=>Gf (s:=s) (A:=A.in1.in1) hh (by show A.units+1+1+20<cLine;omega) hl hn hit hb hQ) h
end
end ST
namespace ST
open PySem PySem.Spec PyProof.Rows DL SetTable
theorem iC:Slot "set_iterator" "__next__" "set_iterator.__next__":=
 .of (owner:="set_iterator") (n:="__next__") (by rw[typeLookup_type,builtinLookup_eq_fast];kernel_rfl) (by decide +kernel) (by decide +kernel) (by decide +kernel)
  (by first|exact .inl (by decide +kernel)|exact .inr (by decide +kernel)) (by rw[isSubtype_type];kernel_rfl)
theorem qG:entryFor table "set_iterator.__next__"=some Builtin.«set_iterator.__next__»:=entryFor_of_tree (by kernel_rfl)
theorem r9 (a:cw):argsOk "set_iterator.__next__" ⟨[a],[]⟩:=by
 unfold argsOk;kernel_rfl
theorem EC {α:Type}(next:Nat->Nat):∀(fuel k:Nat) (left:List α) (out:Array α),left.length<=fuel->(pickOrder.go next fuel k left out).toList.Perm (out.toList++left)
 |0,k,left,out,h=>by
  have:left=[]:=List.length_eq_zero_iff.mp (by omega)
  subst this;unfold pickOrder.go;rw[bB]
 |fuel+1,k,left,out,h=>by
  unfold pickOrder.go;by_cases hl:left=[]
  ·subst hl;simp
  ·have Lp:0<left.length:=List.length_pos_iff.mpr hl;have eY:next k%left.length<left.length:=Nat.mod_lt _ Lp;rw[ah eY];dsimp only;refine(EC next fuel (k+1) _ _ (by rw[List.length_eraseIdx];split<;>omega)).trans ?_
   rw[Array.toList_push,List.append_assoc];refine List.Perm.append_left _ ?_;exact(LW.qY left _ eY)
theorem tL {α:Type}(next:Nat->Nat) (xs:Array α):(pickOrder next xs).toList.Perm xs.toList:=by
 have:=EC next xs.size 0 xs.toList #[] (by simp)
 show(pickOrder.go next xs.size 0 xs.toList #[]).toList.Perm xs.toList
 simpa using this
noncomputable abbrev v5 (first:Int) (i:Nat) (S:cD) (n ep:Nat):Obj:={cls:=.type "set_iterator",data:=.fields #[rawInt first,rawInt i,.ref S,rawInt n,rawInt ep]}
noncomputable def fz (w:cA) (a:cD) (ep:Nat) (es:Array (Int×cw)):Array (Int×cw):=if w.params.followText "set-order" then pickOrder (w.params.setOrder a ep) es else es
noncomputable def Dq (t:cC):Nat->Nat
 |0=>0
 |i+1=>t.place.getD i 0+1
noncomputable def lr (w:cA) (t:cC) (i:Nat):Nat:=if w.params.followText "set-order" then 0 else Dq t i
theorem Dr {t:cC}(hr:fm t.place.toList) (i:Nat) (hi:i<=t.place.size):below t.place (Dq t i)=i:=by
 obtain⟨h1,h2,h3⟩:=nS t.place (Dq t i) hr;cases i with
 |zero=>
  show below t.place 0=0;by_cases hz:below t.place 0=0
  ·exact hz
  ·have Lp:0<below t.place 0:=by omega
   have eY:0<t.place.size:=by have Aj:below t.place 0<=t.place.size:=h1;omega
   have:=h2 0 eY Lp;have WE:t.place[0]<0:=this;omega
 |succ i=>
  have eY:i<t.place.size:=by omega
  have hg:t.place.getD i 0=t.place[i]:=by simp[eY]
  have UX:Dq t (i+1)=t.place[i]+1:=by show t.place.getD i 0+1=_;rw[hg]
  rw[UX]at h1 h2 h3 ⊢;have lo:i<below t.place (t.place[i]+1):=by
   by_cases hc:below t.place (t.place[i]+1)<=i
   ·have:=h3 i eY hc;omega
   ·omega
  by_cases hc:below t.place (t.place[i]+1)=i+1
  ·exact hc
  ·have Lx:i+1<t.place.size:=by omega
   have a1:=h2 (i+1) Lx (by omega)
   have a2:=uY hr (i:=i) (k:=i+1) (by omega) (by simpa using Lx)
   simp only[Array.getElem_toList]at a2;omega
section
variable {prog:cz}{w:cA}{A:cB}{E:cg}{s:cx}
theorem Ds {a:cD}{o:Obj}{es:Array (Int×cw)}{ep:Nat}{t:cC}(ho:s.heap.get? a=some o) (hd:o.data=.set es ep t) (hf:t.fits es.size=true) (hr:fm t.place.toList) (jM:t.plain=true) (Lz:t.led= !w.params.followText "set-order")
  (i:Nat) (hi:i<=es.size) {Q:Option (cw×Nat)->cx->Prop}(h:Q ((fz w a ep es)[i]?.map λe=>(e.2,lr w t (i+1))) s):wpAny (model prog w) A (setNext a (lr w t i) i ep) Q E s:=by
 have hsz:t.place.size=es.size:=by
  simp only[SetTable.fits,Bool.and_eq_true,beq_iff_eq,decide_eq_true_eq]at hf;exact hf.1
 unfold setNext;refine aa (wpAny_setState_of ho hd hf ?_);dsimp only;unfold setsByText;refine aa (aa (wpAny_askSetting (aj ?_)));show wpAny _ _ (if w.params.followText "set-order"=true then _ else _) _ _ _
 cases hb:w.params.followText "set-order" with
 |true=>
  rw[if_pos rfl,if_neg (by simp)]
  unfold setWalk;refine aa (aa (wpAny_setState_of ho hd hf ?_));dsimp only;unfold setsByText;refine aa (aa (wpAny_askSetting (aj ?_)));show wpAny _ _ (if w.params.followText "set-order"=true then _ else _) _ _ _
  rw[hb,if_pos rfl];refine aa (wpAny_askSetting (aj ?_));refine aj ?_;have e1:lr w t i=lr w t (i+1):=by unfold lr;rw[hb];rfl
  unfold fz at h;rw[hb,if_pos rfl]at h;rw[e1];exact h
 |false=>
  rw[if_neg aZ,if_neg (λhc=>by
   have h2:(!t.plain&&decide (es.size>1))=true:=hc;rw[jM]at h2;cases h2)]
  refine aa ?_;show wpAny _ _ (if(!t.led&& !es.isEmpty)=true then unsupported "set:maker-not-led" else pure ()) _ _ _
  rw[if_neg (by rw[Lz,hb];simp)]
  refine aj ?_;refine aj ?_;have e1:lr w t i=Dq t i:=by unfold lr;rw[hb];rfl
  rw[e1,Dr hr i (by omega)]
  unfold fz at h;rw[hb,if_neg aZ]at h;by_cases eY:i<es.size
  ·have g1:es[i]? =some es[i]:=by simp[eY]
   have g2:t.place[i]? =some t.place[i]:=by simp[hsz,eY]
   rw[g1]at h ⊢;rw[g2];have e2:lr w t (i+1)=t.place[i]+1:=by unfold lr Dq;rw[hb];simp[hsz,eY]
   rw[e2]at h;exact h
  ·have g1:es[i]? =none:=by simp;omega
   rw[g1]at h ⊢;exact h
end
end ST
namespace ST
open PySem PySem.Spec PyProof.Rows DL SetTable
theorem sd:Slot "set_iterator" "__iter__" "set_iterator.__iter__":=
 .of (owner:="set_iterator") (n:="__iter__") (by rw[typeLookup_type,builtinLookup_eq_fast];kernel_rfl) (by decide +kernel) (by decide +kernel) (by decide +kernel)
  (by first|exact .inl (by decide +kernel)|exact .inr (by decide +kernel)) (by rw[isSubtype_type];kernel_rfl)
theorem zC (a:cw):argsOk "set_iterator.__iter__" ⟨[a],[]⟩:=by unfold argsOk;kernel_rfl
theorem xx:entryFor table "set_iterator.__iter__"=some Builtin.«dict_keyiterator.__iter__»:=
 entryFor_alias (id':="dict_keyiterator.__iter__") (by kernel_rfl) (by first|rfl|decide +kernel) (by decide +kernel) (by kernel_rfl)
theorem v7:entryFor table "set.__iter__"=some Builtin.«frozenset.__iter__»:=
 entryFor_alias (id':="frozenset.__iter__") (by kernel_rfl) rfl (by decide +kernel) (by kernel_rfl)
structure mF (w:cA) (h:Heap) (S:cD) (es:Array (Int×cw)) (ep:Nat) (t:cC):Prop where
 at_:∃o,h.get? S=some o/\o.ExactSet/\o.data=.set es ep t
 fits:t.fits es.size=true
 rise:fm t.place.toList
 plain:t.plain=true
 led:t.led= !w.params.followText "set-order"
section
variable {prog:cz}{w:cA}{A:cB}{E:cg}{s:cx}
theorem ED {I S:cD}{es:Array (Int×cw)}{ep:Nat}{t:cC}{i:Nat}(hI:s.heap.get? I=some (v5 (lr w t i:Nat) i S es.size ep)) (hS:mF w s.heap S es ep t) (hi:i<=es.size)
  {Q:PySem.Fin->cx->Prop}(h1:∀e h',(fz w S ep es)[i]? =some e->h'.get? I=some (v5 (lr w t (i+1):Nat) (i+1) S es.size ep)->Heap.SameBut I s.heap h'->Q (.done (.ret e.2)) {s with heap:=h'})
  (h2:(fz w S ep es)[i]? =none->wpAny (model prog w) A (setField (.ref I) 2 .none>>=λ_=>newExc (.type "StopIteration") []>>=λe=>raiseNew e) Q E s):
  wpAny (model prog w) A (Builtin.«set_iterator.__next__» ⟨[.ref I],[]⟩) Q E s:=by
 obtain⟨o,ho,hex,hd⟩:=hS.at_;unfold Builtin.«set_iterator.__next__» slotArgs;simp only[List.isEmpty_nil,bT,aH,↓reduceIte,bind_assoc,List.length_nil,bne_self_eq_false];refine aa (aj ?_);refine aa (wpAny_fieldsOf hI rfl ?_);show wpAny (model prog w) A (setEntries S>>=_) Q E s;refine aa (wpAny_setEntries_of ho hd hS.fits ?_);have hsz:(((es.size:Nat):Int)!=((es.size:Nat):Int))=false:=by simp
 show wpAny _ _ (if(((es.size:Nat):Int)!=((es.size:Nat):Int))=true then _ else _) _ _ _
 rw[if_neg (by rw[hsz];exact aZ)]
 show wpAny _ _ (setNext S (((lr w t i:Nat):Int).toNat) (((i:Nat):Int).toNat) (((ep:Nat):Int).toNat)>>=_) _ _ _;rw[Int.toNat_natCast,Int.toNat_natCast,Int.toNat_natCast];refine aa (Ds ho hd hS.fits hS.rise hS.plain hS.led i hi ?_);cases hx:(fz w S ep es)[i]? with
 |none=>exact h2 hx
 |some e=>
  dsimp only[bA];refine aa (wpAny_setField_rec hI (by simp) λha WG UY=>?_)
  refine aa (wpAny_setField_rec WG (by simp) λhb YX Fw=>?_)
  exact aj (h1 e hb hx YX (UY.trans Fw))
theorem nj (w:cA) (S:cD) (ep:Nat) (es:Array (Int×cw)):(fz w S ep es).size=es.size:=by
 unfold fz;split
 ·have:=(tL (w.params.setOrder S ep) es).length_eq
  simpa using this
 ·rfl
theorem mF.mono {h h':Heap}{S:cD}{es:Array (Int×cw)}{ep:Nat}{t:cC}(a:mF w h S es ep t) (k:∀o,h.get? S=some o->h'.get? S=some o):mF w h' S es ep t:=
 ⟨let ⟨o,h1,h2⟩:=a.at_;⟨o,k o h1,h2⟩,a.fits,a.rise,a.plain,a.led⟩
theorem Gg (hh:A.handled=none) (I S:cD) (jr:S≠I) (es:Array (Int×cw)) (ep:Nat) (t:cC):
  Walks prog w A I [I,S] [I] es.size (λi v=>∃e,(fz w S ep es)[i]? =some e/\v=e.2) (λi h=>h.get? I=some (v5 (lr w t i:Nat) i S es.size ep)/\mF w h S es ep t)where
 sub:=λb hb=>by simp at hb;simp[hb]
 frame:=λi h h' st hk=>⟨hk I (by simp) _ st.1,st.2.mono λo e=>hk S (by simp) o e⟩
 item:=λi s Q E hi st hQ=>by
  have hT:s.TypeIs (.ref I) "set_iterator":=⟨_,st.1,rfl⟩;unfold pyNext;refine aa (wpAny_attempt (wpAny_callSpecial?_slot (name:=Str.ofString "__next__") hT iC (bM iC hT qG ?_ (r9 _))));refine ED st.1 st.2 (bg hi) (λe h' hx WH hs=>?_) λhn=>?_
  ·exact⟨_,rfl,aj (hQ e.2 h' s.toks ⟨e,hx,rfl⟩ ⟨WH,st.2.mono λo e=>(hs.2 S jr).trans e⟩ λb o hb e=>(hs.2 b (by simpa using hb)).trans e)⟩
  ·have:i<(fz w S ep es).size:=by rw[nj];exact hi
   rw[aU this]at hn;cases hn
 done:=λs Q E st hQ=>by
  have hT:s.TypeIs (.ref I) "set_iterator":=⟨_,st.1,rfl⟩;unfold pyNext;refine aa (wpAny_attempt (wpAny_callSpecial?_slot (name:=Str.ofString "__next__") hT iC (bM iC hT qG ?_ (r9 _))));refine ED st.1 st.2 (au _) (λe h' hx WH hs=>?_) λhn=>?_
  ·have:¬ es.size<(fz w S ep es).size:=by rw[nj];omega
   rw[Array.getElem?_eq_none (by omega)]at hx;cases hx
  ·refine aa (wpAny_setField_rec st.1 (by simp) λha WG UY=>?_)
   refine aa ?_;simp only[newExc,newTuple];refine aa (bR ?_ (by size_fits))
   refine aa (m:=firstArgMember _ _) (wpAny_of_eq (a:=Value.none) (by first|rfl|(simp only[firstArgMember];rfl)) ?_)
   refine bR ?_ (by size_fits)
   simp only[raiseNew];refine aa (wpAny_handled ?_)
   first|rw[show A.in1.handled=none from hh]|rw[hh]
   refine aa (aj (wpAny_throw ?_));refine aa (wpAny_isInstance (T:="StopIteration") (b:=true) ⟨_,ay _ rfl,rfl⟩ isSubtype_stop ?_);exact aj (hQ _ s.toks λb o hb e=>ag _ (ag _ ((UY.2 b (by simpa using hb)).trans e)))
 self:=λi s Q E st hQ=>by
  have hT:s.TypeIs (.ref I) "set_iterator":=⟨_,st.1,rfl⟩;refine wpAny_pyIter_slot hT sd (bM sd hT xx ?_ (zC _));show wpAny _ _ (ret (.ref I)) _ _ s;exact aj ⟨_,rfl,"set_iterator",_,hT,iC.lookup,hQ⟩
theorem IW {S:cD}{es:Array (Int×cw)}{ep:Nat}{t:cC}(hS:mF w s.heap S es ep t) {Q:cg}
  (h:Q (.ref s.heap.objs.size) {s with heap:=s.heap.push (v5 0 0 S es.size ep)}):wpAny (model prog w) A (pyIter (.ref S)) Q E s:=by
 obtain⟨o,ho,hex,hd⟩:=hS.at_;have hT:s.TypeIs (.ref S) "set":=⟨o,ho,hex.1⟩;refine wpAny_pyIter_slot hT PySem.F.slot_set_iter (bM PySem.F.slot_set_iter hT v7 ?_ (PySem.F.args_set_iter_1 _));unfold Builtin.«frozenset.__iter__» Builtin.Frozenset.slot0 slotArgs;simp only[List.isEmpty_nil,bT,aH,↓reduceIte,bind_assoc,List.length_nil,bne_self_eq_false];unfold Builtin.Frozenset.addrOf Builtin.Frozenset.sizeOf;refine aa (aj ?_);try dsimp only
 refine aa (aj ?_);refine aa (aa (wpAny_setEntries_of ho hd hS.fits (aj ?_)));unfold setDrawn;refine aa (aa (wpAny_setState_of ho hd hS.fits ?_));dsimp only;unfold setsByText;refine aa (aa (wpAny_askSetting (aj ?_)));refine aj ?_;rw[if_neg (λhc=>by
  have h2:(!w.params.followText "set-order"&&(!t.plain&&decide (es.size>1)))=true:=hc;rw[hS.plain,bT,Bool.false_and,Bool.and_false]at h2;cases h2)]
 refine aa (aj ?_);refine aa (wpAny_setEpoch_of ho hd hS.fits ?_);exact aa (bR (aj ⟨_,rfl,"set_iterator",_,⟨_,ay _ rfl,rfl⟩,iC.lookup,h⟩))
end
end ST
namespace ST
open PySem PySem.Spec PyProof.Rows DL SetTable
section
variable {prog:cz}{w:cA}{A:cB}{E:cg}{s:cx}
theorem O9 {α:Type}{M:Model}{c:Prop} [Decidable c] {x y:Sem α}{Q:α->cx->Prop}(hc:c) (h:wpAny M A x Q E s):wpAny M A (if c then x else y) Q E s:=by rw[if_pos hc];exact h
theorem IX {S:cD}{es:Array (Int×cw)}{ep:Nat}{t:cC}(hS:mF w s.heap S es ep t) {Q:Bool->cx->Prop}(h:Q false s):wpAny (model prog w) A (Builtin.List.listLengthHint (.ref S)) Q E s:=by
 obtain⟨o,ho,hex,hd⟩:=hS.at_;have hT:s.TypeIs (.ref S) "set":=⟨o,ho,hex.1⟩;unfold Builtin.List.listLengthHint;refine aa (wpAny_specialOf hT PySem.F.slot_set_len.lookup ?_);dsimp only;have J3:splitId "set.__len__"=some ("set","__len__"):=by decide +kernel
 rw[J3];dsimp only;refine aa (wpAny_isInstance hT sub_set_self ?_);simp only[bT,aH,bD];refine O9 (by decide +kernel) ?_
 refine aa (wpAny_typeOf hT ?_);exact aj h
theorem pe {S:cD}{es:Array (Int×cw)}{ep:Nat}{t:cC}{Q:cv->cx->Prop}(hh:A.handled=none) (hS:mF w s.heap S es ep t) (hn:es.size<=1000)
  (hQ:∀h' tk acc,(∀b o,s.heap.get? b=some o->h'.get? b=some o)->acc=(fz w S ep es).toList.map (·.2)->s.heap.objs.size<h'.objs.size->Q acc {s with heap:=h',toks:=tk}):wpAny (model prog w) A (collect (.ref S)) Q E s:=by
 obtain⟨o,ho,hex,hd⟩:=hS.at_;have LC:S<s.heap.objs.size:=az ho;unfold collect;refine aa (wpAny_runValue (codeAny_builtin PySem.F.entry_proto_collect ?_));rw[bX PySem.F.plain_proto_collect _];show wpAny _ A.in1 (newList []>>=λl=>again (.builtin "list.__iadd__" ⟨[l,.ref S],[]⟩)) _ _ s
 refine aa (bR ?_);refine aj ⟨plainId_quiet PySem.F.plain_list_iadd _,codeAny_builtin PySem.F.entry_list_iadd ?_⟩;rw[bX PySem.F.plain_list_iadd _];generalize UZ:s.heap.push {cls:=.type "list",data:=.seq ([]:cv).toArray}=g1;have Tg:g1.objs.size=s.heap.objs.size+1:=by rw[<-UZ];exact Heap.size_push ..
 have k1:∀b o,s.heap.get? b=some o->g1.get? b=some o:=λb o e=>by rw[<-UZ];exact ag _ e
 have YY:g1.get? s.heap.objs.size=some {cls:=.type "list",data:=.seq ([]:cv).toArray}:=by rw[<-UZ];exact ay _ rfl
 have WI:mF w g1 S es ep t:=hS.mono λo e=>k1 _ _ e
 have YZ:Shared.TypeIs {s with heap:=g1} (.ref S) "set":=⟨o,k1 _ _ ho,hex.1⟩
 show wpAny _ A.in1 (Builtin.List.listExtendWith (.ref s.heap.objs.size) (.ref S) (.ref s.heap.objs.size)) _ _ {s with heap:=g1}
 unfold Builtin.List.listExtendWith;refine aa (wpAny_typeOf YZ ?_);have h1:Builtin.List.listSameRef (.ref s.heap.objs.size) (.ref S)=false:=by simp[Builtin.List.listSameRef];exact bw LC
 have h2:(Value.type "set"==Value.type "list")=false:=by decide
 have h3:(Value.type "set"==Value.type "tuple")=false:=by decide
 simp only[h1,h2,h3,Bool.or_false,aH,bD];refine aa (IW (s:={s with heap:=g1}) WI ?_)
 generalize WJ:g1.push (v5 0 0 S es.size ep)=g2;have k2:∀b o,g1.get? b=some o->g2.get? b=some o:=λb o e=>by rw[<-WJ];exact ag _ e
 have Y0:g2.get? g1.objs.size=some (v5 0 0 S es.size ep):=by rw[<-WJ];exact ay _ rfl
 have Qf:mF w g2 S es ep t:=WI.mono λo e=>k2 _ _ e
 refine aa (bo (IX (s:={s with heap:=g2}) Qf ?_))
 show wpAny _ A.in1 (rule "list.extend.makes-room">>=λ_=>Builtin.List.listTouch (.ref s.heap.objs.size)>>=λ_=>
  again (.builtin "list.extend.loop" ⟨[.ref s.heap.objs.size,.ref g1.objs.size,.ref s.heap.objs.size],[]⟩)) _ _ {s with heap:=g2}
 refine aa (wpAny_rule ?_);refine aa ?_;show wpAny _ A.in1 (updateSeq s.heap.objs.size (·.push .none)>>=λ_=>updateSeq s.heap.objs.size (·.pop)) _ _ {s with heap:=g2}
 have WK:=k2 _ _ YY;refine aa (wpAny_updateSeq WK rfl ?_);have WL:=Heap.get?_update_self (Obj.mapSeq (·.push Value.none)) WK rfl
 refine wpAny_updateSeq WL rfl ?_;have WM:=Heap.get?_update_self (Obj.mapSeq (·.pop)) WL rfl
 generalize Y1:(g2.update s.heap.objs.size (Obj.mapSeq (·.push Value.none))).update s.heap.objs.size (Obj.mapSeq (·.pop))=g3 at WM
 have U0:∀b o,b≠s.heap.objs.size->g2.get? b=some o->g3.get? b=some o:=λb o hb e=>by
  rw[<-Y1];exact(bx _ _ (Ne.symm hb)).trans ((bx _ _ (Ne.symm hb)).trans e)
 have Dp:S≠g1.objs.size:=by rw[Tg];exact aD (Nat.lt_succ_of_lt LC)
 have W:=(Gg (prog:=prog) (w:=w) (A:=A.in1) hh g1.objs.size S Dp es ep t).toS;have Y2:s.heap.objs.size∉[g1.objs.size,S]:=by
  rw[Tg];simp only[List.mem_cons,bH,or_false,not_or];exact⟨aD (Nat.lt_succ_self _),bw LC⟩
 have UX:((lr w t 0:Nat):Int)=0:=by unfold lr Dq;split<;>rfl
 refine aj ⟨plainId_quiet PySem.F.plain_extend_loop _,codeAny_extend_loopS W (aB hn (by decide)) _ Y2 _ es.size 0 _ _ _ rfl (bL _) ⟨?_,?_⟩ WM (ItemsOf.nil _) λs' lx c' hm Th oG=>?_⟩
 ·show g3.get? g1.objs.size=some (v5 (lr w t 0:Nat) 0 S es.size ep);rw[UX];exact U0 _ _ (by rw[Tg];exact bw (Nat.lt_succ_self _)) Y0
 ·exact Qf.mono λo e=>U0 _ _ (aD LC) e
 ·obtain⟨h',g',d',An,Kp⟩:=s';have eg:g'=s.gens:=hm.gens;have ed:d'=s.drawn:=hm.drawn;have eo:Kp=s.os:=hm.os;subst eg ed eo;show wpAny _ A (load s.heap.objs.size>>=_) _ _ _;refine aa (wpAny_load Th ?_);refine aj (hQ h' An lx.toList (λb o e=>?_) ?_ (az Th))
  ·have hb:b<s.heap.objs.size:=az e;refine hm.heap b o ?_ (U0 b o (aD hb) (k2 b o (k1 b o e)));simp only[List.mem_cons,bH,or_false,not_or];exact⟨aD hb,by rw[Tg];exact aD (Nat.lt_succ_of_lt hb)⟩
  ·refine List.ext_getElem? λj=>?_
   rw[av];have hsz:=oG.1;have hwz:=nj w S ep es;by_cases hj:j<es.size
   ·have WN:j<lx.size:=by omega
    have Ug:j<(fz w S ep es).size:=by omega
    obtain⟨e,he,hv⟩:=oG.2 j lx[j] (aU WN);have Td:(fz w S ep es).toList[j]? =some e:=by simpa using he
    rw[Td];show lx.toList[j]? =some e.2;rw[<-hv];simp[WN]
   ·have e1:lx.toList[j]? =none:=List.getElem?_eq_none (by rw[aN];omega)
    have e2:(fz w S ep es).toList[j]? =none:=List.getElem?_eq_none (by rw[aN];omega)
    rw[e1,e2];rfl
end
end ST
namespace ST
open PySem PySem.Spec PySem.W PyProof.Rows DL SetTable
section
variable {prog:cz}{w:cA}{A:cB}{E:cg}{s:cx}{h₀:Heap}{L:cD}{m:cj}{news:ck}{vs:cv}
theorem sortedS {S:cD}{es:Array (Int×cw)}{ep:Nat}{t:cC}{Q:cg}(F:Fr h₀ L s.heap m) (N:News h₀ L s.heap news) (hh:A.handled=none) (hS:mF w s.heap S es ep t) (Se:vs=(fz w S ep es).toList.map (·.2)) (h2:2<=vs.length) (CQ:vs.length<64)
  (h:∀D e1 h' tk,Fr h₀ L h' m->News h₀ L h' ((D,seqObj "list" #[] e1)::news)->(∀q∈news,q.1<D)->s.heap.objs.size<=D->
   wpAny (model prog w) A.in1.in1 (keyKind' vs.toArray) (λκ s'=>(kas_sort vs.length).kasWp (kas_ask prog w A.in1.in1 κ vs) (λp D9=>KasFin h₀ L m D e1 (p.toList.map λi=>vs.getD i Value.none) (λs3=>Q (.ref D) s3) D9) s') (λ_ _=>False) {s with heap:=h',toks:=tk}):
  wpAny (model prog w) A (call (.builtin "sorted") [.ref S]) Q E s:=by
 have hlen:es.size=vs.length:=by rw[Se,ae,aN,nj]
 refine Calls.call_function_entry kind_sorted plain_sorted entry_sorted (args_sorted1 _) ?_;unfold Builtin.«sorted»;refine aa (m:=checkCount "sorted" 1 1 _) (aj ?_);refine aa (pe hh hS (by omega) λg tk acc keep oG hg=>?_)
 rw[<-Se]at oG;subst oG;refine aa (wpAny_newList ?_ (by rw[bu];omega))
 have yM:(g.push (seqObj "list" acc.toArray 0)).get? g.objs.size=some (seqObj "list" acc.toArray 0):=ay _ rfl;have iW:∀b o,s.heap.get? b=some o->(g.push (seqObj "list" acc.toArray 0)).get? b=some o:=λb o q=>ag _ (keep b o q)
 have hL:L<s.heap.objs.size:=F.ns.lt;refine aa (bo (bM slot_list_sort ⟨_,yM,rfl⟩ entry_list_sort ?body (args_list_sort _)))
 case body=>
  refine kat_list_sort (s:={s with heap:=g.push (seqObj "list" acc.toArray 0),toks:=tk}) (F.kept iW) (N.grown iW) yM (bw (bG hL hg)) (Heap.get?_none_of_le (aB F.above (bg (bG hL hg))))
   (λp hp=>aD (bG (az (N p hp).1) hg)) h2 CQ λe1 h' F' N'=>?_
  refine bP (h _ e1 h' tk F' N' (λq hq=>bG (az (N q hq).1) hg) (bg hg)) (λκ s' hk=>?_) λ_ _ x=>x
  rw[kat_ask_eq rfl]at hk ⊢;exact kas_wp_mono hk λp D9 Dd=>Dd.mono λs3 hq=>⟨_,rfl,aj ⟨_,rfl,hq⟩⟩
end
end ST
namespace ST
open PySem PySem.Spec PySem.W PyProof.Rows DL SetTable
def TI (h:Heap) (v:cw) (ns:cn):Prop:=∃(a:cD) (o:Obj) (ts:cv) (n:Nat),v=.ref a/\h.get? a=some o/\o.cls=.type "tuple"/\o.data=.seq ts.toArray n/\IntsAre ts ns
section
variable {prog:cz}{w:cA}{A:cB}{E:cg}{s:cx}
theorem EE:∀(vs:cv) {Q:List (Option cw)->cx->Prop},(∀v∈vs,∃ns,TI s.heap v ns)->(∀fs:List (Option cw),fs.length=vs.length->(∀f∈fs,∀v,f=some v->∃i t,v=Value.int i t)->Q fs s)->wpAny (model prog w) A (vs.mapM firstOfTuple') Q E s
 |[],_,_,h=>by rw[List.mapM_nil];exact aj (h [] rfl λf hf=>by cases hf)
 |v::vs,Q,t,h=>by
  obtain⟨ns,a,o,ts,n,rfl,ho,hc,hd,hi⟩:=t v af;rw[List.mapM_cons];refine aa ?_;rw[kas_first_eq];refine aa (Looks.here (show Looks (model prog w) s.heap (typeOf (.ref a)) o.cls from(Looks.ld ho).andThen .now) ?_)
  rw[hc,if_neg (by first|decide|simp)]
  refine aa (listItems_at ho hd (aj ?_));refine aa (EE vs (Q:=λbs s'=>wpAny (model prog w) A (pure (ts.toArray[0]? ::bs)) Q E s') (λv hv=>t v (ai _ hv)) λfs hl hf=>aj (h _ (by simp[hl]) λf hm v hv=>?_))
  rcases List.mem_cons.mp hm with rfl|hm
  ·cases hi with
   |nil=>simp at hv
   |cons i t r=>
    simp at hv;exact⟨i,t,hv.symm⟩
  ·exact hf f hm v hv
theorem MX {vs:cv}{Q:SortKind->cx->Prop}(t:∀v∈vs,∃ns,TI s.heap v ns) (h:∀κ,(κ=tuples' true\/κ=tuples' false)\/κ=general'\/κ=oneType'->Q κ s):wpAny (model prog w) A (keyKind' vs.toArray) Q E s:=by
 rw[kat_kind_eq,List.mapM_toArray,map_eq_pure_bind];refine aa (aa (EE vs t λfs hl hf=>aj ?_))
 split
 ·refine aa (wpAny_rule ?_);have Y3:∃l:cv,(fs.toArray.filterMap id)=l.toArray/\∀v∈l,∃i t,v=Value.int i t:=by
   refine⟨fs.filterMap id,by simp,λv hv=>?_⟩
   obtain⟨f,hm,he⟩:=List.mem_filterMap.mp hv;exact hf f hm v he
  obtain⟨l,e1,e2⟩:=Y3;rw[e1,oneTypeOnly'_eq,List.mapM_toArray,map_eq_pure_bind];refine aa (aa (aa (kas_mapM (r:=Value.type "int") _ (λv hv Q' hq=>?_) (aj ?_))))
  ·obtain⟨i,t',rfl⟩:=e2 v hv;exact aj hq
  ·have fin:∀b,Q (tuples' b) s:=λb=>by cases b<;>exact h _ (.inl (by first|exact .inl rfl|exact .inr rfl))
   split
   ·exact aj (aj (fin _))
   ·exact aj (aj (fin _))
 ·split
  ·exact aj (h _ (.inr (.inl rfl)))
  ·rw[oneTypeOnly'_eq,List.mapM_toArray,map_eq_pure_bind];refine aa (aa (aa (kas_mapM (r:=Value.type "tuple") _ (λv hv Q' hq=>?_) (aj ?_))))
   ·obtain⟨ns,a,o,ts,n,rfl,ho,hc,hd,hi⟩:=t v hv;have:=Looks.here (M:=model prog w) (A:=A) (E:=E) (show Looks (model prog w) s.heap (typeOf (.ref a)) o.cls from(Looks.ld ho).andThen .now) (Q:=Q')
    rw[hc]at this;exact this hq
   ·split
    ·refine aj (aj ?_);split
     ·exact h _ (.inr (.inr rfl))
     ·exact h _ (.inr (.inl rfl))
    ·exact aj (aj (h _ (.inr (.inl rfl))))
theorem Sf {x y:cw}{ns ms:cn}{κ:SortKind}{Q:Bool->cx->Prop}(hx:TI s.heap x ns) (hy:TI s.heap y ms) (hu:A.units+8<cLine) (hκ:(κ=tuples' true\/κ=tuples' false)\/κ=general'\/κ=oneType') (h:Q (HT.lexLt ns ms) s):
  wpAny (model prog w) A (keyLt' κ x y) Q E s:=by
 obtain⟨a,o,ts,n,rfl,ho,hc,hd,hi⟩:=hx;obtain⟨a',o',Rt,n',rfl,kN,m3,Mh,xf⟩:=hy;have t1:IsTup s.heap a ts.toArray:=⟨o,ho,hc,n,hd⟩;have t2:IsTup s.heap a' Rt.toArray:=⟨o',kN,m3,n',Mh⟩;rcases hκ with hκ|rfl|rfl
 ·have key:∀b,wpAny (model prog w) A (keyLt' (tuples' b) (.ref a) (.ref a')) Q (λ_ _=>False) s:=λb=>by
   refine W.kat_lt ho hd kN Mh ?_;have s1:ts.toArray.size=ns.length:=by rw[aq,hi.length]
   have s2:Rt.toArray.size=ms.length:=by rw[aq,xf.length]
   refine L2.oZ _ _ ns ms 0 _ (by simpa using hi) (by simpa using xf) (.inr trivial) ?_ h
   rw[s1,s2];by_cases h:ns.length<ms.length
   ·rw[if_pos h];exact aR h
   ·rw[if_neg h];exact aG h
  rcases hκ with rfl|rfl
  ·exact bP (key true) (λ_ _ x=>x) λ_ _ x=>x.elim
  ·exact bP (key false) (λ_ _ x=>x) λ_ _ x=>x.elim
 ·show wpAny (model prog w) A (oneLt' false (.ref a) (.ref a')) Q E s;refine kat_one _ _ (HT.Ct t1 t2 (by simpa using hi) (by simpa using xf) (by omega) ?_)
  exact h
 ·rw[keyLt'_oneType,oneLt'_eq];simp only[if_true];refine aa (wpAny_cRoomFor (by omega) ?_)
  obtain⟨⟨cls,dd,data,sl⟩,sR,WR,n1,WT⟩:=t1;obtain⟨⟨NL,J4,data2,Hk⟩,uA,ub,n2,hd2⟩:=t2;simp only at WR WT ub hd2;subst WR WT ub hd2;refine aa (wpAny_callSpecialIfBound?_slot ⟨_,sR,rfl⟩ PySem.F.slot_tuple_lt ?_);refine call_meets PySem.F.slot_tuple_lt ⟨_,sR,rfl⟩ PySem.F.entry_tuple_lt (PySem.F.args_tuple_lt_2 _ _) (HT.qx a a' ts.toArray Rt.toArray n1 n2 dd J4 sl Hk ns ms (by simpa using hi) (by simpa using xf)) ⟨sR,uA,?_⟩
  exact bQ h
end
end ST
namespace ST
open PySem PySem.Spec PySem.W PyProof.Rows DL SetTable L2
section
variable {prog:cz}{w:cA}{A:cB}{E:cg}{s:cx}
theorem Dt {T:Heap}{a:cD}{vs:cv}{tk:Nat}{Q:cg}(o1:T.get? a=some (seqObj "list" vs.toArray 0)) (h2:vs.length<2)
  (h:∀h' c,h'.get? a=some (seqObj "list" vs.toArray c)->(∀b o,b≠a->T.get? b=some o->h'.get? b=some o)->Q .none {s with heap:=h',toks:=tk}):
  wpAny (model prog w) A (call (.builtin "list.sort") [.ref a]) Q E {s with heap:=T,toks:=tk}:=by
 have ha:a<T.objs.size:=az o1;refine bM slot_list_sort ⟨_,o1,rfl⟩ entry_list_sort ?_ (args_list_sort _);rw[list_sort_plain];refine aa (listItems_at o1 rfl (aa (listUpdate_at o1 rfl ?_ (hsz:=by rw[aq,bu];omega))))
 obtain⟨e1,sR⟩:∃e1,(T.update a (Obj.mapSeq λ_=>#[])).get? a=some (seqObj "list" #[] e1):=⟨_,get?_update_seq o1 (λ_=>#[])⟩
 refine aa (seqEpoch_at sR rfl (aa (wpAny_newTuple (aa (wpAny_newList (bo ?_))) (by show vs.length<=_;rw[bu];omega))))
 have OI:(((T.update a (Obj.mapSeq λ_=>#[])).push (seqObj "tuple" vs.toArray 0)).push (seqObj "list" #[] 0)).get? a=some (seqObj "list" #[] e1):=ag _ (ag _ sR)
 have WU:∀b o,b≠a->T.get? b=some o->(((T.update a (Obj.mapSeq λ_=>#[])).push (seqObj "tuple" vs.toArray 0)).push (seqObj "list" #[] 0)).get? b=some o:=λb o hb e=>ag _ (ag _ ((bx _ _ (Ne.symm hb)).trans e))
 show wpAny (model prog w) _ _ _ _ {s with heap:=((T.update a (Obj.mapSeq λ_=>#[])).push (seqObj "tuple" vs.toArray 0)).push (seqObj "list" #[] 0),toks:=tk}
 generalize ((T.update a (Obj.mapSeq λ_=>#[])).push (seqObj "tuple" vs.toArray 0)).push (seqObj "list" #[] 0)=U at OI WU
 dsimp only;have hsz:vs.toArray.size<2:=by rw[aq];exact h2
 rw[if_pos hsz,if_pos hsz];refine aa (aj ?_);rw[StateT.run_pure];refine aa (aj ?_);dsimp only;have CS:(vs.toArray.zip vs.toArray).map (·.2)=vs.toArray:=by
  apply Array.toList_inj.mp
  rw[Array.toList_map,Array.toList_zip];exact vC vs
 rw[show(arrOf (SortSt.mk' general' (vs.toArray.zip vs.toArray) #[] 7 none))=vs.toArray.zip vs.toArray from rfl]at *
 refine aa (seqEpoch_at OI rfl (aa (listUpdate_at OI rfl ?_ (hsz2:=by rw[CS,aq,bu];omega))))
 rw[CS];simp only[bne_self_eq_false,aH,bD];obtain⟨c,hc⟩:∃c,(U.update a (Obj.mapSeq λ_=>vs.toArray)).get? a=some (seqObj "list" vs.toArray c):=⟨_,get?_update_seq OI (λ_=>vs.toArray)⟩
 exact aj ⟨_,rfl,h _ c hc λb o hb e=>(bx _ _ (Ne.symm hb)).trans (WU b o hb e)⟩
theorem xy {S:cD}{es:Array (Int×cw)}{ep:Nat}{t:cC}{vs:cv}{Q:cg}(hh:A.handled=none) (hS:mF w s.heap S es ep t) (Se:vs=(fz w S ep es).toList.map (·.2)) (h2:vs.length<2)
  (h:∀D h' c tk,h'.get? D=some (seqObj "list" vs.toArray c)->s.heap.objs.size<=D->(∀b o,s.heap.get? b=some o->h'.get? b=some o)->Q (.ref D) {s with heap:=h',toks:=tk}):
  wpAny (model prog w) A (call (.builtin "sorted") [.ref S]) Q E s:=by
 have hlen:es.size=vs.length:=by rw[Se,ae,aN,nj]
 refine Calls.call_function_entry kind_sorted plain_sorted entry_sorted (args_sorted1 _) ?_;unfold Builtin.«sorted»;refine aa (m:=checkCount "sorted" 1 1 _) (aj ?_);refine aa (pe hh hS (by omega) λg tk acc keep oG hg=>?_)
 rw[<-Se]at oG;subst oG;refine aa (wpAny_newList ?_ (by rw[bu];omega))
 have yM:(g.push (seqObj "list" acc.toArray 0)).get? g.objs.size=some (seqObj "list" acc.toArray 0):=ay _ rfl;refine aa (bo (Dt (s:=s) (T:=g.push (seqObj "list" acc.toArray 0)) (tk:=tk) yM h2 λh' c hD kp=>?_))
 refine aj ⟨_,rfl,h _ h' c tk hD (bg hg) λb o e=>kp b o ?_ (ag _ (keep b o e))⟩
 exact aD (bG (az e) hg)
end
end ST
namespace ST
open PySem PySem.Spec PySem.W PyProof.Rows DL SetTable L2
theorem A0 {α β:Type}{R:α->cw->β->Prop}:∀(vs:cv),(∀v∈vs,∃a b,R a v b)->∃l:List (α×cw×β),vs=l.map (·.2.1)/\∀p∈l,R p.1 p.2.1 p.2.2
 |[],_=>⟨[],rfl,λp hp=>by cases hp⟩
 |v::vs,h=>by
  obtain⟨a,b,r⟩:=h v af;obtain⟨l,e,hl⟩:=A0 vs λx hx=>h x (ai _ hx)
  refine⟨(a,v,b)::l,by rw[e];rfl,λp hp=>?_⟩
  rcases List.mem_cons.mp hp with rfl|hp
  ·exact r
  ·exact hl p hp
theorem A2 {h:Heap}:∀{ts:cv}{ns:cn},IntsAre ts ns->qW h ts (ns.map D.int)
 |_,_,.nil=>.nil
 |_,_,.cons n t r=>.cons (.int n t) (A2 r)
theorem TI.ki {h:Heap}{v:cw}{ns:cn}(t:TI h v ns):KI h v (.tup (ns.map D.int)):=by
 obtain⟨a,o,ts,n,rfl,ho,hc,hd,hi⟩:=t;exact .tup ho hc hd (by simpa using A2 hi)
noncomputable instance:Nonempty D:=⟨.fN⟩
noncomputable def keyOf (h:Heap) (v:cw):D:=Classical.epsilon (KI h v)
theorem A3 {h:Heap}{v:cw}{d:D}(k:KI h v d):keyOf h v=d:=(Classical.epsilon_spec (p:=KI h v) ⟨d,k⟩).inj k
theorem Dk.keys {P:cw->Prop}{h:Heap}{es:List (Int×cw)}{ds:cu}(e:Dk P h es ds):ds=es.map λx=>keyOf h x.2:=by
 refine List.ext_getElem? λi=>?_
 rw[av];cases hx:es[i]? with
 |none=>
  have:es.length<=i:=List.getElem?_eq_none_iff.mp hx;rw[List.getElem?_eq_none (by rw[<-e.1];exact this)];rfl
 |some x=>
  obtain⟨d,h1,h2⟩:=e.2 i x hx;rw[h1];exact congrArg some (A3 h2.ki).symm
section
variable {X:Cx}
theorem Gh {P:cw->Prop}{R0:cD->cn->Prop}{pins:ck}{σ:L2.St}{H:Hp}{s:cx}(I:Inv X pins σ H s) {S:cD}{ds:cu}{es:Array (Int×cw)}{ep:Nat}(hE:Dk P s.heap es.toList ds)
  (U1:∀v,P v->∃(b:cD) (ns:cn),v=.ref b/\iU X.K H b (ns.map V.int)/\R0 b ns):
  ∃l:List (cD×cn),(fz X.w S ep es).toList.map (·.2)=l.map (λp=>Value.ref p.1)/\(∀p∈l,(iU X.K H p.1 (p.2.map V.int)/\R0 p.1 p.2)/\TI s.heap (.ref p.1) p.2)/\(l.map λp=>D.tup (p.2.map D.int)).Perm ds:=by
 have oz:(fz X.w S ep es).toList.Perm es.toList:=by
  unfold fz;split
  ·exact tL _ es
  ·exact List.Perm.refl _
 obtain⟨l,e1,e2⟩:=A0 (R:=λ(b:cD) v (ns:cn)=>v=.ref b/\(iU X.K H b (ns.map V.int)/\R0 b ns)/\TI s.heap v ns) ((fz X.w S ep es).toList.map (·.2)) λv hv=>by
  obtain⟨e,he,rfl⟩:=List.mem_map.mp hv;obtain⟨i,hi⟩:=bp (oz.mem_iff.mp he);obtain⟨d,_,h2⟩:=hE.2 i e hi;obtain⟨b,ns,h3,h4,Y4⟩:=U1 _ h2.src;obtain⟨ts,r2,⟨o,ho,hc,n,hd⟩,_⟩:=I.tuple h4;exact⟨b,ns,h3,⟨h4,Y4⟩,b,o,ts,n,h3,ho,hc,hd,intsAre_of r2⟩
 refine⟨l.map λp=>(p.1,p.2.2),?_,λp hp=>?_,?_⟩
 ·rw[e1,aV];exact bS λp hp=>(e2 p hp).1
 ·obtain⟨q,hq,rfl⟩:=List.mem_map.mp hp;obtain⟨a1,a2,a3⟩:=e2 q hq;exact⟨a2,by rw[<-a1];exact a3⟩
 ·have h5:(((fz X.w S ep es).toList.map (·.2)).map (keyOf s.heap)).Perm ds:=by
   rw[aV,hE.keys];exact oz.map _
  rw[e1,aV]at h5;rw[aV];have h6:(l.map ((keyOf s.heap)∘λp=>p.2.1))=l.map ((λp:cD×cn=>D.tup (p.2.map D.int))∘λp=>(p.1,p.2.2)):=bS λp hp=>A3 (e2 p hp).2.2.ki
  rw[<-h6];exact h5
theorem v8 {P:cw->Prop}{R0:cD->cn->Prop}{pins:ck}{σ:L2.St}{H:Hp}{s:cx}(hc:X.calm=true) (hu:X.A.units+64<cLine) (I:Inv X pins σ H s) {S:cD}{ds:cu}(kO:uG P (!X.w.params.followText "set-order") s.heap S ds) (hn:ds.length<64)
  (U1:∀v,P v->∃(b:cD) (ns:cn),v=.ref b/\iU X.K H b (ns.map V.int)/\R0 b ns) {Q:VK}
  (q:∀(D0:cD) (l:List (cD×cn)),H D0=none->(∀p∈l,R0 p.1 p.2)->(l.map (·.2)).Pairwise (λa b=>HT.lexLt b a=false)->(l.map λp=>D.tup (p.2.map D.int)).Perm ds->Q (.ref D0) (upd H D0 (.lst (l.map λp=>V.ref p.1)))):
  wpAny (model X.prog X.w) X.A (call (.builtin "sorted") [.ref S]) (EP X pins σ Q) X.xe s:=by
 obtain⟨o,es,ep,t,ho,hex,hd,W,hE,_,jM,Lz⟩:=kO.ex;have Ti:mF X.w s.heap S es ep t:=⟨⟨o,ho,hex,hd⟩,W.fits,W.tb.rise,jM,Lz⟩;obtain⟨l,e1,e2,e3⟩:=Gh (S:=S) (ep:=ep) I hE U1;have hlen:l.length=ds.length:=by have:=e3.length_eq;rwa [ae]at this
 have hh:X.A.handled=none:=I.ok.hd hc;by_cases h2:2<=l.length
 ·obtain⟨m,F⟩:=I.fr;have N:News X.base X.env.locals s.heap (jt X.base s.heap X.env.locals):=vd;have U2:(l.map λp=>Value.ref p.1).length=l.length:=by rw[ae]
  refine sortedS (vs:=l.map λp=>Value.ref p.1) F N hh Ti e1.symm (by omega) (by omega) λD0 e0 h' tk F' N' eY uF=>?_
  have Cz:s.heap.get? D0=none:=Heap.get?_none_of_le uF;have uf:∀{h':Heap}{o1:Obj},Fr X.base X.env.locals h' m->News X.base X.env.locals h' ((D0,o1)::jt X.base s.heap X.env.locals)->∀b o,b≠X.env.locals->s.heap.get? b=some o->h'.get? b=some o:=λ{h' o1} F' N' b o hb e=>by
   cases g:X.base.get? b with
   |some u=>
    have:=I.bk b u g;rw[e]at this;cases this;exact F'.keep b _ g
   |none=>exact(N' (b,o) (.tail _ (my hb g e))).1
  have qD:=uf F' N';have Pa:∀p∈l,TI h' (.ref p.1) p.2:=λp hp=>by
   obtain⟨a,o,ts,n,ea,ho,hc,hd,hi⟩:=(e2 p hp).2;cases ea;refine⟨_,o,ts,n,rfl,qD _ o (λz=>?_) ho,hc,hd,hi⟩
   obtain⟨oL,es,ep,hL,Rq,_⟩:=F.ns;rw[z,hL]at ho;cases ho;rw[Rq]at hd;cases hd
  refine MX (s:={s with heap:=h',toks:=tk}) (λv hv=>?_) λκ hκ=>?_
  ·obtain⟨p,hp,rfl⟩:=List.mem_map.mp hv;exact⟨p.2,Pa p hp⟩
  rw[U2];have kD:∀i,i<l.length->(l.map λp=>Value.ref p.1).getD i Value.none=.ref (l.getD i (0,[])).1/\l.getD i (0,[])∈l:=λi hi=>by
   rw[ak,av,ak,ah hi];exact⟨rfl,List.getElem_mem hi⟩
  have cmp:∀i j (R:Bool->cx->Prop),i<l.length->j<l.length->R (HT.lexLt ((l.map (·.2)).getD i []) ((l.map (·.2)).getD j [])) {s with heap:=h',toks:=tk}->kas_ask X.prog X.w X.A.in1.in1 κ (l.map λp=>Value.ref p.1) i j R {s with heap:=h',toks:=tk}:=λi j R hi hj hR=>by
   show wpAny _ _ (keyLt' _ ((l.map λp=>Value.ref p.1).getD i Value.none) ((l.map λp=>Value.ref p.1).getD j Value.none)) _ _ _
   rw[(kD i hi).1,(kD j hj).1];have g:∀k,k<l.length->(l.map (·.2)).getD k []=(l.getD k (0,[])).2:=λk hk=>by
    rw[ak,av,ak,ah hk];rfl
   rw[g i hi,g j hj]at hR;exact Sf (Pa _ (kD i hi).2) (Pa _ (kD j hj).2) (by show X.A.units+1+1+8<cLine;omega) hκ hR
  refine So.p7 (n:=l.length) cmp _ (So.vB (by omega)) ?_
  obtain⟨s1,s2⟩:=So.vw (lt:=λi j=>HT.lexLt ((l.map (·.2)).getD i []) ((l.map (·.2)).getD j [])) (rank:=λi=>p8 (l.map (·.2)) ((l.map (·.2)).getD i [])) (λi j=>jT (kQ _ _) (kQ _ _)) l.length (by omega)
  generalize So.iu _ (kas_sort l.length)=ar at s1 s2;have pm:ar.toList.Perm (List.range l.length):=by simpa using Array.perm_iff_toList_perm.mp s1
  have sz:ar.size=l.length:=by simpa using s1.size_eq
  have below:∀i∈ar.toList,i<l.length:=λi hi=>by simpa using pm.mem_iff.mp hi
  generalize g9:(ar.toList.map λi=>l.getD i (0,[]))=l'
  have lp:l'.Perm l:=by
   rw[<-g9];have:=pm.map λi=>l.getD i (0,[])
   have e:(List.range l.length).map (λi=>l.getD i (0,[]))=l:=lP l (0,[])
   rw[e]at this;exact this
  have outs:(ar.toList.map λi=>(l.map λp=>Value.ref p.1).getD i Value.none)=l'.map λp=>Value.ref p.1:=by
   rw[<-g9,aV];exact bS λi hi=>(kD i (below i hi)).1
  rw[outs];refine⟨_,_,F',N',.head λp hp=>aD (eY p hp),λh2 c F2 N2=>?_⟩
  have hD:H D0=none:=I.fP.fresh uF;have iW:=uf F2 N2;have Ru:h2.get? D0=some {cls:=.type "list",data:=.seq (l'.map λp=>Value.ref p.1).toArray c}:=(N2 _ (.head _)).1
  refine⟨.ref D0,upd H D0 (.lst (l'.map λp=>V.ref p.1)),?_,rfl,q D0 l' hD (λp hp=>(e2 p (lp.mem_iff.mp hp)).1.2) ?_ ((lp.map _).trans e3)⟩
  ·show Inv X pins σ _ {s with heap:=h2,gens:=s.gens,drawn:=s.drawn,toks:=tk}
   refine I.step (g':=s.gens) (d':=s.drawn) (t':=tk) (ch:=[]) (λ_ z=>nomatch z) (λb o h1 _ _ e _=>iW b o h1 e) (λb o h1 _ _ e _=>⟨o.slots,iW b o h1 e⟩) (λb o _ e hn=>?_) (λb o _ e=>?_) (λb xs e=>?_) (λb o xs e=>?_) (λb ps e=>⟨#[],?_⟩) (λm' hm=>?_) (λb u e=>?_) I.bare
   ·rw[cQ (λz=>by rw[z,Cz]at e;cases e)];exact hn
   ·by_cases hb:b=X.env.locals
    ·obtain⟨o',_,_,e',_⟩:=F2.ns;exact⟨o',by rw[hb];exact e'⟩
    ·exact⟨o,iW b o hb e⟩
   ·rw[cQ (cS e hD)];exact e
   ·rw[cQ (cS e hD)];exact e
   ·rw[cQ (cS e hD),e];simp
   ·rw[CP hm F.ns];exact F2.ns
   ·by_cases hb:b=D0
    ·subst hb;rw[cU]at e;cases e;refine⟨by rw[ae,lp.length_eq];exact bg (jR (by omega)),_,c,?_,Ru⟩
     have aux:∀k:List (cD×cn),Vals (k.map λp=>V.ref p.1) (k.map λp=>Value.ref p.1):=λk=>by
      induction k with
      |nil=>exact .nil
      |cons p k ih=>exact .cons rfl ih
     exact aux l'
    ·rw[cQ hb]at e;refine(I.fP b u e).yJ (λk v hk z=>iW k v ?_ z) (λk z=>by rw[cQ (cS z hD)];exact z) λk xs z=>by rw[cQ (cS z hD)];exact z
     rcases hk with rfl|hk
     ·intro z;rw[z,I.free]at e;cases e
     ·intro z;rw[z,I.free]at hk;cases hk
  ·rw[<-g9,aV,List.pairwise_map,List.pairwise_iff_getElem];intro i j hi hj vp;have xf:i<ar.size:=by simpa using hi
   have GU:j<ar.size:=by simpa using hj
   have le:=s2 i j (bg vp) (by omega)
   unfold So.kk at le;rw[aT,aT,aU xf,aU GU]at le;simp only[Option.getD_some]at le;have g:∀k,k<l.length->(l.map (·.2)).getD k []=(l.getD k (0,[])).2:=λk hk=>by
    rw[ak,av,ak,ah hk];rfl
   have bi:ar[i]<l.length:=below _ (by simp)
   have bj:ar[j]<l.length:=below _ (by simp)
   have e:=jT (nss:=l.map (·.2)) (a:=(l.map (·.2)).getD (ar[j]) []) (b:=(l.map (·.2)).getD (ar[i]) []) (kQ _ _) (kQ _ _)
   simp only[Array.getElem_toList,Function.comp_apply];rw[<-g _ bi,<-g _ bj,e];exact aG (by omega)
 ·refine xy (vs:=l.map λp=>Value.ref p.1) hh Ti e1.symm (by rw[ae];omega) λD0 h' c tk hD uF keep=>?_
  have Fv:H D0=none:=I.fP.fresh uF;refine⟨.ref D0,_,I.laid (t':=tk) (o:=.lst (l.map λp=>V.ref p.1)) keep uF ⟨by rw[ae];exact aB (by omega:l.length<=100) (by decide),_,c,?_,hD⟩,rfl,q D0 l Fv (λp hp=>(e2 p hp).1.2) ?_ e3⟩
  ·clear e1 e2 e3 hlen h2 hD;induction l with
   |nil=>exact .nil
   |cons p l ih=>exact .cons rfl ih
  ·match l,h2 with
   |[],_=>exact List.Pairwise.nil
   |[p],_=>simp
   |_::_::_,h2=>exact absurd (by simp) h2
end
end ST
namespace L2
open PySem PySem.Spec PyProof.Rows
section
variable {κ:Type} [DecidableEq κ]
noncomputable def qu (kvs:List (κ×V)) (k:κ):Option V:=(kvs.find? λkv=>decide (kv.1=k)).map (·.2)
noncomputable def putK (kvs:List (κ×V)) (k:κ) (v:V):List (κ×V):=
 if(kvs.any λkv=>decide (kv.1=k))=true then kvs.map (λkv=>if kv.1=k then(kv.1,v)else kv)else kvs++[(k,v)]
theorem pf {p:κ×V}{r:List (κ×V)}{k:κ}(e:p.1=k):qu (p::r) k=some p.2:=by simp[qu,List.find?_cons,e]
theorem ph {p:κ×V}{r:List (κ×V)}{k:κ}(e:¬ p.1=k):qu (p::r) k=qu r k:=by simp[qu,List.find?_cons,e]
theorem A4 (k:κ):∀kvs:List (κ×V),(kvs.any λkv=>decide (kv.1=k))=(qu kvs k).isSome
 |[]=>rfl
 |p::r=>by
  rw[bF];by_cases e:p.1=k
  ·simp only[pf e,aR e,Bool.true_or,Option.isSome_some]
  ·rw[ph e,aG e,Bool.false_or];exact A4 k r
theorem uh (kvs:List (κ×V)) (k:κ) (v:V):(putK kvs k v).length<=kvs.length+1:=by
 unfold putK;split
 ·rw[ae];omega
 ·rw[aQ,ax,List.length_nil];omega
theorem oM.Gi {o:Option V}{u:Option cw}(r:oM o u):o.isSome=u.isSome:=by
 cases o with
 |none=>cases u with
  |none=>rfl
  |some _=>exact(show False from r).elim
 |some _=>cases u with
  |none=>exact(show False from r).elim
  |some _=>rfl
theorem oM.getD {o:Option V}{u:Option cw}{d:V}{d':cw}(r:oM o u) (rd:RelV d d'):RelV (o.getD d) (u.getD d'):=by
 cases o with
 |none=>cases u with
  |none=>exact rd
  |some _=>exact(show False from r).elim
 |some _=>cases u with
  |none=>exact(show False from r).elim
  |some _=>exact r
theorem KV.val {kvs:List (κ×V)}{vs:List (κ×cw)}(r:KV kvs vs) (k:κ):oM (qu kvs k) (valueAt vs k):=by
 unfold KV at r;induction r with
 |nil=>exact True.intro
 |@cons p q ps qs h t ih=>
  obtain⟨h1,h2⟩:=h;by_cases e:p.1=k
  ·have e':q.1=k:=h1.symm.trans e;have b:valueAt (q::qs) k=some q.2:=by simp[valueAt,List.find?_cons,e']
   rw[pf e,b];exact h2
  ·have e':¬ q.1=k:=λz=>e (h1.trans z)
   have b:valueAt (q::qs) k=valueAt qs k:=by simp[valueAt,List.find?_cons,e']
   rw[ph e,b];exact ih
theorem KV.any {kvs:List (κ×V)}{vs:List (κ×cw)}(r:KV kvs vs) (k:κ):(kvs.any λkv=>decide (kv.1=k))=vs.any λkv=>decide (kv.1=k):=by
 unfold KV at r;induction r with
 |nil=>rfl
 |cons h t ih=>rw[bF,bF,ih,h.1]
theorem KV.Pc {kvs:List (κ×V)}{vs:List (κ×cw)}(r:KV kvs vs) (k:κ) {y:V}{u:cw}(ry:RelV y u):
  KV (kvs.map λkv=>if kv.1=k then(kv.1,y)else kv) (vs.map λkv=>if kv.1=k then(kv.1,u)else kv):=by
 unfold KV at r ⊢;induction r with
 |nil=>exact .nil
 |@cons p q ps qs h t ih=>
  rw[aE,aE];refine .cons ?_ ih;obtain⟨h1,h2⟩:=h;by_cases e:p.1=k
  ·rw[if_pos e,if_pos (h1.symm.trans e)];exact⟨h1,ry⟩
  ·rw[if_neg e,if_neg (λz=>e (h1.trans z))];exact⟨h1,h2⟩
theorem KV.put {kvs:List (κ×V)}{vs:List (κ×cw)}(r:KV kvs vs) (k:κ) {y:V}{u:cw}(ry:RelV y u):KV (putK kvs k y) (stored vs k u):=by
 unfold putK stored;rw[r.any k];by_cases e:(vs.any λkv=>decide (kv.1=k))=true
 ·rw[if_pos e,if_pos e];exact r.Pc k ry
 ·rw[if_neg e,if_neg e];exact Paired.snoc r ⟨rfl,ry⟩
theorem KV.keys {kvs:List (κ×V)}{vs:List (κ×cw)}(r:KV kvs vs):kvs.map (·.1)=vs.map (·.1):=by
 unfold KV at r;induction r with
 |nil=>rfl
 |cons h t ih=>rw[aE,aE,ih,h.1]
theorem KV.length {kvs:List (κ×V)}{vs:List (κ×cw)}(r:KV kvs vs):kvs.length=vs.length:=Paired.length r
end
theorem EF {P:cz}{w:cA}{k:Key}{u:cw}(r:RelV (kV k) u):(eU P w).is k u=true:=by
 cases k with
 |inl i=>obtain⟨t,e⟩:=(show ∃t,u=Value.int i t from r);subst e;exact Ao P w i t
 |inr x=>obtain⟨t,e⟩:=(show ∃t,u=Value.str x t from r);subst e;exact Ap P w x t
theorem yn {P:cz}{w:cA}:∀{ks:List Key}{us:cv},Vals (ks.map kV) us->ItemsAre (eU P w) ks us
 |[],_,r=>by rw[List.map_nil]at r;cases r;exact .nil
 |k::ks,_,r=>by
  rw[aE]at r;cases r with
  |cons h t=>exact .cons (EF h) (yn t)
noncomputable abbrev KT (H:Hp):List (List Key×V)->List (List Key×cD×cw)->Prop:=Paired λp q=>p.1=q.1/\H q.2.1=some (.tup (p.1.map kV))/\RelV p.2 q.2.2
theorem KT.val {H:Hp}{kvs:List (List Key×V)}{xs:List (List Key×cD×cw)}(r:KT H kvs xs) (k:List Key):oM (qu kvs k) ((atKey xs k).map (·.2)):=by
 induction r with
 |nil=>exact True.intro
 |@cons p q ps qs h t ih=>
  obtain⟨h1,_,h2⟩:=h;by_cases e:p.1=k
  ·have e':q.1=k:=h1.symm.trans e;have b:atKey (q::qs) k=some q.2:=by simp[atKey,List.find?_cons,e']
   rw[pf e,b];exact h2
  ·have e':¬ q.1=k:=λz=>e (h1.trans z)
   have b:atKey (q::qs) k=atKey qs k:=by simp[atKey,List.find?_cons,e']
   rw[ph e,b];exact ih
theorem KT.Pc {H:Hp}{kvs:List (List Key×V)}{xs:List (List Key×cD×cw)}(r:KT H kvs xs) (k:List Key) {y:V}{u:cw}(ry:RelV y u):
  KT H (kvs.map λkv=>if kv.1=k then(kv.1,y)else kv) (xs.map (putAt k u)):=by
 induction r with
 |nil=>exact .nil
 |@cons p q ps qs h t ih=>
  rw[aE,aE];refine .cons ?_ ih;obtain⟨h1,h2,h3⟩:=h;unfold putAt;by_cases e:p.1=k
  ·rw[if_pos e,if_pos (h1.symm.trans e)];exact⟨h1,h2,ry⟩
  ·rw[if_neg e,if_neg (λz=>e (h1.trans z))];exact⟨h1,h2,h3⟩
theorem KT.put {H:Hp}{kvs:List (List Key×V)}{xs:List (List Key×cD×cw)}(r:KT H kvs xs) (k:List Key) {b:cD}{y:V}{u:cw}(hb:H b=some (.tup (k.map kV))) (ry:RelV y u):
  KT H (putK kvs k y) (storedH xs k b u):=by
 have e:(kvs.any λkv=>decide (kv.1=k))=(atKey xs k).isSome:=by
  rw[A4,(r.val k).Gi,Option.isSome_map]
 unfold putK storedH;rw[e];by_cases q:(atKey xs k).isSome=true
 ·rw[if_pos q,if_pos q];exact r.Pc k ry
 ·rw[if_neg q,if_neg q];exact Paired.snoc r ⟨rfl,hb,ry⟩
theorem KT.keeps {H H':Hp}{kvs:List (List Key×V)}{xs:List (List Key×cD×cw)}(r:KT H kvs xs) (ht:∀b ys,H b=some (.tup ys)->H' b=some (.tup ys)):KT H' kvs xs:=
 Paired.Ni r λ_ _ z=>⟨z.1,ht _ _ z.2.1,z.2.2⟩
section
variable {P:cz}{w:cA}{H:Hp}{h:Heap}{a:cD}
theorem MY {u:HO}(ok:qw P w H h) (e:Rd H a u):g8 P w H h a u:=e.ok ok
theorem IY {kvs:List (Key×V)}(ok:qw P w H h) (e:Rd H a (.dK kvs)):kvs.length<=sizeLine/\(a==sysModules)=false/\∃vs,KV kvs vs/\h.DictOf (eU P w) a vs:=
 show g8 P w H h a (.dK kvs)from MY ok e
theorem MZ {kvs:List (Key×V)}(ok:qw P w H h) (e:H a=some (.dK kvs)):kvs.length<=sizeLine/\(a==sysModules)=false/\∃vs,KV kvs vs/\h.DictOf (eU P w) a vs:=IY ok (.inl e)
theorem Du {ks:List Key}(ok:qw P w H h) (e:H a=some (.tup (ks.map kV))):(tupleKind (eU P w)).is h ks a:=by
 obtain⟨_,dg,r,o,h1,h2,n,h3⟩:=(show g8 P w H h a (.tup (ks.map kV))from ok a _ e)
 exact⟨o,dg.toArray,n,h1,h2,h3,by simpa using yn r⟩
theorem IZ {kvs:List (List Key×V)}(ok:qw P w H h) (e:Rd H a (.dT kvs)):kvs.length<=sizeLine/\(a==sysModules)=false/\
  ∃xs,KT H kvs xs/\h.DictOfH (tupleKind (eU P w)) a xs:=by
 obtain⟨z,y,xs,r,o,es,ep,h1,h2,h3,h4,h5⟩:=(show g8 P w H h a (.dT kvs)from MY ok e)
 refine⟨z,y,xs,r,o,es,ep,h1,h2,h3,h4,λx hx=>?_,h5⟩
 have all:∀{l:List (List Key×V)}{m:List (List Key×cD×cw)},KT H l m->∀x∈m,(tupleKind (eU P w)).is h x.1 x.2.1:=by
  intro l m q;induction q with
  |nil=>intro x hx;exact nomatch hx
  |@cons p q ps qs hq t ih=>
   intro x hx;rcases List.mem_cons.mp hx with e|hx
   ·subst e;exact Du ok (by rw[<-hq.1];exact hq.2.1)
   ·exact ih x hx
 exact all r x hx
theorem Sg {kvs:List (List Key×V)}(ok:qw P w H h) (e:H a=some (.dT kvs)):kvs.length<=sizeLine/\(a==sysModules)=false/\
  ∃xs,KT H kvs xs/\h.DictOfH (tupleKind (eU P w)) a xs:=IZ ok (.inl e)
end
def Ja (H:Hp) (a:cD) (y:V) (r:Option V):Prop:=
 (∃kvs k,Rd H a (.dK kvs)/\y=kV k/\r=qu kvs k)\/∃kvs k b,Rd H a (.dT kvs)/\y=.ref b/\H b=some (.tup (k.map kV))/\r=qu kvs k
def Jb (H:Hp) (a:cD) (y v:V) (H':Hp):Prop:=
 (∃kvs k,H a=some (.dK kvs)/\y=kV k/\kvs.length<sizeLine/\H'=upd H a (.dK (putK kvs k v)))\/
 ∃kvs k b,H a=some (.dT kvs)/\y=.ref b/\H b=some (.tup (k.map kV))/\kvs.length<sizeLine/\H'=upd H a (.dT (putK kvs k v))
theorem Ja.k {H:Hp}{a:cD}{kvs:List (Key×V)}{k:Key}(e:H a=some (.dK kvs)):Ja H a (kV k) (qu kvs k):=.inl ⟨kvs,k,.inl e,rfl,rfl⟩
theorem Jb.k {H:Hp}{a:cD}{kvs:List (Key×V)}{k:Key}{v:V}(e:H a=some (.dK kvs)) (hl:kvs.length<sizeLine):Jb H a (kV k) v (upd H a (.dK (putK kvs k v))):=.inl ⟨kvs,k,e,rfl,hl,rfl⟩
section
variable {X:Cx}{pins:ck}{σ:St}{H:Hp}{s:cx}{a:cD}{y v:V}{u r:cw}{o:Option V}{A:cB}{E:cg}
theorem Inv.big (I:Inv X pins σ H s):sysModules<s.heap.objs.size:=by
 have h:mainGlobals<s.heap.objs.size:=(I.mod.glob.keeps I.bk).lt;exact bG (by decide) h
theorem EG {h':Heap}{t':Nat}{ob:HO}(I:Inv X pins σ H s) (mu:Qj (H a)) (hs:Heap.SameBut a s.heap h') (he:∃q,h'.get? a=some q) (new:g8 X.prog X.w (upd H a ob) h' a ob):
  Inv X pins σ (upd H a ob) {s with heap:=h',toks:=t'}:=
 I.write (x:=a) (e:=a) mu (.inl rfl) (λb q hb z=>(hs.2 b hb).trans z) he new
theorem Pd {P:cz}{w:cA}{H':Hp}{h':Heap}{kvs:List (Key×V)}{vs:List (Key×cw)}(z:kvs.length<=sizeLine) (hd:(a==sysModules)=false) (rel:KV kvs vs) (dd:h'.DictOf (eU P w) a vs):
  g8 P w H' h' a (.dK kvs):=⟨z,hd,vs,rel,dd⟩
theorem Gj {H':Hp}{Q:Unit->cx->Prop}(hu:A.units+1<cLine) (I:Inv X pins σ H s) (g:Jb H a y v H') (ry:RelV y u) (rv:RelV v r) (h:∀s',Inv X pins σ H' s'->Q () s'):
  wpAny (model X.prog X.w) A (setItem (.ref a) u r) Q E s:=by
 rcases g with⟨kvs,k,e,ey,l,eH⟩|⟨kvs,k,b,e,ey,eb,l,eH⟩
 ·subst ey eH;obtain⟨z,hd,vs,rel,dd⟩:=MZ I.fP e;have hz:vs.length<=sizeLine:=by rw[<-rel.length];exact z
  have hl:(putK kvs k v).length<=sizeLine:=by have:=uh kvs k v;omega
  refine wpAny_setItem_pairs (hsz:=hz) (EF ry) dd λh' Tj hs=>h _ ?_
  have he:∃q,h'.get? a=some q:=let ⟨q,_,_,hq,_⟩:=Tj;⟨q,hq⟩;exact EG I (by rw[e];exact True.intro) hs he (Pd hl hd (rel.put k rv) Tj)
 ·subst ey eH;cases (show u=Value.ref b from ry)
  obtain⟨z,hd,xs,rel,dd⟩:=Sg I.fP e;have hz:xs.length<=sizeLine:=by rw[<-Paired.length rel];exact z
  have hl:(putK kvs k v).length<=sizeLine:=by have:=uh kvs k v;omega
  refine wpAny_setItem_heap (hsz:=hz) (tupleKind_room_in1 hu) (Du I.fP eb) dd λh' Tj hs=>h _ ?_
  obtain⟨q,es,ep,hq,h2,h3,h4,_,h5⟩:=Tj;refine EG I (by rw[e];exact True.intro) hs ⟨q,hq⟩ ⟨hl,hd,_,(rel.put k eb rv).keeps λc ys ec=>?_,q,es,ep,hq,h2,h3,h4,h5⟩
  rw[cQ (Qi ec e (λz=>nomatch z))]
  exact ec
end
section
variable {X:Cx}{pins:ck}{σ:St}{H:Hp}{s:cx}{a:cD}{kvs:List (Key×V)}{k:Key}{u:cw}{A:cB}{E:cg}
end
def U3 (i:cE):Prop:=∀ov iv,subscripted i false ov iv=operate [ov,iv] (getItem ov iv)
theorem LD {prog:cz}{w:cA}{A:cB}{E:cg}{s:cx}{env:Env}{value slice:cE}{pos:Pos}{T id:String}{Q:cg}
  (hl:typeLookup (.type T) "__getitem__"=pure (some (.builtin id))) (hs:U3 slice)
  (h:wpAny (model prog w) A (eval value env) (λo s₁=>wpAny (model prog w) A (eval slice env) (λi s₂=>s₂.TypeIs o T/\wpAny (model prog w) A (getItem o i) Q E s₂) E s₁) E s):
  wpAny (model prog w) A (eval (.Subscript value slice pos) env) Q E s:=by
 refine Subscript_ (bP h (λo s₁ h₁=>bP h₁ (λi s₂ h₂=>?_) λ_ _ x=>x) λ_ _ x=>x)
 obtain⟨hT,h₂⟩:=h₂;unfold subscriptTail;refine aa ?_;rw[getitemInPython_of_ne hT.not_modules];refine aa (wpAny_specialOf hT hl ?_);have fin:wpAny (model prog w) A (subscripted slice false o i) (λr s₃=>wpAny (model prog w) A (letTemporaryGo value o r>>=λ_=>pure r) Q E s₃) E s₂:=by
  rw[hs o i];exact wpAny_operating (bP h₂ (λr s₃ h₃=>aa (wpAny_letTemporaryGo (aj h₃))) λ_ _ x=>x)
 first
  |exact aj (aa fin)
  |exact aa (aj (aa fin))
  |exact aa fin
noncomputable def Sh (td ty tv:TE):TS:=λD σ H=>tv σ H λv H1=>td σ H1 λx H2=>ty σ H2 λy H3=>∃a H4,x=.ref a/\Jb H3 a y v H4/\D.nx σ H4
section
variable {X:Cx}{o i e value:cE}{pos pos' oQ:Pos}{td ty tv:TE}
theorem LF (hu:X.A.units+1<cLine) (ho:PE X o td) (hi:PE X i ty) (hv:PE X value tv) (hs:swapsWith value (some (.Subscript o i pos')) pos.line X.env=pure false):
  PS X (.Assign [.Subscript o i pos'] value pos) (Sh td ty tv):=by
 intro pins s σ H D I h;refine wpAny_Assign_Subscript (gS (hv pins s σ H _ I h) λr s1 ⟨v,H1,I1,rv,q1⟩=>gS (ho pins s1 σ H1 _ I1 q1) λu s2 ⟨x,H2,I2,rx,q2⟩=>gS (hi pins s2 σ H2 _ I2 q2) λiv s3 ⟨y,H3,I3,ry,a,H4,ex,g,q3⟩=>?_) hs
 subst ex;obtain rfl:u=Value.ref a:=rx;exact Gj hu I3 g ry rv λs4 I4=>⟨σ,H4,I4,q3⟩
end
theorem Jc {P:cz}{w:cA}{H:Hp}(h:Heap) (hb:sysModules<h.objs.size):g8 P w H (h.push {cls:=.type "dict",data:=.dict #[]}) h.objs.size (.dK []):=
 ⟨bL _,beq_eq_false_iff_ne.mpr (Ne.symm (aD hb)),[],.nil,Heap.DictOf.new h⟩
noncomputable def Pe:TE:=λ_ H Q=>∀p,H p=none->Q (.ref p) (upd H p (.dK []))
section
variable {X:Cx}{pos:Pos}
theorem Jd:PE X (.Dict [] [] pos) Pe:=λpins s σ H Q I h=>
 wpAny_Dict_empty ⟨.ref s.heap.objs.size,_,I.laid (a:=s.heap.objs.size) (o:=.dK []) (t':=s.toks) (λ_ _ q=>ag _ q) (au _) (Jc s.heap I.big),rfl,h _ (I.fP.fresh (au _))⟩
end
structure M2 (X:Cx) (o:cE) (m:Str) (apos:Pos) (e f:cE) (dY:Pos):Prop where
 base:attributeBase o m X.env (eval o X.env)=eval o X.env
 Y5:((backTo dY (starEach [e,f] X.env)).all (λx=> !x.1)&&(backToKw dY (keywordEach [] X.env)).all (λx=>x.1.isSome)
  &&decide (([e,f]:List cE).length+([]:List Keyword).length+(if([]:List Keyword).isEmpty then 0 else 1)<30))=true
 line:(apos.endLine==dY.line)=true
 trees:backTo dY (starEach [e,f] X.env)=[(false,eval e X.env),(false,eval f X.env)]
def WV (H:Hp) (a:cD):Prop:=(∃kvs,Rd H a (.dK kvs))\/∃kvs,Rd H a (.dT kvs)
theorem Pf {X:Cx}{pins:ck}{σ:St}{H:Hp}{s:cx}{a:cD}(I:Inv X pins σ H s) (d:WV H a):
  s.TypeIs (.ref a) "dict"/\(∀b,Value.ref a=.ref b->∃ob,s.heap.get? b=some ob/\ob.dict=none)/\(a==sysModules)=false:=by
 rcases d with⟨kvs,e⟩|⟨kvs,e⟩
 ·obtain⟨_,hd,vs,_,dd⟩:=IY I.fP e;refine⟨dd.typeIs,λb q=>?_,hd⟩
  cases q;obtain⟨ob,_,_,h1,h2,_⟩:=dd;exact⟨ob,h1,h2.2.1⟩
 ·obtain⟨_,hd,xs,_,dd⟩:=IZ I.fP e;refine⟨dd.typeIs,λb q=>?_,hd⟩
  cases q;obtain⟨ob,_,_,h1,h2,_⟩:=dd;exact⟨ob,h1,h2.2.1⟩
section
variable {X:Cx}{pins:ck}{σ:St}{H:Hp}{s:cx}{a:cD}{y d:V}{u r:cw}{o:Option V}{A:cB}{E:cg}
theorem Pg {Q:cg}(hu:A.units+1<cLine) (I:Inv X pins σ H s) (g:Ja H a y o) (ry:RelV y u) (rd:RelV d r) (h:∀w' s',Inv X pins σ H s'->RelV (o.getD d) w'->Q w' s'):
  wpAny (model X.prog X.w) A (call (.builtin "dict.get") [.ref a,u,r]) Q E s:=by
 rcases g with⟨kvs,k,e,ey,l⟩|⟨kvs,k,b,e,ey,eb,l⟩
 ·subst ey;obtain⟨z,hd,vs,rel,dd⟩:=IY I.fP e;refine call_meetsIn PySem.F.slot_dict_get dd.typeIs PySem.F.entry_dict_get (PySem.F.args_dict_get_3 _ _ _) (meets_dict_get_default (eU X.prog X.w) a (EF ry) hd r) ⟨_,dd.mapOf,h _ _ (I.tok _) ?_⟩;rw[l];exact(rel.val k).getD rd
 ·subst ey;cases (show u=Value.ref b from ry)
  obtain⟨z,hd,xs,rel,dd⟩:=IZ I.fP e;refine call_meetsIn PySem.F.slot_dict_get dd.typeIs PySem.F.entry_dict_get (PySem.F.args_dict_get_3 _ _ _) (meetsH_dict_get_default (tupleKind (eU X.prog X.w)) a b hd r) ⟨tupleKind_room_in1 hu,k,xs,Du I.fP eb,dd,h _ _ (I.tok _) ?_⟩;rw[l];exact(rel.val k).getD rd
end
noncomputable def Ph (td ty tx:TE):TE:=λσ H Q=>td σ H λx H1=>∃a,x=.ref a/\WV H1 a/\ty σ H1 λy H2=>tx σ H2 λz H3=>∃o,Ja H3 a y o/\Q (o.getD z) H3
section
variable {X:Cx}{o e f:cE}{apos dY:Pos}{td ty tx:TE}
theorem Je (hu:X.A.units+1<cLine) (ho:PE X o td) (he:PE X e ty) (hf:PE X f tx) (m:M2 X o "get" apos e f dY):PE X (.Call (.Attribute o "get" apos) [e,f] [] dY) (Ph td ty tx):=by
 intro pins s σ H Q I h;refine wpAny_Call_method m.base m.Y5 m.line PySem.F.plainAttrs_dict PySem.F.slot_dict_get PySem.F.type_dict_get (gS (ho pins s σ H _ I h) λu s1 ⟨x,H1,I1,rx,a,ex,d,q1⟩=>?_)
 subst ex;obtain rfl:u=Value.ref a:=rx;obtain⟨t1,t2,_⟩:=Pf I1 d;refine⟨t1,t2,?_⟩;rw[m.trees];refine Calls.callWith_builtin rfl (Calls.evalArgs_plain (Calls.spliced_cons (gS (he pins s1 σ H1 _ I1 q1) λiv s2 ⟨y,H2,I2,ry,q2⟩=>
  Calls.spliced_cons (gS (hf pins s2 σ H2 _ I2 q2) λfv s3 ⟨z,H3,I3,rz,ov,g,q3⟩=>Calls.spliced_nil ?_))))
 exact Pg hu I3 g ry rz λw' s4 I4 Ho=>⟨_,H3,I4,Ho,q3⟩
end
section
variable {X:Cx}{pins:ck}{σ:St}{H:Hp}{s:cx}{a:cD}{kvs:List (Key×V)}{A:cB}{E:cg}
end
section
variable {X:Cx}{pins:ck}{σ:St}{H:Hp}{s:cx}{a:cD}{y:V}{u:cw}{A:cB}{E:cg}
end
end L2
namespace L2
open PySem PySem.Spec PyProof.Rows
noncomputable abbrev me:Scope:={kind:=.function,names:=[(Str.ofString "point",.local),(Str.ofString "uses",.free)],isGenerator:=false,isCoroutine:=false,more:=[]}
noncomputable abbrev lA (p:Pos):Arguments:={posonlyargs:=[],args:=[{arg:="point",annotation:=none,pos:=p}],vararg:=none,kwonlyargs:=[],kw_defaults:=[],kwarg:=none,defaults:=[]}
noncomputable abbrev ja (pu pp pS pU zD pT:Pos):cE:=.Tuple [.UnaryOp .USub (.Subscript (.Name "uses" pu) (.Name "point" pp) pS) pU,.Name "point" zD] 0 pT
section
variable {prog:cz}{w:cA}{A:cB}{E:cg}{s:cx}{f c' a cell:cD}{qual:Str}{pm xA:cw}{pa pu pp pS pU zD pT:Pos}{vs:List (Key×cw)}{p n:Int}{t tn:Tok}
theorem A5 {Q:cg}(hV:A.depth<recursionLimit)
  (hf:s.heap.get? f=some (W.kla_obj "<lambda>" qual (lA pa) (ja pu pp pS pU zD pT) me [(Str.ofString "uses",cell)] pm c' xA))
  (xj:s.heap.CodeRec (.ref c') qual) (NW:s.heap.NoLimit) (rA:s.heap.IsCell cell (some (.ref a))) (dd:s.heap.DictOf (eU prog w) a vs) (hv:valueAt vs (.inl p)=some (.int n tn))
  (h:∀T h' tk Qg,h'.get? T=some {cls:=.type "tuple",data:=.seq #[.int (-n) Qg,.int p t]}->(∀b o,s.heap.get? b=some o->h'.get? b=some o)->s.heap.objs.size<=T->Q (.ref T) {s with heap:=h',toks:=tk}):
  wpAny (model prog w) A (call (.ref f) [.int p t]) Q E s:=by
 refine wpAny_call (W.kla_callFunE hV hf rfl rfl rfl rfl xj ?_);have hb:bindArgs (W.kla_fn "<lambda>" qual (lA pa) (ja pu pp pS pU zD pT) me [(Str.ofString "uses",cell)] pm (.ref c') xA) ⟨[.int p t],[]⟩=pure [(Str.ofString "point",.int p t)]:=rfl;rw[hb];refine aj (wpAny_newFunctionEnv (show ∀x∈me.names,x.2≠.cell by decide) (by intro x hx;simp at hx;subst hx;rfl) (λh₁ KG Fw=>⟨NW.fresh _ Fw,?_⟩) rfl)
 have U4:∀b o,s.heap.get? b=some o->h₁.get? b=some o:=λb o e=>Fw.extBut b o (aD (az e)) (ag _ e)
 have hsz:s.heap.objs.size<=h₁.objs.size:=bg KG.lt;refine W.kla_codeExpr ?_;generalize hL:s.heap.objs.size=L at *;show wpAny (model prog w) (A.deeper (W.envX qual me L f (.ref c') [(Str.ofString "uses",cell)])) (eval (ja pu pp pS pU zD pT) (W.envX qual me L f (.ref c') [(Str.ofString "uses",cell)])) _ _ {s with heap:=h₁,toks:=s.toks+1}
 generalize hA:A.deeper (W.envX qual me L f (.ref c') [(Str.ofString "uses",cell)])=A';generalize s.toks+1=tk₁;refine wpAny_Tuple_spliced ?_;refine Calls.spliced_cons (UnaryOp_ (LD PySem.F.slot_dict_getitem.lookup (λ_ _=>rfl) ?_))
 have WW:h₁.DictOf (eU prog w) a vs:=by obtain⟨o,es,ep,e,r⟩:=dd;exact⟨o,es,ep,U4 _ _ e,r⟩
 refine wpAny_Name (wpAny_loadName_free rfl rfl rfl (rA.keeps U4) ?_) (by decide)
 refine wpAny_Name (wpAny_loadName_local rfl rfl KG rfl ?_) (by decide)
 refine⟨WW.mapOf.typeIs,wpAny_getItem_of (k:=Sum.inl p) (EF (k:=Sum.inl p) (u:=.int p t) ⟨t,rfl⟩) WW.mapOf hv ?_⟩;refine neg_int ?_;refine Calls.spliced_cons (wpAny_Name (wpAny_loadName_local rfl rfl KG rfl ?_) (by decide))
 refine Calls.spliced_nil ⟨by show(2:Nat)<=_;decide,?_⟩
 refine h _ _ _ _ (ay _ rfl) (λb o e=>ag _ (U4 b o e)) ?_
 exact hsz
end
end L2
namespace L2
open PySem PySem.Spec PySem.W PySem.Calls PyProof.Rows
section
variable {prog:cz}{w:cA}{A:cB}{E:cg}{s:cx}{K:Type} [DecidableEq K] {knd:KeyKind prog w K}{d:cD}{kvs:List (K×cw)}{ep:Nat}
theorem se {Q:cv->cx->Prop}(hh:A.handled=none) (lo:(d==sysModules)=false) (hm:s.heap.DictAt knd d kvs ep) (hn:kvs.length<=sizeLine)
  (hQ:∀h' tk (acc:cv),(∀b o,s.heap.get? b=some o->h'.get? b=some o)->acc.length=kvs.length->(∀(j:Nat) v,acc[j]? =some v->∃k x,kvs[j]? =some (k,x)/\knd.is k v=true)->s.heap.objs.size<h'.objs.size->Q acc {s with heap:=h',toks:=tk}):wpAny (model prog w) A (collect (.ref d)) Q E s:=by
 unfold collect;refine aa (wpAny_runValue (codeAny_builtin PySem.F.entry_proto_collect ?_));rw[bX PySem.F.plain_proto_collect _];show wpAny _ A.in1 (newList []>>=λl=>again (.builtin "list.__iadd__" ⟨[l,.ref d],[]⟩)) _ _ s
 refine aa (bR ?_);refine aj ⟨plainId_quiet PySem.F.plain_list_iadd _,codeAny_builtin PySem.F.entry_list_iadd ?_⟩;rw[bX PySem.F.plain_list_iadd _];have hS:(s.heap.push {cls:=.type "list",data:=.seq ([]:cv).toArray}).get? s.heap.objs.size=some {cls:=.type "list",data:=.seq #[]}:=ay _ rfl;have eY:=hm.lt_size;show wpAny _ A.in1 (Builtin.List.listExtendWith (.ref s.heap.objs.size) (.ref d) (.ref s.heap.objs.size)) _ _ _;have key:=kdl_extend (A:=A) (s:={s with heap:=s.heap.push {cls:=.type "list",data:=.seq ([]:cv).toArray}}) (R:=λr s'=>∃h' tk lx c',r=.ok (.ret (.ref s.heap.objs.size))/\s'={s with heap:=h',toks:=tk}/\(∀b o,b≠s.heap.objs.size->(s.heap.push {cls:=.type "list",data:=.seq ([]:cv).toArray}).get? b=some o->h'.get? b=some o)/\h'.get? s.heap.objs.size=some {cls:=.type "list",dict:=none,data:=.seq lx c',slots:=#[]}/\ItemsOf (λi v=>∃k x,kvs[i]? =some (k,x)/\knd.is k v=true) lx kvs.length)
  (kdl_dict (knd:=knd) (kvs:=kvs) (ep:=ep) lo) hh (hm.push _) s.heap.objs.size (bw eY) (bw eY) (.ref s.heap.objs.size) 0 hS (λh' tk lx c' hk MS oG=>⟨h',tk,lx,c',rfl,rfl,hk,MS,oG⟩) hn
 have fin:∀(h':Heap) tk lx c',(∀b o,b≠s.heap.objs.size->(s.heap.push {cls:=.type "list",data:=.seq ([]:cv).toArray}).get? b=some o->h'.get? b=some o)->h'.get? s.heap.objs.size=some {cls:=.type "list",dict:=none,data:=.seq lx c',slots:=#[]}->ItemsOf (λi v=>∃k x,kvs[i]? =some (k,x)/\knd.is k v=true) lx kvs.length->Q lx.toList {s with heap:=h',toks:=tk}:=λh' tk lx c' hk MS oG=>
  hQ h' tk lx.toList (λb o e=>hk b o (aD (az e)) (ag _ e)) (by rw[aN];exact oG.1) (λj v e=>oG.2 j v (by rw[<-Array.getElem?_toList];exact e)) (az MS)
 refine bP key (λr s' hr=>?_) λe s' hr=>?_
 ·cases r with
  |done f=>
   obtain⟨h',tk,lx,c',e1,e2,e3,e4,e5⟩:=hr;cases e1;subst e2;exact aa (wpAny_load e4 (aj (fin h' tk lx c' e3 e4 e5)))
  |again c=>
   refine⟨hr.1,codeAny_mono hr.2 λr s' hr=>?_⟩
   obtain⟨h',tk,lx,c',e1,e2,e3,e4,e5⟩:=hr;cases e1;subst e2;exact aa (wpAny_load e4 (aj (fin h' tk lx c' e3 e4 e5)))
 ·obtain⟨h',tk,lx,c',e1,_⟩:=hr;cases e1
end
end L2
namespace L2
open PySem PySem.Spec PySem.W PySem.Calls PyProof.Rows
section
variable {prog:cz}{w:cA}{A:cB}{E:cg}{s:cx}{K:Type} [DecidableEq K] {knd:KeyKind prog w K}{d:cD}{kvs:List (K×cw)}{ep:Nat}
 {h₀:Heap}{L:cD}{m:cj}{news:ck}{f:cD}
theorem LG {Q:cg}(F:Fr h₀ L s.heap m) (N:News h₀ L s.heap news) (hh:A.handled=none) (lo:(d==sysModules)=false) (hm:s.heap.DictAt knd d kvs ep) (h2:2<=kvs.length) (CQ:kvs.length<64)
  (h:∀(vs:cv) D kS e1 h' tk,vs.length=kvs.length->(∀(j:Nat) v,vs[j]? =some v->∃k x,kvs[j]? =some (k,x)/\knd.is k v=true)->Fr h₀ L h' m->News h₀ L h' ((kS,seqObj "list" #[] 0)::(D,seqObj "list" #[] e1)::news)->D<kS->(∀q∈news,q.1<D)->s.heap.objs.size<=D->
   KatKeys prog w A.in1.in1 h₀ L m kS (.ref f) (λks e s'=>wpAny (model prog w) A.in1.in1 (keyKind' (List.toArray ks)) (λκ D9=>(kas_sort vs.length).kasWp (kas_ask prog w A.in1.in1 κ ks) (λp s3=>KatFin h₀ L m kS D ks e e1 (p.toList.map λi=>vs.getD i Value.none) (λs4=>Q (.ref D) s4) s3) D9) (λ_ _=>False) s') vs [] 0 {s with heap:=h',toks:=tk}):
  wpAny (model prog w) A (call (.builtin "sorted") [.ref d] [(Str.ofString "key",.ref f)]) Q E s:=by
 refine call_function_entry_kw kind_sorted plain_sorted entry_sorted (ksk_s1 _ _) ?_;unfold Builtin.«sorted»;refine aa (m:=checkCount "sorted" 1 1 _) (aj ?_);refine aa (se hh lo hm (by rw[bu];omega) λg tk vs keep hl hv hg=>?_)
 refine aa (wpAny_newList ?_ (by rw[bu];omega))
 have yM:(g.push (seqObj "list" vs.toArray 0)).get? g.objs.size=some (seqObj "list" vs.toArray 0):=ay _ rfl;have iW:∀b o,s.heap.get? b=some o->(g.push (seqObj "list" vs.toArray 0)).get? b=some o:=λb o q=>ag _ (keep b o q)
 have hL:L<s.heap.objs.size:=F.ns.lt;refine aa (bo (wpAny_call_entry_kw slot_list_sort ⟨_,yM,rfl⟩ entry_list_sort ?body (ksk_l1 _ _)))
 case body=>
  show wpAny (model prog w) A.in1.in1 (Builtin.«list.sort» ⟨[.ref g.objs.size],[(Str.ofString "key",.ref f)]⟩) _ _ _;rw[ksk_t1];refine kat_keyed (b:=false) (s:={s with heap:=g.push (seqObj "list" vs.toArray 0),toks:=tk}) (F.kept iW) (N.grown iW) yM (bw (bG hL hg)) (Heap.get?_none_of_le (aB F.above (bg (bG hL hg))))
   (λp hp=>aD (bG (az (N p hp).1) hg)) (by omega) (by omega) λkS e1 h' F' N' l0 l1=>?_
  refine kat_keys_mono (h vs g.objs.size kS e1 h' tk hl hv F' N' l0 (λq hq=>bG (az (N q hq).1) hg) (bg hg)) λks e s' g9 hd=>?_
  have EH:ks.length=vs.length:=by simpa using g9
  refine bP hd (λκ D9 hk=>?_) λ_ _ x=>x
  have er:∀{α:Type}(l:List α),katRev false l=l:=λ_=>rfl
  rw[er,er,kat_ask_eq EH];rw[kat_ask_eq EH]at hk;refine kas_wp_mono hk λp s3 Dd=>?_
  rw[er];exact Dd.mono λs4 hq=>⟨_,rfl,aj ⟨_,rfl,hq⟩⟩
end
end L2
namespace L2
open PySem PySem.Spec PySem.W PySem.Calls PyProof.Rows
section
variable {prog:cz}{w:cA}{A:cB}{E:cg}{s:cx}{f:cD}
theorem Gk {T:Heap}{a:cD}{v:cw}{tk:Nat}{Q:cg}(o1:T.get? a=some (seqObj "list" #[v] 0))
  (Jf:∀g:Heap,(∀b o,b≠a->T.get? b=some o->g.get? b=some o)->wpAny (model prog w) A.in1 (call (.ref f) [v]) (λ_ s'=>∃h' An,s'={s with heap:=h',toks:=An}/\∀b o,g.get? b=some o->h'.get? b=some o) (λ_ _=>False) {s with heap:=g,toks:=tk})
  (h:∀h' c An,h'.get? a=some (seqObj "list" #[v] c)->(∀b o,b≠a->T.get? b=some o->h'.get? b=some o)->Q .none {s with heap:=h',toks:=An}):
  wpAny (model prog w) A (call (.builtin "list.sort") [.ref a] [(Str.ofString "key",.ref f)]) Q E {s with heap:=T,toks:=tk}:=by
 have ha:a<T.objs.size:=az o1;refine wpAny_call_entry_kw slot_list_sort ⟨_,o1,rfl⟩ entry_list_sort ?_ (ksk_l1 _ _);show wpAny (model prog w) A.in1 (Builtin.«list.sort» ⟨[.ref a],[(Str.ofString "key",.ref f)]⟩) _ _ _;rw[ksk_t1];unfold ksk_tree;refine aa (listItems_at o1 rfl (aa (listUpdate_at o1 rfl ?_ (hsz:=by show(1:Nat)<=_;rw[bu];decide) (hsz2:=bL _))))
 obtain⟨e1,sR⟩:∃e1,(T.update a (Obj.mapSeq λ_=>#[])).get? a=some (seqObj "list" #[] e1):=⟨_,get?_update_seq o1 (λ_=>#[])⟩
 refine aa (seqEpoch_at sR rfl (aa (wpAny_newTuple (aa (wpAny_newList (bo ?_))) (by show(1:Nat)<=_;rw[bu];decide))))
 have WX:∀b o,b≠a->T.get? b=some o->(((T.update a (Obj.mapSeq λ_=>#[])).push (seqObj "tuple" #[v] 0)).push (seqObj "list" #[] 0)).get? b=some o:=λb o hb e=>ag _ (ag _ ((bx _ _ (Ne.symm hb)).trans e))
 have oa:(((T.update a (Obj.mapSeq λ_=>#[])).push (seqObj "tuple" #[v] 0)).push (seqObj "list" #[] 0)).get? a=some (seqObj "list" #[] e1):=ag _ (ag _ sR)
 have ok:(((T.update a (Obj.mapSeq λ_=>#[])).push (seqObj "tuple" #[v] 0)).push (seqObj "list" #[] 0)).get? ((T.update a (Obj.mapSeq λ_=>#[])).push (seqObj "tuple" #[v] 0)).objs.size=some (seqObj "list" #[] 0):=ay _ rfl
 have WY:a≠((T.update a (Obj.mapSeq λ_=>#[])).push (seqObj "tuple" #[v] 0)).objs.size:=by rw[size_push',Heap.size_update];exact aD (Nat.lt_succ_of_lt ha)
 have WZ:T.objs.size<=((T.update a (Obj.mapSeq λ_=>#[])).push (seqObj "tuple" #[v] 0)).objs.size:=by rw[size_push',Heap.size_update];exact Nat.le_succ _
 show wpAny (model prog w) A.in1 (ksk_rest a (.ref f) false #[v] e1 (.ref ((T.update a (Obj.mapSeq λ_=>#[])).push (seqObj "tuple" #[v] 0)).objs.size)) _ _ {s with heap:=((T.update a (Obj.mapSeq λ_=>#[])).push (seqObj "tuple" #[v] 0)).push (seqObj "list" #[] 0),toks:=tk}
 generalize ((T.update a (Obj.mapSeq λ_=>#[])).push (seqObj "tuple" #[v] 0)).objs.size=kS at *
 generalize (((T.update a (Obj.mapSeq λ_=>#[])).push (seqObj "tuple" #[v] 0)).push (seqObj "list" #[] 0))=U at *
 unfold ksk_rest;refine aa (wpAny_rule ?_);rw[show(#[v]:Array cw)=[v].toArray from rfl,List.forIn_toArray,List.forIn_cons]
 refine aa (aa (aa (wpAny_attempt (bP (Jf U WX) (λk s' hk=>?_) λ_ _ x=>x.elim))))
 obtain⟨g,An,rfl,kg⟩:=hk;dsimp only;have W0:=kg _ _ ok;refine aa (listUpdate_at W0 rfl (aj ?_) (hsz:=bL _) (hsz2:=by show(1:Nat)<=_;rw[bu];decide))
 dsimp only;rw[List.forIn_nil];refine aj ?_;obtain⟨c1,U5⟩:∃c,(g.update kS (Obj.mapSeq (·.push k))).get? kS=some (seqObj "list" #[k] c):=⟨_,get?_update_seq W0 (·.push k)⟩
 have W3:(g.update kS (Obj.mapSeq (·.push k))).get? a=some (seqObj "list" #[] e1):=(bx _ _ (Ne.symm WY)).trans (kg _ _ oa)
 have W4:∀b o,b≠a->T.get? b=some o->(g.update kS (Obj.mapSeq (·.push k))).get? b=some o:=λb o hb e=>(bx _ _ (bw (aw (az e) WZ))).trans (kg _ _ (WX b o hb e))
 show wpAny (model prog w) A.in1 (Builtin.List.listItems (.ref kS)>>=λkeys=>ksk_end a false #[v] e1 (.ref kS) keys) _ _ {s with heap:=g.update kS (Obj.mapSeq (·.push k)),toks:=An}
 generalize g.update kS (Obj.mapSeq (·.push k))=G at U5 W3 W4
 refine aa (listItems_at U5 rfl ?_);unfold ksk_end;dsimp only;have hsz:(#[v]:Array cw).size<2:=by show(1:Nat)<2;decide
 rw[if_pos hsz,if_pos hsz];simp only[aH,bD];refine aa (aj ?_);rw[StateT.run_pure];refine aa (aj ?_);unfold ksk_tail;dsimp only;have CS:((#[k]:Array cw).zip #[v]).map (·.2)=#[v]:=by apply Array.toList_inj.mp;simp
 rw[show(arrOf (SortSt.mk' general' ((#[k]:Array cw).zip #[v]) #[] 7 none))=(#[k]:Array cw).zip #[v]from rfl,CS]
 refine aa (listUpdate_at U5 rfl ?_ (hsz:=by show(1:Nat)<=_;rw[bu];decide) (hsz2:=bL _))
 refine aa (wpAny_letGo ?_);have U6:(G.update kS (Obj.mapSeq λ_=>(#[]:Array cw))).get? a=some (seqObj "list" #[] e1):=(bx _ _ (Ne.symm WY)).trans W3
 have Y6:∀b o,b≠a->T.get? b=some o->(G.update kS (Obj.mapSeq λ_=>(#[]:Array cw))).get? b=some o:=λb o hb e=>(bx _ _ (bw (aw (az e) WZ))).trans (W4 b o hb e)
 refine aa (seqEpoch_at U6 rfl (aa (listUpdate_at U6 rfl ?_ (hsz:=bL _) (hsz2:=by show(1:Nat)<=_;rw[bu];decide))))
 simp only[bne_self_eq_false,aH,bD];obtain⟨c,hc⟩:∃c,((G.update kS (Obj.mapSeq λ_=>(#[]:Array cw))).update a (Obj.mapSeq λ_=>#[v])).get? a=some (seqObj "list" #[v] c):=⟨_,get?_update_seq U6 (λ_=>#[v])⟩
 exact aj ⟨_,rfl,h _ c An hc λb o hb e=>(bx _ _ (Ne.symm hb)).trans (Y6 b o hb e)⟩
variable {K:Type} [DecidableEq K] {knd:KeyKind prog w K}{d:cD}{kvs:List (K×cw)}{ep:Nat}
theorem Jg {Q:cg}(hh:A.handled=none) (lo:(d==sysModules)=false) (hm:s.heap.DictAt knd d kvs ep) (h1:kvs.length=1)
  (Jf:∀(g:Heap) tk v,(∃k x,kvs[0]? =some (k,x)/\knd.is k v=true)->(∀b o,s.heap.get? b=some o->g.get? b=some o)->wpAny (model prog w) A.in1.in1 (call (.ref f) [v]) (λ_ s'=>∃h' An,s'={s with heap:=h',toks:=An}/\∀b o,g.get? b=some o->h'.get? b=some o) (λ_ _=>False) {s with heap:=g,toks:=tk})
  (h:∀D v h' c tk,(∃k x,kvs[0]? =some (k,x)/\knd.is k v=true)->h'.get? D=some (seqObj "list" #[v] c)->s.heap.objs.size<=D->(∀b o,s.heap.get? b=some o->h'.get? b=some o)->Q (.ref D) {s with heap:=h',toks:=tk}):
  wpAny (model prog w) A (call (.builtin "sorted") [.ref d] [(Str.ofString "key",.ref f)]) Q E s:=by
 refine call_function_entry_kw kind_sorted plain_sorted entry_sorted (ksk_s1 _ _) ?_;unfold Builtin.«sorted»;refine aa (m:=checkCount "sorted" 1 1 _) (aj ?_);refine aa (se hh lo hm (by rw[h1,bu];decide) λg tk vs keep hl hv hg=>?_)
 rw[h1]at hl;obtain⟨v,rfl⟩:∃v,vs=[v]:=by
  match vs,hl with
  |[v],_=>exact⟨v,rfl⟩
 have kv:=hv 0 v rfl;refine aa (wpAny_newList ?_ (by show(1:Nat)<=_;rw[bu];decide))
 have yM:(g.push (seqObj "list" #[v] 0)).get? g.objs.size=some (seqObj "list" #[v] 0):=ay _ rfl;refine aa (bo (Gk (A:=A.in1) (s:=s) (T:=g.push (seqObj "list" #[v] 0)) (tk:=tk) yM (λg' kp=>Jf g' tk v kv λb o e=>kp b o (aD (bG (az e) hg)) (ag _ (keep b o e))) λh' c An hD kp=>?_))
 refine aj ⟨_,rfl,h _ v h' c An kv hD (bg hg) λb o e=>kp b o ?_ (ag _ (keep b o e))⟩
 exact aD (bG (az e) hg)
end
end L2
namespace L2
open PySem PySem.Spec PySem.W PySem.Calls PyProof.Rows
theorem sf {i j:Int}{t u:Tok}{c:cw}:∀(l:cv),TriplesOk l->TriplesOk (l++[.int i t,.int j u,c])
 |[],_=>trivial
 |.int _ _::.int _ _::_::rest,h=>sf rest h
theorem tM {p q:Pos}(h1:p.line=q.line) (h2:p.col=q.col):∀l:cv,codeAmong p l=codeAmong q l:=λl=>by
 have key:∀(n:Nat) (l:cv),l.length<=n->codeAmong p l=codeAmong q l:=λn=>by
  induction n with
  |zero=>intro l hl;cases l with|nil=>rfl|cons _ _=>simp at hl
  |succ n ih=>
   intro l hl;unfold codeAmong;split
   ·rename_i line _ col _ c rest;rw[h1,h2,ih rest (by simp only[ax]at hl;omega)]
   ·rfl
 exact key l.length l (au _)
theorem Jh {p q:Pos}{x y:Str}{m n:Array cw}(h:xg p x++m=xg q y++n):p.line=q.line/\p.col=q.col/\x=y:=by
 have h0:=congrArg (λa:Array cw=>a.toList) h
 simp only[xg,Array.toList_append,List.cons_append,List.nil_append]at h0;injection h0 with a1 h1
 injection h1 with a2 h2
 injection h2 with a3 _
 injection a1 with b1 _
 injection a2 with b2 _
 injection a3 with b3 _
 exact⟨Int.ofNat.inj b1,Int.ofNat.inj b2,b3⟩
theorem si {env:Env}{cell:cD}(h:env.cells.lookup (Str.ofString "uses")=some cell):closureFor me env=pure [(Str.ofString "uses",cell)]:=by
 unfold closureFor;simp only[me,List.forIn_cons,List.forIn_nil];have ec:cellOf env (Str.ofString "uses")=pure cell:=by unfold cellOf;rw[h]
 rw[ec];rfl
section
variable {X:Cx}{pins:ck}{σ:St}{H:Hp}{s:cx}{x:Str}{uI:Pos}{qual:Str}{c Pt cell:cD}{pa pu pp pS pU zD pT:Pos}
structure Y7 (X:Cx) (pins:ck) (σ:St) (H H2:Hp) (s2:cx) (f c' cell:cD) (qual:Str) (pa:Pos) (body:cE):Prop where
 inv:Inv X pins σ H2 s2
 new:H2=H\/∃u,H c'=none/\H2=upd H c' u
 fn:∃pm xA,s2.heap.get? f=some (kla_obj "<lambda>" qual (lA pa) body me [(Str.ofString "uses",cell)] pm c' xA)
 cd:s2.heap.CodeRec (.ref c') qual
 fl:f≠X.env.locals
theorem Ji {Q:cg}{E:cg}(I:Inv X pins σ H s) (hT:(x,uI,qual)∈ux) (ht:tabIn X.K x=some (c,Pt)) (hq:X.env.qual++Str.ofString "<lambda>"=qual) (yo:X.env.code=.ref c) (rH:X.env.cells.lookup (Str.ofString "uses")=some cell)
  (h:∀H2 s2 f c',Y7 X pins σ H H2 s2 f c' cell qual pa (ja pu pp pS pU zD pT)->Q (.ref f) s2):
  wpAny (model X.prog X.w) X.A (eval (.Lambda (lA pa) (ja pu pp pS pU zD pT) me uI) X.env) Q E s:=by
 obtain⟨⟨more,hP⟩,hC,hB⟩:=(I.ok.tb.un I.base) x c Pt uI qual hT ht;obtain⟨qs,e,tr,pos,W5,Si,eq,r⟩:=(show xM H s.heap Pt (xg uI qual++more)from I.fP Pt _ hP)
 obtain⟨z1,z2,z3⟩:=Jh eq;subst z3;have W6:CodeHd s.heap c Pt:=hC.keeps I.bk;have W7:s.heap.BuiltinsAt X.mg Pt:=let ⟨bm,ob,b1,b2,b3,b4,b5,b6⟩:=hB;⟨bm,ob,b1,b2,b3,b4,I.bk _ _ b5,b6⟩;have hG:s.heap.Ns mainGlobals X.mg:=I.mod.glob.keeps I.bk;have Y8:mainGlobals≠Pt:=λz=>by
  obtain⟨og,es,ep,eg,hd,_⟩:=hG;rw[z,e]at eg;cases eg;cases hd
 refine kla_eval rfl ?_;rw[hq];have W8:X.env.locals<s.heap.objs.size:=I.lt;rcases r with hn|⟨c',oc,vs,t,hf,q2,q3,q4⟩
 ·have Tn:codeAmong uI qs.toList=none:=by rw[tM z1 z2];exact hn
  refine kla_makeFunction (si rH) I.ok.glob hG yo W6 e tr Tn Y8 W7 λc' xA h' tk hx uF eY Ht S0=>?_
  obtain⟨c2,oc,vs,t,ec,PX,hd,hv⟩:=id Ht;cases ec;have hH:H c'=none:=I.fP.fresh uF;generalize W9:kla_obj "<lambda>" qual (lA pa) (ja pu pp pS pU zD pT) me [(Str.ofString "uses",cell)] ((X.mg "__name__").getD .none) c' xA=fo;have keep:∀b o,b≠Pt->s.heap.get? b=some o->(h'.push fo).get? b=some o:=λb o hb q=>ag _ (hx b o hb q)
  have nP:∀{b:cD},H b=none->b≠Pt:=λ{b} q z=>by rw[z,hP]at q;cases q
  refine h (upd H c' (.B2 oc (.own 0))) _ _ c' ⟨?_,.inr ⟨_,hH,rfl⟩,⟨_,xA,by rw[W9];exact ay _ (by rw[<-W9];rfl)⟩,⟨c',oc,vs,t,rfl,ag _ PX,hd,hv⟩,bw (bG (aw W8 uF) eY)⟩
  refine I.un (h':=h'.push fo) (t':=tk) ⟨λb o q n _ _=>keep b o (nP n) q,λb o q n _ _=>⟨o.slots,keep b o (nP n) q⟩,λb o q n _=>?_,λb o q _=>?_,λb xs q=>(cQ (cS q hH)).trans q,λb o u q=>(cQ (cS q hH)).trans q,λb ps q=>⟨#[],by rw[cQ (cS q hH),q];simp⟩⟩ ?_
  ·rw[cQ (aD (aw (az q) uF))];exact n
  ·by_cases hb:b=Pt
   ·subst hb;exact⟨_,ag _ S0⟩
   ·exact⟨o,keep b o hb q⟩
  ·intro b u q;by_cases hb:b=c'
   ·subst hb;rw[cU]at q;cases q;exact⟨ag _ PX,oc,ag _ PX⟩
   ·rw[cQ hb]at q;by_cases Xa:b=Pt
    ·subst Xa;rw[hP]at q;cases q;refine⟨_,ag _ S0,?_,pos,qual,Si,eq,.inr ⟨c',oc,vs,t,?_,cU,hd,hv⟩⟩
     ·rw[Array.toList_append];exact sf _ tr
     ·rw[Array.toList_append,<-tM z1 z2];exact codeAmong_snoc _ tr Tn
    ·refine(I.fP b u q).yJ (λk v hk z=>keep k v ?_ z) (λk z=>(cQ (cS z hH)).trans z) (λk xs z=>(cQ (cS z hH)).trans z) λk ob u' z=>(cQ (cS z hH)).trans z
     rcases hk with rfl|hk
     ·exact Xa
     ·intro z;rw[z,hP]at hk;cases hk
 ·have Y9:codeAmong uI qs.toList=some (.ref c'):=by rw[tM z1 z2];exact hf
  refine kla_makeFunctionHit (si rH) I.ok.glob hG yo W6 e tr Y9 W7 λxA h' tk hk hsz=>?_
  obtain⟨e1,_⟩:=I.fP c' _ q2;refine h H _ _ c' ⟨I.kept (t':=tk) λb o q=>ag _ (hk b o q),.inl rfl,⟨_,xA,ay _ rfl⟩,⟨c',oc,vs,t,rfl,ag _ (hk _ _ e1),q3,q4⟩,bw (aw W8 hsz)⟩
end
end L2
namespace ST
open PySem PySem.Spec PySem.W PyProof.Rows DL L2
noncomputable def u3 (kvs:List (Int×Int)):List (Key×V):=kvs.map λkv=>(.inl kv.1,.int kv.2)
noncomputable def gH (kvs:List (Int×Int)):cm:=kvs.map λkv=>[-kv.2,kv.1]
structure yp (P:cz) (w:cA) (h:Heap) (f cell a:cD) (qual:Str) (pa:Pos) (body:cE) (Dv:List (Key×cw)):Prop where
 fn:∃pm c' xA,h.get? f=some (kla_obj "<lambda>" qual (lA pa) body me [(Str.ofString "uses",cell)] pm c' xA)/\h.CodeRec (.ref c') qual
 lim:h.NoLimit
 cell:h.IsCell cell (some (.ref a))
 dict:h.DictOf (eU P w) a Dv
theorem yp.keeps {P:cz}{w:cA}{h h':Heap}{f cell a:cD}{qual:Str}{pa:Pos}{body:cE}{Dv:List (Key×cw)}(l:yp P w h f cell a qual pa body Dv) (k:∀b o,h.get? b=some o->h'.get? b=some o):yp P w h' f cell a qual pa body Dv where
 fn:=let ⟨pm,c',xA,e,c2,oc,vs,t,z,e2,r⟩:=l.fn;⟨pm,c',xA,k _ _ e,c2,oc,vs,t,z,k _ _ e2,r⟩
 lim:=l.lim.keeps k
 cell:=l.cell.keeps k
 dict:=let ⟨o,es,ep,e,r⟩:=l.dict;⟨o,es,ep,k _ _ e,r⟩
noncomputable def tN:ck->cm->Prop:=Paired λp ns=>∃x y t u,p.2={cls:=.type "tuple",data:=.seq #[.int x t,.int y u]}/\ns=[x,y]
theorem tN.snoc:∀{l:ck}{nss:cm}{p:cD×Obj}{ns:cn},tN l nss->(∃x y t u,p.2={cls:=.type "tuple",data:=.seq #[.int x t,.int y u]}/\ns=[x,y])->tN (l++[p]) (nss++[ns])
 |_,_,_,_,.nil,h=>.cons h .nil
 |_,_,_,_,.cons r t,h=>.cons r (tN.snoc t h)
theorem tN.get:∀{l:ck}{nss:cm},tN l nss->∀(i:Nat) (ns:cn),nss[i]? =some ns->∃p,l[i]? =some p/\∃x y t u,p.2={cls:=.type "tuple",data:=.seq #[.int x t,.int y u]}/\ns=[x,y]
 |_,_,.nil,i,ns,h=>by simp at h
 |p::l,n::nss,.cons r t,0,ns,h=>by simp at h;subst h;exact⟨p,rfl,r⟩
 |p::l,n::nss,.cons r t,i+1,ns,h=>tN.get t i ns (by simpa using h)
theorem tN.length {l:ck}{nss:cm}(t:tN l nss):l.length=nss.length:=Paired.length t
section
variable {P:cz}{w:cA}{A:cB}{s:cx}{f cell a kS D:cD}{qual:Str}{pa pu pp pS pU zD pT:Pos}{Dv:List (Key×cw)}{h₀:Heap}{L:cD}{m:cj}{news:ck}{e1:Nat}{kvs:List (Int×Int)}
theorem A6 {Fin:cv->Nat->cx->Prop}(hV:A.depth<recursionLimit) (U7:D<kS) (Xb:∀q∈news,q.1<D)
  (stays:∀h' o1 o2 fO,Fr h₀ L h' m->News h₀ L h' ((kS,o1)::(D,o2)::(fO++news))->yp P w h' f cell a qual pa (ja pu pp pS pU zD pT) Dv)
  (zA:∀kv∈kvs,∃tn,valueAt Dv (.inl kv.1)=some (.int kv.2 tn))
  (fin:∀fO e h' tk,tN fO (gH kvs)->Fr h₀ L h' m->News h₀ L h' ((kS,seqObj "list" (List.toArray (fO.map λp=>Value.ref p.1)) e)::(D,seqObj "list" #[] e1)::(fO++news))->(∀p∈fO,kS<p.1)->Fin (fO.map λp=>Value.ref p.1) e {s with heap:=h',toks:=tk}):
  ∀(r done:List (Int×Int)) (vs:cv) (fO:ck) (e:Nat) (h':Heap) (tk:Nat),done++r=kvs->IntsAre vs (r.map (·.1))->tN fO (gH done)->Fr h₀ L h' m->
   News h₀ L h' ((kS,seqObj "list" (List.toArray (fO.map λp=>Value.ref p.1)) e)::(D,seqObj "list" #[] e1)::(fO++news))->(∀p∈fO,kS<p.1)->
   KatKeys P w A h₀ L m kS (.ref f) Fin vs (fO.map λp=>Value.ref p.1) e {s with heap:=h',toks:=tk}
 |[],done,vs,fO,e,h',tk,hd,hv,ht,F,N,hk=>by
  cases hv;rw[bB]at hd;subst hd;exact fin fO e h' tk ht F N hk
 |kv::r,done,vs,fO,e,h',tk,hd,hv,ht,F,N,hk=>by
  cases hv with
  |cons n t hv=>
   have la:=stays h' _ _ fO F N;obtain⟨pm,c',xA,hf,hc⟩:=la.fn;obtain⟨tn,Jj⟩:=zA kv (by rw[<-hd];simp)
   refine KatKeys.cons (A5 (s:={s with heap:=h',toks:=tk}) hV hf hc la.lim la.cell la.dict Jj λT h2 Qh Qg hT ext uF=>?_)
   have Za:kS<h'.objs.size:=az (N _ (.head _)).1;have hL:L<h'.objs.size:=F.ns.lt;have UU:kS<T:=aw Za uF;have N2:News h₀ L h2 ((kS,seqObj "list" (List.toArray (fO.map λp=>Value.ref p.1)) e)::(D,seqObj "list" #[] e1)::((fO++[(T,{cls:=.type "tuple",data:=.seq #[.int (-kv.2) Qg,.int kv.1 t]})])++news)):=λp hp=>by
    have old:∀q∈((kS,seqObj "list" (List.toArray (fO.map λp=>Value.ref p.1)) e)::(D,seqObj "list" #[] e1)::(fO++news)),h2.get? q.1=some q.2/\q.1≠L/\h₀.get? q.1=none:=λq hq=>⟨ext _ _ (N q hq).1,(N q hq).2⟩
    rcases List.mem_cons.mp hp with rfl|hp
    ·exact old _ (.head _)
    rcases List.mem_cons.mp hp with rfl|hp
    ·exact old _ (.tail _ (.head _))
    rcases List.mem_append.mp hp with hp|hp
    ·rcases List.mem_append.mp hp with hp|hp
     ·exact old _ (.tail _ (.tail _ (bC _ hp)))
     ·rw[bt]at hp;subst hp;exact⟨hT,bw (aw hL uF),Heap.get?_none_of_le (aB F.above (bg (aw hL uF)))⟩
    ·exact old _ (.tail _ (.tail _ (aL _ hp)))
   have J6:∀p∈fO++[((T,{cls:=.type "tuple",data:=.seq #[.int (-kv.2) Qg,.int kv.1 t]}):cD×Obj)],kS<p.1:=λp hp=>by
    rcases List.mem_append.mp hp with hp|hp
    ·exact hk p hp
    ·rw[bt]at hp;subst hp;exact UU
   refine⟨_,_,F.keeps ext,N2,.head λp hp=>?_,λh3 c3 F3 N3=>?_⟩
   ·rcases List.mem_cons.mp hp with rfl|hp
    ·exact aD U7
    ·rcases List.mem_append.mp hp with hp|hp
     ·exact bw (J6 p hp)
     ·exact aD (bG (Xb p hp) U7)
   ·have em:(fO.map λp=>Value.ref p.1)++[Value.ref T]=(fO++[((T,{cls:=.type "tuple",data:=.seq #[.int (-kv.2) Qg,.int kv.1 t]}):cD×Obj)]).map λp=>Value.ref p.1:=by simp
    rw[em]at N3;show KatKeys P w A h₀ L m kS (.ref f) Fin _ ((fO.map λp=>Value.ref p.1)++[Value.ref T]) c3 {s with heap:=h3,toks:=Qh}
    rw[em];refine A6 hV U7 Xb stays zA fin r (done++[kv]) _ _ c3 h3 Qh (by rw[<-hd];simp) hv ?_ F3 N3 J6
    show tN _ (gH (done++[kv]));unfold gH;rw[List.map_append];exact tN.snoc ht ⟨_,_,_,_,rfl,rfl⟩
end
end ST
namespace ST
open PySem PySem.Spec PySem.W PyProof.Rows DL L2
theorem v9 {κ:Type} [DecidableEq κ]:∀{kvs:List (κ×V)}{k:κ}{v:V},(kvs.map (·.1)).Nodup->(k,v)∈kvs->qu kvs k=some v
 |[],_,_,_,h=>by cases h
 |p::r,k,v,nd,h=>by
  rw[aE,List.nodup_cons]at nd;rcases List.mem_cons.mp h with rfl|h
  ·exact pf rfl
  ·rw[ph λz=>nd.1 (by rw[z];exact List.mem_map_of_mem (f:=(·.1)) h)]
   exact v9 nd.2 h
theorem wa {α β:Type}{R:α->β->Prop}:∀{l:List α}{m:List β},Paired R l m->∀(i:Nat) (b:β),m[i]? =some b->∃a,l[i]? =some a/\R a b
 |_,_,.nil,i,b,h=>by simp at h
 |a::l,c::m,.cons r t,0,b,h=>by simp at h;subst h;exact⟨a,rfl,r⟩
 |a::l,c::m,.cons r t,i+1,b,h=>wa t i b (by simpa using h)
theorem ui:∀{vs:cv}{ns:cn},vs.length=ns.length->(∀(j:Nat) v,vs[j]? =some v->∃t,v=.int (ns.getD j 0) t)->IntsAre vs ns
 |[],[],_,_=>.nil
 |v::vs,n::ns,hl,h=>by
  obtain⟨t,e⟩:=h 0 v rfl;have e':v=.int n t:=by simpa using e
  subst e';exact .cons n t (ui (by simpa using hl) λj u hu=>by simpa using h (j+1) u (by simpa using hu))
 |[],_::_,hl,_=>by simp at hl
 |_::_,[],hl,_=>by simp at hl
theorem wb:∀{vs:cv}{ns:cn},IntsAre vs ns->∀i,i<ns.length->∃t,vs.getD i Value.none=.int (ns.getD i 0) t
 |_,_,.nil,i,h=>by simp at h
 |_,_,.cons n t r,0,h=>⟨t,rfl⟩
 |_,_,.cons n t r,i+1,h=>wb r i (by simpa using h)
section
variable {X:Cx}{pins:ck}{σ:L2.St}{H:Hp}{s:cx}{f cell a:cD}{qual:Str}{pa pu pp pS pU zD pT:Pos}{kvs:List (Int×Int)}
theorem A7 (hc:X.calm=true) (hu:X.A.units+64<cLine) (hV:X.A.in1.in1.depth<recursionLimit) (I:Inv X pins σ H s) (hH:H a=some (.dK (u3 kvs)))
  (Mj:∃pm c' xA,s.heap.get? f=some (kla_obj "<lambda>" qual (lA pa) (ja pu pp pS pU zD pT) me [(Str.ofString "uses",cell)] pm c' xA)/\s.heap.CodeRec (.ref c') qual) (rA:s.heap.IsCell cell (some (.ref a)))
  (h1:1<=kvs.length) (CQ:kvs.length<64) {Q:VK}
  (q:∀(D0:cD) (l:cm),H D0=none->l.Perm (gH kvs)->l.Pairwise (λa b=>HT.lexLt b a=false)->Q (.ref D0) (upd H D0 (.lst (l.map λns=>V.int (ns.getD 1 0))))):
  wpAny (model X.prog X.w) X.A (call (.builtin "sorted") [.ref a] [(Str.ofString "key",.ref f)]) (EP X pins σ Q) X.xe s:=by
 obtain⟨z,lo,Dv,rel,dd⟩:=MZ I.fP hH;obtain⟨o,es,ep,ho,hex,hd,M1,Jk,J5⟩:=id dd;have Xc:s.heap.DictAt (eU X.prog X.w) a Dv ep:=⟨o,es,ho,hex,hd,M1,Jk,J5⟩;have hlen:Dv.length=kvs.length:=by rw[<-rel.length];unfold u3;rw[ae]
 have hh:X.A.handled=none:=I.ok.hd hc;have la:yp X.prog X.w s.heap f cell a qual pa (ja pu pp pS pU zD pT) Dv:=⟨Mj,I.nolimit,rA,dd⟩;have zA:∀kv∈kvs,∃tn,valueAt Dv (.inl kv.1)=some (.int kv.2 tn):=λkv Sj=>by
  have e:qu (u3 kvs) (.inl kv.1)=some (.int kv.2):=v9 (by rw[rel.keys];exact J5) (List.mem_map.mpr ⟨kv,Sj,rfl⟩)
  obtain⟨u,hw,tn,eu⟩:=oM.some_of (v:=.int kv.2) (o:=valueAt Dv (.inl kv.1)) (by rw[<-e];exact rel.val _)
  exact⟨tn,by rw[hw,eu]⟩
 have isInt:∀(j:Nat) v k x,Dv[j]? =some (k,x)->(eU X.prog X.w).is k v=true->∃t,v=.int ((kvs.map (·.1)).getD j 0) t:=λj v k x hk hv=>by
  obtain⟨p,hp,e1,_⟩:=wa rel j (k,x) hk;unfold u3 at hp;rw[av]at hp;cases U8:kvs[j]? with
  |none=>rw[U8]at hp;cases hp
  |some kv=>
   rw[U8]at hp;cases hp;have Zb:(Sum.inl kv.1:Key)=k:=e1;subst Zb;obtain⟨t,e⟩:=Value.isInt_shape (k:=kv.1) (v:=v) hv;exact⟨t,by rw[e,ak,av,U8];rfl⟩
 have Pj:(gH kvs).length=kvs.length:=by unfold gH;rw[ae]
 have M3:∀i,i<kvs.length->∃kv,kvs[i]? =some kv/\(gH kvs)[i]? =some [-kv.2,kv.1]/\(gH kvs).getD i []=[-kv.2,kv.1]/\(kvs.map (·.1)).getD i 0=kv.1:=λi hi=>by
  refine⟨kvs[i],ah hi,?_,?_,?_⟩
  ·unfold gH;rw[av,ah hi];rfl
  ·unfold gH;rw[ak,av,ah hi];rfl
  ·rw[ak,av,ah hi];rfl
 by_cases h2:2<=kvs.length
 ·obtain⟨m,F⟩:=I.fr;have N:News X.base X.env.locals s.heap (jt X.base s.heap X.env.locals):=vd;refine LG F N hh lo Xc (by omega) (by omega) λvs D0 kS e1 h' tk hl hv F' N' l0 l1 uF=>?_
  have Cz:s.heap.get? D0=none:=Heap.get?_none_of_le uF;have uf:∀{h':Heap}{o1 o2:Obj}{fO:ck},Fr X.base X.env.locals h' m->News X.base X.env.locals h' ((kS,o1)::(D0,o2)::(fO++jt X.base s.heap X.env.locals))->∀b o,b≠X.env.locals->s.heap.get? b=some o->h'.get? b=some o:=λ{h' o1 o2 fO} F' N' b o hb e=>by
   cases g:X.base.get? b with
   |some u=>
    have:=I.bk b u g;rw[e]at this;cases this;exact F'.keep b _ g
   |none=>exact(N' (b,o) (.tail _ (.tail _ (aL _ (my hb g e))))).1
  have U9:∀{b:cD}{o:Obj},s.heap.get? b=some o->(∀es ep,o.data≠.dict es ep)->b≠X.env.locals:=λ{b o} e nd zb=>by
   obtain⟨oL,es,ep,hL,Rq,_⟩:=F.ns;rw[zb,hL]at e;cases e;exact nd _ _ Rq
  have stays:∀h' o1 o2 fO,Fr X.base X.env.locals h' m->News X.base X.env.locals h' ((kS,o1)::(D0,o2)::(fO++jt X.base s.heap X.env.locals))->yp X.prog X.w h' f cell a qual pa (ja pu pp pS pU zD pT) Dv:=λh' o1 o2 fO F' N'=>by
   have qD:=uf F' N';obtain⟨pm,c',xA,e,c2,oc,Zc,t,zc,e2,r1,r2⟩:=Mj;refine⟨⟨pm,c',xA,qD _ _ (U9 e λ_ _ z=>by cases z) e,c2,oc,Zc,t,zc,qD _ _ (U9 e2 λ_ _ z=>by rw[r1]at z;cases z) e2,r1,r2⟩,I.ok.mod.nolimit.keeps F'.keep,?_,⟨o,es,ep,qD _ _ (λzz=>by rw[zz,I.free]at hH;cases hH) ho,hex,hd,M1,Jk,J5⟩⟩
   obtain⟨Xd,e3,e4⟩:=rA;exact⟨Xd,qD _ _ (U9 e3 λ_ _ z=>by rw[e4]at z;cases z) e3,e4⟩
  have hints:IntsAre vs (kvs.map (·.1)):=ui (by rw[ae];omega) λj v hj=>by
   obtain⟨k,x,hk,Kl⟩:=hv j v hj;exact isInt j v k x hk Kl
  refine A6 (s:=s) (kvs:=kvs) (news:=jt X.base s.heap X.env.locals) (e1:=e1) hV l0 l1 stays zA (λfO e h' tk ht F' N' hk=>?_) kvs [] vs [] 0 h' tk rfl hints .nil F' N' (λp hp=>by cases hp)
  have tl:fO.length=kvs.length:=by rw[ht.length,Pj]
  have vD:∀i,i<kvs.length->∃p,fO[i]? =some p/\(fO.map λp=>Value.ref p.1).getD i Value.none=.ref p.1/\TI h' (.ref p.1) ((gH kvs).getD i []):=λi hi=>by
   obtain⟨kv,_,ek,Va,_⟩:=M3 i hi;obtain⟨p,hp,x,y,t,u,ep,Zd⟩:=ht.get i _ ek;refine⟨p,hp,by rw[ak,av,hp];rfl,p.1,p.2,[.int x t,.int y u],0,rfl,(N' p (.tail _ (.tail _ (bC _ (bh hp))))).1,by rw[ep],by rw[ep],?_⟩
   rw[Va,Zd];exact .cons x t (.cons y u .nil)
  refine MX (s:={s with heap:=h',toks:=tk}) (λv hv=>?_) λκ hκ=>?_
  ·obtain⟨p,hp,rfl⟩:=List.mem_map.mp hv;obtain⟨i,hi⟩:=bp hp;have Ze:i<kvs.length:=by rw[<-tl];exact(List.getElem?_eq_some_iff.mp hi).1
   obtain⟨p',vX,_,ti⟩:=vD i Ze;rw[hi]at vX;cases vX;exact⟨_,ti⟩
  rw[show vs.length=kvs.length by omega]
  have cmp:∀i j (R:Bool->cx->Prop),i<kvs.length->j<kvs.length->R (HT.lexLt ((gH kvs).getD i []) ((gH kvs).getD j [])) {s with heap:=h',toks:=tk}->kas_ask X.prog X.w X.A.in1.in1 κ (fO.map λp=>Value.ref p.1) i j R {s with heap:=h',toks:=tk}:=λi j R hi hj hR=>by
   obtain⟨p,_,ep,tp⟩:=vD i hi;obtain⟨p',_,Nm,Zf⟩:=vD j hj;show wpAny _ _ (keyLt' _ ((fO.map λp=>Value.ref p.1).getD i Value.none) ((fO.map λp=>Value.ref p.1).getD j Value.none)) _ _ _
   rw[ep,Nm];exact Sf tp Zf (by show X.A.units+1+1+8<cLine;omega) hκ hR
  refine So.p7 (n:=kvs.length) cmp _ (So.vB (by omega)) ?_
  obtain⟨s1,s2⟩:=So.vw (lt:=λi j=>HT.lexLt ((gH kvs).getD i []) ((gH kvs).getD j [])) (rank:=λi=>p8 (gH kvs) ((gH kvs).getD i [])) (λi j=>jT (kQ _ _) (kQ _ _)) kvs.length (by omega)
  generalize So.iu _ (kas_sort kvs.length)=ar at s1 s2;have pm:ar.toList.Perm (List.range kvs.length):=by simpa using Array.perm_iff_toList_perm.mp s1
  have below:∀i∈ar.toList,i<kvs.length:=λi hi=>by simpa using pm.mem_iff.mp hi
  generalize g9:(ar.toList.map λi=>(gH kvs).getD i [])=l'
  have lp:l'.Perm (gH kvs):=by
   rw[<-g9];have:=pm.map λi=>(gH kvs).getD i []
   have e:(List.range kvs.length).map (λi=>(gH kvs).getD i [])=gH kvs:=by rw[<-Pj];exact lP (gH kvs) []
   rw[e]at this;exact this
  refine⟨_,_,F',N',.head λp hp=>?_,λh2 c F2 N2=>⟨_,_,F2,N2,.tail (bw l0) (.head λp hp=>?_),λh3 c3 F3 N3=>?_⟩⟩
  ·rcases List.mem_cons.mp hp with rfl|hp
   ·exact aD l0
   ·rcases List.mem_append.mp hp with hp|hp
    ·exact bw (hk p hp)
    ·exact aD (bG (l1 p hp) l0)
  ·rcases List.mem_append.mp hp with hp|hp
   ·exact bw (bG l0 (hk p hp))
   ·exact aD (l1 p hp)
  have hD:H D0=none:=I.fP.fresh uF;have iW:=uf F3 N3;have Ru:h3.get? D0=some {cls:=.type "list",data:=.seq (List.toArray (ar.toList.map λi=>vs.getD i Value.none)) c3}:=(N3 _ (.tail _ (.head _))).1
  refine⟨.ref D0,upd H D0 (.lst (l'.map λns=>V.int (ns.getD 1 0))),?_,rfl,q D0 l' hD lp ?_⟩
  ·show Inv X pins σ _ {s with heap:=h3,gens:=s.gens,drawn:=s.drawn,toks:=tk}
   refine I.step (g':=s.gens) (d':=s.drawn) (t':=tk) (ch:=[]) (λ_ z=>nomatch z) (λb o h1 _ _ e _=>iW b o h1 e) (λb o h1 _ _ e _=>⟨o.slots,iW b o h1 e⟩) (λb o _ e hn=>?_) (λb o _ e=>?_) (λb xs e=>?_) (λb o xs e=>?_) (λb ps e=>⟨#[],?_⟩) (λm' hm=>?_) (λb u e=>?_) I.bare
   ·rw[cQ (λz=>by rw[z,Cz]at e;cases e)];exact hn
   ·by_cases hb:b=X.env.locals
    ·obtain⟨o',_,_,e',_⟩:=F3.ns;exact⟨o',by rw[hb];exact e'⟩
    ·exact⟨o,iW b o hb e⟩
   ·rw[cQ (cS e hD)];exact e
   ·rw[cQ (cS e hD)];exact e
   ·rw[cQ (cS e hD),e];simp
   ·rw[CP hm F.ns];exact F3.ns
   ·by_cases hb:b=D0
    ·subst hb;rw[cU]at e;cases e;refine⟨by rw[ae,lp.length_eq,Pj];exact bg (jR (by omega)),_,c3,?_,Ru⟩
     rw[<-g9,aV];have aux:∀k:List Nat,(∀i∈k,i<kvs.length)->Vals (k.map ((λns:cn=>V.int (ns.getD 1 0))∘λi=>(gH kvs).getD i [])) (k.map λi=>vs.getD i Value.none):=λk=>by
      induction k with
      |nil=>intro _;exact .nil
      |cons i k ih=>
       intro hb;obtain⟨kv,_,_,Va,Zg⟩:=M3 i (hb i af);obtain⟨t,et⟩:=wb hints i (by rw[ae];exact hb i af)
       refine .cons ?_ (ih λj hj=>hb j (ai _ hj))
       have ev:((λns:cn=>V.int (ns.getD 1 0))∘λi=>(gH kvs).getD i []) i=V.int kv.1:=by
        show V.int (((gH kvs).getD i []).getD 1 0)=_;rw[Va];rfl
       have rv:RelV (V.int kv.1) (vs.getD i Value.none):=by rw[et,Zg];exact⟨t,rfl⟩
       rw[<-ev]at rv;exact rv
     exact aux ar.toList below
    ·rw[cQ hb]at e;refine(I.fP b u e).yJ (λk v hk z=>iW k v ?_ z) (λk z=>by rw[cQ (cS z hD)];exact z) λk xs z=>by rw[cQ (cS z hD)];exact z
     rcases hk with rfl|hk
     ·intro z;rw[z,I.free]at e;cases e
     ·intro z;rw[z,I.free]at hk;cases hk
  ·rw[<-g9,List.pairwise_map,List.pairwise_iff_getElem];intro i j hi hj vp;have sz:ar.size=kvs.length:=by simpa using s1.size_eq
   have xf:i<ar.size:=by simpa using hi
   have GU:j<ar.size:=by simpa using hj
   have le:=s2 i j (bg vp) (by omega)
   unfold So.kk at le;rw[aT,aT,aU xf,aU GU]at le;simp only[Option.getD_some]at le;have e:=jT (nss:=gH kvs) (a:=(gH kvs).getD (ar[j]) []) (b:=(gH kvs).getD (ar[i]) []) (kQ _ _) (kQ _ _);simp only[Array.getElem_toList];rw[e];exact aG (by omega)
 ·have LA:kvs.length=1:=by omega
  obtain⟨kv,rfl⟩:∃kv,kvs=[kv]:=by
   match kvs,LA with
   |[kv],_=>exact⟨kv,rfl⟩
  refine Jg hh lo Xc (by omega) (λg tk v hk ext=>?_) λD0 v h' c tk hk hD uF keep=>?_
  ·obtain⟨k,x,Tc,hv⟩:=hk;obtain⟨t,rfl⟩:=isInt 0 v k x Tc hv;have lg:=la.keeps ext;obtain⟨pm,c',xA,hf,m3⟩:=lg.fn;obtain⟨tn,Jj⟩:=zA kv (by simp)
   exact A5 (s:={s with heap:=g,toks:=tk}) (p:=kv.1) hV hf m3 lg.lim lg.cell lg.dict Jj λT h2 Qh Qg hT e2 uF=>⟨h2,Qh,rfl,e2⟩
  ·obtain⟨k,x,Tc,hv⟩:=hk;obtain⟨t,rfl⟩:=isInt 0 v k x Tc hv;have Fv:H D0=none:=I.fP.fresh uF;exact⟨.ref D0,_,I.laid (t':=tk) (o:=.lst ([[-kv.2,kv.1]].map λns=>V.int (ns.getD 1 0))) keep uF ⟨by show(1:Nat)<=_;decide,[.int kv.1 t],c,.cons ⟨t,rfl⟩ .nil,hD⟩,rfl,q D0 [[-kv.2,kv.1]] Fv (List.Perm.refl _) (by simp)⟩
end
end ST
namespace DL
open PySem PySem.Spec PyProof.Rows L2
open ST (u3 gH)
noncomputable def kU (kvs:List (Int×Int)):D:=.lst (kvs.map λkv=>.tup [.int kv.1,.int kv.2])
noncomputable def pairD:D->Option (Int×Int)
 |.tup [.int a,.int b]=>some (a,b)
 |_=>none
noncomputable def tabs:cu->Option (List (Int×Int))
 |[]=>some []
 |d::r=>(pairD d).bind λp=>(tabs r).map λl=>p::l
noncomputable def zE:D->Option (List (Int×Int))
 |.lst ds=>tabs ds
 |_=>none
theorem A8:∀kvs:List (Int×Int),tabs (kvs.map λkv=>D.tup [.int kv.1,.int kv.2])=some kvs
 |[]=>rfl
 |kv::r=>by
  show(pairD (.tup [.int kv.1,.int kv.2])).bind _=_;rw[show pairD (.tup [.int kv.1,.int kv.2])=some kv from rfl]
  simp only[ao];rw[A8 r];rfl
theorem zF (kvs:List (Int×Int)):zE (kU kvs)=some kvs:=A8 kvs
theorem A9 {a b:List (Int×Int)}(h:kU a=kU b):a=b:=by
 have:=congrArg zE h;rw[zF,zF]at this;exact aS this
theorem Jl {d:D}{p:Int×Int}(h:pairD d=some p):d=.tup [.int p.1,.int p.2]:=by
 unfold pairD at h;split at h
 ·cases h;rfl
 ·cases h
theorem EI:∀{ds:cu}{kvs:List (Int×Int)},tabs ds=some kvs->ds=kvs.map λkv=>D.tup [.int kv.1,.int kv.2]
 |[],_,h=>by cases h;rfl
 |d::r,kvs,h=>by
  unfold tabs at h;cases h1:pairD d with
  |none=>rw[h1]at h;cases h
  |some p=>
   rw[h1]at h;simp only[ao]at h;cases h2:tabs r with
   |none=>rw[h2]at h;cases h
   |some l=>rw[h2]at h;cases h;rw[EI h2,Jl h1];rfl
theorem EJ {k:D}{kvs:List (Int×Int)}(h:zE k=some kvs):k=kU kvs:=by
 cases k with
 |lst ds=>exact congrArg D.lst (EI h)
 |_=>cases h
@[reducible] noncomputable def eL (a:cD):Mem where
 cell:=some a
 face:=some a
 ok:=λC H=>C a=none/\∃kvs,H a=some (.dK kvs)
 has:=λ_ H k=>∀kvs,k=kU kvs->H a=some (.dK (u3 kvs))
 rel:=λC H C' H'=>(C a=none/\∃kvs,H a=some (.dK kvs))->C' a=none/\∀u,H a=some u->H' a=some u
 of0:=λ{C H C' H'} e ⟨hc,kvs,hk⟩=>⟨by
  cases q:C' a with
  |none=>rfl
  |some u=>rcases e.n a u q with z|z<;>simp_all,λu q=>e.h a u q⟩
 trans:=λ{C H C' H' C2 H2} r1 r2 ⟨hc,kvs,hk⟩=>by
  obtain⟨a1,a2⟩:=r1 ⟨hc,kvs,hk⟩;obtain⟨b1,b2⟩:=r2 ⟨a1,kvs,a2 _ hk⟩;exact⟨b1,λu q=>b2 u (a2 u q)⟩
 chg:=λ{C H C' H' b o} r hn ⟨hc,kvs,hk⟩=>by
  obtain⟨a1,a2⟩:=r ⟨hc,kvs,hk⟩;exact⟨a1,λu q=>by rw[cQ (cS q hn)];exact a2 u q⟩
 give:=λ{C H C' H' b o} r Zh hb hx ⟨hc,kvs,hk⟩=>by
  obtain⟨a1,a2⟩:=r ⟨hc,kvs,hk⟩;have jr:a≠b:=λz=>by
   have:=a2 _ hk;rw[z,hb]at this;cases this;cases hx
  exact⟨by rw[cQ jr];exact a1,a2⟩
 S5:=λr ⟨hc,kvs,hk⟩=>⟨(r ⟨hc,kvs,hk⟩).1,kvs,(r ⟨hc,kvs,hk⟩).2 _ hk⟩
 KN:=λr h hh kvs e=>(r h).2 _ (hh kvs e)
 Ra:=λ{C H b o} ⟨hc,kvs,hk⟩ hb=>⟨hc,kvs,by rw[cQ (λz=>by subst z;have:=hb _ hk;cases this)];exact hk⟩
 HA:=λ{C H b o k} ⟨hc,Vb,hk⟩ hb hh kvs e=>by rw[cQ (λz=>by subst z;have:=hb _ hk;cases this)];exact hh kvs e
 S6:=λ{C H b o} ⟨hc,kvs,hk⟩ Zh hb hx=>⟨by rw[cQ (λz=>by subst z;rw[hk]at hb;cases hb;cases hx)];exact hc,kvs,hk⟩
 KO:=λ_ _ _ _ hh=>hh
noncomputable def u4 (i:Nat) (fr:bZ):bZ:=λδ=>if noOwn δ=true/\i<δ.length then(fr (δ.set i (.memo [kU []]))).bind (Ik i)else none
section
variable {X:Cx}{e:cE}{es:List cE}{p pos pos':Pos}{x:Str}{a:cD}{C0 H0:Hp}{rest:List cF}
theorem EK {C H C1 H1 C2 H2:Hp}(e1:oK C H C1 H1) (hn:H a=none) (e2:@Ev (eL a) C1 H1 C2 H2):oK C H C2 H2:=by
 letI:=eL a
 refine⟨e1.c.trans e2.c,λb o q=>?_,e2.s,λb u q=>?_⟩
 ·have hb:b≠a:=λz=>by subst z;rw[hn]at q;cases q
  exact e2.h b o (e1.h b o q) (.inl λz=>hb (aS z).symm)
 ·rcases e2.n b u q with z|z
  ·exact e1.n b u z
  ·exact .inr (e1.h.free z)
theorem zG {B C0 H0 C H C2 H2:Hp}{δ δ':dM}{σ σ':L2.St}{i:Nat}(g:@Gd Mem.keep B C0 H0 δ σ C H) (hn:H a=none) (g2:@Gd (eL a) B C H δ' σ' C2 H2) (hm:o7 (δ'.set i .no)=true):
  @Gd Mem.keep B C0 H0 (δ'.set i .no) σ' C2 H2:=by
 have e1:oK C0 H0 C H:=(@Gd.ev Mem.keep _ _ _ _ _ _ _ g).ue;have e2:oK C0 H0 C2 H2:=EK e1 (e1.h.free hn) (@Gd.ev (eL a) _ _ _ _ _ _ _ g2);have x2:=@Gd.x (eL a) _ _ _ _ _ _ _ g2;have own:∀{k:Nat}{ds:cu},(δ'.set i Sl.no)[k]? =some (.own ds)->δ'[k]? =some (.own ds):=λ{k ds} q=>by
  rcases getElem?_set_cases q with⟨_,z⟩|⟨_,z⟩
  ·cases z
  ·exact z
 letI:=Mem.keep
 refine⟨@Gd.b (eL a) _ _ _ _ _ _ _ g2,e2.up,⟨e2.s,λk d q=>?_,λk ds q=>@Sx.own (eL a) _ _ _ _ x2 k ds (own q),λk l ds es b q1 q2=>@Sx.za (eL a) _ _ _ _ x2 k l ds es b (own q1) (own q2),by rw[List.length_set];exact @Sx.len (eL a) _ _ _ _ x2,λk ks q=>(yi hm q).elim⟩,λk ds b q1 q2=>?_⟩
 ·rcases getElem?_set_cases q with⟨_,z⟩|⟨_,z⟩
  ·cases z
  ·exact @Sx.dat (eL a) _ _ _ _ x2 k d z
 ·exact e1.h.free (@Gd.fr (eL a) _ _ _ _ _ _ _ g2 k ds b (own q1) q2)
theorem Dw (i:Nat) {y:Str}{py pd:Pos}{fr:bZ}(hN:X.N.Nodup)
  (hr:∀(a:cD) (C1 H1:Hp),H1 a=none->@CJ (eL a) X C1 H1 rest fr) (hi:X.N[i]? =some y:=by rfl) (hx:Loc X.env.scope y:=by first|exact Or.inl rfl|exact Or.inr rfl) (hs:swapsWith (.Dict [] [] pd) (some (.Name y py)) pos.line X.env=pure false:=by rfl) (hf:X.fn y=true\/X.env.scope.names.lookup y=some .local:=by first|exact .inl rfl|exact .inr rfl):
  @CJ Mem.keep X C0 H0 (.Assign [.Name y py] (.Dict [] [] pd) pos::rest) (u4 i fr):=λB=>by
 have ex:xP X rest (λDn σ H=>∃(a:cD) (C1 H1:Hp),H1 a=none/\@tS (eL a) B C1 H1 fr Dn σ H):=λpins s σ H Dn I ⟨a,C1,H1,hn,q⟩=>hr a C1 H1 hn B pins s σ H Dn I q
 refine(vg (yO hN hi hx (Jd (pos:=pd)) hs hf) ex).imp λDn σ H ⟨C,δ,r,gd,q,fin⟩=>?_
 unfold u4 at q;split at q
 case isFalse=>cases q
 rename_i hc;obtain⟨II,hlen⟩:=hc;cases Fv:fr (δ.set i (.memo [kU []]))with
 |none=>rw[Fv]at q;cases q
 |some r'=>
  rw[Fv]at q;simp only[ao]at q;intro t ht;have x0:=@Gd.x Mem.keep _ _ _ _ _ _ _ gd;have sub:=@Sx.sub Mem.keep _ _ _ _ x0;have WC:C t=none:=sub.free ht;have Vc:dR C (upd H t (.dK [])):=sub.trans (eD ht);have e1:oK C0 H0 C H:=(@Gd.ev Mem.keep _ _ _ _ _ _ _ gd).ue;have e0:oK C H C (upd H t (.dK [])):=.fu sub ht;have g1:@Gd (eL t) B C H (δ.set i (.memo [kU []])) (σ.set i (some (.ref t))) C (upd H t (.dK [])):=by
   letI:=eL t
   have hl:=@Sx.len Mem.keep _ _ _ _ x0;refine⟨@Gd.b Mem.keep _ _ _ _ _ _ _ gd,e0.up,⟨Vc,λk d z=>?_,λk ds z=>?_,λk l ds es b z=>?_,by simp[hl],λk ks z=>?_⟩,λk ds b z=>?_⟩
   ·rcases getElem?_set_cases z with⟨_,z⟩|⟨hk,z⟩
    ·cases z
    ·obtain⟨v,h1,h2⟩:=@Sx.dat Mem.keep _ _ _ _ x0 k d z;exact⟨v,by rw[aF (Ne.symm hk)];exact h1,h2⟩
   ·rcases getElem?_set_cases z with⟨_,z⟩|⟨hk,z⟩
    ·cases z
    ·exact(vQ II z).elim
   ·rcases getElem?_set_cases z with⟨_,z⟩|⟨hk,z⟩
    ·cases z
    ·exact(vQ II z).elim
   ·rcases getElem?_set_cases z with⟨rfl,z'⟩|⟨hk,z⟩
    ·cases z';refine⟨t,rfl,by rw[bc (by rw[<-hl];exact hlen)],⟨WC,[],cU⟩,λk hk kvs e=>?_⟩
     rw[bt]at hk;subst hk;have:=A9 e;subst this;exact cU
    ·obtain⟨b,h1,_⟩:=@Sx.mem Mem.keep _ _ _ _ x0 k ks z;cases h1
   ·rcases getElem?_set_cases z with⟨_,z⟩|⟨hk,z⟩
    ·cases z
    ·exact(vQ II z).elim
  refine⟨t,C,H,ht,C,_,r',g1,Fv,?_⟩;cases r' with
  |next δ'=>
   simp only[Ik]at q;split at q
   ·rename_i hm;cases q;exact λσ' C2 H2 g2=>fin σ' C2 H2 (zG gd ht g2 hm)
   ·cases q
  |ret d=>
   cases q;exact λv C2 H2 ev iv=>fin v C2 H2 (@oK.up _ _ _ _ Mem.keep (EK e1 (e1.h.free ht) ev)) iv
  |brk δ'=>
   simp only[Ik]at q;split at q
   ·rename_i hm;cases q;exact λσ' C2 H2 g2=>fin σ' C2 H2 (zG gd ht g2 hm)
   ·cases q
  |cont δ'=>
   simp only[Ik]at q;split at q
   ·rename_i hm;cases q;exact λσ' C2 H2 g2=>fin σ' C2 H2 (zG gd ht g2 hm)
   ·cases q
theorem Dx (i:Nat) {y:Str}{py pd:Pos}{fr:bZ}(hN:X.N.Nodup)
  (hr:∀(a:cD) (C1 H1:Hp),H1 a=none->@vE (eL a) X C1 H1 rest fr) (hi:X.N[i]? =some y:=by rfl) (hx:Loc X.env.scope y:=by first|exact Or.inl rfl|exact Or.inr rfl) (hs:swapsWith (.Dict [] [] pd) (some (.Name y py)) pos.line X.env=pure false:=by rfl) (hf:X.fn y=true\/X.env.scope.names.lookup y=some .local:=by first|exact .inl rfl|exact .inr rfl):
  @vE Mem.keep X C0 H0 (.Assign [.Name y py] (.Dict [] [] pd) pos::rest) (u4 i fr):=
 @vE.mk Mem.keep _ _ _ _ _ (Dw i hN (λa C1 H1 hn=>@vE.go (eL a) _ _ _ _ _ (hr a C1 H1 hn)) hi hx hs hf)
end
end DL
namespace DL
open PySem PySem.Spec PyProof.Rows L2
open ST (u3 gH)
noncomputable def Dy (kvs:List (Int×Int)) (p:Int):Int:=((kvs.find? λkv=>decide (kv.1=p)).map (·.2)).getD 0
noncomputable def nk (kvs:List (Int×Int)) (p:Int):List (Int×Int):=
 if(kvs.any λkv=>decide (kv.1=p))=true then kvs.map (λkv=>if kv.1=p then(kv.1,Dy kvs p+1)else kv)else kvs++[(p,Dy kvs p+1)]
theorem Pk (a b:Int):decide ((Sum.inl a:Key)=Sum.inl b)=decide (a=b):=by
 by_cases h:a=b
 ·subst h;simp
 ·rw[aG h,aG (λz=>h (Sum.inl.inj z))]
theorem EL (p:Int):∀kvs:List (Int×Int),qu (u3 kvs) (.inl p)=((kvs.find? λkv=>decide (kv.1=p)).map (·.2)).map V.int
 |[]=>rfl
 |kv::r=>by
  have ih:=EL p r;unfold u3 at ih ⊢;rw[aE,List.find?_cons];by_cases h:kv.1=p
  ·rw[pf (by show(Sum.inl kv.1:Key)=_;rw[h]),aR h];rfl
  ·rw[ph (λz=>h (Sum.inl.inj z)),aG h,ih]
theorem LH (kvs:List (Int×Int)) (p:Int):(qu (u3 kvs) (.inl p)).getD (.int 0)=.int (Dy kvs p):=by
 rw[EL];unfold Dy;cases (kvs.find? λkv=>decide (kv.1=p))<;>rfl
theorem LI (kvs:List (Int×Int)) (p:Int):putK (u3 kvs) (.inl p) (.int (Dy kvs p+1))=u3 (nk kvs p):=by
 have ha:((u3 kvs).any λkv=>decide (kv.1=(Sum.inl p:Key)))=kvs.any λkv=>decide (kv.1=p):=by
  unfold u3;rw[List.any_map]
  congr 1
  funext kv
  exact Pk kv.1 p
 unfold putK nk;rw[ha];split
 ·unfold u3;rw[aV,aV];refine bS λkv _=>?_
  simp only[Function.comp_apply];by_cases h:kv.1=p
  ·rw[if_pos (by rw[h]),if_pos h]
  ·rw[if_neg (λz=>h (Sum.inl.inj z)),if_neg h]
 ·unfold u3;rw[List.map_append];rfl
noncomputable def u5 (i:Nat) (f:cb):bZ:=λδ=>match δ[i]?,f δ with
 |some (.memo [k]),some (.int p)=>(zE k).bind λkvs=>if kvs.length<1000/\o7 (δ.set i .no)=true then some (.next (δ.set i (.memo [kU (nk kvs p)])))else none
 |_,_=>none
section
variable {X:Cx}{o1 o2 k1 k2 e:cE}{p pos pos' apos dY pb pz To kp:Pos}{a:cD}{C0 H0:Hp}{i j j2:Nat}{f:cb}
theorem Gn (hn:H0 a=none) (hu:X.A.units+64<cLine) (sR:PE X o1 (ir i)) (LA:@PD (eL a) X k1 f) (m:M2 X o1 "get" apos k1 (.Constant (.int 0) j pz) dY) (uA:PE X o2 (ir i)) (J6:@PD (eL a) X k2 f)
  (hs:swapsWith (.BinOp (.Call (.Attribute o1 "get" apos) [k1,.Constant (.int 0) j pz] [] dY) .Add (.Constant (.int 1) j2 To) pb) (some (.Subscript o2 k2 pos')) pos.line X.env=pure false:=by rfl):
  @PB (eL a) X C0 H0 (.Assign [.Subscript o2 k2 pos'] (.BinOp (.Call (.Attribute o1 "get" apos) [k1,.Constant (.int 0) j pz] [] dY) .Add (.Constant (.int 1) j2 To) pb) pos) (u5 i f):=λB=>by
 letI:=eL a
 refine(LF (by omega) uA J6 (G8 G9 (Je (by omega) sR LA B9 m) B9) hs).imp λDn σ H ⟨C,δ,r,gd,q,fin⟩=>?_
 unfold u5 at q;split at q
 case h_2=>cases q
 rename_i k p' hi hf;cases hk:zE k with
 |none=>rw[hk]at q;cases q
 |some kvs=>
  rw[hk]at q;simp only[ao]at q;split at q
  case isFalse=>cases q
  rename_i hc;cases q;have ek:=EJ hk;have at_:∀{C' H':Hp},Gd B C0 H0 δ σ C' H'->σ[i]? =some (some (.ref a))/\C' a=none/\H' a=some (.dK (u3 kvs)):=λ{C' H'} g=>by
   obtain⟨a',z1,z2,z3,z4⟩:=g.x.mem i [k] hi;cases z1;exact⟨z2,z3.1,z4 k (by simp) kvs ek⟩
  have lt:kvs.length<sizeLine:=aw hc.1 (by decide)
  have lt':(u3 kvs).length<sizeLine:=by unfold u3;rw[ae];exact lt
  refine⟨.ref a,(at_ gd).1,a,rfl,.inl ⟨_,.inl (at_ gd).2.2⟩,C,δ,.int p',gd.x,hf,λv1 C1 H1 e1 i1=>?_⟩
  have g1:=gd.Ak e1;have Zi:v1=.int p':=by cases i1;rfl
  subst Zi;refine⟨qu (u3 kvs) (.inl p'),Ja.k (k:=.inl p') (at_ g1).2.2,?_⟩;refine⟨Dy kvs p',1,LH kvs p',rfl,?_⟩;refine⟨.ref a,(at_ g1).1,C1,δ,.int p',g1.x,hf,λv2 C2 H2 e2 i2=>?_⟩
  have g2:=g1.Ak e2;have Zj:v2=.int p':=by cases i2;rfl
  subst Zj;refine⟨a,upd H2 a (.dK (putK (u3 kvs) (.inl p') (.int (Dy kvs p'+1)))),rfl,Jb.k (k:=.inl p') (at_ g2).2.2 lt',?_⟩;rw[LI];have hC:=(at_ g2).2.1;have hH:=(at_ g2).2.2;have xs:=g2.x;refine fin σ C2 _ ⟨g2.b,g2.ev.Ef hn hC _,⟨λb u z=>?_,λn d z=>?_,λn ds z=>?_,λn l ds es b z1 z2=>?_,by rw[List.length_set];exact xs.len,λn ks z=>?_⟩,λn ds b z1 z2=>?_⟩
  ·rw[cQ (λzz=>by rw[zz,hC]at z;cases z)];exact xs.sub b u z
  ·rcases getElem?_set_cases z with⟨_,z⟩|⟨_,z⟩
   ·cases z
   ·exact xs.dat n d z
  ·rcases getElem?_set_cases z with⟨_,z⟩|⟨_,z⟩
   ·cases z
   ·obtain⟨b,ys,y1,y2,y3,y4⟩:=xs.own n ds z;exact⟨b,ys,y1,y2,by rw[cQ (λzz=>by rw[zz,hH]at y3;cases y3)];exact y3,y4⟩
  ·rcases getElem?_set_cases z1 with⟨_,z1⟩|⟨_,z1⟩
   ·cases z1
   rcases getElem?_set_cases z2 with⟨_,z2⟩|⟨_,z2⟩
   ·cases z2
   exact xs.za n l ds es b z1 z2
  ·rcases getElem?_set_cases z with⟨rfl,z'⟩|⟨jr,z'⟩
   ·cases z';refine⟨a,rfl,(at_ g2).1,⟨hC,_,cU⟩,λk' Dd Vb e'=>?_⟩
    rw[bt]at Dd;subst Dd;have:=A9 e';subst this;exact cU
   ·exact(yi hc.2 (i:=n) (ds:=ks) (by rw[aF (Ne.symm jr)];exact z')).elim
  ·rcases getElem?_set_cases z1 with⟨_,z1⟩|⟨_,z1⟩
   ·cases z1
   ·exact g2.fr n ds b z1 z2
theorem Gp (hn:H0 a=none) (hu:X.A.units+64<cLine) (sR:PE X o1 (ir i)) (LA:@WD (eL a) X k1 f) (uA:PE X o2 (ir i)) (J6:@WD (eL a) X k2 f) (m:M2 X o1 "get" apos k1 (.Constant (.int 0) j pz) dY:=by exact⟨rfl,rfl,rfl,rfl⟩)
  (hs:swapsWith (.BinOp (.Call (.Attribute o1 "get" apos) [k1,.Constant (.int 0) j pz] [] dY) .Add (.Constant (.int 1) j2 To) pb) (some (.Subscript o2 k2 pos')) pos.line X.env=pure false:=by rfl):
  @WB (eL a) X C0 H0 (.Assign [.Subscript o2 k2 pos'] (.BinOp (.Call (.Attribute o1 "get" apos) [k1,.Constant (.int 0) j pz] [] dY) .Add (.Constant (.int 1) j2 To) pb) pos) (u5 i f):=by
 letI:=eL a
 exact⟨Gn hn hu sR LA.go m uA J6.go hs⟩
noncomputable def qc (i:Nat):bY:=λδ=>match δ[i]? with
 |some (.memo [k])=>(zE k).bind λkvs=>if 1<=kvs.length/\kvs.length<64 then some ((fQ (gH kvs)).map λns=>.int (ns.getD 1 0))else none
 |_=>none
theorem Ba {x qual:Str}{c Pt:cD}{uI pa pu pp pS pU zD pT:Pos}(hc:X.calm=true) (hu:X.A.units+64<cLine) (hV:X.A.depth+5<recursionLimit) (hg:Gl X "sorted") (hm:X.mg "sorted"=none) (hN:X.N[i]? =some (Str.ofString "uses")) (hk:X.env.kindOf (Str.ofString "uses")=some .cell)
  (hT:(x,uI,qual)∈ux) (ht:W.tabIn X.K x=some (c,Pt)) (hq:X.env.qual++Str.ofString "<lambda>"=qual) (yo:X.env.code=.ref c) (sR:PE X o1 (ir i))
  (he:backTo pos (starEach [o1] X.env)=(false,eval o1 X.env)::backTo pos (starEach [] X.env)):
  @PF (eL a) X (.Call (.Name "sorted" p) [o1] [⟨some "key",.Lambda (lA pa) (ja pu pp pS pU zD pT) me uI,kp⟩] pos) (qc i):=by
 letI:=eL a
 intro pins s σ H Q I ⟨C,δ,ds,sx,q,k⟩;unfold qc at q;split at q
 case h_2=>cases q
 rename_i k' hi;cases Sj:zE k' with
 |none=>rw[Sj]at q;cases q
 |some kvs=>
  rw[Sj]at q;simp only[ao]at q;split at q
  case isFalse=>cases q
  rename_i hlen;cases q;obtain⟨a',z1,z2,z3,z4⟩:=sx.mem i [k'] hi;cases z1;have hH:H a=some (.dK (u3 kvs)):=z4 k' (by simp) kvs (EJ Sj)
  obtain⟨cell,rH⟩:=I.ok.has (Str.ofString "uses") (.inl hk);refine wpAny_Call_Name_kw (lL I hg hm fH ?_);refine callWith_kw ?_ he (by rw[he];rfl) rfl rfl
  rw[he];refine Calls.spliced_cons (gS (sR pins s σ H (λy H'=>y=.ref a/\H'=H) I ⟨.ref a,z2,rfl,rfl⟩) λu s1 ⟨y,H1,I1,r1,e1,e2⟩=>?_)
  subst e1 e2;obtain rfl:u=Value.ref a:=r1;refine Calls.spliced_nil ?_;refine kws_cons (Ji I1 hT ht hq yo rH λH2 s2 f c' L=>kws_nil ?_)
  have Q6:H2 a=some (.dK (u3 kvs)):=by
   rcases L.new with e|⟨u,hn,e⟩
   ·rw[e];exact hH
   ·rw[e,cQ (cS hH hn)];exact hH
  have rA:s2.heap.IsCell cell (some (.ref a)):=by
   obtain⟨m,hn,hl⟩:=L.inv.loc;obtain⟨u,r,lk⟩:=hl i (Str.ofString "uses") (.ref a) hN z2 (.inr (.inl hk));obtain rfl:u=Value.ref a:=r;rcases lk with⟨Dd,_⟩|⟨_,c2,ub,PY⟩
   ·rw[hk]at Dd;cases Dd
   ·rw[rH]at ub;cases ub;exact PY
  obtain⟨pm,xA,Mj⟩:=L.fn;refine ST.A7 hc hu (by show X.A.depth<_;omega) L.inv Q6 ⟨pm,c',xA,Mj,L.cd⟩ rA hlen.1 hlen.2 λD0 l hD lp pw=>?_
  have el:l=fQ (gH kvs):=fB (λa b h1 h2=>HT.gc h2 h1) (lp.trans (eA _).symm) pw (o3 _)
  have Tp:oK C H1 C H2:=by
   rcases L.new with e|⟨u,hn,e⟩
   ·rw[e];exact .refl sx.sub
   ·rw[e];exact .fu sx.sub hn
  have Zk:H1 D0=none:=Tp.h.free hD;have hv:l.map (λns=>V.int (ns.getD 1 0))=(l.map λns=>ns.getD 1 0).map V.int:=by rw[aV];rfl
  have hd:(fQ (gH kvs)).map (λns=>D.int (ns.getD 1 0))=(l.map λns=>ns.getD 1 0).map D.int:=by rw[<-el,aV];rfl
  rw[hv];rw[hd]at k;exact k D0 _ C _ (Tp.trans (.fu Tp.s hD)).up Zk (Tp.s.free hD) cU (.ints _)
theorem Bb {x qual:Str}{c Pt:cD}{uI pa pu pp pS pU zD pT:Pos}(hc:X.calm=true) (hu:X.A.units+64<cLine) (hV:X.A.depth+5<recursionLimit) (hg:Gl X "sorted") (hm:X.mg "sorted"=none) (hN:X.N[i]? =some (Str.ofString "uses")) (hk:X.env.kindOf (Str.ofString "uses")=some .cell)
  (hT:(x,uI,qual)∈ux) (ht:W.tabIn X.K x=some (c,Pt)) (hq:X.env.qual++Str.ofString "<lambda>"=qual) (yo:X.env.code=.ref c) (sR:PE X o1 (ir i))
  (he:backTo pos (starEach [o1] X.env)=(false,eval o1 X.env)::backTo pos (starEach [] X.env):=by rfl):
  @WF (eL a) X (.Call (.Name "sorted" p) [o1] [⟨some "key",.Lambda (lA pa) (ja pu pp pS pU zD pT) me uI,kp⟩] pos) (qc i):=by
 letI:=eL a
 exact⟨Ba hc hu hV hg hm hN hk hT ht hq yo sR he⟩
end
end DL
namespace DL
open PySem PySem.Spec PyProof.Rows L2
theorem _root_.L2.gr.Zl {k:Nat}{A:cB}(r:gr k A):A.depth+5<recursionLimit:=by have:=r.dp;omega
theorem Jm {K:W.Frag}{x:Str}{f c P:cD}{fd:cy}{oc:cw}{od:cp}{sl:cq}(a:W.nsIn K mainGlobals x=some (some (.ref f))) (l:K.lookup f=some ⟨oc,od,.func fd,sl⟩) (h:W.tabIn K x=some (c,P)):fd.code=.ref c:=by
 unfold W.tabIn at h;rw[a]at h;simp only[l]at h;split at h
 ·rename_i c' hc;split at h
  ·split at h
   ·cases h;exact hc
   ·cases h
  ·cases h
 ·cases h
theorem LJ {P:cz}{w:cA}{K:W.Frag}{mg:cj}{base:Heap}{x qual:Str}{st:cF}{f:cD}{fd:cy}{N ps:List Str}{k:Nat}(F:nF K x qual st f fd) (S:dB N ps (cM st)) {fb:bZ}
  (kC:∀(A:cB) (outer:List Env) (s:cx) (H:Hp) (E:XK),gr k (A.deeper (envOfC qual (cM st) s.heap.objs.size f fd.code))->∀C0 H0,@vE Mem.keep (qQ ju P w K mg base N qual (cM st) f fd.code A outer s H E).D3 C0 H0 (dv st) fb):
  eJ P w K mg base ju (k+1) f fd ps (pZ (gY N.length ps.length fb)):=by
 have key:∀gk,fd.code=gk->∀(A:cB) (outer:List Env) (s:cx) (H:Hp) (E:XK),gr k (A.deeper (envOfC qual (cM st) s.heap.objs.size f gk))->∀C0 H0,@vE Mem.keep (qQ ju P w K mg base N qual (cM st) f gk A outer s H E).D3 C0 H0 (dv st) fb:=λgk e=>by
  subst e;exact kC
 obtain⟨oc,od,kV,doc,pm,an,gk,ct,Ks,rfl,lk,xj⟩:=id F.ex;have key:=key gk rfl;letI:Mem:=Mem.keep
 refine Ms lk xj S (λvs H Q E h=>?_) λA outer s H vs Q E hr h=>?_
 ·obtain⟨C,ds,d,_,i,q,_⟩:=h;unfold gY at q;split at q
  ·rename_i hl;rw[i.length];exact hl
  ·cases q
 ·have F':∃t,xP (qQ ju P w K mg base N qual (cM st) f gk A outer s H E).D3 (dv st) t/\t {nx:=λ_ H'=>Q .fN H',rt:=Q} (start N vs) H:=by
   obtain⟨C,ds,d,sub,i,q,k⟩:=h;refine⟨tS C C H fb,@vE.go Mem.keep _ _ _ _ _ (key A outer s H E hr C H) C,?_⟩;unfold gY at q;split at q
   case isFalse=>cases q
   rename_i hl;have hN:ps.length<=N.length:=by have:=S.pre;rw[<-this,bJ];omega
   have sx:Sx (ds.map Sl.dat++List.replicate (N.length-ps.length) Sl.no) (L2.start N vs) C H:=by
    have lv:=i.length;refine⟨sub,λn d e=>?_,λn es e=>?_,λn m es fs a e=>?_,?_,λn ks e=>?_⟩
    ·by_cases hn:n<ds.length
     ·rw[aJ (by simpa using hn),av]at e
      cases hd:ds[n]? with
      |none=>rw[hd]at e;cases e
      |some d'=>
       rw[hd]at e;cases e;obtain⟨v,h1,h2⟩:=i.get hd;refine⟨v,?_,h2⟩;unfold L2.start;rw[aJ (by rw[ae,lv];exact hn),av,h1];rfl
     ·rw[aP (by rw[ae];omega),bf]at e
      split at e<;>cases e
    ·by_cases hn:n<ds.length
     ·rw[aJ (by simpa using hn),av]at e
      cases hd:ds[n]? with
      |none=>rw[hd]at e;cases e
      |some d'=>rw[hd]at e;cases e
     ·rw[aP (by rw[ae];omega),bf]at e
      split at e<;>cases e
    ·by_cases hn:n<ds.length
     ·rw[aJ (by simpa using hn),av]at e
      cases hd:ds[n]? with
      |none=>rw[hd]at e;cases e
      |some d'=>rw[hd]at e;cases e
     ·rw[aP (by rw[ae];omega),bf]at e
      split at e<;>cases e
    ·unfold L2.start;simp only[aQ,ae,List.length_replicate];omega
    ·by_cases hn:n<ds.length
     ·rw[aJ (by simpa using hn),av]at e
      cases hd:ds[n]? with
      |none=>rw[hd]at e;cases e
      |some d'=>rw[hd]at e;cases e
     ·rw[aP (by rw[ae];omega),bf]at e
      split at e<;>cases e
   have gd:Gd C C H (ds.map Sl.dat++List.replicate (N.length-ps.length) Sl.no) (L2.start N vs) C H:=⟨dR.refl _,.refl sub,sx,λn es a e _=>by
    obtain⟨a',xs,h1,h2,h3,_⟩:=sx.own n es e;exfalso;by_cases hn:n<ds.length
    ·rw[aJ (by simpa using hn),av]at e
     cases hd:ds[n]? with
     |none=>rw[hd]at e;cases e
     |some d'=>rw[hd]at e;cases e
    ·rw[aP (by rw[ae];omega),bf]at e
     split at e<;>cases e⟩
   split at q
   ·rename_i d' hf;cases q;exact⟨C,_,_,gd,hf,λv C' H' ev i'=>k v C' H' ev.ue i'⟩
   ·rename_i δ' hf;cases q;exact⟨C,_,_,gd,hf,λσ' C' H' g'=>k .fN C' H' g'.ev.ue .fN⟩
   ·cases q
  obtain⟨t,ht,q⟩:=F';exact⟨t,ht.D3,q⟩
end DL
namespace DL
open PySem PySem.Spec PyProof.Rows L2
noncomputable def pj (f:cb):bY:=λδ=>match f δ with
 |some (.lst ds)=>if ds.length<=18 then(jU ds).map λnss=>(fQ nss.eraseDups).map tupI else none
 |_=>none
theorem sj {a b:cn}(h:tupI a=tupI b):a=b:=by
 have h':a.map D.int=b.map D.int:=by injection h
 have:=congrArg (List.map λd=>match d with|D.int i=>i|_=>0) h'
 simpa [aV,Function.comp_def]using this
theorem jc:∀(n:Nat) (l:cm),l.length<=n->l.eraseDups.Nodup
 |0,l,h=>by
  have:l=[]:=List.length_eq_zero_iff.mp (by omega)
  subst this;exact List.nodup_nil
 |n+1,[],_=>List.nodup_nil
 |n+1,a::l,h=>by
  rw[List.eraseDups_cons];have hl:=aW (λb=> !b==a) l
  refine List.nodup_cons.mpr ⟨λhm=>?_,jc n _ (by simp at h;omega)⟩
  have:=List.mem_filter.mp (List.mem_eraseDups.mp hm);simp at this
section
variable [Mem] {X:Cx}{e:cE}{f:cb}{p p2 pos dY:Pos}
theorem Dz (hc:X.calm=true) (hu:X.A.units+64<cLine) (LK:Gl X "sorted") (sQ:X.mg "sorted"=none) (LL:Gl X "set") (oJ:X.mg "set"=none) (ha:PO X e f)
  (uH:starEach [.Call (.Name "set" p2) [e] [] dY] X.env=(false,eval (.Call (.Name "set" p2) [e] [] dY) X.env)::starEach [] X.env:=by exact eG rfl) (Cj:starEach [e] X.env=(false,eval e X.env)::starEach [] X.env:=by exact eG rfl):
  PF X (.Call (.Name "sorted" p) [.Call (.Name "set" p2) [e] [] dY] [] pos) (pj f):=by
 intro pins s σ H Q I ⟨C,δ,ds,x,q,k⟩;unfold pj at q;split at q
 case h_2=>cases q
 rename_i Sk hf;split at q
 case isFalse=>cases q
 rename_i Vd;cases hn:jU Sk with
 |none=>rw[hn]at q;cases q
 |some nss=>
  rw[hn]at q;cases q;have ee:=p9 hn;subst ee;refine wpAny_Call_Name_kw (lL I LK sQ fH ?_);refine PyProof.Rows.callWith_builtin1 ?_ uH rfl;rw[uH];show wpAny _ _ (spliced ((false,eval (.Call (.Name "set" p2) [e] [] dY) X.env)::backTo pos (starEach [] X.env))) _ _ s;refine Calls.spliced_cons ?_;refine wpAny_Call_Name_kw (lL I LL oJ PyProof.Rows.boot_set ?_);refine PyProof.Rows.callWith_type1 (gS ((mC ha oR Cj) dY pins s σ H (λvs H1=>∃v C1,vs=[v]/\Ev C H C1 H1/\oW C1 H1 v (.lst (nss.map tupI))) I ⟨C,δ,_,x,hf,λv C1 H1 ev iv=>⟨v,C1,rfl,ev,iv⟩⟩) λus s1 ⟨vs,H1,I1,r1,v,C1,e1,ev,iv⟩=>?_) Cj rfl
  subst e1;obtain⟨u,rfl,ru⟩:=r1.one;obtain⟨a,xs,rfl,hq,hl⟩:=iv.list (K:=X.K) ev.s;cases ru;obtain⟨dg,rv,pl,hz⟩:=I1.list hq;have Ve:xs.length=nss.length:=by rw[hl.length,ae]
  have Ex:dg.length=nss.length:=by rw[<-rv.length,Ve]
  rw[ae]at Vd;have itemAt:∀(i:Nat) (w:cw),dg[i]? =some w->∃(b:cD) (ns:cn),nss[i]? =some ns/\w=.ref b/\iU X.K H1 b (ns.map V.int)/\Is C1 (.ref b) (tupI ns)/\ST.TI s1.heap w ns:=λi w hw=>by
   have hi:i<nss.length:=by rw[<-Ex];exact(List.getElem?_eq_some_iff.mp hw).1
   have xO:nss[i]? =some nss[i]:=ah hi;obtain⟨v,hv,Vf⟩:=hl.get (i:=i) (d:=tupI nss[i]) (by rw[av,xO];rfl)
   obtain⟨w',LM,Ho⟩:=rv.get hv;rw[hw]at LM;cases LM;cases Vf with
   |@tup b ys _ hb l=>
    have ey:=l.mD;subst ey;cases Ho;have Sm:iU X.K H1 b (nss[i].map V.int):=iU.of (ev.s _ _ hb);obtain⟨ts,r2,⟨o,ho,m3,n,hd⟩,_⟩:=I1.tuple Sm;exact⟨b,nss[i],xO,rfl,Sm,.tup hb l,b,o,ts,n,rfl,ho,m3,hd,intsAre_of r2⟩
  have hh:X.A.handled=none:=I1.ok.hd hc;refine ST.xw (val:=nss.map tupI) hh (by omega) pl.isList (by rw[aq,ae];exact Ex) (λi w hw=>?_) (by rw[aq];omega) λh' tk EB=>?_
  ·obtain⟨b,ns,h1,h2,h3,h4,h5⟩:=itemAt i w (by simpa using hw)
   have eg:(nss.map tupI).getD i .fN=tupI ns:=by rw[ak,av,h1];rfl
   rw[eg];refine⟨⟨b,h2⟩,?_,h5.ki⟩;unfold tupI dU;have:∀l:cn,gZ (l.map D.int)=0:=λl=>by
    induction l with
    |nil=>unfold gZ;rfl
    |cons a l ih=>rw[aE];unfold gZ dU;rw[ih];rfl
   rw[this];decide
  ·obtain⟨⟨AF,kO,mw⟩,keep⟩:=EB;have I2:Inv X pins σ H1 {s1 with heap:=h',toks:=tk}:=I1.kept (t':=tk) λb o eo=>keep b o (az eo) eo
   have zB:AF.length<=nss.length:=by
    have:=bW (l₂:=nss.map tupI) kO.nd λd hd=>(mw d).mp hd
    rwa [ae]at this
   refine Calls.spliced_nil ?_;refine ST.v8 (s:={s1 with heap:=h',toks:=tk}) (R0:=λb ns=>Is C1 (.ref b) (tupI ns)) hc hu I2 kO (by omega) (λw hw=>?_) λD0 l hD hR Vg u0=>?_
   ·obtain⟨i,hi⟩:=bp (show w∈dg by simpa using hw)
    obtain⟨b,ns,_,h2,h3,h4,_⟩:=itemAt i w hi;exact⟨b,ns,h2,h3,h4⟩
   ·have Vh:(l.map (·.2)).Nodup:=by
     have h1:((l.map (·.2)).map tupI).Nodup:=by rw[aV];exact u0.nodup_iff.mpr kO.nd
     exact(List.pairwise_map.mp h1).imp λjr z=>jr (by rw[z])
    have Tq:(l.map (·.2)).Perm nss.eraseDups:=by
     refine(List.perm_ext_iff_of_nodup Vh (jc _ nss (au _))).mpr λns=>?_
     rw[List.mem_eraseDups];have h1:tupI ns∈AF↔ns∈l.map (·.2):=by
      rw[<-u0.mem_iff,List.mem_map,List.mem_map];constructor
      ·rintro⟨p',vX,e'⟩;exact⟨p',vX,sj e'⟩
      ·rintro⟨p',vX,rfl⟩;exact⟨p',vX,rfl⟩
     rw[<-h1,mw,List.mem_map];constructor
     ·rintro⟨m',Am,e'⟩;rw[<-sj e'];exact Am
     ·intro Am;exact⟨ns,Am,rfl⟩
    have es:l.map (·.2)=fQ nss.eraseDups:=fB (λa b h1 h2=>HT.gc h2 h1) (Tq.trans (eA _).symm) Vg (o3 _)
    refine k D0 _ C1 _ (ev.trans (.fu ev.s hD)) (ev.free hD) (ev.s.free hD) cU ?_;show IsL C1 _ ((fQ nss.eraseDups).map tupI);rw[<-es,aV];have aux:∀l:List (cD×cn),(∀p∈l,Is C1 (.ref p.1) (tupI p.2))->IsL C1 (l.map λp=>V.ref p.1) (l.map (tupI∘λp=>p.2)):=λl=>by
     induction l with
     |nil=>intro _;exact .nil
     |cons p l ih=>intro h;exact .cons (h p af) (ih λq hq=>h q (ai _ hq))
    exact aux l hR
theorem DA (hc:X.calm=true) (hu:X.A.units+64<cLine) (LK:Gl X "sorted") (sQ:X.mg "sorted"=none) (LL:Gl X "set") (oJ:X.mg "set"=none) (ha:WO X e f)
  (uH:starEach [.Call (.Name "set" p2) [e] [] dY] X.env=(false,eval (.Call (.Name "set" p2) [e] [] dY) X.env)::starEach [] X.env:=by exact eG rfl) (Cj:starEach [e] X.env=(false,eval e X.env)::starEach [] X.env:=by exact eG rfl):
  WF X (.Call (.Name "sorted" p) [.Call (.Name "set" p2) [e] [] dY] [] pos) (pj f):=⟨Dz hc hu LK sQ LL oJ ha.go uH Cj⟩
end
end DL
namespace LW
open PySem DL
open L2 (kD rq)
theorem sk {xs rest:cu}{ns:cn}(p:(xs++rest).Perm (ns.map D.int)):∃ms rs:cn,xs=ms.map D.int/\rest=rs.map D.int/\(ms++rs).Perm ns:=by
 have all:∀x∈xs++rest,∃i,x=D.int i:=λx hx=>by
  have:=p.mem_iff.mp hx;obtain⟨i,_,e⟩:=List.mem_map.mp this;exact⟨i,e.symm⟩
 have ex:∀l:cu,(∀x∈l,∃i,x=D.int i)->∃ms:cn,l=ms.map D.int:=by
  intro l;induction l with
  |nil=>intro _;exact⟨[],rfl⟩
  |cons a l ih=>
   intro h;obtain⟨i,rfl⟩:=h a af;obtain⟨ms,rfl⟩:=ih λx hx=>h x (ai _ hx)
   exact⟨i::ms,rfl⟩
 obtain⟨ms,e1⟩:=ex xs λx hx=>all x (bC _ hx)
 obtain⟨rs,e2⟩:=ex rest λx hx=>all x (aL _ hx)
 refine⟨ms,rs,e1,e2,?_⟩;subst e1 e2
 let g:D->Int:=λd=>match d with|.int i=>i|_=>0
 have hg:∀l:cn,(l.map D.int).map g=l:=λl=>by rw[aV];exact List.map_id _
 have q:=p.map g;rw[hg,List.map_append,hg,hg]at q;exact q
structure rg (many:Int) (l:cn):Prop where
 ne:l≠[]
 four:l.length<=4
 rise:l.Pairwise (·< ·)
 B6:∀p∈l,0<=p/\p<many
theorem iD {ns:cn}(h:ns.Nodup):(sortI ns).Pairwise (·< ·):=by
 have h1:=rT ns;have h2:(sortI ns).Nodup:=(sortI_perm ns).nodup_iff.mpr h;have:=List.Pairwise.and h1 h2;exact this.imp λ{a b} ⟨x,y⟩=>by omega
theorem so {ns:cn}(h:ns.length<64):fy [.lst (ns.map D.int)]=some ((sortI ns).map D.int):=by
 simp only[fy,ae,if_pos h,hU]
theorem yq:∀(a b:cn),kP (a.map D.int) (b.map D.int)=decide (a=b)
 |[],[]=>by unfold kP;simp
 |[],_::_=>by unfold kP;simp
 |_::_,[]=>by unfold kP;simp
 |x::a,y::b=>by
  show kP (.int x::a.map D.int) (.int y::b.map D.int)=_;unfold kP dN;rw[yq a b];by_cases h1:x=y<;>by_cases h2:a=b<;>simp[h1,h2]
theorem Bc (a b:cn):dN (tupI a) (tupI b)=decide (a=b):=by
 unfold tupI;unfold dN;exact yq a b
theorem tR (a:cn) (nss:cm):memD (tupI a) (nss.map tupI)=decide (a∈nss):=by
 unfold memD;rw[List.any_map];induction nss with
 |nil=>simp
 |cons b r ih=>
  rw[bF,ih];simp only[Function.comp_apply,Bc];by_cases h1:b=a
  ·simp[h1]
  ·have:¬ a=b:=λz=>h1 z.symm
   simp[h1,this]
theorem qd:∀ns:cn,gZ (ns.map D.int)=0
 |[]=>by unfold gZ;rfl
 |n::r=>by
  show gZ (.int n::r.map D.int)=0;unfold gZ dU;rw[qd r];rfl
theorem Bd (ns:cn):dU (tupI ns)=1:=by
 unfold tupI dU;rw[qd]
theorem nq:∀nss:cm,gZ (nss.map tupI)<=1
 |[]=>by show gZ []<=1;unfold gZ;omega
 |n::r=>by
  show gZ (tupI n::r.map tupI)<=1;unfold gZ;rw[Bd];have:=nq r;omega
structure EM (least most mx many:Int) (ls:cm):Prop where
 lo:least<=many
 hi:many<=most
 num:(ls.length:Int)<=mx
 rise:ls.Pairwise (λa b=>HT.lexLt a b=true)
 line:∀l∈ls,rg many l
noncomputable def DB (ls:cm):D:=.tup (ls.map tupI)
noncomputable def bV (many:Int) (ls:cm):D:=.tup [.int many,DB ls]
theorem we {nss:cm}(h:nss≠[]):intsOf (nss.map tupI)=none:=by
 cases nss with
 |nil=>exact absurd rfl h
 |cons a r=>rfl
theorem nU {nss:cm}(h:nss.length<64) (jr:∀l∈nss,l≠[]):fy [.lst (nss.map tupI)]=some ((fQ nss).map tupI):=by
 cases nss with
 |nil=>
  simp[fy,intsOf,sortI,fQ]
 |cons a r=>
  simp only[fy,ae,if_pos h,we (List.cons_ne_nil a r),qV,ao];rw[if_pos];rw[List.all_eq_true];intro x hx;have:=jr x hx;cases x with
  |nil=>exact absurd rfl this
  |cons _ _=>rfl
theorem wg {nss:cm}(h:nss.Nodup):(fQ nss).Pairwise (λa b=>HT.lexLt a b=true):=by
 have h1:=o3 nss;have h2:(fQ nss).Nodup:=(eA nss).nodup_iff.mpr h;have:=List.Pairwise.and h1 h2;refine this.imp λ{a b} ⟨x,y⟩=>?_
 cases e:HT.lexLt a b with
 |true=>rfl
 |false=>exact absurd (HT.gc e x) y
theorem eF {n np:Nat}{f:bZ}{ds:cu}{d:D}(hl:ds.length=np) (h:f (ds.map Sl.dat++List.replicate (n-np) Sl.no)=some (.ret d)):gY n np f ds=some d:=by
 unfold gY;rw[if_pos hl,h]
theorem cR {f g:bZ}{δ δ':dM}(h:f δ=some (.next δ')):ei f g δ=g δ':=by unfold ei;rw[h]
theorem Zm {c least most lines many k:Int}{fd:cu}{x7 x8 x9:Sl}(hm:1<=many):∃z:Int,1<=z/\z<=4/\z<=many/\lX [cG c,cG least,cG most,cG lines,cG many,.own fd,cG k,x7,x8,x9,.no]=
   some (.next [cG c,cG least,cG most,cG lines,cG many,.own fd,cG k,cG z,x8,x9,.no]):=by
 have h4:0<(if many<4 then many else 4):=by split<;>omega
 have a1:=kr (c:=c+7*k) (p:=9949) h4;have a2:=kx (c:=c+7*k) (p:=9949) h4;refine⟨1+jz (c+7*k) 9949 (if many<4 then many else 4),by omega,?_,?_,?_⟩
 ·have:(if many<4 then many else 4)<=4:=by split<;>omega
  omega
 ·have:(if many<4 then many else 4)<=many:=by split<;>omega
  omega
 ·simp[lX,lu,dt,cO,aY,cL,dC,de,jN,rL,oI,Eh,FD,Em,qF (p:=9949) (by omega) h4]
theorem Zn {c least most lines many k z:Int}{fd:cu}{x8 x9:Sl}(h1:1<=z) (h4:z<=4) (hm:z<=many):∃y:Int,1<=y/\y<=4/\y<=many/\gw [cG c,cG least,cG most,cG lines,cG many,.own fd,cG k,cG z,x8,x9,.no]=
   some (.next [cG c,cG least,cG most,cG lines,cG many,.own fd,cG k,cG y,x8,x9,.no]):=by
 by_cases h:0<c%3/\z=1/\1<many
 ·refine⟨2,by omega,by omega,by omega,?_⟩
  obtain⟨a,rfl,b⟩:=h;simp[gw,hW,p6,lu,qq,qB,dt,dC,de,Oa,xn,oI,Eh,CI,qA,dU,dN,a,b]
 ·refine⟨z,h1,h4,hm,?_⟩;by_cases a:0<c%3
  ·by_cases b:z=1
   ·have d:¬ 1<many:=λd=>h ⟨a,b,d⟩
    simp[gw,hW,p6,kE,qq,qB,dt,dC,de,Oa,xn,oI,Eh,CI,qA,dU,dN,a,b,d]
   ·have b':(z==1)=false:=by simpa using b
    simp[gw,hW,p6,kE,qq,qB,dt,dC,de,Oa,xn,oI,Eh,CI,qA,dU,dN,a,b']
  ·simp[gw,hW,p6,kE,qq,qB,dt,dC,de,Oa,xn,oI,Eh,CI,qA,dU,dN,a]
theorem Zo {c least most lines many k z:Int}{fd:cu}{x8 x9:Sl}(h1:1<=many) (hm:many<=60):lY [cG c,cG least,cG most,cG lines,cG many,.own fd,cG k,cG z,x8,x9,.no]=
   some (.next [cG c,cG least,cG most,cG lines,cG many,.own fd,cG k,cG z,.own ((dF 0 many.toNat).map D.int),x9,.no]):=by
 have a:many<1000000:=by omega
 have b: -1000000<many:=by omega
 simp[lY,gp,ya,aY,cL,cP,a,b]
theorem Zp {c least most lines many k z:Int}{fd:cu}{x9:Sl}(h1:1<=many) (hm:many<=60) (z1:1<=z) (z2:z<=many):∃ms rs:cn,(ms++rs).Perm (dF 0 many.toNat)/\(ms.length:Int)=z/\
  lZ [cG c,cG least,cG most,cG lines,cG many,.own fd,cG k,cG z,.own ((dF 0 many.toNat).map D.int),x9,.no]=
   some (.next [cG c,cG least,cG most,cG lines,cG many,.own fd,cG k,cG z,.own (rs.map D.int),.own (ms.map D.int),.no]):=by
 have hl:((dF 0 many.toNat).map D.int).length=many.toNat:=by rw[ae,ef]
 have EH:((dF 0 z.toNat).map D.int).length=z.toNat:=by rw[ae,ef]
 obtain⟨xs,rest,e,p,l⟩:=zw (j:=10) (m:=8) (f:=cO cX (aY (dt jN (dt jN (de 0) (dt rL (dC (.int 11)) (de 6))) (dt rL (dC (.int 3)) (de 10))) (aY (dC (.int 9941)) (aY (dt qS (de 4) (de 10)) cL))))
  (δ:=[cG c,cG least,cG most,cG lines,cG many,.own fd,cG k,cG z,.own ((dF 0 many.toNat).map D.int),x9,.no])
  ((dF 0 z.toNat).map D.int) ((dF 0 many.toNat).map D.int) (by omega) (λi d lc hd hk=>by
   rw[av,lO]at hd;split at hd
   ·rename_i hi;cases hd;have hp:0<many-(0+(i:Int)):=by omega
    refine⟨jz (c+11*k+3*(0+(i:Int))) 9941 (many-(0+(i:Int))),?_,kr hp,?_⟩
    ·have vX:0<many-(i:Int):=by omega
     simp[cO,aY,cL,dt,de,dC,jN,qS,rL,oI,Eh,FD,qF (p:=9941) (by omega) vX]
    ·have:=kx (c:=c+11*k+3*(0+(i:Int))) (p:=9941) hp;omega
   ·cases hd)
 obtain⟨ms,rs,rfl,rfl,q⟩:=sk p;refine⟨ms,rs,q,?_,?_⟩
 ·rw[ae]at l;omega
 ·have a:many.toNat<1000000:=by omega
  have b:z<1000000:=by omega
  have b': -1000000<z:=by omega
  have b2:z.toNat<1000000:=by omega
  simp only[lZ,yg,aK,aM,hl,if_pos a,ya,aY,cL,cP,ao,bA,if_pos (And.intro b b'),EH,if_pos b2,e];rfl
theorem Zq {c least most lines many k z:Int}{found:cm}{x8:Sl}{ms:cn}(hz:ms.length<64) (hd:found.length<1000000):hX [cG c,cG least,cG most,cG lines,cG many,.own (found.map tupI),cG k,cG z,x8,.dat (.lst (ms.map D.int)),.no]=
   some (.next [cG c,cG least,cG most,cG lines,cG many,.own ((if sortI ms∈found then found else found++[sortI ms]).map tupI),cG k,cG z,x8,.dat (.lst (ms.map D.int)),.no]):=by
 have IT:gZ (found.map tupI)<=30:=aB (nq _) (by decide)
 have e1:∀x5,(cO hJ (aY (dL (fj fy (aY (de 9) cL))) cL)) [cG c,cG least,cG most,cG lines,cG many,x5,cG k,cG z,x8,.dat (.lst (ms.map D.int)),.no]=some (tupI (sortI ms)):=λx5=>by
  simp[cO,fj,aY,cL,de,dL,so hz,hJ,tupI]
 by_cases h:sortI ms∈found
 ·simp only[hX,ma,p6,qB,dt,e1,de,aK,aM,ao,qU,qC,if_pos IT,tR,if_pos h,aR h,bT,kE]
 ·simp only[hX,ma,p6,qB,dt,e1,de,aK,aM,ao,qU,qC,if_pos IT,tR,if_neg h,aG h,Bool.not_false,sZ,ae,if_pos hd,List.map_append,aE,List.map_nil];rfl
theorem DC {c least most lines many k:Int}{found:cm}{x7 x8 x9:Sl}(hm:1<=many) (oJ:many<=60) (J5:found.Nodup) (hl:∀l∈found,rg many l) (hlen:found.length<60):
  ∃(zH:cm) (y7 y8 y9:Sl),gG [cG c,cG least,cG most,cG lines,cG many,.own (found.map tupI),cG k,x7,x8,x9,.no]=
   some (.next [cG c,cG least,cG most,cG lines,cG many,.own (zH.map tupI),cG k,y7,y8,y9,.no])/\zH.Nodup/\(∀l∈zH,rg many l)/\zH.length<=found.length+1:=by
 obtain⟨z,z1,z2,z3,e3⟩:=Zm (c:=c) (least:=least) (most:=most) (lines:=lines) (k:=k) (fd:=found.map tupI) (x7:=x7) (x8:=x8) (x9:=x9) hm;obtain⟨y,y1,y2,y3,e5⟩:=Zn (c:=c) (least:=least) (most:=most) (lines:=lines) (k:=k) (fd:=found.map tupI) (x8:=x8) (x9:=x9) z1 z2 z3;obtain⟨ms,rs,p,l,e7⟩:=Zp (c:=c) (least:=least) (most:=most) (lines:=lines) (k:=k) (fd:=found.map tupI) (x9:=x9) hm oJ y1 y3;have nd:(ms++rs).Nodup:=p.nodup_iff.mpr ((ie _ _).imp λ{a b} h=>by omega)
 have Zr:ms.Nodup:=(List.nodup_append.mp nd).1;have sp:=sortI_perm ms;have ok:rg many (sortI ms):=by
  refine⟨λz=>?_,?_,iD Zr,λx hx=>?_⟩
  ·have:=sp.length_eq;rw[z]at this;simp only[List.length_nil]at this;omega
  ·have:=sp.length_eq;omega
  ·have h1:x∈ms++rs:=bC _ (sp.mem_iff.mp hx);have h2:=(hZ _ _ _).mp (p.mem_iff.mp h1);omega
 refine⟨if sortI ms∈found then found else found++[sortI ms],cG y,.own (rs.map D.int),.dat (.lst (ms.map D.int)),?_,?_,?_,?_⟩
 ·unfold gG;rw[cR e3,cR e5,cR (Zo hm oJ),cR e7];show hX (vz 9 _)=_;have eg:vz 9 [cG c,cG least,cG most,cG lines,cG many,.own (found.map tupI),cG k,cG y,.own (rs.map D.int),.own (ms.map D.int),.no]=[cG c,cG least,cG most,cG lines,cG many,.own (found.map tupI),cG k,cG y,.own (rs.map D.int),.dat (.lst (ms.map D.int)),.no]:=rfl;rw[eg];exact Zq (by omega) (by omega)
 ·split
  ·exact J5
  ·rename_i h;rw[List.nodup_append];exact⟨J5,(by simp),λa ha b hb=>by rw[bt]at hb;subst hb;intro z;subst z;exact h ha⟩
 ·split
  ·exact hl
  ·intro l g9;rcases List.mem_append.mp g9 with h|h
   ·exact hl l h
   ·rw[bt]at h;subst h;exact ok
 ·split
  ·omega
  ·simp
theorem LN {c least most lines:Int}(h1:1<=least) (h2:least<=most) (h3:most<=60) (h4:0<=lines) (h5:lines<=50):
  ∃many ls,dw [.int c,.int least,.int most,.int lines]=some (bV many ls)/\EM least most lines many ls:=by
 have hp:0<most-least+1:=by omega
 have hq:0<lines+1:=by omega
 have a1:=kr (c:=c) (p:=9973) hp;have a2:=kx (c:=c) (p:=9973) hp;have b1:=kr (c:=c) (p:=9967) hq;have b2:=kx (c:=c) (p:=9967) hq;obtain⟨δ',e,found,y6,y7,y8,y9,hδ,nd,hl,hn⟩:=AU (j:=6) (f:=gG) (λn δ=>∃(found:cm) (y6 y7 y8 y9:Sl),δ=[cG c,cG least,cG most,cG lines,cG (least+jz c 9973 (most-least+1)),.own (found.map tupI),y6,y7,y8,y9,.no]/\found.Nodup/\(∀l∈found,rg (least+jz c 9973 (most-least+1)) l)/\found.length<=n)
  ((dF 0 (jz c 9967 (lines+1)).toNat).map D.int) 0 [cG c,cG least,cG most,cG lines,cG (least+jz c 9973 (most-least+1)),.own [],.no,.no,.no,.no,.no] ⟨[],.no,.no,.no,.no,rfl,List.nodup_nil,(λ_ h=>nomatch h),au _⟩
  (λi δ d hd ⟨found,y6,y7,y8,y9,hδ,nd,hl,hn⟩=>by
   have hi:=(List.getElem?_eq_some_iff.mp hd).1;rw[ae,ef]at hi;rw[av,lO,if_pos hi]at hd;cases hd;subst hδ;obtain⟨f',z7,z8,z9,e,q1,q2,q3⟩:=DC (c:=c) (least:=least) (most:=most) (lines:=lines) (k:=0+(i:Int)) (x7:=y7) (x8:=y8) (x9:=y9) (many:=least+jz c 9973 (most-least+1)) (by omega) (by omega) nd hl (by omega)
   exact⟨_,e,f',_,z7,z8,z9,rfl,q1,q2,by omega⟩)
 subst hδ;rw[ae,ef]at hn;refine⟨least+jz c 9973 (most-least+1),fQ found,?_,⟨by omega,by omega,?_,wg nd,λl h=>hl l ((eA found).mem_iff.mp h)⟩⟩
 ·have e1:lV [cG c,cG least,cG most,cG lines,.no,.no,.no,.no,.no,.no,.no]=some (.next [cG c,cG least,cG most,cG lines,cG (least+jz c 9973 (most-least+1)),.no,.no,.no,.no,.no,.no]):=by
   simp[lV,lu,dt,cO,aY,cL,dC,de,cP,jN,qS,oI,qF (p:=9973) (by omega) hp]
  have e2:lW [cG c,cG least,cG most,cG lines,cG (least+jz c 9973 (most-least+1)),.no,.no,.no,.no,.no,.no]=some (.next [cG c,cG least,cG most,cG lines,cG (least+jz c 9973 (most-least+1)),.own [],.no,.no,.no,.no,.no]):=by
   simp[lW,gp,jS,cL]
  have c1:jz c 9967 (lines+1)<1000000:=by omega
  have c2: -1000000<jz c 9967 (lines+1):=by omega
  have Pl:kR [cG c,cG least,cG most,cG lines,cG (least+jz c 9973 (most-least+1)),.own [],.no,.no,.no,.no,.no]=some (.next [cG c,cG least,cG most,cG lines,cG (least+jz c 9973 (most-least+1)),.own (found.map tupI),y6,y7,y8,y9,.no]):=by
   rw[<-e];simp[kR,oH,ya,dt,cO,aY,cL,dC,de,cP,jN,oI,qF (p:=9967) (by omega) hq,c1,c2]
  refine eF rfl ?_;show kn [cG c,cG least,cG most,cG lines,.no,.no,.no,.no,.no,.no,.no]=_;unfold kn;rw[cR e1,cR e2,cR Pl];have hs:=nU (nss:=found) (by omega) (λl h=>(hl l h).ne)
  have z:(kT [cG c,cG least,cG most,cG lines,cG (least+jz c 9973 (most-least+1)),.own (found.map tupI),y6,y7,y8,y9,.no])=some (.ret (bV (least+jz c 9973 (most-least+1)) (fQ found))):=by
   simp[kT,eQ,eE,cO,fj,aY,cL,cP,de,dL,hs,hJ,bV,DB]
  exact z
 ·have:=(eA found).length_eq;omega
end LW
namespace LW
open PySem DL
open L2 (kD rq)
noncomputable def di (many:Int) (ls:cm) (first b g:Int):D:=.tup [bV many ls,.int first,.int b,.int g]
structure Pn (least most mx many:Int) (ls:cm) (first b g:Int):Prop where
 field:EM least most mx many ls
 f0:0<=first
 f1:first<=1
 b1:1<=b
 b2:b<=2
 g1:1<=g
 g2:g<=2
theorem Po {c least most lines:Int}(h1:1<=least) (h2:least<=most) (h3:most<=60) (h4:0<=lines) (h5:lines<=50):
  ∃many ls first b g,dE [.int c,.int least,.int most,.int lines]=some (di many ls first b g)/\dw [.int c,.int least,.int most,.int lines]=some (bV many ls)/\Pn least most lines many ls first b g:=by
 obtain⟨many,ls,e,ok⟩:=LN (c:=c) h1 h2 h3 h4 h5;have a1:=kr (c:=c) (p:=9931) (m:=2) (by omega)
 have a2:=kx (c:=c) (p:=9931) (m:=2) (by omega)
 have a3:=kr (c:=c) (p:=9929) (m:=5) (by omega)
 have a4:=kx (c:=c) (p:=9929) (m:=5) (by omega)
 have a5:=kr (c:=c) (p:=9923) (m:=5) (by omega)
 have a6:=kx (c:=c) (p:=9923) (m:=5) (by omega)
 refine⟨many,ls,jz c 9931 2,1+jz c 9929 5/3,1+jz c 9923 5/3,?_,e,ok,a1,by omega,by omega,by omega,by omega,by omega⟩
 refine eF rfl ?_;show lz [cG c,cG least,cG most,cG lines,.no]=_;have e1:mS [cG c,cG least,cG most,cG lines,.no]=some (.next [cG c,cG least,cG most,cG lines,.dat (bV many ls)]):=by
  simp[mS,lu,cO,aY,cL,cP,e]
 unfold lz;rw[cR e1];simp[qE,eQ,eE,cO,aY,cL,cP,dC,dt,jN,FE,oI,Eh,N1,di,qF (c:=c) (p:=9931) (m:=2) (by omega) (by omega),qF (c:=c) (p:=9929) (m:=5) (by omega) (by omega),qF (c:=c) (p:=9923) (m:=5) (by omega) (by omega)]
theorem Be {α:Type}(l:List α) (q:α->Bool):HW [.lst (l.map λx=>D.bl (q x))]=some (.bl (l.all q)):=by
 have:(l.map λx=>D.bl (q x))=(l.map q).map D.bl:=by rw[aV];rfl
 rw[this];show(m7 ((l.map q).map D.bl)).map _=_;rw[FK];simp[List.all_map]
theorem EN {α:Type}(l:List α) (i:Nat) (h:i<l.length):kD l (i:Int)=l[i]? :=by
 unfold kD rq;rw[if_pos (by omega),if_pos (by omega)]
 simp
end LW
namespace GP
open PySem DL
open L2 (kD rq)
noncomputable def di (many:Int) (ls:cm) (f b g:Int):D:=.tup [.tup [.int many,.tup (ls.map tupI)],.int f,.int b,.int g]
noncomputable def gW (m l:cn):Bool:=l.all λp=>decide (p∈m)
noncomputable def iZ (y l:cn):Bool:=l.any λp=>decide (p∈y)
noncomputable def Bf (ls:cm) (m y:cn):Option Int:=
 if ls.any (gW m)then some 0 else if ls.all (iZ y)then some 1 else none
theorem Bg (p:Int) (m:cn):memD (.int p) (m.map D.int)=decide (p∈m):=by
 unfold memD;rw[List.any_map];induction m with
 |nil=>simp
 |cons b r ih=>
  rw[bF,ih];have:(Function.comp (λe=>dN e (D.int p)) D.int) b=decide (p=b):=by
   show dN (.int b) (.int p)=_;unfold dN;by_cases h:b=p
   ·simp[h]
   ·have h2:¬ p=b:=λz=>h z.symm
    simp[h,h2]
  rw[this];by_cases h1:p=b<;>simp[h1]
theorem LO (p:Int) (m:cn):CO (.int p) (tupI m)=some (.bl (decide (p∈m))):=by
 unfold CO tupI qC;simp only[ao,LW.qd,Bg];rfl
theorem wj (p:Int) (m:cn):qU (.int p) (tupI m)=some (.bl (!decide (p∈m))):=by
 unfold qU tupI qC;simp only[ao,LW.qd,Bg];rfl
theorem EO (m:cn):∀l:cn,gW m l=(l.filter λi=> !decide (i∈m)).isEmpty
 |[]=>rfl
 |a::l=>by
  have ih:=EO m l;unfold gW at ih ⊢;by_cases h:a∈m
  ·simp only[List.all_cons,br,h,decide_true,Bool.true_and,bT,ih];rfl
  ·simp[List.all_cons,br,h]
noncomputable def fA (m y:cn) (w:Int) (c:cn):cn×cn:=if w=0 then(sortI (m++c),y)else(m,sortI (y++c))
theorem sq {ns:cn}(h:ns.length<64):kJ [tupI ns]=some ((sortI ns).map D.int):=by
 simp only[kJ,tupI,ae,if_pos h,hU,bA]
theorem yr {a b:cn}(h:a.length+b.length<64):mv (tupI a) (tupI b)=some (tupI (a++b)):=by
 have:a.length+b.length<=1000000:=by omega
 simp[mv,tupI,this]
noncomputable def behind (c:cn) (p:Int):Bool:=match c.getLast? with|none=>true|some q=>decide (q<p)
noncomputable def Pp (some:cn) (c:cn):cm:=(some.filter (behind c)).map λp=>c++[p]
noncomputable def M4 (some:cn) (cs:cm):cm:=cs.flatMap (Pp some)
noncomputable def Bh (some:cn):Nat->cm
 |0=>[[]]
 |k+1=>M4 some (Bh some k)
noncomputable def oA (many:Int) (m y:cn):cn:=(dF 0 many.toNat).filter λp=> !decide (p∈m++y)
noncomputable def wm (b g w:Int) (free:cn):Nat:=(if(free.length:Int)<(if w=0 then b else g)then(free.length:Int)else(if w=0 then b else g)).toNat
noncomputable def zI (many b g:Int) (m y:cn) (w:Int):cm:=Bh (oA many m y) (wm b g w (oA many m y))
theorem Gq (many:Int) (m y:cn):(oA many m y).length<=many.toNat:=by
 unfold oA;have:=aW (λp=> !decide (p∈m++y)) (dF 0 many.toNat)
 rwa [ef]at this
abbrev fm (l:cn):Prop:=l.Pairwise (·< ·)
theorem nr:∀{a b:cn},fm a->fm b->(∀p,p∈a↔p∈b)->a=b
 |[],[],_,_,_=>rfl
 |[],y::b,_,_,h=>absurd ((h y).mpr af) (by simp)
 |x::a,[],_,_,h=>absurd ((h x).mp af) (by simp)
 |x::a,y::b,ha,hb,h=>by
  obtain⟨a1,a2⟩:=List.pairwise_cons.mp ha;obtain⟨b1,b2⟩:=List.pairwise_cons.mp hb;have e:x=y:=by
   have h1:=(h x).mp af;have h2:=(h y).mpr af;rcases List.mem_cons.mp h1 with z|z
   ·exact z
   ·rcases List.mem_cons.mp h2 with u|u
    ·exact u.symm
    ·have:=b1 x z;have:=a1 y u;omega
  subst e;rw[nr a2 b2 λp=>?_]
  constructor
  ·intro hp;have:=a1 p hp;rcases List.mem_cons.mp ((h p).mp (ai _ hp))with z|z
   ·omega
   ·exact z
  ·intro hp;have:=b1 p hp;rcases List.mem_cons.mp ((h p).mpr (ai _ hp))with z|z
   ·omega
   ·exact z
noncomputable def code (l:cn):Nat->Nat
 |0=>0
 |k+1=>2*code l k+(if(k:Int)∈l then 1 else 0)
theorem sr (l:cn):∀k,code l k<2^k
 |0=>by simp[code]
 |k+1=>by
  have:=sr l k;unfold code;rw[Nat.pow_succ];split<;>omega
theorem code_inj {a b:cn}:∀k,code a k=code b k->∀i:Nat,i<k->((i:Int)∈a↔(i:Int)∈b)
 |0,_,i,h=>absurd h (by omega)
 |k+1,e,i,h=>by
  unfold code at e;have e1:code a k=code b k:=by split at e<;>split at e<;>omega
  by_cases hi:i=k
  ·subst hi;by_cases h1:(i:Int)∈a<;>by_cases h2:(i:Int)∈b<;>simp[h1,h2]at e ⊢<;>omega
  ·exact code_inj k e1 i (by omega)
structure eO (many:Int) (m y:cn):Prop where
 rm:fm m
 ry:fm y
 im:∀p∈m,0<=p/\p<many
 iy:∀p∈y,0<=p/\p<many
 dj:∀p∈m,p∉y
theorem Bi {many:Int}(hm:many<=9) {a b:cn}(ra:fm a) (rb:fm b) (ia:∀p∈a,0<=p/\p<many) (ib:∀p∈b,0<=p/\p<many) (e:code a 9=code b 9):a=b:=by
 refine nr ra rb λp=>?_
 by_cases h:0<=p/\p<9
 ·obtain⟨n,rfl⟩:∃n:Nat,p=(n:Int):=⟨p.toNat,by omega⟩
  exact code_inj 9 e n (by omega)
 ·constructor
  ·intro hp;have:=ia p hp;omega
  ·intro hp;have:=ib p hp;omega
theorem gD {l:cn}(h:fm l):l.Nodup:=h.imp λ{a b} h=>by omega
theorem ie (n:Nat) (lo:Int):fm (dF lo n):=LW.ie n lo
theorem Bj {many:Int}{l:cn}(r:fm l) (i:∀p∈l,0<=p/\p<many):l.length<=many.toNat:=by
 have:l.length<=(dF 0 many.toNat).length:=(gD r).length_le_of_subset λp hp=>(LW.hZ _ _ _).mpr (by have:=i p hp;omega)
 rwa [ef]at this
theorem dX {many:Int}{m y:cn}{p:Int}:p∈oA many m y↔(0<=p/\p<many)/\p∉m/\p∉y:=by
 unfold oA;rw[List.mem_filter,LW.hZ];simp only[List.mem_append,not_or,Bool.not_eq_true',decide_eq_false_iff_not];constructor
 ·rintro⟨h1,h2⟩;exact⟨by omega,h2⟩
 ·rintro⟨h1,h2⟩;exact⟨by omega,h2⟩
theorem nV (many:Int) (m y:cn):fm (oA many m y):=List.Pairwise.filter _ (ie _ _)
theorem tT {s:cn}(hs:fm s):∀(k:Nat) (c:cn),c∈Bh s k↔c.length=k/\fm c/\∀p∈c,p∈s
 |0,c=>by
  simp only[Bh,bt];constructor
  ·rintro rfl;exact⟨rfl,List.Pairwise.nil,by simp⟩
  ·rintro⟨h,_⟩;exact List.length_eq_zero_iff.mp h
 |k+1,c=>by
  unfold Bh M4;rw[List.mem_flatMap];constructor
  ·rintro⟨b,hb,hc⟩
   obtain⟨l,r,i⟩:=(tT hs k b).mp hb;unfold Pp at hc;obtain⟨p,hp,rfl⟩:=List.mem_map.mp hc;obtain⟨Es,Qe⟩:=List.mem_filter.mp hp;refine⟨by simp[l],?_,?_⟩
   ·refine List.pairwise_append.mpr ⟨r,List.pairwise_singleton _ _,λa ha q hq=>?_⟩
    rw[bt]at hq;subst hq;rcases List.eq_nil_or_concat b with rfl|⟨l',z,rfl⟩
    ·simp at ha
    ·have hz:z<q:=by simpa [behind]using Qe
     rw[List.concat_eq_append]at ha r;rcases List.mem_append.mp ha with u|u
     ·have:=(List.pairwise_append.mp r).2.2 a u z (by simp);omega
     ·rw[bt]at u;omega
   ·intro q hq;rcases List.mem_append.mp hq with u|u
    ·exact i q u
    ·rw[bt]at u;subst u;exact Es
  ·rintro⟨l,r,i⟩
   rcases List.eq_nil_or_concat c with rfl|⟨b,z,rfl⟩
   ·simp at l
   ·rw[List.concat_eq_append]at l r i ⊢;obtain⟨r1,_,r3⟩:=List.pairwise_append.mp r;refine⟨b,(tT hs k b).mpr ⟨by simpa using l,r1,λp hp=>i p (bC _ hp)⟩,?_⟩
    unfold Pp;refine List.mem_map.mpr ⟨z,List.mem_filter.mpr ⟨i z (by simp),?_⟩,rfl⟩
    unfold behind;cases hq:b.getLast? with
    |none=>rfl
    |some q=>
     have:q∈b:=List.mem_of_getLast? hq
     simpa using r3 q this z (by simp)
theorem ig {many b g:Int}{m y:cn}{w:Int}{c:cn}:c∈zI many b g m y w↔c.length=wm b g w (oA many m y)/\fm c/\∀p∈c,p∈oA many m y:=tT (nV many m y) _ c
theorem cT {l:cn}{p:Int}:p∈sortI l↔p∈l:=(sortI_perm l).mem_iff
theorem qe {a c:cn}(ra:fm a) (rc:fm c) (d:∀p∈c,p∉a):fm (sortI (a++c)):=by
 refine LW.iD ?_;refine List.nodup_append.mpr ⟨gD ra,gD rc,λp hp q hq e=>?_⟩
 subst e;exact d p hq hp
theorem gT {many b g:Int}{m y:cn}{w:Int}{c:cn}(h:eO many m y) (hc:c∈zI many b g m y w):eO many (fA m y w c).1 (fA m y w c).2:=by
 obtain⟨_,rc,ic⟩:=ig.mp hc;unfold fA;split
 ·refine⟨qe h.rm rc λp hp=>(dX.mp (ic p hp)).2.1,h.ry,λp hp=>?_,h.iy,λp hp=>?_⟩
  ·rcases List.mem_append.mp (cT.mp hp)with u|u
   ·exact h.im p u
   ·exact(dX.mp (ic p u)).1
  ·rcases List.mem_append.mp (cT.mp hp)with u|u
   ·exact h.dj p u
   ·exact(dX.mp (ic p u)).2.2
 ·refine⟨h.rm,qe h.ry rc λp hp=>(dX.mp (ic p hp)).2.2,h.im,λp hp=>?_,λp hp hq=>?_⟩
  ·rcases List.mem_append.mp (cT.mp hp)with u|u
   ·exact h.iy p u
   ·exact(dX.mp (ic p u)).1
  ·rcases List.mem_append.mp (cT.mp hq)with u|u
   ·exact h.dj p hp u
   ·exact(dX.mp (ic p u)).2.1 hp
end GP
namespace GP
open PySem DL
open L2 (kD rq)
theorem any_congr {α:Type}{f g:α->Bool}:∀{l:List α},(∀a∈l,f a=g a)->l.any f=l.any g
 |[],_=>rfl
 |a::l,h=>by rw[bF,bF,h a af,any_congr λb hb=>h b (ai _ hb)]
structure Gm where
 many:Int
 ls:cm
 b:Int
 g:Int
structure Gm.Ok (G:Gm):Prop where
 m0:0<=G.many
 m9:G.many<=9
 li:∀l∈G.ls,∀p∈l,0<=p/\p<G.many
 ll:∀l∈G.ls,l.length<1000000
 b1:1<=G.b
 b3:G.b<=4
 g1:1<=G.g
 g3:G.g<=4
noncomputable def Gm.jd (G:Gm) (m y:cn) (w:Int):cm:=zI G.many G.b G.g m y w
noncomputable def Gm.free (G:Gm) (m y:cn):cn:=oA G.many m y
noncomputable def Gm.over (G:Gm) (m y:cn):Option Int:=Bf G.ls m y
noncomputable def Gm.uJ (G:Gm):Nat->cn->cn->Int->Int
 |0,m,y,w=>match G.over m y with|some i=>i|none=>1-w
 |n+1,m,y,w=>match G.over m y with
  |some i=>i
  |none=>if(G.jd m y w).any (λc=>G.uJ n (fA m y w c).1 (fA m y w c).2 (1-w)==w)then w else 1-w
theorem pq {G:Gm}{m y c:cn}{w:Int}(h:eO G.many m y) (hc:c∈G.jd m y w):(G.free (fA m y w c).1 (fA m y w c).2).length+c.length<=(G.free m y).length:=by
 obtain⟨_,rc,ic⟩:=ig.mp hc;rw[<-aQ];have mp:∀p,(p∈(fA m y w c).1\/p∈(fA m y w c).2)↔(p∈m\/p∈y\/p∈c):=by
  intro p;unfold fA;split<;>simp only[cT,List.mem_append]
  ·constructor
   ·rintro((a|a)|a)<;>simp[a]
   ·rintro(a|a|a)<;>simp[a]
 refine bW ?_ λp hp=>?_
 ·refine List.nodup_append.mpr ⟨gD (nV _ _ _),gD rc,λp hp q hq e=>?_⟩
  subst e;have:=dX.mp hp;rcases(mp p).mpr (.inr (.inr hq))with u|u
  ·exact this.2.1 u
  ·exact this.2.2 u
 ·rcases List.mem_append.mp hp with u|u
  ·have:=dX.mp u;refine dX.mpr ⟨this.1,λz=>?_,λz=>?_⟩
   ·rcases(mp p).mpr (.inl z)with u|u
    ·exact this.2.1 u
    ·exact this.2.2 u
   ·rcases(mp p).mpr (.inr (.inl z))with u|u
    ·exact this.2.1 u
    ·exact this.2.2 u
  ·exact ic p u
theorem qf {G:Gm}(hG:G.Ok) {m y:cn}(h:G.free m y=[]):G.over m y≠none:=by
 unfold Gm.over Bf;split
 ·simp
 ·rename_i h1;rw[if_pos ?_]; · simp
  rw[List.all_eq_true];intro l hl;unfold iZ;rw[bO];have h2:¬ gW m l=true:=λz=>h1 (bO.mpr ⟨l,hl,z⟩)
  unfold gW at h2;rw[List.all_eq_true]at h2;have:∃p∈l,p∉m:=by
   apply bU
   intro hn;apply h2
   intro p hp;simp only[decide_eq_true_eq];apply bU
   intro z;exact hn ⟨p,hp,z⟩
  obtain⟨p,hp,u0⟩:=this;refine⟨p,hp,?_⟩;simp only[decide_eq_true_eq];apply bU
  intro z;have:p∈G.free m y:=dX.mpr ⟨hG.li l hl p hp,u0,z⟩;rw[h]at this;simp at this
theorem ER {G:Gm}{m y:cn}{i:Int}(h:G.over m y=some i):i=0\/i=1:=by
 unfold Gm.over Bf at h;split at h
 ·cases h;exact .inl rfl
 ·split at h
  ·cases h;exact .inr rfl
  ·cases h
theorem nt {G:Gm}(hG:G.Ok) {m y c:cn}{w:Int}(ho:G.over m y=none) (hc:c∈G.jd m y w):1<=c.length:=by
 obtain⟨l,_,_⟩:=ig.mp hc;have hf:G.free m y≠[]:=λz=>qf hG z ho
 have h1:1<=(oA G.many m y).length:=by
  cases h:oA G.many m y with
  |nil=>exact absurd h hf
  |cons a r=>simp
 rw[l];unfold wm;have:=hG.b1;have:=hG.g1;split<;>split<;>omega
theorem yt {G:Gm}(hG:G.Ok):∀(n:Nat) (m y:cn) (w:Int),eO G.many m y->(G.free m y).length<=n->G.uJ n m y w=G.uJ (n+1) m y w
 |0,m,y,w,h,hn=>by
  have h0:G.free m y=[]:=List.length_eq_zero_iff.mp (by omega)
  unfold Gm.uJ;cases ho:G.over m y with
  |some i=>rfl
  |none=>exact absurd ho (qf hG h0)
 |n+1,m,y,w,h,hn=>by
  rw[Gm.uJ,Gm.uJ];cases ho:G.over m y with
  |some i=>rfl
  |none=>
   have:(G.jd m y w).any (λc=>G.uJ n (fA m y w c).1 (fA m y w c).2 (1-w)==w)=(G.jd m y w).any (λc=>G.uJ (n+1) (fA m y w c).1 (fA m y w c).2 (1-w)==w):=
    any_congr λc hc=>by
     have:=pq h hc;have:=nt hG ho hc;rw[yt hG n _ _ (1-w) (gT h hc) (by omega)]
   simp only[this]
noncomputable def Gm.ft (G:Gm) (m y:cn) (w:Int):Int:=G.uJ 9 m y w
theorem LP {G:Gm}(hG:G.Ok) (m y:cn):(G.free m y).length<=9:=by
 have:=Gq G.many m y;have:=hG.m9;unfold Gm.free;omega
theorem zJ {G:Gm}(hG:G.Ok) {m y:cn}{w:Int}(h:eO G.many m y):G.ft m y w=(match G.over m y with
  |some i=>i
  |none=>if(G.jd m y w).any (λc=>G.ft (fA m y w c).1 (fA m y w c).2 (1-w)==w)then w else 1-w):=by
 unfold Gm.ft;rw[yt hG 9 m y w h (LP hG m y),Gm.uJ]
theorem mV {G:Gm}(hG:G.Ok) {m y:cn}{w:Int}(h:eO G.many m y) (hw:w=0\/w=1):G.ft m y w=0\/G.ft m y w=1:=by
 rw[zJ hG h];cases ho:G.over m y with
 |some i=>exact ER ho
 |none=>simp only;split<;>omega
noncomputable def DD (m y:cn) (w:Int):D:=.tup [tupI m,tupI y,.int w]
noncomputable def yu:D->Option (cn×cn×Int)
 |.tup [.tup a,.tup b,.int w]=>match intsOf a,intsOf b with|some m,some y=>some (m,y,w)|_,_=>none
 |_=>none
theorem qg (m y:cn) (w:Int):yu (DD m y w)=some (m,y,w):=by
 show(match intsOf (m.map D.int),intsOf (y.map D.int)with|some m,some y=>some (m,y,w)|_,_=>none)=_
 rw[hU,hU]
theorem Jn {k:D}{m y:cn}{w:Int}(h:yu k=some (m,y,w)):k=DD m y w:=by
 unfold yu at h;split at h
 ·rename_i a b w';split at h
  ·rename_i m' y' e1 e2;cases h;rw[iz e1,iz e2];rfl
  ·cases h
 ·cases h
noncomputable def DE (k:D):Nat:=match yu k with|some (m,y,w)=>code m 9*1024+code y 9*2+w.toNat|none=>0
open Classical in
noncomputable def Gm.W (G:Gm) (k:D):Option D:=match yu k with
 |some (m,y,w)=>if eO G.many m y/\(w=0\/w=1)then some (.int (G.ft m y w))else none
 |none=>none
theorem DF {G:Gm}{k d:D}(h:G.W k=some d):∃m y w,k=DD m y w/\eO G.many m y/\(w=0\/w=1)/\d=.int (G.ft m y w):=by
 unfold Gm.W at h;split at h
 ·rename_i m y w e;split at h
  ·rename_i hh;cases h;exact⟨m,y,w,Jn e,hh.1,hh.2,rfl⟩
  ·cases h
 ·cases h
theorem Jo {G:Gm}{m y:cn}{w:Int}(h:eO G.many m y) (hw:w=0\/w=1):G.W (DD m y w)=some (.int (G.ft m y w)):=by
 unfold Gm.W;rw[qg];simp only;rw[if_pos ⟨h,hw⟩]
theorem wo (m y:cn) (w:Int):DE (DD m y w)=code m 9*1024+code y 9*2+w.toNat:=by unfold DE;rw[qg]
theorem Sn {G:Gm}(hG:G.Ok) (k k' d d':D) (h:G.W k=some d) (h':G.W k'=some d') (e:DE k=DE k'):k=k':=by
 obtain⟨m,y,w,rfl,p,hw,rfl⟩:=DF h;obtain⟨m',y',w',rfl,p',LM,rfl⟩:=DF h';rw[wo,wo]at e;have a1:=sr y 9;have a2:=sr y' 9;have e1:w=w':=by rcases hw with rfl|rfl<;>rcases LM with rfl|rfl<;>simp at e ⊢<;>omega
 subst e1;have e2:code y 9=code y' 9:=by rcases hw with rfl|rfl<;>simp at e<;>omega
 have e3:code m 9=code m' 9:=by omega
 rw[Bi hG.m9 p.rm p'.rm p.im p'.im e3,Bi hG.m9 p.ry p'.ry p.iy p'.iy e2]
theorem wq:∀l:cn,nc (l.map D.int)=true
 |[]=>by unfold nc;rfl
 |a::l=>by
  show nc (.int a::l.map D.int)=true;unfold nc o4;rw[wq l];rfl
theorem Vi {G:Gm}(k d:D) (h:G.W k=some d):DE k<524288:=by
 obtain⟨m,y,w,rfl,p,hw,rfl⟩:=DF h;rw[wo];have a1:=sr y 9;have a2:=sr m 9;rcases hw with rfl|rfl<;>simp<;>omega
noncomputable def Bk:jQ:=⟨λ_=>none,λ_=>0,0,by decide,(λ_ _ h=>by cases h),(λ_ _ _ _ h=>by cases h),(λ_ _ h=>by cases h)⟩
noncomputable def linesOf:cu->Option (cm)
 |[]=>some []
 |.tup ds::r=>match intsOf ds,linesOf r with|some l,some ls=>some (l::ls)|_,_=>none
 |_=>none
theorem pA:∀ls:cm,linesOf (ls.map tupI)=some ls
 |[]=>rfl
 |l::ls=>by
  show(match intsOf (l.map D.int),linesOf (ls.map tupI)with|some l,some ls=>some (l::ls)|_,_=>none)=_
  rw[hU,pA ls]
noncomputable def Jp:D->Option Gm
 |.tup [.tup [.int many,.tup ls],.int _,.int b,.int g]=>(linesOf ls).map λls=>⟨many,ls,b,g⟩
 |_=>none
theorem zK (many:Int) (ls:cm) (f b g:Int):Jp (di many ls f b g)=some ⟨many,ls,b,g⟩:=by
 show(linesOf (ls.map tupI)).map _=_;rw[pA];rfl
end GP
namespace GP
open PySem DL
theorem fill:∀(F:cn) (P:Int->Bool) (k:Nat),F.countP P<=k->k<=F.length->∃c:cn,c.Sublist F/\c.length=k/\∀x∈F,P x=true->x∈c
 |[],P,k,_,h2=>⟨[],List.Sublist.refl _,by simp at h2;simp[h2],by simp⟩
 |x::F,P,k,h1,h2=>by
  rw[List.countP_cons]at h1;rw[ax]at h2;by_cases hx:P x=true
  ·rw[if_pos hx]at h1;obtain⟨c,s,l,i⟩:=fill F P (k-1) (by omega) (by omega)
   refine⟨x::c,s.cons_cons x,by rw[ax];omega,λz hz pz=>?_⟩
   rcases List.mem_cons.mp hz with rfl|u
   ·exact af
   ·exact ai _ (i z u pz)
  ·rw[if_neg hx]at h1;by_cases hk:k<=F.length
   ·obtain⟨c,s,l,i⟩:=fill F P k (by omega) hk
    refine⟨c,s.cons x,l,λz hz pz=>?_⟩
    rcases List.mem_cons.mp hz with rfl|u
    ·exact absurd pz hx
    ·exact i z u pz
   ·exact⟨x::F,List.Sublist.refl _,by rw[ax];omega,λz hz _=>hz⟩
theorem ij {G:Gm}{m y A:cn}{w:Int}(ha:A.length<=(if w=0 then G.b else G.g).toNat):∃c∈G.jd m y w,∀p∈G.free m y,p∈A->p∈c:=by
 have hc:(G.free m y).countP (λp=>decide (p∈A))<=A.length:=by
  rw[List.countP_eq_length_filter];exact bW ((gD (nV _ _ _)).sublist List.filter_sublist) λp hp=>by
   have:=(List.mem_filter.mp hp).2
   simpa using this
 have ub:(G.free m y).countP (λp=>decide (p∈A))<=(G.free m y).length:=List.countP_le_length
 obtain⟨c,s,l,i⟩:=fill (G.free m y) (λp=>decide (p∈A)) (wm G.b G.g w (G.free m y)) (by unfold wm;split<;>omega) (by unfold wm;split<;>omega)
 exact⟨c,ig.mpr ⟨l,(nV _ _ _).sublist s,λp hp=>s.subset hp⟩,λp hp hA=>i p hp (by simpa using hA)⟩
theorem lG {G:Gm}(hG:G.Ok) {m y c:cn}{w:Int}(hc:c∈G.jd m y w):c.length<=(if w=0 then G.b else G.g).toNat:=by
 obtain⟨l,_,_⟩:=ig.mp hc;rw[l];unfold wm;have:=hG.b1;have:=hG.g1;split<;>split<;>omega
theorem mG {G:Gm}{m y:cn}:G.over m y=some 0↔∃l∈G.ls,∀p∈l,p∈m:=by
 unfold Gm.over Bf;have e:G.ls.any (gW m)=true↔∃l∈G.ls,∀p∈l,p∈m:=by
  rw[bO];simp only[gW,List.all_eq_true,decide_eq_true_eq]
 constructor
 ·intro h;split at h
  ·rename_i h1;exact e.mp h1
  ·split at h<;>simp at h
 ·intro h;rw[if_pos (e.mpr h)]
theorem pB {G:Gm}{m y:cn}(h0:¬ ∃l∈G.ls,∀p∈l,p∈m):G.over m y=some 1↔∀l∈G.ls,∃p∈l,p∈y:=by
 have h1:¬ G.ls.any (gW m)=true:=by
  intro h;rw[bO]at h;simp only[gW,List.all_eq_true,decide_eq_true_eq]at h;exact h0 h
 unfold Gm.over Bf;rw[if_neg h1];have e:G.ls.all (iZ y)=true↔∀l∈G.ls,∃p∈l,p∈y:=by
  rw[List.all_eq_true];simp only[iZ,bO,decide_eq_true_eq]
 constructor
 ·intro h;split at h
  ·rename_i h2;exact e.mp h2
  ·simp at h
 ·intro h;rw[if_pos (e.mpr h)]
theorem gE (G:Gm) (m y:cn):G.over m y=some 0\/G.over m y=some 1\/G.over m y=none:=by
 cases h:G.over m y with
 |none=>exact .inr (.inr rfl)
 |some i=>rcases ER h with rfl|rfl<;>simp
theorem yv {G:Gm}(hG:G.Ok) {m y:cn}(h:eO G.many m y) (ho:G.over m y=none):G.ft m y 0=0↔∃c∈G.jd m y 0,G.ft (fA m y 0 c).1 (fA m y 0 c).2 1=0:=by
 rw[zJ hG h,ho];simp only;have e:(G.jd m y 0).any (λc=>G.ft (fA m y 0 c).1 (fA m y 0 c).2 (1-0)==0)=true↔∃c∈G.jd m y 0,G.ft (fA m y 0 c).1 (fA m y 0 c).2 1=0:=by
  rw[bO];simp only[beq_iff_eq];rfl
 constructor
 ·intro h1;split at h1
  ·rename_i h2;exact e.mp h2
  ·omega
 ·intro h1;rw[if_pos (e.mpr h1)]
theorem yw {G:Gm}(hG:G.Ok) {m y:cn}(h:eO G.many m y) (ho:G.over m y=none):G.ft m y 1=0↔∀c∈G.jd m y 1,G.ft (fA m y 1 c).1 (fA m y 1 c).2 0=0:=by
 rw[zJ hG h,ho];simp only;have e:(G.jd m y 1).any (λc=>G.ft (fA m y 1 c).1 (fA m y 1 c).2 (1-1)==1)=true↔∃c∈G.jd m y 1,G.ft (fA m y 1 c).1 (fA m y 1 c).2 0=1:=by
  rw[bO];simp only[beq_iff_eq];rfl
 constructor
 ·intro h1 c hc;rcases mV (w:=0) hG (gT h hc) (.inl rfl)with z|z
  ·exact z
  ·rw[if_pos (e.mpr ⟨c,hc,z⟩)]at h1;omega
 ·intro h1;rw[if_neg]
  ·rfl
  ·intro z;obtain⟨c,hc,u⟩:=e.mp z;have:=h1 c hc;omega
theorem gg {G:Gm}(hG:G.Ok) {m y:cn}{w i:Int}(h:eO G.many m y) (ho:G.over m y=some i):G.ft m y w=i:=by
 rw[zJ hG h,ho]
theorem Gr (m y c:cn):fA m y 0 c=(sortI (m++c),y):=rfl
theorem Gs (m y c:cn):fA m y 1 c=(m,sortI (y++c)):=rfl
structure Gm.Vj (G G':Gm) (π:Int->Int):Prop where
 pr:∀p,0<=p/\p<G.many->0<=π p/\π p<G'.many
 inj:∀p q,0<=p/\p<G.many->0<=q/\q<G.many->π p=π q->p=q
 b:G.b<=G'.b
 g:G'.g<=G.g
 ls:∀l∈G.ls,∃l'∈G'.ls,∀q∈l',∃p∈l,π p=q
noncomputable def back (G:Gm) (π:Int->Int) (c:cn):cn:=(dF 0 G.many.toNat).filter λp=>decide (π p∈c)
theorem back_mem {G:Gm}{π:Int->Int}{c:cn}{p:Int}:p∈back G π c↔(0<=p/\p<G.many)/\π p∈c:=by
 unfold back;rw[List.mem_filter,LW.hZ,decide_eq_true_eq];constructor
 ·rintro⟨h1,h2⟩;exact⟨by omega,h2⟩
 ·rintro⟨h1,h2⟩;exact⟨by omega,h2⟩
theorem tU {π:Int->Int}:∀{l:cn},l.Nodup->(∀p∈l,∀q∈l,π p=π q->p=q)->(l.map π).Nodup
 |[],_,_=>List.nodup_nil
 |a::l,h,i=>by
  obtain⟨h1,h2⟩:=List.nodup_cons.mp h;rw[aE,List.nodup_cons];refine⟨λz=>?_,tU h2 λp hp q hq=>i p (ai _ hp) q (ai _ hq)⟩
  obtain⟨q,hq,e⟩:=List.mem_map.mp z;have:=i q (ai _ hq) a af e;subst this;exact h1 hq
theorem Jq {G:Gm}{π:Int->Int}{c:cn}(inj:∀p q,0<=p/\p<G.many->0<=q/\q<G.many->π p=π q->p=q):(back G π c).length<=c.length:=by
 have nd:(back G π c).Nodup:=(gD (ie _ _)).sublist List.filter_sublist;have:=bW (tU nd λp hp q hq e=>inj p q (back_mem.mp hp).1 (back_mem.mp hq).1 e) (l₂:=c) λq hq=>by
  obtain⟨p,hp,rfl⟩:=List.mem_map.mp hq;exact(back_mem.mp hp).2
 rwa [ae]at this
structure Gm.Le (G G':Gm):Prop where
 many:G.many=G'.many
 b:G.b<=G'.b
 g:G'.g<=G.g
 ls:∀l∈G.ls,∃l'∈G'.ls,∀p∈l',p∈l
theorem Gm.Le.refl (G:Gm):G.Le G:=⟨rfl,Int.le_refl _,Int.le_refl _,λl h=>⟨l,h,λ_ h=>h⟩⟩
theorem Jr {G G':Gm}{π:Int->Int}(hG:G.Ok) (wt:G'.Ok) (le:G.Vj G' π):∀(n:Nat) (m y m' y':cn) (w:Int),eO G.many m y->eO G'.many m' y'->(∀p∈m,π p∈m')->(∀p,0<=p/\p<G.many->π p∈y'->p∈y)->(w=0\/w=1)->(G'.free m' y').length<=n->
  G.ft m y w=0->G'.ft m' y' w=0:=by
 intro n;induction n with
 |zero=>
  intro m y m' y' w h h' sm sy hw hn qv;have h0:G'.free m' y'=[]:=List.length_eq_zero_iff.mp (by omega)
  have hf:=qf wt h0;have k0:(∃l∈G.ls,∀p∈l,p∈m)->∃l∈G'.ls,∀p∈l,p∈m':=λ⟨l,hl,hp⟩=>by
   obtain⟨l',g9,s⟩:=le.ls l hl;refine⟨l',g9,λq hq=>?_⟩
   obtain⟨p,vX,rfl⟩:=s q hq;exact sm _ (hp _ vX)
  rcases gE G' m' y' with kN|kN|kN
  ·exact gg wt h' kN
  ·exfalso;have GW:¬ ∃l∈G'.ls,∀p∈l,p∈m':=λz=>by rw[mG.mpr z]at kN;simp at kN
   have a:=(pB GW).mp kN;have n0:¬ ∃l∈G.ls,∀p∈l,p∈m:=λz=>GW (k0 z)
   have:G.over m y=some 1:=(pB n0).mpr λl hl=>by
    obtain⟨l',g9,s⟩:=le.ls l hl;obtain⟨p,hp,hy⟩:=a l' g9;obtain⟨r,hr,rfl⟩:=s p hp;exact⟨r,hr,sy r (hG.li l hl r hr) hy⟩
   rw[gg hG h this]at qv;omega
  ·exact absurd kN hf
 |succ n ih=>
  intro m y m' y' w h h' sm sy hw hn qv;have k0:(∃l∈G.ls,∀p∈l,p∈m)->∃l∈G'.ls,∀p∈l,p∈m':=λ⟨l,hl,hp⟩=>by
   obtain⟨l',g9,s⟩:=le.ls l hl;refine⟨l',g9,λq hq=>?_⟩
   obtain⟨p,vX,rfl⟩:=s q hq;exact sm _ (hp _ vX)
  rcases gE G' m' y' with kN|kN|kN
  ·exact gg wt h' kN
  ·exfalso;have GW:¬ ∃l∈G'.ls,∀p∈l,p∈m':=λz=>by rw[mG.mpr z]at kN;simp at kN
   have a:=(pB GW).mp kN;have n0:¬ ∃l∈G.ls,∀p∈l,p∈m:=λz=>GW (k0 z)
   have:G.over m y=some 1:=(pB n0).mpr λl hl=>by
    obtain⟨l',g9,s⟩:=le.ls l hl;obtain⟨p,hp,hy⟩:=a l' g9;obtain⟨r,hr,rfl⟩:=s p hp;exact⟨r,hr,sy r (hG.li l hl r hr) hy⟩
   rw[gg hG h this]at qv;omega
  ·have GW:¬ ∃l∈G'.ls,∀p∈l,p∈m':=λz=>by rw[mG.mpr z]at kN;simp at kN
   rcases gE G m y with ho|ho|ho
   ·exact absurd (k0 (mG.mp ho)) GW
   ·rw[gg hG h ho]at qv;omega
   ·rcases hw with rfl|rfl
    ·obtain⟨c,hc,wc⟩:=(yv hG h ho).mp qv;have hl:=lG hG hc;rw[if_pos rfl]at hl;obtain⟨c',m3,jW⟩:=ij (G:=G') (m:=m') (y:=y') (A:=c.map π) (w:=0) (by rw[if_pos rfl,ae];have:=le.b;omega)
     refine(yv wt h' kN).mpr ⟨c',m3,?_⟩;have f1:=pq h' m3;have f2:=nt wt kN m3;refine ih _ _ _ _ 1 (gT h hc) (gT h' m3) ?_ ?_ (.inr rfl) (by omega) wc
     ·intro p hp;rw[Gr]at hp ⊢;rcases List.mem_append.mp (cT.mp hp)with u|u
      ·exact cT.mpr (bC _ (sm p u))
      ·by_cases Am:π p∈m'
       ·exact cT.mpr (bC _ Am)
       ·refine cT.mpr (aL _ (jW _ ?_ (List.mem_map.mpr ⟨p,u,rfl⟩)));have fr:=dX.mp ((ig.mp hc).2.2 p u);exact dX.mpr ⟨le.pr p fr.1,Am,λz=>fr.2.2 (sy _ fr.1 z)⟩
     ·exact λp hp=>sy p hp
    ·refine(yw wt h' kN).mpr λc' m3=>?_
     have hl:=lG wt m3;rw[if_neg (by omega)]at hl
     obtain⟨c,hc,jW⟩:=ij (G:=G) (m:=m) (y:=y) (A:=back G π c') (w:=1) (by rw[if_neg (by omega)];have:=le.g;have:=Jq (c:=c') le.inj;omega)
     have wc:=(yw hG h ho).mp qv c hc;have f1:=pq h' m3;have f2:=nt wt kN m3;refine ih _ _ _ _ 0 (gT h hc) (gT h' m3) ?_ ?_ (.inl rfl) (by omega) wc
     ·exact λp hp=>sm p hp
     ·intro p pr hp;rw[Gs]at hp ⊢;rcases List.mem_append.mp (cT.mp hp)with u|u
      ·exact cT.mpr (bC _ (sy p pr u))
      ·by_cases hy:p∈y
       ·exact cT.mpr (bC _ hy)
       ·refine cT.mpr (aL _ (jW _ ?_ (back_mem.mpr ⟨pr,u⟩)));have fr:=dX.mp ((ig.mp m3).2.2 _ u);exact dX.mpr ⟨pr,λz=>fr.2.1 (sm _ z),hy⟩
theorem mono {G G':Gm}(hG:G.Ok) (wt:G'.Ok) (le:G.Le G') {m y m' y':cn}{w:Int}(h:eO G.many m y) (h':eO G'.many m' y') (sm:∀p∈m,p∈m') (sy:∀p∈y',p∈y) (hw:w=0\/w=1):G.ft m y w=0->G'.ft m' y' w=0:=
 Jr (π:=id) hG wt ⟨λp h=>le.many▸h,λp q _ _ e=>e,le.b,le.g,λl hl=>(le.ls l hl).imp λl' h=>⟨h.1,λq hq=>⟨q,h.2 q hq,rfl⟩⟩⟩ _ m y m' y' w h h' sm (λp _=>sy p) hw (au _)
theorem ES {G:Gm}(hG:G.Ok) {m y:cn}(h:eO G.many m y) (qv:G.ft m y 1=0):G.ft m y 0=0:=by
 rcases gE G m y with ho|ho|ho
 ·exact gg hG h ho
 ·rw[gg hG h ho]at qv;omega
 ·obtain⟨c,hc,_⟩:=ij (G:=G) (m:=m) (y:=y) (A:=[]) (w:=1) (by simp)
  have:=(yw hG h ho).mp qv c hc;exact mono hG hG (Gm.Le.refl G) (gT h hc) h (λp hp=>hp) (λp hp=>cT.mpr (bC _ hp)) (.inl rfl) this
end GP
namespace GP
open PySem DL
open L2 (kD rq)
noncomputable def comb:Nat->cn->cm
 |0,_=>[[]]
 |_+1,[]=>[]
 |k+1,p::r=>(comb k r).map (p:: ·)++comb (k+1) r
theorem su:∀(k:Nat) (s c:cn),c∈comb k s->c.length=k/\∀p∈c,p∈s
 |0,s,c,h=>by simp[comb]at h;subst h;simp
 |k+1,[],c,h=>by simp[comb]at h
 |k+1,q::r,c,h=>by
  simp only[comb,List.mem_append,List.mem_map]at h;rcases h with⟨d,hd,rfl⟩|h
  ·obtain⟨h1,h2⟩:=su k r d hd;refine⟨by simp[h1],λp hp=>?_⟩
   rcases List.mem_cons.mp hp with rfl|hp
   ·exact af
   ·exact ai _ (h2 p hp)
  ·obtain⟨h1,h2⟩:=su (k+1) r c h;exact⟨h1,λp hp=>ai _ (h2 p hp)⟩
theorem mf:∀(k:Nat) (s:cn),s.length<k->comb k s=[]
 |0,s,h=>by omega
 |k+1,[],_=>rfl
 |k+1,p::r,h=>by
  simp only[ax]at h;simp[comb,mf k r (by omega),mf (k+1) r (by omega)]
theorem wu:∀(s:cn),comb s.length s=[s]
 |[]=>rfl
 |p::r=>by simp[comb,wu r,mf (r.length+1) r (by omega)]
theorem pC {α β:Type}{f g:α->List β}:∀{l:List α},(∀a∈l,f a=g a)->l.flatMap f=l.flatMap g
 |[],_=>rfl
 |a::l,h=>by rw[List.flatMap_cons,List.flatMap_cons,h a af,pC λb hb=>h b (ai _ hb)]
noncomputable def rh (c:Nat) (ps:cn):cm:=if ps.length<=c then[ps]else comb c ps
theorem Bl {c:Nat}{ps:cn}(h:c<=ps.length):rh c ps=comb c ps:=by
 unfold rh;split
 ·have:c=ps.length:=by omega
  rw[this,wu]
 ·rfl
noncomputable def wx (c:Nat) (ps:cn) (k:Nat):cm:=match ps[k]? with
 |some p=>(comb c (ps.drop (k+1))).map (p:: ·)
 |none=>[]
theorem yx:∀(c:Nat) (ps:cn),(List.range (ps.length-c)).flatMap (wx c ps)=comb (c+1) ps
 |c,[]=>by simp[comb]
 |c,p::r=>by
  by_cases h:c<=r.length
  ·have e:(p::r).length-c=(r.length-c)+1:=by simp;omega
   rw[e,List.range_succ_eq_map,List.flatMap_cons,List.flatMap_map];show wx c (p::r) 0++_=(comb c r).map (p:: ·)++comb (c+1) r
   congr 1
   rw[<-yx c r];exact pC λk _=>rfl
  ·have e:(p::r).length-c=0:=by simp;omega
   rw[e,mf (c+1) (p::r) (by simp;omega)]
   rfl
theorem qh:∀(c:Nat) (ps:cn),(comb c ps).length<=2^ps.length
 |0,ps=>by simp[comb];exact Nat.one_le_two_pow
 |c+1,[]=>by simp[comb]
 |c+1,p::r=>by
  have h1:=qh c r;have h2:=qh (c+1) r;simp only[comb,aQ,ae,ax,Nat.pow_succ];omega
theorem Js {c:Nat}{ps:cn}:(rh c ps).length<=2^ps.length:=by
 unfold rh;split
 ·simp;exact Nat.one_le_two_pow
 ·exact qh c ps
end GP
namespace GP
open PySem DL
def Pq (G:Gm) (m y:cn) (G':Gm) (m' y':cn):Prop:=
 ∀l∈G.ls,(∀p∈l,p∉y)->∃l'∈G'.ls,(∀p∈l',p∉y')/\∀p∈l',p∉m'->p∈l/\p∉m
theorem Pq.mG {G G':Gm}{m y m' y':cn}(h:eO G.many m y) (d:Pq G m y G' m' y') (z:∃l∈G.ls,∀p∈l,p∈m):∃l∈G'.ls,∀p∈l,p∈m':=by
 obtain⟨l,hl,hp⟩:=z;obtain⟨l',g9,_,s⟩:=d l hl λp q=>h.dj p (hp p q)
 refine⟨l',g9,λp q=>?_⟩
 by_cases hm:p∈m'
 ·exact hm
 ·exact absurd (hp p (s p q hm).1) (s p q hm).2
theorem Pq.pB {G G':Gm}{m y m' y':cn}(h:eO G.many m y) (d:Pq G m y G' m' y') (kN:G'.over m' y'=some 1):G.over m y=some 1:=by
 have GW:¬ ∃l∈G'.ls,∀p∈l,p∈m':=λz=>by rw[GP.mG.mpr z]at kN;simp at kN
 have a:=(GP.pB GW).mp kN;refine(GP.pB λz=>GW (d.mG h z)).mpr λl hl=>?_
 by_cases hy:∃p∈l,p∈y
 ·exact hy
 ·obtain⟨l',g9,o,_⟩:=d l hl λp q u=>hy ⟨p,q,u⟩
  obtain⟨p,q,u⟩:=a l' g9;exact absurd u (o p q)
theorem qi {G G':Gm}(hG:G.Ok) (wt:G'.Ok) (em:G.many=G'.many) (eb:G.b=G'.b) (eg:G.g=G'.g):∀(n:Nat) (m y m' y':cn) (w:Int),eO G.many m y->eO G'.many m' y'->Pq G m y G' m' y'->(w=0\/w=1)->(G'.free m' y').length<=n->
  G.ft m y w=0->G'.ft m' y' w=0:=by
 intro n;induction n with
 |zero=>
  intro m y m' y' w h h' d hw hn qv;have h0:G'.free m' y'=[]:=List.length_eq_zero_iff.mp (by omega)
  rcases gE G' m' y' with kN|kN|kN
  ·exact gg wt h' kN
  ·rw[gg hG h (d.pB h kN)]at qv;omega
  ·exact absurd kN (qf wt h0)
 |succ n ih=>
  intro m y m' y' w h h' d hw hn qv;rcases gE G' m' y' with kN|kN|kN
  ·exact gg wt h' kN
  ·rw[gg hG h (d.pB h kN)]at qv;omega
  ·have GW:¬ ∃l∈G'.ls,∀p∈l,p∈m':=λz=>by rw[GP.mG.mpr z]at kN;simp at kN
   rcases gE G m y with ho|ho|ho
   ·exact absurd (d.mG h (GP.mG.mp ho)) GW
   ·rw[gg hG h ho]at qv;omega
   ·rcases hw with rfl|rfl
    ·obtain⟨c,hc,wc⟩:=(yv hG h ho).mp qv;have hl:=lG hG hc;rw[if_pos rfl]at hl;obtain⟨c',m3,jW⟩:=ij (G:=G') (m:=m') (y:=y') (A:=c) (w:=0) (by rw[if_pos rfl];omega)
     refine(yv wt h' kN).mpr ⟨c',m3,?_⟩;have f1:=pq h' m3;have f2:=nt wt kN m3;refine ih _ _ _ _ 1 (gT h hc) (gT h' m3) ?_ (.inr rfl) (by omega) wc
     intro l g9 GX;rw[Gr]at GX ⊢;rw[Gr];obtain⟨l',EH,o,s⟩:=d l g9 GX;refine⟨l',EH,o,λp hp hm=>?_⟩
     have nm:p∉m':=λz=>hm (cT.mpr (bC _ z))
     obtain⟨s1,s2⟩:=s p hp nm;refine⟨s1,λz=>?_⟩
     rcases List.mem_append.mp (cT.mp z)with u|u
     ·exact s2 u
     ·exact hm (cT.mpr (aL _ (jW p (dX.mpr ⟨em▸hG.li l g9 p s1,nm,o p hp⟩) u)))
    ·refine(yw wt h' kN).mpr λc' m3=>?_
     have hl:=lG wt m3;rw[if_neg (by omega)]at hl
     obtain⟨c,hc,jW⟩:=ij (G:=G) (m:=m) (y:=y) (A:=c') (w:=1) (by rw[if_neg (by omega)];omega)
     have wc:=(yw hG h ho).mp qv c hc;have f1:=pq h' m3;have f2:=nt wt kN m3;refine ih _ _ _ _ 0 (gT h hc) (gT h' m3) ?_ (.inl rfl) (by omega) wc
     intro l g9 GX;rw[Gs]at GX ⊢;rw[Gs];have hy:∀p∈l,p∉y:=λp q z=>GX p q (cT.mpr (bC _ z))
     obtain⟨l',EH,o,s⟩:=d l g9 hy;refine⟨l',EH,λp hp z=>?_,s⟩
     rcases List.mem_append.mp (cT.mp z)with u|u
     ·exact o p hp u
     ·have fr:=dX.mp ((ig.mp m3).2.2 p u);obtain⟨s1,s2⟩:=s p hp fr.2.1;exact GX p s1 (cT.mpr (aL _ (jW p (dX.mpr ⟨hG.li l g9 p s1,s2,hy p s1⟩) u)))
theorem Pr {G G':Gm}(hG:G.Ok) (wt:G'.Ok) (em:G.many=G'.many) (eb:G.b=G'.b) (eg:G.g=G'.g) {m y m' y':cn}{w:Int}(h:eO G.many m y) (h':eO G'.many m' y') (hw:w=0\/w=1) (d:Pq G m y G' m' y') (d':Pq G' m' y' G m y):G.ft m y w=G'.ft m' y' w:=by
 have a:=qi hG wt em eb eg _ m y m' y' w h h' d hw (au _);have b:=qi wt hG em.symm eb.symm eg.symm _ m' y' m y w h' h d' hw (au _);rcases mV hG h hw with z|z
 ·rw[z,a z]
 ·rcases mV wt h' hw with u|u
  ·rw[b u]at z;omega
  ·rw[z,u]
theorem tV:∀(k:Nat) (ps c:cn),c.Sublist ps->c.length=k->c∈comb k ps
 |0,ps,c,_,h=>by
  have:c=[]:=List.length_eq_zero_iff.mp h;subst this;cases ps<;>simp[comb]
 |k+1,[],c,s,h=>by
  have:=s.length_le;simp at this;subst this;simp at h
 |k+1,p::r,c,s,h=>by
  simp only[comb,List.mem_append,List.mem_map];cases s with
  |cons _ s=>exact .inr (tV (k+1) r c s h)
  |cons_cons _ s=>
   rename_i c';exact .inl ⟨c',tV k r c' s (by simpa using h),rfl⟩
theorem Bm {k:Nat}{ps A:cn}(hA:ps.countP (λp=>decide (p∈A))<=k):∃c∈rh k ps,∀p∈ps,p∈A->p∈c:=by
 unfold rh;by_cases h:ps.length<=k
 ·rw[if_pos h];exact⟨ps,by simp,λp hp _=>hp⟩
 ·rw[if_neg h];obtain⟨c,s,l,i⟩:=fill ps (λp=>decide (p∈A)) k hA (by omega)
  exact⟨c,tV k ps c s l,λp hp ha=>i p hp (by simpa using ha)⟩
theorem nW {k:Nat}{ps c:cn}(h:c∈rh k ps):(∀p∈c,p∈ps)/\c.length<=k/\(c.length=k\/∀p∈ps,p∈c):=by
 unfold rh at h;split at h
 ·simp at h;subst h;exact⟨λp hp=>hp,by omega,.inr λp hp=>hp⟩
 ·obtain⟨h1,h2⟩:=su k ps c h;exact⟨h2,by omega,.inl h1⟩
noncomputable def Gm.at (G:Gm) (L:cm):Gm:={G with ls:=L}
structure LQ (G:Gm) (L:cm):Prop where
 li:∀l∈L,∀p∈l,0<=p/\p<G.many
 ll:∀l∈L,l.length<1000000
theorem Gm.Ok.at {G:Gm}(hG:G.Ok) {L:cm}(h:LQ G L):(G.at L).Ok:=⟨hG.m0,hG.m9,h.li,h.ll,hG.b1,hG.b3,hG.g1,hG.g3⟩
theorem fV (many:Int):eO many [] []:=⟨List.Pairwise.nil,List.Pairwise.nil,(λp h=>by cases h),(λp h=>by cases h),λp h=>by cases h⟩
theorem quick {G:Gm}(hG:G.Ok) {m y l:cn}(h:eO G.many m y) (hl:l∈G.ls) (hy:∀p∈l,p∉y) (hb:l.length<=G.b.toNat):G.ft m y 0=0:=by
 rcases gE G m y with ho|ho|ho
 ·exact gg hG h ho
 ·exfalso;have n0:¬ ∃l∈G.ls,∀p∈l,p∈m:=λz=>by rw[mG.mpr z]at ho;simp at ho
  obtain⟨p,hp,u⟩:=(pB n0).mp ho l hl;exact hy p hp u
 ·obtain⟨c,hc,jW⟩:=ij (G:=G) (m:=m) (y:=y) (A:=l) (w:=0) (by rw[if_pos rfl];exact hb)
  refine(yv hG h ho).mpr ⟨c,hc,gg hG (gT h hc) (mG.mpr ⟨l,hl,λp hp=>?_⟩)⟩
  rw[Gr];by_cases hm:p∈m
  ·exact cT.mpr (bC _ hm)
  ·exact cT.mpr (aL _ (jW p (dX.mpr ⟨hG.li l hl p hp,hm,hy p hp⟩) hp))
theorem yy {G:Gm}{L:cm}(h1:L≠[]) (h2:[]∉L):(G.at L).over [] []=none:=by
 have n0:¬ ∃l∈(G.at L).ls,∀p∈l,p∈([]:cn):=λ⟨l,hl,hp⟩=>by
  cases l with
  |nil=>exact h2 hl
  |cons a r=>exact absurd (hp a af) (by simp)
 rcases gE (G.at L) [] []with ho|ho|ho
 ·exact absurd (mG.mp ho) n0
 ·cases L with
  |nil=>exact absurd rfl h1
  |cons a r=>
   obtain⟨p,_,u⟩:=(pB n0).mp ho a af;cases u
 ·exact ho
section
variable {G:Gm}(hG:G.Ok) {L:cm}(hL:LQ G L) (h1:L≠[]) (h2:[]∉L) {ps:cn}(nd:ps.Nodup) (B5:∀p,p∈ps↔∃l∈L,p∈l)
include hG hL B5
theorem pD {c:cn}(hc:∀p∈c,p∈ps) (hn:c.Nodup):eO G.many (sortI c) []/\eO G.many [] (sortI c):=by
 have r:fm (sortI c):=LW.iD hn;have i:∀p∈sortI c,0<=p/\p<G.many:=λp hp=>by
  obtain⟨l,hl,vX⟩:=(B5 p).mp (hc p (cT.mp hp));exact hL.li l hl p vX
 exact⟨⟨r,List.Pairwise.nil,i,(λp h=>by cases h),λp _ h=>by cases h⟩,⟨List.Pairwise.nil,r,(λp h=>by cases h),i,λp h=>by cases h⟩⟩
include nd in
theorem count_le {c:cn}:ps.countP (λp=>decide (p∈c))<=c.length:=by
 rw[List.countP_eq_length_filter];exact bW (nd.sublist List.filter_sublist) λp hp=>by
  have:=(List.mem_filter.mp hp).2
  simpa using this
theorem nu {k:Nat}{c:cn}(nd:ps.Nodup) (h:c∈rh k ps):c.Nodup:=by
 unfold rh at h;split at h
 ·simp at h;subst h;exact nd
 ·have:∀(k:Nat) (ps c:cn),c∈comb k ps->c.Sublist ps:=by
   intro k ps;induction ps generalizing k with
   |nil=>intro c h;cases k<;>simp[comb]at h;subst h;exact List.Sublist.refl _
   |cons p r ih=>
    intro c h;cases k with
    |zero=>simp[comb]at h;subst h;exact List.nil_sublist _
    |succ k=>
     simp only[comb,List.mem_append,List.mem_map]at h;rcases h with⟨d,hd,rfl⟩|h
     ·exact(ih k d hd).cons_cons p
     ·exact(ih (k+1) c h).cons p
  exact nd.sublist (this k ps c h)
include h1 h2 nd in
theorem Jt:(G.at L).ft [] [] 0=0↔∃c∈rh G.b.toNat ps,(G.at L).ft (sortI c) [] 1=0:=by
 have hA:=hG.at hL;have p0:eO (G.at L).many [] []:=fV _;rw[yv hA p0 (yy h1 h2)];constructor
 ·rintro⟨c,hc,wc⟩
  have hl:=lG hA hc;rw[if_pos rfl]at hl;have cnt:=count_le hG hL nd B5 (c:=c);obtain⟨d,hd,jW⟩:=Bm (k:=G.b.toNat) (ps:=ps) (A:=c) (aB cnt hl);have pd:=(pD hG hL B5 (nW hd).1 (nu hG hL B5 nd hd)).1;refine⟨d,hd,qi hA hA rfl rfl rfl _ _ _ _ _ 1 (gT p0 hc) pd ?_ (.inr rfl) (au _) wc⟩;intro l g9 GX;refine⟨l,g9,(λp hp z=>by cases z),λp hp hm=>⟨hp,λz=>?_⟩⟩
  rw[Gr]at z;rcases List.mem_append.mp (cT.mp z)with u|u
  ·cases u
  ·exact hm (cT.mpr (jW p ((B5 p).mpr ⟨l,g9,hp⟩) u))
 ·rintro⟨d,hd,wd⟩
  have pd:=(pD hG hL B5 (nW hd).1 (nu hG hL B5 nd hd)).1;obtain⟨c,hc,jW⟩:=ij (G:=G.at L) (m:=[]) (y:=[]) (A:=d) (w:=0) (by rw[if_pos rfl];exact(nW hd).2.1)
  refine⟨c,hc,qi hA hA rfl rfl rfl _ _ _ _ _ 1 pd (gT p0 hc) ?_ (.inr rfl) (au _) wd⟩;intro l g9 GX;refine⟨l,g9,(λp hp z=>by cases z),λp hp hm=>⟨hp,λz=>?_⟩⟩
  refine hm ?_;rw[Gr];exact cT.mpr (aL _ (jW p (dX.mpr ⟨hL.li l g9 p hp,by simp,by simp⟩) (cT.mp z)))
include h1 h2 nd in
theorem Ju:(G.at L).ft [] [] 1=1↔∃c∈rh G.g.toNat ps,(∀l∈L,l.length<=G.b.toNat->∃p∈l,p∈c)/\(G.at L).ft [] (sortI c) 0=1:=by
 have hA:=hG.at hL;have p0:eO (G.at L).many [] []:=fV _;have w1:(G.at L).ft [] [] 1=1↔∃c∈(G.at L).jd [] [] 1,(G.at L).ft (fA [] [] 1 c).1 (fA [] [] 1 c).2 0=1:=by
  have e:=yw hA p0 (yy h1 h2);constructor
  ·intro z;apply bU
   intro n;have:(G.at L).ft [] [] 1=0:=e.mpr λc hc=>by
    rcases mV (w:=0) hA (gT p0 hc) (.inl rfl)with u|u
    ·exact u
    ·exact absurd ⟨c,hc,u⟩ n
   omega
  ·rintro⟨c,hc,u⟩
   rcases mV (w:=1) hA p0 (.inr rfl)with z|z
   ·have:=e.mp z c hc;omega
   ·exact z
 rw[w1];constructor
 ·rintro⟨c,hc,wc⟩
  have hl:=lG hA hc;rw[if_neg (by omega)]at hl
  have cnt:=count_le hG hL nd B5 (c:=c);obtain⟨d,hd,jW⟩:=Bm (k:=G.g.toNat) (ps:=ps) (A:=c) (aB cnt hl);have pd:=(pD hG hL B5 (nW hd).1 (nu hG hL B5 nd hd)).2;have wd:(G.at L).ft [] (sortI d) 0=1:=by
   rcases mV (w:=0) hA pd (.inl rfl)with u|u
   ·exfalso;have:=qi hA hA rfl rfl rfl _ _ _ _ _ 0 pd (gT p0 hc) (λl g9 GX=>⟨l,g9,λp hp z=>by
     rw[Gs]at z;rcases List.mem_append.mp (cT.mp z)with v|v
     ·cases v
     ·exact GX p hp (cT.mpr (jW p ((B5 p).mpr ⟨l,g9,hp⟩) v)),λp hp _=>⟨hp,by simp⟩⟩) (.inl rfl) (au _) u
    omega
   ·exact u
  refine⟨d,hd,λl g9 hb=>?_,wd⟩
  apply bU
  intro n;have:=quick hA pd g9 (λp hp z=>n ⟨p,hp,cT.mp z⟩) hb
  omega
 ·rintro⟨d,hd,_,wd⟩
  have pd:=(pD hG hL B5 (nW hd).1 (nu hG hL B5 nd hd)).2;obtain⟨c,hc,jW⟩:=ij (G:=G.at L) (m:=[]) (y:=[]) (A:=d) (w:=1) (by rw[if_neg (by omega)];exact(nW hd).2.1)
  refine⟨c,hc,?_⟩;rcases mV (w:=0) hA (gT p0 hc) (.inl rfl)with u|u
  ·exfalso;have:=qi hA hA rfl rfl rfl _ _ _ _ _ 0 (gT p0 hc) pd (λl g9 GX=>⟨l,g9,λp hp z=>by
    refine GX p hp ?_;rw[Gs];exact cT.mpr (aL _ (jW p (dX.mpr ⟨hL.li l g9 p hp,bH,bH⟩) (cT.mp z))),λp hp _=>⟨hp,by rw[Gs];exact bH⟩⟩) (.inl rfl) (au _) u
   omega
  ·exact u
end
theorem Gu {G:Gm}(hG:G.Ok) {L L':cm}(hL:LQ G L) (Th:LQ G L') {m y:cn}{w:Int}(h:eO G.many m y) (hw:w=0\/w=1)
  (d:∀l∈L,(∀p∈l,p∉y)->∃l'∈L',∀p∈l',p∈l/\p∉m) (d':∀l'∈L',∃l∈L,(∀p∈l,p∉y)/\∀p∈l,p∉m->p∈l'):
  (G.at L).ft m y w=(G.at L').ft [] [] w:=
 Pr (hG.at hL) (hG.at Th) rfl rfl rfl h (fV _) hw
  (λl hl ho=>(d l hl ho).imp λl' q=>⟨q.1,(λp _ z=>by cases z),λp hp _=>q.2 p hp⟩)
  (λl' g9 _=>(d' l' g9).imp λl q=>⟨q.1,q.2.1,λp hp hm=>⟨q.2.2 p hp hm,by simp⟩⟩)
end GP
namespace GP
open PySem DL
noncomputable def qH (m l:cn):cn:=l.filter λp=> !decide (p∈m)
noncomputable def fc (L:cm) (m y:cn):cm:=(L.filter λl=> !iZ y l).map (qH m)
noncomputable def nX (l:cn) (ls:cm):Bool:=ls.any λo=>(!decide (o=l))&&gW l o
noncomputable def mW (ls:cm):cm:=ls.filter λl=> !nX l ls
noncomputable def gB (L:cm) (m y:cn):cm:=mW (fQ (fc L m y).eraseDups)
theorem ff {m l:cn}{p:Int}:p∈qH m l↔p∈l/\p∉m:=by
 unfold qH;rw[List.mem_filter];simp
theorem nY {m l:cn}(h:fm l):fm (qH m l):=List.Pairwise.filter _ h
theorem Bn {y l:cn}:iZ y l=false↔∀p∈l,p∉y:=by
 unfold iZ;rw[List.any_eq_false];simp
theorem ET {m l:cn}:gW m l=true↔∀p∈l,p∈m:=by
 unfold gW;rw[List.all_eq_true];simp
theorem fq {L:cm}{m y f:cn}:f∈fc L m y↔∃l∈L,(∀p∈l,p∉y)/\f=qH m l:=by
 unfold fc;rw[List.mem_map];constructor
 ·rintro⟨l,hl,rfl⟩
  obtain⟨h1,h2⟩:=List.mem_filter.mp hl;exact⟨l,h1,Bn.mp (by simpa using h2),rfl⟩
 ·rintro⟨l,hl,hy,rfl⟩
  exact⟨l,List.mem_filter.mpr ⟨hl,by rw[Bn.mpr hy];rfl⟩,rfl⟩
theorem DG {l:cn}{ls:cm}:nX l ls=false↔∀o∈ls,(∀p∈o,p∈l)->o=l:=by
 unfold nX;rw[List.any_eq_false];constructor
 ·intro h o ho hs;have:=h o ho;rw[ET.mpr hs]at this
  simpa using this
 ·intro h o ho;by_cases hs:∀p∈o,p∈l
  ·simp[h o ho hs]
  ·have:gW l o=false:=by
    cases q:gW l o with
    |false=>rfl
    |true=>exact absurd (ET.mp q) hs
   simp[this]
theorem Bo {ls:cm}{f:cn}:f∈fQ ls.eraseDups↔f∈ls:=(eA _).mem_iff.trans List.mem_eraseDups
theorem gI {L:cm}{m y f:cn}:f∈gB L m y↔f∈fc L m y/\∀o∈fc L m y,(∀p∈o,p∈f)->o=f:=by
 unfold gB mW;rw[List.mem_filter,Bo];constructor
 ·rintro⟨h1,h2⟩
  exact⟨h1,λo ho=>DG.mp (by simpa using h2) o (Bo.mpr ho)⟩
 ·rintro⟨h1,h2⟩
  exact⟨h1,by rw[DG.mpr λo ho=>h2 o (Bo.mp ho)];rfl⟩
theorem jc {α:Type} [BEq α] [LawfulBEq α]:∀(n:Nat) (l:List α),l.length<=n->l.eraseDups.Nodup
 |_,[],_=>by simp
 |0,_::_,h=>by simp at h
 |n+1,a::l,h=>by
  rw[List.eraseDups_cons,List.nodup_cons];refine⟨λz=>?_,jc n _ (aB (aW _ _) (by simpa using h))⟩
  have:=(List.mem_filter.mp (List.mem_eraseDups.mp z)).2;simp at this
theorem Bp (L:cm) (m y:cn):(gB L m y).Pairwise (λa b=>HT.lexLt a b=true):=List.Pairwise.filter _ (LW.wg (jc _ _ (au _)))
theorem LR (a:cn):HT.lexLt a a=false:=by
 induction a with
 |nil=>rfl
 |cons x r ih=>rw[HT.jb];simp[ih]
theorem yz {l:cm}(h:l.Pairwise λa b=>HT.lexLt a b=true):l.Nodup:=h.imp λ{a b} h z=>by subst z;rw[LR]at h;cases h
theorem lex_asymm:∀{a b:cn},HT.lexLt a b=true->HT.lexLt b a=false
 |[],[],h=>by cases h
 |[],_::_,_=>rfl
 |_::_,[],h=>by cases h
 |x::a,y::b,h=>by
  rw[HT.jb]at h ⊢;by_cases e:x=y
  ·rw[if_pos e]at h;rw[if_pos e.symm];exact lex_asymm h
  ·rw[if_neg e]at h;rw[if_neg (Ne.symm e)];have:=bK h;exact aG (by omega)
theorem LS {l k:cm}(h1:l.Pairwise λa b=>HT.lexLt a b=true) (h2:k.Pairwise λa b=>HT.lexLt a b=true) (h:∀a,a∈l↔a∈k):l=k:=
 fB (R:=λa b=>HT.lexLt b a=false) (λa b x y=>HT.gc y x) ((List.perm_ext_iff_of_nodup (yz h1) (yz h2)).mpr h) (h1.imp λh=>lex_asymm h) (h2.imp λh=>lex_asymm h)
theorem Bq {a b:cn}(ra:fm a) (rb:fm b) (s:∀p∈a,p∈b) (ne:a≠b):a.length<b.length:=by
 have e:a=b.filter λp=>decide (p∈a):=nr ra (List.Pairwise.filter _ rb) λp=>by
  rw[List.mem_filter];exact⟨λh=>⟨s p h,aR h⟩,λh=>bK h.2⟩
 have le:(b.filter λp=>decide (p∈a)).length<=b.length:=aW _ _
 rcases Nat.lt_or_ge a.length b.length with h|h
 ·exact h
 ·have h2:(b.filter λp=>decide (p∈a)).length=b.length:=by rw[<-e]at le ⊢;omega
  have h3:=List.length_filter_eq_length_iff.mp h2;exact absurd (nr ra rb λp=>⟨s p,λhp=>bK (h3 p hp)⟩) ne
theorem nv {L:cm}{m y f:cn}(hL:∀l∈L,fm l) (h:f∈fc L m y):fm f:=by
 obtain⟨l,hl,_,rfl⟩:=fq.mp h;exact nY (hL l hl)
theorem nZ {L:cm}{m y:cn}(hL:∀l∈L,fm l):∀(n:Nat) (f:cn),f.length<=n->f∈fc L m y->∃k∈gB L m y,∀p∈k,p∈f
 |n,f,hn,hf=>by
  by_cases h:∀o∈fc L m y,(∀p∈o,p∈f)->o=f
  ·exact⟨f,gI.mpr ⟨hf,h⟩,λp hp=>hp⟩
  ·have:∃o∈fc L m y,(∀p∈o,p∈f)/\o≠f:=by
    refine bU λz=>h λo ho hs=>?_
    exact bU λz2=>z ⟨o,ho,hs,z2⟩
   obtain⟨o,ho,hs,ne⟩:=this;have lt:=Bq (nv hL ho) (nv hL hf) hs ne;cases n with
   |zero=>omega
   |succ n=>
    obtain⟨k,hk,Xe⟩:=nZ hL n o (by omega) ho
    exact⟨k,hk,λp hp=>hs p (Xe p hp)⟩
theorem Gv {L:cm}{m y:cn}(hL:∀l∈L,fm l):∀l∈gB L m y,fm l:=λl hl=>nv hL (gI.mp hl).1
theorem Br {G:Gm}{L:cm}{m y:cn}(hL:LQ G L):LQ G (gB L m y):=by
 constructor
 ·intro l hl p hp;obtain⟨k,hk,_,rfl⟩:=fq.mp (gI.mp hl).1;exact hL.li k hk p (ff.mp hp).1
 ·intro l hl;obtain⟨k,hk,_,rfl⟩:=fq.mp (gI.mp hl).1;exact Nat.lt_of_le_of_lt (aW _ _) (hL.ll k hk)
theorem wy {G:Gm}(hG:G.Ok) {L:cm}(hL:LQ G L) (hr:∀l∈L,fm l) {m y:cn}{w:Int}(h:eO G.many m y) (hw:w=0\/w=1):(G.at L).ft m y w=(G.at (gB L m y)).ft [] [] w:=by
 refine Gu hG hL (Br hL) h hw (λl hl hy=>?_) λl' g9=>?_
 ·obtain⟨k,hk,hs⟩:=nZ (m:=m) (y:=y) hr _ _ (au _) (fq.mpr ⟨l,hl,hy,rfl⟩);exact⟨k,hk,λp hp=>ff.mp (hs p hp)⟩
 ·obtain⟨l,hl,hy,rfl⟩:=fq.mp (gI.mp g9).1;exact⟨l,hl,hy,λp hp hm=>ff.mpr ⟨hp,hm⟩⟩
theorem yA {L:cm}(hr:∀l∈L,fm l) {m y m' y' M Y:cn}(hM:∀p,p∈M↔p∈m\/p∈m') (hY:∀p,p∈Y↔p∈y\/p∈y') (hd:∀p∈y',p∉m):gB (gB L m y) m' y'=gB L M Y:=by
 have ba:∀b∈fc (gB L m y) m' y',b∈fc L M Y:=λb hb=>by
  obtain⟨k,hk,Sq,rfl⟩:=fq.mp hb;obtain⟨l,hl,Tr,rfl⟩:=fq.mp (gI.mp hk).1;refine fq.mpr ⟨l,hl,λp hp z=>?_,?_⟩
  ·rcases(hY p).mp z with z|z
   ·exact Tr p hp z
   ·exact Sq p (ff.mpr ⟨hp,hd p z⟩) z
  ·refine nr (nY (nY (hr l hl))) (nY (hr l hl)) λp=>?_
   rw[ff,ff,ff,hM];constructor
   ·rintro⟨⟨h1,h2⟩,h3⟩;exact⟨h1,λz=>z.elim h2 h3⟩
   ·rintro⟨h1,h2⟩;exact⟨⟨h1,λz=>h2 (.inl z)⟩,λz=>h2 (.inr z)⟩
 have ab:∀a∈fc L M Y,∃b∈fc (gB L m y) m' y',∀p∈b,p∈a:=λa ha=>by
  obtain⟨l,hl,Tr,rfl⟩:=fq.mp ha;obtain⟨k,hk,hs⟩:=nZ (m:=m) (y:=y) hr _ _ (au _) (fq.mpr ⟨l,hl,λp hp z=>Tr p hp ((hY p).mpr (.inl z)),rfl⟩)
  refine⟨qH m' k,fq.mpr ⟨k,hk,λp hp z=>Tr p (ff.mp (hs p hp)).1 ((hY p).mpr (.inr z)),rfl⟩,λp hp=>?_⟩
  obtain⟨h1,h2⟩:=ff.mp hp;obtain⟨h3,h4⟩:=ff.mp (hs p h1);exact ff.mpr ⟨h3,λz=>((hM p).mp z).elim h4 h2⟩
 refine LS (Bp _ _ _) (Bp _ _ _) λf=>?_
 rw[gI,gI];constructor
 ·rintro⟨h1,h2⟩
  refine⟨ba f h1,λo ho hs=>?_⟩
  obtain⟨b,hb,Xf⟩:=ab o ho;have e:=h2 b hb λp hp=>hs p (Xf p hp)
  subst e;exact nr (nv hr ho) (nv hr (ba b h1)) λp=>⟨hs p,Xf p⟩
 ·rintro⟨h1,h2⟩
  obtain⟨b,hb,Zs⟩:=ab f h1;have e:=h2 b (ba b hb) Zs;subst e;exact⟨hb,λo ho hs=>h2 o (ba o ho) hs⟩
def Jv (G:Gm) (L:cm):Prop:=∃m y,eO G.many m y/\L=gB G.ls m y
noncomputable def uK (L:cm) (w:Int):D:=.tup [.tup (L.map tupI),.int w]
noncomputable def wz:D->Option (cm×Int)
 |.tup [.tup a,.int w]=>(linesOf a).map λL=>(L,w)
 |_=>none
theorem wA (L:cm) (w:Int):wz (uK L w)=some (L,w):=by
 show(linesOf (L.map tupI)).map _=_;rw[pA];rfl
theorem wB:∀{ds:cu}{ls:cm},linesOf ds=some ls->ds=ls.map tupI
 |[],_,h=>by cases h;rfl
 |.tup a::r,ls,h=>by
  unfold linesOf at h;cases h1:intsOf a with
  |none=>rw[h1]at h;cases h
  |some l=>
   cases h2:linesOf r with
   |none=>rw[h1,h2]at h;cases h
   |some ls'=>rw[h1,h2]at h;cases h;rw[wB h2,iz h1];rfl
theorem Gw {k:D}{L:cm}{w:Int}(h:wz k=some (L,w)):k=uK L w:=by
 unfold wz at h;split at h
 ·rename_i a w';cases h1:linesOf a with
  |none=>rw[h1]at h;cases h
  |some ls=>rw[h1]at h;cases h;rw[wB h1];rfl
 ·cases h
open Classical in
noncomputable def Gm.WS (G:Gm) (k:D):Option D:=match wz k with
 |some (L,w)=>if Jv G L/\(w=0\/w=1)then some (.int ((G.at L).ft [] [] w))else none
 |none=>none
theorem u6 {G:Gm}{k d:D}(h:G.WS k=some d):∃L w,k=uK L w/\Jv G L/\(w=0\/w=1)/\d=.int ((G.at L).ft [] [] w):=by
 unfold Gm.WS at h;split at h
 ·rename_i L w e;split at h
  ·rename_i hh;cases h;exact⟨L,w,Gw e,hh.1,hh.2,rfl⟩
  ·cases h
 ·cases h
theorem Jw {G:Gm}{L:cm}{w:Int}(h:Jv G L) (hw:w=0\/w=1):G.WS (uK L w)=some (.int ((G.at L).ft [] [] w)):=by
 unfold Gm.WS;rw[wA];simp only;rw[if_pos ⟨h,hw⟩]
open Classical in
noncomputable def posOf (G:Gm) (L:cm):cn×cn:=if h:Jv G L then(h.choose,h.choose_spec.choose)else([],[])
theorem pE {G:Gm}{L:cm}(h:Jv G L):eO G.many (posOf G L).1 (posOf G L).2/\L=gB G.ls (posOf G L).1 (posOf G L).2:=by
 unfold posOf;rw[dif_pos h];exact h.choose_spec.choose_spec
noncomputable def Pu (G:Gm) (k:D):Nat:=match wz k with|some (L,w)=>DE (DD (posOf G L).1 (posOf G L).2 w)|none=>0
theorem wC (G:Gm) (L:cm) (w:Int):Pu G (uK L w)=DE (DD (posOf G L).1 (posOf G L).2 w):=by unfold Pu;rw[wA]
theorem EU (L:cm) (w:Int):o4 (uK L w)=true/\dU (uK L w)<=4:=by
 have kl:∀L:cm,nc (L.map tupI)=true:=λL=>by
  induction L with
  |nil=>unfold nc;rfl
  |cons l r ih=>
   show nc (tupI l::r.map tupI)=true;unfold nc;rw[ih];have:o4 (tupI l)=true:=by unfold tupI o4;exact wq l
   rw[this];rfl
 constructor
 ·unfold uK;simp[o4,nc,kl]
 ·have:=LW.nq L;unfold uK;simp only[dU,gZ];omega
noncomputable def Jx (G:Gm) (hG:G.Ok):jQ:=⟨G.WS,Pu G,524288,by decide,λk d h=>by
  obtain⟨L,w,rfl,hs,hw,_⟩:=u6 h;rw[wC];exact Vi _ _ (Jo (pE hs).1 hw),λk k' d d' h h' e=>by
  obtain⟨L,w,rfl,hs,hw,_⟩:=u6 h;obtain⟨L',w',rfl,Hx,LM,_⟩:=u6 h';rw[wC,wC]at e;have:=Sn hG _ _ _ _ (Jo (pE hs).1 hw) (Jo (pE Hx).1 LM) e;have e2:=congrArg yu this;rw[qg,qg]at e2;injection e2 with e3
  injection e3 with e4 e5
  injection e5 with e6 e7
  rw[(pE hs).2,(pE Hx).2,e4,e6,e7],λk d h=>by
  obtain⟨L,w,rfl,_⟩:=u6 h;exact EU L w⟩
open Classical in
noncomputable def Jy (d:D):jQ:=match Jp d with
 |some G=>if h:G.Ok then Jx G h else Bk
 |none=>Bk
theorem DH {G:Gm}(hG:G.Ok) (f:Int):Jy (di G.many G.ls f G.b G.g)=Jx G hG:=by
 unfold Jy;rw[zK];simp only;rw[dif_pos hG]
end GP
namespace PC
open PySem DL LW
noncomputable def pF:bZ:=
  (eQ (cO HW (aY (dL (eh (iT (cP 1)) 2 jO (dt CO (de 2) (de 0)))) cL)))
noncomputable def wD:bZ:=
  pF
noncomputable def ny:cf:=gY 3 2 wD
noncomputable def n4:bZ:=
  (eQ (cO FT (aY (dL (eh (iT (cP 1)) 2 jO (dt CO (de 2) (de 0)))) cL)))
noncomputable def uj:bZ:=
  n4
noncomputable def ik:cf:=gY 3 2 uj
noncomputable def xB:bZ:=
  (eQ (Ri (qB (dt qA (de 1) (dC (.int 0)))) (dt i8 (de 0) (dC (.int 2))) (dt i8 (de 0) (dC (.int 3)))))
noncomputable def sv:bZ:=
  xB
noncomputable def dZ:cf:=gY 2 2 sv
noncomputable def Bs (dk:cf):bZ:=
  (eQ (eE (aY (cP 0) cL)))
noncomputable def kK (dk:cf):bZ:=
  (p6 (qB (dt Uh (de 1) (cO nL (aY (de 0) cL)))) (Bs dk) kE)
noncomputable def Bu (dk:cf):bZ:=
  (eQ (eE (aY (eE cL) cL)))
noncomputable def pG (dk:cf):bZ:=
  (p6 (qB (dt qA (de 1) (dC (.int 0)))) (Bu dk) kE)
noncomputable def uk (dk:cf):bZ:=
  (gp 2 (jS cL))
noncomputable def pH (dk:cf):bZ:=
  (sZ 2 (dt mv (eE (aY (dt i8 (de 0) (de 3)) cL)) (de 4)))
noncomputable def jA (dk:cf):bZ:=
  (pH dk)
noncomputable def pI (dk:cf):bZ:=
  (oH 4 (iT (cO dk (aY (AM (de 0) (xq (dt jN (de 3) (dC (.int 1)))) K7) (aY (dt qS (de 1) (dC (.int 1))) cL)))) (jA dk))
noncomputable def jB (dk:cf):bZ:=
  (pI dk)
noncomputable def pJ (dk:cf):bZ:=
  (oH 3 (ya (aY (dt jN (dt qS (cO nL (aY (de 0) cL)) (de 1)) (dC (.int 1))) cL)) (jB dk))
noncomputable def Bv (dk:cf):bZ:=
  (eQ (cO hJ (aY (de 2) cL)))
noncomputable def mh (dk:cf):bZ:=
  (ei (kK dk)
  (ei (pG dk)
  (ei (uk dk)
  (ei (pJ dk)
  (Bv dk)))))
noncomputable def fi:Nat->cf
 |0=>λ_=>none
 |n+1=>gY 5 2 (mh (fi n))
noncomputable def DI:bZ:=
  (eQ (eE (aY (cO hJ (aY (dL (fj kJ (aY (dt mv (de 0) (de 3)) cL))) cL)) (aY (cP 1) cL))))
noncomputable def DJ:bZ:=
  (p6 (qB (dt qA (de 2) (dC (.int 0)))) DI kE)
noncomputable def DK:bZ:=
  (eQ (eE (aY (cP 0) (aY (cO hJ (aY (dL (fj kJ (aY (dt mv (de 1) (de 3)) cL))) cL)) cL))))
noncomputable def yB:bZ:=
  (ei DJ
  DK)
noncomputable def pK:cf:=gY 4 4 yB
noncomputable def n5:bZ:=
  (eQ (eE (aY (cO hJ (aY (dL (fj kJ (aY (dt mv (de 0) (de 3)) cL))) cL)) (aY (cP 1) cL))))
noncomputable def n6:bZ:=
  (p6 (qB (dt qA (de 2) (dC (.int 0)))) n5 kE)
noncomputable def sA:bZ:=
  (eQ (eE (aY (cP 0) (aY (cO hJ (aY (dL (fj kJ (aY (dt mv (de 1) (de 3)) cL))) cL)) cL))))
noncomputable def mH:bZ:=
  (ei n6
  sA)
noncomputable def DM:cf:=gY 4 4 mH
end PC
namespace PC
open PySem DL GP
open LW (cX dw dE)
open L2 (kD rq)
theorem Sr {m y c:cn}{w:Int}(h1:m.length+c.length<64) (h2:y.length+c.length<64):
  DM [tupI m,tupI y,.int w,tupI c]=some (.tup [tupI (fA m y w c).1,tupI (fA m y w c).2]):=by
 refine LW.eF rfl ?_;show mH [cH m,cH y,cG w,cH c]=_;have k1:=sq (ns:=m++c) (by simpa using h1)
 have k2:=sq (ns:=y++c) (by simpa using h2)
 unfold fA;have j1:=yr h1;have j2:=yr h2;by_cases h:w=0
 ·subst h;simp[mH,n5,n6,ei,p6,eQ,qB,dt,de,dC,qA,dU,dN,eE,aY,cL,cP,cO,dL,fj,j1,k1,hJ];rfl
 ·have hw:(w==0)=false:=by simpa using h
  simp[mH,n5,n6,sA,ei,p6,kE,hw,eQ,qB,dt,de,dC,qA,dU,dN,eE,aY,cL,cP,cO,dL,fj,j2,k2,hJ,h];rfl
end PC
namespace PC
open PySem DL GP
open LW (cX dw dE)
open L2 (kD rq)
end PC
namespace PC
open PySem DL GP
open LW (cX dw dE)
open L2 (kD rq)
end PC
namespace PC
open PySem DL GP
open LW (cX dw dE)
open L2 (kD rq)
theorem jC {α:Type}{j:Nat}{f:cb}{δ:dM}{φ ψ:α->D}:∀(l:List α),(∀a∈l,f (δ.set j (.dat (φ a)))=some (ψ a))->kF j jO f δ (l.map φ)=some (l.map ψ)
 |[],_=>rfl
 |a::l,h=>by
  rw[aE];unfold kF;have e:jO (δ.set j (.dat (φ a)))=some true:=rfl;simp only[e,h a af,ao,jC l λx hx=>h x (ai _ hx),bA,aE]
theorem jD {F:cf}{f:bY}{δ:dM}{ds:cu}(h:f δ=some ds):cO F (aY (dL f) cL) δ=F [.lst ds]:=by
 simp only[cO,aY,dL,cL,h,bA,ao]
theorem kW {o:D->D->Option D}{f g:cb}{δ:dM}{x y:D}(hf:f δ=some x) (hg:g δ=some y):dt o f g δ=o x y:=by
 unfold dt;rw[hf,hg];rfl
theorem iX {f:cb}{δ:dM}{x:D}(hf:f δ=some x):aY f cL δ=some [x]:=by
 unfold aY cL;rw[hf];rfl
theorem je {f:cb}{g:bY}{δ:dM}{x:D}{r:cu}(hf:f δ=some x) (hg:g δ=some r):aY f g δ=some (x::r):=by
 unfold aY;rw[hf,hg];rfl
theorem dz {F:cf}{f:bY}{δ:dM}{ds:cu}(hf:f δ=some ds):cO F f δ=F ds:=by
 unfold cO;rw[hf];rfl
theorem gh {f:cb}{δ:dM}{d:D}(hf:f δ=some d):eQ f δ=some (.ret d):=by
 unfold eQ;rw[hf];rfl
theorem lB {i:Nat}{f:cb}{δ:dM}{d:D}(hf:f δ=some d):lu i f δ=some (.next (δ.set i (.dat d))):=by
 unfold lu;rw[hf];rfl
theorem yC {q:cc}{f g:bZ}{δ:dM}(h:q δ=some true):p6 q f g δ=f δ:=by unfold p6;rw[h]
theorem mi {q:cc}{f g:bZ}{δ:dM}(h:q δ=some false):p6 q f g δ=g δ:=by unfold p6;rw[h]
theorem sC {q:cc}{δ:dM}{b:Bool}(h:q δ=some b):sY q δ=some (!b):=by unfold sY;rw[h];rfl
theorem mj {f g:bZ}{δ:dM}{d:D}(h:f δ=some (.ret d)):ei f g δ=some (.ret d):=by unfold ei;rw[h]
theorem gX {f:cb}{δ:dM}{b:Bool}(h:f δ=some (.bl b)):qB f δ=some b:=by
 unfold qB;rw[h]
theorem Bw {α:Type}(l:List α) (q:α->Bool):FT [.lst (l.map λx=>D.bl (q x))]=some (.bl (l.any q)):=by
 have:m7 (l.map λx=>D.bl (q x))=some (l.map q):=by
  induction l with
  |nil=>rfl
  |cons a l ih=>simp[m7,ih]
 simp[FT,this,List.any_map]
theorem EV (i:Int) (m:cn):CO (.int i) (tupI m)=some (.bl (decide (i∈m))):=LO i m
theorem Gx {m l:cn}(hl:l.length<1000000):ny [tupI m,tupI l]=some (.bl (gW m l)):=by
 refine LW.eF rfl ?_;show pF [cH m,cH l,.no]=_;have key:kF 2 jO (dt CO (de 2) (de 0)) [cH m,cH l,.no] (l.map D.int)=some (l.map λi=>D.bl (decide (i∈m))):=jC l λi _=>EV i m
 have g9:(l.map D.int).length<1000000:=by simpa using hl
 have e:eh (iT (cP 1)) 2 jO (dt CO (de 2) (de 0)) [cH m,cH l,.no]=some (l.map λi=>D.bl (decide (i∈m))):=by
  show(if(l.map D.int).length<1000000 then _ else _)=_
  rw[if_pos g9,key]
 unfold pF eQ cO aY dL;rw[e];simp only[bA,ao,cL];rw[LW.Be l (λi=>decide (i∈m))]
 rfl
theorem wF {m l:cn}(hl:l.length<1000000):ik [tupI m,tupI l]=some (.bl (iZ m l)):=by
 refine LW.eF rfl ?_;show n4 [cH m,cH l,.no]=_;have key:kF 2 jO (dt CO (de 2) (de 0)) [cH m,cH l,.no] (l.map D.int)=some (l.map λi=>D.bl (decide (i∈m))):=jC l λi _=>EV i m
 have g9:(l.map D.int).length<1000000:=by simpa using hl
 have e:eh (iT (cP 1)) 2 jO (dt CO (de 2) (de 0)) [cH m,cH l,.no]=some (l.map λi=>D.bl (decide (i∈m))):=by
  show(if(l.map D.int).length<1000000 then _ else _)=_
  rw[if_pos g9,key]
 unfold n4 eQ cO aY dL;rw[e];simp only[bA,ao,cL];rw[Bw l (λi=>decide (i∈m))]
 rfl
theorem Ss {many:Int}{ls:cm}{f b g w:Int}(hw:w=0\/w=1):dZ [di many ls f b g,.int w]=some (.int (if w=0 then b else g)):=by
 rcases hw with rfl|rfl<;>rfl
theorem Jz {m y c:cn}{w:Int}(h1:m.length+c.length<64) (h2:y.length+c.length<64):
  pK [tupI m,tupI y,.int w,tupI c]=some (.tup [tupI (fA m y w c).1,tupI (fA m y w c).2]):=Sr h1 h2
theorem EW {rc:cf}{ps:cn}{C:Sl}{k:Int}{p:Int}(hp:kD ps k=some p):∀(cs acc:cm) (x:Sl),(∀c∈cs,c.length<1000)->acc.length+cs.length<1000000->
  ∃x',jo 4 (jA rc) (cs.map tupI) [cH ps,C,.own (acc.map tupI),cG k,x]=some (.next [cH ps,C,.own ((acc++cs.map (p:: ·)).map tupI),cG k,x'])
 |[],acc,x,_,_=>⟨x,by simp[jo]⟩
 |c::cs,acc,x,hc,ha=>by
  simp only[ax]at ha;have hx:i8 (tupI ps) (.int k)=some (.int p):=by
   show kD (ps.map D.int) k=_;have:kD (ps.map D.int) k=(kD ps k).map D.int:=by
    unfold kD rq;simp only[ae];split
    ·split
     ·simp
     ·rfl
    ·split
     ·simp
     ·rfl
   rw[this,hp];rfl
  have e1:dt mv (eE (aY (dt i8 (de 0) (de 3)) cL)) (de 4) [cH ps,C,.own (acc.map tupI),cG k,cH c]=some (tupI (p::c)):=by
   have e0:eE (aY (dt i8 (de 0) (de 3)) cL) [cH ps,C,.own (acc.map tupI),cG k,cH c]=some (tupI [p]):=by
    have:dt i8 (de 0) (de 3) [cH ps,C,.own (acc.map tupI),cG k,cH c]=some (.int p):=hx;unfold eE aY;rw[this];rfl
   have:mv (tupI [p]) (tupI c)=some (tupI ([p]++c)):=by
    have h1:=hc c af;have:1+c.length<=1000000:=by omega
    simp[mv,tupI,this]
   exact(kW e0 rfl).trans this
  have e2:pH rc [cH ps,C,.own (acc.map tupI),cG k,cH c]=some (.next [cH ps,C,.own ((acc++[p::c]).map tupI),cG k,cH c]):=by
   unfold pH sZ;have hl:(acc.map tupI).length<1000000:=by rw[ae];omega
   simp only[aK,aM];rw[e1];simp only[ao,if_pos hl,List.set_cons_succ,List.set_cons_zero,List.map_append,aE,List.map_nil]
  obtain⟨x',ih⟩:=EW (rc:=rc) (C:=C) hp cs (acc++[p::c]) (cH c) (λd hd=>hc d (ai _ hd)) (by rw[aQ];simp;omega)
  refine⟨x',?_⟩;simp only[aE,jo,List.set_cons_succ,List.set_cons_zero];unfold jA at ih ⊢;rw[e2];simp only;rw[ih];simp
theorem JA (ps:cn) (k:Nat) (h:k<ps.length):cutD (ps.map D.int) (some ((k:Int)+1)) none=(ps.drop (k+1)).map D.int:=by
 unfold cutD;have e1:HT.g0 (ps.map D.int).length 0 (some ((k:Int)+1))=k+1:=by
  unfold HT.g0;simp only[ae];split<;>omega
 have e2:HT.g0 (ps.map D.int).length (ps.map D.int).length none=ps.length:=by simp[HT.g0]
 rw[e1,e2,List.take_of_length_le (by simp),List.map_drop]
end PC
namespace PC
open PySem DL GP
open LW (cX dw dE)
open L2 (kD rq)
theorem sD:∀(n:Nat) (lo:Int),dF lo n=(List.range n).map λ(k:Nat)=>lo+(k:Int)
 |0,_=>rfl
 |n+1,lo=>by
  rw[List.range_succ_eq_map,aE,aV];show lo::dF (lo+1) n=_;rw[sD n (lo+1)];simp only[Int.ofNat_zero,Int.add_zero,List.cons.injEq];refine⟨by simp,bS λk _=>?_⟩
  simp only[Function.comp];omega
theorem Bx {rc:cf}{ps:cn}{c:Nat}(hz:ps.length<=12):∀(ks:List Nat) (acc:cm) (x3 x4:Sl),
  (∀k∈ks,k<ps.length/\rc [tupI (ps.drop (k+1)),.int (c:Int)]=some (.tup ((comb c (ps.drop (k+1))).map tupI)))->acc.length+ks.length*4096<1000000->
  ∃Zt Zu,jo 3 (jB rc) (ks.map λ(k:Nat)=>D.int (k:Int)) [cH ps,cG ((c:Int)+1),.own (acc.map tupI),x3,x4]=
   some (.next [cH ps,cG ((c:Int)+1),.own ((acc++ks.flatMap (wx c ps)).map tupI),Zt,Zu])
 |[],acc,x3,x4,_,_=>⟨x3,x4,by simp[jo]⟩
 |k::ks,acc,x3,x4,h,ha=>by
  obtain⟨hk,hr⟩:=h k af;simp only[ax]at ha;have hp:ps[k]? =some ps[k]:=ah hk;have Zv:kD ps (k:Int)=some ps[k]:=by rw[LW.EN ps k hk,hp]
  have hm:(comb c (ps.drop (k+1))).length<=4096:=by
   refine aB (qh c _) ?_;have:(ps.drop (k+1)).length<=12:=by rw[List.length_drop];omega
   exact aB (Nat.pow_le_pow_right (by omega) this) (by decide)
  have et:wx c ps k=(comb c (ps.drop (k+1))).map (ps[k]:: ·):=by unfold wx;rw[hp]
  obtain⟨x',e⟩:=EW (rc:=rc) (C:=cG ((c:Int)+1)) Zv (comb c (ps.drop (k+1))) acc x4 (λd hd=>by
   have h1:=(su c _ d hd).1;have h2:c<=(ps.drop (k+1)).length:=by
    rcases Nat.lt_or_ge (ps.drop (k+1)).length c with z|z
    ·rw[mf c _ z]at hd;cases hd
    ·exact z
   rw[List.length_drop]at h2;omega) (by omega)
  have e7:pI rc [cH ps,cG ((c:Int)+1),.own (acc.map tupI),cG (k:Int),x4]=some (.next [cH ps,cG ((c:Int)+1),.own ((acc++wx c ps k).map tupI),cG (k:Int),x']):=by
   have i1:AM (de 0) (xq (dt jN (de 3) (dC (.int 1)))) K7 [cH ps,cG ((c:Int)+1),.own (acc.map tupI),cG (k:Int),x4]=some (tupI (ps.drop (k+1))):=by
    show some (D.tup (cutD (ps.map D.int) (some ((k:Int)+1)) none))=_;rw[JA ps k hk];rfl
   have i2:dt qS (de 1) (dC (.int 1)) [cH ps,cG ((c:Int)+1),.own (acc.map tupI),cG (k:Int),x4]=some (.int (c:Int)):=by
    show some (D.int ((c:Int)+1-1))=_
    congr 2;omega
   have i3:iT (cO rc (aY (AM (de 0) (xq (dt jN (de 3) (dC (.int 1)))) K7) (aY (dt qS (de 1) (dC (.int 1))) cL))) [cH ps,cG ((c:Int)+1),.own (acc.map tupI),cG (k:Int),x4]=some ((comb c (ps.drop (k+1))).map tupI):=by
    unfold iT;rw[dz (je i1 (iX i2)),hr]
   unfold pI oH;rw[i3];show jo 4 (jA rc) _ _=_;rw[e,et]
  obtain⟨y3,y4,ih⟩:=Bx (rc:=rc) hz ks (acc++wx c ps k) (cG (k:Int)) x' (λj hj=>h j (ai _ hj)) (by rw[aQ,et,ae];omega)
  refine⟨y3,y4,?_⟩;simp only[aE,jo,List.set_cons_succ,List.set_cons_zero];unfold jB at ih ⊢;rw[e7];simp only;rw[ih];simp[List.append_assoc]
theorem yD:∀(n c:Nat) (ps:cn),c<n->ps.length<=12->fi n [tupI ps,.int (c:Int)]=some (.tup ((rh c ps).map tupI))
 |0,c,ps,h,_=>by omega
 |n+1,c,ps,h,hz=>by
  unfold fi;refine LW.eF rfl ?_;show mh (fi n) [cH ps,cG (c:Int),.no,.no,.no]=_;have q2:qB (dt Uh (de 1) (cO nL (aY (de 0) cL))) [cH ps,cG (c:Int),.no,.no,.no]=some (decide (ps.length<=c)):=by
   have:cO nL (aY (de 0) cL) [cH ps,cG (c:Int),.no,.no,.no]=some (.int (ps.length:Int)):=by
    show some (D.int ((ps.map D.int).length:Int))=_;rw[ae]
   refine gX ((kW rfl this).trans ?_);show some (D.bl (decide ((ps.length:Int)<=(c:Int))))=_
   congr 2
   exact decide_eq_decide.mpr (by omega)
  unfold mh;by_cases h1:ps.length<=c
  ·have e2:kK (fi n) [cH ps,cG (c:Int),.no,.no,.no]=some (.ret (.tup [tupI ps])):=by
    unfold kK;rw[yC (by rw[q2,aR h1])]
    rfl
   rw[mj e2];unfold rh;rw[if_pos h1];rfl
  ·have e2:kK (fi n) [cH ps,cG (c:Int),.no,.no,.no]=some (.next [cH ps,cG (c:Int),.no,.no,.no]):=by
    unfold kK;rw[mi (by rw[q2,aG h1])]
    rfl
   rw[LW.cR e2,Bl (by omega)]
   cases c with
   |zero=>cases ps<;>rfl
   |succ c=>
    have e4:pG (fi n) [cH ps,cG ((c+1:Nat):Int),.no,.no,.no]=some (.next [cH ps,cG ((c:Int)+1),.no,.no,.no]):=by
     unfold pG;have:qB (dt qA (de 1) (dC (.int 0))) [cH ps,cG ((c+1:Nat):Int),.no,.no,.no]=some false:=by
      refine gX ((kW rfl rfl).trans ?_);show qA (.int ((c+1:Nat):Int)) (.int 0)=_;have:dN (.int ((c+1:Nat):Int)) (.int 0)=false:=by
       simp[dN];omega
      unfold qA;rw[this];rfl
     rw[mi this];rfl
    have e5:uk (fi n) [cH ps,cG ((c:Int)+1),.no,.no,.no]=some (.next [cH ps,cG ((c:Int)+1),.own (([]:cm).map tupI),.no,.no]):=rfl;rw[LW.cR e4,LW.cR e5];obtain⟨x3,x4,e⟩:=Bx (rc:=fi n) (ps:=ps) (c:=c) hz (List.range (ps.length-c)) [] .no .no (λk hk=>by
     have:=List.mem_range.mp hk;refine⟨by omega,?_⟩
     rw[yD n c (ps.drop (k+1)) (by omega) (by rw[List.length_drop];omega),Bl (by rw[List.length_drop];omega)]) (by simp;omega)
    have it:ya (aY (dt jN (dt qS (cO nL (aY (de 0) cL)) (de 1)) (dC (.int 1))) cL) [cH ps,cG ((c:Int)+1),.own (([]:cm).map tupI),.no,.no]=some ((List.range (ps.length-c)).map λ(k:Nat)=>D.int (k:Int)):=by
     have:aY (dt jN (dt qS (cO nL (aY (de 0) cL)) (de 1)) (dC (.int 1))) cL [cH ps,cG ((c:Int)+1),.own (([]:cm).map tupI),.no,.no]=some [.int ((ps.length:Int)-((c:Int)+1)+1)]:=by
      show some [D.int (((ps.map D.int).length:Int)-((c:Int)+1)+1)]=_;rw[ae]
     unfold ya;rw[this];show(if _ then some ((dF 0 ((ps.length:Int)-((c:Int)+1)+1).toNat).map D.int)else none)=_
     rw[if_pos ⟨by omega,by omega⟩,show((ps.length:Int)-((c:Int)+1)+1).toNat=ps.length-c by omega,sD,aV]
     congr 1
     refine bS λk _=>?_
     simp
    have e8:pJ (fi n) [cH ps,cG ((c:Int)+1),.own (([]:cm).map tupI),.no,.no]=some (.next [cH ps,cG ((c:Int)+1),.own ((comb (c+1) ps).map tupI),x3,x4]):=by
     unfold pJ oH;rw[it];show jo 3 (jB (fi n)) _ _=_;rw[e,List.nil_append,yx]
    rw[LW.cR e8];rfl
end PC
namespace PW
open PySem DL
noncomputable def Ts:D->jQ:=λd=>GP.Jy d
end PW
namespace PW
open PySem DL GP PC
open LW (cX dw dE)
open L2 (kD rq)
noncomputable def wG:bZ:=
  (eQ (Ri (qB (dt qA (de 0) (dC (.int 0)))) (dC (.int 1)) (dC (.int 0))))
noncomputable def qI:bZ:=
  wG
noncomputable def gi:cf:=gY 1 1 qI
noncomputable def qJ:bZ:=
  (eQ (cO hJ (aY (dL (eh (iT (cP 0)) 2 (qB (dt qU (de 2) (de 1))) (cP 2))) cL)))
noncomputable def lC:bZ:=
  qJ
noncomputable def jf:cf:=gY 3 2 lC
noncomputable def oB:bZ:=
  (eQ (cO FT (aY (dL (eh (iS (cP 1)) 2 jO (FF (dt yc (de 2) (de 0)) (cO ny (aY (cP 0) (aY (cP 2) cL)))))) cL)))
noncomputable def jE:bZ:=
  oB
noncomputable def fC:cf:=gY 3 2 jE
noncomputable def wH:bZ:=
  (eQ (cO HW (aY (dL (eh (iL (de 1)) 2 jO (cO ik (aY (cP 0) (aY (cP 2) cL))))) cL)))
noncomputable def qj:bZ:=
  wH
noncomputable def pL:cf:=gY 3 2 qj
noncomputable def sE:bZ:=
  (u5 1 (cP 3))
noncomputable def fS:bZ:=
  sE
noncomputable def mI:bZ:=
  (oH 3 (iT (cP 2)) fS)
noncomputable def eS:bZ:=
  mI
noncomputable def jF:bZ:=
  (oH 2 (iT (cP 0)) eS)
noncomputable def mJ:bZ:=
  (eQ (cO hJ (aY (dL (qc 1)) cL)))
noncomputable def fT:bZ:=
  (ei jF
  mJ)
noncomputable def jY:bZ:=
  (u4 1 fT)
noncomputable def fY:cf:=gY 4 1 jY
noncomputable def pM:bZ:=
  (gp 3 (eh (iS (cP 0)) 5 (sY (qB (cO ik (aY (cP 2) (aY (cP 5) cL))))) (cO jf (aY (cP 5) (aY (cP 1) cL)))))
noncomputable def ml:bZ:=
  (gp 4 (pj (de 3)))
noncomputable def jG:bZ:=
  (eQ (cO hJ (aY (dL (eh (iL (de 4)) 5 (sY (qB (cO fC (aY (cP 5) (aY (cP 4) cL))))) (cP 5))) cL)))
noncomputable def ky:bZ:=
  (ei pM
  (qz 3 (ei ml
  (qz 4 jG))))
noncomputable def eW:cf:=gY 6 3 ky
noncomputable def jZ (G:D):bZ:=
  (lu 3 (cO (fi 5) (aY (cO fY (aY (cP 1) cL)) (aY (cO dZ (aY (ng G 0) (aY (cP 2) cL))) cL))))
noncomputable def tW (G:D):bZ:=
  (eQ (cP 3))
noncomputable def j0 (G:D):bZ:=
  (p6 (qB (dt qA (de 2) (dC (.int 0)))) (tW G) kE)
noncomputable def nz (G:D):bZ:=
  (gp 4 (eh (iT (cP 1)) 5 (qB (dt N9 (cO nL (aY (de 5) cL)) (cO dZ (aY (ng G 0) (aY (dC (.int 0)) cL))))) (cP 5)))
noncomputable def j3 (G:D):bZ:=
  (eQ (cO hJ (aY (dL (eh (iT (cP 3)) 6 (qB (cO pL (aY (cP 6) (aY (cP 4) cL)))) (cP 6))) cL)))
noncomputable def gJ (G:D):bZ:=
  (ei (jZ G)
  (ei (j0 G)
  (ei (nz G)
  (qz 4 (j3 G)))))
noncomputable def gx:cf:=nh 7 3 gJ
noncomputable def n8 (G:D) (dh:cf):bZ:=
  (lu 3 (cO AS (aY (dL (eh (iT (cP 1)) 6 jO (cO nL (aY (de 6) cL)))) cL)))
noncomputable def zL (G:D) (dh:cf):bZ:=
  (eQ (dC (.int 0)))
noncomputable def jH (G:D) (dh:cf):bZ:=
  (p6 (qq (qB (dt qA (de 2) (dC (.int 0)))) (qB (dt N9 (de 3) (cO dZ (aY (ng G 0) (aY (dC (.int 0)) cL)))))) (zL G dh) kE)
noncomputable def n9 (G:D) (dh:cf):bZ:=
  (lu 5 (cO pK (aY (eE cL) (aY (eE cL) (aY (cP 2) (aY (cP 4) cL))))))
noncomputable def zM (G:D) (dh:cf):bZ:=
  (eQ (cP 2))
noncomputable def sF (G:D) (dh:cf):bZ:=
  (p6 (qB (dt qA (lU 0 G dh (aY (cO eW (aY (cP 1) (aY (dt i8 (de 5) (dC (.int 0))) (aY (dt i8 (de 5) (dC (.int 1))) cL)))) (aY (cO gi (aY (cP 2) cL)) cL))) (de 2))) (zM G dh) kE)
noncomputable def fD (G:D) (dh:cf):bZ:=
  (ei (n9 G dh)
  (sF G dh))
noncomputable def oh (G:D) (dh:cf):bZ:=
  (oH 4 (iT (lU 0 G gx (aY (cP 1) (aY (cP 2) cL)))) (fD G dh))
noncomputable def sG (G:D) (dh:cf):bZ:=
  (eQ (cO gi (aY (cP 2) cL)))
noncomputable def jg (G:D) (dh:cf):bZ:=
  (ei (n8 G dh)
  (ei (jH G dh)
  (ei (oh G dh)
  (sG G dh))))
noncomputable def xC (G:D) (dI:cf):bZ:=
  (eQ (dC (.int 1)))
noncomputable def kz (G:D) (dI:cf):bZ:=
  (p6 (qB (dt qA (cO nL (aY (de 1) cL)) (dC (.int 0)))) (xC G dI) kE)
noncomputable def xD (G:D) (dI:cf):bZ:=
  (eQ (dC (.int 0)))
noncomputable def i6 (G:D) (dI:cf):bZ:=
  (p6 (qB (dt CO (eE cL) (de 1))) (xD G dI) kE)
noncomputable def mX (G:D) (dI:cf):bZ:=
  (o6 (Ts G) 0 (eE (aY (cP 1) (aY (cP 2) cL))) (lU 0 G dI (aY (cP 1) (aY (cP 2) cL))))
noncomputable def mY (G:D) (dI:cf):bZ:=
  (rV 0 [] (eE (aY (cP 1) (aY (cP 2) cL))) (mX G dI))
noncomputable def qK (G:D) (dI:cf):bZ:=
  (eQ (o5 (Ts G) 0 (eE (aY (cP 1) (aY (cP 2) cL)))))
noncomputable def iE (G:D) (dI:cf):bZ:=
  (ei (kz G dI)
  (ei (i6 G dI)
  (ei (mY G dI)
  (qK G dI))))
mutual
noncomputable def mn:Nat->cf
 |0=>λ_=>none
 |n+1=>nh 7 3 (λG=>jg G (gC n))
noncomputable def gC:Nat->cf
 |0=>λ_=>none
 |n+1=>nh 3 3 (λG=>iE G (mn n))
end
noncomputable def qL (G:D):bZ:=
  (eQ (lU 0 G (gC 24) (aY (cO eW (aY (dt i8 (dt i8 (ng G 0) (dC (.int 0))) (dC (.int 1))) (aY (cP 1) (aY (cP 2) cL)))) (aY (cP 3) cL))))
noncomputable def jI (G:D):bZ:=
  (qL G)
noncomputable def mK:cf:=nh 4 4 jI
noncomputable def oC:bZ:=
  (eQ (rY mK (cP 0) (aY (cP 1) (aY (cP 2) (aY (cP 3) cL)))))
noncomputable def jJ:bZ:=
  oC
noncomputable def eM:cf:=gY 4 4 jJ
noncomputable def wI:bZ:=
  (eQ (cO eM (aY (cP 0) (aY (eE cL) (aY (eE cL) (aY (dt i8 (de 0) (dC (.int 1))) cL))))))
noncomputable def qk:bZ:=
  wI
noncomputable def eR:cf:=gY 1 1 qk
end PW
namespace PC
open PySem DL GP
open L2 (kD rq)
theorem jh {j:Nat}{f:bZ}{d:D}{ds:cu}{δ δ':dM}(h:f (δ.set j (.dat d))=some (.next δ')):jo j f (d::ds) δ=jo j f ds δ':=by simp only[jo,h]
theorem JB {j:Nat}{f:bZ}{d r:D}{ds:cu}{δ:dM}(h:f (δ.set j (.dat d))=some (.ret r)):jo j f (d::ds) δ=some (.ret r):=by simp only[jo,h]
theorem oi {j:Nat}{i:bY}{f:bZ}{δ:dM}{ds:cu}{r:Option R}(h:i δ=some ds) (h2:jo j f ds δ=r):oH j i f δ=r:=by
 unfold oH;rw[h];exact h2
theorem jK {α:Type}{j:Nat}{t:cc}{f:cb}{δ:dM}{φ ψ:α->D}{p:α->Bool}:∀(l:List α),(∀a∈l,t (δ.set j (.dat (φ a)))=some (p a))->(∀a∈l,p a=true->f (δ.set j (.dat (φ a)))=some (ψ a))->kF j t f δ (l.map φ)=some ((l.filter p).map ψ)
 |[],_,_=>rfl
 |a::r,h1,h2=>by
  have ih:=jK r (λb hb=>h1 b (ai _ hb)) λb hb=>h2 b (ai _ hb)
  show kF j t f δ (φ a::r.map φ)=_;unfold kF;rw[h1 a af,br];cases hp:p a with
  |true=>
   simp only[if_true];rw[h2 a af hp,ih];rfl
  |false=>simpa using ih
theorem gF {j:Nat}{i:bY}{t:cc}{f:cb}{δ:dM}{ds:cu}{r:Option (cu)}(h:i δ=some ds) (hl:ds.length<1000000) (h2:kF j t f δ ds=r):eh i j t f δ=r:=by
 unfold eh;rw[h];simp only[ao,if_pos hl];exact h2
theorem il {i:Nat}{f:bY}{δ:dM}{ds:cu}(h:f δ=some ds):gp i f δ=some (.next (δ.set i (.own ds))):=by
 unfold gp;rw[h];rfl
theorem wJ {x:D}(h:dU x<=30):yc x x=some (.bl false):=by
 unfold yc;rw[if_pos h,oY];rfl
theorem zN {f g:cc}{δ:dM}{r:Option Bool}(h1:f δ=some true) (h2:g δ=r):qq f g δ=r:=by
 unfold qq;rw[h1];exact h2
theorem JC {f g:cc}{δ:dM}(h1:f δ=some false):qq f g δ=some false:=by
 unfold qq;rw[h1]
theorem By (a b:cn):yc (tupI a) (tupI b)=some (.bl (!decide (a=b))):=by
 unfold yc;rw[if_pos (by rw[LW.Bd];omega),LW.Bc]
theorem u7 (a b:Int):qA (.int a) (.int b)=some (.bl (decide (a=b))):=by
 have:qA (.int a) (.int b)=some (.bl (a==b)):=rfl;rw[this]
 congr 2
theorem JD (a:cn) (L:cm):CO (tupI a) (.tup (L.map tupI))=some (.bl (decide (a∈L))):=by
 show(if gZ (L.map tupI)<=30 then some (D.bl (memD (tupI a) (L.map tupI)))else none)=_
 have:=LW.nq L;rw[if_pos (by omega),LW.tR]
end PC
namespace PW
open PySem DL GP PC
open LW (cX dw dE)
open L2 (kD rq)
open ST (gH u3)
theorem EX {w:Int}(hw:w=0\/w=1):gi [.int w]=some (.int (1-w)):=by
 refine LW.eF rfl ?_;rcases hw with rfl|rfl<;>rfl
theorem Bz {l m:cn}(hl:l.length<1000000):jf [tupI l,tupI m]=some (tupI (qH m l)):=by
 refine LW.eF rfl ?_;show lC [cH l,cH m,.no]=_;unfold lC qJ;refine gh ((jD (ds:=(qH m l).map D.int) ?_).trans rfl);exact gF (ds:=l.map D.int) rfl (by simpa using hl) (jK l (λi _=>gX ((kW rfl rfl).trans (wj i m))) λi _ _=>rfl)
theorem LU {f g:cb}{δ:dM}{a b:Bool}(hf:f δ=some (.bl a)) (hg:g δ=some (.bl b)):FF f g δ=some (.bl (a&&b)):=by
 unfold FF;rw[hf];cases a
 ·rfl
 ·simpa using hg
theorem qM {l:cn}{L:cm}{S:D}(hS:S=.tup (L.map tupI)\/S=.lst (L.map tupI)) (hn:L.length<1000000) (hl:∀o∈L,o.length<1000000):fC [tupI l,S]=some (.bl (nX l L)):=by
 refine LW.eF rfl ?_;show jE [cH l,.dat S,.no]=_;unfold jE oB nX;have it:iS (cP 1) [cH l,.dat S,.no]=some (L.map tupI):=by rcases hS with rfl|rfl<;>rfl
 refine gh ((jD (ds:=L.map λo=>D.bl ((!decide (o=l))&&gW l o)) ?_).trans (Bw L _))
 exact gF it (by simpa using hn) (jC L λo ho=>LU ((kW rfl rfl).trans (By o l)) ((dz rfl).trans (Gx (hl o ho))))
theorem JE {c:cn}{L:cm}(hn:L.length<1000000) (hl:∀o∈L,o.length<1000000):pL [tupI c,.lst (L.map tupI)]=some (.bl (L.all λl=>iZ c l)):=by
 refine LW.eF rfl ?_;show qj [cH c,.dat (.lst (L.map tupI)),.no]=_;unfold qj wH;refine gh ((jD (ds:=L.map λo=>D.bl (iZ c o)) ?_).trans (LW.Be L _))
 exact gF (ds:=L.map tupI) rfl (by simpa using hn) (jC L λo ho=>(dz rfl).trans (wF (hl o ho)))
theorem pN {α:Type} [BEq α] [LawfulBEq α]:∀(n:Nat) (l:List α),l.length<=n->l.eraseDups.length<=l.length
 |_,[],_=>by simp
 |0,_::_,h=>by simp at h
 |n+1,a::l,h=>by
  rw[List.eraseDups_cons,ax,ax];have h1:=aW (λb=> !b==a) l
  have h2:=pN n (l.filter λb=> !b==a) (aB h1 (by simpa using h))
  omega
theorem JF {L:cm}{S:D}{m y:cn}(hS:S=.tup (L.map tupI)\/S=.lst (L.map tupI)) (hn:L.length<=18) (hl:∀o∈L,o.length<1000000):eW [S,tupI m,tupI y]=some (.tup ((gB L m y).map tupI)):=by
 refine LW.eF rfl ?_;show ky [.dat S,cH m,cH y,.no,.no,.no]=_;have it:iS (cP 0) [.dat S,cH m,cH y,.no,.no,.no]=some (L.map tupI):=by rcases hS with rfl|rfl<;>rfl
 have k1:eh (iS (cP 0)) 5 (sY (qB (cO ik (aY (cP 2) (aY (cP 5) cL))))) (cO jf (aY (cP 5) (aY (cP 1) cL))) [.dat S,cH m,cH y,.no,.no,.no]=some ((fc L m y).map tupI):=by
  unfold fc;rw[aV];exact gF it (by rw[ae];omega) (jK L (λl g9=>sC (gX ((dz rfl).trans (wF (hl l g9))))) λl g9 _=>(dz rfl).trans (Bz (hl l g9)))
 have e1:pM [.dat S,cH m,cH y,.no,.no,.no]=some (.next [.dat S,cH m,cH y,.own ((fc L m y).map tupI),.no,.no]):=il k1;have P1:(fc L m y).length<=18:=by unfold fc;rw[ae];exact aB (aW _ _) hn
 have Zw:∀o∈fc L m y,o.length<1000000:=λo ho=>by
  obtain⟨l,g9,_,rfl⟩:=fq.mp ho;exact Nat.lt_of_le_of_lt (aW _ _) (hl l g9)
 have Zx:∀o∈fQ (fc L m y).eraseDups,o.length<1000000:=λo ho=>Zw o (Bo.mp ho)
 have Xg:(fQ (fc L m y).eraseDups).length<1000000:=by
  rw[(eA _).length_eq];exact Nat.lt_of_le_of_lt (pN _ _ (au _)) (by omega)
 have k2:pj (de 3) [.dat S,cH m,cH y,.dat (.lst ((fc L m y).map tupI)),.no,.no]=some ((fQ (fc L m y).eraseDups).map tupI):=by
  show(if((fc L m y).map tupI).length<=18 then(jU ((fc L m y).map tupI)).map _ else none)=_
  rw[if_pos (by rw[ae];exact P1),qV];rfl
 have e2:ml [.dat S,cH m,cH y,.dat (.lst ((fc L m y).map tupI)),.no,.no]=some (.next [.dat S,cH m,cH y,.dat (.lst ((fc L m y).map tupI)),.own ((fQ (fc L m y).eraseDups).map tupI),.no]):=il k2;unfold ky;rw[LW.cR e1];show(ei ml (qz 4 jG)) [.dat S,cH m,cH y,.dat (.lst ((fc L m y).map tupI)),.no,.no]=_;rw[LW.cR e2];show jG [.dat S,cH m,cH y,.dat (.lst ((fc L m y).map tupI)),.dat (.lst ((fQ (fc L m y).eraseDups).map tupI)),.no]=_;unfold jG;refine gh ((jD (ds:=(gB L m y).map tupI) ?_).trans rfl);unfold gB mW;exact gF (ds:=(fQ (fc L m y).eraseDups).map tupI) rfl (by rw[ae];exact Xg) (jK _ (λl g9=>sC (gX ((dz rfl).trans (qM (.inr rfl) Xg Zx)))) λl _ _=>rfl)
noncomputable def uL (kvs:List (Int×Int)) (L:cm):List (Int×Int):=L.foldl (λk l=>l.foldl nk k) kvs
noncomputable def eC (L:cm):cn:=(fQ (gH (uL [] L))).map λns=>ns.getD 1 0
theorem JG (kvs:List (Int×Int)) (p:Int):(nk kvs p).map (·.1)=if p∈kvs.map (·.1)then kvs.map (·.1)else kvs.map (·.1)++[p]:=by
 have ha:(kvs.any λkv=>decide (kv.1=p))=decide (p∈kvs.map (·.1)):=by
  rw[Bool.eq_iff_iff];simp[bO]
 unfold nk;rw[ha];by_cases h:p∈kvs.map (·.1)
 ·rw[if_pos (aR h),if_pos h,aV];refine bS λkv _=>?_
  simp only[Function.comp_apply];split<;>rfl
 ·rw[if_neg (by rw[aG h];simp),if_neg h,List.map_append];rfl
theorem EY (kvs:List (Int×Int)) (p:Int):(nk kvs p).length<=kvs.length+1:=by
 unfold nk;split
 ·rw[ae];omega
 ·simp
theorem yE:∀(l:cn) (kvs:List (Int×Int)),(kvs.map (·.1)).Nodup->((l.foldl nk kvs).map (·.1)).Nodup/\∀p,p∈(l.foldl nk kvs).map (·.1)↔p∈kvs.map (·.1)\/p∈l
 |[],kvs,h=>⟨h,λp=>by simp⟩
 |q::l,kvs,h=>by
  have e:=JG kvs q;have hn:((nk kvs q).map (·.1)).Nodup:=by
   rw[e];split
   ·exact h
   ·rename_i hq;rw[List.nodup_append];exact⟨h,by simp,λa ha b hb=>by simp at hb;subst hb;intro z;subst z;exact hq ha⟩
  obtain⟨h1,h2⟩:=yE l (nk kvs q) hn;refine⟨h1,λp=>(h2 p).trans ?_⟩
  rw[e];by_cases hq:q∈kvs.map (·.1)
  ·rw[if_pos hq,List.mem_cons];constructor
   ·rintro(z|z)
    ·exact .inl z
    ·exact .inr (.inr z)
   ·rintro(z|rfl|z)
    ·exact .inl z
    ·exact .inl hq
    ·exact .inr z
  ·rw[if_neg hq];simp only[List.mem_append,List.mem_cons,bH,or_false];constructor
   ·rintro((z|z)|z)
    ·exact .inl z
    ·exact .inr (.inl z)
    ·exact .inr (.inr z)
   ·rintro(z|z|z)
    ·exact .inl (.inl z)
    ·exact .inl (.inr z)
    ·exact .inr z
theorem wK:∀(L:cm) (kvs:List (Int×Int)),(kvs.map (·.1)).Nodup->((uL kvs L).map (·.1)).Nodup/\∀p,p∈(uL kvs L).map (·.1)↔p∈kvs.map (·.1)\/∃l∈L,p∈l
 |[],kvs,h=>⟨h,λp=>by simp[uL]⟩
 |l::L,kvs,h=>by
  obtain⟨h1,h2⟩:=yE l kvs h;obtain⟨h3,h4⟩:=wK L (l.foldl nk kvs) h1;refine⟨h3,λp=>(h4 p).trans ?_⟩
  rw[h2];constructor
  ·rintro((z|z)|⟨k,hk,z⟩)
   ·exact .inl z
   ·exact .inr ⟨l,af,z⟩
   ·exact .inr ⟨k,ai _ hk,z⟩
  ·rintro(z|⟨k,hk,z⟩)
   ·exact .inl (.inl z)
   ·rcases List.mem_cons.mp hk with rfl|hk
    ·exact .inl (.inr z)
    ·exact .inr ⟨k,hk,z⟩
theorem tX (L:cm):(eC L).Perm ((uL [] L).map (·.1)):=by
 unfold eC;refine((eA _).map _).trans ?_;unfold gH;rw[aV];exact List.Perm.refl _
theorem j4 (L:cm):(eC L).Nodup:=(tX L).nodup_iff.mpr (wK L [] (by simp)).1
theorem ip (L:cm) (p:Int):p∈eC L↔∃l∈L,p∈l:=by
 rw[(tX L).mem_iff,(wK L [] (by simp)).2]
 simp
theorem wL {L:cm}{many:Int}(h9:many<=9) (h:∀l∈L,∀p∈l,0<=p/\p<many):(eC L).length<=9:=by
 have r:fm (sortI (eC L)):=LW.iD (j4 L);have:=Bj (many:=many) r λp hp=>by
  obtain⟨l,hl,vX⟩:=(ip L p).mp (cT.mp hp);exact h l hl p vX
 rw[(sortI_perm _).length_eq]at this;omega
theorem BA {Ls:D}{x2:Sl}:∀(l:cn) (kvs:List (Int×Int)) (x3:Sl),kvs.length+l.length<=1000->(∀ks,x2≠.memo ks)->(∀ks,x3≠.memo ks)->∃y3,(∀ks,y3≠.memo ks)/\
  jo 3 fS (l.map D.int) [.dat Ls,.memo [kU kvs],x2,x3]=some (.next [.dat Ls,.memo [kU (l.foldl nk kvs)],x2,y3])
 |[],kvs,x3,_,_,h3=>⟨x3,h3,rfl⟩
 |p::l,kvs,x3,hk,h2,h3=>by
  simp only[ax]at hk;have nm:o7 [.dat Ls,.no,x2,cG p]=true:=by
   cases x2 with
   |memo ks=>exact absurd rfl (h2 ks)
   |_=>rfl
  have e:fS [.dat Ls,.memo [kU kvs],x2,cG p]=some (.next [.dat Ls,.memo [kU (nk kvs p)],x2,cG p]):=by
   show(zE (kU kvs)).bind _=_;rw[zF];show(if kvs.length<1000/\o7 [.dat Ls,.no,x2,cG p]=true then _ else _)=_
   rw[if_pos ⟨by omega,nm⟩]
   rfl
  have:=EY kvs p;obtain⟨y3,hy,ih⟩:=BA (Ls:=Ls) (x2:=x2) l (nk kvs p) (cG p) (by omega) h2 (λks z=>by cases z)
  refine⟨y3,hy,?_⟩;rw[aE,jh (j:=3) (f:=fS) (d:=.int p) (δ:=[.dat Ls,.memo [kU kvs],x2,x3]) e,ih];rfl
theorem yF:∀(l:cn) (kvs:List (Int×Int)),(l.foldl nk kvs).length<=kvs.length+l.length
 |[],_=>by simp
 |p::l,kvs=>by
  have:=EY kvs p;have:=yF l (nk kvs p);simp only[List.foldl_cons,ax];omega
theorem BB {Ls:D}:∀(L:cm) (kvs:List (Int×Int)) (x2 x3:Sl),kvs.length+(L.map (·.length)).sum<=1000->(∀ks,x3≠.memo ks)->∃y2 y3,
  jo 2 eS (L.map tupI) [.dat Ls,.memo [kU kvs],x2,x3]=some (.next [.dat Ls,.memo [kU (uL kvs L)],y2,y3])
 |[],kvs,x2,x3,_,_=>⟨x2,x3,rfl⟩
 |l::L,kvs,x2,x3,hk,h3=>by
  simp only[aE,List.sum_cons]at hk;obtain⟨y3,hy,e⟩:=BA (Ls:=Ls) (x2:=cH l) l kvs x3 (by omega) (λks z=>by cases z) h3
  have e2:eS [.dat Ls,.memo [kU kvs],cH l,x3]=some (.next [.dat Ls,.memo [kU (l.foldl nk kvs)],cH l,y3]):=by
   unfold eS mI;exact oi (ds:=l.map D.int) rfl e
  have:=yF l kvs;obtain⟨z2,z3,ih⟩:=BB (Ls:=Ls) L (l.foldl nk kvs) (cH l) y3 (by omega) hy
  refine⟨z2,z3,?_⟩;rw[aE,jh (j:=2) (f:=eS) (d:=tupI l) (δ:=[.dat Ls,.memo [kU kvs],x2,x3]) e2,ih];rfl
theorem JH {L:cm}{many:Int}(h9:many<=9) (h:∀l∈L,∀p∈l,0<=p/\p<many) (hs:(L.map (·.length)).sum<=1000) (jr:∃l∈L,l≠[]):fY [.tup (L.map tupI)]=some (tupI (eC L)):=by
 refine LW.eF rfl ?_;show jY [.dat (.tup (L.map tupI)),.no,.no,.no]=_;obtain⟨y2,y3,e⟩:=BB (Ls:=.tup (L.map tupI)) L [] .no .no (by simpa using hs) (λks z=>by cases z)
 have e3:jF [.dat (.tup (L.map tupI)),.memo [kU []],.no,.no]=some (.next [.dat (.tup (L.map tupI)),.memo [kU (uL [] L)],y2,y3]):=by
  unfold jF;exact oi (ds:=L.map tupI) rfl e
 have hl9:=wL h9 h;have eY:(uL [] L).length=(eC L).length:=by rw[(tX L).length_eq,ae]
 have h1:1<=(uL [] L).length:=by
  rw[eY];obtain⟨l,hl,EH⟩:=jr;cases l with
  |nil=>exact absurd rfl EH
  |cons p r=>
   have:=(ip L p).mpr ⟨_,hl,af⟩;exact List.length_pos_of_mem this
 have e4:fT [.dat (.tup (L.map tupI)),.memo [kU []],.no,.no]=some (.ret (tupI (eC L))):=by
  unfold fT;rw[LW.cR e3];unfold mJ;refine gh ((jD (ds:=(eC L).map D.int) ?_).trans rfl);show(zE (kU (uL [] L))).bind _=_;rw[zF];show(if 1<=(uL [] L).length/\(uL [] L).length<64 then _ else _)=_
  rw[if_pos ⟨h1,by omega⟩]
  unfold eC;rw[aV];rfl
 show(if noOwn [.dat (.tup (L.map tupI)),.no,.no,.no]=true/\1<4 then(fT [.dat (.tup (L.map tupI)),.memo [kU []],.no,.no]).bind (Ik 1)else none)=_
 rw[if_pos ⟨rfl,by decide⟩,e4]
 rfl
end PW
namespace PW
open PySem DL GP PC
open LW (cX dw dE)
open L2 (kD rq)
noncomputable def dG (G:Gm) (f:Int):D:=di G.many G.ls f G.b G.g
section
variable {G:Gm}{f w:Int}{m y:cn}{rc:cf}{ks:cu}
end
end PW
namespace PW
open PySem DL GP PC
open LW (cX dw dE)
open L2 (kD rq)
theorem qm {n np:Nat}{fb:D->bZ}{G:D}{ds:cu}{d:D}(hl:ds.length+1=np) (h:fb G (startM n np 0 ds)=some (.ret d)):nh n np fb (G::ds)=some d:=by
 show(if ds.length+1=np/\0<np then _ else _)=_
 rw[if_pos ⟨hl,by omega⟩,h]
structure sH (G:Gm):Prop where
 ok:G.Ok
 J8:G.ls.length<=18
 rise:∀l∈G.ls,fm l
structure SL (G:Gm) (L:cm):Prop where
 s:Jv G L
 lo:LQ G L
 rise:∀l∈L,fm l
 J8:L.length<=18
 nine:∀l∈L,l.length<=9
 sum:(L.map (·.length)).sum<=1000
theorem JI {k:Nat}:∀(L:cm),(∀l∈L,l.length<=k)->(L.map (·.length)).sum<=L.length*k
 |[],_=>by simp
 |l::L,h=>by
  have:=JI L λx hx=>h x (ai _ hx)
  have:=h l af;simp only[aE,List.sum_cons,ax,Nat.add_mul,Nat.one_mul];omega
theorem sH.lo {G:Gm}(h:sH G):LQ G G.ls:=⟨h.ok.li,h.ok.ll⟩
theorem sH.sl {G:Gm}(h:sH G) {L:cm}(s:Jv G L):SL G L:=by
 obtain⟨m,y,p,rfl⟩:=s;have r:=Gv (m:=m) (y:=y) h.rise;have lo:=Br (m:=m) (y:=y) h.lo;have n:(gB G.ls m y).length<=18:=by
  unfold gB mW;refine aB (aW _ _) ?_;rw[(eA _).length_eq];refine aB (pN _ _ (au _)) ?_;unfold fc;rw[ae];exact aB (aW _ _) h.J8
 have nine:∀l∈gB G.ls m y,l.length<=9:=λl hl=>by
  have:=Bj (r l hl) (lo.li l hl);have:=h.ok.m9;omega
 have:=JI _ nine;exact⟨⟨m,y,p,rfl⟩,lo,r,n,nine,by omega⟩
noncomputable def fX (G:Gm) (L:cm) (w:Int):cm:=
 if w=0 then rh G.b.toNat (eC L)else(rh G.g.toNat (eC L)).filter λc=>(L.filter λl=>decide ((l.length:Int)<=G.b)).all λl=>iZ c l
section
variable {G:Gm}{L:cm}{f w:Int}
theorem LV (hG:G.Ok) (sl:SL G L) (jr:∃l∈L,l≠[]) (hw:w=0\/w=1):gx [dG G f,.tup (L.map tupI),.int w]=some (.tup ((fX G L w).map tupI)):=by
 have b1:=hG.b1;have b3:=hG.b3;have g1:=hG.g1;have g3:=hG.g3;have J8:=sl.J8;refine qm rfl ?_;show gJ (dG G f) [.memo [],.dat (.tup (L.map tupI)),cG w,.no,.no,.no,.no]=_;have hu:=wL hG.m9 sl.lo.li;have ea:∀v:Int,(v=0\/v=1)->dZ [dG G f,.int v]=some (.int (((if v=0 then G.b else G.g).toNat:Nat):Int)):=λv hv=>by
  rw[show dG G f=di G.many G.ls f G.b G.g from rfl,Ss hv]
  congr 2
  rcases hv with rfl|rfl<;>simp<;>omega
 have e1:jZ (dG G f) [.memo [],.dat (.tup (L.map tupI)),cG w,.no,.no,.no,.no]=some (.next [.memo [],.dat (.tup (L.map tupI)),cG w,.dat (.tup ((rh (if w=0 then G.b else G.g).toNat (eC L)).map tupI)),.no,.no,.no]):=by
  have k1:cO fY (aY (cP 1) cL) [.memo [],.dat (.tup (L.map tupI)),cG w,.no,.no,.no,.no]=some (tupI (eC L)):=(dz rfl).trans (JH hG.m9 sl.lo.li sl.sum jr);have k2:cO dZ (aY (ng (dG G f) 0) (aY (cP 2) cL)) [.memo [],.dat (.tup (L.map tupI)),cG w,.no,.no,.no,.no]=some (.int (((if w=0 then G.b else G.g).toNat:Nat):Int)):=(dz rfl).trans (ea w hw)
  unfold jZ;rw[lB ((dz (je k1 (iX k2))).trans (yD 5 _ _ (by split<;>omega) (by omega)))]
  rfl
 unfold gJ;rw[LW.cR e1];have Vk:∀k:Nat,(rh k (eC L)).length<1000000:=λk=>by
  have h1:=Js (c:=k) (ps:=eC L);have h2:2^(eC L).length<=2^9:=Nat.pow_le_pow_right (by decide) hu
  have:(2:Nat)^9=512:=by decide
  omega
 rcases hw with rfl|rfl
 ·have e3:j0 (dG G f) [.memo [],.dat (.tup (L.map tupI)),cG 0,.dat (.tup ((rh (if(0:Int)=0 then G.b else G.g).toNat (eC L)).map tupI)),.no,.no,.no]=some (.ret (.tup ((fX G L 0).map tupI))):=rfl
  rw[mj e3]
 ·have e3:j0 (dG G f) [.memo [],.dat (.tup (L.map tupI)),cG 1,.dat (.tup ((rh (if(1:Int)=0 then G.b else G.g).toNat (eC L)).map tupI)),.no,.no,.no]=some (.next [.memo [],.dat (.tup (L.map tupI)),cG 1,.dat (.tup ((rh (if(1:Int)=0 then G.b else G.g).toNat (eC L)).map tupI)),.no,.no,.no]):=rfl
  rw[LW.cR e3];have k4:eh (iT (cP 1)) 5 (qB (dt N9 (cO nL (aY (de 5) cL)) (cO dZ (aY (ng (dG G f) 0) (aY (dC (.int 0)) cL))))) (cP 5) [.memo [],.dat (.tup (L.map tupI)),cG 1,.dat (.tup ((rh (if(1:Int)=0 then G.b else G.g).toNat (eC L)).map tupI)),.no,.no,.no]=some ((L.filter λl=>decide ((l.length:Int)<=G.b)).map tupI):=by
   refine gF (ds:=L.map tupI) rfl (by rw[ae];omega) (jK L (λl _=>?_) λl _ _=>rfl)
   have kl:cO nL (aY (de 5) cL) [.memo [],.dat (.tup (L.map tupI)),cG 1,.dat (.tup ((rh (if(1:Int)=0 then G.b else G.g).toNat (eC L)).map tupI)),.no,cH l,.no]=some (.int (l.length:Int)):=by
    show some (D.int ((l.map D.int).length:Int))=_;rw[ae]
   have ka:cO dZ (aY (ng (dG G f) 0) (aY (dC (.int 0)) cL)) [.memo [],.dat (.tup (L.map tupI)),cG 1,.dat (.tup ((rh (if(1:Int)=0 then G.b else G.g).toNat (eC L)).map tupI)),.no,cH l,.no]=some (.int G.b):=by
    refine(dz rfl).trans ((ea 0 (.inl rfl)).trans ?_)
    congr 2
    simp;omega
   exact gX ((kW (o:=N9) kl ka).trans rfl)
  have e4:nz (dG G f) [.memo [],.dat (.tup (L.map tupI)),cG 1,.dat (.tup ((rh (if(1:Int)=0 then G.b else G.g).toNat (eC L)).map tupI)),.no,.no,.no]=some (.next [.memo [],.dat (.tup (L.map tupI)),cG 1,.dat (.tup ((rh (if(1:Int)=0 then G.b else G.g).toNat (eC L)).map tupI)),.own ((L.filter λl=>decide ((l.length:Int)<=G.b)).map tupI),.no,.no]):=il k4
  rw[LW.cR e4];show j3 (dG G f) [.memo [],.dat (.tup (L.map tupI)),cG 1,.dat (.tup ((rh (if(1:Int)=0 then G.b else G.g).toNat (eC L)).map tupI)),.dat (.lst ((L.filter λl=>decide ((l.length:Int)<=G.b)).map tupI)),.no,.no]=_
  unfold j3;refine gh ((jD (ds:=(fX G L 1).map tupI) ?_).trans rfl);have hf:(L.filter λl=>decide ((l.length:Int)<=G.b)).length<1000000:=Nat.lt_of_le_of_lt (aW _ _) (by omega)
  refine gF (ds:=(rh (if(1:Int)=0 then G.b else G.g).toNat (eC L)).map tupI) rfl (by rw[ae];exact Vk _) ?_
  exact jK _ (λc _=>gX ((dz rfl).trans (JE hf λo ho=>by have:=sl.nine o (List.mem_filter.mp ho).1;omega))) λc _ _=>rfl
noncomputable def iY (L:cm) (w:Int) (c:cn):cm:=if w=0 then gB L (sortI c) []else gB L [] (sortI c)
theorem Gy {c:cn}(h:c∈fX G L w):∃k,(k=G.b.toNat\/k=G.g.toNat)/\c∈rh k (eC L):=by
 unfold fX at h;split at h
 ·exact⟨_,.inl rfl,h⟩
 ·exact⟨_,.inr rfl,(List.mem_filter.mp h).1⟩
theorem mq (hG:G.Ok) (sl:SL G L) (jr:∃l∈L,l≠[]) {c:cn}(h:c∈fX G L w):c.Nodup/\(∀p∈c,p∈eC L)/\c.length<=4/\c≠[]:=by
 have b1:=hG.b1;have b3:=hG.b3;have g1:=hG.g1;have g3:=hG.g3;obtain⟨k,hk,hc⟩:=Gy h;obtain⟨h1,h2,h3⟩:=nW hc;refine⟨nu hG sl.lo (ip L) (j4 L) hc,h1,by omega,λz=>?_⟩
 subst z;rcases h3 with z|z
 ·simp at z;omega
 ·obtain⟨l,hl,EH⟩:=jr;cases l with
  |nil=>exact EH rfl
  |cons p r=>
   have:=z p ((ip L p).mpr ⟨_,hl,af⟩);cases this
theorem BC (hF:sH G) (sl:SL G L) {c:cn}(hc:∀p∈c,p∈eC L) (hn:c.Nodup):Jv G (iY L w c):=by
 obtain⟨m,y,p,e⟩:=sl.s;have rH:∀q∈c,(0<=q/\q<G.many)/\q∉m/\q∉y:=λq hq=>by
  obtain⟨l,hl,Xh⟩:=(ip L q).mp (hc q hq);refine⟨sl.lo.li l hl q Xh,?_⟩;rw[e]at hl;obtain⟨k,hk,Sq,rfl⟩:=fq.mp (gI.mp hl).1;obtain⟨h1,h2⟩:=ff.mp Xh;exact⟨h2,Sq q h1⟩
 have rs:fm (sortI c):=LW.iD hn;unfold iY;split
 ·refine⟨sortI (m++sortI c),y,⟨qe p.rm rs λq hq=>(rH q (cT.mp hq)).2.1,p.ry,λq hq=>?_,p.iy,λq hq=>?_⟩,?_⟩
  ·rcases List.mem_append.mp (cT.mp hq)with z|z
   ·exact p.im q z
   ·exact(rH q (cT.mp z)).1
  ·rcases List.mem_append.mp (cT.mp hq)with z|z
   ·exact p.dj q z
   ·exact(rH q (cT.mp z)).2.2
  ·rw[e];exact yA hF.rise (λq=>by rw[cT,List.mem_append]) (λq=>by simp) (λq hq=>by cases hq)
 ·refine⟨m,sortI (y++sortI c),⟨p.rm,qe p.ry rs λq hq=>(rH q (cT.mp hq)).2.2,p.im,λq hq=>?_,λq hq z=>?_⟩,?_⟩
  ·rcases List.mem_append.mp (cT.mp hq)with z|z
   ·exact p.iy q z
   ·exact(rH q (cT.mp z)).1
  ·rcases List.mem_append.mp (cT.mp z)with z|z
   ·exact p.dj q hq z
   ·exact(rH q (cT.mp z)).2.1 hq
  ·rw[e];exact yA hF.rise (λq=>by simp) (λq=>by rw[cT,List.mem_append]) (λq hq=>(rH q (cT.mp hq)).2.1)
theorem DN (sl:SL G L) {c:cn}(hc:∀p∈c,p∈eC L) (jr:c≠[]):(eC (iY L w c)).length<(eC L).length:=by
 have sub:∀p∈eC (iY L w c),p∈eC L/\p∉c:=λp hp=>by
  obtain⟨l,hl,jM⟩:=(ip _ p).mp hp;unfold iY at hl;split at hl
  ·obtain⟨k,hk,_,rfl⟩:=fq.mp (gI.mp hl).1;obtain⟨h1,h2⟩:=ff.mp jM;exact⟨(ip _ p).mpr ⟨k,hk,h1⟩,λz=>h2 (cT.mpr z)⟩
  ·obtain⟨k,hk,Sq,rfl⟩:=fq.mp (gI.mp hl).1;obtain⟨h1,h2⟩:=ff.mp jM;exact⟨(ip _ p).mpr ⟨k,hk,h1⟩,λz=>Sq p h1 (cT.mpr z)⟩
 obtain⟨q,r,rfl⟩:∃q r,c=q::r:=by
  cases c with
  |nil=>exact absurd rfl jr
  |cons q r=>exact⟨q,r,rfl⟩
 have ra:fm (sortI (eC (iY L w (q::r)))):=LW.iD (j4 _);have rb:fm (sortI (eC L)):=LW.iD (j4 _);have:=Bq ra rb (λp hp=>cT.mpr (sub p (cT.mp hp)).1) λz=>by
  have h1:q∈sortI (eC (iY L w (q::r))):=by rw[z];exact cT.mpr (hc q af)
  exact(sub q (cT.mp h1)).2 af
 rwa [(sortI_perm _).length_eq,(sortI_perm _).length_eq]at this
theorem sI (hF:sH G) (sl:SL G L) {c:cn}(hc:∀p∈c,p∈eC L) (hn:c.Nodup) {v:Int}(hv:v=0\/v=1):
  (G.at (iY L w c)).ft [] [] v=if w=0 then(G.at L).ft (sortI c) [] v else(G.at L).ft [] (sortI c) v:=by
 obtain⟨p1,p2⟩:=pD hF.ok sl.lo (ip L) hc hn;unfold iY;split
 ·exact(wy hF.ok sl.lo sl.rise p1 hv).symm
 ·exact(wy hF.ok sl.lo sl.rise p2 hv).symm
end
end PW
namespace PW
open PySem DL GP PC
open LW (cX dw dE)
open L2 (kD rq)
theorem DO {ns:cn}(h:ns≠[]):AS [.lst (ns.map D.int)]=some (.int (jq ns)):=by
 show(intsOf (ns.map D.int)).bind _=_;rw[hU];cases ns with
 |nil=>exact absurd rfl h
 |cons a r=>rfl
section
variable {G:Gm}{L:cm}{f w:Int}
theorem held_eq (c:cn) (hw:w=0\/w=1):gB L (fA [] [] w c).1 (fA [] [] w c).2=iY L w c:=by
 rcases hw with rfl|rfl<;>rfl
theorem Pw (sl:SL G L) (hw:w=0\/w=1) {c:cn}(hc:c.length<=4) {rc:cf}{x3 x5 x6:Sl}{v:Int}(hv:v=0\/v=1)
  (hr:rc [dG G f,.tup ((iY L w c).map tupI),.int (1-w)]=some (.int v)):∃y5,
  fD (dG G f) rc [.memo [],.dat (.tup (L.map tupI)),cG w,x3,cH c,x5,x6]=(if v=w then some (.ret (.int w))else some (.next [.memo [],.dat (.tup (L.map tupI)),cG w,x3,cH c,y5,x6])):=by
 have J8:=sl.J8;have e4:n9 (dG G f) rc [.memo [],.dat (.tup (L.map tupI)),cG w,x3,cH c,x5,x6]=some (.next [.memo [],.dat (.tup (L.map tupI)),cG w,x3,cH c,.dat (.tup [tupI (fA [] [] w c).1,tupI (fA [] [] w c).2]),x6]):=by
  unfold n9;rw[lB ((dz rfl).trans (Jz (m:=[]) (y:=[]) (c:=c) (w:=w) (by simp;omega) (by simp;omega)))]
  rfl
 refine⟨.dat (.tup [tupI (fA [] [] w c).1,tupI (fA [] [] w c).2]),?_⟩;unfold fD;rw[LW.cR e4];have ko:cO eW (aY (cP 1) (aY (dt i8 (de 5) (dC (.int 0))) (aY (dt i8 (de 5) (dC (.int 1))) cL))) [.memo [],.dat (.tup (L.map tupI)),cG w,x3,cH c,.dat (.tup [tupI (fA [] [] w c).1,tupI (fA [] [] w c).2]),x6]=some (.tup ((iY L w c).map tupI)):=by
  rw[<-held_eq c hw];exact(dz rfl).trans (JF (.inl rfl) J8 sl.lo.ll)
 have kh:cO gi (aY (cP 2) cL) [.memo [],.dat (.tup (L.map tupI)),cG w,x3,cH c,.dat (.tup [tupI (fA [] [] w c).1,tupI (fA [] [] w c).2]),x6]=some (.int (1-w)):=(dz rfl).trans (EX hw);have km:lU 0 (dG G f) rc (aY (cO eW (aY (cP 1) (aY (dt i8 (de 5) (dC (.int 0))) (aY (dt i8 (de 5) (dC (.int 1))) cL)))) (aY (cO gi (aY (cP 2) cL)) cL)) [.memo [],.dat (.tup (L.map tupI)),cG w,x3,cH c,.dat (.tup [tupI (fA [] [] w c).1,tupI (fA [] [] w c).2]),x6]=some (.int v):=by
  show(aY _ _ _).bind _=_;rw[je ko (iX kh)];exact hr
 have kq:=gX ((kW (o:=qA) (g:=de 2) (y:=.int w) km rfl).trans (u7 v w));unfold sF;by_cases e:v=w
 ·rw[yC (by rw[kq,aR e]),if_pos e]
  rfl
 ·rw[mi (by rw[kq,aG e]),if_neg e]
  rfl
theorem JJ (sl:SL G L) (hw:w=0\/w=1) {rc:cf}{x3 x6:Sl}(val:cn->Int):∀(cs:cm) (x4 x5:Sl),(∀c∈cs,c.length<=4)->(∀c∈cs,val c=0\/val c=1)->(∀c∈cs,rc [dG G f,.tup ((iY L w c).map tupI),.int (1-w)]=some (.int (val c)))->∃y4 y5,
  jo 4 (fD (dG G f) rc) (cs.map tupI) [.memo [],.dat (.tup (L.map tupI)),cG w,x3,x4,x5,x6]=(if(cs.any λc=>val c==w)=true then some (.ret (.int w))else some (.next [.memo [],.dat (.tup (L.map tupI)),cG w,x3,y4,y5,x6]))
 |[],x4,x5,_,_,_=>⟨x4,x5,rfl⟩
 |c::cs,x4,x5,h4,Su,hr=>by
  obtain⟨z5,e⟩:=Pw (f:=f) sl hw (h4 c af) (rc:=rc) (x3:=x3) (x5:=x5) (x6:=x6) (Su c af) (hr c af);obtain⟨y4,y5,ih⟩:=JJ sl hw (rc:=rc) (x3:=x3) (x6:=x6) val cs (cH c) z5 (λa h=>h4 a (ai _ h)) (λa h=>Su a (ai _ h)) (λa h=>hr a (ai _ h))
  refine⟨y4,y5,?_⟩;rw[aE,bF];by_cases hv:val c=w
  ·rw[if_pos hv]at e;rw[JB (j:=4) (f:=fD (dG G f) rc) (d:=tupI c) (δ:=[.memo [],.dat (.tup (L.map tupI)),cG w,x3,x4,x5,x6]) e,if_pos (by simp[hv])]
  ·rw[if_neg hv]at e;rw[jh (j:=4) (f:=fD (dG G f) rc) (d:=tupI c) (δ:=[.memo [],.dat (.tup (L.map tupI)),cG w,x3,x4,x5,x6]) e,ih];have:(val c==w)=false:=by simpa using hv
   rw[this,Bool.false_or]
theorem LX (hF:sH G) (sl:SL G L) (h1:L≠[]) (h2:[]∉L) (hw:w=0\/w=1):(G.at L).ft [] [] w=if((fX G L w).any λc=>(G.at (iY L w c)).ft [] [] (1-w)==w)=true then w else 1-w:=by
 have hG:=hF.ok;have jr:∃l∈L,l≠[]:=by
  cases L with
  |nil=>exact absurd rfl h1
  |cons l r=>exact⟨l,af,λz=>h2 (by rw[<-z];exact af)⟩
 have Su:=mV (w:=w) (hG.at sl.lo) (fV (G.at L).many) hw;have key:(((fX G L w).any λc=>(G.at (iY L w c)).ft [] [] (1-w)==w)=true)↔(G.at L).ft [] [] w=w:=by
  rw[bO];rcases hw with rfl|rfl
  ·rw[Jt hG sl.lo h1 h2 (j4 L) (ip L)];constructor
   ·rintro⟨c,hc,e⟩
    have co:=mq hG sl jr hc;refine⟨c,by simpa [fX]using hc,?_⟩
    have:=sI (w:=0) hF sl co.2.1 co.1 (v:=1) (.inr rfl);rw[if_pos rfl]at this;rw[<-this]
    simpa using e
   ·rintro⟨c,hc,e⟩
    have m3:c∈fX G L 0:=by simpa [fX]using hc
    have co:=mq hG sl jr m3;refine⟨c,m3,?_⟩;have:=sI (w:=0) hF sl co.2.1 co.1 (v:=1) (.inr rfl);rw[if_pos rfl,e]at this
    simpa using this
  ·rw[Ju hG sl.lo h1 h2 (j4 L) (ip L)];have sp:∀c,((L.filter λl=>decide ((l.length:Int)<=G.b)).all λl=>iZ c l)=true↔∀l∈L,l.length<=G.b.toNat->∃p∈l,p∈c:=λc=>by
    have b1:=hG.b1;rw[List.all_eq_true];constructor
    ·intro h l hl hb;have:=h l (List.mem_filter.mpr ⟨hl,aR (by omega)⟩)
     unfold iZ at this;rw[bO]at this;obtain⟨p,hp,hq⟩:=this;exact⟨p,hp,bK hq⟩
    ·intro h l hl;obtain⟨J7,EH⟩:=List.mem_filter.mp hl;have hl3:=bK EH;obtain⟨p,hp,hq⟩:=h l J7 (by omega)
     unfold iZ;rw[bO];exact⟨p,hp,aR hq⟩
   constructor
   ·rintro⟨c,hc,e⟩
    have co:=mq hG sl jr hc;have ub:c∈(rh G.g.toNat (eC L)).filter λc=>(L.filter λl=>decide ((l.length:Int)<=G.b)).all λl=>iZ c l:=by simpa [fX]using hc
    obtain⟨c1,c2⟩:=List.mem_filter.mp ub;refine⟨c,c1,(sp c).mp c2,?_⟩;have:=sI (w:=1) hF sl co.2.1 co.1 (v:=0) (.inl rfl);rw[if_neg (by decide)]at this
    rw[<-this]
    simpa using e
   ·rintro⟨c,c1,c2,e⟩
    have m3:c∈fX G L 1:=by
     have:c∈(rh G.g.toNat (eC L)).filter λc=>(L.filter λl=>decide ((l.length:Int)<=G.b)).all λl=>iZ c l:=List.mem_filter.mpr ⟨c1,(sp c).mpr c2⟩
     simpa [fX]using this
    have co:=mq hG sl jr m3;refine⟨c,m3,?_⟩;have:=sI (w:=1) hF sl co.2.1 co.1 (v:=0) (.inl rfl);rw[if_neg (by decide),e]at this
    simpa using this
 by_cases hk:((fX G L w).any λc=>(G.at (iY L w c)).ft [] [] (1-w)==w)=true
 ·rw[if_pos hk];exact key.mp hk
 ·rw[if_neg hk];have Xi:(G.at L).ft [] [] w≠w:=λz=>hk (key.mpr z)
  rcases hw with rfl|rfl
  ·rcases Su with h|h
   ·exact absurd h Xi
   ·rw[h];rfl
  ·rcases Su with h|h
   ·rw[h];rfl
   ·exact absurd h Xi
theorem DP (hF:sH G) (sl:SL G L) (h1:L≠[]) (h2:[]∉L) (hw:w=0\/w=1) {rc:cf}
  (hr:∀c∈fX G L w,rc [dG G f,.tup ((iY L w c).map tupI),.int (1-w)]=some (.int ((G.at (iY L w c)).ft [] [] (1-w)))):
  jg (dG G f) rc [.memo [],.dat (.tup (L.map tupI)),cG w,.no,.no,.no,.no]=some (.ret (.int ((G.at L).ft [] [] w))):=by
 have hG:=hF.ok;have b1:=hG.b1;have J8:=sl.J8;have jr:∃l∈L,l≠[]:=by
  cases L with
  |nil=>exact absurd rfl h1
  |cons l r=>exact⟨l,af,λz=>h2 (by rw[<-z];exact af)⟩
 have e1:n8 (dG G f) rc [.memo [],.dat (.tup (L.map tupI)),cG w,.no,.no,.no,.no]=some (.next [.memo [],.dat (.tup (L.map tupI)),cG w,cG (jq (L.map λl=>(l.length:Int))),.no,.no,.no]):=by
  have k:eh (iT (cP 1)) 6 jO (cO nL (aY (de 6) cL)) [.memo [],.dat (.tup (L.map tupI)),cG w,.no,.no,.no,.no]=some ((L.map λl=>(l.length:Int)).map D.int):=by
   rw[aV];refine gF (ds:=L.map tupI) rfl (by rw[ae];omega) (jC L λl _=>?_)
   show some (D.int ((l.map D.int).length:Int))=_;rw[ae];rfl
  have kl:cO AS (aY (dL (eh (iT (cP 1)) 6 jO (cO nL (aY (de 6) cL)))) cL) [.memo [],.dat (.tup (L.map tupI)),cG w,.no,.no,.no,.no]=some (.int (jq (L.map λl=>(l.length:Int)))):=(jD k).trans (DO (by simpa using h1))
  unfold n8;rw[lB kl];rfl
 unfold jg;rw[LW.cR e1];have ka:cO dZ (aY (ng (dG G f) 0) (aY (dC (.int 0)) cL)) [.memo [],.dat (.tup (L.map tupI)),cG w,cG (jq (L.map λl=>(l.length:Int))),.no,.no,.no]=some (.int G.b):=
  (dz rfl).trans ((show dZ [di G.many G.ls f G.b G.g,.int 0]=_ from Ss (.inl rfl)).trans rfl)
 have q1:qB (dt qA (de 2) (dC (.int 0))) [.memo [],.dat (.tup (L.map tupI)),cG w,cG (jq (L.map λl=>(l.length:Int))),.no,.no,.no]=some (decide (w=0)):=gX ((kW rfl rfl).trans (u7 w 0))
 have q2:qB (dt N9 (de 3) (cO dZ (aY (ng (dG G f) 0) (aY (dC (.int 0)) cL)))) [.memo [],.dat (.tup (L.map tupI)),cG w,cG (jq (L.map λl=>(l.length:Int))),.no,.no,.no]=some (decide (jq (L.map λl=>(l.length:Int))<=G.b)):=gX ((kW (o:=N9) rfl ka).trans rfl)
 obtain⟨m1,m2⟩:=vS (L.map λl=>(l.length:Int)) (by simpa using h1)
 by_cases hq:w=0/\jq (L.map λl=>(l.length:Int))<=G.b
 ·obtain⟨rfl,hb⟩:=hq;have e3:jH (dG G f) rc [.memo [],.dat (.tup (L.map tupI)),cG 0,cG (jq (L.map λl=>(l.length:Int))),.no,.no,.no]=some (.ret (.int 0)):=by
   unfold jH;rw[yC (zN (q1.trans (by simp)) (q2.trans (by rw[aR hb])))]
   rfl
  rw[mj e3];obtain⟨l,hl,e⟩:=List.mem_map.mp m1;have:(G.at L).ft [] [] 0=0:=quick (hG.at sl.lo) (fV _) (l:=l) hl (λp _ z=>by cases z) (by show l.length<=G.b.toNat;omega)
  rw[this]
 ·have e3:jH (dG G f) rc [.memo [],.dat (.tup (L.map tupI)),cG w,cG (jq (L.map λl=>(l.length:Int))),.no,.no,.no]=some (.next [.memo [],.dat (.tup (L.map tupI)),cG w,cG (jq (L.map λl=>(l.length:Int))),.no,.no,.no]):=by
   unfold jH;rw[mi (by
    by_cases h0:w=0
    ·exact zN (q1.trans (by rw[aR h0])) (q2.trans (by rw[aG λz=>hq ⟨h0,z⟩]))
    ·exact JC (q1.trans (by rw[aG h0])))]
   rfl
  rw[LW.cR e3];have kt:iT (lU 0 (dG G f) gx (aY (cP 1) (aY (cP 2) cL))) [.memo [],.dat (.tup (L.map tupI)),cG w,cG (jq (L.map λl=>(l.length:Int))),.no,.no,.no]=some ((fX G L w).map tupI):=by
   have:lU 0 (dG G f) gx (aY (cP 1) (aY (cP 2) cL)) [.memo [],.dat (.tup (L.map tupI)),cG w,cG (jq (L.map λl=>(l.length:Int))),.no,.no,.no]=some (.tup ((fX G L w).map tupI)):=LV (f:=f) hG sl jr hw
   unfold iT;rw[this]
  have Zy:∀c∈fX G L w,(G.at (iY L w c)).ft [] [] (1-w)=0\/(G.at (iY L w c)).ft [] [] (1-w)=1:=λc hc=>by
   have co:=mq hG sl jr hc;have sn:=hF.sl (BC (w:=w) hF sl co.2.1 co.1);exact mV (hG.at sn.lo) (fV _) (by omega)
  obtain⟨y4,y5,e⟩:=JJ (f:=f) sl hw (rc:=rc) (x3:=cG (jq (L.map λl=>(l.length:Int)))) (x6:=.no) (λc=>(G.at (iY L w c)).ft [] [] (1-w)) (fX G L w) .no .no (λc hc=>(mq hG sl jr hc).2.2.1) Zy hr
  have e7:=(show oh (dG G f) rc [.memo [],.dat (.tup (L.map tupI)),cG w,cG (jq (L.map λl=>(l.length:Int))),.no,.no,.no]=jo 4 (fD (dG G f) rc) ((fX G L w).map tupI) [.memo [],.dat (.tup (L.map tupI)),cG w,cG (jq (L.map λl=>(l.length:Int))),.no,.no,.no] by
   unfold oh;exact oi kt rfl).trans e
  rw[LX hF sl h1 h2 hw];by_cases ha:((fX G L w).any λc=>(G.at (iY L w c)).ft [] [] (1-w)==w)=true
  ·rw[if_pos ha]at e7 ⊢;rw[mj e7]
  ·rw[if_neg ha]at e7 ⊢;rw[LW.cR e7];unfold sG;exact gh ((dz rfl).trans (EX hw))
end
end PW
namespace PW
open PySem DL GP PC
open LW (cX dw dE)
open L2 (kD rq)
section
variable {G:Gm}{L:cm}{f w:Int}
theorem JK:(G.at []).ft [] [] w=1:=by
 have ho:(G.at []).over [] []=some 1:=rfl;unfold Gm.ft Gm.uJ;rw[ho]
theorem Gz (h:[]∈L):(G.at L).ft [] [] w=0:=by
 have ho:(G.at L).over [] []=some 0:=mG.mpr ⟨[],h,λp hp=>by cases hp⟩
 unfold Gm.ft Gm.uJ;rw[ho]
theorem BD (hF:sH G) (sl:SL G L) (hw:w=0\/w=1) {rc:cf}
  (hr:L≠[]->[]∉L->rc [dG G f,.tup (L.map tupI),.int w]=some (.int ((G.at L).ft [] [] w))):
  iE (dG G f) rc [.memo [],.dat (.tup (L.map tupI)),cG w]=some (.ret (.int ((G.at L).ft [] [] w))):=by
 have hG:=hF.ok;unfold iE;have q2:qB (dt qA (cO nL (aY (de 1) cL)) (dC (.int 0))) [.memo [],.dat (.tup (L.map tupI)),cG w]=some (decide (((L.length:Nat):Int)=0)):=by
  have k:cO nL (aY (de 1) cL) [.memo [],.dat (.tup (L.map tupI)),cG w]=some (.int ((L.length:Nat):Int)):=by
   show some (D.int ((L.map tupI).length:Int))=_;rw[ae]
  exact gX ((kW (o:=qA) (g:=dC (.int 0)) (y:=.int 0) k rfl).trans (u7 _ 0))
 by_cases h1:L=[]
 ·subst h1;have e2:kz (dG G f) rc [.memo [],.dat (.tup (([]:cm).map tupI)),cG w]=some (.ret (.int 1)):=rfl;rw[mj e2,JK]
 ·have e2:kz (dG G f) rc [.memo [],.dat (.tup (L.map tupI)),cG w]=some (.next [.memo [],.dat (.tup (L.map tupI)),cG w]):=by
   unfold kz;rw[mi (q2.trans (by
    rw[aG];intro z;apply h1
    exact List.eq_nil_of_length_eq_zero (by omega)))]
   rfl
  rw[LW.cR e2];have q4:qB (dt CO (eE cL) (de 1)) [.memo [],.dat (.tup (L.map tupI)),cG w]=some (decide ([]∈L)):=gX ((kW (o:=CO) (x:=tupI []) (y:=.tup (L.map tupI)) rfl rfl).trans (JD [] L));by_cases h2:[]∈L
  ·have e4:i6 (dG G f) rc [.memo [],.dat (.tup (L.map tupI)),cG w]=some (.ret (.int 0)):=by
    unfold i6;rw[yC (q4.trans (by rw[aR h2]))]
    rfl
   rw[mj e4,Gz h2]
  ·have e4:i6 (dG G f) rc [.memo [],.dat (.tup (L.map tupI)),cG w]=some (.next [.memo [],.dat (.tup (L.map tupI)),cG w]):=by
    unfold i6;rw[mi (q4.trans (by rw[aG h2]))]
    rfl
   rw[LW.cR e4];have hM:Ts (dG G f)=Jx G hG:=DH hG f;have k:∀ks,eE (aY (cP 1) (aY (cP 2) cL)) [.memo ks,.dat (.tup (L.map tupI)),cG w]=some (uK L w):=λks=>rfl
   have Zz:=hr h1 h2;have km:lU 0 (dG G f) rc (aY (cP 1) (aY (cP 2) cL)) [.memo [],.dat (.tup (L.map tupI)),cG w]=some (.int ((G.at L).ft [] [] w)):=Zz;have e5:mX (dG G f) rc [.memo [],.dat (.tup (L.map tupI)),cG w]=some (.next [.memo [uK L w],.dat (.tup (L.map tupI)),cG w]):=by
    unfold mX o6;rw[k,km,hM];exact if_pos (Jw sl.s hw)
   have ko:=EU L w;have e6:mY (dG G f) rc [.memo [],.dat (.tup (L.map tupI)),cG w]=some (.next [.memo [uK L w],.dat (.tup (L.map tupI)),cG w]):=by
    unfold mY rV;rw[k,e5];refine if_pos ⟨ko.1,ko.2,rfl,λi s hs=>?_⟩
    match i,hs with
    |0,hs=>exact .inr (.inl hs)
    |1,hs=>exact .inr (.inl hs)
    |2,hs=>exact .inr (.inl hs)
    |(i+3),hs=>cases hs
   rw[LW.cR e6];unfold qK;refine gh ?_;unfold o5;rw[k,hM];exact(if_pos ⟨ko.1,ko.2,bt.mpr rfl⟩).trans (Jw sl.s hw)
theorem um (hF:sH G):∀(n:Nat),(∀L w,Jv G L->(w=0\/w=1)->L≠[]->[]∉L->2*(eC L).length+2<=n->mn n [dG G f,.tup (L.map tupI),.int w]=some (.int ((G.at L).ft [] [] w)))/\
  (∀L w,Jv G L->(w=0\/w=1)->2*(eC L).length+3<=n->gC n [dG G f,.tup (L.map tupI),.int w]=some (.int ((G.at L).ft [] [] w)))
 |0=>⟨λ_ _ _ _ _ _ h=>by omega,λ_ _ _ _ h=>by omega⟩
 |n+1=>by
  obtain⟨Vl,Vm⟩:=um hF n;refine⟨λL w s hw h1 h2 hn=>?_,λL w s hw hn=>?_⟩
  ·have sl:=hF.sl s;have jr:∃l∈L,l≠[]:=by
    cases L with
    |nil=>exact absurd rfl h1
    |cons l r=>exact⟨l,af,λz=>h2 (by rw[<-z];exact af)⟩
   unfold mn;refine qm rfl ?_;show jg (dG G f) (gC n) [.memo [],.dat (.tup (L.map tupI)),cG w,.no,.no,.no,.no]=_;refine DP hF sl h1 h2 hw λc hc=>?_
   have co:=mq hF.ok sl jr hc;have fw:=DN (w:=w) sl co.2.1 co.2.2.2;exact Vm _ _ (BC hF sl co.2.1 co.1) (by omega) (by omega)
  ·have sl:=hF.sl s;unfold gC;refine qm rfl ?_;show iE (dG G f) (mn n) [.memo [],.dat (.tup (L.map tupI)),cG w]=_;exact BD hF sl hw λh1 h2=>Vl L w s hw h1 h2 (by omega)
theorem BE (hF:sH G) {m y:cn}(p:eO G.many m y) (hw:w=0\/w=1):mK [dG G f,tupI m,tupI y,.int w]=some (.int (G.ft m y w)):=by
 have hG:=hF.ok;have s:Jv G (gB G.ls m y):=⟨m,y,p,rfl⟩;have sl:=hF.sl s;have hu:=wL hG.m9 sl.lo.li;refine qm rfl ?_;show jI (dG G f) [.memo [],cH m,cH y,cG w]=_;have ko:cO eW (aY (dt i8 (dt i8 (ng (dG G f) 0) (dC (.int 0))) (dC (.int 1))) (aY (cP 1) (aY (cP 2) cL))) [.memo [],cH m,cH y,cG w]=some (.tup ((gB G.ls m y).map tupI)):=(dz rfl).trans (JF (.inl rfl) hF.J8 hG.ll);unfold jI qL;refine gh ?_;show(aY _ _ _).bind _=_;rw[je ko rfl];show gC 24 [dG G f,.tup ((gB G.ls m y).map tupI),.int w]=_;rw[(um (f:=f) hF 24).2 _ w s hw (by omega),<-wy hG hF.lo hF.rise p hw]
 rfl
theorem qN (hF:sH G) {m y:cn}(p:eO G.many m y) (hw:w=0\/w=1):eM [dG G f,tupI m,tupI y,.int w]=some (.int (G.ft m y w)):=by
 refine LW.eF rfl ?_;show jJ [.dat (dG G f),cH m,cH y,cG w]=_;unfold jJ oC;exact gh (BE hF p hw)
theorem GA (hF:sH G) (hf:f=0\/f=1):eR [dG G f]=some (.int (G.ft [] [] f)):=by
 refine LW.eF rfl ?_;show qk [.dat (dG G f)]=_;unfold qk wI;exact gh ((dz (F:=eM) (ds:=[dG G f,tupI [],tupI [],.int f]) rfl).trans (qN hF (fV _) hf))
end
end PW
namespace ST
open PySem PySem.Spec PyProof.Rows
theorem BF:isSubtype (.type "tuple") (.type "set")=pure false:=by rw[isSubtype_type];kernel_rfl
theorem BG:isSubtype (.type "tuple") (.type "frozenset")=pure false:=by rw[isSubtype_type];kernel_rfl
section
variable {prog:cz}{w:cA}{A:cB}{E:cg}{s:cx}
end
end ST
namespace DL
open PySem PySem.Spec PyProof.Rows L2
noncomputable def wM (f:cb):cb:=λδ=>((f δ).bind Ig).map λb=>.bl (!b)
section
variable [Mem] {X:Cx}{a e:cE}{f:cb}{p p2 pos dY:Pos}
theorem LY (ha:PO X a f):PD X (.UnaryOp .Not a pos) (wM f):=by
 intro pins s σ H Q I ⟨C,δ,d,x,q,k⟩;unfold wM at q;cases hf:f δ with
 |none=>rw[hf]at q;cases q
 |some d0=>
  rw[hf]at q;cases ht:Ig d0 with
  |none=>simp[ht]at q
  |some b=>
   simp[ht]at q;subst q;refine UnaryOp_ (gS (ha pins s σ H (λv H1=>∃C1,Ev C H C1 H1/\Kk X.K v H1 b) I ⟨C,δ,d0,x,hf,λv C1 H1 ev i=>⟨C1,ev,Ep ev.s i ht⟩⟩) λv s1 ⟨y,H1,I1,r1,C1,ev,tv⟩=>?_)
   refine not_of (gS (Ha pins s1 σ H1 y v (λc H2=>c=b/\∃C2,Ev C H C2 H2) I1 r1 ⟨b,tv,rfl,C1,ev⟩) λc s2 ⟨H2,I2,e2,C2,ZA⟩=>?_)
   subst e2;exact⟨.bl (!c),H2,I2,rfl,k _ C2 H2 ZA (.bl _)⟩
theorem LZ (ha:WO X a f):WD X (.UnaryOp .Not a pos) (wM f):=⟨LY ha.go⟩
end
end DL
namespace DL
open PySem PySem.Spec PyProof.Rows L2
noncomputable def ji (f:cb):bY:=λδ=>match f δ with
 |some (.tup ds)=>if ds.length<=18 then(jU ds).map λnss=>(fQ nss.eraseDups).map tupI else none
 |_=>none
noncomputable def nA (f:cb):bY:=λδ=>match f δ with
 |some (.lst ds)=>(intsOf ds).bind λns=>if ns.length<=4 then some ((sortI ns.eraseDups).map D.int)else none
 |_=>none
noncomputable def mulL (x y:D):Option (cu):=match x,y with
 |.lst ds,.int n=>if ds.length<=1000/\0<=n/\n<=1 then some (if n=0 then[]else ds)else none
 |_,_=>none
noncomputable def BH (k j m:Nat) (i:bY) (f:cb):bZ:=λδ=>match δ[m]? with
 |some (.own ls)=>if ls.length<1000000 then(i δ).bind λds=>if ds.length<1000000 then(qr j m f δ ls ds).map λr=>.next ((δ.set m (.own r.2)).set k (.dat (.tup r.1)))else none else none
 |_=>none
section
variable [Mem] {X:Cx}{e:cE}{pos:Pos}{C0 H0:Hp}{f:cb}
theorem GB {B:Hp}{j m:Nat}{i:bY}{tt:TT}(HZ:m≠j) (ht:∀σ H Q,tQ jO σ H Q->tt σ H Q) {K:W.Frag}{σ:L2.St}{C H:Hp}{δ:dM}{Q:VK}{ls ds ys rem:cu}(gd:Gd B C0 H0 δ σ C H) (hm:δ[m]? =some (.own ls)) (Rx:ls.length<1000000) (hf:i δ=some ds) (hz:ds.length<1000000) (hp:qr j m f δ ls ds=some (ys,rem))
  (kk:∀A C2 H2 acc,Gd B C0 H0 (δ.set m (.own rem)) σ C2 H2->H0 A=none->C2 A=none->H2 A=some (.lst acc)->IsL C2 acc ys->(∀(k:Nat) (es:cu),(δ.set m (.own rem))[k]? =some (.own es)->σ[k]? ≠some (some (.ref A)))->Q (.ref A) H2):
  xV (tI i) j tt (QV K "list" yW (ir m) (P8 (aY f cL))) σ H Q:=by
 refine⟨C,δ,ds,gd.x,hf,λJ C1 H1 ev wk A hA=>?_⟩
 have g1:=gd.Ak ev;have Ia:∀(k:Nat) (es:cu),δ[k]? =some (.own es)->σ[k]? ≠some (some (.ref A)):=λk es e z=>by
  obtain⟨a,xs,h1,_,h3,_⟩:=g1.x.own k es e;rw[z]at h1;cases h1;rw[hA]at h3;cases h3
 have CU:∀(ls:cu) (k:Nat) (es:cu),(δ.set m (.own ls))[k]? =some (.own es)->σ[k]? ≠some (some (.ref A)):=λls k es e=>by
  obtain⟨fs,e'⟩:=getElem?_set_own ⟨_,hm⟩ e;exact Ia k fs e'
 have OL:H0 A=none:=g1.ev.free hA;have dm:δ.set m (.own ls)=δ:=by
  apply List.ext_getElem?
  intro n;by_cases e:n=m
  ·subst e;rw[bc (List.getElem?_eq_some_iff.mp hm).1,hm]
  ·rw[aF (Ne.symm e)]
 refine⟨λn mm acc H'=>∃C' lc done rest,mm=ds.length-n/\n<=ds.length/\Gd B C0 H0 (δ.set m (.own lc)) σ C' H'/\dR C1 C'/\C' A=none/\H' A=some (.lst acc)/\IsL C' acc done/\done.length<=n/\lc.length<1000000/\qr j m f δ lc (ds.drop n)=some (rest,rem)/\ys=done++rest,
  ⟨ds.length,C1,ls,[],ys,by simp,bL _,by rw[dm];exact g1.fu OL (ev.s.free hA) Ia (λu q=>by rw[hA]at q;cases q) _,dR.refl _,ev.s.free hA,cU,.nil,au _,Rx,by simpa using hp,rfl⟩,?_⟩
 rintro n mm acc H2 ⟨C2,lc,done,rest,rfl,hn,g2,sc,a2,b2,l2,Um,Ur,q2,ey⟩
 have w:=wk n C2 H2 sc g2.x.sub;by_cases eY:n<ds.length
 ·have hd:ds[n]? =some ds[n]:=ah eY;obtain⟨go,yl⟩:=w.1 _ hd;rw[List.drop_eq_getElem_cons eY]at q2;refine .inr ⟨go,λv H3 y=>?_⟩
  obtain⟨rfl,is⟩:=yl v H3 y;have x3:=g2.x.nJ (i:=j) is;unfold qr at q2;split at q2
  case h_2=>cases q2
  rename_i ii Us;split at q2
  case isFalse=>cases q2
  rename_i Ut;split at q2
  case h_2=>cases q2
  rename_i x hx;cases hr:qr j m f δ (lc.eraseIdx ii.toNat) (ds.drop (n+1))with
  |none=>rw[hr]at q2;cases q2
  |some pr=>
   rw[hr]at q2;cases q2;have Uu:m<δ.length:=(List.getElem?_eq_some_iff.mp hm).1;have om:(δ.set m (.own lc))[m]? =some (.own lc):=bc Uu;obtain⟨a,xs,h1,h2,h3,h4⟩:=g2.x.own m lc om;refine ht _ _ _ ⟨C2,_,true,x3,rfl,λC4 H4 e4=>AA ?_⟩
   have g4:=g2.Ak e4;have Fz:=e4.hh h3;refine⟨.ref a,by rw[aF (Ne.symm HZ)];exact h1,.inl ⟨rfl,_,oF.of Fz⟩,C4,_,[.int ii],x3.ev e4,by unfold aY cL;rw[Us];rfl,λvs C5 H5 e5 i5=>?_⟩
   cases i5 with
   |cons Uv Uw=>
    cases Uw;cases Uv;have yb:=e4.trans e5;have g5:=g2.Ak yb;have Ux:=yb.hh h3;have l5:=h4.mono yb.c;obtain⟨vx,Ry,Uy⟩:=l5.get hx;have hlen:xs.length=lc.length:=l5.length;have Uz:ii.toNat<xs.length:=(List.getElem?_eq_some_iff.mp Ry).1;have aA:a≠A:=λz=>CU lc m lc om (by rw[h1,z])
    have Ox:H5 A=some (.lst acc):=yb.hh b2;have a5:=yb.nn a2 b2;refine⟨a,xs,ii,ii.toNat,vx,rfl,rfl,Ux,by omega,by omega,seqIndex_of Ut (by omega),Ry,?_⟩
    refine⟨by rw[cQ (Ne.symm aA)];exact Ox,by rw[l2.length];exact rN (by omega),ds.length-(n+1),by omega,C5,lc.eraseIdx ii.toNat,done++[x],pr.1,rfl,eY,?_,sc.trans yb.c,a5,cU,(l2.mono yb.c).append (.one Uy),?_,?_,hr,?_⟩
    ·have g6:=g5.mut (es:=lc.eraseIdx ii.toNat) om h1 (l5.eraseIdx ii.toNat);rw[List.set_set]at g6;exact g6.fu OL a5 (CU _) (λu q=>by rw[cQ (Ne.symm aA),Ox]at q;cases q;rfl) _
    ·rw[aQ,List.length_singleton];omega
    ·exact Nat.lt_of_le_of_lt (pY _ _) Ur
    ·rw[ey,List.append_assoc];rfl
 ·have e:n=ds.length:=by omega
  subst e;rw[List.drop_length]at q2;unfold qr at q2;cases q2;rw[bB]at ey;subst ey;exact .inl ⟨w.2 (au _),kk A C2 H2 acc g2 OL a2 b2 l2 (CU _)⟩
theorem GC {B:Hp}{k j m:Nat}{i:bY}{tt:TT}(HZ:m≠j) (ht:∀σ H Q,tQ jO σ H Q->tt σ H Q) {K:W.Frag}:∀Dn σ H,tS B C0 H0 (BH k j m i f) Dn σ H->
  Kg (P2 (λxs H Q=>∃p ys,xs=[V.ref p]/\((oF K H p ys/\∀l,H l=none->Q (.ref l) (upd H l (.tup ys)))\/(iU K H p ys/\Q (.ref p) H))) (Hf (xV (tI i) j tt (QV K "list" yW (ir m) (P8 (aY f cL)))) NH)) (vh k) Dn σ H:=λDn σ H ⟨C,δ,r,gd,q,kk⟩=>by
 unfold BH at q;split at q
 case h_2=>cases q
 rename_i ls hm;split at q
 case isFalse=>cases q
 rename_i Rx;cases hf:i δ with
 |none=>rw[hf]at q;cases q
 |some ds=>
  rw[hf]at q;simp only[ao]at q;split at q
  case isFalse=>cases q
  rename_i hz;cases hp:qr j m f δ ls ds with
  |none=>rw[hp]at q;cases q
  |some pr=>
   rw[hp]at q;cases q;unfold Kg P2 Hf NH;refine GB HZ ht gd hm Rx hf hz hp λA C2 H2 acc g a0 a2 b2 l2 own=>?_
   refine⟨A,acc,rfl,.inl ⟨oF.of b2,λt ht=>?_⟩⟩
   have ev:Ev C2 H2 (upd C2 t (.tup acc)) (upd H2 t (.tup acc)):=.new g.x.sub ht;exact kk _ _ _ ((g.Ak ev).nJ (.tup cU (l2.mono (eD (g.x.sub.free ht)))))
variable {elt o iter:cE}{x y:Str}{px py mO apos dY tp oQ:Pos}{scope:Scope}{i:bY}
theorem L0 (k j m:Nat) (hc:X.calm=true) (HZ:m≠j) (S:gm X scope x j) (hN:X.N.Nodup) (hg:Gl X "tuple") (NT:X.mg "tuple"=none) (hi:uE X (.Name x px) iter i) (ho:∀cl C s H fp,PE (df X scope cl C s H fp) o (ir m)) (he:∀cl C s H fp,WD (df X scope cl C s H fp) e f)
  (m8:∀cl C s H fp,starEach [e] (df X scope cl C s H fp).env=(false,eval e (df X scope cl C s H fp).env)::starEach [] (df X scope cl C s H fp).env:=by intros;exact eG rfl)
  (oU:∀cl C s H fp,attributeBase o "pop" (df X scope cl C s H fp).env (eval o (df X scope cl C s H fp).env)=eval o (df X scope cl C s H fp).env:=by intros;rfl)
  (vn:∀cl C s H fp,((backTo dY (starEach [e] (df X scope cl C s H fp).env)).all (λx=> !x.1)&&(backToKw dY (keywordEach [] (df X scope cl C s H fp).env)).all (λx=>x.1.isSome)
   &&decide ([e].length+([]:List Keyword).length+(if([]:List Keyword).isEmpty then 0 else 1)<30))=true:=by intros;exact HG rfl)
  (oV:(apos.endLine==dY.line)=true:=by rfl) (lM:∀cl C s H fp,(backTo dY (starEach [] (df X scope cl C s H fp).env)).any (·.1)=false:=by intros;rfl)
  (hk:X.N[k]? =some y:=by rfl) (hy:Loc X.env.scope y:=by first|exact Or.inl rfl|exact Or.inr rfl) (hf:X.fn y=true\/X.env.scope.names.lookup y=some .local:=by first|exact .inl rfl|exact .inr rfl)
  (uH:starEach [.ListComp (.Call (.Attribute o "pop" apos) [e] [] dY) [⟨.Name x px,iter,[],0⟩] scope pos] X.env=(false,eval (.ListComp (.Call (.Attribute o "pop" apos) [e] [] dY) [⟨.Name x px,iter,[],0⟩] scope pos) X.env)::starEach [] X.env:=by exact eG rfl)
  (CA:swapsWith (.Call (.Name "tuple" tp) [.ListComp (.Call (.Attribute o "pop" apos) [e] [] dY) [⟨.Name x px,iter,[],0⟩] scope pos] [] oQ) (some (.Name y py)) mO.line X.env=pure false:=by rfl)
  (hs:∀v,foldedSetIterable iter X.env v=pure v:=by intro _;rfl):WB X C0 H0 (.Assign [.Name y py] (.Call (.Name "tuple" tp) [.ListComp (.Call (.Attribute o "pop" apos) [e] [] dY) [⟨.Name x px,iter,[],0⟩] scope pos] [] oQ) mO) (BH k j m i f):=
 ⟨λB=>(yO hN hk hy (sU qy hg NT ez (mC (yY hc S hi.go (λ_ _ _ _ _=>rG) (λcl C s H fp=>Hq PySem.F.plainAttrs_list PySem.F.slot_list_pop PySem.F.type_list_pop Ay (ho cl C s H fp) (oX (he cl C s H fp).go rM (m8 cl C s H fp)) (oU cl C s H fp) (vn cl C s H fp) oV (m8 cl C s H fp) (lM cl C s H fp)) hs) oR uH) (by decide) (by decide) uH (fx rfl)) CA hf).imp (GC HZ zf)⟩
end
section
variable [Mem] {X:Cx}{a b:cE}{pos:Pos}{f g:cb}
theorem L1:t9 X (binaryOp .Mult) (λx y H Q=>∃l k xs,x=.ref l/\y=.int k/\Rd H l (.lst xs)/\0<=k/\k<=1/\xs.length<=1000/\∀p,H p=none->Q (.ref p) (upd H p (.lst (List.replicate k.toNat xs).flatten))):=by
 intro pins s σ H x y v u Q I rx ry h;obtain⟨l,k,xs,rfl,rfl,hH,h1,h2,hz,q⟩:=h;cases rx;obtain⟨t,rfl⟩:=ry;obtain⟨z,dg,n,r,e⟩:=hH.ok I.fP;have hl:=r.length;have hs:sizeLine=16777216:=bu;have hk:k.toNat<=1:=by omega
 have hm:dg.length*k.toNat<=dg.length*1:=Nat.mul_le_mul_left _ hk;have hlen:dg.toArray.size*k.toNat<=sizeLine:=by rw[aq];omega
 have Vn:¬ dg.toArray.size*k.toNat>(2^63-1)/8:=by
  have:(sizeLine:Nat)<=(2^63-1)/8:=by decide
  omega
 have Vo:¬ (!Builtin.List.listFitsIndex k)=true:=by
  rw[fitsIndex_both (by omega) (by omega)]
  exact aZ
 have Sv:¬ Builtin.List.listTooLong (dg.toArray.size*k.toNat)=true:=by
  rw[Hr hlen];exact aZ
 have Vp:List.foldl (λx1 x2=>x1++x2) #[] (List.replicate (if dg.toArray.isEmpty=true then 0 else k.toNat) dg.toArray)=(List.replicate k.toNat dg).flatten.toArray:=by
  have f0:∀m:Nat,List.foldl (λx1 x2=>x1++x2) #[] (List.replicate m dg.toArray)=(List.replicate m dg).flatten.toArray:=λm=>by
   have:=foldl_rep dg m []
   rwa [List.nil_append]at this
  rw[f0];cases dg with
  |nil=>simp
  |cons a r'=>rw[if_neg (by simp)]
 refine wpAny_binaryOp_repeat_ref (T:="list") (U:="int") (by decide) ⟨_,e,rfl⟩ (λs'=>typeIs_int s' k t) noFill_list_mul F.fills_int_mul F.slot_int_rmul repeat_list F.slot_int_index.lookup
  (call_meets F.slot_int_rmul (typeIs_int s k t) F.entry_int_rmul (F.args_int_rmul_2 _ _) (int___rmul___int_list k t l dg.toArray n)
   ⟨e,rfl,⟨_,e,rfl⟩,call_meets F.slot_list_mul ⟨_,e,rfl⟩ F.entry_list_mul (F.args_list_mul_2 _ _) (AutoListH.list___mul___list_int_3 l dg.toArray n k t Vo Vn Sv) ⟨e,?_⟩⟩)
 rw[Vp];refine⟨.ref _,_,I.QX (t':=s.toks) (r.rep k.toNat) ?_,rfl,q _ I.fresh⟩;rw[len_rep];have:k.toNat*xs.length<=1*xs.length:=Nat.mul_le_mul_right _ hk;omega
theorem L3:S7 (λx y H Q=>∃l k xs,x=.ref l/\y=.int k/\Rd H l (.lst xs)/\0<=k/\k<=1/\xs.length<=1000/\∀p,H p=none->Q (.ref p) (upd H p (.lst (List.replicate k.toNat xs).flatten))) mulL:=λC H x y d e ds Q s ix iy q k=>by
 unfold mulL at q;split at q
 case h_2=>cases q
 split at q
 case isFalse=>cases q
 rename_i es n hz;cases q;obtain⟨p1,xs,rfl,h1,l1⟩:=ix.HU s;refine⟨p1,n,xs,rfl,iy.int,h1,hz.2.1,hz.2.2,by rw[l1.length];exact hz.1,λt ht=>k t _ C _ (.fu s ht) ht (s.free ht) cU ?_⟩
 by_cases h0:n=0
 ·subst h0;exact .nil
 ·have:n=1:=by omega
  subst this
  simpa using l1
theorem L4 (ha:WO X a f) (hb:WO X b g):WF X (.BinOp a .Mult b pos) (dt mulL f g):=⟨Mz L1 L3 ha.go hb.go⟩
end
end DL
namespace ST
open PySem PySem.Spec PyProof.Rows DL SetTable
section
variable {prog:cz}{w:cA}{A:cB}{E:cg}{s:cx}
theorem DQ {l:cD}{items:Array cw}{val:cu}{led:Bool}(hh:A.handled=none) (hu:A.units+20<cLine) (hl:s.heap.IsTuple l items) (hn:items.size=val.length)
  (hit:∀(i:Nat) (v:cw),items[i]? =some v->(∃xa,v=.ref xa)/\dU (val.getD i .fN)<=4/\KI s.heap v (val.getD i .fN)) (hb:items.size<=18) {Q:PySem.Fin->cx->Prop}
  (h:∀h' tk,Made (·∈items.toList) led s val h'->Q (.done (.ret .none)) {s with heap:=h',toks:=tk}):
  wpAny (model prog w) A (Builtin.«set.__init__» ⟨[.ref s.heap.objs.size,.ref l],[]⟩) Q E {s with heap:=s.heap.push (dc led)}:=by
 obtain⟨⟨R5,AZ,MT,v3⟩,MU,rH,nl,MV⟩:=hl;simp only at rH MV;subst rH MV;have hS:(s.heap.push (dc led)).get? s.heap.objs.size=some (dc led):=ay _ rfl;have hT:Shared.TypeIs {s with heap:=s.heap.push (dc led)} (.ref s.heap.objs.size) "set":=⟨_,hS,rfl⟩
 have IU:(s.heap.push (dc led)).get? l=some {cls:=.type "tuple",dict:=AZ,data:=.seq items nl,slots:=v3}:=ag _ MU;have R6:=BF;have R7:=BG;have jr:(Value.type "tuple"==Value.type "dict")=false:=by decide
 have J7:(s.heap.push (dc led)).IsTuple l items:=⟨_,IU,rfl,nl,rfl⟩;unfold Builtin.«set.__init__» noKeywords Builtin.Frozenset.updateFrom;generalize R8:pyIter=PI
 wp_walk
 subst R8;refine wpAny_pyIter_tuple J7 ?_;refine aa (wpAny_runValue ?_);have MW:l<s.heap.objs.size:=az MU;have IV:(s.heap.push (dc led)).objs.size=s.heap.objs.size+1:=Heap.size_push ..;have Dp:l≠(s.heap.push (dc led)).objs.size:=by rw[IV];exact aD (Nat.lt_succ_of_lt MW)
 have IS:s.heap.objs.size∉[(s.heap.push (dc led)).objs.size,l]:=by
  rw[IV];simp only[List.mem_cons,bH,or_false,not_or];exact⟨aD (Nat.lt_succ_self _),bw MW⟩
 have R9:((s.heap.push (dc led)).push {cls:=.type "tuple_iterator",data:=.fields #[.ref l,.int 0 0]}).get? s.heap.objs.size=some (dc led):=ag _ hS;have W:=(Walks.tuple (prog:=prog) (w:=w) (A:=A.in1) hh (s.heap.push (dc led)).objs.size l Dp items).toS;refine MR (Pv:=(·∈items.toList)) W s.heap.objs.size IS (λi=>val.getD i .fN) s.heap (λi v hv=>⟨(hit i v hv).1,(hit i v hv).2.1,(hit i v hv).2.2,Array.mem_toList_iff.mpr (Array.mem_of_getElem? hv)⟩) hb (by omega) (λi s' b o st UT e c=>?_) (items.size-0) 0 _ (by omega) (bL _) ⟨⟨_,ay _ rfl,rfl,rfl⟩,J7.push _⟩ (λb o e _=>ag _ (ag _ e)) ⟨[],vZ led R9,au _,λd=>⟨(λz=>by cases z),λ⟨m,hm,_⟩=>by omega⟩⟩ (λs' hm UU ⟨ds,Sa,_,mw⟩=>?_)
 ·have Hl:b=(s.heap.push (dc led)).objs.size:=by simpa using UT
  obtain⟨o',e',c',_⟩:=st.1;subst Hl;rw[e]at e';cases e';rw[c]at c';exact absurd c' (by decide)
 ·obtain⟨h',g',d',An,Kp⟩:=s';have eg:g'=s.gens:=hm.gens;have ed:d'=s.drawn:=hm.drawn;have eo:Kp=s.os:=hm.os;subst eg ed eo;show wpAny _ _ _ _ _ _;refine aj ?_;show wpAny _ _ (ret Value.none) _ _ _;refine aj (h h' An ⟨⟨ds,Sa,λd=>(mw d).trans ⟨λ⟨m,sQ,oJ⟩=>?_,λhd=>?_⟩⟩,λb o hb e=>?_⟩)
  ·have:m<val.length:=by rw[<-hn];exact sQ
   rw[<-oJ];show val.getD m .fN∈val;rw[ak,ah this];exact List.getElem_mem this
  ·obtain⟨m,oJ⟩:=bp hd;refine⟨m,by rw[hn];exact(List.getElem?_eq_some_iff.mp oJ).1,?_⟩
   show val.getD m .fN=d;rw[ak,oJ];rfl
  ·have Sb:b≠s.heap.objs.size:=aD hb;have Lk:b≠(s.heap.push (dc led)).objs.size:=by rw[IV];exact aD (Nat.lt_succ_of_lt hb)
   exact hm.heap b o (by simp only[List.mem_cons,bH,or_false,not_or];exact⟨Sb,Lk⟩) (ag _ (ag _ e))
end
end ST
namespace DL
open PySem PySem.Spec PyProof.Rows L2
section
variable [Mem] {X:Cx}{e:cE}{f:cb}{p p2 pos dY:Pos}
theorem BI (hc:X.calm=true) (hu:X.A.units+64<cLine) (LK:Gl X "sorted") (sQ:X.mg "sorted"=none) (LL:Gl X "set") (oJ:X.mg "set"=none) (ha:PO X e f)
  (uH:starEach [.Call (.Name "set" p2) [e] [] dY] X.env=(false,eval (.Call (.Name "set" p2) [e] [] dY) X.env)::starEach [] X.env:=by exact eG rfl) (Cj:starEach [e] X.env=(false,eval e X.env)::starEach [] X.env:=by exact eG rfl):
  PF X (.Call (.Name "sorted" p) [.Call (.Name "set" p2) [e] [] dY] [] pos) (ji f):=by
 intro pins s σ H Q I ⟨C,δ,ds,x,q,k⟩;unfold ji at q;split at q
 case h_2=>cases q
 rename_i Sk hf;split at q
 case isFalse=>cases q
 rename_i Vd;cases hn:jU Sk with
 |none=>rw[hn]at q;cases q
 |some nss=>
  rw[hn]at q;cases q;have ee:=p9 hn;subst ee;refine wpAny_Call_Name_kw (lL I LK sQ fH ?_);refine PyProof.Rows.callWith_builtin1 ?_ uH rfl;rw[uH];show wpAny _ _ (spliced ((false,eval (.Call (.Name "set" p2) [e] [] dY) X.env)::backTo pos (starEach [] X.env))) _ _ s;refine Calls.spliced_cons ?_;refine wpAny_Call_Name_kw (lL I LL oJ PyProof.Rows.boot_set ?_);refine PyProof.Rows.callWith_type1 (gS ((mC ha oR Cj) dY pins s σ H (λvs H1=>∃v C1,vs=[v]/\Ev C H C1 H1/\oW C1 H1 v (.tup (nss.map tupI))) I ⟨C,δ,_,x,hf,λv C1 H1 ev iv=>⟨v,C1,rfl,ev,iv⟩⟩) λus s1 ⟨vs,H1,I1,r1,v,C1,e1,ev,iv⟩=>?_) Cj rfl
  subst e1;obtain⟨u,rfl,ru⟩:=r1.one;obtain⟨a,xs,rfl,hq,hl,_⟩:=iv.tup (K:=X.K) ev.s;cases ru;obtain⟨dg,rv,pl,hz⟩:=I1.tuple hq;have Ve:xs.length=nss.length:=by rw[hl.length,ae]
  have Ex:dg.length=nss.length:=by rw[<-rv.length,Ve]
  rw[ae]at Vd;have itemAt:∀(i:Nat) (w:cw),dg[i]? =some w->∃(b:cD) (ns:cn),nss[i]? =some ns/\w=.ref b/\iU X.K H1 b (ns.map V.int)/\Is C1 (.ref b) (tupI ns)/\ST.TI s1.heap w ns:=λi w hw=>by
   have hi:i<nss.length:=by rw[<-Ex];exact(List.getElem?_eq_some_iff.mp hw).1
   have xO:nss[i]? =some nss[i]:=ah hi;obtain⟨v,hv,Vf⟩:=hl.get (i:=i) (d:=tupI nss[i]) (by rw[av,xO];rfl)
   obtain⟨w',LM,Ho⟩:=rv.get hv;rw[hw]at LM;cases LM;cases Vf with
   |@tup b ys _ hb l=>
    have ey:=l.mD;subst ey;cases Ho;have Sm:iU X.K H1 b (nss[i].map V.int):=iU.of (ev.s _ _ hb);obtain⟨ts,r2,⟨o,ho,m3,n,hd⟩,_⟩:=I1.tuple Sm;exact⟨b,nss[i],xO,rfl,Sm,.tup hb l,b,o,ts,n,rfl,ho,m3,hd,intsAre_of r2⟩
  have hh:X.A.handled=none:=I1.ok.hd hc;refine ST.mU (Mk:=ST.Made (·∈dg) (!X.w.params.followText "set-order") s1 (nss.map tupI)) (λhQ=>ST.DQ (A:=X.A.in1.in1) (items:=dg.toArray) (val:=nss.map tupI) hh (by show X.A.units+1+1+20<cLine;omega) pl (by rw[aq,ae];exact Ex) (λi w hw=>?_) (by rw[aq];omega) (by simpa using hQ)) λh' tk EB=>?_
  ·obtain⟨b,ns,h1,h2,h3,h4,h5⟩:=itemAt i w (by simpa using hw)
   have eg:(nss.map tupI).getD i .fN=tupI ns:=by rw[ak,av,h1];rfl
   rw[eg];refine⟨⟨b,h2⟩,?_,h5.ki⟩;unfold tupI dU;have:∀l:cn,gZ (l.map D.int)=0:=λl=>by
    induction l with
    |nil=>unfold gZ;rfl
    |cons a l ih=>rw[aE];unfold gZ dU;rw[ih];rfl
   rw[this];decide
  ·obtain⟨⟨AF,kO,mw⟩,keep⟩:=EB;have I2:Inv X pins σ H1 {s1 with heap:=h',toks:=tk}:=I1.kept (t':=tk) λb o eo=>keep b o (az eo) eo
   have zB:AF.length<=nss.length:=by
    have:=bW (l₂:=nss.map tupI) kO.nd λd hd=>(mw d).mp hd
    rwa [ae]at this
   refine Calls.spliced_nil ?_;refine ST.v8 (s:={s1 with heap:=h',toks:=tk}) (R0:=λb ns=>Is C1 (.ref b) (tupI ns)) hc hu I2 kO (by omega) (λw hw=>?_) λD0 l hD hR Vg u0=>?_
   ·obtain⟨i,hi⟩:=bp (show w∈dg by simpa using hw)
    obtain⟨b,ns,_,h2,h3,h4,_⟩:=itemAt i w hi;exact⟨b,ns,h2,h3,h4⟩
   ·have Vh:(l.map (·.2)).Nodup:=by
     have h1:((l.map (·.2)).map tupI).Nodup:=by rw[aV];exact u0.nodup_iff.mpr kO.nd
     exact(List.pairwise_map.mp h1).imp λjr z=>jr (by rw[z])
    have Tq:(l.map (·.2)).Perm nss.eraseDups:=by
     refine(List.perm_ext_iff_of_nodup Vh (jc _ nss (au _))).mpr λns=>?_
     rw[List.mem_eraseDups];have h1:tupI ns∈AF↔ns∈l.map (·.2):=by
      rw[<-u0.mem_iff,List.mem_map,List.mem_map];constructor
      ·rintro⟨p',vX,e'⟩;exact⟨p',vX,sj e'⟩
      ·rintro⟨p',vX,rfl⟩;exact⟨p',vX,rfl⟩
     rw[<-h1,mw,List.mem_map];constructor
     ·rintro⟨m',Am,e'⟩;rw[<-sj e'];exact Am
     ·intro Am;exact⟨ns,Am,rfl⟩
    have es:l.map (·.2)=fQ nss.eraseDups:=fB (λa b h1 h2=>HT.gc h2 h1) (Tq.trans (eA _).symm) Vg (o3 _)
    refine k D0 _ C1 _ (ev.trans (.fu ev.s hD)) (ev.free hD) (ev.s.free hD) cU ?_;show IsL C1 _ ((fQ nss.eraseDups).map tupI);rw[<-es,aV];have aux:∀l:List (cD×cn),(∀p∈l,Is C1 (.ref p.1) (tupI p.2))->IsL C1 (l.map λp=>V.ref p.1) (l.map (tupI∘λp=>p.2)):=λl=>by
     induction l with
     |nil=>intro _;exact .nil
     |cons p l ih=>intro h;exact .cons (h p af) (ih λq hq=>h q (ai _ hq))
    exact aux l hR
theorem uq (hc:X.calm=true) (hu:X.A.units+64<cLine) (LK:Gl X "sorted") (sQ:X.mg "sorted"=none) (LL:Gl X "set") (oJ:X.mg "set"=none) (ha:WO X e f)
  (uH:starEach [.Call (.Name "set" p2) [e] [] dY] X.env=(false,eval (.Call (.Name "set" p2) [e] [] dY) X.env)::starEach [] X.env:=by exact eG rfl) (Cj:starEach [e] X.env=(false,eval e X.env)::starEach [] X.env:=by exact eG rfl):
  WF X (.Call (.Name "sorted" p) [.Call (.Name "set" p2) [e] [] dY] [] pos) (ji f):=⟨BI hc hu LK sQ LL oJ ha.go uH Cj⟩
end
end DL
namespace ST
open PySem PySem.Spec PyProof.Rows DL SetTable
structure SI (prog:cz) (w:cA) (ld:Bool) (h:Heap) (a:cD) (ns:cn):Prop where
 ex:∃(o:Obj) (es:Array (Int×cw)) (ep:Nat) (t:cC),h.get? a=some o/\o.ExactSet/\o.data=.set es ep t/\Wt t (es.toList.map (·.1))/\ElemsOf (intKind prog w) es.toList/\IntsAre (es.toList.map (·.2)) ns/\t.place.size*5<t.mask*3/\t.plain=true/\t.led=ld
 nd:ns.Nodup
theorem wN:∀{l:List (Int×cw)}{ns:cn}{i:Int},IntsAre (l.map (·.2)) ns->((∃e∈l,e.2.isInt i=true)↔i∈ns)
 |[],_,i,h=>by cases h;simp
 |e::l,_,i,h=>by
  generalize hm:(e::l).map (·.2)=vs at h
  cases h with
  |nil=>cases hm
  |cons n t r=>
   rw[aE]at hm;injection hm with h1 h2
   subst h2;have ih:=wN (l:=l) (i:=i) r;rw[List.mem_cons,<-ih];constructor
   ·rintro⟨x,hx,hv⟩
    rcases List.mem_cons.mp hx with rfl|hx
    ·left;rw[h1]at hv;obtain⟨t',e'⟩:=Value.isInt_shape hv;injection e' with e1
     exact e1.symm
    ·exact .inr ⟨x,hx,hv⟩
   ·rintro(rfl|⟨x,hx,hv⟩)
    ·exact⟨e,af,by rw[h1];simp[Value.isInt]⟩
    ·exact⟨x,ai _ hx,hv⟩
theorem JL:∀{vs:cv}{ns:cn}(p:Nat),IntsAre vs ns->∀(i:Int) (t:Tok),IntsAre (ins vs p (.int i t)) (ins ns p i)
 |vs,ns,p,h,i,t=>by
  unfold ins;induction p generalizing vs ns with
  |zero=>exact .cons i t h
  |succ p ih=>
   cases h with
   |nil=>exact .cons i t .nil
   |cons n u r=>exact .cons n u (ih _ _ r)
theorem GD {vs us:cv}{ks:cn}(p:vs.Perm us) (h:IntsAre us ks):∃ms,IntsAre vs ms/\ms.Perm ks:=by
 induction p generalizing ks with
 |nil=>exact⟨ks,h,.refl _⟩
 |cons a _ ih=>
  cases h with
  |cons n t r=>
   obtain⟨ms,h1,h2⟩:=ih r;exact⟨n::ms,.cons n t h1,h2.cons n⟩
 |swap a b l=>
  cases h with
  |cons n t r=>
   cases r with
   |cons n2 t2 r=>exact⟨n2::n::_,.cons n2 t2 (.cons n t r),.swap ..⟩
 |trans _ _ Vl Vm=>
  obtain⟨m1,a1,a2⟩:=Vm h;obtain⟨m2,b1,b2⟩:=Vl a1;exact⟨m2,b1,b2.trans a2⟩
section
variable {prog:cz}{w:cA}{A:cB}{E:cg}{s:cx}
theorem add_int {ld:Bool}{a:cD}{ns:cn}{i:Int}{t0:Tok}{Q:Bool->cx->Prop}(S:SI prog w ld s.heap a ns) (hn:ns.length<4)
  (h:∀b h' uz,Heap.SameBut a s.heap h'->SI prog w ld h' a uz->uz.Perm (if i∈ns then ns else i::ns)->Q b {s with heap:=h'}):
  wpAny (model prog w) A (setAddHashed a (.int i t0) (hashInt i)) Q E s:=by
 obtain⟨o,es,ep,t,ho,hex,hd,W,Tt,hI,hV,jM,Lz⟩:=S.ex;have hf:=W.fits;have hlen:t.place.size=es.size:=by have:=W.len;simpa using this
 have hsz:es.size=ns.length:=by have:=hI.length;simpa using this
 unfold setAddHashed setAddHashedIn;refine bo (aa (wpAny_setState_of ho hd hf ?_));dsimp only;rw[byScan_of (knd:=intKind prog w) (x:=.int i t0) rfl (by unfold scanBound;omega) Tt]
 simp only[↓reduceIte];unfold setAddByScan;refine aa ?_;refine aa (wpAny_rule ?_);refine aa (wpAny_setScan_of (knd:=intKind prog w) (k:=i) (intKind_is _ _ _ _) ho hd hf Tt ?_);cases hr:List.findIdx? (λe=>(intKind prog w).is i e.2) es.toList with
 |some j=>
  dsimp only;obtain⟨hj,ZC,_⟩:=List.findIdx?_eq_some_iff_getElem.mp hr;have jW:i∈ns:=(wN hI).mp ⟨es.toList[j],List.getElem_mem hj,ZC⟩;refine aj (aj ?_);exact h _ s.heap ns (Heap.SameBut.refl a s.heap) S (by rw[if_pos jW])
 |none=>
  dsimp only;have xv:i∉ns:=λjW=>by
   obtain⟨e,he,hp⟩:=(wN hI).mpr jW;have:=List.findIdx?_eq_none_iff.mp hr e he;rw[show(intKind prog w).is i e.2=true from hp]at this
   cases this
  obtain⟨e0,RN,IK⟩:=W.emp;have u0:=o9 t (hashInt i);obtain⟨K,P5,Q2⟩:=reach W.mask u0.pb.nine u0.pb.IB RN;obtain⟨k,Lv,Lw⟩:=Di W.tb (ha:=λ_=>hashInt i+1) (h:=hashInt i) (10*turns t.mask) _ u0.pb ⟨K,P5,by rw[Q2];exact IK⟩
  rcases Lw with⟨Dl,Px⟩|⟨_,_,z,_⟩
  case inr=>omega
  have LA:(it (iB t.mask) k (t.probeStart (hashInt i))).j∉t.place.toList:=λz=>by
   obtain⟨i',xf⟩:=bp z;rw[ni W.tb (i:=i') (by simpa using xf)]at Dl;cases Dl
  have J6:∀m,m<k->(it (iB t.mask) m (t.probeStart (hashInt i))).j∈t.place.toList:=λm hm=>by
   obtain⟨i',h1,_⟩:=Lv m hm;rcases qZ W.tb (it (iB t.mask) m (t.probeStart (hashInt i))).j with⟨i2,_,h2⟩|⟨h2,_⟩
   ·exact Array.mem_toList_iff.mpr (Array.mem_of_getElem? h2)
   ·rw[h1]at h2;cases h2
  have UN:7<=t.mask:=by rcases W.mask with e|e<;>omega
  obtain⟨W1,Es,sQ,uH⟩:=W.put LA J6 (by omega)
  have D2:t.freeSlot (hashInt i)=some ((it (iB t.mask) k (t.probeStart (hashInt i))).j,false):=by
   unfold freeSlot;rw[show t.probe (λ_=>hashInt i+1) (hashInt i) (t.probeStart (hashInt i))=_ from Px]
   rfl
  have Sw:(t.put (it (iB t.mask) k (t.probeStart (hashInt i))).j).1.plain=true:=jM;have Sy:(t.put (it (iB t.mask) k (t.probeStart (hashInt i))).j).1.led=ld:=Lz;obtain⟨t1,p,Xj⟩:∃t1 p,t.put (it (iB t.mask) k (t.probeStart (hashInt i))).j=(t1,p):=⟨_,_,rfl⟩;rw[Xj]at W1 Es sQ uH Sw Sy;have AY:t1.plain=true:=Sw;have Ge:t1.led=ld:=Sy;dsimp only at W1 Es sQ uH;have Qe:p<=es.toList.length:=by simpa using Es
  have MP:(insertAt es p (hashInt i,Value.int i t0)).toList=ins es.toList p (hashInt i,Value.int i t0):=mT _ _ _;have O4:Wt t1 ((insertAt es p (hashInt i,Value.int i t0)).toList.map (·.1)):=by rw[MP,ins_map];exact W1
  have IM:(insertAt es p (hashInt i,Value.int i t0)).size=es.size+1:=by
   rw[<-aN,MP,jX Qe,aN]
  have Xk:IntsAre ((insertAt es p (hashInt i,Value.int i t0)).toList.map (·.2)) (ins ns p i):=by rw[MP,ins_map];exact JL p hI i t0
  have Sz:ElemsOf (intKind prog w) (insertAt es p (hashInt i,Value.int i t0)).toList:=λe he=>by
   rw[MP]at he;rcases List.mem_cons.mp ((vY _ _ _).mem_iff.mp he)with rfl|he
   ·exact⟨⟨i,intKind_is _ _ _ _,rfl⟩,rfl⟩
   ·exact Tt e he
  have M5:t1.fits (insertAt es p (hashInt i,Value.int i t0)).size=true:=O4.fits;have NU:layNew t es (hashInt i) (.int i t0)=(insertAt es p (hashInt i,.int i t0),t1,false,false):=by
   unfold layNew;rw[D2];dsimp only;rw[Xj];dsimp only;unfold orStandIn;rw[if_pos M5,M5];rfl
  have SA:layNew t es ((intKind prog w).hash i) (.int i t0)=(insertAt es p (hashInt i,.int i t0),t1,false,false):=NU
  first|rw[NU]|rw[SA]
  dsimp only;generalize insertAt es p (hashInt i,Value.int i t0)=tK at O4 IM Xk Sz;refine aa (aj ?_);rw[if_pos AY];refine aa ?_;rw[hashByValue_scannable 8 (x:=.int i t0) rfl];refine aj ?_;rw[show plainKind (Value.int i t0)=true from rfl]
  simp only[if_true];refine aa (wpAny_storeSet_of ho hd ?_ (by rw[IM];exact aB (by omega:es.size+1<=100) (by decide)))
  have RW:Heap.SameBut a s.heap (s.heap.update a (Obj.putSet tK t1)):=Heap.SameBut.update ..;have sR:(s.heap.update a (Obj.putSet tK t1)).get? a=some {o with data:=.set tK (ep+1) t1}:=by
   have:=Heap.get?_update_self (Obj.putSet tK t1) ho (by rw[putSet_of _ t1 hd];rfl)
   rw[putSet_of _ t1 hd]at this;exact this
  have Ez:t1.fill=t1.place.size:=by unfold SetTable.fill;rw[O4.tb.Qc];rfl
  have Tn:t1.tooFull=false:=by
   have:decide (t1.fill*5 ≥ t1.mask*3)=false:=aG (by rw[Ez,uH,sQ];omega)
   exact this
  simp only[Tn,Bool.not_false,Bool.true_and,aH,bD];refine aj (aj ?_);have oz:(ins ns p i).Perm (i::ns):=vY ns p i;exact h _ _ (ins ns p i) RW ⟨⟨_,tK,ep+1,t1,sR,⟨hex.1,hex.2.1,hex.2.2⟩,rfl,O4,Sz,Xk,by rw[uH,sQ];omega,AY,Ge⟩,oz.nodup_iff.mpr (List.nodup_cons.mpr ⟨xv,S.nd⟩)⟩ (by rw[if_neg xv];exact oz)
theorem SI.mono {ld:Bool}{h h':Heap}{a:cD}{ns:cn}(S:SI prog w ld h a ns) (hS:∀o,h.get? a=some o->h'.get? a=some o):SI prog w ld h' a ns:=by
 obtain⟨o,es,ep,tb,h1,h2⟩:=S.ex;exact⟨⟨o,es,ep,tb,hS o h1,h2⟩,S.nd⟩
theorem JM {h:Heap}{a:cD}(led:Bool) (ho:h.get? a=some (dc led)):SI prog w led h a []:=
 ⟨⟨_,#[],0,_,ho,⟨rfl,rfl,rfl⟩,rfl,AV led,(λe he=>by simp at he),.nil,by show 0*5<7*3;decide,rfl,rfl⟩,List.nodup_nil⟩
theorem SD {R:Result->cx->Prop}{I:cD}{fp wr:List cD}{G:Array GenState->Array GenState->Prop}{n:Nat}{P:Nat->cw->Prop}{St:Nat->cx->Prop}{ld:Bool}(W:WalksS prog w A.in1 I fp wr G n P St) (S:cD) (IS:S∉fp) (val:Nat->Int) (zA:∀i v,P i v->∃t,v=.int (val i) t) (hb:n<=4):
  ∀(k i:Nat) (s:cx),n-i=k->i<=n->St i s->(∃ns,SI prog w ld s.heap S ns/\ns.length<=i/\∀d,d∈ns↔∃m,m<i/\val m=d)->
   (∀s',Moved (S::wr) G s s'->(∃ns,SI prog w ld s'.heap S ns/\∀d,d∈ns↔∃m,m<n/\val m=d)->R (.ok (.ret .none)) s')->
   codeAny (model prog w) A (.builtin "set.update.loop" ⟨[.ref S,.ref I],[]⟩) R s:=by
 have R3:S∉wr:=λh=>IS (W.sub _ h)
 have zB:∀b∈wr,b∈S::wr:=λb hb=>ai _ hb
 intro k;induction k with
 |zero=>
  intro i s hk hi kO ⟨ns,hS,_,mw⟩ hR;have jW:i=n:=by omega
  subst jW;refine codeAny_builtin PyProof.Rows.F.entry_set_update_loop ?_;rw[bX PyProof.Rows.F.plain_set_update_loop _];show wpAny _ A.in1 (pyNext (.ref I)>>=_) _ _ s;refine aa (W.done s _ _ kO λs' hm=>?_)
  show wpAny _ A.in1 (ret Value.none) _ _ s';exact aj (hR s' (hm.mono zB) ⟨ns,hS.mono (λo e=>hm.heap S o R3 e),mw⟩)
 |succ k ih=>
  intro i s hk hi kO ⟨ns,hS,hl,mw⟩ hR;have eY:i<n:=by omega
  refine codeAny_builtin PyProof.Rows.F.entry_set_update_loop ?_;rw[bX PyProof.Rows.F.plain_set_update_loop _];show wpAny _ A.in1 (pyNext (.ref I)>>=_) _ _ s;refine aa (W.item i s _ _ eY kO λv s' hP O6 hm=>?_)
  obtain⟨t,rfl⟩:=zA i v hP;have MS:=hS.mono (λo e=>hm.heap S o R3 e)
  show wpAny _ A.in1 (holding [Value.int (val i) t] (setAdd S (.int (val i) t))>>=_) _ _ s';refine aa (bo ?_);unfold setAdd;refine bo ?_;refine aa ((intKind prog w).pyHash (k:=val i) (intKind_is _ _ _ _) ?_);refine add_int (s:={s' with toks:=s'.toks+1}) MS (by omega) λb h' uz Fw Qf u0=>?_
  refine aj ⟨plainId_quiet PyProof.Rows.F.plain_set_update_loop _,ih (i+1) _ (by omega) eY (W.frame _ s' _ _ O6 (Nat.le_succ _) λb hb o e=>?_) ⟨uz,Qf,?_,λd=>?_⟩ λD9 O7 O8=>?_⟩
  ·rw[Fw.2 b (λh:b=S=>IS (by rw[<-h];exact hb))];exact e
  ·have:=u0.length_eq;by_cases jW:val i∈ns
   ·rw[if_pos jW]at this;omega
   ·rw[if_neg jW,ax]at this;omega
  ·rw[u0.mem_iff];have base:=mw d;constructor
   ·intro hd;split at hd
    ·obtain⟨m,h1,h2⟩:=base.mp hd;exact⟨m,by omega,h2⟩
    ·rcases List.mem_cons.mp hd with rfl|hd
     ·exact⟨i,by omega,rfl⟩
     ·obtain⟨m,h1,h2⟩:=base.mp hd;exact⟨m,by omega,h2⟩
   ·rintro⟨m,h1,h2⟩
    by_cases US:m=i
    ·subst US;subst h2;split
     ·rename_i jW;exact jW
     ·exact af
    ·have:=base.mpr ⟨m,by omega,h2⟩
     split
     ·exact this
     ·exact ai _ this
  ·refine hR D9 (Moved.trans W.gtrans ((hm.mono zB).then_heap (Nat.le_succ _) λb o hb e=>?_) O7) O8
   rw[Fw.2 b (λh:b=S=>hb (by rw[h];exact af))];exact e
def M6 (prog:cz) (w:cA) (s:cx) (ns:cn) (h':Heap):Prop:=(∃ks,SI prog w (!w.params.followText "set-order") h' s.heap.objs.size ks/\∀d,d∈ks↔d∈ns)/\∀b o,b<s.heap.objs.size->s.heap.get? b=some o->h'.get? b=some o
theorem DR {l:cD}{items:Array cw}{ns:cn}(hh:A.handled=none) (hl:s.heap.IsList l items) (hi:IntsAre items.toList ns) (hb:items.size<=4) {Q:PySem.Fin->cx->Prop}
  (h:∀h' tk,M6 prog w s ns h'->Q (.done (.ret .none)) {s with heap:=h',toks:=tk}):
  wpAny (model prog w) A (Builtin.«set.__init__» ⟨[.ref s.heap.objs.size,.ref l],[]⟩) Q E {s with heap:=s.heap.push (dc (!w.params.followText "set-order"))}:=by
 generalize Vq:(!w.params.followText "set-order")=led at *;have hn:items.size=ns.length:=by have:=hi.length;simpa using this
 obtain⟨⟨R5,AZ,MT,v3⟩,MU,rH,nl,MV⟩:=hl;simp only at rH MV;subst rH MV;have hS:(s.heap.push (dc led)).get? s.heap.objs.size=some (dc led):=ay _ rfl;have hT:Shared.TypeIs {s with heap:=s.heap.push (dc led)} (.ref s.heap.objs.size) "set":=⟨_,hS,rfl⟩
 have IU:(s.heap.push (dc led)).get? l=some {cls:=.type "list",dict:=AZ,data:=.seq items nl,slots:=v3}:=ag _ MU;have R6:=PySem.F.sub_list_set;have R7:=PySem.F.sub_list_frozenset;have jr:(Value.type "list"==Value.type "dict")=false:=by decide
 have J7:(s.heap.push (dc led)).IsList l items:=⟨_,IU,rfl,nl,rfl⟩;unfold Builtin.«set.__init__» noKeywords Builtin.Frozenset.updateFrom;generalize R8:pyIter=PI
 wp_walk
 subst R8;refine wpAny_pyIter_list J7 ?_;refine aa (wpAny_runValue ?_);have MW:l<s.heap.objs.size:=az MU;have IV:(s.heap.push (dc led)).objs.size=s.heap.objs.size+1:=Heap.size_push ..;have Dp:l≠(s.heap.push (dc led)).objs.size:=by rw[IV];exact aD (Nat.lt_succ_of_lt MW)
 have IS:s.heap.objs.size∉[(s.heap.push (dc led)).objs.size,l]:=by
  rw[IV];simp only[List.mem_cons,bH,or_false,not_or];exact⟨aD (Nat.lt_succ_self _),bw MW⟩
 have R9:((s.heap.push (dc led)).push {cls:=.type "list_iterator",data:=.fields #[.ref l,.int 0 0]}).get? s.heap.objs.size=some (dc led):=ag _ hS;have W:=(Walks.list (prog:=prog) (w:=w) (A:=A.in1) hh (s.heap.push (dc led)).objs.size l Dp items).toS;refine SD (ld:=led) W s.heap.objs.size IS (λi=>ns.getD i 0) (λi v hv=>hi.int_at i v (by rw[Array.getElem?_toList];exact hv)) hb (items.size-0) 0 _ (by omega) (bL _) ⟨⟨_,ay _ rfl,rfl,rfl⟩,J7.push _⟩ ⟨[],JM led R9,au _,λd=>⟨(λz=>by cases z),λ⟨m,hm,_⟩=>by omega⟩⟩ (λs' hm ⟨ks,Sa,mw⟩=>?_)
 obtain⟨h',g',d',An,Kp⟩:=s';have eg:g'=s.gens:=hm.gens;have ed:d'=s.drawn:=hm.drawn;have eo:Kp=s.os:=hm.os;subst eg ed eo;show wpAny _ _ _ _ _ _;refine aj ?_;show wpAny _ _ (ret Value.none) _ _ _;refine aj (h h' An ⟨⟨ks,by rw[Vq];exact Sa,λd=>(mw d).trans ⟨λ⟨m,sQ,oJ⟩=>?_,λhd=>?_⟩⟩,λb o hb e=>?_⟩)
 ·have:m<ns.length:=by rw[<-hn];exact sQ
  rw[<-oJ];show ns.getD m 0∈ns;rw[ak,ah this];exact List.getElem_mem this
 ·obtain⟨m,oJ⟩:=bp hd;refine⟨m,by rw[hn];exact(List.getElem?_eq_some_iff.mp oJ).1,?_⟩
  show ns.getD m 0=d;rw[ak,oJ];rfl
 ·have Sb:b≠s.heap.objs.size:=aD hb;have Lk:b≠(s.heap.push (dc led)).objs.size:=by rw[IV];exact aD (Nat.lt_succ_of_lt hb)
  exact hm.heap b o (by simp only[List.mem_cons,bH,or_false,not_or];exact⟨Sb,Lk⟩) (ag _ (ag _ e))
theorem BJ {S:cD}{ks:cn}{Q:cg}(hh:A.handled=none) (hS:SI prog w (!w.params.followText "set-order") s.heap S ks) (hn:ks.length<64)
  (h:∀D h' c tk out ms,h'.get? D=some (seqObj "list" out c)->IntsAre out.toList ms->ms.Perm ks->ms.Pairwise (·<= ·)->s.heap.objs.size<=D->(∀b o,s.heap.get? b=some o->h'.get? b=some o)->Q (.ref D) {s with heap:=h',toks:=tk}):
  wpAny (model prog w) A (call (.builtin "sorted") [.ref S]) Q E s:=by
 obtain⟨o,es,ep,t,ho,hex,hd,W,Tt,hI,_,jM,Lz⟩:=hS.ex;have Ti:mF w s.heap S es ep t:=⟨⟨o,ho,hex,hd⟩,W.fits,W.tb.rise,jM,Lz⟩;have hsz:es.size=ks.length:=by have:=hI.length;simpa using this
 have oz:(fz w S ep es).toList.Perm es.toList:=by
  unfold fz;split
  ·exact tL _ es
  ·exact List.Perm.refl _
 obtain⟨ms,Vr,pm⟩:=GD (oz.map (·.2)) hI
 refine Calls.call_function_entry kind_sorted plain_sorted entry_sorted (args_sorted1 _) ?_;unfold Builtin.«sorted»;refine aa (m:=checkCount "sorted" 1 1 _) (aj ?_);refine aa (pe hh Ti (by omega) λg tk acc keep oG hg=>?_)
 rw[<-oG]at Vr;have hl:acc.length=ks.length:=by rw[Vr.length,pm.length_eq]
 refine aa (wpAny_newList ?_ (by rw[bu];omega))
 have yM:(g.push (seqObj "list" acc.toArray 0)).get? g.objs.size=some (seqObj "list" acc.toArray 0):=ay _ rfl;refine aa (bo (bM slot_list_sort ⟨_,yM,rfl⟩ entry_list_sort (list_sort_tree (s:={s with heap:=g.push (seqObj "list" acc.toArray 0),toks:=tk}) yM Vr (by omega) λout uz a1 a2 a3=>⟨_,rfl,?_⟩) (args_list_sort _)))
 obtain⟨c,hc⟩:∃c,(sortedHeap (g.push (seqObj "list" acc.toArray 0)) g.objs.size acc out).get? g.objs.size=some (seqObj "list" out c):=sortedHeap_at yM;refine aj ⟨_,rfl,h g.objs.size _ c tk out uz hc a1 (a2.trans pm) a3 (bg hg) λb o e=>?_⟩
 have eY:b<g.objs.size:=bG (az e) hg;rw[sortedHeap_old (aD eY) (bG eY (az yM))];exact ag _ (keep b o e)
end
end ST
namespace DL
open PySem PySem.Spec PyProof.Rows L2
theorem ur:∀(n:Nat) (l:cn),l.length<=n->l.eraseDups.Nodup
 |0,l,h=>by
  have:l=[]:=List.length_eq_zero_iff.mp (by omega)
  subst this;exact List.nodup_nil
 |n+1,[],_=>List.nodup_nil
 |n+1,a::l,h=>by
  rw[List.eraseDups_cons];have hl:=aW (λb=> !b==a) l
  refine List.nodup_cons.mpr ⟨λhm=>?_,ur n _ (by simp at h;omega)⟩
  have:=List.mem_filter.mp (List.mem_eraseDups.mp hm);simp at this
section
variable [Mem] {X:Cx}{e:cE}{f:cb}{p p2 pos dY:Pos}
theorem BK (hc:X.calm=true) (hu:X.A.units+64<cLine) (LK:Gl X "sorted") (sQ:X.mg "sorted"=none) (LL:Gl X "set") (oJ:X.mg "set"=none) (ha:WO X e f)
  (uH:starEach [.Call (.Name "set" p2) [e] [] dY] X.env=(false,eval (.Call (.Name "set" p2) [e] [] dY) X.env)::starEach [] X.env:=by exact eG rfl) (Cj:starEach [e] X.env=(false,eval e X.env)::starEach [] X.env:=by exact eG rfl):
  WF X (.Call (.Name "sorted" p) [.Call (.Name "set" p2) [e] [] dY] [] pos) (nA f):=by
 refine⟨?_⟩;intro pins s σ H Q I ⟨C,δ,ds,x,q,k⟩;unfold nA at q;split at q
 case h_2=>cases q
 rename_i Sk hf;cases hn:intsOf Sk with
 |none=>rw[hn]at q;cases q
 |some ns=>
  rw[hn]at q;simp only[ao]at q;split at q
  case isFalse=>cases q
  rename_i h4;cases q;have ee:=iz hn;subst ee;refine wpAny_Call_Name_kw (lL I LK sQ fH ?_);refine PyProof.Rows.callWith_builtin1 ?_ uH rfl;rw[uH];show wpAny _ _ (spliced ((false,eval (.Call (.Name "set" p2) [e] [] dY) X.env)::backTo pos (starEach [] X.env))) _ _ s;refine Calls.spliced_cons ?_;refine wpAny_Call_Name_kw (lL I LL oJ PyProof.Rows.boot_set ?_);refine PyProof.Rows.callWith_type1 (gS ((mC ha.go oR Cj) dY pins s σ H (λvs H1=>∃v C1,vs=[v]/\Ev C H C1 H1/\oW C1 H1 v (.lst (ns.map D.int))) I ⟨C,δ,_,x,hf,λv C1 H1 ev iv=>⟨v,C1,rfl,ev,iv⟩⟩) λus s1 ⟨vs,H1,I1,r1,v,C1,e1,ev,iv⟩=>?_) Cj rfl
  subst e1;obtain⟨u,rfl,ru⟩:=r1.one;obtain⟨a,xs,rfl,hq,l⟩:=iv.list (K:=X.K) ev.s;cases ru;obtain⟨dg,rv,pl,hz⟩:=I1.list hq;have ex:=l.mD;subst ex;have hi:IntsAre dg ns:=intsAre_of rv;have hl:dg.length=ns.length:=hi.length;have hh:X.A.handled=none:=I1.ok.hd hc;refine ST.mU (Mk:=ST.M6 X.prog X.w s1 ns) (λhQ=>ST.DR (A:=X.A.in1.in1) hh pl.isList (by simpa using hi) (by rw[aq];omega) hQ) λh' tk ⟨⟨ks,kO,mw⟩,keep⟩=>?_
  have I2:Inv X pins σ H1 {s1 with heap:=h',toks:=tk}:=I1.kept (t':=tk) λb o eo=>keep b o (az eo) eo
  have Xe:ks.length<=ns.length:=kO.nd.length_le_of_subset λd hd=>(mw d).mp hd
  refine Calls.spliced_nil ?_;refine ST.BJ (s:={s1 with heap:=h',toks:=tk}) hh kO (by omega) λD0 h2 c Qh out ms hD Py pm pw uF iW=>?_
  have em:ms=sortI ns.eraseDups:=by
   have p2:ms.Perm ns.eraseDups:=pm.trans ((List.perm_ext_iff_of_nodup kO.nd (ur _ ns (au _))).mpr λd=>by rw[List.mem_eraseDups];exact mw d)
   exact(p2.trans (sortI_perm _).symm).eq_of_pairwise (λa b _ _ h1 h2=>Int.le_antisymm h1 h2) pw (rT _)
  subst em;refine⟨.ref D0,_,I2.laid (t':=Qh) (o:=.lst ((sortI ns.eraseDups).map V.int)) iW uF ⟨?_,out.toList,c,m6 Py,by simpa using hD⟩,rfl,?_⟩
  ·rw[ae,<-Py.length];have:=pm.length_eq;have:=Py.length;exact aB (by omega:out.toList.length<=100) (by decide)
  ·have Fv:H1 D0=none:=I2.fP.fresh uF;exact k D0 _ C1 _ (ev.trans (.fu ev.s Fv)) (ev.free Fv) (ev.s.free Fv) cU (IsL.ints _)
end
end DL
namespace mr
open PySem DL GP PC PW
open LW (cX dw dE)
open L2 (kD rq)
noncomputable def qO:bZ:=
  (eQ (eE (aY (dt i8 (de 0) (dC (.int 0))) (aY (cO hJ (aY (dL (ji (dt mv (dt i8 (de 0) (dC (.int 1))) (eE (aY (cP 1) cL))))) cL)) cL))))
noncomputable def lD:bZ:=
  qO
noncomputable def kL:cf:=gY 2 2 lD
noncomputable def mL:bZ:=
  (eQ (cO hJ (aY (dL (eh (iT (cP 0)) 2 (qB (dt qU (de 1) (de 2))) (cP 2))) cL)))
noncomputable def iF:bZ:=
  mL
noncomputable def gK:cf:=gY 3 2 iF
noncomputable def mM:bZ:=
  (eQ (eE (aY (dt i8 (de 0) (dC (.int 0))) (aY (cO gK (aY (dt i8 (de 0) (dC (.int 1))) (aY (cP 1) cL))) cL))))
noncomputable def iG:bZ:=
  mM
noncomputable def gL:cf:=gY 2 2 iG
noncomputable def pO:bZ:=
  (gp 2 (eh (iT (dt i8 (de 0) (dC (.int 1)))) 3 jO (cO hJ (aY (dL (fj fy (aY (dL (eh (iT (cP 3)) 4 jO (dt i8 (de 1) (de 4)))) cL))) cL))))
noncomputable def pP:bZ:=
  (eQ (eE (aY (dt i8 (de 0) (dC (.int 0))) (aY (cO hJ (aY (dL (fj fy (aY (de 2) cL))) cL)) cL))))
noncomputable def oj:bZ:=
  (ei pO
  (qz 2 pP))
noncomputable def nB:cf:=gY 5 2 oj
noncomputable def qP:bZ:=
  (eQ (eE (aY (dt i8 (de 0) (dC (.int 0))) (aY (cO hJ (aY (dL (eh (iT (dt i8 (de 0) (dC (.int 1)))) 1 (sY (qB (cO fC (aY (cP 1) (aY (dt i8 (de 0) (dC (.int 1))) cL))))) (cP 1))) cL)) cL))))
noncomputable def lE:bZ:=
  qP
noncomputable def jj:cf:=gY 2 1 lE
noncomputable def oE:bZ:=
  (K9 [2,3,4,5] (cP 0))
noncomputable def kX:bZ:=
  (lu 6 (cO cX (aY (cP 1) (aY (dC (.int 9883)) (aY (dt i8 (de 2) (dC (.int 0))) cL)))))
noncomputable def kY:bZ:=
  (lu 7 (cO hJ (aY (dL (nA (dL (jS (aY (cP 6) (aY (cO cX (aY (cP 1) (aY (dC (.int 9871)) (aY (dt i8 (de 2) (dC (.int 0))) cL)))) cL)))))) cL)))
noncomputable def kZ:bZ:=
  (lu 8 (cO kL (aY (cP 2) (aY (cP 7) cL))))
noncomputable def lb:bZ:=
  (lu 9 (cO gL (aY (cP 2) (aY (cP 6) cL))))
noncomputable def uM:bZ:=
  (eQ (dC (.bl false)))
noncomputable def lh:bZ:=
  (p6 (qB (dt yc (de 8) (eE (aY (dt i8 (de 2) (dC (.int 0))) (aY (cO hJ (aY (dL (ji (dt mv (dt i8 (de 2) (dC (.int 1))) (eE (aY (cP 7) cL))))) cL)) cL))))) uM kE)
noncomputable def uN:bZ:=
  (eQ (dC (.bl false)))
noncomputable def lj:bZ:=
  (p6 (qB (dt yc (de 9) (eE (aY (dt i8 (de 2) (dC (.int 0))) (aY (cO hJ (aY (dL (eh (iT (dt i8 (de 2) (dC (.int 1)))) 11 (qB (dt qU (de 6) (de 11))) (cP 11))) cL)) cL))))) uN kE)
noncomputable def j5:bZ:=
  (gp 10 (jS (aY (cO eR (aY (eE (aY (cP 8) (aY (cP 3) (aY (cP 4) (aY (cP 5) cL))))) cL)) (aY (cO eR (aY (eE (aY (cP 2) (aY (dC (.int 0)) (aY (cP 4) (aY (cP 5) cL))))) cL)) cL))))
noncomputable def j6:bZ:=
  (gp 10 (dt xp (de 10) (dL (jS (aY (cO eR (aY (eE (aY (cP 2) (aY (cP 3) (aY (dt jN (de 4) (dC (.int 1))) (aY (cP 5) cL))))) cL)) (aY (cO eM (aY (cP 0) (aY (eE (aY (cP 6) cL)) (aY (eE cL) (aY (cP 3) cL))))) cL))))))
noncomputable def j7:bZ:=
  (sZ 10 (cO eR (aY (eE (aY (cP 2) (aY (cP 3) (aY (cP 4) (aY (cO AH (aY (dC (.int 1)) (aY (dt qS (de 5) (dC (.int 1))) cL))) cL))))) cL)))
noncomputable def tY:bZ:=
  (eQ (dt qA (dL (eh (iL (de 10)) 11 (qB (dt yc (de 11) (dC (.int 0)))) (cP 11))) (dL (jS cL))))
noncomputable def iH:bZ:=
  (p6 (qB (dt qA (cO eR (aY (cP 0) cL)) (dC (.int 0)))) (ei j5
  (ei j6
  (ei j7
  tY))) kE)
noncomputable def j8:bZ:=
  (gp 10 (jS (aY (cO eR (aY (eE (aY (cP 9) (aY (cP 3) (aY (cP 4) (aY (cP 5) cL))))) cL)) (aY (cO eR (aY (eE (aY (cP 2) (aY (dC (.int 1)) (aY (cP 4) (aY (cP 5) cL))))) cL)) cL))))
noncomputable def j9:bZ:=
  (gp 10 (dt xp (de 10) (dL (jS (aY (cO eR (aY (eE (aY (cP 2) (aY (cP 3) (aY (cP 4) (aY (dt jN (de 5) (dC (.int 1))) cL))))) cL)) (aY (cO eM (aY (cP 0) (aY (eE cL) (aY (eE (aY (cP 6) cL)) (aY (cP 3) cL))))) cL))))))
noncomputable def kb:bZ:=
  (sZ 10 (cO eR (aY (eE (aY (cP 2) (aY (cP 3) (aY (cO AH (aY (dC (.int 1)) (aY (dt qS (de 4) (dC (.int 1))) cL))) (aY (cP 5) cL))))) cL)))
noncomputable def tZ:bZ:=
  (eQ (dt qA (dL (eh (iL (de 10)) 11 (qB (dt yc (de 11) (dC (.int 1)))) (cP 11))) (dL (jS cL))))
noncomputable def jL:bZ:=
  (ei oE
  (ei kX
  (ei kY
  (ei kZ
  (ei lb
  (ei lh
  (ei lj
  (ei iH
  (ei j8
  (ei j9
  (ei kb
  tZ)))))))))))
noncomputable def i7:cf:=gY 12 2 jL
noncomputable def zO:bZ:=
  (lu 2 (cO dE (aY (cP 1) (aY (dC (.int 1)) (aY (dC (.int 5)) (aY (dC (.int 5)) cL))))))
noncomputable def EZ:bZ:=
  (lu 3 (dt i8 (de 2) (dC (.int 0))))
noncomputable def zP:bZ:=
  (gp 4 (ya (aY (dt i8 (de 3) (dC (.int 0))) cL)))
noncomputable def zQ:bZ:=
  (BH 5 13 4 (ya (aY (dt i8 (de 3) (dC (.int 0))) cL)) (cO cX (aY (dt jN (de 1) (dt rL (dC (.int 5)) (de 13))) (aY (dC (.int 9869)) (aY (cO nL (aY (de 4) cL)) cL)))))
noncomputable def zR:bZ:=
  (lu 6 (cO nB (aY (cP 3) (aY (cP 5) cL))))
noncomputable def zS:bZ:=
  (gp 7 (eh (iT (dt i8 (de 3) (dC (.int 1)))) 9 jO (cO hJ (aY (dL (fj fy (aY (dL (eh (iT (cP 9)) 14 jO (dt i8 (de 5) (de 14)))) cL))) cL))))
noncomputable def L5:bZ:=
  (eQ (dC (.bl false)))
noncomputable def u9:bZ:=
  (p6 (qB (dt yc (de 6) (eE (aY (dt i8 (de 3) (dC (.int 0))) (aY (cO hJ (aY (dL (fj fy (aY (de 7) cL))) cL)) cL))))) L5 kE)
noncomputable def E1:bZ:=
  (gp 8 (jS cL))
noncomputable def BL:bZ:=
  (gp 10 (jS cL))
noncomputable def BM:bZ:=
  (sZ 10 (cP 11))
noncomputable def BN:bZ:=
  (p6 (qq (qB (dt yc (de 11) (de 9))) (sY (qT (dL (eh (iT (cP 11)) 14 (qB (dt qU (de 14) (de 9))) (cP 14)))))) BM kE)
noncomputable def pQ:bZ:=
  BN
noncomputable def wO:bZ:=
  (oH 11 (iT (dt i8 (de 3) (dC (.int 1)))) pQ)
noncomputable def wQ:bZ:=
  (gp 8 (dt xp (de 8) (dL (dt mulL (dL (jS (aY (cP 9) cL))) (cO AN (aY (wM (de 10)) cL))))))
noncomputable def pR:bZ:=
  (ei BL
  (ei wO
  wQ))
noncomputable def sJ:bZ:=
  (oH 9 (iT (dt i8 (de 3) (dC (.int 1)))) pR)
noncomputable def JN:bZ:=
  (eQ (dC (.bl false)))
noncomputable def wR:bZ:=
  (p6 (qB (dt yc (cO jj (aY (cP 3) cL)) (eE (aY (dt i8 (de 3) (dC (.int 0))) (aY (cO hJ (aY (de 8) cL)) cL))))) JN kE)
noncomputable def JO:bZ:=
  (eQ (dC (.bl false)))
noncomputable def BO:bZ:=
  (p6 (qB (dt yc (cO eR (aY (dt mv (eE (aY (cP 12) cL)) (AM (de 2) (xq (dC (.int 1))) K7)) cL)) (cO eR (aY (cP 2) cL)))) JO kE)
noncomputable def sL:bZ:=
  BO
noncomputable def wU:bZ:=
  (oH 12 (iL (dL (jS (aY (cP 6) (aY (cO jj (aY (cP 3) cL)) cL))))) sL)
noncomputable def JP:bZ:=
  (eQ (dC (.bl false)))
noncomputable def wV:bZ:=
  (p6 (sY (qB (cO i7 (aY (cP 2) (aY (dt FE (de 1) (dC (.int 7))) cL))))) JP kE)
noncomputable def nC:bZ:=
  (ei zO
  (ei EZ
  (ei zP
  (ei zQ
  (ei zR
  (ei zS
  (qz 7 (ei u9
  (ei E1
  (qz 8 (ei sJ
  (ei wR
  (ei wU
  wV)))))))))))))
noncomputable def wW:bZ:=
  (oH 1 (iL (dL (HV (de 0) K7 (xq (dC (.int 3)))))) nC)
noncomputable def JQ:bZ:=
  (eQ (dC (.bl true)))
noncomputable def zT:bZ:=
  (ei wW
  JQ)
noncomputable def E2:cf:=gY 15 1 zT
end mr
namespace mr
open PySem DL GP PC PW
open LW (cX dw dE)
open L2 (kD rq)
theorem fW {o:D->D->Option D}{f g:cb}{δ:dM}{x y:D}{r:Option D}(hf:f δ=some x) (hg:g δ=some y) (h:o x y=r):dt o f g δ=r:=(kW hf hg).trans h
theorem va {f:bY}{δ:dM}{ds:cu}(h:f δ=some ds) (hl:ds.length<=1000):eE f δ=some (.tup ds):=by
 unfold eE;rw[h];exact if_pos hl
noncomputable def fE (ls:cm) (l:cn):cm:=fQ (ls++[l]).eraseDups
noncomputable def rj (nums:cn) (p:Int):Int:=nums.getD p.toNat 0
noncomputable def gj (nums:cn) (ls:cm):cm:=fQ (ls.map λl=>sortI (l.map (rj nums)))
theorem JR {i j:Nat}{δ:dM}{m:Int}{ls:cm}{l:cn}(hi:de i δ=some (LW.bV m ls)) (hj:cP j δ=some (tupI l)) (hn:ls.length<18):
  eE (aY (dt i8 (de i) (dC (.int 0))) (aY (cO hJ (aY (dL (ji (dt mv (dt i8 (de i) (dC (.int 1))) (eE (aY (cP j) cL))))) cL)) cL)) δ=some (LW.bV m (fE ls l)):=by
 have et:eE (aY (cP j) cL) δ=some (.tup [tupI l]):=by unfold eE;rw[iX hj];rfl
 have ea:dt mv (dt i8 (de i) (dC (.int 1))) (eE (aY (cP j) cL)) δ=some (.tup ((ls++[l]).map tupI)):=by
  refine fW (x:=.tup (ls.map tupI)) (fW hi (y:=.int 1) rfl rfl) et ?_;unfold mv;simp only;rw[if_pos (by rw[ae];simp;omega),List.map_append]
  rfl
 have es:ji (dt mv (dt i8 (de i) (dC (.int 1))) (eE (aY (cP j) cL))) δ=some ((fE ls l).map tupI):=by
  unfold ji;rw[ea];simp only;rw[if_pos (by rw[ae,aQ];simp;omega),qV]
  rfl
 exact va (je (x:=.int m) (fW hi (y:=.int 0) rfl rfl) (iX ((jD es).trans rfl))) (by simp)
theorem Pz {m:Int}{ls:cm}{l:cn}(hn:ls.length<18):kL [LW.bV m ls,tupI l]=some (LW.bV m (fE ls l)):=by
 refine LW.eF rfl ?_;show lD [.dat (LW.bV m ls),cH l]=_;unfold lD qO;exact gh (JR rfl rfl hn)
noncomputable def kc (ls:cm) (p:Int):cm:=ls.filter λl=> !decide (p∈l)
theorem M7 {i j k:Nat}{f:bY}{δ:dM}{ls:cm}{p:Int}(hn:ls.length<1000) (hi:f δ=some (ls.map tupI)) (hp:∀l:cn,de j (δ.set k (cH l))=some (.int p)) (hk:∀l:cn,de k (δ.set k (cH l))=some (tupI l)) (hv:∀l:cn,cP k (δ.set k (cH l))=some (tupI l)):
  cO hJ (aY (dL (eh f k (qB (dt qU (de j) (de k))) (cP k))) cL) δ=some (.tup ((kc ls p).map tupI)):=
 (jD (gF hi (by rw[ae];omega) (jK (p:=λl=> !decide (p∈l)) (ψ:=tupI) _ (λl _=>gX (fW (hp l) (hk l) (wj _ _))) (λl _ _=>hv l)))).trans rfl
theorem SE {m:Int}{ls:cm}{p:Int}(hn:ls.length<1000):gL [LW.bV m ls,.int p]=some (LW.bV m (kc ls p)):=by
 have e1:gK [.tup (ls.map tupI),.int p]=some (.tup ((kc ls p).map tupI)):=by
  refine LW.eF rfl ?_;show iF [.dat (.tup (ls.map tupI)),cG p,.no]=_;unfold iF mL;exact gh (M7 (i:=0) hn rfl (λl=>rfl) (λl=>rfl) (λl=>rfl))
 refine LW.eF rfl ?_;show iG [.dat (LW.bV m ls),cG p]=_;unfold iG mM;refine gh ?_;unfold eE;rw[je (x:=.int m) rfl (iX ((dz rfl).trans e1))];rfl
theorem M8 {a j k:Nat}{δ:dM}{nums l:cn}(hl:∀p∈l,0<=p/\p<(nums.length:Int)) (h4:l.length<64) (hj:cP j δ=some (tupI l)) (ha:∀p:Int,de a (δ.set k (cG p))=some (tupI nums)) (hk:∀p:Int,de k (δ.set k (cG p))=some (.int p)):
  cO hJ (aY (dL (fj fy (aY (dL (eh (iT (cP j)) k jO (dt i8 (de a) (de k)))) cL))) cL) δ=some (tupI (sortI (l.map (rj nums)))):=by
 have it:iT (cP j) δ=some (l.map D.int):=by unfold iT;rw[hj];rfl
 have ec:eh (iT (cP j)) k jO (dt i8 (de a) (de k)) δ=some ((l.map (rj nums)).map D.int):=by
  rw[aV];refine gF it (by rw[ae];omega) (jC _ λp hp=>fW (ha p) (hk p) ?_)
  have h:=hl p hp;show kD (nums.map D.int) p=some (D.int (rj nums p));obtain⟨n,rfl⟩:∃n:Nat,p=n:=⟨p.toNat,by omega⟩
  have hn:n<nums.length:=by omega
  rw[LW.EN _ _ (by rw[ae];exact hn),av,ah hn]
  unfold rj;rw[Int.toNat_natCast,ak,ah hn];rfl
 have es:fj fy (aY (dL (eh (iT (cP j)) k jO (dt i8 (de a) (de k)))) cL) δ=some ((sortI (l.map (rj nums))).map D.int):=by
  unfold fj;rw[iX (x:=.lst ((l.map (rj nums)).map D.int)) (by unfold dL;rw[ec];rfl)]
  exact LW.so (by rw[ae];exact h4)
 exact(jD es).trans rfl
structure Num (many:Int) (ls:cm) (nums:cn):Prop where
 len:(nums.length:Int)=many
 nd:nums.Nodup
 B6:∀p∈nums,0<=p/\p<many
theorem E3 {l:cn}{f:Int->Int}(h:l≠[]):sortI (l.map f)≠[]:=λz=>by
 have:=(sortI_perm (l.map f)).length_eq;rw[z]at this;simp at this;exact h (List.length_eq_zero_iff.mp this.symm)
theorem SF {m:Int}{ls:cm}{nums:cn}(N:Num m ls nums) (hn:ls.length<64) (hl:∀l∈ls,LW.rg m l):nB [LW.bV m ls,tupI nums]=some (LW.bV m (gj nums ls)):=by
 refine LW.eF rfl ?_;show oj [.dat (LW.bV m ls),cH nums,.no,.no,.no]=_;have e1:pO [.dat (LW.bV m ls),cH nums,.no,.no,.no]=some (.next [.dat (LW.bV m ls),cH nums,.own ((ls.map λl=>sortI (l.map (rj nums))).map tupI),.no,.no]):=by
  unfold pO;have it:iT (dt i8 (de 0) (dC (.int 1))) [.dat (LW.bV m ls),cH nums,.no,.no,.no]=some (ls.map tupI):=rfl;refine(il (gF it (by rw[ae];omega) (jC (ψ:=λl=>tupI (sortI (l.map (rj nums)))) _ λl hm=>?_))).trans ?_
  ·exact M8 (λp hp=>by rw[N.len];exact(hl l hm).B6 p hp) (by have:=(hl l hm).four;omega) rfl (λp=>rfl) (λp=>rfl)
  ·rw[aV];rfl
 unfold oj;rw[LW.cR e1];show pP [.dat (LW.bV m ls),cH nums,.dat (.lst ((ls.map λl=>sortI (l.map (rj nums))).map tupI)),.no,.no]=_
 unfold pP;have es:fj fy (aY (de 2) cL) [.dat (LW.bV m ls),cH nums,.dat (.lst ((ls.map λl=>sortI (l.map (rj nums))).map tupI)),.no,.no]=some ((gj nums ls).map tupI):=
  LW.nU (by rw[ae];exact hn) (λl h=>by obtain⟨k,hk,rfl⟩:=List.mem_map.mp h;exact E3 (hl k hk).ne)
 refine gh ?_;unfold eE;rw[je (x:=.int m) rfl (iX ((jD es).trans rfl))];rfl
theorem SG {m:Int}{ls:cm}(hn:ls.length<1000) (hl:∀l∈ls,LW.rg m l):jj [LW.bV m ls]=some (LW.bV m (mW ls)):=by
 refine LW.eF rfl ?_;show lE [.dat (LW.bV m ls),.no]=_;unfold lE qP;have it:iT (dt i8 (de 0) (dC (.int 1))) [.dat (LW.bV m ls),.no]=some (ls.map tupI):=rfl;have ec:=gF (j:=1) (t:=sY (qB (cO fC (aY (cP 1) (aY (dt i8 (de 0) (dC (.int 1))) cL))))) (f:=cP 1) it (by rw[ae];omega) (jK (p:=λl=> !nX l ls) (ψ:=tupI) _ (λl _=>sC (gX ((dz rfl).trans (qM (.inl rfl) (by omega) λo ho=>by have:=(hl o ho).four;omega)))) (λl _ _=>rfl))
 refine gh ?_;unfold eE;rw[je (x:=.int m) rfl (iX ((jD ec).trans rfl))];rfl
end mr
namespace mr
open PySem DL GP PC PW
structure Drawn (G:Gm):Prop where
 m1:1<=G.many
 m5:G.many<=5
 num:G.ls.length<=7
 line:∀l∈G.ls,l.length<=9/\fm l/\∀p∈l,0<=p/\p<G.many
 b:1<=G.b/\G.b<=3
 g:1<=G.g/\G.g<=3
theorem Drawn.rk {G:Gm}(h:Drawn G):sH G:=by
 have:=h.m1;have:=h.m5;have:=h.num;have:=h.b;have:=h.g;exact⟨⟨by omega,by omega,λl hl=>(h.line l hl).2.2,λl hl=>by have:=(h.line l hl).1;omega,by omega,by omega,by omega,by omega⟩,by omega,λl hl=>(h.line l hl).2.1⟩
theorem PH {G:Gm}(h:Drawn G) {f:Int}(hf:f=0\/f=1) {m y:cn}(p:eO G.many m y):G.ft m y f=0\/G.ft m y f=1:=mV h.rk.ok p hf
theorem uu {G G':Gm}(h:Drawn G) (h':Drawn G') (le:G.Le G') {f:Int}(hf:f=0\/f=1):(G.ft [] [] f=0->G'.ft [] [] f=0)/\(G'.ft [] [] f=1->G.ft [] [] f=1):=by
 have k:G.ft [] [] f=0->G'.ft [] [] f=0:=mono h.rk.ok h'.rk.ok le (fV _) (fV _) (λp hp=>hp) (λp hp=>hp) hf
 refine⟨k,λz=>?_⟩
 rcases PH h hf (fV _)with w|w
 ·rw[k w]at z;cases z
 ·exact w
theorem M9 {G:Gm}{p:Int}(hp:0<=p/\p<G.many):eO G.many [p] []:=⟨by simp,List.Pairwise.nil,λq hq=>by rw[bt.mp hq];exact hp,(λq hq=>by cases hq),λq _ k=>by cases k⟩
theorem JS {G:Gm}{p:Int}(hp:0<=p/\p<G.many):eO G.many [] [p]:=⟨List.Pairwise.nil,by simp,(λq hq=>by cases hq),λq hq=>by rw[bt.mp hq];exact hp,λq k=>by cases k⟩
theorem L6 {G:Gm}(h:Drawn G) {p f:Int}(hp:0<=p/\p<G.many) (hf:f=0\/f=1):G.ft [] [] f=0->G.ft [p] [] f=0:=
 mono h.rk.ok h.rk.ok (Gm.Le.refl G) (fV _) (M9 hp) (λq hq=>by cases hq) (λq hq=>hq) hf
theorem L7 {G:Gm}(h:Drawn G) {p f:Int}(hp:0<=p/\p<G.many) (hf:f=0\/f=1):G.ft [] [] f=1->G.ft [] [p] f=1:=λz=>by
 rcases PH h hf (JS hp)with w|w
 ·rw[mono h.rk.ok h.rk.ok (Gm.Le.refl G) (JS hp) (fV _) (λq hq=>hq) (λq hq=>by cases hq) hf w]at z;cases z
 ·exact w
theorem L8 {G:Gm}(h:Drawn G) {f:Int}(hf:f=0\/f=1) (z:G.ft [] [] f=0):G.ft [] [] 0=0:=by
 rcases hf with rfl|rfl
 ·exact z
 ·exact ES h.rk.ok (fV _) z
theorem L9 {G:Gm}(h:Drawn G) {f:Int}(hf:f=0\/f=1) (z:G.ft [] [] f=1):G.ft [] [] 1=1:=by
 rcases hf with rfl|rfl
 ·rcases PH h (.inr rfl) (fV _)with w|w
  ·rw[ES h.rk.ok (fV _) w]at z;cases z
  ·exact w
 ·exact z
theorem PJ {l:cn}(nd:l.Nodup) {i j:Nat}(hi:i<l.length) (hj:j<l.length) (e:l[i]=l[j]):i=j:=by
 rcases Nat.lt_trichotomy i j with h|h|h
 ·exact absurd e (List.pairwise_iff_getElem.mp nd i j hi hj h)
 ·exact h
 ·exact absurd e.symm (List.pairwise_iff_getElem.mp nd j i hj hi h)
noncomputable def xE (nums:cn) (q:Int):Int:=(nums.idxOf q:Nat)
section
variable {many:Int}{ls:cm}{nums:cn}
theorem zU (N:Num many ls nums) {p:Int}(hp:0<=p/\p<many):∃n:Nat,p=n/\∃h:n<nums.length,rj nums p=nums[n]:=by
 obtain⟨n,rfl⟩:∃n:Nat,p=n:=⟨p.toNat,by omega⟩
 have hl:=N.len;have hn:n<nums.length:=by omega
 refine⟨n,rfl,hn,?_⟩;unfold rj;rw[Int.toNat_natCast,ak,ah hn];rfl
theorem JT (N:Num many ls nums) {p:Int}(hp:0<=p/\p<many):0<=rj nums p/\rj nums p<many:=by
 obtain⟨n,rfl,hn,e⟩:=zU N hp;rw[e];exact N.B6 _ (List.getElem_mem hn)
theorem E4 (N:Num many ls nums) {p q:Int}(hp:0<=p/\p<many) (hq:0<=q/\q<many) (e:rj nums p=rj nums q):p=q:=by
 obtain⟨n,rfl,hn,e1⟩:=zU N hp;obtain⟨k,rfl,hk,e2⟩:=zU N hq;rw[e1,e2]at e;rw[PJ N.nd hn hk e]
theorem PK (N:Num many ls nums) {p:Int}(hp:0<=p/\p<many):xE nums (rj nums p)=p:=by
 obtain⟨n,rfl,hn,e⟩:=zU N hp;rw[e];unfold xE;rw[List.Nodup.idxOf_getElem N.nd]
theorem JU (N:Num many ls nums) {q:Int}(hq:0<=q/\q<many):q∈nums:=by
 have hl:=N.len;refine bU λz=>?_
 have:=(List.nodup_cons.mpr ⟨z,N.nd⟩).length_le_of_subset (l₂:=dF 0 many.toNat) λx hx=>(LW.hZ _ _ _).mpr (by
  rcases List.mem_cons.mp hx with rfl|hx
  ·omega
  ·have:=N.B6 x hx;omega)
 rw[ef,ax]at this;omega
theorem DS (N:Num many ls nums) {q:Int}(hq:0<=q/\q<many):(0<=xE nums q/\xE nums q<many)/\rj nums (xE nums q)=q:=by
 have hm:=JU N hq;have hl:=N.len;have hi:nums.idxOf q<nums.length:=List.idxOf_lt_length_iff.mpr hm;have jW:0<=xE nums q/\xE nums q<many:=by unfold xE;omega
 refine⟨jW,?_⟩;unfold rj xE;rw[Int.toNat_natCast,ak,ah hi];simp
end
theorem zV {nums:cn}{ls:cm}{k:cn}:k∈gj nums ls↔∃l∈ls,k=sortI (l.map (rj nums)):=by
 unfold gj;rw[(eA _).mem_iff,List.mem_map];exact⟨λ⟨l,h,e⟩=>⟨l,h,e.symm⟩,λ⟨l,h,e⟩=>⟨l,h,e.symm⟩⟩
theorem Ma {G:Gm}{nums:cn}(h:Drawn G) (N:Num G.many G.ls nums) (h':Drawn (G.at (gj nums G.ls))) {f:Int}(hf:f=0\/f=1):(G.at (gj nums G.ls)).ft [] [] f=G.ft [] [] f:=by
 have r1:G.Vj (G.at (gj nums G.ls)) (rj nums):=⟨λp hp=>JT N hp,λp q hp hq e=>E4 N hp hq e,Int.le_refl _,Int.le_refl _,λl hl=>⟨sortI (l.map (rj nums)),zV.mpr ⟨l,hl,rfl⟩,λq hq=>by
  obtain⟨p,hp,e⟩:=List.mem_map.mp (cT.mp hq);exact⟨p,hp,e⟩⟩⟩
 have r2:(G.at (gj nums G.ls)).Vj G (xE nums):=⟨λp hp=>(DS N hp).1,λp q hp hq e=>by rw[<-(DS N hp).2,<-(DS N hq).2,e],Int.le_refl _,Int.le_refl _,λk hk=>by
  obtain⟨l,hl,rfl⟩:=zV.mp hk;exact⟨l,hl,λp hp=>⟨rj nums p,cT.mpr (List.mem_map.mpr ⟨p,hp,rfl⟩),PK N ((h.line l hl).2.2 p hp)⟩⟩⟩
 have pn:=fV G.many;have k1:G.ft [] [] f=0->(G.at (gj nums G.ls)).ft [] [] f=0:=Jr h.rk.ok h'.rk.ok r1 _ [] [] [] [] f pn pn (λp hp=>by cases hp) (λp _ hp=>by cases hp) hf (au _)
 have k2:(G.at (gj nums G.ls)).ft [] [] f=0->G.ft [] [] f=0:=Jr h'.rk.ok h.rk.ok r2 _ [] [] [] [] f pn pn (λp hp=>by cases hp) (λp _ hp=>by cases hp) hf (au _)
 rcases PH h hf pn with w|w<;>rcases PH h' hf pn with w'|w'
 ·rw[w,w']
 ·rw[k1 w]at w';cases w'
 ·rw[k2 w']at w;cases w
 ·rw[w,w']
theorem yG {G:Gm}{nums:cn}(h:Drawn G) (N:Num G.many G.ls nums):Drawn (G.at (gj nums G.ls)):=by
 refine⟨h.m1,h.m5,?_,λk hk=>?_,h.b,h.g⟩
 ·show(gj nums G.ls).length<=7;unfold gj;rw[(eA _).length_eq,ae];exact h.num
 ·obtain⟨l,hl,rfl⟩:=zV.mp hk;have A:=h.line l hl;refine⟨by rw[(sortI_perm _).length_eq,ae];exact A.1,LW.iD (tU (gD A.2.1) λp hp q hq e=>E4 N (A.2.2 p hp) (A.2.2 q hq) e),λq hq=>?_⟩
  obtain⟨p,hp,rfl⟩:=List.mem_map.mp (cT.mp hq);exact JT N (A.2.2 p hp)
theorem min_mem {ls:cm}{k:cn}:k∈mW ls↔k∈ls/\∀o∈ls,(∀p∈o,p∈k)->o=k:=by
 unfold mW;rw[List.mem_filter,Bool.not_eq_true',DG]
theorem GF {ls:cm}(hr:∀l∈ls,fm l) {l:cn}(h:l∈ls):∃k∈mW ls,∀p∈k,p∈l:=by
 have e:∀k:cn,k∈fc ls [] []↔k∈ls:=λk=>by
  rw[fq];have pk:∀l:cn,qH [] l=l:=λl=>by unfold qH;simp
  constructor
  ·rintro⟨o,h1,_,h3⟩;rw[h3,pk];exact h1
  ·intro h;exact⟨k,h,(λp _ z=>by cases z),(pk k).symm⟩
 obtain⟨k,hk,hs⟩:=nZ (m:=[]) (y:=[]) hr _ l (au _) ((e l).mpr h);have:=gI.mp hk;exact⟨k,min_mem.mpr ⟨(e k).mp this.1,λo ho=>this.2 o ((e o).mpr ho)⟩,hs⟩
theorem yH {G:Gm}(h:Drawn G):Drawn (G.at (mW G.ls)):=
 ⟨h.m1,h.m5,aB (aW _ _) h.num,λk hk=>h.line k (min_mem.mp hk).1,h.b,h.g⟩
theorem Mb {G:Gm}(h:Drawn G) {f:Int}(hf:f=0\/f=1):(G.at (mW G.ls)).ft [] [] f=G.ft [] [] f:=by
 have h':=yH h;have l1:(G.at (mW G.ls)).Le G:=⟨rfl,Int.le_refl _,Int.le_refl _,λk hk=>⟨k,(min_mem.mp hk).1,λp hp=>hp⟩⟩
 have l2:G.Le (G.at (mW G.ls)):=⟨rfl,Int.le_refl _,Int.le_refl _,λl hl=>GF (λl hl=>(h.line l hl).2.1) hl⟩
 rcases PH h hf (fV _)with w|w
 ·rw[w,(uu h h' l2 hf).1 w]
 ·rw[w,(uu h' h l1 hf).2 w]
theorem BP {ls:cm}{l k:cn}:k∈fE ls l↔k∈ls\/k=l:=by
 unfold fE;rw[Bo,List.mem_append,bt]
theorem DT {G:Gm}(h:Drawn G) (hn:G.ls.length<=6) {l:cn}(hl:l.length<=9/\fm l/\∀p∈l,0<=p/\p<G.many):Drawn (G.at (fE G.ls l)):=by
 refine⟨h.m1,h.m5,?_,λk hk=>?_,h.b,h.g⟩
 ·show(fE G.ls l).length<=7;unfold fE;rw[(eA _).length_eq];exact aB (pN _ _ (au _)) (by rw[aQ];simp;omega)
 ·rcases BP.mp hk with hk|rfl
  ·exact h.line k hk
  ·exact hl
theorem GG {G:Gm}(h:Drawn G) (p:Int):Drawn (G.at (kc G.ls p)):=
 ⟨h.m1,h.m5,aB (aW _ _) h.num,λk hk=>h.line k (List.mem_filter.mp hk).1,h.b,h.g⟩
theorem Mc {G:Gm}(l:cn):G.Le (G.at (fE G.ls l)):=⟨rfl,Int.le_refl _,Int.le_refl _,λk hk=>⟨k,BP.mpr (.inl hk),λp hp=>hp⟩⟩
theorem PL {G:Gm}(p:Int):(G.at (kc G.ls p)).Le G:=⟨rfl,Int.le_refl _,Int.le_refl _,λk hk=>⟨k,(List.mem_filter.mp hk).1,λp hp=>hp⟩⟩
end mr
namespace mr
open PySem DL GP PC PW
open LW (cX dw dE)
open L2 (kD rq)
theorem qo (m:Int) (ls:cm):yc (LW.bV m ls) (LW.bV m ls)=some (.bl false):=by
 refine wJ ?_;have:=LW.nq ls;unfold LW.bV LW.DB;simp only[dU,gZ];omega
theorem wX {f:bY}{δ:dM}{G:Gm}{w:Int}(hG:Drawn G) (hw:w=0\/w=1) (h:f δ=some [dG G w]):cO eR f δ=some (.int (G.ft [] [] w)):=by
 rw[dz h];exact GA hG.rk hw
theorem Na {f:bY}{δ:dM}{G:Gm}{w v:Int}{m y:cn}(hG:Drawn G) (hw:w=0\/w=1) (p:eO G.many m y) (h:f δ=some [dG G v,tupI m,tupI y,.int w]):cO eM f δ=some (.int (G.ft m y w)):=by
 rw[dz h];exact qN hG.rk p hw
theorem Nb {z:Int}{δ:dM}{n:Nat}(hi:iL (de 10) δ=some ((List.replicate n z).map D.int)) (hn:n<1000) (ZD:∀p:Int,de 11 (δ.set 11 (cG p))=some (.int p)):eQ (dt qA (dL (eh (iL (de 10)) 11 (qB (dt yc (de 11) (dC (.int z)))) (cP 11))) (dL (jS cL))) δ=some (.ret (.bl true)):=by
 have ec:eh (iL (de 10)) 11 (qB (dt yc (de 11) (dC (.int z)))) (cP 11) δ=some []:=by
  refine gF hi (by rw[ae,List.length_replicate];omega) ?_
  have:∀k,kF 11 (qB (dt yc (de 11) (dC (.int z)))) (cP 11) δ ((List.replicate k z).map D.int)=some []:=λk=>by
   induction k with
   |zero=>rfl
   |succ k ih=>
    rw[List.replicate_succ,aE];unfold kF;rw[gX (fW (ZD z) (y:=.int z) rfl (wJ (by simp[dU])))]
    exact ih
  exact this n
 refine gh (fW (x:=.lst []) (y:=.lst []) (by unfold dL;rw[ec];rfl) rfl rfl)
theorem DU {i:Nat}{f:cb}{δ:dM}{ds:cu}{d:D}(h:δ[i]? =some (.own ds)) (hf:f δ=some d) (hl:ds.length<999):sZ i f δ=some (.next (δ.set i (.own (ds++[d])))):=by
 unfold sZ;rw[h];simp only[hf,ao];rw[if_pos (by omega)]
theorem zW {f g:cb}{δ:dM}{x y:D}{r:Option (cu)}(hf:f δ=some x) (hg:g δ=some y) (h:xp x y=r):(dt xp f g) δ=r:=by
 unfold dt;rw[hf,hg];exact h
section
variable {many f b g c:Int}{ls:cm}
theorem JV (h:Drawn ⟨many,ls,b,g⟩) (hn:ls.length<=5) (hb:b<=2) (hg:g<=2) (hf:f=0\/f=1):i7 [di many ls f b g,.int c]=some (.bl true):=by
 have m1:1<=many:=h.m1;have b1:1<=b:=h.b.1;have g1:1<=g:=h.g.1;have p0:=LW.kr (c:=c) (p:=9883) (m:=many) (by omega)
 have p1:=LW.kx (c:=c) (p:=9883) (m:=many) (by omega)
 have q0:=LW.kr (c:=c) (p:=9871) (m:=many) (by omega)
 have q1:=LW.kx (c:=c) (p:=9871) (m:=many) (by omega)
 have ep:cX [.int c,.int 9883,.int many]=some (.int (LW.jz c 9883 many)):=LW.qF (by omega) (by omega)
 have eq:cX [.int c,.int 9871,.int many]=some (.int (LW.jz c 9871 many)):=LW.qF (by omega) (by omega)
 generalize LW.jz c 9883 many=p at p0 p1 ep;generalize LW.jz c 9871 many=q at q0 q1 eq;have el:∀r:Int,r∈sortI [p,q].eraseDups↔r=p\/r=q:=λr=>by rw[cT,List.mem_eraseDups];simp
 have hL:(sortI [p,q].eraseDups).length<=9/\fm (sortI [p,q].eraseDups)/\∀r∈sortI [p,q].eraseDups,0<=r/\r<many:=by
  refine⟨?_,LW.iD (jc _ _ (au _)),λr hr=>?_⟩
  ·rw[(sortI_perm _).length_eq];exact aB (pN _ _ (au _)) (by simp)
  ·rcases(el r).mp hr with rfl|rfl
   ·exact⟨p0,p1⟩
   ·exact⟨q0,q1⟩
 generalize hS:sortI [p,q].eraseDups=L at hL;have dW:=DT (l:=L) h (by show ls.length<=6;omega) hL
 have dO:=GG h p;have d3:Drawn ⟨many,ls,b+1,g⟩:=⟨h.m1,h.m5,h.num,h.line,⟨by show 1<=b+1;omega,by show b+1<=3;omega⟩,h.g⟩
 have Xl:Drawn ⟨many,ls,b,g+1⟩:=⟨h.m1,h.m5,h.num,h.line,h.b,⟨by show 1<=g+1;omega,by show g+1<=3;omega⟩⟩
 have d5:Drawn ⟨many,ls,b,if g-1>1 then g-1 else 1⟩:=⟨h.m1,h.m5,h.num,h.line,h.b,⟨by show 1<=(if g-1>1 then g-1 else 1);split<;>omega,by show(if g-1>1 then g-1 else 1)<=3;split<;>omega⟩⟩
 have Xm:Drawn ⟨many,ls,if b-1>1 then b-1 else 1,g⟩:=⟨h.m1,h.m5,h.num,h.line,⟨by show 1<=(if b-1>1 then b-1 else 1);split<;>omega,by show(if b-1>1 then b-1 else 1)<=3;split<;>omega⟩,h.g⟩
 refine LW.eF rfl ?_;show jL [.dat (di many ls f b g),cG c,.no,.no,.no,.no,.no,.no,.no,.no,.no,.no]=_;have e1:oE [.dat (di many ls f b g),cG c,.no,.no,.no,.no,.no,.no,.no,.no,.no,.no]=some (.next [.dat (di many ls f b g),cG c,.dat (LW.bV many ls),cG f,cG b,cG g,.no,.no,.no,.no,.no,.no]):=rfl;have e2:kX [.dat (di many ls f b g),cG c,.dat (LW.bV many ls),cG f,cG b,cG g,.no,.no,.no,.no,.no,.no]=some (.next [.dat (di many ls f b g),cG c,.dat (LW.bV many ls),cG f,cG b,cG g,cG p,.no,.no,.no,.no,.no]):=by
  unfold kX;exact lB ((dz rfl).trans ep)
 have e3:kY [.dat (di many ls f b g),cG c,.dat (LW.bV many ls),cG f,cG b,cG g,cG p,.no,.no,.no,.no,.no]=some (.next [.dat (di many ls f b g),cG c,.dat (LW.bV many ls),cG f,cG b,cG g,cG p,cH L,.no,.no,.no,.no]):=by
  unfold kY;have ea:aY (cP 6) (aY (cO cX (aY (cP 1) (aY (dC (.int 9871)) (aY (dt i8 (de 2) (dC (.int 0))) cL)))) cL) [.dat (di many ls f b g),cG c,.dat (LW.bV many ls),cG f,cG b,cG g,cG p,.no,.no,.no,.no,.no]=some [.int p,.int q]:=je (x:=.int p) rfl (iX ((dz rfl).trans eq));have es:nA (dL (jS (aY (cP 6) (aY (cO cX (aY (cP 1) (aY (dC (.int 9871)) (aY (dt i8 (de 2) (dC (.int 0))) cL)))) cL)))) [.dat (di many ls f b g),cG c,.dat (LW.bV many ls),cG f,cG b,cG g,cG p,.no,.no,.no,.no,.no]=some (L.map D.int):=by
   have ed:dL (jS (aY (cP 6) (aY (cO cX (aY (cP 1) (aY (dC (.int 9871)) (aY (dt i8 (de 2) (dC (.int 0))) cL)))) cL))) [.dat (di many ls f b g),cG c,.dat (LW.bV many ls),cG f,cG b,cG g,cG p,.no,.no,.no,.no,.no]=some (.lst ([p,q].map D.int)):=by
    unfold dL jS;rw[ea];rfl
   unfold nA;rw[ed];simp only;rw[hU];simp only[ao];rw[if_pos (by simp),hS]
  exact lB ((jD es).trans rfl)
 have e4:kZ [.dat (di many ls f b g),cG c,.dat (LW.bV many ls),cG f,cG b,cG g,cG p,cH L,.no,.no,.no,.no]=some (.next [.dat (di many ls f b g),cG c,.dat (LW.bV many ls),cG f,cG b,cG g,cG p,cH L,.dat (LW.bV many (fE ls L)),.no,.no,.no]):=by
  unfold kZ;exact lB ((dz rfl).trans (Pz (by omega)))
 have e5:lb [.dat (di many ls f b g),cG c,.dat (LW.bV many ls),cG f,cG b,cG g,cG p,cH L,.dat (LW.bV many (fE ls L)),.no,.no,.no]=some (.next [.dat (di many ls f b g),cG c,.dat (LW.bV many ls),cG f,cG b,cG g,cG p,cH L,.dat (LW.bV many (fE ls L)),.dat (LW.bV many (kc ls p)),.no,.no]):=by
  unfold lb;exact lB ((dz rfl).trans (SE (by omega)))
 have e7:lh [.dat (di many ls f b g),cG c,.dat (LW.bV many ls),cG f,cG b,cG g,cG p,cH L,.dat (LW.bV many (fE ls L)),.dat (LW.bV many (kc ls p)),.no,.no]=some (.next [.dat (di many ls f b g),cG c,.dat (LW.bV many ls),cG f,cG b,cG g,cG p,cH L,.dat (LW.bV many (fE ls L)),.dat (LW.bV many (kc ls p)),.no,.no]):=by
  unfold lh;exact(mi (gX (fW (x:=LW.bV many (fE ls L)) rfl (JR (i:=2) (j:=7) rfl rfl (by omega)) (qo _ _)))).trans rfl
 have e9:lj [.dat (di many ls f b g),cG c,.dat (LW.bV many ls),cG f,cG b,cG g,cG p,cH L,.dat (LW.bV many (fE ls L)),.dat (LW.bV many (kc ls p)),.no,.no]=some (.next [.dat (di many ls f b g),cG c,.dat (LW.bV many ls),cG f,cG b,cG g,cG p,cH L,.dat (LW.bV many (fE ls L)),.dat (LW.bV many (kc ls p)),.no,.no]):=by
  unfold lj;refine(mi (gX (fW (x:=LW.bV many (kc ls p)) (y:=LW.bV many (kc ls p)) rfl ?_ (qo _ _)))).trans rfl;exact va (je (x:=.int many) rfl (iX (M7 (i:=0) (ls:=ls) (p:=p) (by omega) rfl (λl=>rfl) (λl=>rfl) (λl=>rfl)))) (by simp)
 have ew:qB (dt qA (cO eR (aY (cP 0) cL)) (dC (.int 0))) [.dat (di many ls f b g),cG c,.dat (LW.bV many ls),cG f,cG b,cG g,cG p,cH L,.dat (LW.bV many (fE ls L)),.dat (LW.bV many (kc ls p)),.no,.no]=some (decide ((⟨many,ls,b,g⟩:Gm).ft [] [] f=0)):=gX (fW (wX h hf rfl) (y:=.int 0) rfl (u7 _ 0));unfold jL;rw[LW.cR e1,LW.cR e2,LW.cR e3,LW.cR e4,LW.cR e5,LW.cR e7,LW.cR e9];have ZE:∀x:Int,AH [.int 1,.int x]=some (.int (if x>1 then x else 1)):=λx=>rfl
 rcases PH h hf (fV _)with w|w
 ·refine mj ?_;unfold iH;rw[yC (ew.trans (by rw[aR w]))]
  have w1:=(uu h dW (Mc L) hf).1 w;have w2:=L8 h hf w;have w3:=(uu h d3 ⟨rfl,by show b<=b+1;omega,Int.le_refl _,λl hl=>⟨l,hl,λ_ k=>k⟩⟩ hf).1 w
  have w4:=L6 h (p:=p) ⟨p0,p1⟩ hf w;have w5:=(uu h d5 ⟨rfl,Int.le_refl _,by show(if g-1>1 then g-1 else 1)<=g;split<;>omega,λl hl=>⟨l,hl,λ_ k=>k⟩⟩ hf).1 w
  have Pl:j5 [.dat (di many ls f b g),cG c,.dat (LW.bV many ls),cG f,cG b,cG g,cG p,cH L,.dat (LW.bV many (fE ls L)),.dat (LW.bV many (kc ls p)),.no,.no]=some (.next [.dat (di many ls f b g),cG c,.dat (LW.bV many ls),cG f,cG b,cG g,cG p,cH L,.dat (LW.bV many (fE ls L)),.dat (LW.bV many (kc ls p)),.own ((List.replicate 2 0).map D.int),.no]):=by
   unfold j5;refine(il (ds:=[.int 0,.int 0]) ?_).trans rfl;unfold jS;rw[je ((wX dW hf rfl).trans (by rw[w1])) (iX ((wX h (.inl rfl) rfl).trans (by rw[w2])))]
   rfl
  have Vs:j6 [.dat (di many ls f b g),cG c,.dat (LW.bV many ls),cG f,cG b,cG g,cG p,cH L,.dat (LW.bV many (fE ls L)),.dat (LW.bV many (kc ls p)),.own ((List.replicate 2 0).map D.int),.no]=some (.next [.dat (di many ls f b g),cG c,.dat (LW.bV many ls),cG f,cG b,cG g,cG p,cH L,.dat (LW.bV many (fE ls L)),.dat (LW.bV many (kc ls p)),.own ((List.replicate 4 0).map D.int),.no]):=by
   unfold j6;refine(il (ds:=(List.replicate 4 0).map D.int) (zW (x:=.lst ((List.replicate 2 0).map D.int)) (y:=.lst [.int 0,.int 0]) rfl ?_ rfl)).trans rfl;unfold dL jS;rw[je ((wX d3 hf rfl).trans (by rw[w3])) (iX ((Na (v:=f) h hf (M9 ⟨p0,p1⟩) rfl).trans (by rw[w4])))]
   rfl
  have Vt:j7 [.dat (di many ls f b g),cG c,.dat (LW.bV many ls),cG f,cG b,cG g,cG p,cH L,.dat (LW.bV many (fE ls L)),.dat (LW.bV many (kc ls p)),.own ((List.replicate 4 0).map D.int),.no]=some (.next [.dat (di many ls f b g),cG c,.dat (LW.bV many ls),cG f,cG b,cG g,cG p,cH L,.dat (LW.bV many (fE ls L)),.dat (LW.bV many (kc ls p)),.own ((List.replicate 5 0).map D.int),.no]):=by
   unfold j7;refine DU (ds:=(List.replicate 4 0).map D.int) (d:=.int 0) rfl ((wX d5 hf ?_).trans (by rw[w5])) (by decide)
   rfl
  rw[LW.cR Pl,LW.cR Vs,LW.cR Vt];exact Nb (z:=0) (n:=5) rfl (by decide) (λp=>rfl)
 ·have Vu:iH [.dat (di many ls f b g),cG c,.dat (LW.bV many ls),cG f,cG b,cG g,cG p,cH L,.dat (LW.bV many (fE ls L)),.dat (LW.bV many (kc ls p)),.no,.no]=some (.next [.dat (di many ls f b g),cG c,.dat (LW.bV many ls),cG f,cG b,cG g,cG p,cH L,.dat (LW.bV many (fE ls L)),.dat (LW.bV many (kc ls p)),.no,.no]):=by
   unfold iH;rw[mi (ew.trans (by rw[w];rfl))]
   rfl
  have w1:=(uu dO h (PL p) hf).2 w;have w2:=L9 h hf w;have w3:=(uu Xl h ⟨rfl,Int.le_refl _,by show g<=g+1;omega,λl hl=>⟨l,hl,λ_ k=>k⟩⟩ hf).2 w
  have w4:=L7 h (p:=p) ⟨p0,p1⟩ hf w;have w5:=(uu Xm h ⟨rfl,by show(if b-1>1 then b-1 else 1)<=b;split<;>omega,Int.le_refl _,λl hl=>⟨l,hl,λ_ k=>k⟩⟩ hf).2 w
  have Pl:j8 [.dat (di many ls f b g),cG c,.dat (LW.bV many ls),cG f,cG b,cG g,cG p,cH L,.dat (LW.bV many (fE ls L)),.dat (LW.bV many (kc ls p)),.no,.no]=some (.next [.dat (di many ls f b g),cG c,.dat (LW.bV many ls),cG f,cG b,cG g,cG p,cH L,.dat (LW.bV many (fE ls L)),.dat (LW.bV many (kc ls p)),.own ((List.replicate 2 1).map D.int),.no]):=by
   unfold j8;refine(il (ds:=[.int 1,.int 1]) ?_).trans rfl;unfold jS;rw[je ((wX dO hf rfl).trans (by rw[w1])) (iX ((wX h (.inr rfl) rfl).trans (by rw[w2])))]
   rfl
  have Vs:j9 [.dat (di many ls f b g),cG c,.dat (LW.bV many ls),cG f,cG b,cG g,cG p,cH L,.dat (LW.bV many (fE ls L)),.dat (LW.bV many (kc ls p)),.own ((List.replicate 2 1).map D.int),.no]=some (.next [.dat (di many ls f b g),cG c,.dat (LW.bV many ls),cG f,cG b,cG g,cG p,cH L,.dat (LW.bV many (fE ls L)),.dat (LW.bV many (kc ls p)),.own ((List.replicate 4 1).map D.int),.no]):=by
   unfold j9;refine(il (ds:=(List.replicate 4 1).map D.int) (zW (x:=.lst ((List.replicate 2 1).map D.int)) (y:=.lst [.int 1,.int 1]) rfl ?_ rfl)).trans rfl;unfold dL jS;rw[je ((wX Xl hf rfl).trans (by rw[w3])) (iX ((Na (v:=f) h hf (JS ⟨p0,p1⟩) rfl).trans (by rw[w4])))]
   rfl
  have Vt:kb [.dat (di many ls f b g),cG c,.dat (LW.bV many ls),cG f,cG b,cG g,cG p,cH L,.dat (LW.bV many (fE ls L)),.dat (LW.bV many (kc ls p)),.own ((List.replicate 4 1).map D.int),.no]=some (.next [.dat (di many ls f b g),cG c,.dat (LW.bV many ls),cG f,cG b,cG g,cG p,cH L,.dat (LW.bV many (fE ls L)),.dat (LW.bV many (kc ls p)),.own ((List.replicate 5 1).map D.int),.no]):=by
   unfold kb;refine DU (ds:=(List.replicate 4 1).map D.int) (d:=.int 1) rfl ((wX Xm hf ?_).trans (by rw[w5])) (by decide)
   rfl
  rw[LW.cR Vu,LW.cR Pl,LW.cR Vs,LW.cR Vt];exact Nb (z:=1) (n:=5) rfl (by decide) (λp=>rfl)
end
end mr
namespace mr
open PySem DL GP PC PW
open LW (cX dw dE)
open L2 (kD rq)
theorem SH {f:bY}{δ:dM}{ds:cu}(h:f δ=some ds):dL f δ=some (.lst ds):=by unfold dL;rw[h];rfl
def SJ (x:Sl) (acc:cm):Prop:=x=.dat (.lst (acc.map tupI))\/x=.own (acc.map tupI)
section
variable {S C G Fd x4 x5 x6 x7 x8 x12 x13 x14:Sl}{l:cn}
theorem E5:∀(ks acc:cm) (x11:Sl),(∀o∈ks,o.length<1000)->acc.length+ks.length<900->∃y11,
  jo 11 pQ (ks.map tupI) [S,C,G,Fd,x4,x5,x6,x7,x8,cH l,.own (acc.map tupI),x11,x12,x13,x14]=some (.next [S,C,G,Fd,x4,x5,x6,x7,x8,cH l,.own ((acc++ks.filter λo=>(!decide (o=l))&&gW l o).map tupI),y11,x12,x13,x14])
 |[],acc,x11,_,_=>⟨x11,by rw[List.map_nil,List.filter_nil,bB];rfl⟩
 |o::ks,acc,x11,hl,hn=>by
  have xO:acc.length+(ks.length+1)<900:=hn;have q1:qB (dt yc (de 11) (de 9)) [S,C,G,Fd,x4,x5,x6,x7,x8,cH l,.own (acc.map tupI),cH o,x12,x13,x14]=some (!decide (o=l)):=gX (fW (x:=tupI o) (y:=tupI l) rfl rfl (By o l));have q2:sY (qT (dL (eh (iT (cP 11)) 14 (qB (dt qU (de 14) (de 9))) (cP 14)))) [S,C,G,Fd,x4,x5,x6,x7,x8,cH l,.own (acc.map tupI),cH o,x12,x13,x14]=some (gW l o):=by
   have it:iT (cP 11) [S,C,G,Fd,x4,x5,x6,x7,x8,cH l,.own (acc.map tupI),cH o,x12,x13,x14]=some (o.map D.int):=rfl;have ec:=gF (j:=14) (t:=qB (dt qU (de 14) (de 9))) (f:=cP 14) it (by rw[ae];have:=hl o af;omega) (jK (p:=λp=> !decide (p∈l)) (ψ:=D.int) _ (λp _=>gX (fW (x:=.int p) (y:=tupI l) rfl rfl (wj p l))) (λp _ _=>rfl))
   have et:qT (dL (eh (iT (cP 11)) 14 (qB (dt qU (de 14) (de 9))) (cP 14))) [S,C,G,Fd,x4,x5,x6,x7,x8,cH l,.own (acc.map tupI),cH o,x12,x13,x14]=some (!(o.filter λp=> !decide (p∈l)).isEmpty):=by
    unfold qT dL;rw[ec];show some (!((o.filter λp=> !decide (p∈l)).map D.int).isEmpty)=_
    rw[List.isEmpty_map]
   rw[sC et,EO,Bool.not_not]
  have e:pQ [S,C,G,Fd,x4,x5,x6,x7,x8,cH l,.own (acc.map tupI),cH o,x12,x13,x14]=some (.next [S,C,G,Fd,x4,x5,x6,x7,x8,cH l,.own ((if((!decide (o=l))&&gW l o)=true then acc++[o]else acc).map tupI),cH o,x12,x13,x14]):=by
   unfold pQ BN;by_cases c1:o=l
   ·rw[mi (JC (q1.trans (by rw[aR c1];rfl))),if_neg (by simp[c1])]
    rfl
   ·have qa:=q1.trans (by rw[aG c1];rfl:some (!decide (o=l))=some true)
    cases hA:gW l o with
    |false=>
     rw[mi (zN qa (q2.trans (by rw[hA]))),if_neg (by simp)]
     rfl
    |true=>
     rw[yC (zN qa (q2.trans (by rw[hA]))),if_pos (by simp[c1])]
     unfold BM;rw[DU (ds:=acc.map tupI) (d:=tupI o) rfl rfl (by rw[ae];omega),List.map_append]
     rfl
  obtain⟨y,ih⟩:=E5 ks (if((!decide (o=l))&&gW l o)=true then acc++[o]else acc) (cH o) (λk h=>hl k (ai _ h)) (by split<;>(try rw[aQ,List.length_singleton])<;>omega)
  refine⟨y,?_⟩;rw[aE,jh (j:=11) (δ:=[S,C,G,Fd,x4,x5,x6,x7,x8,cH l,.own (acc.map tupI),x11,x12,x13,x14]) e,ih,br];split
  ·rw[List.append_assoc];rfl
  ·rfl
end
theorem SK (l:cn) (ls:cm):(ls.filter λo=>(!decide (o=l))&&gW l o).isEmpty= !nX l ls:=by
 unfold nX;rw[Bool.eq_iff_iff,List.isEmpty_iff,List.filter_eq_nil_iff,Bool.not_eq_true',List.any_eq_false]
section
variable {S C G x4 x5 x6 x7 x12 x13 x14:Sl}{many:Int}{ls:cm}
theorem Nc (Xn:∀o∈ls,o.length<1000) (hn:ls.length<100):∀(ks acc:cm) (x8 x9 x10 x11:Sl),SJ x8 acc->acc.length+ks.length<900->∃y8 y9 y10 y11,SJ y8 (acc++ks.filter λl=> !nX l ls)/\
  jo 9 pR (ks.map tupI) [S,C,G,.dat (LW.bV many ls),x4,x5,x6,x7,x8,x9,x10,x11,x12,x13,x14]=some (.next [S,C,G,.dat (LW.bV many ls),x4,x5,x6,x7,y8,y9,y10,y11,x12,x13,x14])
 |[],acc,x8,x9,x10,x11,hh,_=>⟨x8,x9,x10,x11,by rw[List.filter_nil,bB];exact hh,rfl⟩
 |l::ks,acc,x8,x9,x10,x11,hh,ha=>by
  have UI:acc.length+(ks.length+1)<900:=ha;obtain⟨y11,Xo⟩:=E5 (S:=S) (C:=C) (G:=G) (Fd:=.dat (LW.bV many ls)) (x4:=x4) (x5:=x5) (x6:=x6) (x7:=x7) (x8:=x8) (x12:=x12) (x13:=x13) (x14:=x14) (l:=l) ls [] x11 Xn (by simp;omega)
  rw[List.nil_append]at Xo;have Pl:BL [S,C,G,.dat (LW.bV many ls),x4,x5,x6,x7,x8,cH l,x10,x11,x12,x13,x14]=some (.next [S,C,G,.dat (LW.bV many ls),x4,x5,x6,x7,x8,cH l,.own [],x11,x12,x13,x14]):=rfl;have SM:wO [S,C,G,.dat (LW.bV many ls),x4,x5,x6,x7,x8,cH l,.own [],x11,x12,x13,x14]=some (.next [S,C,G,.dat (LW.bV many ls),x4,x5,x6,x7,x8,cH l,.own ((ls.filter λo=>(!decide (o=l))&&gW l o).map tupI),y11,x12,x13,x14]):=by
   unfold wO;exact oi rfl Xo
  have hE:=SK l ls;generalize ls.filter (λo=>(!decide (o=l))&&gW l o)=B6 at SM hE
  have r8:de 8 [S,C,G,.dat (LW.bV many ls),x4,x5,x6,x7,x8,cH l,.own (B6.map tupI),y11,x12,x13,x14]=some (.lst (acc.map tupI)):=by
   rcases hh with rfl|rfl<;>rfl
  have Vu:wQ [S,C,G,.dat (LW.bV many ls),x4,x5,x6,x7,x8,cH l,.own (B6.map tupI),y11,x12,x13,x14]=some (.next [S,C,G,.dat (LW.bV many ls),x4,x5,x6,x7,.own ((acc++if(!nX l ls)=true then[l]else[]).map tupI),cH l,.own (B6.map tupI),y11,x12,x13,x14]):=by
   have en:wM (de 10) [S,C,G,.dat (LW.bV many ls),x4,x5,x6,x7,x8,cH l,.own (B6.map tupI),y11,x12,x13,x14]=some (.bl (!nX l ls)):=by
    show some (D.bl (!(!(B6.map tupI).isEmpty)))=_;rw[List.isEmpty_map,Bool.not_not,hE]
   have em:(dt mulL (dL (jS (aY (cP 9) cL))) (cO AN (aY (wM (de 10)) cL))) [S,C,G,.dat (LW.bV many ls),x4,x5,x6,x7,x8,cH l,.own (B6.map tupI),y11,x12,x13,x14]=some ((if(!nX l ls)=true then[l]else[]).map tupI):=by
    unfold dt;rw[show cO AN (aY (wM (de 10)) cL) [S,C,G,.dat (LW.bV many ls),x4,x5,x6,x7,x8,cH l,.own (B6.map tupI),y11,x12,x13,x14]=some (.int (if(!nX l ls)then 1 else 0))from(dz (iX en)).trans rfl]
    cases nX l ls<;>rfl
   unfold wQ;refine(il (ds:=(acc++if(!nX l ls)=true then[l]else[]).map tupI) (zW (y:=.lst ((if(!nX l ls)=true then[l]else[]).map tupI)) r8 (SH em) ?_)).trans rfl
   unfold xp;simp only;rw[if_pos (by rw[ae,ae];split<;>simp<;>omega),List.map_append]
  obtain⟨z8,z9,z10,z11,hz,ih⟩:=Nc Xn hn ks (acc++if(!nX l ls)=true then[l]else[]) (.own ((acc++if(!nX l ls)=true then[l]else[]).map tupI)) (cH l) (.own (B6.map tupI)) y11 (.inr rfl) (by split<;>simp<;>omega)
  refine⟨z8,z9,z10,z11,?_,?_⟩
  ·rw[br];rw[List.append_assoc]at hz;split at hz
   ·rename_i hc;rw[if_pos hc];exact hz
   ·rename_i hc;rw[if_neg hc];exact hz
  ·rw[aE,jh (j:=9) (δ:=[S,C,G,.dat (LW.bV many ls),x4,x5,x6,x7,x8,x9,x10,x11,x12,x13,x14]) (δ':=[S,C,G,.dat (LW.bV many ls),x4,x5,x6,x7,.own ((acc++if(!nX l ls)=true then[l]else[]).map tupI),cH l,.own (B6.map tupI),y11,x12,x13,x14]) ?_,ih]
   show pR [S,C,G,.dat (LW.bV many ls),x4,x5,x6,x7,x8,cH l,x10,x11,x12,x13,x14]=_;unfold pR;rw[LW.cR Pl,LW.cR SM,Vu]
end
theorem PM {S x2 x5 x6 x7 x8 x9 x10 x11 x12 x13 x14:Sl}{c many:Int}{ls:cm}(h1:1<=many) (h5:many<=5):∃nums:cn,∃y4,Num many ls nums/\
  zQ [S,cG c,x2,.dat (LW.bV many ls),.own ((dF 0 many.toNat).map D.int),x5,x6,x7,x8,x9,x10,x11,x12,x13,x14]=some (.next [S,cG c,x2,.dat (LW.bV many ls),y4,cH nums,x6,x7,x8,x9,x10,x11,x12,x13,x14]):=by
 have hl:((dF 0 many.toNat).map D.int).length=many.toNat:=by rw[ae,ef]
 obtain⟨xs,rest,e,p,l⟩:=LW.zw (j:=13) (m:=4) (f:=cO cX (aY (dt jN (de 1) (dt rL (dC (.int 5)) (de 13))) (aY (dC (.int 9869)) (aY (cO nL (aY (de 4) cL)) cL))))
  (δ:=[S,cG c,x2,.dat (LW.bV many ls),.own ((dF 0 many.toNat).map D.int),x5,x6,x7,x8,x9,x10,x11,x12,x13,x14])
  ((dF 0 many.toNat).map D.int) ((dF 0 many.toNat).map D.int) (au _) (λi d lc hd hk=>by
   rw[av,lO]at hd;split at hd
   ·rename_i hi;cases hd;have hp:0<(lc.length:Int):=by omega
    refine⟨LW.jz (c+5*(0+(i:Int))) 9869 lc.length,?_,LW.kr hp,?_⟩
    ·refine(dz (je (x:=.int (c+5*(0+(i:Int)))) ?_ (je (x:=.int 9869) rfl (iX (x:=.int (lc.length:Nat)) rfl)))).trans (LW.qF (by omega) hp)
     exact fW (x:=.int c) (y:=.int (5*(0+(i:Int)))) rfl (fW (x:=.int 5) (y:=.int (0+(i:Int))) rfl rfl (by simp[rL,Eh,FD])) rfl
    ·exact LW.kx hp
   ·cases hd)
 obtain⟨ms,rs,rfl,rfl,q⟩:=LW.sk p;rw[hl,ae]at l;have ql:=q.length_eq;rw[ef,aQ]at ql;have r0:rs=[]:=List.length_eq_zero_iff.mp (by omega)
 subst r0;rw[bB]at q;refine⟨ms,.own ([].map D.int),⟨by omega,q.nodup_iff.mpr (gD (ie _ _)),λx hx=>by have:=(LW.hZ _ _ _).mp (q.mem_iff.mp hx);omega⟩,?_⟩
 have a:many.toNat<1000000:=by omega
 have it:ya (aY (dt i8 (de 3) (dC (.int 0))) cL) [S,cG c,x2,.dat (LW.bV many ls),.own ((dF 0 many.toNat).map D.int),x5,x6,x7,x8,x9,x10,x11,x12,x13,x14]=some ((dF 0 many.toNat).map D.int):=by
  have:aY (dt i8 (de 3) (dC (.int 0))) cL [S,cG c,x2,.dat (LW.bV many ls),.own ((dF 0 many.toNat).map D.int),x5,x6,x7,x8,x9,x10,x11,x12,x13,x14]=some [.int many]:=rfl;unfold ya;rw[this];exact if_pos ⟨by omega,by omega⟩
 unfold zQ BH;simp only[aK,aM,hl,if_pos a,it,ao,e,bA];rfl
theorem JW (c:Int) (S:Sl) (x2 x3 x4 x5 x6 x7 x8 x9 x10 x11 x12 x13 x14:Sl):∃y2 y3 y4 y5 y6 y7 y8 y9 y10 y11 y12 y13 y14,nC [S,cG c,x2,x3,x4,x5,x6,x7,x8,x9,x10,x11,x12,x13,x14]=some (.next [S,cG c,y2,y3,y4,y5,y6,y7,y8,y9,y10,y11,y12,y13,y14]):=by
 obtain⟨many,ls,f,b,g,eg,_,ok⟩:=LW.Po (c:=c) (least:=1) (most:=5) (lines:=5) (by omega) (by omega) (by omega) (by omega) (by omega)
 have h1:=ok.field.lo;have h5:=ok.field.hi;have hn:=ok.field.num;have f0:=ok.f0;have f1:=ok.f1;have b1:=ok.b1;have b2:=ok.b2;have g1:=ok.g1;have g2:=ok.g2;have hf:f=0\/f=1:=by omega
 have hl:=ok.field.line;have dr:Drawn ⟨many,ls,b,g⟩:=⟨h1,h5,by show ls.length<=7;omega,λl h=>⟨by have:=(hl l h).four;omega,(hl l h).rise,(hl l h).B6⟩,⟨b1,by show b<=3;omega⟩,⟨g1,by show g<=3;omega⟩⟩
 have e1:zO [S,cG c,x2,x3,x4,x5,x6,x7,x8,x9,x10,x11,x12,x13,x14]=some (.next [S,cG c,.dat (di many ls f b g),x3,x4,x5,x6,x7,x8,x9,x10,x11,x12,x13,x14]):=by
  unfold zO;exact lB ((dz rfl).trans eg)
 have e2:EZ [S,cG c,.dat (di many ls f b g),x3,x4,x5,x6,x7,x8,x9,x10,x11,x12,x13,x14]=some (.next [S,cG c,.dat (di many ls f b g),.dat (LW.bV many ls),x4,x5,x6,x7,x8,x9,x10,x11,x12,x13,x14]):=rfl;have e3:zP [S,cG c,.dat (di many ls f b g),.dat (LW.bV many ls),x4,x5,x6,x7,x8,x9,x10,x11,x12,x13,x14]=some (.next [S,cG c,.dat (di many ls f b g),.dat (LW.bV many ls),.own ((dF 0 many.toNat).map D.int),x5,x6,x7,x8,x9,x10,x11,x12,x13,x14]):=by
  unfold zP;refine(il (ds:=(dF 0 many.toNat).map D.int) ?_).trans rfl;have:aY (dt i8 (de 3) (dC (.int 0))) cL [S,cG c,.dat (di many ls f b g),.dat (LW.bV many ls),x4,x5,x6,x7,x8,x9,x10,x11,x12,x13,x14]=some [.int many]:=rfl;unfold ya;rw[this];exact if_pos ⟨by omega,by omega⟩
 obtain⟨nums,y4,N,e4⟩:=PM (S:=S) (x2:=.dat (di many ls f b g)) (x5:=x5) (x6:=x6) (x7:=x7) (x8:=x8) (x9:=x9) (x10:=x10) (x11:=x11) (x12:=x12) (x13:=x13) (x14:=x14) (c:=c) (ls:=ls) h1 h5;have e5:zR [S,cG c,.dat (di many ls f b g),.dat (LW.bV many ls),y4,cH nums,x6,x7,x8,x9,x10,x11,x12,x13,x14]=some (.next [S,cG c,.dat (di many ls f b g),.dat (LW.bV many ls),y4,cH nums,.dat (LW.bV many (gj nums ls)),x7,x8,x9,x10,x11,x12,x13,x14]):=by
  unfold zR;exact lB ((dz rfl).trans (SF N (by omega) hl))
 have e6:zS [S,cG c,.dat (di many ls f b g),.dat (LW.bV many ls),y4,cH nums,.dat (LW.bV many (gj nums ls)),x7,x8,x9,x10,x11,x12,x13,x14]=some (.next [S,cG c,.dat (di many ls f b g),.dat (LW.bV many ls),y4,cH nums,.dat (LW.bV many (gj nums ls)),.own ((ls.map λl=>sortI (l.map (rj nums))).map tupI),x8,x9,x10,x11,x12,x13,x14]):=by
  unfold zS;have it:iT (dt i8 (de 3) (dC (.int 1))) [S,cG c,.dat (di many ls f b g),.dat (LW.bV many ls),y4,cH nums,.dat (LW.bV many (gj nums ls)),x7,x8,x9,x10,x11,x12,x13,x14]=some (ls.map tupI):=rfl;refine(il (gF it (by rw[ae];omega) (jC (ψ:=λl=>tupI (sortI (l.map (rj nums)))) _ λl hm=>?_))).trans ?_
  ·exact M8 (λp hp=>by rw[N.len];exact(hl l hm).B6 p hp) (by have:=(hl l hm).four;omega) rfl (λp=>rfl) (λp=>rfl)
  ·rw[aV];rfl
 have e8:u9 [S,cG c,.dat (di many ls f b g),.dat (LW.bV many ls),y4,cH nums,.dat (LW.bV many (gj nums ls)),.dat (.lst ((ls.map λl=>sortI (l.map (rj nums))).map tupI)),x8,x9,x10,x11,x12,x13,x14]=some (.next [S,cG c,.dat (di many ls f b g),.dat (LW.bV many ls),y4,cH nums,.dat (LW.bV many (gj nums ls)),.dat (.lst ((ls.map λl=>sortI (l.map (rj nums))).map tupI)),x8,x9,x10,x11,x12,x13,x14]):=by
  have es:fj fy (aY (de 7) cL) [S,cG c,.dat (di many ls f b g),.dat (LW.bV many ls),y4,cH nums,.dat (LW.bV many (gj nums ls)),.dat (.lst ((ls.map λl=>sortI (l.map (rj nums))).map tupI)),x8,x9,x10,x11,x12,x13,x14]=some ((gj nums ls).map tupI):=
   LW.nU (by rw[ae];omega) (λl h=>by obtain⟨k,hk,rfl⟩:=List.mem_map.mp h;exact E3 (hl k hk).ne)
  unfold u9;exact(mi (gX (fW (x:=LW.bV many (gj nums ls)) (y:=LW.bV many (gj nums ls)) rfl (va (je (x:=.int many) rfl (iX ((jD es).trans rfl))) (by simp)) (qo _ _)))).trans rfl
 generalize ZF:Sl.dat (.lst ((ls.map λl=>sortI (l.map (rj nums))).map tupI))=d7 at e8
 have e9:E1 [S,cG c,.dat (di many ls f b g),.dat (LW.bV many ls),y4,cH nums,.dat (LW.bV many (gj nums ls)),d7,x8,x9,x10,x11,x12,x13,x14]=some (.next [S,cG c,.dat (di many ls f b g),.dat (LW.bV many ls),y4,cH nums,.dat (LW.bV many (gj nums ls)),d7,.own [],x9,x10,x11,x12,x13,x14]):=rfl;obtain⟨y8,y9,y10,y11,hh,ZG⟩:=Nc (S:=S) (C:=cG c) (G:=.dat (di many ls f b g)) (x4:=y4) (x5:=cH nums) (x6:=.dat (LW.bV many (gj nums ls))) (x7:=d7) (x12:=x12) (x13:=x13) (x14:=x14) (many:=many) (ls:=ls) (λo ho=>by have:=(hl o ho).four;omega) (by omega) ls [] (.dat (.lst [])) x9 x10 x11 (.inl rfl) (by simp;omega)
 rw[List.nil_append]at hh;have Vv:sJ [S,cG c,.dat (di many ls f b g),.dat (LW.bV many ls),y4,cH nums,.dat (LW.bV many (gj nums ls)),d7,.dat (.lst []),x9,x10,x11,x12,x13,x14]=some (.next [S,cG c,.dat (di many ls f b g),.dat (LW.bV many ls),y4,cH nums,.dat (LW.bV many (gj nums ls)),d7,y8,y9,y10,y11,x12,x13,x14]):=by
  unfold sJ;exact oi rfl ZG
 have ee:=SG (m:=many) (ls:=ls) (by omega) hl
 have ZH:wR [S,cG c,.dat (di many ls f b g),.dat (LW.bV many ls),y4,cH nums,.dat (LW.bV many (gj nums ls)),d7,y8,y9,y10,y11,x12,x13,x14]=some (.next [S,cG c,.dat (di many ls f b g),.dat (LW.bV many ls),y4,cH nums,.dat (LW.bV many (gj nums ls)),d7,y8,y9,y10,y11,x12,x13,x14]):=by
  have r8:de 8 [S,cG c,.dat (di many ls f b g),.dat (LW.bV many ls),y4,cH nums,.dat (LW.bV many (gj nums ls)),d7,y8,y9,y10,y11,x12,x13,x14]=some (.lst ((mW ls).map tupI)):=by
   rcases hh with rfl|rfl<;>rfl
  unfold wR;exact(mi (gX (fW (x:=LW.bV many (mW ls)) (y:=LW.bV many (mW ls)) ((dz rfl).trans ee) (va (je (x:=.int many) rfl (iX ((dz (iX r8)).trans rfl))) (by simp)) (qo _ _)))).trans rfl
 have same:∀(L:cm) (x12:Sl),Drawn ((⟨many,ls,b,g⟩:Gm).at L)->((⟨many,ls,b,g⟩:Gm).at L).ft [] [] f=(⟨many,ls,b,g⟩:Gm).ft [] [] f->sL [S,cG c,.dat (di many ls f b g),.dat (LW.bV many ls),y4,cH nums,.dat (LW.bV many (gj nums ls)),d7,y8,y9,y10,y11,.dat (LW.bV many L),x13,x14]=some (.next [S,cG c,.dat (di many ls f b g),.dat (LW.bV many ls),y4,cH nums,.dat (LW.bV many (gj nums ls)),d7,y8,y9,y10,y11,.dat (LW.bV many L),x13,x14]):=λL x12 dL hw=>by
  unfold sL BO;have ew:=wX (δ:=[S,cG c,.dat (di many ls f b g),.dat (LW.bV many ls),y4,cH nums,.dat (LW.bV many (gj nums ls)),d7,y8,y9,y10,y11,.dat (LW.bV many L),x13,x14]) (f:=aY (dt mv (eE (aY (cP 12) cL)) (AM (de 2) (xq (dC (.int 1))) K7)) cL) dL hf rfl;rw[hw]at ew;exact(mi (gX (fW ew (wX dr hf rfl) (wJ (by simp[dU]))))).trans rfl
 have ZI:wU [S,cG c,.dat (di many ls f b g),.dat (LW.bV many ls),y4,cH nums,.dat (LW.bV many (gj nums ls)),d7,y8,y9,y10,y11,x12,x13,x14]=some (.next [S,cG c,.dat (di many ls f b g),.dat (LW.bV many ls),y4,cH nums,.dat (LW.bV many (gj nums ls)),d7,y8,y9,y10,y11,.dat (LW.bV many (mW ls)),x13,x14]):=by
  unfold wU;refine oi (ds:=[LW.bV many (gj nums ls),LW.bV many (mW ls)]) ?_ ?_
  ·unfold iL dL jS;rw[je (x:=LW.bV many (gj nums ls)) rfl (iX ((dz rfl).trans ee))];rfl
  ·rw[jh (j:=12) (same (gj nums ls) x12 (yG dr N) (Ma dr N (yG dr N) hf)),jh (j:=12) (same (mW ls) x12 (yH dr) (Mb dr hf))];rfl
 have ZJ:wV [S,cG c,.dat (di many ls f b g),.dat (LW.bV many ls),y4,cH nums,.dat (LW.bV many (gj nums ls)),d7,y8,y9,y10,y11,.dat (LW.bV many (mW ls)),x13,x14]=some (.next [S,cG c,.dat (di many ls f b g),.dat (LW.bV many ls),y4,cH nums,.dat (LW.bV many (gj nums ls)),d7,y8,y9,y10,y11,.dat (LW.bV many (mW ls)),x13,x14]):=by
  unfold wV;refine(mi (sC (b:=true) (gX ((dz (je (x:=di many ls f b g) rfl (iX (x:=.int (c/7)) (fW (x:=.int c) (y:=.int 7) rfl rfl ?_)))).trans (JV dr (by omega) b2 g2 hf))))).trans rfl
  rfl
 refine⟨.dat (di many ls f b g),.dat (LW.bV many ls),y4,cH nums,.dat (LW.bV many (gj nums ls)),d7,y8,y9,y10,y11,.dat (LW.bV many (mW ls)),x13,x14,?_⟩;unfold nC;rw[LW.cR e1,LW.cR e2,LW.cR e3,LW.cR e4,LW.cR e5,LW.cR e6];show ei u9 _ [S,cG c,.dat (di many ls f b g),.dat (LW.bV many ls),y4,cH nums,.dat (LW.bV many (gj nums ls)),.dat (.lst ((ls.map λl=>sortI (l.map (rj nums))).map tupI)),x8,x9,x10,x11,x12,x13,x14]=_
 rw[ZF,LW.cR e8,LW.cR e9];show ei sJ _ [S,cG c,.dat (di many ls f b g),.dat (LW.bV many ls),y4,cH nums,.dat (LW.bV many (gj nums ls)),d7,.dat (.lst []),x9,x10,x11,x12,x13,x14]=_;rw[LW.cR Vv,LW.cR ZH,LW.cR ZI,ZJ]
theorem BQ (S:Sl):∀(cs:cn) (x1 x2 x3 x4 x5 x6 x7 x8 x9 x10 x11 x12 x13 x14:Sl),∃δ,jo 1 nC (cs.map D.int) [S,x1,x2,x3,x4,x5,x6,x7,x8,x9,x10,x11,x12,x13,x14]=some (.next δ)
 |[],x1,x2,x3,x4,x5,x6,x7,x8,x9,x10,x11,x12,x13,x14=>⟨_,rfl⟩
 |c::cs,x1,x2,x3,x4,x5,x6,x7,x8,x9,x10,x11,x12,x13,x14=>by
  obtain⟨a2,a3,a4,a5,a6,a7,a8,a9,a10,a11,a12,a13,a14,e⟩:=JW c S x2 x3 x4 x5 x6 x7 x8 x9 x10 x11 x12 x13 x14;obtain⟨δ,ih⟩:=BQ S cs (cG c) a2 a3 a4 a5 a6 a7 a8 a9 a10 a11 a12 a13 a14;exact⟨δ,by rw[aE,jh (j:=1) (f:=nC) (d:=.int c) (δ:=[S,x1,x2,x3,x4,x5,x6,x7,x8,x9,x10,x11,x12,x13,x14]) e,ih]⟩
theorem Md (ns:cn) (_:ns.length<=63):E2 [.lst (ns.map D.int)]=some (.bl true):=by
 refine LW.eF rfl ?_;show zT [.dat (.lst (ns.map D.int)),.no,.no,.no,.no,.no,.no,.no,.no,.no,.no,.no,.no,.no,.no]=_;have Vw:cutD (ns.map D.int) none (some 3)=(ns.take 3).map D.int:=by
  show((ns.map D.int).drop 0).take (min 3 (ns.map D.int).length-0)=_;rw[List.drop_zero,Nat.sub_zero,List.map_take];rcases Nat.le_total 3 (ns.map D.int).length with q|q
  ·rw[Nat.min_eq_left q]
  ·rw[Nat.min_eq_right q,List.take_of_length_le (au _),List.take_of_length_le q]
 obtain⟨δ,e⟩:=BQ (.dat (.lst (ns.map D.int))) (ns.take 3) .no .no .no .no .no .no .no .no .no .no .no .no .no .no;have ZK:wW [.dat (.lst (ns.map D.int)),.no,.no,.no,.no,.no,.no,.no,.no,.no,.no,.no,.no,.no,.no]=some (.next δ):=by
  have it:iL (dL (HV (de 0) K7 (xq (dC (.int 3))))) [.dat (.lst (ns.map D.int)),.no,.no,.no,.no,.no,.no,.no,.no,.no,.no,.no,.no,.no,.no]=some (cutD (ns.map D.int) none (some 3)):=rfl;rw[Vw]at it;unfold wW;exact oi it e
 unfold zT;rw[LW.cR ZK];rfl
end mr
namespace mr
open PySem PySem.Spec PyProof.Rows L2 DL LW PC PW
noncomputable def top (i:Nat):cF:=PySem.Challenge.pw_fieldclaim_k10_whole_what_helps_whom.main.body.getD i (.Pass ⟨0,0,0,0⟩)
noncomputable abbrev ke:cF:=top 7
theorem wY:dB ["points","line","point"] ["points","line"] (cM ke):={}
noncomputable abbrev jk:cF:=top 8
theorem uv:dB ["points","line","point"] ["points","line"] (cM jk):={}
noncomputable abbrev iJ:cF:=top 5
theorem zX:dB ["game","whose"] ["game","whose"] (cM iJ):={}
noncomputable abbrev gP:cF:=top 6
theorem xF:dB ["hand"] ["hand"] (cM gP):={}
noncomputable abbrev kf:cF:=top 9
theorem oq:dB ["points","count","told","k","rest"] ["points","count"] (cM kf):={}
noncomputable abbrev lH:cF:=top 4
theorem GH:dB ["mine","yours","whose","claim"] ["mine","yours","whose","claim"] (cM lH):={}
noncomputable abbrev iK:cF:=top 15
theorem sM:dB ["line","mine","point"] ["line","mine"] (cM iK):={}
noncomputable abbrev gy:cF:=top 16
theorem pV:dB ["line","lines","other"] ["line","lines"] (cM gy):={}
noncomputable abbrev lJ:cF:=top 17
theorem yI:dB ["points","lines","line"] ["points","lines"] (cM lJ):={}
noncomputable abbrev fJ:cF:=top 18
theorem iM:dB ["lines","uses","line","point"] ["lines"] (cM fJ):={}
noncomputable abbrev gQ:cF:=top 14
theorem kA:dB ["lines","mine","yours","needed","unlike","line"] ["lines","mine","yours"] (cM gQ):={}
noncomputable abbrev fZ:cF:=inClass (top 13) 5
theorem gM:dB ["self","lines","whose","tried","pressing","line","claim"] ["self","lines","whose"] (cM fZ):={}
noncomputable abbrev jl:cF:=inClass (top 13) 4
theorem kM:dB ["self","lines","whose","shortest","claim","held","line"] ["self","lines","whose"] (cM jl):={}
noncomputable abbrev iN:cF:=inClass (top 13) 3
theorem zY:dB ["self","lines","whose"] ["self","lines","whose"] (cM iN):={}
noncomputable abbrev iO:cF:=inClass (top 13) 1
theorem zZ:dB ["self","mine","yours","whose"] ["self","mine","yours","whose"] (cM iO):={}
noncomputable abbrev gz:cF:=top 12
theorem wZ:dB ["game","mine","yours","whose"] ["game","mine","yours","whose"] (cM gz):={}
noncomputable abbrev lK:cF:=top 11
theorem GI:dB ["game"] ["game"] (cM lK):={}
noncomputable abbrev iP:cF:=top 20
theorem Aa:dB ["field","line"] ["field","line"] (cM iP):={}
noncomputable abbrev fL:cF:=top 24
theorem nD:dB ["lines","point","line"] ["lines","point"] (cM fL):={}
noncomputable abbrev fM:cF:=top 21
theorem t4:dB ["field","point"] ["field","point"] (cM fM):={}
noncomputable abbrev kj:cF:=top 22
theorem rl:dB ["field","numbers","lines","line","point"] ["field","numbers"] (cM kj):={}
noncomputable abbrev iQ:cF:=top 23
theorem sN:dB ["field","line"] ["field"] (cM iQ):={}
noncomputable abbrev jm:cF:=top 27
theorem BR:dB ["_law_cell_here","_law_prime","_law_many"] ["_law_cell_here","_law_prime","_law_many"] (cM jm):={}
noncomputable abbrev gR:cF:=top 28
theorem fF:dB ["_law_cell_here","_law_least","_law_most","_law_lines","_law_many","_law_found","_law_k","_law_size","_law_left","_law_line","_law_n"] ["_law_cell_here","_law_least","_law_most","_law_lines"] (cM gR):={}
noncomputable abbrev iR:cF:=top 29
theorem sO:dB ["_law_cell_here","_law_least","_law_most","_law_lines","_law_field_here"] ["_law_cell_here","_law_least","_law_most","_law_lines"] (cM iR):={}
noncomputable abbrev gA:cF:=top 31
theorem dA:dB ["_law_game_here","_law_cell_here","_law_field_here","_law_first","_law_builds","_law_guards","_law_point","_law_line","_law_more","_law_fewer","_law_some","_law_one"] ["_law_game_here","_law_cell_here"] (cM gA):={}
noncomputable abbrev ot:cF:=top 32
theorem iq:dB ["_law_script","_law_cell_here","_law_game_here","_law_field_here","_law_left","_law_numbers","_law_other","_law_lines","_law_few","_law_line","_law_inner","_law_one","_law_same","_law_k","_law_point"] ["_law_script"] (cM ot):={}
structure Bt (mg:cj):Prop where
 all:mg "all"=none
 any:mg "any"=none
 int:mg "int"=none
 len:mg "len"=none
 list:mg "list"=none
 max:mg "max"=none
 min:mg "min"=none
 range:mg "range"=none
 set:mg "set"=none
 sorted:mg "sorted"=none
 tuple:mg "tuple"=none
 dQ:∃t,mg "BUILDER"=some (.int 0 t)
 qp:∃t,mg "GUARD"=some (.int 1 t)
noncomputable abbrev jn:cF:=inClass (top 13) 0
theorem BS:dB ["self","game"] ["self","game"] (cM jn):={}
noncomputable abbrev du (Cs:cD):OC:=⟨Cs,"game","known",Ts⟩
section
variable {P:cz}{w:cA}{K:W.Frag}{mg:cj}{base:Heap}
theorem DV {f:cD}{fd:cy}(F:nF K "has_all" "has_all" ke f fd) (M0:Bt mg):eJ P w K mg base ju (1) f fd ["points","line"] (pZ ny):=by
 refine gn F wY (λm gk A outer s H E hr C0 H0=>?_)
 have hu:=hr.units;unfold wD;exact(da (dH (gf (ME rfl) (by rfl) M0.all HQ (cZ (WD.o (WF.d (nO 2 rfl ⟨rfl,rfl,rfl,wY.nd⟩ (uE.weak (eZ (cK 1))) (λ_ _ _ _ _=>(vH (OD hu) (cN 2) (cN 0)))))) dq))))
theorem BU {f:cD}{fd:cy}(F:nF K "has_some" "has_some" jk f fd) (M0:Bt mg):eJ P w K mg base ju (1) f fd ["points","line"] (pZ ik):=by
 refine gn F uv (λm gk A outer s H E hr C0 H0=>?_)
 have hu:=hr.units;unfold uj;exact(da (dH (gf (MH rfl) (by rfl) M0.any Io (cZ (WD.o (WF.d (nO 2 rfl ⟨rfl,rfl,rfl,uv.nd⟩ (uE.weak (eZ (cK 1))) (λ_ _ _ _ _=>(vH (OD hu) (cN 2) (cN 0)))))) dq))))
theorem Ab {f:cD}{fd:cy}(F:nF K "at_a_time" "at_a_time" iJ f fd) (M0:Bt mg):eJ P w K mg base ju (1) f fd ["game","whose"] (pZ dZ):=by
 obtain⟨nE,dQ⟩:=M0.dQ;refine gn F zX (λm gk A outer s H E hr C0 H0=>?_)
 have hu:=hr.units;unfold sv;exact(da (dH (AJ (eN (uC hu) (cN 1) (WD.o (i9 (by rfl) dQ))) (eB (cN 0) (WD.o cV) (λ_ _=>rfl)) (eB (cN 0) (WD.o cV) (λ_ _=>rfl)))))
theorem xG {f:cD}{fd:cy}(F:nF K "other_hand" "other_hand" gP f fd) (M0:Bt mg):eJ P w K mg base ju (1) f fd ["hand"] (pZ gi):=by
 obtain⟨nE,dQ⟩:=M0.dQ;obtain⟨Me,qp⟩:=M0.qp;refine gn F xF (λm gk A outer s H E hr C0 H0=>?_)
 have hu:=hr.units;unfold qI;exact(da (dH (AJ (eN (uC hu) (cN 0) (WD.o (i9 (by rfl) dQ))) (i9 (by rfl) qp) (i9 (by rfl) dQ))))
theorem DW {f:cD}{fd:cy}{n:Nat}(F:nF K "choices" "choices" kf f fd) (M0:Bt mg) {dk:cf}(t5:js P w K mg base (0+n) "choices" dk):eJ P w K mg base ju (0+n+1) f fd ["points","count"] (pZ (gY 5 2 (mh dk))):=by
 refine gn F oq (λm gk A outer s H E hr C0 H0=>?_)
 have hu:=hr.units;unfold mh;exact(cW (jP (eN (Ui) (cN 1) (WD.o (gf yd (by rfl) M0.len tm (cZ (cN 0) dq)))) (da (dH (dS (aX (cK 0) cJ)))) fU)
  (cW (jP (eN (uC hu) (cN 1) (WD.o cV)) (da (dH (dS (aX (dS cJ) cJ)))) fU)
  (cW (iA 2 oq.nd (jV cJ))
  (cW (mQ (f:=(jB dk)) bz rfl (nN (by rfl) M0.range (aX (jw (WD.o (tG (WD.o (gf yd (by rfl) M0.len tm (cZ (cN 0) dq))) (cN 1))) (WD.o cV)) cJ)) (gU (i:=3) oq.nd rfl (by first|exact Or.inl rfl|exact Or.inr rfl)) (da (mQ (f:=(jA dk)) bz rfl (eZ (cY t5 hr (by rfl) (aX (Im (cN 0) (CW (WD.o (jw (cN 3) (WD.o cV)))) Ie) (aX (tG (cN 1) (WD.o cV)) cJ)))) (gU (i:=4) oq.nd rfl (by first|exact Or.inl rfl|exact Or.inr rfl)) (da (vM (pv 2) (qb (WD.o (dS (aX (eB (cN 0) (cN 3) (λ_ _=>rfl)) cJ))) (cN 4)))))))
  (da (dH (dP eV (by rfl) M0.tuple ez (cZ (cN 2) dq))))))))
theorem GJ {f:cD}{fd:cy}(F:nF K "behind" "behind" lH f fd) (M0:Bt mg):eJ P w K mg base ju (1) f fd ["mine","yours","whose","claim"] (pZ pK):=by
 obtain⟨nE,dQ⟩:=M0.dQ;refine gn F GH (λm gk A outer s H E hr C0 H0=>?_)
 have hu:=hr.units;unfold yB;exact(cW (jP (eN (uC hu) (cN 2) (WD.o (i9 (by rfl) dQ))) (da (dH (dS (aX (dP eV (by rfl) M0.tuple ez (cZ (WD.o (WF.d (jx (yj hu) (by rfl) M0.sorted fH (cZ (WD.o (qb (cN 0) (cN 3))) dq)))) dq)) (aX (cK 1) cJ))))) fU)
  (da (dH (dS (aX (cK 0) (aX (dP eV (by rfl) M0.tuple ez (cZ (WD.o (WF.d (jx (yj hu) (by rfl) M0.sorted fH (cZ (WD.o (qb (cN 1) (cN 3))) dq)))) dq)) cJ))))))
theorem Ac {f:cD}{fd:cy}(F:nF K "free_part" "free_part" iK f fd) (M0:Bt mg):eJ P w K mg base ju (1) f fd ["line","mine"] (pZ jf):=by
 refine gn F sM (λm gk A outer s H E hr C0 H0=>?_)
 have hu:=hr.units;unfold lC;exact(da (dH (dP eV (by rfl) M0.tuple ez (cZ (WD.o (WF.d (gO 2 rfl ⟨rfl,rfl,rfl,sM.nd⟩ (uE.weak (eZ (cK 0))) (λ_ _ _ _ _=>(eN (rQ hu) (cN 2) (cN 1))) (λ_ _ _ _ _=>(cK 2))))) dq))))
theorem w6 {f:cD}{fd:cy}(F:nF K "has_another" "has_another" gy f fd) (M0:Bt mg) (GK:js P w K mg base 1 "has_all" ny):eJ P w K mg base ju (2) f fd ["line","lines"] (pZ fC):=by
 refine gn F pV (λm gk A outer s H E hr C0 H0=>?_)
 have hu:=hr.units;unfold jE;exact(da (dH (gf (MH rfl) (by rfl) M0.any Io (cZ (WD.o (WF.d (nO 2 rfl ⟨rfl,rfl,rfl,pV.nd⟩ (uE.weak (Et (cK 1))) (λ_ _ _ _ _=>(ON (vH (zi hu) (cN 2) (cN 0)) (OM (cY GK hr (by rfl) (aX (cK 0) (aX (cK 2) cJ))))))))) dq))))
theorem GL {f:cD}{fd:cy}(F:nF K "spoils" "spoils" lJ f fd) (M0:Bt mg) (rn:js P w K mg base 1 "has_some" ik):eJ P w K mg base ju (2) f fd ["points","lines"] (pZ pL):=by
 refine gn F yI (λm gk A outer s H E hr C0 H0=>?_)
 have hu:=hr.units;unfold qj;exact(da (dH (gf (ME rfl) (by rfl) M0.all HQ (cZ (WD.o (WF.d (nO 2 rfl ⟨rfl,rfl,rfl,yI.nd⟩ (uV (cN 1)) (λ_ _ _ _ _=>(cY rn hr (by rfl) (aX (cK 0) (aX (cK 2) cJ))))))) dq))))
theorem t6 {f:cD}{fd:cy}(F:nF K "points_by_use" "points_by_use" fJ f fd) (M0:Bt mg) {ct Pt:cD}(ht:W.tabIn K "points_by_use"=some (ct,Pt)) (xj:fd.code=.ref ct):eJ P w K mg base ju (1) f fd ["lines"] (pZ fY):=by
 refine LJ F iM (λA outer s H E hr C0 H0=>?_)
 letI:=Mem.keep
 have hV:=hr.Zl;have hu:=hr.units;unfold jY;exact(Dx 1 iM.nd (λa C1 H1 hn=>by letI:=eL a;unfold fT;exact(cW (mQ (f:=eS) bz rfl (eZ (cK 0)) (gU (i:=2) iM.nd rfl (by first|exact Or.inl rfl|exact Or.inr rfl)) (da (mQ (f:=fS) bz rfl (eZ (cK 2)) (gU (i:=3) iM.nd rfl (by first|exact Or.inl rfl|exact Or.inr rfl)) (da (Gp hn hu (pv 1) (cK 3) (pv 1) (cK 3))))))
  (da (dH (dP eV (by rfl) M0.tuple ez (cZ (WD.o (WF.d (Bb (x:="points_by_use") rfl hu hV (by rfl) M0.sorted rfl rfl (by first|exact af|simp[ux]) ht (show(Str.ofString "points_by_use"++Str.ofString ".<locals>.")++Str.ofString "<lambda>"=Str.ofString "points_by_use.<locals>.<lambda>" by decide +kernel) xj (pv 1)))) dq)))))))
theorem xH {f:cD}{fd:cy}(F:nF K "open_lines" "open_lines" gQ f fd) (M0:Bt mg) (BV:js P w K mg base 2 "free_part" jf) (mZ:js P w K mg base 2 "has_another" fC) (rn:js P w K mg base 2 "has_some" ik):eJ P w K mg base ju (3) f fd ["lines","mine","yours"] (pZ eW):=by
 refine gn F kA (λm gk A outer s H E hr C0 H0=>?_)
 have hu:=hr.units;unfold ky;exact(cW (zq 3 5 rfl ⟨rfl,rfl,rfl,kA.nd⟩ (uE.weak (Et (cK 0))) (λ_ _ _ _ _=>(vK (vI (cY rn hr (by rfl) (aX (cK 2) (aX (cK 5) cJ)))))) (λ_ _ _ _ _=>(cY BV hr (by rfl) (aX (cK 5) (aX (cK 1) cJ)))))
  (lR 3 (cW (iA 4 kA.nd (DA rfl hu (by rfl) M0.sorted (by rfl) M0.set (cN 3)))
  (lR 4 (da (dH (dP eV (by rfl) M0.tuple ez (cZ (WD.o (WF.d (gO 5 rfl ⟨rfl,rfl,rfl,kA.nd⟩ (uV (cN 4)) (λ_ _ _ _ _=>(vK (vI (cY mZ hr (by rfl) (aX (cK 5) (aX (cK 4) cJ)))))) (λ_ _ _ _ _=>(cK 5))))) dq))))))))
theorem uO {f:cD}{fd:cy}(F:nF K "worth_trying" "Search.worth_trying" fZ f fd) (M0:Bt mg) {Cs:cD}(Z:lT K (du Cs)) (mN:js P w K mg base 6 "at_a_time" dZ) (t5:js P w K mg base 6 "choices" (fi 5)) (uP:js P w K mg base 6 "points_by_use" fY) (JX:js P w K mg base 6 "spoils" pL):eJ P w K mg base ju (7) f fd ["self","lines","whose"] (GV (du Cs) (nh 7 3 gJ)):=by
 obtain⟨nE,dQ⟩:=M0.dQ;refine uX (du Cs) F gM (λA G gk Ar outer s H E hr C0 H0=>?_)
 letI:=dD (du Cs) A G
 have hu:=hr.units;unfold gJ;exact(cW (jy 3 gM.nd (cY t5 hr (by rfl) (aX (cY uP hr (by rfl) (aX (cK 1) cJ)) (aX (cY mN hr (by rfl) (aX (uW (Y:=du Cs) Z (pv 0)) (aX (cK 2) cJ))) cJ))))
  (cW (jP (eN (uC hu) (cN 2) (WD.o (i9 (by rfl) dQ))) (da (dH (cK 3))) fU)
  (cW (iA 4 gM.nd (gO 5 rfl ⟨rfl,rfl,rfl,gM.nd⟩ (uE.weak (eZ (cK 1))) (λ_ _ _ _ _=>(eN (Rg) (WD.o (gf yd (by rfl) M0.len tm (cZ (cN 5) dq))) (WD.o (cY mN hr (by rfl) (aX (uW (Y:=du Cs) Z (pv 0)) (aX (i9 (by rfl) dQ) cJ)))))) (λ_ _ _ _ _=>(cK 5))))
  (lR 4 (da (dH (dP eV (by rfl) M0.tuple ez (cZ (WD.o (WF.d (gO 6 rfl ⟨rfl,rfl,rfl,gM.nd⟩ (uE.weak (eZ (cK 3))) (λ_ _ _ _ _=>(vI (cY JX hr (by rfl) (aX (cK 6) (aX (cK 4) cJ))))) (λ_ _ _ _ _=>(cK 6))))) dq))))))))
theorem BW {f:cD}{fd:cy}{n:Nat}(F:nF K "searched" "Search.searched" jl f fd) (M0:Bt mg) {Cs:cD}(Z:lT K (du Cs)) {dh:cf}(mN:js P w K mg base (7+n) "at_a_time" dZ) (JY:js P w K mg base (7+n) "behind" pK) (ou:js P w K mg base (7+n) "open_lines" eW) (sP:js P w K mg base (7+n) "other_hand" gi) (pW:lq P w K mg base (7+n) (du Cs) "winner_of" dh) (w9:lq P w K mg base (7+n) (du Cs) "worth_trying" gx):eJ P w K mg base ju (7+n+1) f fd ["self","lines","whose"] (GV (du Cs) (nh 7 3 (λG=>jg G dh))):=by
 obtain⟨nE,dQ⟩:=M0.dQ;refine uX (du Cs) F kM (λA G gk Ar outer s H E hr C0 H0=>?_)
 letI:=dD (du Cs) A G
 have hu:=hr.units;unfold jg;exact(cW (jy 3 kM.nd (gf (OX rfl) (by rfl) M0.min HR (cZ (WD.o (WF.d (nO 6 rfl ⟨rfl,rfl,rfl,kM.nd⟩ (uE.weak (eZ (cK 1))) (λ_ _ _ _ _=>(gf yd (by rfl) M0.len tm (cZ (cN 6) dq)))))) dq)))
  (cW (jP (MG.pt (uU (eN (uC hu) (cN 2) (WD.o (i9 (by rfl) dQ))) (vJ (eN (Rg) (cN 3) (WD.o (cY mN hr (by rfl) (aX (uW (Y:=du Cs) Z (pv 0)) (aX (i9 (by rfl) dQ) cJ)))))))) (da (dH (i9 (by rfl) dQ))) fU)
  (cW (mQ (f:=(fD G dh)) bz rfl (eZ (rZ Z w9 hr (pv 0) (aX (cK 1) (aX (cK 2) cJ)))) (gU (i:=4) kM.nd rfl (by first|exact Or.inl rfl|exact Or.inr rfl)) (cW (jy 5 kM.nd (cY JY hr (by rfl) (aX (dS cJ) (aX (dS cJ) (aX (cK 2) (aX (cK 4) cJ))))))
  (da (jP (eN (uC hu) (WD.o (rZ Z pW hr (pv 0) (aX (cY ou hr (by rfl) (aX (cK 1) (aX (eB (cN 5) (WD.o cV) (λ_ _=>rfl)) (aX (eB (cN 5) (WD.o cV) (λ_ _=>rfl)) cJ)))) (aX (cY sP hr (by rfl) (aX (cK 2) cJ)) cJ)))) (cN 2)) (da (dH (cK 2))) fU))))
  (da (dH (cY sP hr (by rfl) (aX (cK 2) cJ)))))))
theorem Ad {f:cD}{fd:cy}{n:Nat}(F:nF K "winner_of" "Search.winner_of" iN f fd) (M0:Bt mg) {Cs:cD}(Z:lT K (du Cs)) {dI:cf}(DX:lq P w K mg base (7+n) (du Cs) "searched" dI):eJ P w K mg base ju (7+n+1) f fd ["self","lines","whose"] (GV (du Cs) (nh 3 3 (λG=>iE G dI))):=by
 obtain⟨nE,dQ⟩:=M0.dQ;obtain⟨Me,qp⟩:=M0.qp;refine uX (du Cs) F zY (λA G gk Ar outer s H E hr C0 H0=>?_)
 letI:=dD (du Cs) A G
 have hu:=hr.units;unfold iE;exact(cW (jP (eN (uC hu) (WD.o (gf yd (by rfl) M0.len tm (cZ (cN 1) dq))) (WD.o cV)) (da (dH (i9 (by rfl) qp))) fU)
  (cW (jP (eN (OD hu) (WD.o (dS cJ)) (cN 1)) (da (dH (i9 (by rfl) dQ))) fU)
  (cW (Iw [] hu Z (dS (aX (cK 1) (aX (cK 2) cJ))) (pv 0) (da (FX hu Z (rZ Z DX hr (pv 0) (aX (cK 1) (aX (cK 2) cJ))) (pv 0) (dS (aX (cK 1) (aX (cK 2) cJ))))))
  (da (dH (FW hu Z (pv 0) (dS (aX (cK 1) (aX (cK 2) cJ))) (λ_ _=>rfl)))))))
theorem Ae {f:cD}{fd:cy}(F:nF K "winner_at" "Search.winner_at" iO f fd) (M0:Bt mg) {Cs:cD}(Z:lT K (du Cs)) (ou:js P w K mg base 32 "open_lines" eW) (pW:lq P w K mg base 32 (du Cs) "winner_of" (gC 24)):eJ P w K mg base ju (33) f fd ["self","mine","yours","whose"] (GV (du Cs) (nh 4 4 jI)):=by
 refine uX (du Cs) F zZ (λA G gk Ar outer s H E hr C0 H0=>?_)
 letI:=dD (du Cs) A G
 have hu:=hr.units;unfold jI;exact(da (dH (rZ Z pW hr (pv 0) (aX (cY ou hr (by rfl) (aX (eB (WD.o (eB (WD.o (uW (Y:=du Cs) Z (pv 0))) (WD.o cV) (λ_ _=>rfl))) (WD.o cV) (λ_ _=>rfl)) (aX (cK 1) (aX (cK 2) cJ)))) (aX (cK 3) cJ)))))
theorem xb {f:cD}{fd:cy}(F:nF K "winner_from" "winner_from" gz f fd) (M0:Bt mg) {Cs:cD}(Z:lT K (du Cs)) (JZ:tJ P w K mg base 32 (du Cs) "Search") (BX:lq P w K mg base 33 (du Cs) "winner_at" mK):eJ P w K mg base ju (34) f fd ["game","mine","yours","whose"] (pZ eM):=by
 refine OU F wZ (λgk A outer s H E hr C0 H0=>?_)
 letI:=Mem.keep
 have hu:=hr.units;unfold jJ;exact(da (dH (Dg Z BX hr (UG Z JZ hr (by rfl) (cK 0)) (aX (cK 1) (aX (cK 2) (aX (cK 3) cJ))))))
theorem GN {f:cD}{fd:cy}(F:nF K "winner" "winner" lK f fd) (M0:Bt mg) (kB:js P w K mg base 34 "winner_from" eM):eJ P w K mg base ju (35) f fd ["game"] (pZ eR):=by
 refine gn F GI (λm gk A outer s H E hr C0 H0=>?_)
 have hu:=hr.units;unfold qk;exact(da (dH (cY kB hr (by rfl) (aX (cK 0) (aX (dS cJ) (aX (dS cJ) (aX (eB (cN 0) (WD.o cV) (λ_ _=>rfl)) cJ)))))))
theorem Af {f:cD}{fd:cy}(F:nF K "with_line" "with_line" iP f fd) (M0:Bt mg):eJ P w K mg base ju (1) f fd ["field","line"] (pZ kL):=by
 refine gn F Aa (λm gk A outer s H E hr C0 H0=>?_)
 have hu:=hr.units;unfold lD;exact(da (dH (dS (aX (eB (cN 0) (WD.o cV) (λ_ _=>rfl)) (aX (dP eV (by rfl) M0.tuple ez (cZ (WD.o (WF.d (uq rfl hu (by rfl) M0.sorted (by rfl) M0.set (WD.o (qb (WD.o (eB (cN 0) (WD.o cV) (λ_ _=>rfl))) (WD.o (dS (aX (cK 1) cJ)))))))) dq)) cJ)))))
theorem t7 {f:cD}{fd:cy}(F:nF K "lines_without" "lines_without" fL f fd) (M0:Bt mg):eJ P w K mg base ju (1) f fd ["lines","point"] (pZ gK):=by
 refine gn F nD (λm gk A outer s H E hr C0 H0=>?_)
 have hu:=hr.units;unfold iF;exact(da (dH (dP eV (by rfl) M0.tuple ez (cZ (WD.o (WF.d (gO 2 rfl ⟨rfl,rfl,rfl,nD.nd⟩ (uE.weak (eZ (cK 0))) (λ_ _ _ _ _=>(eN (rQ hu) (cN 1) (cN 2))) (λ_ _ _ _ _=>(cK 2))))) dq))))
theorem t8 {f:cD}{fd:cy}(F:nF K "without_point" "without_point" fM f fd) (M0:Bt mg) (uQ:js P w K mg base 1 "lines_without" gK):eJ P w K mg base ju (2) f fd ["field","point"] (pZ gL):=by
 refine gn F t4 (λm gk A outer s H E hr C0 H0=>?_)
 have hu:=hr.units;unfold iG;exact(da (dH (dS (aX (eB (cN 0) (WD.o cV) (λ_ _=>rfl)) (aX (cY uQ hr (by rfl) (aX (eB (cN 0) (WD.o cV) (λ_ _=>rfl)) (aX (cK 1) cJ))) cJ)))))
theorem DY {f:cD}{fd:cy}(F:nF K "renamed" "renamed" kj f fd) (M0:Bt mg):eJ P w K mg base ju (1) f fd ["field","numbers"] (pZ nB):=by
 refine gn F rl (λm gk A outer s H E hr C0 H0=>?_)
 have hu:=hr.units;unfold oj;exact(cW (vL 2 3 rfl ⟨rfl,rfl,rfl,rl.nd⟩ (uE.weak (eZ (eB (cN 0) (WD.o cV) (λ_ _=>rfl)))) (λ_ _ _ _ _=>(dP eV (by rfl) M0.tuple ez (cZ (WD.o (WF.d (jx (lQ hu) (by rfl) M0.sorted fH (cZ (WD.o (WF.d (nO 4 rfl ⟨rfl,rfl,rfl,rl.nd⟩ (uE.weak (eZ (cK 3))) (λ_ _ _ _ _=>(eB (cN 1) (cN 4) (λ_ _=>rfl)))))) dq)))) dq))))
  (lR 2 (da (dH (dS (aX (eB (cN 0) (WD.o cV) (λ_ _=>rfl)) (aX (dP eV (by rfl) M0.tuple ez (cZ (WD.o (WF.d (jx (lQ hu) (by rfl) M0.sorted fH (cZ (cN 2) dq)))) dq)) cJ)))))))
theorem Ag {f:cD}{fd:cy}(F:nF K "essential" "essential" iQ f fd) (M0:Bt mg) (mZ:js P w K mg base 2 "has_another" fC):eJ P w K mg base ju (3) f fd ["field"] (pZ jj):=by
 refine gn F sN (λm gk A outer s H E hr C0 H0=>?_)
 have hu:=hr.units;unfold lE;exact(da (dH (dS (aX (eB (cN 0) (WD.o cV) (λ_ _=>rfl)) (aX (dP eV (by rfl) M0.tuple ez (cZ (WD.o (WF.d (gO 1 rfl ⟨rfl,rfl,rfl,sN.nd⟩ (uE.weak (eZ (eB (cN 0) (WD.o cV) (λ_ _=>rfl)))) (λ_ _ _ _ _=>(vK (vI (cY mZ hr (by rfl) (aX (cK 1) (aX (eB (cN 0) (WD.o cV) (λ_ _=>rfl)) cJ)))))) (λ_ _ _ _ _=>(cK 1))))) dq)) cJ)))))
theorem BY {f:cD}{fd:cy}(F:nF K "_law_mix" "_law_mix" jm f fd) (M0:Bt mg):eJ P w K mg base ju (1) f fd ["_law_cell_here","_law_prime","_law_many"] (pZ cX):=by
 refine gn F BR (λm gk A outer s H E hr C0 H0=>?_)
 have hu:=hr.units;unfold o8;exact(da (dH (CZ (WD.o (CZ (WD.o (vG (cN 0) (WD.o cV))) (cN 1))) (cN 2))))
theorem xI {f:cD}{fd:cy}(F:nF K "_law_field" "_law_field" gR f fd) (M0:Bt mg) (eT:js P w K mg base 1 "_law_mix" cX):eJ P w K mg base ju (2) f fd ["_law_cell_here","_law_least","_law_most","_law_lines"] (pZ dw):=by
 refine gn F fF (λm gk A outer s H E hr C0 H0=>?_)
 have hu:=hr.units;unfold kn;exact(cW (jy 4 fF.nd (jw (cN 1) (WD.o (cY eT hr (by rfl) (aX (cK 0) (aX cV (aX (jw (WD.o (tG (cN 2) (cN 1))) (WD.o cV)) cJ)))))))
  (cW (iA 5 fF.nd (jV cJ))
  (cW (mQ (f:=gG) bz rfl (nN (by rfl) M0.range (aX (cY eT hr (by rfl) (aX (cK 0) (aX cV (aX (jw (cN 3) (WD.o cV)) cJ)))) cJ)) (gU (i:=6) fF.nd rfl (by first|exact Or.inl rfl|exact Or.inr rfl)) (cW (jy 7 fF.nd (jw (WD.o cV) (WD.o (cY eT hr (by rfl) (aX (jw (cN 0) (WD.o (vG (WD.o cV) (cN 6)))) (aX cV (aX (gf (OE rfl) (by rfl) M0.min HR (cZ (WD.o cV) (cZ (cN 4) dq))) cJ)))))))
  (cW (jP (MG.pt (uU (eN (Rh) (WD.o (CZ (cN 0) (WD.o cV))) (WD.o cV)) (uU (eN (uC hu) (cN 7) (WD.o cV)) (vJ (eN (Rh) (cN 4) (WD.o cV)))))) (da (jy 7 fF.nd cV)) fU)
  (cW (iA 8 fF.nd (rU rfl (by rfl) M0.list (by rfl) M0.range (aX (cK 4) cJ)))
  (cW (Lc 9 10 8 rfl (by decide) ⟨rfl,rfl,rfl,fF.nd⟩ (nN (by rfl) M0.range (aX (cK 7) cJ)) (λ_ _ _ _ _=>pv 8) (λ_ _ _ _ _=>(cY eT hr (by rfl) (aX (jw (WD.o (jw (cN 0) (WD.o (vG (WD.o cV) (cN 6))))) (WD.o (vG (WD.o cV) (cN 10)))) (aX cV (aX (tG (cN 4) (cN 10)) cJ))))))
  (lR 9 (da (jP (eN (rQ hu) (WD.o (dP eV (by rfl) M0.tuple ez (cZ (WD.o (WF.d (jx (lQ hu) (by rfl) M0.sorted fH (cZ (cN 9) dq)))) dq))) (cN 5)) (da (vM (pv 5) (dP eV (by rfl) M0.tuple ez (cZ (WD.o (WF.d (jx (lQ hu) (by rfl) M0.sorted fH (cZ (cN 9) dq)))) dq)))) fU))))))))
  (da (dH (dS (aX (cK 4) (aX (dP eV (by rfl) M0.tuple ez (cZ (WD.o (WF.d (jx (lQ hu) (by rfl) M0.sorted fH (cZ (cN 5) dq)))) dq)) cJ))))))))
theorem Ah {f:cD}{fd:cy}(F:nF K "_law_game" "_law_game" iR f fd) (M0:Bt mg) (Ai:js P w K mg base 2 "_law_field" dw) (eT:js P w K mg base 2 "_law_mix" cX):eJ P w K mg base ju (3) f fd ["_law_cell_here","_law_least","_law_most","_law_lines"] (pZ dE):=by
 refine gn F sO (λm gk A outer s H E hr C0 H0=>?_)
 have hu:=hr.units;unfold lz;exact(cW (jy 4 sO.nd (cY Ai hr (by rfl) (aX (cK 0) (aX (cK 1) (aX (cK 2) (aX (cK 3) cJ))))))
  (da (dH (dS (aX (cK 4) (aX (cY eT hr (by rfl) (aX (cK 0) (aX cV (aX cV cJ)))) (aX (jw (WD.o cV) (WD.o (CY (WD.o (cY eT hr (by rfl) (aX (cK 0) (aX cV (aX cV cJ))))) (WD.o cV)))) (aX (jw (WD.o cV) (WD.o (CY (WD.o (cY eT hr (by rfl) (aX (cK 0) (aX cV (aX cV cJ))))) (WD.o cV)))) cJ))))))))
theorem xc {f:cD}{fd:cy}(F:nF K "_law_better" "_law_better" gA f fd) (M0:Bt mg) (eT:js P w K mg base 35 "_law_mix" cX) (gN:js P w K mg base 35 "winner" eR) (kB:js P w K mg base 35 "winner_from" eM) (BZ:js P w K mg base 35 "with_line" kL) (uR:js P w K mg base 35 "without_point" gL):eJ P w K mg base ju (36) f fd ["_law_game_here","_law_cell_here"] (pZ i7):=by
 refine gn F dA (λm gk A outer s H E hr C0 H0=>?_)
 have hu:=hr.units;unfold jL;exact(cW (OP [2,3,4,5] rfl (cK 0) (rB (gU (i:=2) dA.nd rfl (by first|exact Or.inl rfl|exact Or.inr rfl)) (rB (gU (i:=3) dA.nd rfl (by first|exact Or.inl rfl|exact Or.inr rfl)) (rB (gU (i:=4) dA.nd rfl (by first|exact Or.inl rfl|exact Or.inr rfl)) (rB (gU (i:=5) dA.nd rfl (by first|exact Or.inl rfl|exact Or.inr rfl)) Kf)))))
  (cW (jy 6 dA.nd (cY eT hr (by rfl) (aX (cK 1) (aX cV (aX (eB (cN 2) (WD.o cV) (λ_ _=>rfl)) cJ)))))
  (cW (jy 7 dA.nd (dP eV (by rfl) M0.tuple ez (cZ (WD.o (WF.d (BK rfl hu (by rfl) M0.sorted (by rfl) M0.set (WD.o (WF.d (jV (aX (cK 6) (aX (cY eT hr (by rfl) (aX (cK 1) (aX cV (aX (eB (cN 2) (WD.o cV) (λ_ _=>rfl)) cJ)))) cJ)))))))) dq)))
  (cW (jy 8 dA.nd (cY BZ hr (by rfl) (aX (cK 2) (aX (cK 7) cJ))))
  (cW (jy 9 dA.nd (cY uR hr (by rfl) (aX (cK 2) (aX (cK 6) cJ))))
  (cW (jP (eN (zi hu) (cN 8) (WD.o (dS (aX (eB (cN 2) (WD.o cV) (λ_ _=>rfl)) (aX (dP eV (by rfl) M0.tuple ez (cZ (WD.o (WF.d (uq rfl hu (by rfl) M0.sorted (by rfl) M0.set (WD.o (qb (WD.o (eB (cN 2) (WD.o cV) (λ_ _=>rfl))) (WD.o (dS (aX (cK 7) cJ)))))))) dq)) cJ))))) (da (dH vF)) fU)
  (cW (jP (eN (zi hu) (cN 9) (WD.o (dS (aX (eB (cN 2) (WD.o cV) (λ_ _=>rfl)) (aX (dP eV (by rfl) M0.tuple ez (cZ (WD.o (WF.d (gO 11 rfl ⟨rfl,rfl,rfl,dA.nd⟩ (uE.weak (eZ (eB (cN 2) (WD.o cV) (λ_ _=>rfl)))) (λ_ _ _ _ _=>(eN (rQ hu) (cN 6) (cN 11))) (λ_ _ _ _ _=>(cK 11))))) dq)) cJ))))) (da (dH vF)) fU)
  (cW (jP (eN (uC hu) (WD.o (cY gN hr (by rfl) (aX (cK 0) cJ))) (WD.o cV)) (cW (iA 10 dA.nd (jV (aX (cY gN hr (by rfl) (aX (dS (aX (cK 8) (aX (cK 3) (aX (cK 4) (aX (cK 5) cJ))))) cJ)) (aX (cY gN hr (by rfl) (aX (dS (aX (cK 2) (aX cV (aX (cK 4) (aX (cK 5) cJ))))) cJ)) cJ))))
  (cW (iA 10 dA.nd (zr (cN 10) (WD.o (WF.d (jV (aX (cY gN hr (by rfl) (aX (dS (aX (cK 2) (aX (cK 3) (aX (jw (cN 4) (WD.o cV)) (aX (cK 5) cJ))))) cJ)) (aX (cY kB hr (by rfl) (aX (cK 0) (aX (dS (aX (cK 6) cJ)) (aX (dS cJ) (aX (cK 3) cJ))))) cJ)))))))
  (cW (vM (pv 10) (cY gN hr (by rfl) (aX (dS (aX (cK 2) (aX (cK 3) (aX (cK 4) (aX (gf (HP rfl) (by rfl) M0.max HS (cZ (WD.o cV) (cZ (WD.o (tG (cN 5) (WD.o cV))) dq))) cJ))))) cJ)))
  (da (dH (vH (uC hu) (WD.o (WF.d (gO 11 rfl ⟨rfl,rfl,rfl,dA.nd⟩ (uV (cN 10)) (λ_ _ _ _ _=>(eN (zi hu) (cN 11) (WD.o cV))) (λ_ _ _ _ _=>(cK 11))))) (WD.o (WF.d (jV cJ))))))))) fU)
  (cW (iA 10 dA.nd (jV (aX (cY gN hr (by rfl) (aX (dS (aX (cK 9) (aX (cK 3) (aX (cK 4) (aX (cK 5) cJ))))) cJ)) (aX (cY gN hr (by rfl) (aX (dS (aX (cK 2) (aX cV (aX (cK 4) (aX (cK 5) cJ))))) cJ)) cJ))))
  (cW (iA 10 dA.nd (zr (cN 10) (WD.o (WF.d (jV (aX (cY gN hr (by rfl) (aX (dS (aX (cK 2) (aX (cK 3) (aX (cK 4) (aX (jw (cN 5) (WD.o cV)) cJ))))) cJ)) (aX (cY kB hr (by rfl) (aX (cK 0) (aX (dS cJ) (aX (dS (aX (cK 6) cJ)) (aX (cK 3) cJ))))) cJ)))))))
  (cW (vM (pv 10) (cY gN hr (by rfl) (aX (dS (aX (cK 2) (aX (cK 3) (aX (gf (HP rfl) (by rfl) M0.max HS (cZ (WD.o cV) (cZ (WD.o (tG (cN 4) (WD.o cV))) dq))) (aX (cK 5) cJ))))) cJ)))
  (da (dH (vH (uC hu) (WD.o (WF.d (gO 11 rfl ⟨rfl,rfl,rfl,dA.nd⟩ (uV (cN 10)) (λ_ _ _ _ _=>(eN (zi hu) (cN 11) (WD.o cV))) (λ_ _ _ _ _=>(cK 11))))) (WD.o (WF.d (jV cJ)))))))))))))))))
theorem PN {f:cD}{fd:cy}(F:nF K "law" "law" ot f fd) (M0:Bt mg) (xJ:js P w K mg base 36 "_law_better" i7) (B0:js P w K mg base 36 "_law_game" dE) (eT:js P w K mg base 36 "_law_mix" cX) (uw:js P w K mg base 36 "essential" jj) (GO:js P w K mg base 36 "renamed" nB) (gN:js P w K mg base 36 "winner" eR):eJ P w K mg base ju (37) f fd ["_law_script"] (pZ E2):=by
 refine gn F iq (λm gk A outer s H E hr C0 H0=>?_)
 have hu:=hr.units;unfold zT;exact(cW (mQ (f:=nC) bz rfl (AK (WF.d (OO (cN 0) Ie (CW (WD.o cV))))) (gU (i:=1) iq.nd rfl (by first|exact Or.inl rfl|exact Or.inr rfl)) (cW (jy 2 iq.nd (cY B0 hr (by rfl) (aX (cK 1) (aX cV (aX cV (aX cV cJ))))))
  (cW (jy 3 iq.nd (eB (cN 2) (WD.o cV) (λ_ _=>rfl)))
  (cW (iA 4 iq.nd (rU rfl (by rfl) M0.list (by rfl) M0.range (aX (eB (cN 3) (WD.o cV) (λ_ _=>rfl)) cJ)))
  (cW (L0 5 13 4 rfl (by decide) ⟨rfl,rfl,rfl,iq.nd⟩ iq.nd (by rfl) M0.tuple (nN (by rfl) M0.range (aX (eB (cN 3) (WD.o cV) (λ_ _=>rfl)) cJ)) (λ_ _ _ _ _=>pv 4) (λ_ _ _ _ _=>(cY eT hr (by rfl) (aX (jw (cN 1) (WD.o (vG (WD.o cV) (cN 13)))) (aX cV (aX (gf yd (by rfl) M0.len tm (cZ (cN 4) dq)) cJ))))))
  (cW (jy 6 iq.nd (cY GO hr (by rfl) (aX (cK 3) (aX (cK 5) cJ))))
  (cW (vL 7 9 rfl ⟨rfl,rfl,rfl,iq.nd⟩ (uE.weak (eZ (eB (cN 3) (WD.o cV) (λ_ _=>rfl)))) (λ_ _ _ _ _=>(dP eV (by rfl) M0.tuple ez (cZ (WD.o (WF.d (jx (lQ hu) (by rfl) M0.sorted fH (cZ (WD.o (WF.d (nO 14 rfl ⟨rfl,rfl,rfl,iq.nd⟩ (uE.weak (eZ (cK 9))) (λ_ _ _ _ _=>(eB (cN 5) (cN 14) (λ_ _=>rfl)))))) dq)))) dq))))
  (lR 7 (cW (jP (eN (zi hu) (cN 6) (WD.o (dS (aX (eB (cN 3) (WD.o cV) (λ_ _=>rfl)) (aX (dP eV (by rfl) M0.tuple ez (cZ (WD.o (WF.d (jx (lQ hu) (by rfl) M0.sorted fH (cZ (cN 7) dq)))) dq)) cJ))))) (da (dH vF)) fU)
  (cW (iA 8 iq.nd (jV cJ))
  (lR 8 (cW (mQ (f:=pR) bz rfl (eZ (eB (cN 3) (WD.o cV) (λ_ _=>rfl))) (gU (i:=9) iq.nd rfl (by first|exact Or.inl rfl|exact Or.inr rfl)) (cW (iA 10 iq.nd (jV cJ))
  (cW (mQ (f:=pQ) bz rfl (eZ (eB (cN 3) (WD.o cV) (λ_ _=>rfl))) (gU (i:=11) iq.nd rfl (by first|exact Or.inl rfl|exact Or.inr rfl)) (da (jP (MG.pt (uU (eN (zi hu) (cN 11) (cN 9)) (vJ (vK (Il (WD.o (WF.d (gO 14 rfl ⟨rfl,rfl,rfl,iq.nd⟩ (uE.weak (eZ (cK 11))) (λ_ _ _ _ _=>(eN (rQ hu) (cN 14) (cN 9))) (λ_ _ _ _ _=>(cK 14)))))))))) (da (vM (pv 10) (cK 11))) fU)))
  (da (iA 8 iq.nd (zr (cN 8) (WD.o (WF.d (L4 (WD.o (WF.d (jV (aX (cK 9) cJ)))) (WD.o (dP OT (by rfl) M0.int OF (cZ (WD.o (LZ (cN 10))) dq))))))))))))
  (cW (jP (eN (zi hu) (WD.o (cY uw hr (by rfl) (aX (cK 3) cJ))) (WD.o (dS (aX (eB (cN 3) (WD.o cV) (λ_ _=>rfl)) (aX (dP eV (by rfl) M0.tuple ez (cZ (cN 8) dq)) cJ))))) (da (dH vF)) fU)
  (cW (mQ (f:=sL) bz rfl (AK (WF.d (jV (aX (cK 6) (aX (cY uw hr (by rfl) (aX (cK 3) cJ)) cJ))))) (gU (i:=12) iq.nd rfl (by first|exact Or.inl rfl|exact Or.inr rfl)) (da (jP (eN (zi hu) (WD.o (cY gN hr (by rfl) (aX (qb (WD.o (dS (aX (cK 12) cJ))) (WD.o (Im (cN 2) (CW (WD.o cV)) Ie))) cJ))) (WD.o (cY gN hr (by rfl) (aX (cK 2) cJ)))) (da (dH vF)) fU)))
  (da (jP (vK (vI (cY xJ hr (by rfl) (aX (cK 2) (aX (CY (cN 1) (WD.o cV)) cJ))))) (da (dH vF)) fU))))))))))))))))
  (da (dH vF)))
theorem B1 {f:cD}{fd:cy}{Cs:cD}(F:nF K "__init__" "Search.__init__" jn f fd) (Z:lT K (du Cs)):eJ P w K mg base ju 1 f fd ["self","game"] (zv (du Cs)):=Lm (du Cs) F BS rfl (λgk Ar outer s H E=>Iu Z (pv 0) (pv 1) (pv 0) rfl rfl)
end
theorem all_mk {l:W.OpenLaw}{w:cA}{K:W.Frag}{h:Heap}{mg:cj}(X:K.In h) (G:h.Ns mainGlobals mg) (ZL:mg "law"=some (.ref fa))
  {Cs:cD}(aC:W.nsIn K mainGlobals "Search"=some (some (.ref Cs)))
  (pgC:W.plainGet K Cs Str.empty=true)
  (hdC:W.hasDictIn K Cs=true)
  (poC:W.plainOver K Cs=true)
  (saC:W.findIn K (.ref Cs) "__setattr__"=some (some (.builtin "object.__setattr__")))
  (mkC:W.makesIn K Cs=true)
  (kcC:W.keepIn K (.ref Cs)=true)
  (nGC:W.findIn K (.ref Cs) "game"=some none)
  (nKC:W.findIn K (.ref Cs) "known"=some none)
  (aI:W.findIn K (.ref Cs) "__init__"=some (some (.ref fI))) (iI:W.isFn K (.ref fI)=true) (lI:K.lookup fI=some ⟨ocI,odI,.func (W.fnOf "__init__" "Search.__init__" (dJ jn) (dv jn) (cM jn) .none kVI dcI pmI anI ZM ctI),slI⟩) (cI:W.codeIn K ZM "Search.__init__"=true) (kI:W.keepIn K (.ref fI)=true)
  (a0:W.nsIn K mainGlobals "has_all"=some (some (.ref f0))) (l0:K.lookup f0=some ⟨oc0,od0,.func (W.fnOf "has_all" "has_all" (dJ ke) (dv ke) (cM ke) .none kV0 dc0 pm0 an0 ZN ct0),sl0⟩) (c0:W.codeIn K ZN "has_all"=true) (k0:W.keepIn K (.ref f0)=true)
  (a1:W.nsIn K mainGlobals "has_some"=some (some (.ref f1))) (l1:K.lookup f1=some ⟨oc1,od1,.func (W.fnOf "has_some" "has_some" (dJ jk) (dv jk) (cM jk) .none kV1 dc1 pm1 an1 ZO ct1),sl1⟩) (c1:W.codeIn K ZO "has_some"=true) (k1:W.keepIn K (.ref f1)=true)
  (a2:W.nsIn K mainGlobals "at_a_time"=some (some (.ref f2))) (l2:K.lookup f2=some ⟨Xd,od2,.func (W.fnOf "at_a_time" "at_a_time" (dJ iJ) (dv iJ) (cM iJ) .none kV2 dc2 Tq an2 ZP ct2),Hk⟩) (c2:W.codeIn K ZP "at_a_time"=true) (k2:W.keepIn K (.ref f2)=true)
  (a3:W.nsIn K mainGlobals "other_hand"=some (some (.ref f3))) (l3:K.lookup f3=some ⟨oc3,od3,.func (W.fnOf "other_hand" "other_hand" (dJ gP) (dv gP) (cM gP) .none kV3 dc3 pm3 an3 ZQ ct3),sl3⟩) (c3:W.codeIn K ZQ "other_hand"=true) (k3:W.keepIn K (.ref f3)=true)
  (a4:W.nsIn K mainGlobals "choices"=some (some (.ref f4))) (l4:K.lookup f4=some ⟨oc4,od4,.func (W.fnOf "choices" "choices" (dJ kf) (dv kf) (cM kf) .none kV4 dc4 pm4 an4 ZR ct4),sl4⟩) (c4:W.codeIn K ZR "choices"=true) (k4:W.keepIn K (.ref f4)=true)
  (a5:W.nsIn K mainGlobals "behind"=some (some (.ref f5))) (l5:K.lookup f5=some ⟨oc5,od5,.func (W.fnOf "behind" "behind" (dJ lH) (dv lH) (cM lH) .none kV5 dc5 pm5 an5 ZS ct5),sl5⟩) (c5:W.codeIn K ZS "behind"=true) (k5:W.keepIn K (.ref f5)=true)
  (a6:W.nsIn K mainGlobals "free_part"=some (some (.ref f6))) (l6:K.lookup f6=some ⟨oc6,od6,.func (W.fnOf "free_part" "free_part" (dJ iK) (dv iK) (cM iK) .none kV6 dc6 pm6 an6 ZT ct6),sl6⟩) (c6:W.codeIn K ZT "free_part"=true) (k6:W.keepIn K (.ref f6)=true)
  (a7:W.nsIn K mainGlobals "has_another"=some (some (.ref f7))) (l7:K.lookup f7=some ⟨oc7,od7,.func (W.fnOf "has_another" "has_another" (dJ gy) (dv gy) (cM gy) .none kV7 dc7 pm7 an7 ZU ct7),sl7⟩) (c7:W.codeIn K ZU "has_another"=true) (k7:W.keepIn K (.ref f7)=true)
  (a8:W.nsIn K mainGlobals "spoils"=some (some (.ref f8))) (l8:K.lookup f8=some ⟨oc8,od8,.func (W.fnOf "spoils" "spoils" (dJ lJ) (dv lJ) (cM lJ) .none kV8 dc8 pm8 an8 ZV ct8),sl8⟩) (c8:W.codeIn K ZV "spoils"=true) (k8:W.keepIn K (.ref f8)=true)
  (a9:W.nsIn K mainGlobals "points_by_use"=some (some (.ref f9))) (l9:K.lookup f9=some ⟨oc9,od9,.func (W.fnOf "points_by_use" "points_by_use" (dJ fJ) (dv fJ) (cM fJ) .none kV9 dc9 pm9 an9 ZW ct9),sl9⟩) (c9:W.codeIn K ZW "points_by_use"=true) (k9:W.keepIn K (.ref f9)=true)
  (a10:W.nsIn K mainGlobals "open_lines"=some (some (.ref Xp))) (l10:K.lookup Xp=some ⟨ZX,ZY,.func (W.fnOf "open_lines" "open_lines" (dJ gQ) (dv gQ) (cM gQ) .none ZZ Z0 Z1 Z2 Vx Z3),Z4⟩) (c10:W.codeIn K Vx "open_lines"=true) (k10:W.keepIn K (.ref Xp)=true)
  (a11:W.findIn K (.ref Cs) "worth_trying"=some (some (.ref Vy))) (i11:W.isFn K (.ref Vy)=true) (l11:K.lookup Vy=some ⟨Z5,Z6,.func (W.fnOf "worth_trying" "Search.worth_trying" (dJ fZ) (dv fZ) (cM fZ) .none Z7 Z8 Z9 aaa Vz aab),aac⟩) (c11:W.codeIn K Vz "Search.worth_trying"=true) (k11:W.keepIn K (.ref Vy)=true)
  (a12:W.findIn K (.ref Cs) "searched"=some (some (.ref VA))) (i12:W.isFn K (.ref VA)=true) (l12:K.lookup VA=some ⟨aad,aae,.func (W.fnOf "searched" "Search.searched" (dJ jl) (dv jl) (cM jl) .none aaf aag aah aai VB aaj),aak⟩) (c12:W.codeIn K VB "Search.searched"=true) (k12:W.keepIn K (.ref VA)=true)
  (a13:W.findIn K (.ref Cs) "winner_of"=some (some (.ref VC))) (i13:W.isFn K (.ref VC)=true) (l13:K.lookup VC=some ⟨aal,aam,.func (W.fnOf "winner_of" "Search.winner_of" (dJ iN) (dv iN) (cM iN) .none aan aao aap aaq VD aar),aas⟩) (c13:W.codeIn K VD "Search.winner_of"=true) (k13:W.keepIn K (.ref VC)=true)
  (a14:W.findIn K (.ref Cs) "winner_at"=some (some (.ref VE))) (i14:W.isFn K (.ref VE)=true) (l14:K.lookup VE=some ⟨aat,aau,.func (W.fnOf "winner_at" "Search.winner_at" (dJ iO) (dv iO) (cM iO) .none aav aaw aax aay VF aaz),aaA⟩) (c14:W.codeIn K VF "Search.winner_at"=true) (k14:W.keepIn K (.ref VE)=true)
  (a15:W.nsIn K mainGlobals "winner_from"=some (some (.ref Xq))) (l15:K.lookup Xq=some ⟨aaB,aaC,.func (W.fnOf "winner_from" "winner_from" (dJ gz) (dv gz) (cM gz) .none aaD aaE aaF aaG VG aaH),aaI⟩) (c15:W.codeIn K VG "winner_from"=true) (k15:W.keepIn K (.ref Xq)=true)
  (a16:W.nsIn K mainGlobals "winner"=some (some (.ref Xr))) (l16:K.lookup Xr=some ⟨aaJ,aaK,.func (W.fnOf "winner" "winner" (dJ lK) (dv lK) (cM lK) .none aaL aaM aaN aaO VH aaP),aaQ⟩) (c16:W.codeIn K VH "winner"=true) (k16:W.keepIn K (.ref Xr)=true)
  (a17:W.nsIn K mainGlobals "with_line"=some (some (.ref Xs))) (l17:K.lookup Xs=some ⟨aaR,aaS,.func (W.fnOf "with_line" "with_line" (dJ iP) (dv iP) (cM iP) .none aaT aaU aaV aaW VI aaX),aaY⟩) (c17:W.codeIn K VI "with_line"=true) (k17:W.keepIn K (.ref Xs)=true)
  (a18:W.nsIn K mainGlobals "lines_without"=some (some (.ref Xu))) (l18:K.lookup Xu=some ⟨aaZ,aa0,.func (W.fnOf "lines_without" "lines_without" (dJ fL) (dv fL) (cM fL) .none aa1 aa2 aa3 aa4 VJ aa5),aa6⟩) (c18:W.codeIn K VJ "lines_without"=true) (k18:W.keepIn K (.ref Xu)=true)
  (a19:W.nsIn K mainGlobals "without_point"=some (some (.ref Xv))) (l19:K.lookup Xv=some ⟨aa7,aa8,.func (W.fnOf "without_point" "without_point" (dJ fM) (dv fM) (cM fM) .none aa9 aba abb abc VL abd),abe⟩) (c19:W.codeIn K VL "without_point"=true) (k19:W.keepIn K (.ref Xv)=true)
  (a20:W.nsIn K mainGlobals "renamed"=some (some (.ref Xw))) (l20:K.lookup Xw=some ⟨abf,abg,.func (W.fnOf "renamed" "renamed" (dJ kj) (dv kj) (cM kj) .none abh abi abj abk VM abl),abm⟩) (c20:W.codeIn K VM "renamed"=true) (k20:W.keepIn K (.ref Xw)=true)
  (a21:W.nsIn K mainGlobals "essential"=some (some (.ref Xx))) (l21:K.lookup Xx=some ⟨abn,abo,.func (W.fnOf "essential" "essential" (dJ iQ) (dv iQ) (cM iQ) .none abp abq abr abt VN abu),abv⟩) (c21:W.codeIn K VN "essential"=true) (k21:W.keepIn K (.ref Xx)=true)
  (a22:W.nsIn K mainGlobals "_law_mix"=some (some (.ref Xy))) (l22:K.lookup Xy=some ⟨abw,abx,.func (W.fnOf "_law_mix" "_law_mix" (dJ jm) (dv jm) (cM jm) .none aby abz abA abB VO abC),abD⟩) (c22:W.codeIn K VO "_law_mix"=true) (k22:W.keepIn K (.ref Xy)=true)
  (a23:W.nsIn K mainGlobals "_law_field"=some (some (.ref Xz))) (l23:K.lookup Xz=some ⟨abE,abF,.func (W.fnOf "_law_field" "_law_field" (dJ gR) (dv gR) (cM gR) .none abG abH abI abJ VP abK),abL⟩) (c23:W.codeIn K VP "_law_field"=true) (k23:W.keepIn K (.ref Xz)=true)
  (a24:W.nsIn K mainGlobals "_law_game"=some (some (.ref XA))) (l24:K.lookup XA=some ⟨abM,abN,.func (W.fnOf "_law_game" "_law_game" (dJ iR) (dv iR) (cM iR) .none abO abP abQ abR VQ abS),abT⟩) (c24:W.codeIn K VQ "_law_game"=true) (k24:W.keepIn K (.ref XA)=true)
  (a25:W.nsIn K mainGlobals "_law_better"=some (some (.ref XB))) (l25:K.lookup XB=some ⟨abU,abV,.func (W.fnOf "_law_better" "_law_better" (dJ gA) (dv gA) (cM gA) .none abW abX abY abZ VR ab0),ab1⟩) (c25:W.codeIn K VR "_law_better"=true) (k25:W.keepIn K (.ref XB)=true)
  (a26:W.nsIn K mainGlobals "law"=some (some (.ref XC))) (l26:K.lookup XC=some ⟨ab2,ab3,.func (W.fnOf "law" "law" (dJ ot) (dv ot) (cM ot) .none VS VT VU VV SN VW),ab4⟩) (c26:W.codeIn K SN "law"=true) (k26:W.keepIn K (.ref XC)=true)
  (z0:W.nsIn K mainGlobals "all"=some none)
  (z1:W.nsIn K mainGlobals "any"=some none)
  (z2:W.nsIn K mainGlobals "int"=some none)
  (z3:W.nsIn K mainGlobals "len"=some none)
  (z4:W.nsIn K mainGlobals "list"=some none)
  (z5:W.nsIn K mainGlobals "max"=some none)
  (z6:W.nsIn K mainGlobals "min"=some none)
  (z7:W.nsIn K mainGlobals "range"=some none)
  (z8:W.nsIn K mainGlobals "set"=some none)
  (z9:W.nsIn K mainGlobals "sorted"=some none)
  (z10:W.nsIn K mainGlobals "tuple"=some none)
  {t0:Tok}(y0:W.nsIn K mainGlobals "BUILDER"=some (some (.int 0 t0)))
  {t1:Tok}(y1:W.nsIn K mainGlobals "GUARD"=some (some (.int 1 t1)))
  (tq:(W.tabIn K "points_by_use").isSome=true)
  :∃fd:cy,(∀(s:cx) (v:cw),BindsTo s fd ⟨[v],[]⟩ [("_law_script",v)])/\∀base:Heap,K.In base->base.Ns mainGlobals mg->eJ l.prog w K mg base ju 65 fa fd ["_law_script"] (pZ E2):=by
 have e:=ZL.symm.trans (aO X G a26);cases e;have F0:=eP (st:=ke) l0 c0 k0;have b0:=F0.binds (ps:=["points","line"]) λ_ _ _ _ _ _ us hl=>match us,hl with|[_,_],_=>rfl
 have F1:=eP (st:=jk) l1 c1 k1;have b1:=F1.binds (ps:=["points","line"]) λ_ _ _ _ _ _ us hl=>match us,hl with|[_,_],_=>rfl
 have F2:=eP (st:=iJ) l2 c2 k2;have b2:=F2.binds (ps:=["game","whose"]) λ_ _ _ _ _ _ us hl=>match us,hl with|[_,_],_=>rfl
 have F3:=eP (st:=gP) l3 c3 k3;have b3:=F3.binds (ps:=["hand"]) λ_ _ _ _ _ _ us hl=>match us,hl with|[_],_=>rfl
 have F4:=eP (st:=kf) l4 c4 k4;have b4:=F4.binds (ps:=["points","count"]) λ_ _ _ _ _ _ us hl=>match us,hl with|[_,_],_=>rfl
 have F5:=eP (st:=lH) l5 c5 k5;have b5:=F5.binds (ps:=["mine","yours","whose","claim"]) λ_ _ _ _ _ _ us hl=>match us,hl with|[_,_,_,_],_=>rfl
 have F6:=eP (st:=iK) l6 c6 k6;have b6:=F6.binds (ps:=["line","mine"]) λ_ _ _ _ _ _ us hl=>match us,hl with|[_,_],_=>rfl
 have F7:=eP (st:=gy) l7 c7 k7;have b7:=F7.binds (ps:=["line","lines"]) λ_ _ _ _ _ _ us hl=>match us,hl with|[_,_],_=>rfl
 have F8:=eP (st:=lJ) l8 c8 k8;have b8:=F8.binds (ps:=["points","lines"]) λ_ _ _ _ _ _ us hl=>match us,hl with|[_,_],_=>rfl
 have F9:=eP (st:=fJ) l9 c9 k9;have b9:=F9.binds (ps:=["lines"]) λ_ _ _ _ _ _ us hl=>match us,hl with|[_],_=>rfl
 have XD:=eP (st:=gQ) l10 c10 k10;have b10:=XD.binds (ps:=["lines","mine","yours"]) λ_ _ _ _ _ _ us hl=>match us,hl with|[_,_,_],_=>rfl
 have XE:=eP (st:=fZ) l11 c11 k11;have b11:=XE.binds (ps:=["self","lines","whose"]) λ_ _ _ _ _ _ us hl=>match us,hl with|[_,_,_],_=>rfl
 have XF:=eP (st:=jl) l12 c12 k12;have XG:=XF.binds (ps:=["self","lines","whose"]) λ_ _ _ _ _ _ us hl=>match us,hl with|[_,_,_],_=>rfl
 have XH:=eP (st:=iN) l13 c13 k13;have XI:=XH.binds (ps:=["self","lines","whose"]) λ_ _ _ _ _ _ us hl=>match us,hl with|[_,_,_],_=>rfl
 have XJ:=eP (st:=iO) l14 c14 k14;have b14:=XJ.binds (ps:=["self","mine","yours","whose"]) λ_ _ _ _ _ _ us hl=>match us,hl with|[_,_,_,_],_=>rfl
 have XM:=eP (st:=gz) l15 c15 k15;have b15:=XM.binds (ps:=["game","mine","yours","whose"]) λ_ _ _ _ _ _ us hl=>match us,hl with|[_,_,_,_],_=>rfl
 have XN:=eP (st:=lK) l16 c16 k16;have b16:=XN.binds (ps:=["game"]) λ_ _ _ _ _ _ us hl=>match us,hl with|[_],_=>rfl
 have XO:=eP (st:=iP) l17 c17 k17;have b17:=XO.binds (ps:=["field","line"]) λ_ _ _ _ _ _ us hl=>match us,hl with|[_,_],_=>rfl
 have XQ:=eP (st:=fL) l18 c18 k18;have b18:=XQ.binds (ps:=["lines","point"]) λ_ _ _ _ _ _ us hl=>match us,hl with|[_,_],_=>rfl
 have XR:=eP (st:=fM) l19 c19 k19;have b19:=XR.binds (ps:=["field","point"]) λ_ _ _ _ _ _ us hl=>match us,hl with|[_,_],_=>rfl
 have XS:=eP (st:=kj) l20 c20 k20;have b20:=XS.binds (ps:=["field","numbers"]) λ_ _ _ _ _ _ us hl=>match us,hl with|[_,_],_=>rfl
 have XT:=eP (st:=iQ) l21 c21 k21;have b21:=XT.binds (ps:=["field"]) λ_ _ _ _ _ _ us hl=>match us,hl with|[_],_=>rfl
 have XU:=eP (st:=jm) l22 c22 k22;have b22:=XU.binds (ps:=["_law_cell_here","_law_prime","_law_many"]) λ_ _ _ _ _ _ us hl=>match us,hl with|[_,_,_],_=>rfl
 have XW:=eP (st:=gR) l23 c23 k23;have b23:=XW.binds (ps:=["_law_cell_here","_law_least","_law_most","_law_lines"]) λ_ _ _ _ _ _ us hl=>match us,hl with|[_,_,_,_],_=>rfl
 have XX:=eP (st:=iR) l24 c24 k24;have b24:=XX.binds (ps:=["_law_cell_here","_law_least","_law_most","_law_lines"]) λ_ _ _ _ _ _ us hl=>match us,hl with|[_,_,_,_],_=>rfl
 have XY:=eP (st:=gA) l25 c25 k25;have b25:=XY.binds (ps:=["_law_game_here","_law_cell_here"]) λ_ _ _ _ _ _ us hl=>match us,hl with|[_,_],_=>rfl
 have F26:=eP (st:=ot) l26 c26 k26;have M0:Bt mg:=⟨bE X G z0,bE X G z1,bE X G z2,bE X G z3,bE X G z4,bE X G z5,bE X G z6,bE X G z7,bE X G z8,bE X G z9,bE X G z10,⟨_,aO X G y0⟩,⟨_,aO X G y1⟩⟩;refine⟨W.fnOf "law" "law" (dJ ot) (dv ot) (cM ot) .none VS VT VU VV SN VW,λs v=>.of_eq rfl,λbase _ _=>?_⟩
 have Z:lT K (du Cs):=⟨⟨pgC,hdC,poC,saC⟩,nGC,nKC⟩;have FI:=eP (st:=jn) lI cI kI;have bI:=FI.binds (ps:=["self","game"]) λ_ _ _ _ _ _ us hl=>match us,hl with|[_,_],_=>rfl
 have J0:tJ l.prog w K mg base 1 (du Cs) "Search":=⟨_,_,_,B1 FI Z,⟨mkC,aI,iI,kcC⟩,aO X G aC,bI,(show Str.ofString "known"≠Str.ofString "game" by decide +kernel)⟩
 obtain⟨⟨ctq,Ptq⟩,XZ⟩:=Option.isSome_iff_exists.mp tq;have hcq:=Jm a9 l9 XZ;have C0:js l.prog w K mg base 1 "has_all" ny:=⟨_,_,_,DV F0 M0,aO X G a0,k0,b0⟩;have C1:js l.prog w K mg base 1 "has_some" ik:=⟨_,_,_,BU F1 M0,aO X G a1,k1,b1⟩;have C2:js l.prog w K mg base 1 "at_a_time" dZ:=⟨_,_,_,Ab F2 M0,aO X G a2,k2,b2⟩;have C3:js l.prog w K mg base 1 "other_hand" gi:=⟨_,_,_,xG F3 M0,aO X G a3,k3,b3⟩;have CR:∀n:Nat,(js l.prog w K mg base (1+n) "choices" (fi n)):=by
  intro n;induction n with
  |zero=>exact⟨_,_,_,Lj,aO X G a4,k4,b4⟩
  |succ n ih=>
   exact⟨_,_,_,(DW (n:=1+n) F4 M0 (js.mono ih (by omega))).mono (by omega),aO X G a4,k4,b4⟩
 have C4:=(CR 5);clear CR;have C5:js l.prog w K mg base 1 "behind" pK:=⟨_,_,_,GJ F5 M0,aO X G a5,k5,b5⟩;have C6:js l.prog w K mg base 1 "free_part" jf:=⟨_,_,_,Ac F6 M0,aO X G a6,k6,b6⟩;have C7:js l.prog w K mg base 2 "has_another" fC:=⟨_,_,_,w6 F7 M0 (C0.mono (by decide)),aO X G a7,k7,b7⟩
 have C8:js l.prog w K mg base 2 "spoils" pL:=⟨_,_,_,GL F8 M0 (C1.mono (by decide)),aO X G a8,k8,b8⟩
 have C9:js l.prog w K mg base 1 "points_by_use" fY:=⟨_,_,_,t6 F9 M0 XZ hcq,aO X G a9,k9,b9⟩;have X0:js l.prog w K mg base 3 "open_lines" eW:=⟨_,_,_,xH XD M0 (C6.mono (by decide)) (C7.mono (by decide)) (C1.mono (by decide)),aO X G a10,k10,b10⟩
 have C11:lq l.prog w K mg base 7 (du Cs) "worth_trying" gx:=⟨_,_,_,uO XE M0 Z (C2.mono (by decide)) (C4.mono (by decide)) (C9.mono (by decide)) (C8.mono (by decide)),⟨a11,i11,k11⟩,b11,(show Str.ofString "worth_trying"≠Str.ofString "game" by decide +kernel),(show Str.ofString "worth_trying"≠Str.ofString "known" by decide +kernel)⟩
 have CR:∀n:Nat,(lq l.prog w K mg base (8+n) (du Cs) "searched" (mn n))/\(lq l.prog w K mg base (8+n) (du Cs) "winner_of" (gC n)):=by
  intro n;induction n with
  |zero=>exact⟨⟨_,_,_,AR,⟨a12,i12,k12⟩,XG,(show Str.ofString "searched"≠Str.ofString "game" by decide +kernel),(show Str.ofString "searched"≠Str.ofString "known" by decide +kernel)⟩,⟨_,_,_,AR,⟨a13,i13,k13⟩,XI,(show Str.ofString "winner_of"≠Str.ofString "game" by decide +kernel),(show Str.ofString "winner_of"≠Str.ofString "known" by decide +kernel)⟩⟩
  |succ n ih=>
   exact⟨⟨_,_,_,(BW (n:=1+n) XF M0 Z (C2.mono (by omega)) (C5.mono (by omega)) (X0.mono (by omega)) (C3.mono (by omega)) (lq.mono ih.2 (by omega)) (C11.mono (by omega))).mono (by omega),⟨a12,i12,k12⟩,XG,(show Str.ofString "searched"≠Str.ofString "game" by decide +kernel),(show Str.ofString "searched"≠Str.ofString "known" by decide +kernel)⟩,⟨_,_,_,(Ad (n:=1+n) XH M0 Z (lq.mono ih.1 (by omega))).mono (by omega),⟨a13,i13,k13⟩,XI,(show Str.ofString "winner_of"≠Str.ofString "game" by decide +kernel),(show Str.ofString "winner_of"≠Str.ofString "known" by decide +kernel)⟩⟩
 have C12:=(CR 24).1;have C13:=(CR 24).2;clear CR;have C14:lq l.prog w K mg base 33 (du Cs) "winner_at" mK:=⟨_,_,_,Ae XJ M0 Z (X0.mono (by decide)) (C13.mono (by decide)),⟨a14,i14,k14⟩,b14,(show Str.ofString "winner_at"≠Str.ofString "game" by decide +kernel),(show Str.ofString "winner_at"≠Str.ofString "known" by decide +kernel)⟩
 have X1:js l.prog w K mg base 34 "winner_from" eM:=⟨_,_,_,xb XM M0 Z (J0.mono (by decide)) (C14.mono (by decide)),aO X G a15,k15,b15⟩
 have X2:js l.prog w K mg base 35 "winner" eR:=⟨_,_,_,GN XN M0 (X1.mono (by decide)),aO X G a16,k16,b16⟩
 have C17:js l.prog w K mg base 1 "with_line" kL:=⟨_,_,_,Af XO M0,aO X G a17,k17,b17⟩;have C18:js l.prog w K mg base 1 "lines_without" gK:=⟨_,_,_,t7 XQ M0,aO X G a18,k18,b18⟩;have C19:js l.prog w K mg base 2 "without_point" gL:=⟨_,_,_,t8 XR M0 (C18.mono (by decide)),aO X G a19,k19,b19⟩
 have C20:js l.prog w K mg base 1 "renamed" nB:=⟨_,_,_,DY XS M0,aO X G a20,k20,b20⟩;have C21:js l.prog w K mg base 3 "essential" jj:=⟨_,_,_,Ag XT M0 (C7.mono (by decide)),aO X G a21,k21,b21⟩
 have Tu:js l.prog w K mg base 1 "_law_mix" cX:=⟨_,_,_,BY XU M0,aO X G a22,k22,b22⟩;have C23:js l.prog w K mg base 2 "_law_field" dw:=⟨_,_,_,xI XW M0 (Tu.mono (by decide)),aO X G a23,k23,b23⟩
 have C24:js l.prog w K mg base 3 "_law_game" dE:=⟨_,_,_,Ah XX M0 (C23.mono (by decide)) (Tu.mono (by decide)),aO X G a24,k24,b24⟩
 have C25:js l.prog w K mg base 36 "_law_better" i7:=⟨_,_,_,xc XY M0 (Tu.mono (by decide)) (X2.mono (by decide)) (X1.mono (by decide)) (C17.mono (by decide)) (C19.mono (by decide)),aO X G a25,k25,b25⟩
 exact(PN F26 M0 (C25.mono (by decide)) (C24.mono (by decide)) (Tu.mono (by decide)) (C21.mono (by decide)) (C20.mono (by decide)) (X2.mono (by decide))).mono (by decide)
end mr
noncomputable def mr.view:PySem.Program:={PySem.Challenge.pw_fieldclaim_k10_whole_what_helps_whom with main:={PySem.Challenge.pw_fieldclaim_k10_whole_what_helps_whom.main with body:=[mr.top 0,mr.top 2,mr.top 3,mr.top 4,mr.top 5,mr.top 6,mr.top 7,mr.top 8,mr.top 9,mr.top 11,mr.top 12,mr.top 13,mr.top 14,mr.top 15,mr.top 16,mr.top 17,mr.top 18,mr.top 20,mr.top 21,mr.top 22,mr.top 23,mr.top 24,mr.top 26,mr.top 27,mr.top 28,mr.top 29,mr.top 30,mr.top 31,mr.top 32]}}
open PySem PySem.W PyProof.Rows
local macro_rules|`(tactic|o_head $H)=>do let hl:=Lean.mkIdent `hl;let hw:=Lean.mkIdent `hw;let hc:=Lean.mkIdent `hc;`(tactic|(refine holds_open (q:=mr.view) (loose:=[]) (Xt:=λs=>xlAt mr.view [] s&&recOk (RowW.records (OpenRow.toRowW (OpenLaw.row PySem.Challenge.rw_fieldclaim_k10_whole_what_helps_whom))) s) (XP:=XL mr.view []) (Yf:=Hook.obs $H) (Ya:=Hook.val $H) (YP:=Hook.says $H) (N:=2488) ?$hl (Hook.of $H) (Hook.keeps $H) (λs e=>xl_of s (Bool.and_eq_true_iff.mp e).1) XL.keeps (by rfl) (by rfl) (by rfl) (λs e=>recFacts_of (Bool.and_eq_true_iff.mp e).2) (by rfl) (by first|assumption|decide +kernel) (by decide +kernel) ⟨rfl,rfl,rfl,rfl,rfl,by decide +kernel⟩ ?$hw ?$hc;(case $hl:ident=>intro w;kernel_rfl)))
set_option maxRecDepth 100000 in
set_option maxHeartbeats 0 in
theorem PySem.Challenge.cw_fieldclaim_k10_whole_what_helps_whom_holds : PySem.Challenge.rw_fieldclaim_k10_whole_what_helps_whom.Holds := by
 w_on;o_law;k_head;(case hw=>w_witness2)
 k_fill
 refine DL.Rz (l:=PySem.Challenge.rw_fieldclaim_k10_whole_what_helps_whom) (x:="_law_script") (g:=mr.E2) rfl rfl (λw h Y=>by first|exact PySem.W.kIn_of Y|exact PySem.W.km_in_of Y) mr.Md ?R ?F
 case R=>intro t ht;simp only[L2.ux,bt]at ht;subst ht;kernel_rfl
 case F=>
  intro w mg fa h KX G NT;refine⟨?z,?t,?r⟩
  case z=>kernel_rfl
  case t=>kernel_rfl
  case r=>
   refine' mr.all_mk KX G NT ?aC ?pgC ?hdC ?poC ?saC ?mkC ?kcC ?nGC ?nKC ?aI ?iI ?lI ?cI ?kI ?a0 ?l0 ?c0 ?k0 ?a1 ?l1 ?c1 ?k1 ?a2 ?l2 ?c2 ?k2 ?a3 ?l3 ?c3 ?k3 ?a4 ?l4 ?c4 ?k4 ?a5 ?l5 ?c5 ?k5 ?a6 ?l6 ?c6 ?k6 ?a7 ?l7 ?c7 ?k7 ?a8 ?l8 ?c8 ?k8 ?a9 ?l9 ?c9 ?k9 ?a10 ?l10 ?c10 ?k10 ?a11 ?i11 ?l11 ?c11 ?k11 ?a12 ?i12 ?l12 ?c12 ?k12 ?a13 ?i13 ?l13 ?c13 ?k13 ?a14 ?i14 ?l14 ?c14 ?k14 ?a15 ?l15 ?c15 ?k15 ?a16 ?l16 ?c16 ?k16 ?a17 ?l17 ?c17 ?k17 ?a18 ?l18 ?c18 ?k18 ?a19 ?l19 ?c19 ?k19 ?a20 ?l20 ?c20 ?k20 ?a21 ?l21 ?c21 ?k21 ?a22 ?l22 ?c22 ?k22 ?a23 ?l23 ?c23 ?k23 ?a24 ?l24 ?c24 ?k24 ?a25 ?l25 ?c25 ?k25 ?a26 ?l26 ?c26 ?k26 ?z0 ?z1 ?z2 ?z3 ?z4 ?z5 ?z6 ?z7 ?z8 ?z9 ?z10 ?y0 ?y1 ?tq
   (case aC=>k_is)
   (case pgC=>k_is)
   (case hdC=>k_is)
   (case poC=>k_is)
   (case saC=>k_is)
   (case mkC=>k_is)
   (case kcC=>k_is)
   (case nGC=>k_is)
   (case nKC=>k_is)
   (case aI=>k_is)
   (case iI=>k_is)
   (case lI=>k_is)
   (case cI=>k_is)
   (case kI=>k_is)
   (case tq=>kernel_rfl)
   (case a0=>k_is);(case l0=>k_is);(case c0=>k_is);(case k0=>k_is)
   (case a1=>k_is);(case l1=>k_is);(case c1=>k_is);(case k1=>k_is)
   (case a2=>k_is);(case l2=>k_is);(case c2=>k_is);(case k2=>k_is)
   (case a3=>k_is);(case l3=>k_is);(case c3=>k_is);(case k3=>k_is)
   (case a4=>k_is);(case l4=>k_is);(case c4=>k_is);(case k4=>k_is)
   (case a5=>k_is);(case l5=>k_is);(case c5=>k_is);(case k5=>k_is)
   (case a6=>k_is);(case l6=>k_is);(case c6=>k_is);(case k6=>k_is)
   (case a7=>k_is);(case l7=>k_is);(case c7=>k_is);(case k7=>k_is)
   (case a8=>k_is);(case l8=>k_is);(case c8=>k_is);(case k8=>k_is)
   (case a9=>k_is);(case l9=>k_is);(case c9=>k_is);(case k9=>k_is)
   (case a10=>k_is);(case l10=>k_is);(case c10=>k_is);(case k10=>k_is)
   (case a11=>k_is);(case i11=>k_is);(case l11=>k_is);(case c11=>k_is);(case k11=>k_is)
   (case a12=>k_is);(case i12=>k_is);(case l12=>k_is);(case c12=>k_is);(case k12=>k_is)
   (case a13=>k_is);(case i13=>k_is);(case l13=>k_is);(case c13=>k_is);(case k13=>k_is)
   (case a14=>k_is);(case i14=>k_is);(case l14=>k_is);(case c14=>k_is);(case k14=>k_is)
   (case a15=>k_is);(case l15=>k_is);(case c15=>k_is);(case k15=>k_is)
   (case a16=>k_is);(case l16=>k_is);(case c16=>k_is);(case k16=>k_is)
   (case a17=>k_is);(case l17=>k_is);(case c17=>k_is);(case k17=>k_is)
   (case a18=>k_is);(case l18=>k_is);(case c18=>k_is);(case k18=>k_is)
   (case a19=>k_is);(case l19=>k_is);(case c19=>k_is);(case k19=>k_is)
   (case a20=>k_is);(case l20=>k_is);(case c20=>k_is);(case k20=>k_is)
   (case a21=>k_is);(case l21=>k_is);(case c21=>k_is);(case k21=>k_is)
   (case a22=>k_is);(case l22=>k_is);(case c22=>k_is);(case k22=>k_is)
   (case a23=>k_is);(case l23=>k_is);(case c23=>k_is);(case k23=>k_is)
   (case a24=>k_is);(case l24=>k_is);(case c24=>k_is);(case k24=>k_is)
   (case a25=>k_is);(case l25=>k_is);(case c25=>k_is);(case k25=>k_is)
   (case a26=>k_is);(case l26=>k_is);(case c26=>k_is);(case k26=>k_is)
   (case z0=>k_is)
   (case z1=>k_is)
   (case z2=>k_is)
   (case z3=>k_is)
   (case z4=>k_is)
   (case z5=>k_is)
   (case z6=>k_is)
   (case z7=>k_is)
   (case z8=>k_is)
   (case z9=>k_is)
   (case z10=>k_is)
   (case y0=>k_is)
   (case y1=>k_is)
