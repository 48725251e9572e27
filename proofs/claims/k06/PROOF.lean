import PyProof.Rows.All
import KE.KDictList
import KE.KIsAll
import KE.KLam
import KE.KMinBuiltin
import KE.KNestM
import KE.KRevSl
import KE.KSortTup
import PyProof.FactsAll.range_1
import PySem.Challenge.RW_fieldclaim_k06_whole_pairs
set_option Elab.async false
set_option linter.all false
set_option maxRecDepth 100000
set_option maxHeartbeats 4000000
def aa:=@PySem.wpAny_bind
def ae.{jx,Mu}:=@List.length_map.{jx,Mu}
def af.{jx}:=@List.mem_cons_self.{jx}
def ag:=@PySem.Heap.get?_push_of_some
def ah.{jx}:=@List.getElem?_eq_getElem.{jx}
def ai.{jx}:=@List.mem_cons_of_mem.{jx}
def aj:=@PySem.wpAny_pure
def ak.{jx}:=@List.getD_eq_getElem?_getD.{jx}
def ao.{jx,Mu}:=@Option.bind_some.{jx,Mu}
def aq.{u}:=@List.size_toArray.{u}
def au:=@Nat.le_refl
def av.{jx,Mu}:=@List.getElem?_map.{jx,Mu}
def aw:=@Nat.lt_of_lt_of_le
def ay.{u}:=@List.length_cons.{u}
def az:=@PySem.Heap.get?_push_size
def aB:=@PySem.Heap.lt_size
def aD:=@Nat.le_trans
def aE:=@Nat.ne_of_lt
def aF.{u,v}:=@List.map_cons.{u,v}
def aG.{jx}:=@List.getElem?_set_ne.{jx}
def aH:=@decide_eq_false
def aI:=@Bool.false_eq_true
def aJ.{jx}:=@List.getElem?_append_left.{jx}
def aK.{jx}:=@List.getElem?_cons_succ.{jx}
def aL.{u}:=@List.mem_append_right.{u}
def aM.{jx}:=@List.getElem?_cons_zero.{jx}
def aN.{jx}:=@Array.length_toList.{jx}
def aO:=@PySem.W.mg_of
def aP.{jx}:=@List.getElem?_append_right.{jx}
def aQ.{u}:=@List.length_append.{u}
def aR:=@decide_eq_true
def aS.{u}:=@Option.some.inj.{u}
def aT.{jx}:=@Array.getD_eq_getD_getElem?.{jx}
def aU.{jx}:=@Array.getElem?_eq_getElem.{jx}
def aV.{jx,Mu,u_3}:=@List.map_map.{jx,Mu,u_3}
def aW.{jx}:=@List.length_filter_le.{jx}
def aX.{jx}:=@List.set_cons_zero.{jx}
def aY.{jx}:=@List.set_cons_succ.{jx}
def aZ:=@Bool.false_ne_true
def bc.{jx}:=@List.getElem?_set_self.{jx}
def bf.{jx}:=@List.getElem?_replicate.{jx}
def bg:=@Nat.le_of_lt
def bh.{jx}:=@List.mem_of_getElem?.{jx}
def bj:=@PySem.wpAny_holding
def bo.{jx}:=@List.getElem?_of_mem.{jx}
def bp.{u,jx}:=@List.lookup_cons.{u,jx}
def bq.{jx}:=@List.filter_cons.{jx}
def br.{jx}:=@List.mem_singleton.{jx}
def bu:=@PySem.sizeLine_eq
def bw:=@Nat.ne_of_gt
def bx:=@PySem.Heap.get?_update_other
def bz:=@PySem.PassesOwn.never
def bA.{jx,Mu}:=@Option.map_some.{jx,Mu}
def bB.{u}:=@List.append_nil.{u}
def bC.{u}:=@List.mem_append_left.{u}
def bD.{jx}:=@if_false.{jx}
def bE:=@PySem.W.mg_none_of
def bF.{jx}:=@List.any_cons.{jx}
def bG:=@Nat.lt_trans
def bH.{jx}:=@List.not_mem_nil.{jx}
def bI.{jx}:=@List.length_take.{jx}
def bJ:=@of_decide_eq_true
def bK:=@Nat.zero_le
def bL:=@PySem.wpAny_call_entry
def bM.{jx}:=@beq_self_eq_true.{jx}
def bN.{jx}:=@List.any_eq_true.{jx}
def bO:=@PySem.wpAny_mono
def bP:=@PySem.wpAny_truthy_bool
def bQ:=@PySem.wpAny_newObj_type
def bR.{jx,Mu}:=@List.map_congr_left.{jx,Mu}
def bS:=@Bool.not_true
def bT:=@Classical.byContradiction
def bU:=@PySem.W.kia_one
def bV.{jx}:=@List.Nodup.length_le_of_subset.{jx}
def bW:=@PySem.Around.under_plainId
abbrev cn:=List (List Int)
abbrev cp:=List Int
abbrev cf:=PySem.Value->PySem.Shared->Prop
abbrev cg:=PySem.Str->Option PySem.Value
abbrev cj:=List (PySem.Addr×PySem.Obj)
abbrev cq:=Option PySem.Addr
abbrev cu:=Array (Option PySem.Value)
abbrev cx:=List PySem.Value
abbrev cy:=PySem.Value
abbrev cA:=PySem.Shared
abbrev cB:=PySem.FuncData
abbrev cC:=PySem.Program
abbrev cD:=PySem.World
abbrev cE:=PySem.Around
abbrev cF:=PySem.SetTable
abbrev cG:=PySem.Addr
abbrev cH:=PySem.Expr
abbrev cI:=PySem.Stmt
noncomputable section
open List hiding Mem all and any any_congr any_filter append below cons contains get iter le length lex lex_asymm lt map max min nil or range set sum take toString
open PySem PySem.Spec PyProof.Rows
namespace L2
noncomputable def yk:List (Str×Pos×Str):=[(Str.ofString "points_by_use",⟨100,34,100,69⟩,Str.ofString "points_by_use.<locals>.<lambda>")]
end L2
namespace L2
noncomputable abbrev Key:=Sum Int Str
noncomputable def Ca:Key->cy->Bool
 |.inl k,v=>Value.isInt k v
 |.inr x,v=>Value.isStrOf x v
noncomputable def Y0 (w:cD):Key->Int
 |.inl k=>hashInt k
 |.inr x=>hashStr w x
theorem gN:∀{k:Key}{v:cy},Ca k v=true->(∃i t,k=Sum.inl i/\v=Value.int i t)\/(∃x t,k=Sum.inr x/\v=Value.str x t)
 |.inl i,v,h=>by
  obtain⟨t,e⟩:=Value.isInt_shape (k:=i) (v:=v) h;exact .inl ⟨i,t,rfl,e⟩
 |.inr x,v,h=>by
  obtain⟨t,e⟩:=Value.isStrOf_shape (x:=x) (v:=v) h;exact .inr ⟨x,t,rfl,e⟩
def KP (i:Int) (t:Tok):Ca (.inl i) (.int i t)=true:=by simp[Ca,Value.isInt]
def KQ (x:Str) (t:Tok):Ca (.inr x) (.str x t)=true:=by simp[Ca,Value.isStrOf]
def Td (a b:Int):decide ((Sum.inl a:Key)=Sum.inl b)=(a==b):=by
 by_cases e:a=b
 ·subst e;simp
 ·have h:¬ (Sum.inl a:Key)=Sum.inl b:=λq=>e (Sum.inl.inj q)
  rw[aH h];exact(beq_eq_false_iff_ne.mpr e).symm
def Te (a b:Str):decide ((Sum.inr a:Key)=Sum.inr b)=decide (a=b):=by
 by_cases e:a=b
 ·subst e;simp
 ·have h:¬ (Sum.inr a:Key)=Sum.inr b:=λq=>e (Sum.inr.inj q)
  rw[aH h,aH e]
def Tf (a:Int) (b:Str):decide ((Sum.inl a:Key)=Sum.inr b)=false:=aH (λq=>nomatch q)
def Tg (a:Str) (b:Int):decide ((Sum.inr a:Key)=Sum.inl b)=false:=aH (λq=>nomatch q)
def fT (prog:cC) (w:cD):PySem.KeyKind prog w Key where
 is:=Ca
 hash:=Y0 w
 inj:=λv a b ha hb=>by
  rcases gN ha with⟨i,t,rfl,rfl⟩|⟨x,t,rfl,rfl⟩
  ·rcases gN hb with⟨j,u,rfl,e⟩|⟨y,u,rfl,e⟩
   ·injection e with e1 _;rw[e1]
   ·exact nomatch e
  ·rcases gN hb with⟨j,u,rfl,e⟩|⟨y,u,rfl,e⟩
   ·exact nomatch e
   ·injection e with e1 _;rw[e1]
 byValue:=λk v h=>by
  rcases gN h with⟨i,t,rfl,rfl⟩|⟨x,t,rfl,rfl⟩<;>rfl
 pyHash:=λhv h=>by
  rcases gN hv with⟨i,t,rfl,rfl⟩|⟨x,t,rfl,rfl⟩
  ·exact wpAny_pyHash_int h
  ·exact wpAny_pyHash_str h
 eqBool:=λhu hv h=>by
  rcases gN hu with⟨i,t,rfl,rfl⟩|⟨x,t,rfl,rfl⟩
  ·rcases gN hv with⟨j,u,rfl,rfl⟩|⟨y,u,rfl,rfl⟩
   ·rw[Td]at h;exact wpAny_eqBool_int h
   ·rw[Tf]at h;exact SeqAt.EqAt.int_str i t y u _ _ _ _ h
  ·rcases gN hv with⟨j,u,rfl,rfl⟩|⟨y,u,rfl,rfl⟩
   ·rw[Tg]at h;exact SeqAt.EqAt.str_int x t j u _ _ _ _ h
   ·rw[Te]at h;exact wpAny_eqBool_str h
 «strs»:=λk x t v h=>by
  rcases gN h with⟨i,u,rfl,e⟩|⟨y,u,rfl,e⟩
  ·exact nomatch e
  ·injection e with e1 _
   subst e1;cases v<;>rfl
def E7 (prog:cC) (w:cD) (i:Int) (t:Tok):(fT prog w).is (.inl i) (.int i t)=true:=KP i t
def E8 (prog:cC) (w:cD) (x:Str) (t:Tok):(fT prog w).is (.inr x) (.str x t)=true:=KQ x t
inductive V where
 |eU|bl (b:Bool)|int (i:Int)|str (x:Str)|Vv (b:Array UInt8)|Th (b:UInt64)|ref (a:cG)|ty (n:String)
 deriving DecidableEq
noncomputable def RelV:V->cy->Prop
 |.eU,u=>u=Value.none
 |.bl b,u=>u=Value.bool b
 |.int i,u=>∃t,u=Value.int i t
 |.str x,u=>∃t,u=Value.str x t
 |.Vv b,u=>∃t,u=Value.bytes b t
 |.Th b,u=>∃t,u=Value.float b t
 |.ref a,u=>u=Value.ref a
 |.ty n,u=>u=Value.type n
abbrev Vals:List V->cx->Prop:=Paired RelV
theorem Vals.length (r:Vals xs us):xs.length=us.length:=Paired.length r
theorem Vals.get:∀{xs:List V}{us:cx}{i:Nat}{x:V},Vals xs us->xs[i]? =some x->∃u,us[i]? =some u/\RelV x u
 |_,_,_,_,.nil,e=>by simp at e
 |_,_,0,_,.cons r _,e=>by simp at e;subst e;exact⟨_,rfl,r⟩
 |_,_,i+1,x,.cons _ t,e=>by
  obtain⟨u,h1,h2⟩:=Vals.get (i:=i) (x:=x) t (by simpa using e)
  exact⟨u,by simpa using h1,h2⟩
theorem Vals.append:∀{xs ys:List V}{us ws:cx},Vals xs us->Vals ys ws->Vals (xs++ys) (us++ws)
 |_,_,_,_,.nil,s=>s
 |_,_,_,_,.cons r t,s=>.cons r (Vals.append t s)
theorem Vals.take:∀{xs:List V}{us:cx}(n:Nat),Vals xs us->Vals (xs.take n) (us.take n)
 |_,_,0,_=>.nil
 |_,_,_+1,.nil=>.nil
 |_,_,n+1,.cons r t=>.cons r (Vals.take n t)
theorem Vals.drop:∀{xs:List V}{us:cx}(n:Nat),Vals xs us->Vals (xs.drop n) (us.drop n)
 |_,_,0,r=>r
 |_,_,_+1,.nil=>.nil
 |_,_,n+1,.cons _ t=>Vals.drop n t
def rF:Option V->Option cy->Prop
 |some v,some u=>RelV v u
 |none,none=>True
 |_,_=>False
def KV {κ:Type}:List (κ×V)->List (κ×cy)->Prop:=Paired λ(p:κ×V) (q:κ×cy)=>p.1=q.1/\RelV p.2 q.2
noncomputable def kV:Key->V
 |.inl i=>.int i
 |.inr x=>.str x
inductive HO where
 |lst (xs:List V)
 |tup (xs:List V)
 |dK (kvs:List (Key×V))|dT (kvs:List (List Key×V))
 |set (S:Int->Bool) (n:Nat)
 |ins (C dx:cG) (fs:List (Str×V))
 |own (x:cG)
 |xd (fs:List (Str×V))
 |met (f x:cG)
 |Ml (lo hi:Int)
 |yT (o:Obj) (u:HO)
 |Hr (ps:Array cy)
 |ext (φ:Heap->Prop)
noncomputable abbrev Hp:=cG->Option HO
noncomputable def upd (H:Hp) (a:cG) (o:HO):Hp:=λb=>if b=a then some o else H b
def dh:upd H a o a=some o:=by unfold upd;rw[if_pos rfl]
def dg (h:b≠a):upd H a o b=H b:=by unfold upd;rw[if_neg h]
def VT {H:Hp}(h:H a=some o) (h':H b=some u) (d:o≠u):a≠b:=by
 intro e;subst e;rw[h]at h';exact d (aS h')
def dB {H:Hp}{o:HO}(h:H a=some o) (h':H b=none):a≠b:=by
 intro e;subst e;rw[h]at h';cases h'
noncomputable def Bk (pos:Pos) (qual:Str):Array cy:=#[.int pos.line 0,.int pos.col 0,.str qual 0]
def Cb (H:Hp) (h:Heap) (a:cG) (ps:Array cy):Prop:=
 ∃qs:Array cy,h.get? a=some {cls:=.none,data:=.fields qs}/\TriplesOk qs.toList/\∃pos qual more,ps=Bk pos qual++more/\
  (codeAmong pos qs.toList=none\/∃c oc vs t,codeAmong pos qs.toList=some (.ref c)/\H c=some (.yT oc (.own 0))/\oc.data=.fields vs/\vs[1]? =some (.str qual t))
def KR (K:W.Frag) (mg:cg) (base:Heap) (H:Hp):Prop:=∀x c Pt pos qual,(x,pos,qual)∈yk->W.tabIn K x=some (c,Pt)->(∃more,H Pt=some (.Hr (Bk pos qual++more)))/\W.CodeHd base c Pt/\base.BuiltinsAt mg Pt
section
variable (P:cC) (w:cD)
def gO (H:Hp) (h:Heap) (a:cG):HO->Prop
 |.lst xs=>xs.length<=sizeLine/\∃(dE:cx) (n:Nat),Vals xs dE/\h.get? a=some {cls:=.type "list",data:=.seq dE.toArray n}
 |.tup xs=>xs.length<=sizeLine/\∃dE:cx,Vals xs dE/\IsTup h a dE.toArray
 |.dK kvs=>kvs.length<=sizeLine/\(a==sysModules)=false/\∃vs,KV kvs vs/\h.DictOf (fT P w) a vs
 |.dT kvs=>kvs.length<=sizeLine/\(a==sysModules)=false/\∃xs:List (List Key×cG×cy),
   Paired (λ(p:List Key×V) (q:List Key×cG×cy)=>p.1=q.1/\H q.2.1=some (.tup (p.1.map kV))/\RelV p.2 q.2.2) kvs xs/\
   ∃o es ep,h.get? a=some o/\o.ExactDict/\o.data=.dict es ep/\es.toList=xs.map (entryOfKey (tupleKind (fT P w)))/\(xs.map (·.1)).Nodup
 |.set S n=>h.SetOf (intKind P w) a S n
 |.ins C dx fs=>H dx=some (.own a)/\fs.length<=1000/\dx≠a/\h.get? a=some (W.instObj C dx)/\
   ∃mA,h.Ns1 dx mA/\(∀f,rF (fs.lookup f) (mA f))/\PySem.Within mA (fs.map (·.1))
 |.own _=>∃o,h.get? a=some o
 |.xd fs=>∃mA,h.Ns1 a mA/\∀f,rF (fs.lookup f) (mA f)
 |.Ml lo hi=>∃t u v,h.get? a=some {cls:=.type "range",data:=.fields #[.int lo t,.int hi u,.int 1 v]}
 |.yT o u=>h.get? a=some o/\gO H h a u
 |.Hr ps=>Cb H h a ps
 |.met f x=>h.get? a=some (W.methodObj (.ref f) (.ref x))
 |.ext φ=>φ h/\(∃o,h.get? a=some o)/\∀h1 h2:Heap,φ h1->(∀o,h1.get? a=some o->h2.get? a=some o)->φ h2
def ua (H:Hp) (h:Heap):Prop:=∀a o,H a=some o->gO P w H h a o
end
section
variable {P:cC}{w:cD}{H H':Hp}{h h':Heap}{a:cG}{o:HO}
theorem gO.lt (x:gO P w H h a o):a<h.objs.size:=by
 cases o with
 |lst xs=>obtain⟨_,_,_,_,e⟩:=x;exact aB e
 |tup xs=>obtain⟨_,_,_,p⟩:=x;exact p.lt
 |dK kvs=>obtain⟨_,_,_,_,o,_,_,e,_⟩:=x;exact aB e
 |dT kvs=>obtain⟨_,_,_,_,o,_,_,e,_⟩:=x;exact aB e
 |set S n=>obtain⟨o,_,_,_,e,_⟩:=x;exact aB e
 |ins C dx fs=>obtain⟨_,_,_,e,_⟩:=x;exact aB e
 |own y=>obtain⟨_,e⟩:=x;exact aB e
 |xd fs=>obtain⟨_,⟨_,_,_,e,_⟩,_⟩:=x;exact aB e
 |Ml lo hi=>obtain⟨_,_,_,e⟩:=x;exact aB e
 |yT ob u=>obtain⟨e,_⟩:=x;exact aB e
 |Hr ps=>obtain⟨_,e,_⟩:=(show Cb H h a ps from x);exact aB e
 |met f y=>exact aB (show h.get? a=some _ from x)
 |ext φ=>obtain⟨_,⟨_,e⟩,_⟩:=x;exact aB e
theorem Paired.Ti {F G:α->β->Prop}:∀{l₁:List α}{l₂:List β},Paired F l₁ l₂->(∀a b,F a b->G a b)->Paired G l₁ l₂
 |_,_,.nil,_=>.nil
 |_,_,.cons r t,f=>.cons (f _ _ r) (Paired.Ti t f)
def gO.Hs (x:gO P w H h a o) (k:∀b u,(b=a\/H b=some (.own a))->h.get? b=some u->h'.get? b=some u)
  (ho:∀b,H b=some (.own a)->H' b=some (.own a)) (ht:∀b xs,H b=some (.tup xs)->H' b=some (.tup xs)) (hz:∀b ob u,H b=some (.yT ob u)->H' b=some (.yT ob u):=by intro b ob u q;first|exact q|exact(dg (dB q (by assumption))).trans q):gO P w H' h' a o:=by
 induction o with
 |lst xs=>obtain⟨z,dE,n,r,e⟩:=x;exact⟨z,dE,n,r,k _ _ (.inl rfl) e⟩
 |tup xs=>obtain⟨z,dE,r,ob,e,c⟩:=x;exact⟨z,dE,r,ob,k _ _ (.inl rfl) e,c⟩
 |dK kvs=>obtain⟨z,y,vs,r,ob,es,ep,e,c⟩:=x;exact⟨z,y,vs,r,ob,es,ep,k _ _ (.inl rfl) e,c⟩
 |dT kvs=>
  obtain⟨z,y,xs,r,ob,es,ep,e,c⟩:=x;exact⟨z,y,xs,Paired.Ti r λp q z=>⟨z.1,ht _ _ z.2.1,z.2.2⟩,ob,es,ep,k _ _ (.inl rfl) e,c⟩
 |set S n=>obtain⟨ob,es,ep,t,e,c⟩:=x;exact⟨ob,es,ep,t,k _ _ (.inl rfl) e,c⟩
 |ins C dx fs=>
  obtain⟨d,z,ne,e,mA,⟨od,es,ep,e2,c⟩,r⟩:=x;exact⟨ho _ d,z,ne,k _ _ (.inl rfl) e,mA,⟨od,es,ep,k _ _ (.inr d) e2,c⟩,r⟩
 |own y=>obtain⟨ob,e⟩:=x;exact⟨ob,k _ _ (.inl rfl) e⟩
 |xd fs=>obtain⟨mA,⟨od,es,ep,e,c⟩,r⟩:=x;exact⟨mA,⟨od,es,ep,k _ _ (.inl rfl) e,c⟩,r⟩
 |Ml lo hi=>obtain⟨t,u,v,e⟩:=x;exact⟨t,u,v,k _ _ (.inl rfl) e⟩
 |yT ob u ih=>obtain⟨e,q⟩:=x;exact⟨k _ _ (.inl rfl) e,ih q⟩
 |Hr ps=>
  obtain⟨qs,e,tr,pos,qual,more,eq,r⟩:=(show Cb H h a ps from x)
  exact⟨qs,k _ _ (.inl rfl) e,tr,pos,qual,more,eq,r.imp id λ⟨c,oc,vs,tt,q1,q2,q3⟩=>⟨c,oc,vs,tt,q1,hz _ _ _ q2,q3⟩⟩
 |met f y=>
  have e:h.get? a=some (W.methodObj (.ref f) (.ref y)):=x;show h'.get? a=some (W.methodObj (.ref f) (.ref y));exact k a _ (.inl rfl) e
 |ext φ=>obtain⟨p,⟨o,e⟩,st⟩:=x;exact⟨st _ _ p λo q=>k _ _ (.inl rfl) q,⟨o,k _ _ (.inl rfl) e⟩,st⟩
theorem ua.lt (x:ua P w H h) (e:H a=some o):a<h.objs.size:=(x a o e).lt
def ua.fresh (x:ua P w H h) (e:h.objs.size<=a):H a=none:=by
 cases q:H a with
 |none=>rfl
 |some u=>exact absurd (aw (x.lt q) e) (Nat.lt_irrefl _)
def ua.kept (x:ua P w H h) (k:∀b u,h.get? b=some u->h'.get? b=some u):ua P w H h':=λa o e=>
 (x a o e).Hs (λb u _ q=>k b u q) (λ_ q=>q) λ_ _ q=>q
def ua.laid (x:ua P w H h) (k:∀b u,h.get? b=some u->h'.get? b=some u) (hp:h.objs.size<=a) (new:gO P w (upd H a o) h' a o):ua P w (upd H a o) h':=λb u e=>by
 have hn:=x.fresh hp;by_cases hb:b=a
 ·subst hb;rw[dh]at e;cases e;exact new
 ·rw[dg hb]at e;exact(x b u e).Hs (λc v _ q=>k c v q) (λc q=>by rw[dg (dB q hn)];exact q) λc xs q=>by rw[dg (dB q hn)];exact q
end
def Rd (H:Hp) (a:cG) (u:HO):Prop:=H a=some u\/∃o,H a=some (.yT o u)
def Rd.ok {w:cD}{H:Hp}{h:Heap}{a:cG}{u:HO}(r:Rd H a u) (x:ua P w H h):gO P w H h a u:=by
 rcases r with r|⟨o,r⟩
 ·exact x a u r
 ·obtain⟨_,q⟩:=x a _ r;exact q
noncomputable def VU:Option HO->Prop
 |some (.lst _)=>True
 |some (.dK _)=>True
 |some (.dT _)=>True
 |some (.set _ _)=>True
 |some (.ins _ _ _)=>True
 |some (.ext _)=>True
 |_=>False
section
variable {P:cC}{w:cD}{H:Hp}{h h':Heap}{x e:cG}{o':HO}
def ua.write (ok:ua P w H h) (mu:VU (H x)) (he:e=x\/H e=some (.own x)) (k:∀b u,b≠e->h.get? b=some u->h'.get? b=some u) (Vw:∃u,h'.get? e=some u)
  (new:gO P w (upd H x o') h' x o'):ua P w (upd H x o') h':=λb u q=>by
 have VV:∀c y,H c=some (.own y)->c≠x:=λc y r z=>by subst z;rw[r]at mu;exact mu
 have Y1:∀c xs,H c=some (.tup xs)->c≠x:=λc xs r z=>by subst z;rw[r]at mu;exact mu
 by_cases hb:b=x
 ·subst hb;rw[dh]at q;cases q;exact new
 ·rw[dg hb]at q;by_cases Tj:b=e
  ·have q':H b=some (.own x):=by
    rcases he with z|z
    ·exact absurd (Tj.trans z) hb
    ·rw[Tj];exact z
   rw[q]at q';cases q';obtain⟨v,hv⟩:=Vw;exact⟨v,by rw[Tj];exact hv⟩
  ·refine(ok b u q).Hs (λc v hc r=>k c v ?_ r) (λc r=>by rw[dg (VV c b r)];exact r) (λc xs r=>by rw[dg (Y1 c xs r)];exact r) λc ob' u' r=>(dg (λz=>by subst z;rw[r]at mu;exact mu)).trans r
   rcases hc with rfl|hc
   ·exact Tj
   ·rintro rfl
    rcases he with z|z
    ·exact VV c b hc z
    ·rw[hc]at z;cases z;exact hb rfl
end
structure Un (fs ex:List cG) (H H':Hp) (h h':Heap):Prop where
 keep:∀b o,h.get? b=some o->H b=none->b∉fs->b∉ex->h'.get? b=some o
 slot:∀b o,h.get? b=some o->H b=none->b∈fs->b∉ex->∃sl,h'.get? b=some {o with slots:=sl}
 free:∀b o,h.get? b=some o->H b=none->b∉ex->H' b=none
 there:∀b o,h.get? b=some o->b∉ex->∃o',h'.get? b=some o'
 g0:∀b xs,H b=some (.tup xs)->H' b=some (.tup xs)
 Du:∀b o u,H b=some (.yT o u)->H' b=some (.yT o u)
 Bl:∀b ps,H b=some (.Hr ps)->∃more,H' b=some (.Hr (ps++more))
section
variable {fs ex:List cG}{H H1:Hp}{h h1 h':Heap}{a x e:cG}{o:HO}
def Un.any (u:Un fs ex H H1 h h1) (q:h.get? b=some ob) (n:H b=none) (hx:b∉ex):∃sl,h1.get? b=some {ob with slots:=sl}:=by
 by_cases hb:b∈fs
 ·exact u.slot b ob q n hb hx
 ·exact⟨ob.slots,u.keep b ob q n hb hx⟩
def Un.kept (k:∀b u,h.get? b=some u->h'.get? b=some u):Un fs ex H H h h':=
 ⟨λb ob q _ _ _=>k b ob q,λb ob q _ _ _=>⟨ob.slots,k b ob q⟩,λ_ _ _ n _=>n,λb ob q _=>⟨ob,k b ob q⟩,λ_ _ q=>q,λ_ _ _ q=>q,λ_ ps q=>⟨#[],by rw[q];simp⟩⟩
def Un.refl:Un fs ex H H h h:=Un.kept λ_ _ q=>q
def Un.laid (k:∀b u,h.get? b=some u->h'.get? b=some u) (hp:h.objs.size<=a) (hn:H a=none):Un fs ex H (upd H a o) h h' where
 keep:=λb u q _ _ _=>k b u q
 slot:=λb u q _ _ _=>⟨u.slots,k b u q⟩
 free:=λb u q n _=>by rw[dg (aE (aw (aB q) hp))];exact n
 there:=λb u q _=>⟨u,k b u q⟩
 g0:=λb xs q=>by rw[dg (dB q hn)];exact q
 Du:=λb u xs q=>by rw[dg (dB q hn)];exact q
 Bl:=λb ps q=>⟨#[],by rw[dg (dB q hn),q];simp⟩
def Un.write (mu:VU (H x)) (he:e=x\/H e=some (.own x)) (k:∀b u,b≠e->h.get? b=some u->h'.get? b=some u) (Vw:∃u,h'.get? e=some u):Un fs ex H (upd H x o) h h':=by
 have hx:∀b,H b=none->b≠x:=λb n z=>by subst z;rw[n]at mu;exact mu
 have hb:∀b,H b=none->b≠e:=λb n z=>by
  subst z;rcases he with r|r
  ·exact hx b n r
  ·rw[n]at r;cases r
 have hm:∀b u,H b=some u->¬ VU (some u)->b≠x:=λb u q nm z=>by subst z;rw[q]at mu;exact nm mu
 refine⟨λb u q n _ _=>k b u (hb b n) q,λb u q n _ _=>⟨u.slots,k b u (hb b n) q⟩,λb u q n _=>by rw[dg (hx b n)];exact n,λb u q _=>?_,
  λb xs q=>by rw[dg (hm b _ q λz=>z)];exact q,λb u xs q=>by rw[dg (hm b _ q λz=>z)];exact q,λb ps q=>⟨#[],by rw[dg (hm b _ q λz=>z),q];simp⟩⟩
 by_cases Tj:b=e
 ·subst Tj;exact Vw
 ·exact⟨u,k b u Tj q⟩
end
noncomputable def Yo (h:Heap) (H:Hp):List cG:=(List.range h.objs.size).filter λa=>(H a).isSome
def Bm (h:Heap) (H:Hp):Heap:=W.hideAll h (Yo h H)
def KS (h:Heap) (H:Hp):(Bm h H).objs.size=h.objs.size:=W.hideAll_size _ _
def Mv {h:Heap}{H:Hp}{o:Obj}(e:h.get? b=some o) (n:H b=none):(Bm h H).get? b=some o:=
 W.hideAll_get _ e λhm=>by
  have q:(H b).isSome=true:=(mem_filter.mp hm).2;rw[n]at q;simp at q
def Qm (e:(Bm h H).get? b=some o):h.get? b=some o/\H b=none:=by
 have e':h.get? b=some o:=W.of_hideAll (Yo h H) e;refine⟨e',?_⟩;cases q:H b with
 |none=>rfl
 |some x=>
  have hm:b∈Yo h H:=mem_filter.mpr ⟨mem_range.mpr (aB e'),by simp[q]⟩
  have z:(Bm h H).get? b=none:=W.hideAll_none (Yo h H) hm;rw[z]at e;cases e
noncomputable def my (g h:Heap) (L:cG):cj:=(List.range h.objs.size).filterMap λa=>if a=L\/(g.get? a).isSome=true then none else(h.get? a).map λo=>(a,o)
def xM (h1:a≠L) (h2:g.get? a=none) (h3:h.get? a=some o):(a,o)∈my g h L:=
 mem_filterMap.mpr ⟨a,mem_range.mpr (aB h3),by simp[h1,h2,h3]⟩
def yU (hp:p∈my g h L):p.1≠L/\g.get? p.1=none/\h.get? p.1=some p.2:=by
 obtain⟨b,_,e⟩:=mem_filterMap.mp hp;split at e
 ·cases e
 ·rename_i hn;cases q:h.get? b with
  |none=>rw[q]at e;simp at e
  |some u=>
   rw[q]at e;simp only[bA,Option.some.injEq]at e;subst e;refine⟨λz=>hn (.inl z),?_,q⟩
   show g.get? b=none;cases r:g.get? b with
   |none=>rfl
   |some v=>exact(hn (.inr (by simp[r]))).elim
def yV {L:cG}:News g L h (my g h L):=λp hp=>let ⟨a,b,c⟩:=yU hp;⟨c,a,b⟩
structure Mod (K:W.Frag) (mg:cg) (base:Heap):Prop where
 VW:K.In base
 glob:base.Ns mainGlobals mg
 blt:∃mb,base.Ns builtinsNs mb/\∀x:Str,x≠"__name__"->mb x=bootBuiltins x
 nolimit:base.NoLimit
structure Cx where
 prog:cC
 w:cD
 K:W.Frag
 mg:cg
 base:Heap
 A:cE
 N:List Str
 s₀:cA
 H₀:Hp
 env:Env
 outer:List Env
 stack:List Env
 ex:List cG
 fn:Str->Bool
 calm:Bool
 pn:cj
 xe:cf
noncomputable def JA (l:List Env):List cG:=l.filterMap (·.frame)
abbrev Cx.fs (X:Cx):List cG:=JA X.outer
def Vx (sc:Scope) (x:Str):Prop:=sc.names.lookup x=some .local\/sc.names.lookup x=some .cell\/sc.names.lookup x=some .free
def Loc (sc:Scope) (x:Str):Prop:=sc.names.lookup x=some .local\/sc.names.lookup x=some .cell
def Look (env:Env) (h:Heap) (m:cg) (x:Str) (u:cy):Prop:=
 (env.kindOf x=some .local/\m x=some u)\/((env.kindOf x=some .cell\/env.kindOf x=some .free)/\∃c,env.cells.lookup x=some c/\h.IsCell c (some u))
structure Cx.Ok (X:Cx):Prop where
 mod:Mod X.K X.mg X.base
 kind:X.env.scope.kind=.function
 glob:X.env.globals=mainGlobals
 blt:X.env.builtins=builtinsNs
 above:X.s₀.heap.objs.size<=X.env.locals
 inj:∀x y c,X.env.cells.lookup x=some c->X.env.cells.lookup y=some c->x=y
 has:∀x,(X.env.kindOf x=some .cell\/X.env.kindOf x=some .free)->∃c,X.env.cells.lookup x=some c
 VX:∀x c,X.fn x=true->X.env.cells.lookup x=some c->X.s₀.heap.objs.size<=c
 hd:X.calm=true->X.A.handled=none
 frames:X.A.frames=some X.stack
 Yp:X.stack=X.outer\/(X.stack=X.env::X.outer/\X.env.frame=some X.env.locals)
 exf:∀b∈X.ex,b≠X.env.locals/\∀x c,X.env.cells.lookup x=some c->c≠b
 bs:∀b o,X.base.get? b=some o->X.s₀.heap.get? b=some o/\X.H₀ b=none
 P7:X.base.objs.size<=X.s₀.heap.objs.size
 Mw:∀b o,X.base.get? b=some o->b∉X.ex
 Qn:∀b∈X.ex,b∉X.fs
 ym:X.s₀.heap.FunFrames X.base X.outer
 Tn:∀b∈X.fs,X.H₀ b=none
 tb:KR X.K X.mg X.base X.H₀
structure Inv (X:Cx) (cM:cj) (σ:List (Option V)) (H:Hp) (s:cA):Prop where
 ok:X.Ok
 os:s.os=X.s₀.os
 bare:AllBare s.gens
 base:Un X.fs X.ex X.H₀ H X.s₀.heap s.heap
 loc:∃m,s.heap.Ns X.env.locals m/\∀(i:Nat) (x:Str) (v:V),X.N[i]? =some x->σ[i]? =some (some v)->Vx X.env.scope x->∃u,RelV v u/\Look X.env s.heap m x u
 cell:∀x c,X.env.cells.lookup x=some c->∃v,s.heap.IsCell c v
 free:H X.env.locals=none
 rG:∀x c,X.env.cells.lookup x=some c->H c=none
 pin:∀p∈X.pn++cM,s.heap.get? p.1=some p.2/\H p.1=none/\p.1≠X.env.locals/\p.1∉X.fs/\∀v,p.2.data≠.cell v
 gk:ua X.prog X.w H s.heap
 len:σ.length=X.N.length
section
variable {X:Cx}{cM:cj}{σ:List (Option V)}{H H':Hp}{s:cA}{h':Heap}
theorem Cx.Ok.Y2 (ok:X.Ok) (e:X.base.get? b=some o):b∉X.fs:=λhb=>by
 have:=(ok.ym.mem hb).1;rw[e]at this;cases this
theorem Inv.bs (I:Inv X cM σ H s):∀b o,X.base.get? b=some o->s.heap.get? b=some o/\H b=none:=λb o e=>
 ⟨I.base.keep b o (I.ok.bs b o e).1 (I.ok.bs b o e).2 (I.ok.Y2 e) (I.ok.Mw b o e),I.base.free b o (I.ok.bs b o e).1 (I.ok.bs b o e).2 (I.ok.Mw b o e)⟩
theorem Inv.bk (I:Inv X cM σ H s):∀b o,X.base.get? b=some o->s.heap.get? b=some o:=λb o e=>(I.bs b o e).1
theorem Inv.mod (I:Inv X cM σ H s):Mod X.K X.mg X.base:=I.ok.mod
theorem Inv.yA (I:Inv X cM σ H s):X.K.In s.heap:=I.ok.mod.VW.keeps I.bk
theorem Inv.nolimit (I:Inv X cM σ H s):s.heap.NoLimit:=I.ok.mod.nolimit.keeps I.bk
theorem Inv.fr (I:Inv X cM σ H s):∃m,Fr X.base X.env.locals s.heap m:=
 let ⟨m,hn,_⟩:=I.loc
 ⟨m,hn,I.bk,aD I.ok.P7 I.ok.above⟩
theorem Inv.lt (I:Inv X cM σ H s):X.env.locals<s.heap.objs.size:=let ⟨_,hn,_⟩:=I.loc;hn.lt
theorem Inv.sz (I:Inv X cM σ H s):X.s₀.heap.objs.size<=s.heap.objs.size:=aD I.ok.above (bg I.lt)
theorem Inv.Y3 (I:Inv X cM σ H s) (h:s.heap.objs.size<=a):a∉X.fs:=λhb=>by
 obtain⟨_,o,ho,_⟩:=I.ok.ym.mem hb;exact absurd (aw (aB ho) (aD I.sz h)) (Nat.lt_irrefl _)
theorem Inv.To (I:Inv X cM σ H s):∀x c,X.env.cells.lookup x=some c->c≠X.env.locals:=λx c e z=>by
 obtain⟨v,o,ho,hd⟩:=I.cell x c e;obtain⟨m,⟨o',es,ep,Mm,R7,_⟩,_⟩:=I.loc;rw[z,Mm]at ho;cases ho;rw[R7]at hd;cases hd
theorem Inv.ym (I:Inv X cM σ H s):s.heap.FunFrames X.base X.outer:=by
 have all:∀(l:List Env),(∀b∈JA l,b∈X.fs)->X.s₀.heap.FunFrames X.base l->s.heap.FunFrames X.base l:=by
  intro l;induction l with
  |nil=>intro _ _;trivial
  |cons env r ih=>
   intro hs hl;obtain⟨hk,⟨L,o,hf,hn,ho,hd⟩,hr⟩:=hl;have hL:L∈X.fs:=hs L (by unfold JA;rw[filterMap_cons,hf];exact af)
   obtain⟨sl,e⟩:=I.base.slot L o ho (I.ok.Tn L hL) hL λz=>I.ok.Qn L z hL
   exact⟨hk,⟨L,_,hf,hn,e,hd⟩,ih (λb hb=>hs b (by unfold JA;rw[filterMap_cons,hf];exact ai _ hb)) hr⟩
 exact all X.outer (λ_ hb=>hb) I.ok.ym
theorem Inv.stack (I:Inv X cM σ H s):s.heap.FunFrames X.base X.stack:=by
 rcases I.ok.Yp with e|⟨e,hf⟩
 ·rw[e];exact I.ym
 ·rw[e];obtain⟨m,hn,_⟩:=I.loc;refine .cons (by rw[I.ok.kind];decide) hf hn ?_ I.ym
  exact Heap.get?_none_of_le (aD I.ok.P7 I.ok.above)
theorem Inv.Dv (I:Inv X cM σ H s):∀b∈JA X.stack,b∈X.env.locals::X.fs:=λb hb=>by
 rcases I.ok.Yp with e|⟨e,hf⟩
 ·rw[e]at hb;exact ai _ hb
 ·rw[e]at hb;unfold JA at hb;rw[filterMap_cons,hf]at hb;exact hb
theorem Inv.JB (I:Inv X cM σ H s):∀b∈JA X.stack,H b=none:=λb hb=>by
 rcases mem_cons.mp (I.Dv b hb)with e|hb
 ·rw[e];exact I.free
 ·obtain⟨_,o,ho,_⟩:=I.ok.ym.mem hb;exact I.base.free b o ho (I.ok.Tn b hb) λz=>I.ok.Qn b z hb
theorem Inv.step {t':Nat}{d':Drawn}{ch:List cG}(I:Inv X cM σ H s) (P8:∀b∈ch,(b∈X.ex\/X.s₀.heap.objs.size<=b)/\b≠X.env.locals/\(∀x c,X.env.cells.lookup x=some c->c≠b)/\∀p∈X.pn++cM,p.1≠b) (keep:∀b o,b≠X.env.locals->b∉X.fs->b∉ch->s.heap.get? b=some o->H b=none->h'.get? b=some o) (slot:∀b o,b≠X.env.locals->b∈X.fs->b∉ch->s.heap.get? b=some o->H b=none->∃sl,h'.get? b=some {o with slots:=sl}) (free:∀b o,b∉ch->s.heap.get? b=some o->H b=none->H' b=none) (there:∀b o,b∉ch->s.heap.get? b=some o->∃o',h'.get? b=some o') (g0:∀b xs,H b=some (.tup xs)->H' b=some (.tup xs)) (Du:∀b o u,H b=some (.yT o u)->H' b=some (.yT o u)) (Bl:∀b ps,H b=some (.Hr ps)->∃more,H' b=some (.Hr (ps++more))) (ns:∀m,s.heap.Ns X.env.locals m->h'.Ns X.env.locals m) (gk:ua X.prog X.w H' h') (hg:AllBare g'):Inv X cM σ H' {s with heap:=h',gens:=g',drawn:=d',toks:=t'}:=by
 have neL:∀b o,X.s₀.heap.get? b=some o->b≠X.env.locals:=λb o e=>aE (aw (aB e) I.ok.above)
 have Yq:∀b o,X.s₀.heap.get? b=some o->b∉X.ex->b∉ch:=λb o e hx hb=>by
  rcases(P8 b hb).1 with z|z
  ·exact hx z
  ·exact absurd (aw (aB e) z) (Nat.lt_irrefl _)
 have cellK:∀x c,X.env.cells.lookup x=some c->∀v,s.heap.IsCell c v->h'.IsCell c v:=λx c e v ⟨o,ho,hd⟩=>by
  have VY:c∉ch:=λz=>(P8 c z).2.2.1 x c e rfl
  by_cases hc:c∈X.fs
  ·obtain⟨sl,q⟩:=slot c o (I.To x c e) hc VY ho (I.rG x c e);exact⟨_,q,hd⟩
  ·exact⟨o,keep c o (I.To x c e) hc VY ho (I.rG x c e),hd⟩
 refine⟨I.ok,I.os,hg,⟨λb o e n hb hx=>?_,λb o e n hb hx=>?_,λb o e n hx=>?_,λb o e hx=>?_,λb xs e=>g0 b xs (I.base.g0 b xs e),λb o xs e=>Du b o xs (I.base.Du b o xs e),λb ps e=>?_⟩,?_,λx c e=>?_,?_,λx c e=>?_,λp hp=>?_,gk,I.len⟩
 ·exact keep b o (neL b o e) hb (Yq b o e hx) (I.base.keep b o e n hb hx) (I.base.free b o e n hx)
 ·obtain⟨sl,e1⟩:=I.base.slot b o e n hb hx;obtain⟨sl',e2⟩:=slot b _ (neL b o e) hb (Yq b o e hx) e1 (I.base.free b o e n hx);exact⟨sl',e2⟩
 ·obtain⟨o',e1⟩:=I.base.there b o e hx;exact free b o' (Yq b o e hx) e1 (I.base.free b o e n hx)
 ·obtain⟨o',e1⟩:=I.base.there b o e hx;exact there b o' (Yq b o e hx) e1
 ·obtain⟨m1,e1⟩:=I.base.Bl b ps e;obtain⟨m2,e2⟩:=Bl b _ e1;exact⟨m1++m2,by rw[e2,Array.append_assoc]⟩
 ·obtain⟨m,hn,hl⟩:=I.loc;refine⟨m,ns m hn,λi x v e1 e2 e3=>?_⟩
  obtain⟨u,r,l⟩:=hl i x v e1 e2 e3;refine⟨u,r,?_⟩;rcases l with l|⟨k,c,e,z⟩
  ·exact .inl l
  ·exact .inr ⟨k,c,e,cellK x c e _ z⟩
 ·obtain⟨v,z⟩:=I.cell x c e;exact⟨v,cellK x c e v z⟩
 ·obtain⟨m,⟨o,_,_,ho,_⟩,_⟩:=I.loc;exact free _ o (λz=>(P8 _ z).2.1 rfl) ho I.free
 ·obtain⟨v,o,ho,hd⟩:=I.cell x c e;exact free c o (λz=>(P8 c z).2.2.1 x c e rfl) ho (I.rG x c e)
 ·obtain⟨e,n,ne,nf,d⟩:=I.pin p hp;have VY:p.1∉ch:=λz=>(P8 p.1 z).2.2.2 p hp rfl
  exact⟨keep p.1 p.2 ne nf VY e n,free p.1 p.2 VY e n,ne,nf,d⟩
theorem Inv.un (I:Inv X cM σ H s) (u:Un X.fs [] H H' s.heap h') (gk:ua X.prog X.w H' h'):Inv X cM σ H' {s with heap:=h',toks:=t'}:=by
 obtain⟨m,⟨o,es,ep,ho,r⟩,_⟩:=id I.loc;obtain⟨sl,hL⟩:=u.any ho I.free (by simp)
 exact I.step (g':=s.gens) (d':=s.drawn) (ch:=[]) (λ_ z=>nomatch z) (λb o _ hb _ e n=>u.keep b o e n hb (by simp)) (λb o _ hb _ e n=>u.slot b o e n hb (by simp)) (λb o _ e n=>u.free b o e n (by simp)) (λb o _ e=>u.there b o e (by simp)) u.g0 u.Du u.Bl (λm' hm=>by
  obtain⟨o',Mx,Tp,Mm,r'⟩:=hm;rw[ho]at Mm;cases Mm;exact⟨_,Mx,Tp,hL,r'⟩) gk I.bare
theorem Inv.call (I:Inv X cM σ H s) (u:Un (JA X.stack) ch H H' s.heap h') (gk:ua X.prog X.w H' h') (hg:AllBare g') (P8:∀b∈ch,(b∈X.ex\/X.s₀.heap.objs.size<=b)/\b≠X.env.locals/\(∀x c,X.env.cells.lookup x=some c->c≠b)/\∀p∈X.pn++cM,p.1≠b):Inv X cM σ H' {s with heap:=h',gens:=g',drawn:=d',toks:=t'}:=by
 obtain⟨m,⟨o,es,ep,ho,r⟩,_⟩:=id I.loc;obtain⟨sl,hL⟩:=u.any ho I.free λz=>(P8 _ z).2.1 rfl
 exact I.step (ch:=ch) P8 (λb o hL hb hc e n=>u.keep b o e n (λz=>(mem_cons.mp (I.Dv b z)).elim hL hb) hc) (λb o _ _ hc e n=>u.any e n hc) (λb o hc e n=>u.free b o e n hc) (λb o hc e=>u.there b o e hc) u.g0 u.Du u.Bl (λm' hm=>by
  obtain⟨o',Mx,Tp,Mm,r'⟩:=hm;rw[ho]at Mm;cases Mm;exact⟨_,Mx,Tp,hL,r'⟩) gk hg
theorem Inv.turned (I:Inv X cM σ H s) (k:∀b o,b≠it->s.heap.get? b=some o->h'.get? b=some o) (hn:H it=none) (hL:it≠X.env.locals) (h1:it∈X.ex\/X.s₀.heap.objs.size<=it) (h2:∀x c,X.env.cells.lookup x=some c->c≠it) (h3:∀p∈X.pn++cM,p.1≠it):Inv X cM σ H {s with heap:=h',toks:=t'}:=by
 have nit:∀b u,H b=some u->b≠it:=λb u e z=>by rw[z,hn]at e;cases e
 refine I.step (g':=s.gens) (d':=s.drawn) (ch:=[it]) (λb hb=>?_) (λb o _ _ hc e _=>k b o (λz=>hc (by simp[z])) e) (λb o _ _ hc e _=>⟨o.slots,k b o (λz=>hc (by simp[z])) e⟩) (λ_ _ _ _ n=>n)
  (λb o hc e=>⟨o,k b o (λz=>hc (by simp[z])) e⟩) (λ_ _ e=>e) (λ_ _ _ e=>e) (λb ps e=>⟨#[],by rw[e];simp⟩) (λm hm=>?_) (λb u e=>?_) I.bare
 ·have e:b=it:=by simpa using hb
  subst e;exact⟨h1,hL,h2,h3⟩
 ·obtain⟨o,es,ep,ho,r⟩:=hm;exact⟨o,es,ep,k _ o (Ne.symm hL) ho,r⟩
 ·refine(I.gk b u e).Hs (λc v hc q=>k c v ?_ q) (λ_ q=>q) λ_ _ q=>q
  rcases hc with z|z
  ·rw[z];exact nit b u e
  ·exact nit c _ z
theorem Inv.tok (I:Inv X cM σ H s) (t:Nat):Inv X cM σ H {s with toks:=t}:=I.un (h':=s.heap) (t':=t) Un.refl I.gk
theorem Inv.kept (I:Inv X cM σ H s) (k:∀b u,s.heap.get? b=some u->h'.get? b=some u):Inv X cM σ H {s with heap:=h',toks:=t'}:=I.un (Un.kept k) (I.gk.kept k)
theorem Inv.laid (I:Inv X cM σ H s) (k:∀b u,s.heap.get? b=some u->h'.get? b=some u) (hp:s.heap.objs.size<=a) (new:gO X.prog X.w (upd H a o) h' a o):Inv X cM σ (upd H a o) {s with heap:=h',toks:=t'}:=I.un (Un.laid k hp (I.gk.fresh hp)) (I.gk.laid k hp new)
theorem Inv.write (I:Inv X cM σ H s) (mu:VU (H x)) (he:e=x\/H e=some (.own x)) (k:∀b u,b≠e->s.heap.get? b=some u->h'.get? b=some u) (Vw:∃u,h'.get? e=some u) (new:gO X.prog X.w (upd H x o) h' x o):Inv X cM σ (upd H x o) {s with heap:=h',toks:=t'}:=I.un (Un.write mu he k Vw) (I.gk.write mu he k Vw new)
theorem Inv.weak (I:Inv X cM σ H s) (hl:σ'.length=σ.length) (w:∀(i:Nat) v,σ'[i]? =some (some v)->σ[i]? =some (some v)):Inv X cM σ' H s:=
 ⟨I.ok,I.os,I.bare,I.base,let ⟨m,hn,pM⟩:=I.loc;⟨m,hn,λi x v e1 e2 e3=>pM i x v e1 (w i v e2) e3⟩,I.cell,I.free,I.rG,I.pin,I.gk,hl.trans I.len⟩
theorem Inv.JC (I:Inv X cM σ H s) (h:∀p∈VZ,s.heap.get? p.1=some p.2/\H p.1=none/\p.1≠X.env.locals/\p.1∉X.fs/\∀v,p.2.data≠.cell v):Inv X VZ σ H s:=
 ⟨I.ok,I.os,I.bare,I.base,I.loc,I.cell,I.free,I.rG,λp hp=>(mem_append.mp hp).elim (λz=>I.pin p (bC _ z)) (h p),I.gk,I.len⟩
theorem yW {N:List Str}(hN:N.Nodup) {i j:Nat}(a:N[i]? =some x) (b:N[j]? =some x):i=j:=by
 obtain⟨h1,e1⟩:=List.getElem?_eq_some_iff.mp a;obtain⟨h2,e2⟩:=List.getElem?_eq_some_iff.mp b;exact(getElem_inj hN).mp (e1.trans e2.symm)
theorem Cc (I:Inv X cM σ H s) (hN:X.N.Nodup) (hi:X.N[i]? =some x) (hx:Loc X.env.scope x) (r:RelV v u) (h:∀s',Inv X cM (σ.set i (some v)) H s'->(∃a,Heap.SameBut a s.heap s'.heap/\(a=X.env.locals\/X.env.cells.lookup x=some a))->Q () s') (hf:X.fn x=true\/X.env.scope.names.lookup x=some .local:=by first|exact .inl rfl|exact .inr rfl|assumption):wpAny M A (storeName X.env x u) Q E s:=by
 obtain⟨m,hn,hl⟩:=id I.loc;have Y4:(X.env.scope.kind==.class||(X.env.scope.kind==.module&&X.env.locals !=X.env.globals))=false:=by rw[I.ok.kind];rfl
 have hiσ:i<σ.length:=by rw[I.len];exact(List.getElem?_eq_some_iff.mp hi).1
 have To:=I.To;have tracked:∀{a:cG}{h':Heap},(∃o,s.heap.get? a=some o/\H a=none)->Heap.SameBut a s.heap h'->ua X.prog X.w H h':=λ{a h'} ha hs b ob e=>by
  obtain⟨_,_,JD⟩:=ha;refine(I.gk b ob e).Hs (λc w' hc q=>(hs.2 c ?_).trans q) (λ_ q=>q) λ_ _ q=>q
  rintro rfl
  rcases hc with rfl|hc
  ·rw[JD]at e;cases e
  ·rw[JD]at hc;cases hc
 rcases hx with hk|hk
 ·refine wpAny_storeName_local hk hn (λh' Hn hs=>?_) Y4
  obtain⟨oL,_,_,E9,_⟩:=id hn;refine h _ ⟨I.ok,I.os,I.bare,⟨λb o e n hb hx=>?_,λb o e n hb hx=>?_,I.base.free,λb o e hx=>?_,I.base.g0,I.base.Du,I.base.Bl⟩,⟨_,Hn,λj y v' e1 e2 e3=>?_⟩,λy c e=>?_,I.free,I.rG,λp hp=>?_,tracked ⟨oL,E9,I.free⟩ hs,by simpa using I.len⟩ ⟨_,hs,.inl rfl⟩
  ·exact(hs.2 b (aE (aw (aB e) I.ok.above))).trans (I.base.keep b o e n hb hx)
  ·obtain⟨sl,e1⟩:=I.base.slot b o e n hb hx;exact⟨sl,(hs.2 b (aE (aw (aB e) I.ok.above))).trans e1⟩
  ·obtain⟨o',e1⟩:=I.base.there b o e hx;exact⟨o',(hs.2 b (aE (aw (aB e) I.ok.above))).trans e1⟩
  ·by_cases hj:j=i
   ·subst hj;rw[hi]at e1;cases e1;rw[bc hiσ]at e2;cases e2;exact⟨u,r,.inl ⟨hk,by simp⟩⟩
   ·rw[aG (Ne.symm hj)]at e2;obtain⟨u',r',q⟩:=hl j y v' e1 e2 e3;refine⟨u',r',?_⟩;rcases q with⟨k,e⟩|⟨k,c,e,z⟩
    ·refine .inl ⟨k,?_⟩;have:y≠x:=λe=>hj (yW hN e1 (e▸hi))
     simp[this,e]
    ·exact .inr ⟨k,c,e,z.sameBut hs (To y c e)⟩
  ·obtain⟨w',z⟩:=I.cell y c e;exact⟨w',z.sameBut hs (To y c e)⟩
  ·obtain⟨e,n,ne,nf,d⟩:=I.pin p hp;exact⟨(hs.2 p.1 ne).trans e,n,ne,nf,d⟩
 ·have R8:X.fn x=true:=by
   rcases hf with z|z
   ·exact z
   ·rw[z]at hk;cases hk
  obtain⟨c,hc⟩:=I.ok.has x (.inl hk);obtain⟨w',z⟩:=I.cell x c hc;refine wpAny_storeName_cell I.ok.kind hk hc z (λh' My hs=>?_)
  obtain⟨oc,Vy,Y5⟩:=id z;refine h {s with heap:=h'} ⟨I.ok,I.os,I.bare,⟨λb o e n hb hx=>?_,λb o e n hb hx=>?_,I.base.free,λb o e hx=>?_,I.base.g0,I.base.Du,I.base.Bl⟩,⟨m,hn.sameBut hs (Ne.symm (To x c hc)),λj y v' e1 e2 e3=>?_⟩,λy c' e=>?_,I.free,I.rG,λp hp=>?_,tracked ⟨oc,Vy,I.rG x c hc⟩ hs,by simpa using I.len⟩ ⟨c,hs,.inr hc⟩
  ·exact(hs.2 b (aE (aw (aB e) (I.ok.VX x c R8 hc)))).trans (I.base.keep b o e n hb hx)
  ·obtain⟨sl,e1⟩:=I.base.slot b o e n hb hx;exact⟨sl,(hs.2 b (aE (aw (aB e) (I.ok.VX x c R8 hc)))).trans e1⟩
  ·obtain⟨o',e1⟩:=I.base.there b o e hx;exact⟨o',(hs.2 b (aE (aw (aB e) (I.ok.VX x c R8 hc)))).trans e1⟩
  ·by_cases hj:j=i
   ·subst hj;rw[hi]at e1;cases e1;rw[bc hiσ]at e2;cases e2;exact⟨u,r,.inr ⟨.inl hk,c,hc,My⟩⟩
   ·rw[aG (Ne.symm hj)]at e2;obtain⟨u',r',q⟩:=hl j y v' e1 e2 e3;refine⟨u',r',?_⟩;rcases q with q|⟨k,c',e,z'⟩
    ·exact .inl q
    ·refine .inr ⟨k,c',e,z'.sameBut hs ?_⟩
     rintro rfl
     exact hj (yW hN e1 (I.ok.inj _ _ _ e hc▸hi))
  ·by_cases Vz:c'=c
   ·subst Vz;exact⟨_,My⟩
   ·obtain⟨w2,z2⟩:=I.cell y c' e;exact⟨w2,z2.sameBut hs Vz⟩
  ·obtain⟨e,n,ne,nf,d⟩:=I.pin p hp;refine⟨(hs.2 p.1 ?_).trans e,n,ne,nf,d⟩;intro q;rw[q,Vy]at e;have q':oc=p.2:=aS e;exact d w' (by rw[<-q'];exact Y5)
theorem Fb (I:Inv X cM σ H s) (hN:X.N.Nodup) (hi:X.N[i]? =some x) (hx:Loc X.env.scope x) (r:RelV v u) (h:∀s',Inv X cM (σ.set i (some v)) H s'->Q () s') (hf:X.fn x=true\/X.env.scope.names.lookup x=some .local:=by first|exact .inl rfl|exact .inr rfl|assumption):wpAny M A (storeName X.env x u) Q E s:=
 Cc I hN hi hx r (λs' I' _=>h s' I') hf
theorem Inv.V0 {ch:List cG}(I:Inv X cM σ H s) (ho:s'.os=s.os) (u:Un (JA X.stack) ch H H' s.heap s'.heap) (gk:ua X.prog X.w H' s'.heap) (hg:AllBare s'.gens) (P8:∀b∈ch,(b∈X.ex\/X.s₀.heap.objs.size<=b)/\b≠X.env.locals/\(∀x c,X.env.cells.lookup x=some c->c≠b)/\∀p∈X.pn++cM,p.1≠b):Inv X cM σ H' s':=by
 obtain⟨h',g',d',t',o'⟩:=s';have e:o'=s.os:=ho;subst e;exact I.call (g':=g') (t':=t') (d':=d') u gk hg P8
end
abbrev XK:=cy->cq->Hp->Prop
noncomputable abbrev St:=List (Option V)
abbrev VK:=V->Hp->Prop
abbrev TE:=St->Hp->VK->Prop
abbrev TT:=St->Hp->(Bool->Hp->Prop)->Prop
abbrev TA:=St->Hp->(List V->Hp->Prop)->Prop
structure Ends where
 nx:St->Hp->Prop
 rt:VK
 bk:St->Hp->Prop:=λ_ _=>False
 ct:St->Hp->Prop:=λ_ _=>False
abbrev TS:=Ends->St->Hp->Prop
def EP (X:Cx) (cM:cj) (σ:St) (Q:VK) (u:cy) (s':cA):Prop:=∃v H',Inv X cM σ H' s'/\RelV v u/\Q v H'
def TP (X:Cx) (cM:cj) (σ:St) (Q:Bool->Hp->Prop) (b:Bool) (s':cA):Prop:=∃H',Inv X cM σ H' s'/\Q b H'
def AP (X:Cx) (cM:cj) (σ:St) (Q:List V->Hp->Prop) (us:cx) (s':cA):Prop:=∃vs H',Inv X cM σ H' s'/\Vals vs us/\Q vs H'
def SP (X:Cx) (cM:cj) (D:Ends) (f:Flow) (s':cA):Prop:=
 match f with
 |.next=>∃σ' H',Inv X cM σ' H' s'/\D.nx σ' H'
 |.brk=>∃σ' H',Inv X cM σ' H' s'/\D.bk σ' H'
 |.cont=>∃σ' H',Inv X cM σ' H' s'/\D.ct σ' H'
 |.ret u=>∃v σ' H',Inv X cM σ' H' s'/\RelV v u/\D.rt v H'
def PE (X:Cx) (e:cH) (t:TE):Prop:=
 ∀(cM:cj) (s:cA) (σ:St) (H:Hp) (Q:VK),Inv X cM σ H s->t σ H Q->wpAny (model X.prog X.w) X.A (eval e X.env) (EP X cM σ Q) X.xe s
def PT (X:Cx) (e:cH) (t:TT):Prop:=
 ∀(cM:cj) (s:cA) (σ:St) (H:Hp) (Q:Bool->Hp->Prop),Inv X cM σ H s->t σ H Q->wpAny (model X.prog X.w) X.A (isTrue e X.env (eval e X.env)) (TP X cM σ Q) X.xe s
def PW (X:Cx) (e:cH) (t:TT):Prop:=
 ∀(whole:Sem cy) (cM:cj) (s:cA) (σ:St) (H:Hp) (Q:Bool->Hp->Prop),Inv X cM σ H s->t σ H Q->wpAny (model X.prog X.w) X.A (isTrue e X.env whole) (TP X cM σ Q) X.xe s
def PW.pt (h:PW X e t):PT X e t:=h _
def PA (X:Cx) (es:List cH) (t:TA):Prop:=
 ∀(pos:Pos) (cM:cj) (s:cA) (σ:St) (H:Hp) (Q:List V->Hp->Prop),Inv X cM σ H s->t σ H Q->wpAny (model X.prog X.w) X.A (spliced (backTo pos (starEach es X.env))) (AP X cM σ Q) X.xe s
def PS (X:Cx) (st:cI) (t:TS):Prop:=
 ∀(cM:cj) (s:cA) (σ:St) (H:Hp) (D:Ends),Inv X cM σ H s->t D σ H->wpAny (model X.prog X.w) X.A (exec st X.env) (SP X cM D) X.xe s
def Dw (X:Cx) (st:List cI) (t:TS):Prop:=
 ∀(cM:cj) (s:cA) (σ:St) (H:Hp) (D:Ends),Inv X cM σ H s->t D σ H->wpAny (model X.prog X.w) X.A (execs st X.env) (SP X cM D) X.xe s
def g7 (h:wpAny M A t Q E s) (hQ:∀a s,Q a s->Q' a s):wpAny M A t Q' E s:=bO h hQ λ_ _ x=>x
section
variable {X:Cx}
noncomputable def lQ (i:Nat):TE:=λσ H Q=>∃v,σ[i]? =some (some v)/\Q v H
noncomputable def tC (v:V):TE:=λ_ H Q=>Q v H
def Ht (hN:X.N[i]? =some x) (hv:Vx X.env.scope x) (hd:(x==("__debug__":Str))=false:=by decide) (yX:(x==("__classdict__":Str))=false:=by decide):PE X (.Name x pos) (lQ i):=by
 intro cM s σ H Q I h;obtain⟨v,e,h⟩:=h;obtain⟨m,hn,hl⟩:=I.loc;obtain⟨u,r,l⟩:=hl i x v hN e hv;have fin:EP X cM σ Q u s:=⟨v,H,I,r,h⟩;rcases l with⟨hk,hm⟩|⟨hk,c,hc,u9⟩
 ·exact wpAny_Name (wpAny_loadName_local I.ok.kind hk hn hm fin) hd
 ·rcases hk with hk|hk
  ·exact wpAny_Name (wpAny_loadName_cell I.ok.kind hk hc u9 fin) hd
  ·exact wpAny_Name (wpAny_loadName_free I.ok.kind hk hc u9 fin yX) hd
def Dx {i j pos}:PE X (.Constant (.int i) j pos) (tC (.int i)):=λ_ _ _ H _ I h=>wpAny_Constant_int ⟨.int i,H,I.tok _,⟨_,rfl⟩,h⟩
def V1 {b j pos}:PE X (.Constant (.bool b) j pos) (tC (.bl b)):=λ_ _ _ H _ I h=>Constant_bool ⟨.bl b,H,I,rfl,h⟩
def Mz {j pos}:PE X (.Constant .none j pos) (tC .eU):=λ_ _ _ H _ I h=>Constant_none ⟨.eU,H,I,rfl,h⟩
def Gl (X:Cx) (x:Str):Prop:=X.env.kindOf x=some .globalImplicit
def Dy (I:Inv X cM σ H s) (hg:Gl X x) (hm:X.mg x=some u) (h:Q u s) (hd:(x==("__debug__":Str))=false:=by decide):wpAny (model X.prog X.w) X.A (eval (.Name x pos) X.env) Q E s:=
 Calls.Name_function_global I.ok.kind hg (Calls.loadGlobal_global (by rw[I.ok.glob];exact I.mod.glob.keeps I.bk) hm h) hd
def kr (I:Inv X cM σ H s) (hg:Gl X x) (hm:X.mg x=none) (hv:bootBuiltins x=some u) (h:Q u s) (hn:x≠"__name__":=by decide) (hd:(x==("__debug__":Str))=false:=by decide):wpAny (model X.prog X.w) X.A (eval (.Name x pos) X.env) Q E s:=by
 obtain⟨mb,h1,h2⟩:=I.mod.blt;exact Calls.Name_function_global I.ok.kind hg (Calls.loadGlobal_builtin (by rw[I.ok.glob];exact I.mod.glob.keeps I.bk) hm (by rw[I.ok.blt];exact h1.keeps I.bk) ((h2 x hn).trans hv) h) hd
def Qo (hg:Gl X x) (hm:X.mg x=some u) (r:RelV v u) (hd:(x==("__debug__":Str))=false:=by decide):PE X (.Name x pos) (tC v):=
 λ_ _ _ H _ I h=>Dy I hg hm ⟨v,H,I,r,h⟩ hd
def Qp (hg:Gl X x) (hm:X.mg x=none) (hv:bootBuiltins x=some u) (r:RelV v u) (hn:x≠"__name__":=by decide) (hd:(x==("__debug__":Str))=false:=by decide):PE X (.Name x pos) (tC v):=
 λ_ _ _ H _ I h=>kr I hg hm hv ⟨v,H,I,r,h⟩ hn hd
variable {a b:cH}{ta tb:TE}{pos:Pos}
def PC (X:Cx) (op:CmpOp) (a b:cH) (t:TE):Prop:=
 ∀(cM:cj) (s:cA) (σ:St) (H:Hp) (Q:VK),Inv X cM σ H s->t σ H Q->
  wpAny (model X.prog X.w) X.A (eval a X.env) (λv s₁=>wpAny (model X.prog X.w) X.A (eval b X.env) (λu s₂=>wpAny (model X.prog X.w) X.A (compareOp op v u) (EP X cM σ Q) X.xe s₂) X.xe s₁) X.xe s
noncomputable def tB (t:TE):TT:=λσ H Q=>t σ H λx H1=>∃c,x=.bl c/\Q c H1
def Tq (h:PE X e t) (he:∀whole,isTrue e X.env whole=(do let v <-whole;standAt e.pos;holding [v] (truthy v)):=by intro _;rfl):PT X e (tB t):=by
 intro cM s σ H Q I hw;refine isTrue_plain (g7 (h cM s σ H _ I hw) λv s1 ⟨x,H1,I1,r1,q1⟩=>?_) (he _)
 obtain⟨d,rfl,q⟩:=q1;cases r1;exact bP ⟨H1,I1,q⟩
variable {tA Yr:TT}{rest:List cH}
noncomputable def V2 (t u:TT):TT:=λσ H Q=>t σ H λc H1=>if c=true then u σ H1 Q else Q false H1
noncomputable def tOr (t u:TT):TT:=λσ H Q=>t σ H λc H1=>if c=true then Q true H1 else u σ H1 Q
noncomputable def Y6 (t:TT):TT:=λσ H Q=>t σ H λc H1=>Q (!c) H1
def MA (ha:PT X a tA):PW X (.BoolOp .Or [a] pos) tA:=by
 intro wh cM s σ H Q I h;refine isTrue_or (g7 (ha cM s σ H Q I h) λc s1 e=>?_)
 cases c with
 |false=>exact isTrue_or_nil e
 |true=>exact e
def Tr (ha:PT X a tA) (hb:PW X (.BoolOp .And (b::rest) pos) Yr):PW X (.BoolOp .And (a::b::rest) pos) (V2 tA Yr):=by
 intro wh cM s σ H Q I h;refine isTrue_and (g7 (ha cM s σ H _ I h) λc s1 ⟨H1,I1,q1⟩=>?_)
 cases c with
 |true=>exact hb wh cM s1 σ H1 Q I1 q1
 |false=>exact⟨H1,I1,q1⟩
def R9 (ha:PT X a tA) (hb:PW X (.BoolOp .Or (b::rest) pos) Yr):PW X (.BoolOp .Or (a::b::rest) pos) (tOr tA Yr):=by
 intro wh cM s σ H Q I h;refine isTrue_or (g7 (ha cM s σ H _ I h) λc s1 ⟨H1,I1,q1⟩=>?_)
 cases c with
 |true=>exact⟨H1,I1,q1⟩
 |false=>exact hb wh cM s1 σ H1 Q I1 q1
def Ts (ha:PT X a tA):PT X (.UnaryOp .Not a pos) (Y6 tA):=by
 intro cM s σ H Q I h;exact isTrue_not (ha cM s σ H (λc H1=>Q (!c) H1) I h)
noncomputable def V3 (ta tb:TE):TE:=λσ H Q=>ta σ H λx H1=>∃c,x=.bl c/\if c=true then tb σ H1 Q else Q (.bl false) H1
def Tt (ha:PE X a ta) (hb:PE X (.BoolOp .And (b::rest) pos) tb):PE X (.BoolOp .And (a::b::rest) pos) (V3 ta tb):=by
 intro cM s σ H Q I h;refine BoolOp_and (g7 (ha cM s σ H _ I h) λv s1 ⟨x,H1,I1,r1,q1⟩=>?_)
 obtain⟨c,rfl,q1⟩:=q1;cases r1;refine bP ?_;cases c with
 |true=>exact hb cM s1 σ H1 Q I1 q1
 |false=>exact⟨.bl false,H1,I1,rfl,q1⟩
noncomputable def tIf (t:TT) (ta tb:TE):TE:=λσ H Q=>t σ H λc H1=>if c=true then ta σ H1 Q else tb σ H1 Q
def MB (hc:PT X c tA) (ha:PE X a ta) (hb:PE X b tb):PE X (.IfExp c a b pos) (tIf tA ta tb):=by
 intro cM s σ H Q I h;refine wpAny_IfExp (g7 (hc cM s σ H _ I h) λd s1 ⟨H1,I1,q1⟩=>?_)
 cases d with
 |true=>exact ha cM s1 σ H1 Q I1 q1
 |false=>exact hb cM s1 σ H1 Q I1 q1
end
def rD (K:W.Frag) (H:Hp) (a:cG) (xs:List V):Prop:=
 Rd H a (.lst xs)\/
  ∃(o:Obj) (dE:Array cy) (n:Nat),K.lookup a=some o/\o.cls=.type "list"/\o.dict=none/\o.data=.seq dE n/\dE.size<=sizeLine/\Vals xs dE.toList
def mB (K:W.Frag) (H:Hp) (a:cG) (xs:List V):Prop:=
 Rd H a (.tup xs)\/
  ∃(o:Obj) (dE:Array cy) (n:Nat),K.lookup a=some o/\o.cls=.type "tuple"/\o.data=.seq dE n/\dE.size<=sizeLine/\Vals xs dE.toList
noncomputable def Y7:cy->Option V
 |.none=>some .eU
 |.bool b=>some (.bl b)
 |.int i _=>some (.int i)
 |.str x _=>some (.str x)
 |.bytes b _=>some (.Vv b)
 |.float b _=>some (.Th b)
 |.ref a=>some (.ref a)
 |.type n=>some (.ty n)
 |_=>none
def RelV.abs (r:RelV x u):Y7 u=some x:=by
 cases x with
 |eU=>cases r;rfl
 |bl _=>cases r;rfl
 |int _=>obtain⟨t,rfl⟩:=r;rfl
 |str _=>obtain⟨t,rfl⟩:=r;rfl
 |Vv _=>obtain⟨t,rfl⟩:=r;rfl
 |Th _=>obtain⟨t,rfl⟩:=r;rfl
 |ref _=>cases r;rfl
 |ty _=>cases r;rfl
def RelV.inj (r:RelV x u) (q:RelV y u):x=y:=aS (r.abs.symm.trans q.abs)
theorem Vals.inj:∀{xs ys:List V}{us:cx},Vals xs us->Vals ys us->xs=ys
 |_,_,_,.nil,.nil=>rfl
 |_,_,_,.cons r t,.cons r' t'=>by rw[r.inj r',Vals.inj t t']
section
variable {X:Cx}{cM:cj}{σ:St}{H:Hp}{s:cA}{a:cG}{xs ys:List V}
def rD.of {K:W.Frag}(h:H a=some (.lst xs)):rD K H a xs:=.inl (.inl h)
def mB.of {K:W.Frag}(h:H a=some (.tup xs)):mB K H a xs:=.inl (.inl h)
def Inv.list (I:Inv X cM σ H s) (h:rD X.K H a xs):∃dE:cx,Vals xs dE/\PlainL s.heap a dE.toArray/\xs.length<=sizeLine:=by
 rcases h with h|⟨o,dE,n,hk,hc,hd,hs,hz,r⟩
 ·obtain⟨z,dE,n,r,e⟩:=h.ok I.gk;exact⟨dE,r,⟨_,n,e,rfl,rfl,rfl⟩,z⟩
 ·refine⟨dE.toList,r,⟨o,n,I.yA a o hk,hc,hd,by simpa using hs⟩,?_⟩
  have e:=r.length;simp only[aN]at e;omega
def Inv.tuple (I:Inv X cM σ H s) (h:mB X.K H a xs):∃dE:cx,Vals xs dE/\IsTup s.heap a dE.toArray/\xs.length<=sizeLine:=by
 rcases h with h|⟨o,dE,n,hk,hc,hs,hz,r⟩
 ·obtain⟨z,dE,r,p⟩:=h.ok I.gk;exact⟨dE,r,p,z⟩
 ·refine⟨dE.toList,r,⟨o,I.yA a o hk,hc,n,by simpa using hs⟩,?_⟩
  have e:=r.length;simp only[aN]at e;omega
def Inv.MC (I:Inv X cM σ H s) (h:rD X.K H a xs) (h':rD X.K H a ys):xs=ys:=by
 obtain⟨dE,r,⟨o,n,e,_,_,d⟩,_⟩:=I.list h;obtain⟨its',r',⟨o',n',e',_,_,d'⟩,_⟩:=I.list h';rw[e]at e';cases e';rw[d]at d';injection d' with d1 _
 have:dE=its':=by simpa using congrArg Array.toList d1
 subst this;exact r.inj r'
def Inv.KU (I:Inv X cM σ H s) (h:mB X.K H a xs) (h':mB X.K H a ys):xs=ys:=by
 obtain⟨dE,r,⟨o,e,_,n,d⟩,_⟩:=I.tuple h;obtain⟨its',r',⟨o',e',_,n',d'⟩,_⟩:=I.tuple h';rw[e]at e';cases e';rw[d]at d';injection d' with d1 _
 have:dE=its':=by simpa using congrArg Array.toList d1
 subst this;exact r.inj r'
end
noncomputable abbrev Cx.Bn (X:Cx) (E:cf):Cx:={X with xe:=E}
abbrev Cx.Hu (X:Cx):Cx:=X.Bn λ_ _=>False
theorem Cx.Ok.Bn {X:Cx}(ok:X.Ok) (E:cf):(X.Bn E).Ok:=
 ⟨ok.mod,ok.kind,ok.glob,ok.blt,ok.above,ok.inj,ok.has,ok.VX,ok.hd,ok.frames,ok.Yp,ok.exf,ok.bs,ok.P7,ok.Mw,ok.Qn,ok.ym,ok.Tn,ok.tb⟩
def Cx.Ok.rH {X:Cx}(ok:(X.Bn E).Ok):X.Ok:=
 ⟨ok.mod,ok.kind,ok.glob,ok.blt,ok.above,ok.inj,ok.has,ok.VX,ok.hd,ok.frames,ok.Yp,ok.exf,ok.bs,ok.P7,ok.Mw,ok.Qn,ok.ym,ok.Tn,ok.tb⟩
section
variable {X:Cx}{cM:cj}{σ:St}{H:Hp}{s:cA}{E:cf}
theorem Inv.Bn (I:Inv X cM σ H s) (E:cf):Inv (X.Bn E) cM σ H s:=⟨I.ok.Bn E,I.os,I.bare,I.base,I.loc,I.cell,I.free,I.rG,I.pin,I.gk,I.len⟩
theorem Inv.rH (I:Inv (X.Bn E) cM σ H s):Inv X cM σ H s:=⟨I.ok.rH,I.os,I.bare,I.base,I.loc,I.cell,I.free,I.rG,I.pin,I.gk,I.len⟩
theorem SP.rH (h:SP (X.Bn E) cM D f s'):SP X cM D f s':=by
 cases f with
 |next=>obtain⟨σ',H',I,q⟩:=h;exact⟨σ',H',I.rH,q⟩
 |brk=>obtain⟨σ',H',I,q⟩:=h;exact⟨σ',H',I.rH,q⟩
 |cont=>obtain⟨σ',H',I,q⟩:=h;exact⟨σ',H',I.rH,q⟩
 |ret u=>obtain⟨v,σ',H',I,r,q⟩:=h;exact⟨v,σ',H',I.rH,r,q⟩
theorem Dw.Hu {st:List cI}(h:Dw X.Hu st t):Dw X st t:=λcM s σ H D I hw=>
 bO (h cM s σ H D (I.Bn _) hw) (λ_ _ q=>q.rH) λ_ _ z=>False.elim z
end
section
variable {X:Cx}{st:cI}{rest:List cI}{t u:TS}{e:cH}{te:TE}{pos:Pos}
noncomputable def V4:TS:=λD σ H=>D.nx σ H
noncomputable def Y8 (t u:TS):TS:=λD σ H=>t {D with nx:=u D} σ H
def Dz:Dw X [] V4:=λ_ _ σ H _ I h=>wpAny_execs_nil ⟨σ,H,I,h⟩
def va (h1:PS X st t) (h2:Dw X rest u):Dw X (st::rest) (Y8 t u):=by
 intro cM s σ H D I h;refine wpAny_execs_cons (g7 (h1 cM s σ H {D with nx:=u D} I h) λf s1 q=>?_)
 cases f with
 |next=>
  obtain⟨σ',H',I',q⟩:=q;exact h2 cM s1 σ' H' D I' q
 |ret v=>exact q
 |brk=>exact q
 |cont=>exact q
def JE (h1:PS X st t):Dw X [st] t:=by
 intro cM s σ H D I h;refine wpAny_execs_cons (g7 (h1 cM s σ H D I h) λf s1 q=>?_)
 cases f with
 |next=>exact wpAny_execs_nil q
 |ret v=>exact q
 |brk=>exact q
 |cont=>exact q
def Inv.quiet (I:Inv X cM σ H s):interactive X.env=false:=by simp[interactive,I.ok.kind]
noncomputable def V5 (te:TE):TS:=λD σ H=>te σ H λ_ H1=>D.nx σ H1
def JF (he:PE X e te) (hs:swapsWith e none pos.line X.env=pure false:=by rfl):PS X (.Expr e pos) (V5 te):=by
 intro cM s σ H D I h;exact wpAny_Expr_any (g7 (he cM s σ H _ I h) λv s1 ⟨x,H1,I1,r1,q1⟩=>⟨σ,H1,I1,q1⟩) I.quiet hs
noncomputable def Y9 (te:TE):TS:=λD σ H=>te σ H D.rt
def Tu (he:PE X e te):PS X (.Return (some e) pos) (Y9 te):=by
 intro cM s σ H D I h;exact wpAny_Return_some (g7 (he cM s σ H _ I h) λv s1 ⟨x,H1,I1,r1,q1⟩=>⟨x,σ,H1,I1,r1,q1⟩)
noncomputable def Za (c:TT) (t u:TS):TS:=λD σ H=>c σ H λb H1=>if b=true then t D σ H1 else u D σ H1
def MD (hc:PT X c tc) (ha:Dw X a t) (hb:Dw X b u):PS X (.If c a b pos) (Za tc t u):=by
 intro cM s σ H D I h;refine wpAny_If (g7 (hc cM s σ H _ I h) λd s1 ⟨H1,I1,q1⟩=>?_)
 cases d with
 |true=>exact ha cM s1 σ H1 D I1 q1
 |false=>exact hb cM s1 σ H1 D I1 q1
end
abbrev TG:=V->St->Hp->(St->Hp->Prop)->Prop
def PG (X:Cx) (target:cH) (t:TG):Prop:=
 ∀(cM:cj) (s:cA) (σ:St) (H:Hp) (v:V) (u:cy) (Q:St->Hp->Prop),Inv X cM σ H s->RelV v u->t v σ H Q->
  wpAny (model X.prog X.w) X.A (assign target X.env u) (λ_ s'=>∃σ' H',Inv X cM σ' H' s'/\Q σ' H') X.xe s
abbrev Tv:=V->V->V->Hp->(Hp->Prop)->Prop
def V6 (X:Cx) (t:Tv):Prop:=
 ∀(cM:cj) (s:cA) (σ:St) (H:Hp) (o i v:V) (ov iv u:cy) (Q:Hp->Prop),Inv X cM σ H s->RelV o ov->RelV i iv->RelV v u->t o i v H Q->
  wpAny (model X.prog X.w) X.A (setItem ov iv u) (λ_ s'=>∃H',Inv X cM σ H' s'/\Q H') X.xe s
section
variable {X:Cx}{pos:Pos}
noncomputable def JG (i:Nat):TG:=λv σ H Q=>Q (σ.set i (some v)) H
def fU {i:Nat}(hN:X.N.Nodup) (hi:X.N[i]? =some x) (hx:Loc X.env.scope x:=by first|exact Or.inl rfl|exact Or.inr rfl) (hf:X.fn x=true\/X.env.scope.names.lookup x=some .local:=by first|exact .inl rfl|exact .inr rfl|assumption):PG X (.Name x pos) (JG i):=by
 intro cM s σ H v u Q I r h;exact wpAny_assign_Name (Fb I hN hi hx r (λs' I'=>⟨_,H,I',h⟩) hf)
noncomputable def Zb (to ti:TE) (t:Tv):TG:=λv σ H Q=>to σ H λo H1=>ti σ H1 λi H2=>t o i v H2 λH3=>Q σ H3
def ME (ho:PE X o to) (hi:PE X i ti) (hs:V6 X t) (ha:∀v,assign (.Subscript o i pos) X.env v=(do
   let ov <-holding [v] (eval o X.env)
   let iv <-holding [v,ov] (eval i X.env)
   standAt pos
   holding [v,ov,iv] (setItem ov iv v)
   release [v,ov,iv] []):=by intro _;rfl):PG X (.Subscript o i pos) (Zb to ti t):=by
 intro cM s σ H v u Q I r h;rw[ha];refine aa (bj (g7 (ho cM s σ H _ I h) λov s1 ⟨x,H1,I1,r1,q1⟩=>?_))
 refine aa (bj (g7 (hi cM s1 σ H1 _ I1 q1) λiv s2 ⟨y,H2,I2,r2,q2⟩=>?_))
 refine aa (wpAny_standAt (aa (bj (g7 (hs cM s2 σ H2 x y v ov iv u _ I2 r1 r2 r q2) λ_ s3 ⟨H3,I3,q3⟩=>?_))))
 exact wpAny_release ⟨σ,H3,I3,q3⟩
noncomputable def V7 (te:TE) (g:TG):TS:=λD σ H=>te σ H λx H1=>g x σ H1 D.nx
def MF (he:PE X e te) (hg:PG X tg g) (hs:swapsWithSole [tg] e pos.line X.env=pure false:=by rfl) (hw:swappedStores [tg] e X.env=pure none:=by rfl) (h1:(assignEach [tg] X.env).map (·.2)=[assign tg X.env]:=by rfl):PS X (.Assign [tg] e pos) (V7 te g):=by
 intro cM s σ H D I h;refine wpAny_Assign_stores (g7 (he cM s σ H _ I h) λv s1 ⟨x,H1,I1,r1,q1⟩=>?_) hs hw
 rw[h1];exact g7 (hg cM s1 σ H1 x v _ I1 r1 q1) λ_ s2 q=>q
def Hv {i:Nat}{x:Str}{te:TE}{pos':Pos}(hN:X.N.Nodup) (hi:X.N[i]? =some x) (hx:Loc X.env.scope x) (he:PE X e te) (hs:swapsWith e (some (.Name x pos')) pos.line X.env=pure false:=by rfl) (hf:X.fn x=true\/X.env.scope.names.lookup x=some .local:=by first|exact .inl rfl|exact .inr rfl|assumption):PS X (.Assign [.Name x pos'] e pos) (V7 te (JG i)):=by
 intro cM s σ H D I h;refine wpAny_Assign_Name (g7 (he cM s σ H _ I h) λv s1 ⟨y,H1,I1,r1,q1⟩=>?_) hs
 exact Fb I1 hN hi hx r1 (λs2 I2=>⟨_,H1,I2,q1⟩) hf
end
structure It where
 go:Nat->Hp->Prop
 Tw:Nat->Hp->V->Hp->Prop
 stop:Nat->Hp->Prop
def Fc (X:Cx) (cM:cj) (H:Hp) (b:cG):Prop:=
 H b=none/\b≠X.env.locals/\b∉X.fs/\(b∈X.ex\/X.s₀.heap.objs.size<=b)/\(∀x c,X.env.cells.lookup x=some c->c≠b)/\∀p∈X.pn++cM,p.1≠b
def Inv.MG (I:Inv X cM σ H s) (hb:s.heap.objs.size<=b) (hn:H' b=none):Fc X cM H' b:=by
 refine⟨hn,bw (aw I.lt hb),I.Y3 hb,.inr (aD I.sz hb),λx c e z=>?_,λp hp z=>?_⟩
 ·obtain⟨v,q⟩:=I.cell x c e;exact absurd (aw q.lt (by rw[z];exact hb)) (Nat.lt_irrefl _)
 ·exact absurd (aw (aB (I.pin p hp).1) (by rw[z];exact hb)) (Nat.lt_irrefl _)
structure Turn (P:cC) (w:cD) (K:W.Frag) (tg:cH) (J:It) (fp:List cG) (it:cG) (tn:Nat->Heap->Prop):Prop where
 mem:it∈fp
 obj:∀i h,tn i h->∀b∈fp,∃o,h.get? b=some o/\∀v,o.data≠.cell v
 keep:∀i h h',tn i h->(∀b∈fp,∀o,h.get? b=some o->h'.get? b=some o)->tn i h'
 item:∀(X:Cx),X.prog=P->X.w=w->X.K=K->X.calm=true->∀(i:Nat) (cM:cj) (s:cA) (σ:St) (H:Hp) (E:cf),Inv X cM σ H s->(∀b∈fp,Fc X cM H b)->tn i s.heap->J.go i H->
  wpAny (model P w) X.A (pyNext (.ref it)) (λr s1=>∃u,r=some u/\
   wpAny (model P w) X.A (letOwnedTupleGo tg (.ref it) u) (λ_ s2=>∃x H',Inv X cM σ H' s2/\RelV x u/\J.Tw i H x H'/\tn (i+1) s2.heap/\∀b∈fp,H' b=none) E s1) E s
 done:∀(X:Cx),X.prog=P->X.w=w->X.K=K->X.calm=true->∀(i:Nat) (cM:cj) (s:cA) (σ:St) (H:Hp) (E:cf),Inv X cM σ H s->(∀b∈fp,Fc X cM H b)->tn i s.heap->J.stop i H->
  wpAny (model P w) X.A (pyNext (.ref it)) (λr s1=>r=none/\Inv X cM σ H s1) E s
 self:∀(A:cE) (i:Nat) (s:cA) (Q:cf) (E:cf),tn i s.heap->Q (.ref it) s->wpAny (model P w) A (pyIter (.ref it)) Q E s
abbrev TI:=St->Hp->(It->Hp->Prop)->Prop
def PIE (X:Cx) (cM:cj) (σ:St) (tg:cH) (R:It->Hp->Prop) (Ys:cy) (s2:cA):Prop:=
 ∃(it:cG) (fp:List cG) (tn:Nat->Heap->Prop) (J:It) (H':Hp),Ys=.ref it/\Inv X cM σ H' s2/\Turn X.prog X.w X.K tg J fp it tn/\tn 0 s2.heap/\(∀b∈fp,Fc X cM H' b)/\R J H'
def PI (X:Cx) (tg iter:cH) (wi:TI):Prop:=
 ∀(cM:cj) (s:cA) (σ:St) (H:Hp) (R:It->Hp->Prop),Inv X cM σ H s->wi σ H R->
  wpAny (model X.prog X.w) X.A (eval iter X.env) (λv s1=>wpAny (model X.prog X.w) X.A (pyIter v) (PIE X cM σ tg R) X.xe s1) X.xe s
def MH (ho:s.heap.get? it=some o) (hc:o.cls=.type n) (hd:o.data=.fields vs) (hn:["enumerate","zip","dict_itemiterator","dict_reverseitemiterator","odict_iterator","itertools.zip_longest","itertools.pairwise"].contains n=false) (hQ:Q () s):wpAny M A (letOwnedTupleGo tg (.ref it) u) Q E s:=by
 unfold letOwnedTupleGo;cases tg<;>first
  |exact aj hQ
  |(cases u<;>first
    |exact aj hQ
    |(refine aa (wpAny_load ho ?_)
      rw[hc,hd];show wpAny M A (if(["enumerate","zip","dict_itemiterator","dict_reverseitemiterator","odict_iterator","itertools.zip_longest","itertools.pairwise"].contains n&&vs[0]? ==some (rawInt _))=true then _ else _) Q E s
      rw[if_neg (by intro h;rw[hn,Bool.false_and]at h;cases h)]
      exact aj hQ))
noncomputable def Zc (K:W.Frag) (a:cG):It:=
 ⟨λi H=>∃xs x,rD K H a xs/\xs[i]? =some x,λi H x H'=>H'=H/\∀xs,rD K H a xs->xs[i]? =some x,λi H=>∃xs,rD K H a xs/\xs.length<=i⟩
noncomputable def Zd (K:W.Frag) (a:cG):It:=
 ⟨λi H=>∃xs x,mB K H a xs/\xs[i]? =some x,λi H x H'=>H'=H/\∀xs,mB K H a xs->xs[i]? =some x,λi H=>∃xs,mB K H a xs/\xs.length<=i⟩
noncomputable def V8 (lo:Int) (n:Nat):It:=⟨λi _=>i<n,λi H x H'=>H'=H/\x=.int (lo+i),λi _=>n<=i⟩
def KW {P:cC}{w:cD}{K:W.Frag}{tg:cH}(a it:cG):Turn P w K tg (Zc K a) [it] it (λi h=>h.IsListIter it a i)where
 mem:=by simp
 obj:=λi h st b hb=>by
  have e:b=it:=by simpa using hb
  subst e;obtain⟨o,e,c,d⟩:=st;exact⟨o,e,λv z=>by rw[d]at z;cases z⟩
 keep:=λi h h' st k=>st.at λo e=>k it (by simp) o e
 item:=by
  intro X hP hw hK hc i cM s σ H E I hf st hg;subst hP hw hK;obtain⟨xs,x,hq,hx⟩:=hg;obtain⟨dE,rv,p,hz⟩:=I.list hq;obtain⟨u,hu,ru⟩:=rv.get hx;obtain⟨f0,f1,f2,f3,f4,f5⟩:=hf it (by simp)
  refine wpAny_pyNext_list_item st p.isList (x:=u) (by simpa using hu) λh' Sa sb=>?_
  have I1:Inv X cM σ H {s with heap:=h'}:=I.turned (t':=s.toks) (λb o hb e=>(sb.2 b hb).trans e) f0 f1 f3 f4 f5
  obtain⟨o,e,c,d⟩:=id Sa;exact⟨u,rfl,MH (s:={s with heap:=h'}) e c d (by decide) ⟨x,H,I1,ru,⟨rfl,λys hy=>by rw[I.MC hy hq];exact hx⟩,Sa,λb hb=>(hf b hb).1⟩⟩
 done:=by
  intro X hP hw hK hc i cM s σ H E I hf st hg;subst hP hw hK;obtain⟨xs,hq,hx⟩:=hg;obtain⟨dE,rv,p,hz⟩:=I.list hq;obtain⟨f0,f1,f2,f3,f4,f5⟩:=hf it (by simp)
  have hl:=rv.length;exact wpAny_pyNext_list_end (I.ok.hd hc) st p.isList (by simp;omega) λh' eb=>⟨rfl,I.turned (t':=s.toks) (λb o hb e=>eb b o hb e) f0 f1 f3 f4 f5⟩
 self:=λ_ _ _ _ _ st h=>wpAny_pyIter_listiter st h
def Hw {P:cC}{w:cD}{K:W.Frag}{tg:cH}(a it:cG):Turn P w K tg (Zd K a) [it] it (λi h=>h.IsTupleIter it a i)where
 mem:=by simp
 obj:=λi h st b hb=>by
  have e:b=it:=by simpa using hb
  subst e;obtain⟨o,e,c,d⟩:=st;exact⟨o,e,λv z=>by rw[d]at z;cases z⟩
 keep:=λi h h' st k=>st.at λo e=>k it (by simp) o e
 item:=by
  intro X hP hw hK hc i cM s σ H E I hf st hg;subst hP hw hK;obtain⟨xs,x,hq,hx⟩:=hg;obtain⟨dE,rv,p,hz⟩:=I.tuple hq;obtain⟨u,hu,ru⟩:=rv.get hx;obtain⟨f0,f1,f2,f3,f4,f5⟩:=hf it (by simp)
  refine wpAny_pyNext_tuple_item st (show s.heap.IsTuple a dE.toArray from p) (x:=u) (by simpa using hu) λh' Sa sb=>?_
  have I1:Inv X cM σ H {s with heap:=h'}:=I.turned (t':=s.toks) (λb o hb e=>(sb.2 b hb).trans e) f0 f1 f3 f4 f5
  obtain⟨o,e,c,d⟩:=id Sa;exact⟨u,rfl,MH (s:={s with heap:=h'}) e c d (by decide) ⟨x,H,I1,ru,⟨rfl,λys hy=>by rw[I.KU hy hq];exact hx⟩,Sa,λb hb=>(hf b hb).1⟩⟩
 done:=by
  intro X hP hw hK hc i cM s σ H E I hf st hg;subst hP hw hK;obtain⟨xs,hq,hx⟩:=hg;obtain⟨dE,rv,p,hz⟩:=I.tuple hq;obtain⟨f0,f1,f2,f3,f4,f5⟩:=hf it (by simp)
  have hl:=rv.length;exact wpAny_pyNext_tuple_end (I.ok.hd hc) st (show s.heap.IsTuple a dE.toArray from p) (by simp;omega) λh' eb=>⟨rfl,I.turned (t':=s.toks) (λb o hb e=>eb b o hb e) f0 f1 f3 f4 f5⟩
 self:=λ_ _ _ _ _ st h=>wpAny_pyIter_tupleiter st h
def Hx {P:cC}{w:cD}{K:PySem.W.Frag}{tg:cH}(it:cG) (lo:Int) (n:Nat):Turn P w K tg (V8 lo n) [it] it (λi h=>IsRangeIter h it (lo+(i:Nat)*1) ((n:Int)-(i:Nat)) 1)where
 mem:=by simp
 obj:=λi h st b hb=>by
  have e:b=it:=by simpa using hb
  subst e;exact⟨_,st,λv z=>by
   have z':Data.fields _=Data.cell v:=z;cases z'⟩
 keep:=λi h h' st k=>k it (by simp) _ st
 item:=by
  intro X hP hw hK hc i cM s σ H E I hf st hg;subst hP hw hK;obtain⟨f0,f1,f2,f3,f4,f5⟩:=hf it (by simp)
  have W:=Walks.range (prog:=X.prog) (w:=X.w) (I.ok.hd hc) it lo 1 n;refine W.item i s _ _ hg st λv h' tk hv Sa kk=>?_
  obtain⟨t,rfl⟩:=hv;have I1:Inv X cM σ H {s with heap:=h',toks:=tk}:=I.turned (λb o hb e=>kk b o (by simpa using hb) e) f0 f1 f3 f4 f5
  refine⟨_,rfl,MH (s:={s with heap:=h',toks:=tk}) (n:="range_iterator") Sa rfl rfl (by decide) ⟨.int (lo+i),H,I1,⟨t,?_⟩,⟨rfl,rfl⟩,Sa,λb hb=>(hf b hb).1⟩⟩
  rw[Int.mul_one]
 done:=by
  intro X hP hw hK hc i cM s σ H E I hf st hg;subst hP hw hK;obtain⟨f0,f1,f2,f3,f4,f5⟩:=hf it (by simp)
  exact wpAny_pyNext_range_end (I.ok.hd hc) st (by have:n<=i:=hg;omega) λh' eb=>⟨rfl,I.turned (t':=s.toks) (λb o hb e=>eb b o hb e) f0 f1 f3 f4 f5⟩
 self:=λ_ _ _ _ _ st h=>wpAny_pyIter_rangeiter st h
section
variable {X:Cx}{tg:cH}
def V9 (K:W.Frag) (tl:TE):TI:=λσ H R=>tl σ H λx H1=>∃a,x=.ref a/\(∃xs,rD K H1 a xs)/\R (Zc K a) H1
def Ze (K:W.Frag) (tl:TE):TI:=λσ H R=>tl σ H λx H1=>∃a,x=.ref a/\(∃xs,mB K H1 a xs)/\R (Zd K a) H1
def JH (hl:PE X l tl):PI X tg l (V9 X.K tl):=by
 intro cM s σ H R I h;refine g7 (hl cM s σ H _ I h) λv s1 ⟨x,H1,I1,r1,q1⟩=>?_
 obtain⟨a,e,⟨xs,hq⟩,q⟩:=q1;subst e;cases r1;obtain⟨dE,rv,p,hz⟩:=I1.list hq;refine wpAny_pyIter_list p.isList ?_;refine⟨s1.heap.objs.size,[s1.heap.objs.size],_,_,H1,rfl,I1.kept (t':=s1.toks) λb o e=>ag _ e,KW a _,⟨_,az _ rfl,rfl,rfl⟩,λb hb=>?_,q⟩
 have e:b=s1.heap.objs.size:=by simpa using hb
 subst e;exact I1.MG (au _) (I1.gk.fresh (au _))
def Tx (hl:PE X l tl):PI X tg l (Ze X.K tl):=by
 intro cM s σ H R I h;refine g7 (hl cM s σ H _ I h) λv s1 ⟨x,H1,I1,r1,q1⟩=>?_
 obtain⟨a,e,⟨xs,hq⟩,q⟩:=q1;subst e;cases r1;obtain⟨dE,rv,p,hz⟩:=I1.tuple hq;refine wpAny_pyIter_tuple (show s1.heap.IsTuple a dE.toArray from p) ?_
 refine⟨s1.heap.objs.size,[s1.heap.objs.size],_,_,H1,rfl,I1.kept (t':=s1.toks) λb o e=>ag _ e,Hw a _,⟨_,az _ rfl,rfl,rfl⟩,λb hb=>?_,q⟩
 have e:b=s1.heap.objs.size:=by simpa using hb
 subst e;exact I1.MG (au _) (I1.gk.fresh (au _))
def Fd {lo hi:Int}(I:Inv X cM σ H s) (h1: -(2^62)<=lo) (h2:lo<2^62) (h3: -(2^62)<=hi) (h4:hi<2^62) (q:R (V8 lo (hi-lo).toNat) H):wpAny (model X.prog X.w) X.A (pyIter (.ref s.heap.objs.size)) (PIE X cM σ tg R) E {s with heap:=s.heap.push {cls:=.type "range",data:=.fields #[.int lo t,.int hi u,.int 1 v]},toks:=tk}:=by
 refine wpAny_pyIter_range (IsRange.new ..) (small_one h1 h2 h3 h4) ?_;have I1:Inv X cM σ H {s with heap:=s.heap.push {cls:=.type "range",data:=.fields #[.int lo t,.int hi u,.int 1 v]},toks:=tk}:=I.kept λb o e=>ag _ e
 refine⟨(s.heap.push {cls:=.type "range",data:=.fields #[.int lo t,.int hi u,.int 1 v]}).objs.size,[(s.heap.push {cls:=.type "range",data:=.fields #[.int lo t,.int hi u,.int 1 v]}).objs.size],_,_,H,rfl,
  I1.kept (t':=tk) λb o e=>ag _ e,Hx _ lo (hi-lo).toNat,?_,λb hb=>?_,q⟩
 ·have e1:lo+((0:Nat):Int)*1=lo:=by simp
  have e2:(((hi-lo).toNat:Nat):Int)-((0:Nat):Int)=Builtin.Range.rangeSize lo hi 1:=by rw[rangeSize_one];split<;>omega
  show IsRangeIter _ _ (lo+((0:Nat):Int)*1) ((((hi-lo).toNat:Nat):Int)-((0:Nat):Int)) 1;rw[e1,e2];exact az _ rfl
 ·have e:b=(s.heap.push {cls:=.type "range",data:=.fields #[.int lo t,.int hi u,.int 1 v]}).objs.size:=by simpa using hb
  subst e;exact I1.MG (au _) (I1.gk.fresh (au _))
def Wa (ta:TA):TI:=λσ H R=>ta σ H λvs H1=>∃j:Int,vs=[.int j]/\-(2^62)<=j/\j<2^62/\R (V8 0 j.toNat) H1
def Wb (ta:TA):TI:=λσ H R=>ta σ H λvs H1=>∃i j:Int,vs=[.int i,.int j]/\(-(2^62)<=i/\i<2^62/\-(2^62)<=j/\j<2^62)/\R (V8 i (j-i).toNat) H1
def KY (hg:Gl X "range") (hm:X.mg "range"=none) (ha:PA X [a] ta) (hs:starEach [a] X.env=[(false,eval a X.env)]:=by rfl):PI X tg (.Call (.Name "range" p) [a] [] pos) (Wa ta):=by
 intro cM s σ H R I h;refine Call_ (kr I hg hm boot_range (PyProof.Rows.callWith_type1 (g7 (ha pos cM s σ H _ I h) λus s1 ⟨vs,H1,I1,r1,q1⟩=>?_) hs rfl))
 obtain⟨j,e,q1,q2,q⟩:=q1;subst e;cases r1 with
 |cons r rr=>
  cases rr;obtain⟨t,rfl⟩:=r;exact call_range_1 (Fd I1 (by omega) (by omega) q1 q2 (by simpa using q))
def KZ (hg:Gl X "range") (hm:X.mg "range"=none) (ha:PA X [a,b] ta) (hs:starEach [a,b] X.env=[(false,eval a X.env),(false,eval b X.env)]:=by rfl) (K0:starEach [b] X.env=[(false,eval b X.env)]:=by rfl):PI X tg (.Call (.Name "range" p) [a,b] [] pos) (Wb ta):=by
 intro cM s σ H R I h;refine Call_ (kr I hg hm boot_range (PyProof.Rows.callWith_type1 (g7 (ha pos cM s σ H _ I h) λus s1 ⟨vs,H1,I1,r1,q1⟩=>?_) (by rw[hs,K0]) (by rw[K0];rfl)))
 obtain⟨i,j,e,⟨q1,q2,q3,q4⟩,q⟩:=q1;subst e;cases r1 with
 |cons r rr=>
  cases rr with
  |cons r' rr=>
   cases rr;obtain⟨t,rfl⟩:=r;obtain⟨t',rfl⟩:=r';exact call_range_2 (Fd I1 q1 q2 q3 q4 q)
def Zf (wi:TI) (g:TG) (tb:TS):TS:=λD σ H=>wi σ H λJ H1=>∃W:Nat->Nat->St->Hp->Prop,(∃m,W 0 m σ H1)/\∀i m σ H,W i m σ H->
 (J.stop i H/\D.nx σ H)\/(J.go i H/\∃N:St->Hp->Prop,(∀σ' H',N σ' H'->∃m',m'<m/\W (i+1) m' σ' H')/\∀x H',J.Tw i H x H'->g x σ H' λσ2 H2=>tb {D with nx:=N,ct:=N,bk:=D.nx} σ2 H2)
noncomputable def yY (fp:List cG) (h:Heap):cj:=fp.filterMap λb=>(h.get? b).map λo=>(b,o)
def pN (hb:b∈fp) (e:h.get? b=some o):(b,o)∈yY fp h:=mem_filterMap.mpr ⟨b,hb,by rw[e];rfl⟩
def K1 (hp:p∈yY fp h):p.1∈fp/\h.get? p.1=some p.2:=by
 obtain⟨b,hb,e⟩:=mem_filterMap.mp hp;cases q:h.get? b with
 |none=>rw[q]at e;cases e
 |some o=>
  rw[q]at e;have e':(b,o)=p:=aS e;subst e';exact⟨hb,q⟩
def Inv.pinned (I:Inv X cM σ H s) (hf:∀b∈fp,Fc X cM H b) (ho:∀b∈fp,∃o,s.heap.get? b=some o/\∀v,o.data≠.cell v):Inv X (cM++yY fp s.heap) σ H s:=
 I.JC λp hp=>(mem_append.mp hp).elim (λz=>I.pin p (aL _ z)) λz=>by
  obtain⟨hb,e⟩:=K1 z;obtain⟨f0,f1,f2,_⟩:=hf p.1 hb;obtain⟨o,e',d⟩:=ho p.1 hb;rw[e]at e';cases e';exact⟨e,f0,f1,f2,d⟩
def Inv.vd (I:Inv X (cM++pl) σ H s):Inv X cM σ H s:=I.JC λp hp=>I.pin p (aL _ (bC _ hp))
def Tz (hp:PassesOwn (model X.prog X.w) X.A X.env X.xe) (hc:X.calm=true) (hi:PI X tg iter wi) (hg:PG X tg g) (hb:Dw X body tb) (hs:∀x,foldedSetIterable iter X.env x=pure x:=by intro _;rfl):PS X (.For tg iter body [] pos) (Zf wi g tb):=by
 intro cM s σ H D I h;refine wpAny_For (g7 (hi cM s σ H _ I h) λv s1 h1=>g7 h1 λYs s2 h2=>?_) hs
 obtain⟨it,fp,tn,J,H2,e,I2,T,Sb,f2,W,⟨m0,w0⟩,turn⟩:=h2;subst e;have Hy:∀{H':Hp},(∀b∈fp,H' b=none)->∀b∈fp,Fc X cM H' b:=λhn b hb=>⟨hn b hb,(f2 b hb).2⟩
 refine codeAny_forLoop_any (λn s'=>∃i σ' H',Inv X cM σ' H' s'/\tn i s'.heap/\(∀b∈fp,H' b=none)/\W i n σ' H') ?_ m0 ⟨0,σ,H2,I2,Sb,λb hb=>(f2 b hb).1,w0⟩
 rintro n s3 ⟨i,σ3,H3,I3,Wc,Wd,w3⟩
 rcases turn i n σ3 H3 w3 with⟨stop,qn⟩|⟨go,N,hN,step⟩
 ·refine wpAny_passesOwn hp (g7 (T.done X rfl rfl rfl hc i cM s3 σ3 H3 X.xe I3 (Hy Wd) Wc stop) λr s4 ⟨hr,I4⟩=>?_)
  subst hr;exact wpAny_execs_nil ⟨σ3,H3,I4,qn⟩
 ·refine wpAny_passesOwn hp (g7 (T.item X rfl rfl rfl hc i cM s3 σ3 H3 X.xe I3 (Hy Wd) Wc go) λr s4 ⟨u,hr,h4⟩=>?_)
  subst hr;refine wpAny_passesOwn hp (g7 h4 λ_ s5 ⟨x,H5,I5,r5,y5,TB,Zg⟩=>?_)
  have Zh:=I5.pinned (Hy Zg) (T.obj _ _ TB);refine wpAny_passesOwn hp (g7 (hg _ s5 σ3 H5 x u _ Zh r5 (step x H5 y5)) λ_ s6 ⟨σ6,H6,I6,q6⟩=>?_)
  refine wpAny_passesOwn hp (g7 (hb _ s6 σ6 H6 _ I6 q6) λf s7 q7=>?_)
  have again:∀{σ7:St}{H7:Hp},Inv X (cM++yY fp s5.heap) σ7 H7 s7->N σ7 H7->∃m,m<n/\∃i σ' H',Inv X cM σ' H' s7/\tn i s7.heap/\(∀b∈fp,H' b=none)/\W i m σ' H':=λ{σ7 H7} I7 n7=>by
   obtain⟨m',hm,w7⟩:=hN σ7 H7 n7;refine⟨m',hm,i+1,σ7,H7,I7.vd,T.keep _ _ _ TB λb hb o e=>(I7.pin (b,o) (aL _ (aL _ (pN hb e)))).1,λb hb=>?_,w7⟩
   obtain⟨o,e,d⟩:=T.obj _ _ TB b hb;exact(I7.pin (b,o) (aL _ (aL _ (pN hb e)))).2.1
  cases f with
  |next=>obtain⟨σ7,H7,I7,n7⟩:=q7;exact again I7 n7
  |cont=>obtain⟨σ7,H7,I7,n7⟩:=q7;exact again I7 n7
  |brk=>obtain⟨σ7,H7,I7,q7⟩:=q7;exact⟨σ7,H7,I7.vd,q7⟩
  |ret v=>obtain⟨x7,σ7,H7,I7,r7,q7⟩:=q7;exact⟨x7,σ7,H7,I7.vd,r7,q7⟩
end
abbrev R2:=V->V->Hp->VK->Prop
def tX (X:Cx) (f:cy->cy->Sem cy) (r:R2):Prop:=
 ∀(cM:cj) (s:cA) (σ:St) (H:Hp) (x y:V) (v u:cy) (Q:VK),Inv X cM σ H s->RelV x v->RelV y u->r x y H Q->
  wpAny (model X.prog X.w) X.A (f v u) (EP X cM σ Q) X.xe s
def Zi (X:Cx) (f:cy->Sem cy) (r:V->Hp->VK->Prop):Prop:=
 ∀(cM:cj) (s:cA) (σ:St) (H:Hp) (x:V) (v:cy) (Q:VK),Inv X cM σ H s->RelV x v->r x H Q->
  wpAny (model X.prog X.w) X.A (f v) (EP X cM σ Q) X.xe s
def i9 (X:Cx) (f:cy) (r:List V->Hp->VK->Prop):Prop:=
 ∀(cM:cj) (s:cA) (σ:St) (H:Hp) (xs:List V) (us:cx) (Q:VK),Inv X cM σ H s->Vals xs us->r xs H Q->
  wpAny (model X.prog X.w) X.A (call f us) (EP X cM σ Q) X.xe s
def Zj (X:Cx) (r:V->Hp->(Bool->Hp->Prop)->Prop):Prop:=
 ∀(cM:cj) (s:cA) (σ:St) (H:Hp) (x:V) (v:cy) (Q:Bool->Hp->Prop),Inv X cM σ H s->RelV x v->r x H Q->
  wpAny (model X.prog X.w) X.A (truthy v) (TP X cM σ Q) X.xe s
noncomputable def VA (r:R2) (ta tb:TE):TE:=λσ H Q=>ta σ H λx H1=>tb σ H1 λy H2=>r x y H2 Q
noncomputable def tUn (r:V->Hp->VK->Prop) (ta:TE):TE:=λσ H Q=>ta σ H λx H1=>r x H1 Q
noncomputable def rI (C:Int->Int->Prop) (g:Int->Int->V):R2:=λx y H Q=>∃i j,x=.int i/\y=.int j/\C i j/\Q (g i j) H
noncomputable def Qq (g:Int->Int->V):R2:=λx y H Q=>∃i j,x=.int i/\y=.int j/\Q (g i j) H
noncomputable def rU (g:Int->V):V->Hp->VK->Prop:=λx H Q=>∃i,x=.int i/\Q (g i) H
section
variable {X:Cx}{a b:cH}{ta tb:TE}{pos:Pos}
def TC (ha:PE X a ta) (hb:PE X b tb) {R:V->V->Hp->Prop}(I:Inv X cM σ H s) (h:ta σ H λx H1=>tb σ H1 λy H2=>R x y H2) {f:cy->cy->Sem cy}(hf:∀v u s2 x y H2,Inv X cM σ H2 s2->RelV x v->RelV y u->R x y H2->wpAny (model X.prog X.w) X.A (f v u) Q X.xe s2):wpAny (model X.prog X.w) X.A (eval a X.env) (λv s₁=>wpAny (model X.prog X.w) X.A (eval b X.env) (λu s₂=>wpAny (model X.prog X.w) X.A (f v u) Q X.xe s₂) X.xe s₁) X.xe s:=by
 refine g7 (ha cM s σ H _ I h) λv s1 ⟨x,H1,I1,r1,q1⟩=>?_
 refine g7 (hb cM s1 σ H1 _ I1 q1) λu s2 ⟨y,H2,I2,r2,q2⟩=>?_
 exact hf v u s2 x y H2 I2 r1 r2 q2
def MI (ho:tX X (binaryOp op) r) (ha:PE X a ta) (hb:PE X b tb):PE X (.BinOp a op b pos) (VA r ta tb):=by
 intro cM s σ H Q I h;exact wpAny_BinOp (TC ha hb I h λv u s2 x y H2 I2 rx ry q=>ho cM s2 σ H2 x y v u Q I2 rx ry q)
def Sd (ho:Zi X (unaryOp op) r) (ha:PE X a ta):PE X (.UnaryOp op a pos) (tUn r ta):=by
 intro cM s σ H Q I h;exact UnaryOp_ (g7 (ha cM s σ H _ I h) λv s1 ⟨x,H1,I1,r1,q1⟩=>ho cM s1 σ H1 x v Q I1 r1 q1)
def opI {g:Int->Int->Int}(rule:∀(i j:Int) (t u:Tok) (s:cA) (Q:cf) (E:cf),C i j->Q (.int (g i j) s.toks) {s with toks:=s.toks+1}->wpAny (model X.prog X.w) X.A (f (.int i t) (.int j u)) Q E s):tX X f (rI C λi j=>.int (g i j)):=by
 intro cM s σ H x y v u Q I rx ry h;obtain⟨i,j,rfl,rfl,hc,q⟩:=h;obtain⟨t,rfl⟩:=rx;obtain⟨t',rfl⟩:=ry;exact rule i j t t' s _ _ hc ⟨.int (g i j),H,I.tok _,⟨_,rfl⟩,q⟩
def We {g:Int->Int->Int}(rule:∀(i j:Int) (t u:Tok) (s:cA) (Q:cf) (E:cf),Q (.int (g i j) s.toks) {s with toks:=s.toks+1}->wpAny (model X.prog X.w) X.A (f (.int i t) (.int j u)) Q E s):tX X f (Qq λi j=>.int (g i j)):=by
 intro cM s σ H x y v u Q I rx ry h;obtain⟨i,j,rfl,rfl,q⟩:=h;obtain⟨t,rfl⟩:=rx;obtain⟨t',rfl⟩:=ry;exact rule i j t t' s _ _ ⟨.int (g i j),H,I.tok _,⟨_,rfl⟩,q⟩
def Qr {g:Int->Int->Bool}(rule:∀(i j:Int) (t u:Tok) (s:cA) (Q:cf) (E:cf),Q (.bool (g i j)) s->wpAny (model X.prog X.w) X.A (f (.int i t) (.int j u)) Q E s):tX X f (Qq λi j=>.bl (g i j)):=by
 intro cM s σ H x y v u Q I rx ry h;obtain⟨i,j,rfl,rfl,q⟩:=h;obtain⟨t,rfl⟩:=rx;obtain⟨t',rfl⟩:=ry;exact rule i j t t' s _ _ ⟨.bl (g i j),H,I,rfl,q⟩
def Qs (i j:Int):Prop:=(-(2^64)<i/\i<2^64)\/(-(2^64)<j/\j<2^64)
def Qs.ok (h:Qs i j):IntMulOk i j:=by
 rcases h with⟨h1,h2⟩|⟨h1,h2⟩
 ·exact .of_left (intBits_le_64 h1 h2)
 ·exact .of_right (intBits_le_64 h1 h2)
def MJ:tX X (binaryOp .Add) (Qq λi j=>.int (i+j)):=We λ_ _ _ _ _ _ _ q=>add_int q
def TF:tX X (binaryOp .Sub) (Qq λi j=>.int (i-j)):=We λ_ _ _ _ _ _ _ q=>sub_int q
def TH:tX X (binaryOp .Mult) (rI Qs λi j=>.int (i*j)):=opI λ_ _ _ _ _ _ _ hc q=>mul_int q hc.ok
def TJ:tX X (binaryOp .Mod) (rI (λ_ j=>0<j) λi j=>.int (i%j)):=opI λi j _ _ _ _ _ hc q=>by
 have h1:(0:Int)<j:=hc;exact mod_int' (by omega) (by rw[Int.fmod_eq_emod_of_nonneg i (by omega)];exact q)
def unI {g:Int->Int}(rule:∀(i:Int) (t:Tok) (s:cA) (Q:cf) (E:cf),Q (.int (g i) s.toks) {s with toks:=s.toks+1}->wpAny (model X.prog X.w) X.A (f (.int i t)) Q E s):Zi X f (rU λi=>.int (g i)):=by
 intro cM s σ H x v Q I rx h;obtain⟨i,rfl,q⟩:=h;obtain⟨t,rfl⟩:=rx;exact rule i t s _ _ ⟨.int (g i),H,I.tok _,⟨_,rfl⟩,q⟩
def MK:Zi X (unaryOp .USub) (rU λi=>.int (-i)):=unI λ_ _ _ _ _ q=>neg_int q
end
section
variable {X:Cx}{a b c:cH}{ta tb tc:TE}{pos:Pos}
def ML (I:Inv X cM σ H s) (q:Q (.bl k) H) (e:k=k'):EP X cM σ Q (.bool k') s:=by
 subst e;exact⟨.bl k,H,I,rfl,q⟩
def Wf:tX X (compareOp .Lt) (Qq λi j=>.bl (decide (i<j))):=Qr λ_ _ _ _ _ _ _ q=>lt_int q
def Wg:tX X (compareOp .LtE) (Qq λi j=>.bl (decide (i<=j))):=Qr λ_ _ _ _ _ _ _ q=>le_int q
def Wh:tX X (compareOp .Gt) (Qq λi j=>.bl (decide (j<i))):=Qr λ_ _ _ _ _ _ _ q=>gt_int q
def Wi:tX X (compareOp .GtE) (Qq λi j=>.bl (decide (j<=i))):=Qr λ_ _ _ _ _ _ _ q=>ge_int q
def TK:tX X (compareOp .Is) (λx y H Q=>y=.eU/\Q (.bl (decide (x=.eU))) H):=by
 intro cM s σ H x y v u Q I rx ry h;obtain⟨rfl,q⟩:=h;cases ry;refine is_none_gen (ML I q ?_);cases x<;>first
  |(cases rx;rfl)
  |(obtain⟨t,rfl⟩:=rx;rfl)
def Qt:tX X (compareOp .IsNot) (λx y H Q=>y=.eU/\Q (.bl (!decide (x=.eU))) H):=by
 intro cM s σ H x y v u Q I rx ry h;obtain⟨rfl,q⟩:=h;cases ry;refine isnot_none_gen (ML I q ?_);cases x<;>first
  |(cases rx;rfl)
  |(obtain⟨t,rfl⟩:=rx;rfl)
def tX.or (h:tX X f r) (h':tX X f r'):tX X f (λx y H Q=>r x y H Q\/r' x y H Q):=by
 intro cM s σ H x y v u Q I rx ry q;rcases q with q|q
 ·exact h cM s σ H x y v u Q I rx ry q
 ·exact h' cM s σ H x y v u Q I rx ry q
theorem yZ (b:cH) (h:op≠.In:=by decide) (h2:op≠.NotIn:=by decide):behindInMarks op b=false:=by
 have e1:(op==CmpOp.In)=false:=by cases op<;>first|rfl|exact absurd rfl h
 have e2:(op==CmpOp.NotIn)=false:=by cases op<;>first|rfl|exact absurd rfl h2
 cases b<;>simp[behindInMarks,e1,e2]
def Qu (ho:tX X (compareOp op) r) (ha:PE X a ta) (hb:PE X b tb) (hm:behindInMarks op b=false):PE X (.Compare a [op] [b] pos) (VA r ta tb):=by
 intro cM s σ H Q I h;exact wpAny_Compare1 (TC ha hb I h λv u s2 x y H2 I2 rx ry q=>ho cM s2 σ H2 x y v u Q I2 rx ry q) hm
noncomputable def Wj (t:TE):TT:=λσ H Q=>t σ H λx H'=>∃k,x=.bl k/\Q k H'
def yB (ho:tX X (compareOp op) r) (ha:PE X a ta) (hb:PE X b tb) (hm:behindInMarks op b=false):PT X (.Compare a [op] [b] pos) (Wj (VA r ta tb)):=by
 intro cM s σ H Q I h;refine wpAny_isTrue_Compare1 (g7 (ha cM s σ H _ I h) λv s1 ⟨x,H1,I1,r1,q1⟩=>g7 (hb cM s1 σ H1 _ I1 q1) λu s2 ⟨y,H2,I2,r2,q2⟩=>
  g7 (ho cM s2 σ H2 x y v u _ I2 r1 r2 q2) λc s3 ⟨z,H3,I3,r3,k,e,q3⟩=>?_) hm
 subst e;cases r3;exact bP ⟨H3,I3,q3⟩
noncomputable def MM (r r':R2) (ta tb tc:TE):TE:=λσ H Q=>ta σ H λx H1=>tb σ H1 λy H2=>r x y H2 λz H3=>∃k,z=.bl k/\
 (if k=true then tc σ H3 λw' H4=>r' y w' H4 Q else Q (.bl false) H3)
def MN (ho:tX X (compareOp op) r) (Mm:tX X (compareOp VB) r') (ha:PE X a ta) (hb:PE X b tb) (hc:PE X c tc) (hm:lastMarks [op,VB] [b,c]=false:=by with_unfolding_all rfl):PE X (.Compare a [op,VB] [b,c] pos) (MM r r' ta tb tc):=by
 intro cM s σ H Q I h;refine Compare_chain (g7 (ha cM s σ H _ I h) λv s1 ⟨x,H1,I1,r1,q1⟩=>chain_link (g7 (hb cM s1 σ H1 _ I1 q1) λu s2 ⟨y,H2,I2,r2,q2⟩=>
  g7 (ho cM s2 σ H2 x y v u _ I2 r1 r2 q2) λd s3 ⟨z,H3,I3,r3,k,e,q3⟩=>?_)) hm
 subst e;cases r3;refine bP ?_;cases k with
 |false=>exact ite_ff ⟨.bl false,H3,I3,rfl,q3⟩
 |true=>exact ite_tt (chain_last (g7 (hc cM s3 σ H3 _ I3 q3) λw' s4 ⟨z',H4,I4,r4,q4⟩=>Mm cM s4 σ H4 y z' u w' Q I4 r2 r4 q4))
def Qv (K:W.Frag) (x:V) (H:Hp) (k:Bool):Prop:=
 match x with
 |.eU=>k=false
 |.bl b=>k=b
 |.int i=>k=(i !=0)
 |.str y=>y.length<=sizeLine/\k=((y.length:Int)!=0)
 |.Vv y=>y.size<=sizeLine/\k=((y.size:Int)!=0)
 |.ref p=>(∃xs,rD K H p xs/\k= !xs.isEmpty)\/(∃xs,mB K H p xs/\k= !xs.isEmpty)\/∃kvs,H p=some (.dK kvs)/\k= !kvs.isEmpty
 |_=>False
def Hz (r:KV kvs vs):(!vs.isEmpty)= !kvs.isEmpty:=by
 cases r<;>rfl
def za (r:Vals xs dE):(!dE.toArray.isEmpty)= !xs.isEmpty:=by
 cases r<;>simp
def wJ:(sizeLine:Nat)<2^63:=by rw[bu];decide
def MO:Zj X (λx H Q=>∃k,Qv X.K x H k/\Q k H):=by
 intro cM s σ H x v Q I rx h;obtain⟨k,e,q⟩:=h;have hl:=wJ;have hs:sizeLine=16777216:=bu;cases x with
 |eU=>
  cases rx;have e':k=false:=e;subst e';exact truthy_none ⟨H,I,q⟩
 |bl b=>
  cases rx;have e':k=b:=e;subst e';exact bP ⟨H,I,q⟩
 |int i=>
  obtain⟨t,rfl⟩:=rx;have e':k=(i !=0):=e;subst e';exact PySem.P.truthy_int ⟨H,I,q⟩
 |str y=>
  obtain⟨t,rfl⟩:=rx;obtain⟨hy,e'⟩:y.length<=sizeLine/\k=((y.length:Int)!=0):=e;subst e';exact PySem.P.truthy_str (by omega) ⟨H,I.tok _,q⟩
 |Vv y=>
  obtain⟨t,rfl⟩:=rx;obtain⟨hy,e'⟩:y.size<=sizeLine/\k=((y.size:Int)!=0):=e;subst e';exact W.truthy_bytes (by omega) ⟨H,I.tok _,q⟩
 |ref p=>
  cases rx;have e':(∃xs,rD X.K H p xs/\k= !xs.isEmpty)\/(∃xs,mB X.K H p xs/\k= !xs.isEmpty)\/∃kvs,H p=some (.dK kvs)/\k= !kvs.isEmpty:=e;rcases e' with⟨xs,hx,e'⟩|⟨xs,hx,e'⟩|⟨kvs,hx,e'⟩
  ·subst e';obtain⟨dE,r,pl,hz⟩:=I.list hx;have hlen:=r.length;exact wpAny_truthy_list pl.isList (by simp only[aq];omega) ⟨H,I.tok _,by rw[za r];exact q⟩
  ·subst e';obtain⟨dE,r,pl,hz⟩:=I.tuple hx;have hlen:=r.length;exact truthy_tuple pl (by simp only[aq];omega) ⟨H,I.tok _,by rw[za r];exact q⟩
  ·subst e';obtain⟨hz,hS,vs,r,m⟩:kvs.length<=sizeLine/\(p==sysModules)=false/\∃vs,KV kvs vs/\s.heap.DictOf (fT X.prog X.w) p vs:=I.gk p _ hx;have hlen:kvs.length=vs.length:=Paired.length r;exact wpAny_truthy_dict hS m (by omega) ⟨H,I.tok _,by rw[Hz r];exact q⟩
 |_=>exact(show False from e).elim
def MP (ha:PE X a ta) (he:∀whole,isTrue a X.env whole=(do let v <-whole;standAt a.pos;holding [v] (truthy v))):
  PT X a (λσ H Q=>ta σ H λx H'=>∃k,Qv X.K x H' k/\Q k H'):=by
 intro cM s σ H Q I h;exact isTrue_plain (g7 (ha cM s σ H _ I h) λv s1 ⟨x,H1,I1,r1,q1⟩=>MO cM s1 σ H1 x v Q I1 r1 q1) (he _)
def vals1 (r:Vals [x] us):∃u,us=[u]/\RelV x u:=by
 cases r with
 |cons r1 r2=>cases r2;exact⟨_,rfl,r1⟩
def vals2 (r:Vals [x,y] us):∃u w',us=[u,w']/\RelV x u/\RelV y w':=by
 cases r with
 |cons r1 r2=>
  cases r2 with
  |cons r3 r4=>cases r4;exact⟨_,_,rfl,r1,r3⟩
def K2 (hc:X.calm=true):i9 X (.builtin "min") (λxs H Q=>∃i j,xs=[.int i,.int j]/\Q (.int (if j<i then j else i)) H):=by
 intro cM s σ H xs us Q I r h;obtain⟨i,j,rfl,q⟩:=h;obtain⟨u,w',rfl,⟨t,rfl⟩,⟨t',rfl⟩⟩:=vals2 r;refine min_two_ints (I.ok.hd hc) λh' tk k=>⟨_,H,I.kept k,?_,q⟩
 by_cases hj:j<i
 ·rw[if_pos hj,if_pos hj];exact⟨_,rfl⟩
 ·rw[if_neg hj,if_neg hj];exact⟨_,rfl⟩
end
structure HA (h:Heap) (x dx C:cG) (mA:cg):Prop where
 obj:h.get? x=some (W.instObj C dx)
 ns:h.Ns1 dx mA
 ne:dx≠x
def K3 {h:Heap}(n:h.Ns1 dx mA):∃od,h.get? dx=some od/\∀name,W.lookIn name od=some (mA name):=by
 obtain⟨o,es,ep,ho,hd,hk,_,hm⟩:=n;refine⟨o,ho,λname=>?_⟩
 have e:=hm name;unfold nsFind findBy at e;rw[<-Array.find?_toList]at e;unfold W.lookIn;rw[hd];dsimp only;split
 ·rename_i y q;rw[q]at e;exact congrArg some e
 ·rename_i q;rw[q]at e;have a:es.toList.any (·.refKey)=false:=by
   rw[any_eq_false];intro y hy;obtain⟨z,t,HB⟩:=hk y (Array.mem_toList_iff.mp hy);simp[DictEntry.refKey,HB]
  have a':¬ es.toList.any (·.refKey)=true:=by rw[a];exact aZ
  rw[if_neg a'];exact congrArg some e
def HA.look (I:HA h x dx C mA):∃od,W.InstAt h x (W.instObj C dx) C (some od)/\∀name,W.lookIn name od=some (mA name):=
 let ⟨od,ho,hl⟩:=K3 I.ns
 ⟨od,⟨I.obj,rfl,rfl,ho⟩,hl⟩
section
variable {prog:cC}{w:cD}{A:cE}{E:cf}{s:cA}{K:W.Frag}{x dx C f:cG}{mA:cg}{name:Str}{v:cy}
def get_map (X:K.In s.heap) (I:HA s.heap x dx C mA) (hg:W.plainGet K C name=true) (hh:W.hasDictIn K C=true) (ha:W.findIn K (.ref C) name=some none) (hv:mA name=some v) (JI:W.handedIn v=true) (h:Q v {s with toks:=s.toks+1}):wpAny (model prog w) A (getAttr (.ref x) name expr) Q E s:=by
 obtain⟨od,J,hl⟩:=I.look;exact W.get_value X J (W.plainGet_of hg).1 (W.findObj_own hh ha rfl (by rw[hl,hv])) JI h
def MQ (X:K.In s.heap) (I:HA s.heap x dx C mA) (hg:W.plainGet K C name=true) (hf:W.findIn K (.ref C) name=some (some (.ref f))) (ht:W.isFn K (.ref f)=true) (hv:mA name=none) (h:Q (.ref f,[.ref x]) s):wpAny (model prog w) A (getMethod (.ref x) name pl) Q E s:=by
 obtain⟨od,J,hl⟩:=I.look;exact W.method_fn X J (W.plainGet_of hg).1 (W.plainGet_of hg).2 hf (beq_iff_eq.mp ht) (by show(W.lookIn name od).map (·.isSome)=some false;rw[hl,hv];rfl) h
def Qw (X:K.In s.heap) (I:HA s.heap x dx C mA) (hs:W.findIn K (.ref C) "__setattr__"=some (some (.builtin "object.__setattr__"))) (hp:W.plainOver K C=true) (ht:W.takerIn K C name=some none) (hh:W.hasDictIn K C=true) (hw:PySem.Within mA ns) (hsz:ns.length<=sizeLine) (h:∀h',HA h' x dx C (λy=>if y=name then some v else mA y)->Heap.SameBut dx s.heap h'->Q () {s with heap:=h',toks:=s.toks+2}):wpAny (model prog w) A (setAttr (.ref x) name v) Q E s:=by
 obtain⟨od,J,hl⟩:=I.look;refine W.set_plain X J hs (W.osa_open (s:={s with toks:=s.toks+1}) (r:=none) X J hp ht λb=>?_)
 obtain⟨cd,hc,R7⟩:=W.any_some hh;have hx:s.heap.get? x=some ⟨.ref C,some dx,.plain,#[]⟩:=I.obj;refine aa (aj (aa (aa (wpAny_loadPart hx (aa (W.Looks.here (s:={s with toks:=s.toks+1}) (W.looks_clsIn X hc) ?_))))))
 rw[R7];refine aj (a:=some dx) (aa (aj (aa ?_)));refine wpAny_nsSet1 (s:={s with toks:=s.toks+1}) I.ns λh' VC K0=>?_
 obtain⟨oD,esD,epD,hoD,hdD,hcD⟩:=VC.count (PySem.Within.cons name v hw);refine aa (wpAny_lookBehind hoD (by rw[hdD];exact pastItsLine_dict (aD hcD (by rw[ay];omega))) ?_)
 exact aj (h _ ⟨(K0.2 _ (Ne.symm I.ne)).trans I.obj,VC,I.ne⟩ K0)
def MR (X:K.In s.heap) (hm:W.makesIn K C=true) (hi:W.findIn K (.ref C) "__init__"=some (some (.ref f))) (hf:W.typeIn K (.ref f)=some (.type "function")) (h:codeAny (model prog w) (A.under (.builtin "type.__call__" ⟨.ref C::vs,kw⟩)) (.call (.ref f) ⟨.ref (s.heap.objs.size+1)::vs,kw⟩) (W.InitBack (s.heap.objs.size+1) R)
   {s with heap:=(s.heap.push W.emptyDict).push (W.instObj C s.heap.objs.size)}):codeAny (model prog w) A (.call (.ref C) ⟨vs,kw⟩) R s:=by
 obtain⟨hh,g,d,t,os⟩:=s;exact W.make_core (W.makes_of X hm) (W.looks_findIn X hi) (λself=>W.bind_fn X self hf) (.inl rfl) h
end
noncomputable def pO (f:Str) (v:V):List (Str×V)->List (Str×V)
 |[]=>[(f,v)]
 |(g,x)::r=>if g=f then(g,v)::r else(g,x)::pO f v r
theorem ja (f g:Str) (v:V):∀fs:List (Str×V),(pO f v fs).lookup g=if g=f then some v else fs.lookup g
 |[]=>by
  show List.lookup g [(f,v)]=_;by_cases h:g=f
  ·have hb:(g==f)=true:=beq_iff_eq.mpr h;simp only[List.lookup,hb,if_pos h]
  ·have hb:(g==f)=false:=beq_eq_false_iff_ne.mpr h;simp only[List.lookup,hb,if_neg h]
 |(k,x)::r=>by
  have ih:=ja f g v r;rw[show pO f v ((k,x)::r)=(if k=f then(k,v)::r else(k,x)::pO f v r)from rfl]
  by_cases hk:k=f
  ·rw[if_pos hk];by_cases h:g=k
   ·have hb:(g==k)=true:=beq_iff_eq.mpr h;simp only[List.lookup,hb,if_pos (h.trans hk)]
   ·have hb:(g==k)=false:=beq_eq_false_iff_ne.mpr h;simp only[List.lookup,hb,if_neg (λe:g=f=>h (e.trans hk.symm))]
  ·rw[if_neg hk];by_cases h:g=k
   ·have hb:(g==k)=true:=beq_iff_eq.mpr h;simp only[List.lookup,hb,if_neg (λe:g=f=>hk (h.symm.trans e))]
   ·have hb:(g==k)=false:=beq_eq_false_iff_ne.mpr h;simp only[List.lookup,hb];exact ih
theorem wK (f:Str) (v:V):∀fs:List (Str×V),f∈(pO f v fs).map (·.1)/\∀g,g∈fs.map (·.1)->g∈(pO f v fs).map (·.1)
 |[]=>⟨by simp[pO],λg h=>by simp at h⟩
 |(k,x)::r=>by
  obtain⟨i1,i2⟩:=wK f v r;rw[show pO f v ((k,x)::r)=(if k=f then(k,v)::r else(k,x)::pO f v r)from rfl]
  by_cases hk:k=f
  ·rw[if_pos hk];subst hk;exact⟨by simp,λg h=>by simpa using h⟩
  ·rw[if_neg hk];refine⟨?_,λg h=>?_⟩
   ·rw[aF];exact ai _ i1
   ·rw[aF]at h ⊢;rcases mem_cons.mp h with e|e
    ·exact mem_cons.mpr (.inl e)
    ·exact ai _ (i2 g e)
theorem xN (f:Str) (v:V):∀fs:List (Str×V),(pO f v fs).length<=fs.length+1
 |[]=>by simp[pO]
 |(k,x)::r=>by
  have ih:=xN f v r;rw[show pO f v ((k,x)::r)=(if k=f then(k,v)::r else(k,x)::pO f v r)from rfl]
  by_cases hk:k=f
  ·rw[if_pos hk,ay,ay];omega
  ·rw[if_neg hk,ay,ay];omega
def rF.some_of (r:rF (some v) o):∃u,o=some u/\RelV v u:=by
 cases o with
 |none=>exact(show False from r).elim
 |some u=>exact⟨u,rfl,r⟩
def rF.none_of (r:rF none o):o=none:=by
 cases o with
 |none=>rfl
 |some u=>exact(show False from r).elim
def K4 (r:RelV v u):W.handedIn u=true:=by
 cases v with
 |eU=>cases (show u=Value.none from r);rfl
 |bl b=>cases (show u=Value.bool b from r);rfl
 |int i=>obtain⟨t,e⟩:=(show ∃t,u=Value.int i t from r);cases e;rfl
 |str x=>obtain⟨t,e⟩:=(show ∃t,u=Value.str x t from r);cases e;rfl
 |Vv b=>obtain⟨t,e⟩:=(show ∃t,u=Value.bytes b t from r);cases e;rfl
 |Th b=>obtain⟨t,e⟩:=(show ∃t,u=Value.float b t from r);cases e;rfl
 |ref a=>cases (show u=Value.ref a from r);rfl
 |ty n=>cases (show u=Value.type n from r);rfl
section
variable {P:cC}{w:cD}{H:Hp}{h:Heap}{a C dx:cG}{fs:List (Str×V)}
theorem mC (gk:ua P w H h) (e:H a=some (.ins C dx fs)):∃mA,HA h a dx C mA/\(∀f,rF (fs.lookup f) (mA f))/\PySem.Within mA (fs.map (·.1))/\fs.length<=1000/\H dx=some (.own a):=by
 obtain⟨d,z,ne,ob,mA,n,r,q⟩:=(show gO P w H h a (.ins C dx fs)from gk a _ e)
 exact⟨mA,⟨ob,n,ne⟩,r,q,z,d⟩
end
structure P9 (K:W.Frag) (C:cG):Prop where
 pg:W.plainGet K C Str.empty=true
 hd:W.hasDictIn K C=true
 po:W.plainOver K C=true
 sa:W.findIn K (.ref C) "__setattr__"=some (some (.builtin "object.__setattr__"))
def P9.get {K:W.Frag}(c:P9 K C) (f:Str):W.plainGet K C f=true:=c.pg
def rJ (K:W.Frag) (C:cG) (f:Str):Prop:=W.findIn K (.ref C) f=some none
def rJ.Wl {K:W.Frag}(n:rJ K C f):W.takerIn K C f=some none:=by
 unfold W.takerIn;rw[show W.findIn K (.ref C) f=some none from n]
 rfl
structure Meth (K:W.Frag) (C:cG) (m:Str) (f:cG):Prop where
 at_:W.findIn K (.ref C) m=some (some (.ref f))
 fn:W.isFn K (.ref f)=true
 kp:W.keepIn K (.ref f)=true
section
variable {X:Cx}{cM:cj}{σ:St}{H:Hp}{s:cA}{a C dx:cG}{fs:List (Str×V)}{f:Str}{v:V}{A:cE}{E:cf}
theorem HC (I:Inv X cM σ H s) (e:H a=some (.ins C dx fs)) (c:P9 X.K C) (n:rJ X.K C f) (l:fs.lookup f=some v) (h:∀u s',Inv X cM σ H s'->RelV v u->Q u s'):wpAny (model X.prog X.w) A (getAttr (.ref a) f b) Q E s:=by
 obtain⟨mA,O,r,_,_,_⟩:=mC I.gk e;obtain⟨u,hu,ru⟩:=rF.some_of (v:=v) (o:=mA f) (by rw[<-l];exact r f)
 exact get_map I.yA O (c.get f) c.hd n hu (K4 ru) (h u _ (I.tok _) ru)
theorem HD (I:Inv X cM σ H s) (e:H a=some (.ins C dx fs)) (c:P9 X.K C) (k:Meth X.K C m g) (l:fs.lookup m=none) (h:Q (.ref g,[.ref a]) s):wpAny (model X.prog X.w) A (getMethod (.ref a) m pl) Q E s:=by
 obtain⟨mA,O,r,_,_,_⟩:=mC I.gk e;have hn:mA m=none:=rF.none_of (by rw[<-l];exact r m)
 exact MQ I.yA O (c.get m) k.at_ k.fn hn h
theorem HE (I:Inv X cM σ H s) (e:H a=some (.ins C dx fs)) (c:P9 X.K C) (n:rJ X.K C f) (hl:fs.length<1000) (ry:RelV y u) (h:∀s',Inv X cM σ (upd H a (.ins C dx (pO f y fs))) s'->Q () s'):wpAny (model X.prog X.w) A (setAttr (.ref a) f u) Q E s:=by
 obtain⟨mA,O,r,wi,_,ho⟩:=mC I.gk e;have hz:(fs.map (·.1)).length<=sizeLine:=by rw[ae,bu];omega
 refine Qw I.yA O c.sa c.po n.Wl c.hd wi hz λh' O' sb=>h _ ?_
 have hd:∃o,h'.get? dx=some o:=let ⟨o,_,_,e',_⟩:=O'.ns;⟨o,e'⟩;refine I.write (x:=a) (e:=dx) (by rw[e];exact True.intro) (.inr ho) (λb q hb z=>(sb.2 b hb).trans z) hd ?_
 refine⟨by rw[dg O.ne];exact ho,?_,O.ne,O'.obj,_,O'.ns,λg=>?_,λg hg=>?_⟩
 ·have:=xN f y fs;omega
 ·show rF ((pO f y fs).lookup g) (if g=f then some u else mA g)
  rw[ja];by_cases q:g=f
  ·rw[if_pos q,if_pos q];exact ry
  ·rw[if_neg q,if_neg q];exact r g
 ·by_cases q:g=f
  ·rw[q];exact(wK f y fs).1
  ·refine(wK f y fs).2 g (wi g λz=>hg ?_)
   show(if g=f then some u else mA g)=none
   rw[if_neg q];exact z
theorem Inv.made (I:Inv X cM σ H s):Inv X cM σ (upd (upd H s.heap.objs.size (.own (s.heap.objs.size+1))) (s.heap.objs.size+1) (.ins C s.heap.objs.size []))
  {s with heap:=(s.heap.push W.emptyDict).push (W.instObj C s.heap.objs.size)}:=by
 have e1:(s.heap.push W.emptyDict).get? s.heap.objs.size=some W.emptyDict:=az s.heap rfl;have e2:((s.heap.push W.emptyDict).push (W.instObj C s.heap.objs.size)).get? (s.heap.objs.size+1)=some (W.instObj C s.heap.objs.size):=by
  have:=az (s.heap.push W.emptyDict) (o:=W.instObj C s.heap.objs.size) rfl
  rwa [Heap.size_push]at this
 have e3:(s.heap.push W.emptyDict).Ns s.heap.objs.size (λ_=>none):=⟨W.emptyDict,#[],_,e1,rfl,(λe he=>absurd he (by simp)),λ_=>rfl⟩
 have I1:=I.laid (a:=s.heap.objs.size) (o:=.own (s.heap.objs.size+1)) (h':=s.heap.push W.emptyDict) (t':=s.toks) (λb u q=>ag _ q) (au _) ⟨_,e1⟩
 refine I1.laid (a:=s.heap.objs.size+1) (o:=.ins C s.heap.objs.size []) (t':=s.toks) (λb u q=>ag _ q) (Nat.le_of_eq (Heap.size_push _ _)) ?_
 have ne:s.heap.objs.size≠s.heap.objs.size+1:=aE (Nat.lt_succ_self _);refine⟨by rw[dg ne,dh],bK _,ne,e2,λ_=>none,(Heap.Ns1.of_empty e3).at λo q=>ag _ q,λ_=>True.intro,λy hy=>absurd rfl hy⟩
theorem Qx {w:cD}{env:Env}{e:cH}{f:Str}{pos:Pos}{s:cA}{Q:cf}(hb:attributeBase e f env (eval e env)=eval e env) (h:wpAny (model prog w) A (eval e env) (λo s₁=>wpAny (model prog w) A (getAttr o f true) Q E s₁) E s):wpAny (model prog w) A (eval (.Attribute e f pos) env) Q E s:=
 Attribute_any_ h (by rw[arm_eval_Attribute,hb])
end
def Wm (K:W.Frag) (ta:TE) (f:Str):TE:=λσ H Q=>ta σ H λx H1=>∃a C dx fs v,x=.ref a/\H1 a=some (.ins C dx fs)/\P9 K C/\rJ K C f/\fs.lookup f=some v/\Q v H1
def Zk (K:W.Frag) (ta tv:TE) (f:Str):TS:=λD σ H=>tv σ H λy H1=>ta σ H1 λx H2=>∃a C dx fs,x=.ref a/\H2 a=some (.ins C dx fs)/\P9 K C/\rJ K C f/\fs.length<1000/\
 D.nx σ (upd H2 a (.ins C dx (pO f y fs)))
section
variable {X:Cx}{o e value:cH}{f:Str}{pos pos':Pos}{ta tv:TE}
def DA (he:PE X e ta) (hb:attributeBase e f X.env (eval e X.env)=eval e X.env):PE X (.Attribute e f pos) (Wm X.K ta f):=by
 intro cM s σ H Q I h;refine Qx hb (g7 (he cM s σ H _ I h) λu s1 ⟨x,H1,I1,rx,a,C,dx,fs,v,ex,ea,c,n,l,q⟩=>?_)
 subst ex;obtain rfl:u=Value.ref a:=rx;exact HC I1 ea c n l λu' s2 I2 ru=>⟨v,H1,I2,ru,q⟩
def MS (ha:PE X o ta) (hv:PE X value tv) (hs:swapsWith value (some (.Attribute o f pos')) pos.line X.env=pure false):PS X (.Assign [.Attribute o f pos'] value pos) (Zk X.K ta tv f):=by
 intro cM s σ H D I h;refine plainObj_wpAny_Assign_Attribute (g7 (hv cM s σ H _ I h) λu s1 ⟨y,H1,I1,ry,q⟩=>g7 (ha cM s1 σ H1 _ I1 q) λov s2 ⟨x,H2,I2,rx,a,C,dx,fs,ex,ea,c,n,l,q2⟩=>?_) hs
 subst ex;obtain rfl:ov=Value.ref a:=rx;exact HE I2 ea c n l ry λs3 I3=>⟨σ,_,I3,q2⟩
end
section
variable {X:Cx}{cM:cj}{σ:St}{H:Hp}{s:cA}{A:cE}{E:cf}{Q:cf}{c:cy}{b:Bool}
inductive ve (K:W.Frag) (H:Hp):V->cy->Prop where
 |eU:ve K H .eU (.type "NoneType")
 |bl (x:Bool):ve K H (.bl x) (.type "bool")
 |int (i:Int):ve K H (.int i) (.type "int")
 |str (x:Str):ve K H (.str x) (.type "str")
 |Th (x:UInt64):ve K H (.Th x) (.type "float")
 |lst {a:cG}{xs:List V}(e:H a=some (.lst xs)):ve K H (.ref a) (.type "list")
 |yT {a:cG}{o:Obj}{xs:List V}(e:H a=some (.yT o (.lst xs))):ve K H (.ref a) (.type "list")
 |tup {a:cG}{xs:List V}(e:H a=some (.tup xs)):ve K H (.ref a) (.type "tuple")
 |dK {a:cG}{kvs:List (Key×V)}(e:H a=some (.dK kvs)):ve K H (.ref a) (.type "dict")
 |dT {a:cG}{kvs:List (List Key×V)}(e:H a=some (.dT kvs)):ve K H (.ref a) (.type "dict")
 |ins {a C dx:cG}{fs:List (Str×V)}(e:H a=some (.ins C dx fs)) (cl:P9 K C) (ha:W.findIn K (.ref C) "__class__"=some (some (.builtin "object.__class__")))
   (hn:W.specialIn K (.builtin "object.__class__") "__get__"=some (some (.builtin "getset_descriptor.__get__"))) (htk:W.takesIn K (.builtin "object.__class__")=some true)
   (hm:W.mroIn K C (.type "object")=some true):ve K H (.ref a) (.ref C)
def K5 (I:Inv X cM σ H s) (rx:RelV x u) (ty:ve X.K H x t) (e:W.kitOne X.K t c=some b) (h:∀tk,Q (.bool b) {s with toks:=tk}):wpAny (model X.prog X.w) A (call (.builtin "isinstance") [u,c]) Q E s:=by
 cases ty with
 |eU=>cases (show u=Value.none from rx);exact bU W.kitx_none I.yA True.intro e (λz=>nomatch z) h
 |bl y=>cases (show u=Value.bool y from rx);exact bU W.kitx_bool I.yA True.intro e (λz=>nomatch z) h
 |int i=>obtain⟨t,q⟩:=(show ∃t,u=Value.int i t from rx);cases q;exact bU W.kitx_int I.yA True.intro e (λz=>nomatch z) h
 |str y=>obtain⟨t,q⟩:=(show ∃t,u=Value.str y t from rx);cases q;exact bU W.kitx_str I.yA True.intro e (λz=>nomatch z) h
 |Th y=>obtain⟨t,q⟩:=(show ∃t,u=Value.float y t from rx);cases q;exact bU W.kitx_float I.yA True.intro e (λz=>nomatch z) h
 |@lst a xs ea=>
  cases (show u=Value.ref a from rx)
  obtain⟨_,_,n,_,h1⟩:=(show gO X.prog X.w H s.heap a (.lst xs)from I.gk a _ ea)
  exact bU W.kitx_list I.yA ⟨_,h1,rfl⟩ e (λz=>nomatch z) h
 |@yT a ob xs ea=>
  cases (show u=Value.ref a from rx)
  obtain⟨_,_,_,n,_,h1⟩:=(show gO X.prog X.w H s.heap a (.yT ob (.lst xs))from I.gk a _ ea)
  exact bU W.kitx_list I.yA ⟨_,h1,rfl⟩ e (λz=>nomatch z) h
 |@tup a xs ea=>
  cases (show u=Value.ref a from rx)
  obtain⟨_,_,_,p⟩:=(show gO X.prog X.w H s.heap a (.tup xs)from I.gk a _ ea)
  obtain⟨o,h1,h2,_⟩:=p;exact bU W.kitx_tuple I.yA ⟨o,h1,h2⟩ e (λz=>nomatch z) h
 |@dK a kvs ea=>
  cases (show u=Value.ref a from rx)
  obtain⟨_,_,vs,_,p⟩:=(show gO X.prog X.w H s.heap a (.dK kvs)from I.gk a _ ea)
  obtain⟨o,es,ep,h1,h2,_⟩:=p;exact bU W.kitx_dict I.yA ⟨o,h1,h2.1⟩ e (λz=>nomatch z) h
 |@dT a kvs ea=>
  cases (show u=Value.ref a from rx)
  obtain⟨_,_,xs,_,o,es,ep,h1,h2,_⟩:=(show gO X.prog X.w H s.heap a (.dT kvs)from I.gk a _ ea)
  exact bU W.kitx_dict I.yA ⟨o,h1,h2.1⟩ e (λz=>nomatch z) h
 |@ins a C dx fs ea cl ha hn htk hm=>
  cases (show u=Value.ref a from rx)
  obtain⟨mA,O,_⟩:=mC I.gk ea;obtain⟨od,J,_⟩:=O.look;exact bU (W.kitx_own (cl.get _) cl.hd ha hn htk hm) I.yA J e (λz=>nomatch z) h
end
structure hW (k:Nat) (A:cE):Prop where
 hd:A.handled=none
 dp:A.depth+3*k+5<recursionLimit
 un:A.units+16*k+200<cLine
 gd:A.guards=some []
def hW.mono (r:hW k A) (h:j<=k):hW j A:=⟨r.hd,by have:=r.dp;omega,by have:=r.un;omega,r.gd⟩
theorem hW.deeper (r:hW (k+1) A) (env:Env):hW k (A.deeper env):=
 ⟨r.hd,by have:=r.dp;show A.depth+1+3*k+5<_;omega,by have:=r.un;show A.units+3+16*k+200<_;omega,r.gd⟩
def HF {A:cE}:(A.under (.builtin "type.__call__" ⟨.ref C::us,kw⟩)).depth=A.depth+1:=by
 first|rfl|simp[Around.under,Code.weight,Code.isCreation,Code.isGuard,Code.isCaller,Code.frames,Code.isFrame,guardIds]
def HG {A:cE}:(A.under (.builtin "type.__call__" ⟨.ref C::us,kw⟩)).units=A.units+1:=by
 first|rfl|simp[Around.under,Code.cUnits,Code.frames,Code.isFrame]
def Fe {A:cE}{C:cG}{us:cx}:(A.under (.builtin "type.__call__" ⟨.ref C::us,kw⟩)).guards=A.guards:=by
 cases A with|mk hd d fr gs u=>cases gs<;>rfl
def hW.make (r:hW (k+1) A) (C:cG) (us:cx) (kw:List (Str×cy)):hW k (A.under (.builtin "type.__call__" ⟨.ref C::us,kw⟩)):=
 ⟨r.hd,by have:=r.dp;rw[HF];omega,by have:=r.un;rw[HG];omega,Fe.trans r.gd⟩
theorem hW.depth (r:hW k A):A.depth<recursionLimit:=by have:=r.dp;omega
theorem hW.units {k:Nat}(r:hW k A):A.units+64<cLine:=by have:=r.un;omega
noncomputable def Zl:TA:=λ_ H Q=>Q [] H
noncomputable def Wo (ta:TE) (tr:TA):TA:=λσ H Q=>ta σ H λx H1=>tr σ H1 λxs H2=>Q (x::xs) H2
section
variable {X:Cx}{e:cH}{es:List cH}{te:TE}{t:TA}{pos:Pos}
def rK:PA X [] Zl:=λ_ _ _ _ H Q I h=>Calls.spliced_nil ⟨[],H,I,.nil,h⟩
def jy (ha:PE X e te) (hr:PA X es t) (hs:starEach (e::es) X.env=(false,eval e X.env)::starEach es X.env:=by rfl):PA X (e::es) (Wo te t):=by
 intro pos cM s σ H Q I h;rw[hs];show wpAny _ _ (spliced ((false,eval e X.env)::backTo pos (starEach es X.env))) _ _ s;refine Calls.spliced_cons (g7 (ha cM s σ H _ I h) λu s1 ⟨x,H1,I1,r1,q1⟩=>?_)
 exact g7 (hr pos cM s1 σ H1 _ I1 q1) λus s2 ⟨xs,H2,I2,r2,q2⟩=>⟨x::xs,H2,I2,.cons r1 r2,q2⟩
def Zm (t:TA):TE:=λσ H Q=>t σ H λxs H1=>xs.length<=sizeLine/\∀p,H1 p=none->Q (.ref p) (upd H1 p (.tup xs))
def Zn (t:TA):TE:=λσ H Q=>t σ H λxs H1=>xs.length<=sizeLine/\∀p,H1 p=none->Q (.ref p) (upd H1 p (.lst xs))
def TL {x1} (h:PA X es t):PE X (.Tuple es x1 pos) (Zm t):=by
 intro cM s σ H Q I hq;refine wpAny_Tuple_spliced (g7 (h pos cM s σ H _ I hq) λus s1 ⟨xs,H1,I1,r,z,q⟩=>⟨by rw[<-r.length];exact z,?_⟩)
 have hf:H1 s1.heap.objs.size=none:=I1.gk.fresh (au _);refine⟨.ref s1.heap.objs.size,upd H1 s1.heap.objs.size (.tup xs),I1.laid (t':=s1.toks) (λb u e=>ag _ e) (au _) ?_,rfl,q _ hf⟩
 exact⟨z,us,r,⟨_,az _ rfl,rfl,_,rfl⟩⟩
def TM (h:PA X es t):PE X (.List es pos) (Zn t):=by
 intro cM s σ H Q I hq;refine wpAny_List_spliced (g7 (h pos cM s σ H _ I hq) λus s1 ⟨xs,H1,I1,r,z,q⟩=>⟨by rw[<-r.length];exact z,?_⟩)
 have hf:H1 s1.heap.objs.size=none:=I1.gk.fresh (au _);refine⟨.ref s1.heap.objs.size,upd H1 s1.heap.objs.size (.lst xs),I1.laid (t':=s1.toks) (λb u e=>ag _ e) (au _) ?_,rfl,q _ hf⟩
 exact⟨z,us,0,r,az _ rfl⟩
end
abbrev Sp:=List V->Hp->VK->XK->Prop
abbrev Qy:=List Env->Hp->cA->XK->cf
structure HH (P:cC) (w:cD) (K:W.Frag) (mg:cg) (base:Heap) (A:cE) (outer:List Env) (s:cA) (H:Hp):Prop where
 frames:A.frames=some outer
 mod:Mod K mg base
 bs:∀b o,base.get? b=some o->s.heap.get? b=some o/\H b=none
 P7:base.objs.size<=s.heap.objs.size
 ym:s.heap.FunFrames base outer
 Tn:∀b∈JA outer,H b=none
 gk:ua P w H s.heap
 bare:AllBare s.gens
 tb:KR K mg base H
def KR.un {K:W.Frag}(t:KR K mg base H) (u:Un fs ex H H' h h'):KR K mg base H':=λx c Pt pos qual hm ht=>by
 obtain⟨⟨m1,e1⟩,hr⟩:=t x c Pt pos qual hm ht;obtain⟨m2,e2⟩:=u.Bl Pt _ e1;exact⟨⟨m1++m2,by rw[e2,Array.append_assoc]⟩,hr⟩
def CE (outer:List Env) (P:cC) (w:cD) (H:Hp) (s:cA) (Q:VK) (u:cy) (s':cA):Prop:=
 ∃v H',s'.os=s.os/\AllBare s'.gens/\Un (JA outer) [] H H' s.heap s'.heap/\ua P w H' s'.heap/\RelV v u/\Q v H'
def CR (CX:Qy) (outer:List Env) (P:cC) (w:cD) (H:Hp) (s:cA) (Q:VK) (E:XK) (r:Result) (s':cA):Prop:=
 match r with
 |.ok (.ret u)=>CE outer P w H s Q u s'
 |.ok _=>False
 |.error e=>CX outer H s E e s'
structure eO (P:cC) (w:cD) (K:W.Frag) (mg:cg) (base:Heap) (CX:Qy) (k:Nat) (f:cG) (fd:cB) (ps:List Str) (sp:Sp):Prop where
 len:∀vs H Q E,sp vs H Q E->vs.length=ps.length
 run:∀(A:cE) (outer:List Env) (s:cA) (H:Hp) (args:Args) (us:cx) (vs:List V) (Q:VK) (E:XK),hW k A->HH P w K mg base A outer s H->BindsTo s fd args (ps.zip us)->Vals vs us->sp vs H Q E->
  codeAny (model P w) A (.call (.ref f) args) (CR CX outer P w H s Q E) s
theorem eO.mono {K:W.Frag}(F:eO P w K mg base CX j f fd ps sp) (h:j<=k):eO P w K mg base CX k f fd ps sp:=⟨F.len,λA outer s H args us vs Q E hr=>F.run A outer s H args us vs Q E (hr.mono h)⟩
def eO.imp {K:W.Frag}(F:eO P w K mg base CX k f fd ps sp) (h:∀vs H Q E,sp' vs H Q E->sp vs H Q E):eO P w K mg base CX k f fd ps sp':=
 ⟨λvs H Q E q=>F.len vs H Q E (h _ _ _ _ q),λA outer s H args us vs Q E hr he hb hv hs=>F.run A outer s H args us vs Q E hr he hb hv (h _ _ _ _ hs)⟩
def HH.make {P:cC}{w:cD}{K:W.Frag}{base:Heap}{A:cE}{outer:List Env}{s:cA}{H:Hp}(e:HH P w K mg base A outer s H) (C:cG) (us:cx) (kw:List (Str×cy)):HH P w K mg base (A.under (.builtin "type.__call__" ⟨.ref C::us,kw⟩)) outer s H:=⟨by first|exact e.frames|(simpa [Around.under,Code.envs,Code.isFrame,pushEnvs]using e.frames),e.mod,e.bs,e.P7,e.ym,e.Tn,e.gk,e.bare,e.tb⟩
section
variable {X:Cx}{cM:cj}{σ:St}{H:Hp}{s s':cA}
def Inv.Wq (I:Inv X cM σ H s):HH X.prog X.w X.K X.mg X.base X.A X.stack s H:=
 ⟨I.ok.frames,I.ok.mod,I.bs,aD I.ok.P7 I.sz,I.stack,I.JB,I.gk,I.bare,I.ok.tb.un I.base⟩
def Inv.after {u:cy}(I:Inv X cM σ H s) (h:CE X.stack X.prog X.w H s Q u s'):EP X cM σ Q u s':=by
 obtain⟨v,H',os,bare,un,gk,r,q⟩:=h;obtain⟨hh,g,d,t,TN⟩:=s';obtain rfl:TN=s.os:=os;exact⟨v,H',I.call (h':=hh) (g':=g) (d':=d) (t':=t) (ch:=[]) un gk bare (λb z=>absurd z (by simp)),r,q⟩
end
noncomputable def Se (sp:Sp) (DB:List V) (E:XK) (t:TA):TE:=λσ H Q=>t σ H λvs H1=>sp (vs++DB) H1 Q E
def Wr (C:cG) (m:Str) (sp:Sp) (DB:List V) (E:XK) (ta:TE) (t:TA):TE:=λσ H Q=>ta σ H λx H1=>∃a dx fs,x=.ref a/\H1 a=some (.ins C dx fs)/\fs.lookup m=none/\
 t σ H1 λvs H2=>sp (x::(vs++DB)) H2 Q E
def Ws (C:cG) (sp:Sp) (DB:List V) (E:XK) (t:TA):TE:=λσ H Q=>t σ H λvs H1=>∀x dx,H1 x=none->H1 dx=none->dx≠x->
 sp (.ref x::(vs++DB)) (upd (upd H1 dx (.own x)) x (.ins C dx [])) (λv H2=>v=.eU/\Q (.ref x) H2) E
def Binds (K:W.Frag) (fd:cB) (ps:List Str) (ds:cx):Prop:=
 ∀(s:cA) (us:cx),K.In s.heap->(us++ds).length=ps.length->BindsTo s fd ⟨us,[]⟩ (ps.zip (us++ds))
def Binds.all {K:W.Frag}{ps:List Str}(h:∀us:cx,us.length=ps.length->bindArgs fd ⟨us,[]⟩=pure (ps.zip us)):Binds K fd ps []:=λs us _ hl=>by
 rw[bB]at hl ⊢;exact .of_eq (h us hl)
def Passes (CX:Qy) (X:Cx) (E:XK):Prop:=∀(cM:cj) (σ:St) (H:Hp) (s:cA) (e:cy) (s':cA),Inv X cM σ H s->CX X.stack H s E e s'->X.xe e s'
section
variable {X:Cx}{CX:Qy}{k:Nat}{f C:cG}{fd:cB}{ps:List Str}{sp:Sp}{DB:List V}{ds:cx}{E:XK}{x m:Str}{p pos apos:Pos}{e o:cH}{es:List cH}{ta:TE}{t:TA}
def MT (F:eO X.prog X.w X.K X.mg X.base CX k f fd ps sp) (hr:hW k X.A) (hb:Binds X.K fd ps ds) (hd:Vals DB ds) (hx:Passes CX X E) (I:Inv X cM σ H s) (r:Vals vs us) (h:sp (vs++DB) H Q E):wpAny (model X.prog X.w) X.A (call (.ref f) us) (EP X cM σ Q) X.xe s:=by
 have r2:Vals (vs++DB) (us++ds):=r.append hd;have hl:(us++ds).length=ps.length:=by rw[<-r2.length];exact F.len _ _ _ _ h
 refine wpAny_call (codeAny_mono (F.run X.A X.stack s H ⟨us,[]⟩ (us++ds) (vs++DB) Q E hr I.Wq (hb s us I.yA hl) r2 h) λr s' hq=>?_)
 cases r with
 |error e=>exact hx cM σ H s e s' I hq
 |ok fl=>
  cases fl with
  |ret u=>exact I.after hq
  |next=>exact False.elim hq
  |brk=>exact False.elim hq
  |cont=>exact False.elim hq
abbrev _root_.cL (e:PySem.Expr) (es:List PySem.Expr) (v:PySem.Env):Prop:=PySem.starEach (e::es) v=(false,PySem.eval e v)::PySem.starEach es v
def DC (F:eO X.prog X.w X.K X.mg X.base CX k f fd ps sp) (hr:hW k X.A) (hg:Gl X x) (hm:X.mg x=some (.ref f)) (hk:W.keepIn X.K (.ref f)=true) (hb:Binds X.K fd ps ds) (hd:Vals DB ds) (hx:Passes CX X E)
  (ha:PA X (e::es) t) (yn:(x==("__debug__":Str))=false:=by decide) (he:cL e es X.env:=by rfl) (mn:(backTo pos (starEach es X.env)).any (·.1)=false:=by rfl):
  PE X (.Call (.Name x p) (e::es) [] pos) (Se sp DB E t):=by
 intro cM s σ H Q I h;refine wpAny_Call_Name_kw (Dy I hg hm ?_ yn);refine W.callWith_K (h₀:=X.base) I.ok.mod.VW hk (g7 (ha pos cM s σ H _ I h) λus s1 ⟨vs,H1,I1,r,q⟩=>⟨I1.yA,?_⟩) he mn
 exact MT F hr hb hd hx I1 r q
def JJ (he:PE X o ta) (c:P9 X.K C) (hm:Meth X.K C m f) (F:eO X.prog X.w X.K X.mg X.base CX k f fd ps sp) (hr:hW k X.A) (hb:Binds X.K fd ps ds) (hd:Vals DB ds) (hx:Passes CX X E) (ha:PA X (e::es) t) (uJ:cL e es X.env:=by rfl) (mn:(backTo pos (starEach es X.env)).any (·.1)=false:=by rfl) (ht:eval (.Call (.Attribute o m apos) (e::es) [] pos) X.env=(do
   let ov <-eval o X.env
   standAt apos.atName
   let (f,first) <-holding [ov] (getMethod ov m pl)
   callWith pos f first (backTo pos (starEach (e::es) X.env)) (backToKw pos (keywordEach [] X.env))):=by rfl):PE X (.Call (.Attribute o m apos) (e::es) [] pos) (Wr C m sp DB E ta t):=by
 intro cM s σ H Q I h;refine W.methodCall_KW (pl:=pl) (g7 (he cM s σ H _ I h) λu s1 ⟨x,H1,I1,rx,a,dx,fs,ex,ea,l,q⟩=>?_) ht
 subst ex;obtain rfl:u=Value.ref a:=rx;refine HD I1 ea c hm l ?_;refine W.callWith_K (first:=[.ref a]) (h₀:=X.base) I.ok.mod.VW hm.kp (g7 (ha pos cM s1 σ H1 _ I1 q) λus s2 ⟨vs,H2,I2,r,q2⟩=>⟨I2.yA,?_⟩) uJ mn
 exact MT (us:=.ref a::us) (vs:=.ref a::vs) F hr hb hd hx I2 (.cons rfl r) q2
structure Mk (K:W.Frag) (C f:cG):Prop where
 makes:W.makesIn K C=true
 init:W.findIn K (.ref C) "__init__"=some (some (.ref f))
 fn:W.isFn K (.ref f)=true
 kp:W.keepIn K (.ref C)=true
def MU {σ:St}{H:Hp}{s:cA}{Q:VK}{us:cx}{vs:List V}(M:Mk X.K C f) (F:eO X.prog X.w X.K X.mg X.base CX k f fd ps sp) (hr:hW (k+1) X.A) (hb:Binds X.K fd ps ds) (hd:Vals DB ds) (hx:Passes CX X E) (I:Inv X cM σ H s) (r:Vals vs us) (h:∀x dx,H x=none->H dx=none->dx≠x->sp (.ref x::(vs++DB)) (upd (upd H dx (.own x)) x (.ins C dx [])) (λv H2=>v=.eU/\Q (.ref x) H2) E):wpAny (model X.prog X.w) X.A (call (.ref C) us) (EP X cM σ Q) X.xe s:=by
 have hq:=h (s.heap.objs.size+1) s.heap.objs.size (I.gk.fresh (Nat.le_succ _)) (I.gk.fresh (au _)) (aE (Nat.lt_succ_self _));have I2:=Inv.made (C:=C) I;have r2:Vals (V.ref (s.heap.objs.size+1)::(vs++DB)) (Value.ref (s.heap.objs.size+1)::(us++ds)):=.cons rfl (r.append hd);have hl:(Value.ref (s.heap.objs.size+1)::us++ds).length=ps.length:=by
  have e:=r2.length;rw[F.len _ _ _ _ hq]at e;exact e.symm
 refine wpAny_call (MR (f:=f) I.yA M.makes M.init (beq_iff_eq.mp M.fn) (codeAny_mono (F.run _ X.stack _ _ ⟨Value.ref (s.heap.objs.size+1)::us,[]⟩ (Value.ref (s.heap.objs.size+1)::(us++ds)) _ _ E (hr.make C us [])
  (I2.Wq.make C us []) (hb _ (Value.ref (s.heap.objs.size+1)::us) I2.yA hl) r2 hq) λr s' Wu=>?_))
 cases r with
 |error e=>exact hx cM σ _ _ e s' I2 Wu
 |ok fl=>
  cases fl with
  |ret u=>
   obtain⟨v,H',I3,rv,ev,q3⟩:=I2.after Wu;subst ev;exact⟨rv,⟨V.ref (s.heap.objs.size+1),H',I3,rfl,q3⟩⟩
  |next=>exact False.elim Wu
  |brk=>exact False.elim Wu
  |cont=>exact False.elim Wu
def Qz (M:Mk X.K C f) (F:eO X.prog X.w X.K X.mg X.base CX k f fd ps sp) (hr:hW (k+1) X.A) (hg:Gl X x) (hm:X.mg x=some (.ref C)) (hb:Binds X.K fd ps ds) (hd:Vals DB ds) (hx:Passes CX X E)
  (ha:PA X (e::es) t) (yn:(x==("__debug__":Str))=false:=by decide) (he:cL e es X.env:=by rfl) (mn:(backTo pos (starEach es X.env)).any (·.1)=false:=by rfl):
  PE X (.Call (.Name x p) (e::es) [] pos) (Ws C sp DB E t):=by
 intro cM s σ H Q I h;refine wpAny_Call_Name_kw (Dy I hg hm ?_ yn);refine W.callWith_K (h₀:=X.base) I.ok.mod.VW M.kp (g7 (ha pos cM s σ H _ I h) λus s1 ⟨vs,H1,I1,r,q⟩=>⟨I1.yA,?_⟩) he mn
 exact MU M F hr hb hd hx I1 r q
end
structure dA (N P:List Str) (sc:Scope):Prop where
 kind:sc.kind=.function:=by rfl
 co:sc.isCoroutine=false:=by rfl
 gen:sc.isGenerator=false:=by rfl
 nd:N.Nodup:=by decide +kernel
 pre:N.take P.length=P:=by rfl
 par:∀x∈P,sc.names.lookup x=some .local\/sc.names.lookup x=some .cell:=by decide +kernel
 TQ:∀y∈sc.names,y.2≠.free:=by decide +kernel
theorem Cd {kindOf:Str->Option NameKind}:∀{binds:List (Str×cy)}{m:cg},(∀v,(x,v)∉binds)->bindL kindOf binds m x=m x
 |[],_,_=>rfl
 |(n,v)::r,m,h=>by
  unfold bindL;rw[Cd λw hw=>h w (ai _ hw)]
  split
  ·have:x≠n:=by rintro rfl;exact h v af
   simp[this]
  ·rfl
theorem Cg {kindOf:Str->Option NameKind}:∀{binds:List (Str×cy)}{m:cg},(∀v,(x,v)∉binds)->bindC kindOf binds m x=m x
 |[],_,_=>rfl
 |(n,v)::r,m,h=>by
  unfold bindC;rw[Cg λw hw=>h w (ai _ hw)]
  split
  ·rfl
  ·have:x≠n:=by rintro rfl;exact h v af
   simp[this]
theorem Ci {kindOf:Str->Option NameKind}:∀{P:List Str}{vs:cx}{i:Nat}{m:cg},P.Nodup->P[i]? =some x->vs[i]? =some v->kindOf x=some .local->
  bindL kindOf (P.zip vs) m x=some v
 |[],_,_,_,_,h,_,_=>by simp at h
 |_::_,[],_,_,_,_,h,_=>by simp at h
 |p::P,w::vs,0,m,nd,h1,h2,hk=>by
  simp at h1 h2;subst h1;subst h2;show bindL kindOf ((p,w)::P.zip vs) m p=_;unfold bindL;rw[Cd λv hv=>(nodup_cons.mp nd).1 (of_mem_zip hv).1,if_pos hk]
  simp
 |p::P,w::vs,i+1,m,nd,h1,h2,hk=>by
  show bindL kindOf ((p,w)::P.zip vs) m x=_;unfold bindL;exact Ci (i:=i) (nodup_cons.mp nd).2 (by simpa using h1) (by simpa using h2) hk
theorem Cj {kindOf:Str->Option NameKind}:∀{P:List Str}{vs:cx}{i:Nat}{m:cg},P.Nodup->P[i]? =some x->vs[i]? =some v->kindOf x≠some .local->
  bindC kindOf (P.zip vs) m x=some v
 |[],_,_,_,_,h,_,_=>by simp at h
 |_::_,[],_,_,_,_,h,_=>by simp at h
 |p::P,w::vs,0,m,nd,h1,h2,hk=>by
  simp at h1 h2;subst h1;subst h2;show bindC kindOf ((p,w)::P.zip vs) m p=_;unfold bindC;rw[Cg λv hv=>(nodup_cons.mp nd).1 (of_mem_zip hv).1,if_neg hk]
  simp
 |p::P,w::vs,i+1,m,nd,h1,h2,hk=>by
  show bindC kindOf ((p,w)::P.zip vs) m x=_;unfold bindC;exact Cj (i:=i) (nodup_cons.mp nd).2 (by simpa using h1) (by simpa using h2) hk
noncomputable def start (N:List Str) (vs:List V):St:=vs.map some++replicate (N.length-vs.length) none
noncomputable def tY (CX:Qy) (P:cC) (w:cD) (K:W.Frag) (mg:cg) (base:Heap) (N:List Str) (qual:Str) (scope:Scope) (f:cG) (cd:cy) (A:cE) (outer:List Env) (s:cA) (H:Hp) (E:XK):Cx where
 prog:=P
 w:=w
 K:=K
 mg:=mg
 base:=base
 A:=A.deeper (envOfC qual scope s.heap.objs.size f cd)
 N:=N
 s₀:=s
 H₀:=H
 env:=envOfC qual scope s.heap.objs.size f cd
 outer:=outer
 stack:=envOfC qual scope s.heap.objs.size f cd::outer
 ex:=[]
 calm:=true
 fn:=λ_=>true
 pn:=[]
 xe:=λe s'=>wpAny (model P w) (A.deeper (envOfC qual scope s.heap.objs.size f cd)) (leaving (envOfC qual scope s.heap.objs.size f cd) e) (λ_ Ff=>CX outer H s E e Ff) (λe' Ff=>CX outer H s E e' Ff) s'
def Fg {sc:Scope}(h:sc.names.lookup x=some .cell):∃c,(cellsFrom n sc.names []).lookup x=some c:=by
 have q:=W.cellsFrom_some sc.names n [] (.inl h);exact Option.isSome_iff_exists.mp q
def K7 {K:W.Frag}(S:dA N ps scope) (hd:A.handled=none) (e0:HH P w K mg base A outer s H) (hl:vs.length=ps.length) (r:Vals vs us) (x:InCallC s s.heap.objs.size (bindL (envOfC qual scope s.heap.objs.size f cd).kindOf (ps.zip us) λ_=>none) (cellsFrom (s.heap.objs.size+1) scope.names []) (bindC (envOfC qual scope s.heap.objs.size f cd).kindOf (ps.zip us) λ_=>none) s1):Inv (tY CX P w K mg base N qual scope f cd A outer s H E) [] (start N vs) H s1:=by
 have mn:ps.length<=N.length:=by have:=congrArg List.length S.pre;rw[bI]at this;omega
 obtain⟨h1,tk,rfl,hk⟩:=x.done;have Wv:∀b:cG,b∉(tY CX P w K mg base N qual scope f cd A outer s H E).ex:=λb z=>absurd (show b∈([]:List cG)from z) (by simp)
 refine⟨⟨e0.mod,S.kind,rfl,rfl,au _,λy z c h1 h2=>?_,λy hy=>?_,λy c _ h=>?_,λ_=>hd,Around.frames_deeper e0.frames,.inr ⟨rfl,rfl⟩,λb z=>absurd z (Wv b),e0.bs,e0.P7,λb _ _=>Wv b,λb z=>absurd z (Wv b),e0.ym,e0.Tn,e0.tb⟩,
  rfl,e0.bare,Un.kept hk,⟨_,x.toInCall.ns,λi y v h1 h2 h3=>?_⟩,λy c h=>⟨_,x.cell y c h⟩,e0.gk.fresh (au _),λy c h=>?_,λp hp=>absurd (show p∈([]:cj)from hp) (by simp),e0.gk.kept hk,?_⟩
 ·exact name_of_addr x.apart (PySem.mem_of_lookup h1) (PySem.mem_of_lookup h2)
 ·have hy:scope.names.lookup y=some .cell\/scope.names.lookup y=some .free:=hy;rcases hy with hy|hy
  ·exact Fg hy
  ·exact absurd rfl (S.TQ _ (PySem.mem_of_lookup hy))
 ·exact bg (x.above y c (PySem.mem_of_lookup h))
 ·have hi:i<vs.length:=by
   unfold start at h2;by_cases hi:i<vs.length
   ·exact hi
   ·rw[aP (by simpa using hi)]at h2
    rw[bf]at h2;split at h2<;>cases h2
  have ha:vs[i]? =some v:=by
   unfold start at h2;rw[aJ (by simpa using hi),av]at h2
   cases e:vs[i]? with
   |none=>rw[e]at h2;cases h2
   |some a=>rw[e]at h2;cases h2;rfl
  obtain⟨u,hu,rv⟩:=r.get ha;have hp:ps[i]? =some y:=by
   rw[<-S.pre,getElem?_take_of_lt (by omega)];exact h1
  have ndP:ps.Nodup:=by rw[<-S.pre];exact S.nd.sublist (take_sublist _ _)
  refine⟨u,rv,?_⟩;rcases S.par y (bh hp)with k|k
  ·exact .inl ⟨k,Ci ndP hp hu k⟩
  ·obtain⟨c,e⟩:=Fg (n:=s.heap.objs.size+1) k;refine .inr ⟨.inl k,c,e,?_⟩;have q:=x.cell y c e;rw[Cj ndP hp hu (by show scope.names.lookup y≠_;rw[k];decide)]at q
   exact q
 ·exact e0.gk.fresh (bg (x.above y c (PySem.mem_of_lookup h)))
 ·unfold start;show _=N.length;rw[aQ,ae,length_replicate];omega
def Sf {CX:Qy}{P:cC}{w:cD}{K:W.Frag}{mg:cg}{base:Heap}{k:Nat}{f:cG}{name qual:Str}{params:Arguments}{body:List cI}{scope:Scope}{dV kV doc pm fD ct oc:cy}{an od:cq}{N ps:List Str}{sp:Sp}(lk:K.lookup f=some ⟨oc,od,.func (W.fnOf name qual params body scope dV kV doc pm an fD ct),TR⟩) (yX:W.codeIn K fD qual=true) (S:dA N ps scope) (len:∀vs H Q E,sp vs H Q E->vs.length=ps.length) (jL:∀(A:cE) (outer:List Env) (s:cA) (H:Hp) (vs:List V) (Q:VK) (E:XK),hW k (A.deeper (envOfC qual scope s.heap.objs.size f fD))->sp vs H Q E->
   ∃t,Dw (tY CX P w K mg base N qual scope f fD A outer s H E) body t/\t {nx:=λ_ H'=>Q .eU H',rt:=Q} (start N vs) H):eO P w K mg base CX (k+1) f (W.fnOf name qual params body scope dV kV doc pm an fD ct) ps sp:=by
 refine⟨len,λA outer s H args us vs Q E hr e0 hb r Qa=>?_⟩
 have hl:=len _ _ _ _ Qa;have KX:K.In s.heap:=e0.mod.VW.keeps λb o e=>(e0.bs b o e).1
 have lim:s.heap.NoLimit:=e0.mod.nolimit.keeps λb o e=>(e0.bs b o e).1
 have Ww:∀y∈ps.zip us,scope.names.lookup y.1=some .local\/(scope.names.lookup y.1=some .cell/\((cellsFrom (s.heap.objs.size+1) scope.names []).lookup y.1).isSome=true):=λ⟨n,v⟩ hy=>by
  rcases S.par n (of_mem_zip hy).1 with q|q
  ·exact .inl q
  ·exact .inr ⟨q,W.cellsFrom_some _ _ _ (.inl q)⟩
 refine codeAny_call_function hr.depth (KX _ _ lk) rfl S.co S.gen rfl (W.codeRec_of KX yX) (hb _ _ _ _ ?_);refine wpAny_newFunctionEnv_cells S.kind Ww λenv he s1 x=>?_
 subst he;refine⟨lim.keeps x.toInCall.keep,codeAny_func ?_⟩;obtain⟨t,ht,hq⟩:=jL A outer s H vs Q E (hr.deeper _) Qa;have I:Inv (tY CX P w K mg base N qual scope f fD A outer s H E) [] (start N vs) H s1:=K7 S hr.hd e0 hl r x;refine bO (ht [] s1 (start N vs) H _ I hq) (λfl s' hs=>?_) λe s' hs=>hs
 have fin:∀{σ':St}{H':Hp}{v:V}{u:cy},Inv (tY CX P w K mg base N qual scope f fD A outer s H E) [] σ' H' s'->RelV v u->Q v H'->CE outer P w H s Q u s':=
  λ{σ' H' v u} J rv q=>⟨v,H',J.os,J.bare,J.base,J.gk,rv,q⟩
 cases fl with
 |ret u=>
  obtain⟨v,σ',H',J,rv,q⟩:=hs;exact fin J rv q
 |next=>
  obtain⟨σ',H',J,q⟩:=hs;exact fin (v:=V.eU) (u:=Value.none) J rfl q
 |brk=>
  obtain⟨_,_,_,q⟩:=hs;exact False.elim q
 |cont=>
  obtain⟨_,_,_,q⟩:=hs;exact False.elim q
section
variable {X:Cx}{x:Str}{p pos:Pos}{e:cH}{es:List cH}{t:TA}{id T:String}{r:List V->Hp->VK->Prop}
noncomputable def Yu (r:List V->Hp->VK->Prop) (t:TA):TE:=λσ H Q=>t σ H λvs H1=>r vs H1 Q
def zd (hc:i9 X (.builtin id) r) (hg:Gl X x) (hm:X.mg x=none) (hv:bootBuiltins x=some (.builtin id)) (ha:PA X (e::es) t) (hn:x≠"__name__":=by decide) (yn:(x==("__debug__":Str))=false:=by decide)
  (he:cL e es X.env:=by rfl) (mn:(backTo pos (starEach es X.env)).any (·.1)=false:=by rfl):PE X (.Call (.Name x p) (e::es) [] pos) (Yu r t):=by
 intro cM s σ H Q I h;refine wpAny_Call_Name_kw (kr I hg hm hv ?_ hn yn);exact PyProof.Rows.callWith_builtin1 (g7 (ha pos cM s σ H _ I h) λus s1 ⟨vs,H1,I1,r1,q1⟩=>hc cM s1 σ H1 vs us Q I1 r1 q1) he mn
def wL (hc:i9 X (.type T) r) (hg:Gl X x) (hm:X.mg x=none) (hv:bootBuiltins x=some (.type T)) (ha:PA X (e::es) t) (hn:x≠"__name__":=by decide) (yn:(x==("__debug__":Str))=false:=by decide)
  (he:cL e es X.env:=by rfl) (mn:(backTo pos (starEach es X.env)).any (·.1)=false:=by rfl):PE X (.Call (.Name x p) (e::es) [] pos) (Yu r t):=by
 intro cM s σ H Q I h;refine wpAny_Call_Name_kw (kr I hg hm hv ?_ hn yn);exact PyProof.Rows.callWith_type1 (g7 (ha pos cM s σ H _ I h) λus s1 ⟨vs,H1,I1,r1,q1⟩=>hc cM s1 σ H1 vs us Q I1 r1 q1) he mn
end
end L2
namespace HT
noncomputable def lexLt:cp->cp->Bool
 |[],[]=>false
 |[],_::_=>true
 |_::_,[]=>false
 |x::xs,y::ys=>if x=y then lexLt xs ys else decide (x<y)
def jb (x y:Int) (xs ys:cp):lexLt (x::xs) (y::ys)=if x=y then lexLt xs ys else decide (x<y):=rfl
def Bo:lexLt [] []=false:=rfl
def rL (y:Int) (ys:cp):lexLt [] (y::ys)=true:=rfl
def rM (x:Int) (xs:cp):lexLt (x::xs) []=false:=rfl
def MV (A:cE) (s:cA) (a:Int) (t:Tok) (c:Int) (u:Tok):∃e,SeqAt.EqAt A s (.int a t) (.int c u) e/\(e=true↔a=c):=
 ⟨(a==c),SeqAt.EqAt.int_int a t c u,by simp⟩
def MW (A:cE) (s:cA) (a:Int) (t:Tok) (c:Int) (u:Tok) (prog:cC) (w:cD) (E:cf) (Q:cf) (h:Q (.bool (decide (a<c))) s):
  wpAny (model prog w) A (richCompare .Lt (.int a t) (.int c u)) Q E s:=
 (PyProof.Rows.lt_int h:wpAny (model prog w) A (compareOp .Lt (.int a t) (.int c u)) Q E s)
section
open PySem.SeqAt
open PySem.AutoSeq1 (wpAny_loadPart')
open PySem.MeetsSeq PySem.MeetsSeq2 PySem.MeetsSeq3
def ub (l b:cG) (items iF:Array cy) (n n2:Nat) (dd Qb:cq) (sl Qc:cu) (ns ms:cp) (hi:IntsAre items.toList ns) (hj:IntsAre iF.toList ms):
  Meets (Builtin.«tuple.__lt__» ⟨[.ref l,.ref b],[]⟩)
   (λ_ R s=>s.heap.get? l=some {cls:=.type "tuple",dict:=dd,data:=.seq items n,slots:=sl}/\s.heap.get? b=some {cls:=.type "tuple",dict:=Qb,data:=.seq iF n2,slots:=Qc}/\
    R (.ok (.ret (.bool (lexLt ns ms)))) s):=
 .of_wp λprog w A R s h=>by
  obtain⟨hp,g,d,tk,os⟩:=s;obtain⟨hl,hb,h⟩:=h;have f2:=AutoSeq1.sub_tuple_tuple;have z1:items.size=ns.length:=by rw[<-hi.length];simp
  have z2:iF.size=ms.length:=by rw[<-hj.length];simp
  wp_walk using wpAny_loadPart' hl,wpAny_loadPart' hb,wpAny_forIn_list _ (λrest b s'=>b.1=none/\s'=⟨hp,g,d,tk,os⟩/\∃(vs ws:cx) (E5 VD:cp),rest=vs.zip ws/\
   IntsAre vs E5/\IntsAre ws VD/\E5.length+iF.size=VD.length+items.size/\R (.ok (.ret (.bool (lexLt E5 VD)))) ⟨hp,g,d,tk,os⟩) _
  case turn=>
   rintro⟨y,x⟩ rest b s' ⟨QA,rfl,vs,ws,E5,VD,hz,Zo,Yv,hlen,hR⟩
   cases Zo with
   |nil=>rw[zip_nil_left]at hz;cases hz
   |cons a t Zp=>
    cases Yv with
    |nil=>rw[zip_nil_right]at hz;cases hz
    |cons c u Zq=>
     rw[zip_cons_cons]at hz;injection hz with hyx Wx
     injection hyx with hy hx
     subst hy hx;rw[jb]at hR;simp only[ay]at hlen;obtain⟨e,he,Wy⟩:=MV A.in1 ⟨hp,g,d,tk,os⟩ a t c u;refine aa (he prog w _ _ ?_);cases e with
     |true=>
      rw[if_pos (Wy.mp rfl)]at hR
      wp_walk
      exact⟨rfl,rfl,_,_,_,_,Wx,Zp,Zq,by omega,hR⟩
     |false=>
      rw[if_neg (λq=>absurd (Wy.mpr q) aZ)]at hR
      have hri:=MW A.in1 ⟨hp,g,d,tk,os⟩ a t c u prog w
      wp_walk using hri
      exact⟨_,rfl,by simpa using hR⟩
  case fin=>
   rintro⟨b1,b2⟩ s' ⟨QA,rfl,vs,ws,E5,VD,hz,Zo,Yv,hlen,hR⟩
   simp only at QA;subst QA;have hv:lexLt E5 VD=decide (items.size<iF.size):=by
    cases Zo with
    |nil=>
     cases Yv with
     |nil=>
      simp only[length_nil]at hlen;rw[Bo];exact(aH (by omega)).symm
     |cons c u hw=>
      simp only[length_nil,ay]at hlen;rw[rL];exact(aR (by omega)).symm
    |cons a t hv=>
     cases Yv with
     |nil=>
      simp only[length_nil,ay]at hlen;rw[rM];exact(aH (by omega)).symm
     |cons c u hw=>
      rw[zip_cons_cons]at hz;cases hz
   rw[hv]at hR
   wp_walk
   exact⟨_,rfl,by simpa [Builtin.Tuple.tupleCompareSizes]using hR⟩
  case h=>
   exact⟨rfl,rfl,items.toList,iF.toList,ns,ms,rfl,hi,hj,by omega,h⟩
end
section
variable {prog:cC}{w:cD}{A:cE}{E:cf}{s:cA}
def ze (hl:IsTup s.heap l items) (hb:IsTup s.heap b iF) (hi:IntsAre items.toList ns) (hj:IntsAre iF.toList ms) (hu:A.units<cLine) (h:Q (.bool (lexLt ns ms)) s):wpAny (model prog w) A (compareOp .Lt (.ref l) (.ref b)) Q E s:=by
 obtain⟨⟨cls,dd,data,sl⟩,ho,hc,n,hd⟩:=id hl;obtain⟨⟨TU,Qb,data2,Qc⟩,zf,vf,n2,hd2⟩:=id hb;simp only at hc hd vf hd2;subst hc hd vf hd2;exact richCompare_meets_room (op:=.Lt) ⟨_,ho,rfl⟩ ⟨_,zf,rfl⟩ PySem.F.slot_tuple_lt PySem.F.entry_tuple_lt (PySem.F.args_tuple_lt_2 _ _) (ub l b items iF n n2 dd Qb sl Qc ns ms hi hj)
  ⟨ho,zf,show Value.bool (lexLt ns ms)≠Value.notImplemented/\Q (.bool (lexLt ns ms)) s from⟨(λx=>nomatch x),h⟩⟩ hu
def QB (ht:IsTup s.heap t vs.toArray) (hb:IsTup s.heap b ws.toArray) (hv:vs≠[]) (h1:ws=[]->Q (.ref t) s) (h2:ws≠[]->Q (.ref s.heap.objs.size) {s with heap:=s.heap.push {cls:=.type "tuple",data:=.seq (vs++ws).toArray}}) (hsz:vs.length+ws.length<=sizeLine):wpAny (model prog w) A (binaryOp .Add (.ref t) (.ref b)) Q E s:=by
 obtain⟨⟨cls,dd,data,sl⟩,ho,hc,n,hd⟩:=id ht;obtain⟨⟨TU,Qb,data2,Qc⟩,zf,vf,n2,hd2⟩:=id hb;simp only at hc hd vf hd2;subst hc hd vf hd2;have e:vs.toArray++ws.toArray=(vs++ws).toArray:=by simp
 by_cases hw:ws=[]
 ·exact concat_meets ⟨_,ho,rfl⟩ ⟨_,zf,rfl⟩ noFill_tuple_add seq_tuple_add PySem.F.slot_tuple_add PySem.F.entry_tuple_add (PySem.F.args_tuple_add_2 _ _)
   (tuple_addW1 t b vs.toArray ws.toArray n n2 dd Qb sl Qc (by simpa using hv) (by simp[hw])) ⟨ho,zf,h1 hw⟩
 ·refine concat_meets ⟨_,ho,rfl⟩ ⟨_,zf,rfl⟩ noFill_tuple_add seq_tuple_add PySem.F.slot_tuple_add PySem.F.entry_tuple_add (PySem.F.args_tuple_add_2 _ _)
   (tuple_addW2 t b vs.toArray ws.toArray n n2 dd Qb sl Qc (by simpa using hv) (by simpa using hw) (by rw[aq,aq];exact hsz)) ⟨ho,zf,?_⟩
  rw[e];exact h2 hw
noncomputable def i8 (n d:Nat):Option Int->Nat
 |none=>d
 |some v=>if v<0 then(v+(n:Int)).toNat else min v.toNat n
def TV (n d:Nat) (hd:d<=n) (o:Option Int):i8 n d o<=n:=by
 cases o with
 |none=>exact hd
 |some v=>
  show(if v<0 then(v+(n:Int)).toNat else min v.toNat n)<=n
  by_cases hv:v<0
  ·rw[if_pos hv];omega
  ·rw[if_neg hv];exact Nat.min_le_right _ _
def JK (v:Int) (n d:Nat):(if v<0 then max (v+(n:Int)) 0 else min v (n:Int))=((i8 n d (some v):Nat):Int):=by
 show(if v<0 then max (v+(n:Int)) 0 else min v (n:Int))=(((if v<0 then(v+(n:Int)).toNat else min v.toNat n):Nat):Int)
 by_cases hv:v<0
 ·simp only[if_pos hv];omega
 ·simp only[if_neg hv];omega
def HI (lo hi:Option Int) (n:Nat):Builtin.Slice.sliceAdjust lo hi 1 (n:Int)=(((i8 n 0 lo:Nat):Int),((i8 n n hi:Nat):Int)):=by
 have h1:¬ ((1:Int)<0):=by omega
 unfold Builtin.Slice.sliceAdjust;simp only[h1,bD];refine Prod.ext ?_ ?_
 ·cases lo with
  |none=>rfl
  |some v=>exact JK v n 0
 ·cases hi with
  |none=>rfl
  |some v=>exact JK v n n
def HJ (i j:Nat):Builtin.Slice.slicePlaces (i:Int) (j:Int) 1=j-i:=by
 unfold Builtin.Slice.slicePlaces;have h1:(1:Int)>0:=by omega
 simp only[h1,if_true,Int.ediv_one];split<;>omega
def mW (p:IsPart v o) (h:Q o s):wpAny (model prog w) A (Builtin.Slice.slicePartIndex v) Q E s:=by
 cases p with
 |none=>exact slicePart_none h
 |int i t=>exact slicePart_int h
def oU {sl:cG}{vl vu:cy}{lo hi:Option Int}{n:Nat}(hs:s.heap.IsSliceOf sl vl vu .none) (pl:IsPart vl lo) (pu:IsPart vu hi) (h:Q (((i8 n 0 lo:Nat):Int),1,i8 n n hi-i8 n 0 lo) s):wpAny (model prog w) A (Builtin.Slice.sliceApplied (.ref sl) (pure (n:Int))) Q E s:=by
 obtain⟨os,K8,Qd,Qe⟩:=id hs;unfold Builtin.Slice.sliceApplied Builtin.Slice.sliceFields;refine aa (aa (wpAny_field K8 Qe (x:=vl) rfl (aa (wpAny_field K8 Qe (x:=vu) rfl (aa (wpAny_field K8 Qe (x:=.none) rfl (aj ?_)))))));refine aa (slicePart_none ?_);show wpAny _ _ (if((1:Int)==0)=true then _ else _) _ _ s
 rw[if_neg (by decide)]
 refine aa (mW pl (aa (mW pu (aa (aj ?_)))));show wpAny _ _ (match Builtin.Slice.sliceAdjust lo hi 1 (n:Int)with|(lo,hi)=>pure (lo,(1:Int),Builtin.Slice.slicePlaces lo hi 1)) _ _ s
 rw[HI lo hi n];show wpAny _ _ (pure (((i8 n 0 lo:Nat):Int),(1:Int),Builtin.Slice.slicePlaces ((i8 n 0 lo:Nat):Int) ((i8 n n hi:Nat):Int) 1)) _ _ s;rw[HJ];exact aj h
def MX (xs:Array cy) (i k:Nat):((List.range k).filterMap λ(m:Nat)=>xs[((i:Int)+(m:Int)*1).toNat]?).toArray=((xs.toList.drop i).take k).toArray:=by
 have e:(λ(m:Nat)=>xs[((i:Int)+(m:Int)*1).toNat]?)=λm=>xs[i+m]? :=by
  funext m
  have:((i:Int)+(m:Int)*1).toNat=i+m:=by omega
  rw[this]
 rw[e];have:=pick_run xs i k;rw[filterMap_map]at this;have e2:((λx=>xs[x]?)∘λx=>i+x)=λm=>xs[i+m]? :=rfl
 rw[e2]at this;rw[this]
def vg {t sl:cG}{items:Array cy}{vl vu:cy}{lo hi:Option Int}(ht:IsTup s.heap t items) (hs:s.heap.IsSliceOf sl vl vu .none) (pl:IsPart vl lo) (pu:IsPart vu hi) (hw:¬ (i8 items.size 0 lo=0/\i8 items.size items.size hi=items.size)) (h:Q (.ref s.heap.objs.size) {s with heap:=s.heap.push {cls:=.type "tuple",data:=.seq ((items.toList.drop (i8 items.size 0 lo)).take (i8 items.size items.size hi-i8 items.size 0 lo)).toArray}}) (hsz:items.size<=sizeLine):wpAny (model prog w) A (getItem (.ref t) (.ref sl)) Q E s:=by
 have vh:sizeOk (.seq ((items.toList.drop (i8 items.size 0 lo)).take (i8 items.size items.size hi-i8 items.size 0 lo)).toArray):=by
  show((items.toList.drop (i8 items.size 0 lo)).take (i8 items.size items.size hi-i8 items.size 0 lo)).toArray.size<=sizeLine;rw[aq,bI,length_drop,aN];omega
 have hj:i8 items.size items.size hi<=items.size:=TV _ _ (au _) hi;obtain⟨os,K8,Qd,Qe⟩:=id hs;have Wz:s.TypeIs (.ref sl) "slice":=⟨os,K8,Qd⟩;unfold getItem;try with_reducible refine bj ?_
 first|refine aa (aj ?_)|skip
 refine aa (wpAny_sequenceKey ht.typeIs (by decide) ?_)
 refine aa (wpAny_callSpecial?_slot (name:=Str.ofString "__getitem__") ht.typeIs PyProof.Rows.slot_tuple_getitem
  (bL PyProof.Rows.slot_tuple_getitem ht.typeIs entry_tuple_getitem ?_ (args_tuple_getitem _ _)))
 show wpAny _ _ (Builtin.Tuple.tupleItemsOf (.ref t)>>=_) _ _ s;refine aa (tupleItemsOf_ ht ?_);refine aa (wpAny_typeOf Wz ?_);rw[if_pos (by decide)]
 refine aa (oU hs pl pu ?_);have WA:¬ ((((i8 items.size 0 lo:Nat):Int)==0&&(1:Int)==1&&(i8 items.size items.size hi-i8 items.size 0 lo)==items.size)=true):=by
  intro q;rw[Bool.and_eq_true,Bool.and_eq_true]at q;have q1:((i8 items.size 0 lo:Nat):Int)=0:=eq_of_beq q.1.1;have q2:i8 items.size items.size hi-i8 items.size 0 lo=items.size:=eq_of_beq q.2;exact hw ⟨by omega,by omega⟩
 show wpAny _ _ (if(((i8 items.size 0 lo:Nat):Int)==0&&(1:Int)==1&&(i8 items.size items.size hi-i8 items.size 0 lo)==items.size)=true then _ else _) _ _ s
 rw[if_neg WA,MX]
 first
  |exact aa (m:=Builtin.Tuple.tupleExact _) (bQ (aj ⟨_,rfl,aj h⟩) vh)
  |exact aa (m:=Builtin.Tuple.tupleExact _) (bQ (aa (aj (aj ⟨_,rfl,aj h⟩))) vh)
  |exact aa (aa (m:=Builtin.Tuple.tupleExact _) (bQ (aj (aj ⟨_,rfl,aj h⟩)) vh))
  |exact aa (aa (m:=Builtin.Tuple.tupleExact _) (bQ (aj ⟨_,rfl,aj h⟩) vh))
end
end HT
namespace L2
abbrev TO:=St->Hp->(Option Int->Hp->Prop)->Prop
def PO (X:Cx) (e:Option cH) (t:TO):Prop:=
 ∀(cM:cj) (s:cA) (σ:St) (H:Hp) (Q:Option Int->Hp->Prop),Inv X cM σ H s->t σ H Q->
  wpAny (model X.prog X.w) X.A (evalPart e X.env) (λu s'=>∃o H',Inv X cM σ H' s'/\IsPart u o/\Q o H') X.xe s
noncomputable def QC:TO:=λ_ H Q=>Q none H
noncomputable def WC (t:TE):TO:=λσ H Q=>t σ H λx H1=>∃i,x=.int i/\Q (some i) H1
def intsAre_of:∀{us:cx},Vals (ns.map V.int) us->IntsAre us ns:=by
 induction ns with
 |nil=>intro us r;rw[map_nil]at r;cases r;exact .nil
 |cons n ns ih=>
  intro us r;rw[aF]at r;cases r with
  |cons r1 r2=>
   obtain⟨t,e⟩:=r1;subst e;exact .cons n t (ih r2)
section
variable {X:Cx}{e:cH}{te:TE}{lo hi:Option cH}{tl th:TO}{pos p2:Pos}
def QD:PO X none QC:=by
 intro cM s σ H Q I h;rw[evalPart_none];exact aj ⟨none,H,I,.none,h⟩
def QE (h:PE X e te):PO X (some e) (WC te):=by
 intro cM s σ H Q I hw;rw[evalPart_some];refine g7 (h cM s σ H _ I hw) λu s1 ⟨x,H1,I1,r1,q1⟩=>?_
 obtain⟨i,rfl,q⟩:=q1;obtain⟨t,rfl⟩:=r1;exact⟨some i,H1,I1,.int i t,q⟩
def Sg (X:Cx) (r:V->Option Int->Option Int->Hp->VK->Prop):Prop:=
 ∀(cM:cj) (s:cA) (σ:St) (H:Hp) (x:V) (v vl vu:cy) (lo hi:Option Int) (sl:cG) (Q:VK),Inv X cM σ H s->RelV x v->s.heap.IsSliceOf sl vl vu .none->IsPart vl lo->IsPart vu hi->r x lo hi H Q->
  ∃T id,typeLookup (.type T) "__getitem__"=pure (some (.builtin id))/\s.TypeIs v T/\wpAny (model X.prog X.w) X.A (getItem v (.ref sl)) (EP X cM σ Q) X.xe s
def Sg.or (h:Sg X r) (h':Sg X r'):Sg X (λx lo hi H Q=>r x lo hi H Q\/r' x lo hi H Q):=by
 intro cM s σ H x v vl vu lo hi sl Q I rx hs pl pu q;rcases q with q|q
 ·exact h cM s σ H x v vl vu lo hi sl Q I rx hs pl pu q
 ·exact h' cM s σ H x v vl vu lo hi sl Q I rx hs pl pu q
noncomputable def tSl (r:V->Option Int->Option Int->Hp->VK->Prop) (te:TE) (tl th:TO):TE:=λσ H Q=>te σ H λx H1=>tl σ H1 λl H2=>th σ H2 λu H3=>r x l u H3 Q
def Fh (hr:Sg X r) (he:PE X e te) (hl:PO X lo tl) (hu:PO X hi th):PE X (.Subscript e (.Slice lo hi none p2) pos) (tSl r te tl th):=by
 intro cM s σ H Q I h;refine Subscript_ (g7 (he cM s σ H _ I h) λv s1 ⟨x,H1,I1,r1,q1⟩=>?_)
 refine wpAny_Slice (g7 (hl cM s1 σ H1 _ I1 q1) λvl s2 ⟨l,H2,I2,pl,q2⟩=>g7 (hu cM s2 σ H2 _ I2 q2) λvu s3 ⟨u,H3,I3,pu,q3⟩=>?_)
 rw[evalPart_none];refine aj ?_;have I4:Inv X cM σ H3 {s3 with heap:=s3.heap.push {cls:=.type "slice",data:=.fields #[vl,vu,.none]}}:=I3.kept (t':=s3.toks) λb ob q=>ag _ q
 obtain⟨T,id,hT,ht,hg⟩:=hr cM {s3 with heap:=s3.heap.push {cls:=.type "slice",data:=.fields #[vl,vu,.none]}} σ H3 x v vl vu l u s3.heap.objs.size Q I4 r1 (Heap.IsSliceOf.new ..) pl pu q3
 show wpAny (model X.prog X.w) X.A (subscriptTail e (.Slice lo hi none p2) v (.ref s3.heap.objs.size)) (EP X cM σ Q) X.xe {s3 with heap:=s3.heap.push {cls:=.type "slice",data:=.fields #[vl,vu,.none]}}
 exact tail_any (ops:=[.ref s3.heap.objs.size,v]) ht hT hg (by with_unfolding_all rfl)
def Fj (xs:List V) (lo hi:Option Int):List V:=(xs.drop (HT.i8 xs.length 0 lo)).take (HT.i8 xs.length xs.length hi-HT.i8 xs.length 0 lo)
def xO (xs:List V) (lo hi:Option Int):(Fj xs lo hi).length<=xs.length:=by
 unfold Fj;rw[bI,length_drop];omega
def Zr (K:W.Frag):V->Option Int->Option Int->Hp->VK->Prop:=λx lo hi H Q=>∃a xs,x=.ref a/\mB K H a xs/\
 ¬ (HT.i8 xs.length 0 lo=0/\HT.i8 xs.length xs.length hi=xs.length)/\∀p,H p=none->Q (.ref p) (upd H p (.tup (Fj xs lo hi)))
def TX:Sg X (Zr X.K):=by
 intro cM s σ H x v vl vu lo hi sl Q I rx hs pl pu h;obtain⟨a,xs,rfl,hx,hw,q⟩:=h;cases rx;obtain⟨dE,r,ht,hz⟩:=I.tuple hx;have hlen:dE.toArray.size=xs.length:=by rw[aq];exact r.length.symm
 refine⟨"tuple",_,PyProof.Rows.slot_tuple_getitem.lookup,ht.typeIs,?_⟩;refine HT.vg ht hs pl pu (by rw[hlen];exact hw) ?_ (by rw[hlen];exact hz)
 rw[hlen];refine⟨.ref s.heap.objs.size,_,I.laid (t':=s.toks) (o:=.tup (Fj xs lo hi)) (λb ob q=>ag _ q) (au _) ?_,rfl,q _ (I.gk.fresh (au _))⟩
 exact⟨aD (xO xs lo hi) hz,_,(r.drop (HT.i8 xs.length 0 lo)).take (HT.i8 xs.length xs.length hi-HT.i8 xs.length 0 lo),IsTup.new _ _⟩
def Zs (K:W.Frag):R2:=λx y H Q=>∃a b ns ms,x=.ref a/\y=.ref b/\mB K H a (ns.map V.int)/\mB K H b (ms.map V.int)/\Q (.bl (HT.lexLt ns ms)) H
def TY (hu:X.A.units<cLine):tX X (compareOp .Lt) (Zs X.K):=by
 intro cM s σ H x y v u Q I rx ry h;obtain⟨a,b,ns,ms,rfl,rfl,ha,hb,q⟩:=h;cases rx;cases ry;obtain⟨dE,r1,p1,_⟩:=I.tuple ha;obtain⟨mD,r2,p2,_⟩:=I.tuple hb;have i1:IntsAre dE.toArray.toList ns:=intsAre_of r1;have i2:IntsAre mD.toArray.toList ms:=intsAre_of r2;exact HT.ze p1 p2 i1 i2 hu ⟨.bl (HT.lexLt ns ms),H,I,rfl,q⟩
def Sh (K:W.Frag):R2:=λx y H Q=>∃a b xs ys,x=.ref a/\y=.ref b/\mB K H a xs/\mB K H b ys/\xs≠[]/\xs.length+ys.length<=sizeLine/\
 (ys=[]->Q (.ref a) H)/\(ys≠[]->∀p,H p=none->Q (.ref p) (upd H p (.tup (xs++ys))))
def Vals.DD {us:cx}(r:Vals xs us):us=[]↔xs=[]:=by
 cases r with
 |nil=>simp
 |cons _ _=>simp
def QF:tX X (binaryOp .Add) (Sh X.K):=by
 intro cM s σ H x y v u Q I rx ry h;obtain⟨a,b,xs,ys,rfl,rfl,ha,hb,hx,hz,q1,q2⟩:=h;cases rx;cases ry;obtain⟨dE,r1,p1,_⟩:=I.tuple ha;obtain⟨mD,r2,p2,_⟩:=I.tuple hb;refine HT.QB p1 p2 (λz=>hx (r1.DD.mp z)) (λz=>⟨.ref a,H,I,rfl,q1 (r2.DD.mp z)⟩) (λz=>?_) (by rw[<-r1.length,<-r2.length];exact hz)
 refine⟨.ref s.heap.objs.size,_,I.laid (t':=s.toks) (o:=.tup (xs++ys)) (λb ob q=>ag _ q) (au _) ?_,rfl,q2 (λw=>z (r2.DD.mpr w)) _ (I.gk.fresh (au _))⟩
 exact⟨by rw[aQ];exact hz,_,r1.append r2,IsTup.new _ _⟩
end
noncomputable def E6 (n:Nat) (i:Int):Option Nat:=if 0<=i then(if i<n then some i.toNat else none)else if -(n:Int)<=i then some (i+n).toNat else none
def mE {α:Type}(xs:List α) (i:Int):Option α:=(E6 xs.length i).bind λj=>xs[j]?
def QG (h:E6 n i=some j):seqIndex? i n=some j/\j<n/\-(n:Int)<=i/\i<n:=by
 unfold E6 at h;by_cases h0:0<=i
 ·rw[if_pos h0]at h;by_cases h1:i<n
  ·rw[if_pos h1]at h;have e:i.toNat=j:=aS h;exact⟨by rw[seqIndex_of h0 h1,e],by omega,by omega,h1⟩
  ·rw[if_neg h1]at h;cases h
 ·rw[if_neg h0]at h;by_cases h1: -(n:Int)<=i
  ·rw[if_pos h1]at h;have e:(i+n).toNat=j:=aS h;exact⟨by rw[seqIndex_neg (by omega) h1,e],by omega,h1,by omega⟩
  ·rw[if_neg h1]at h;cases h
def DE (h:mE xs i=some v):∃j,seqIndex? i xs.length=some j/\xs[j]? =some v/\j<xs.length/\-(xs.length:Int)<=i/\i<xs.length:=by
 unfold mE at h;cases e:E6 xs.length i with
 |none=>rw[e]at h;cases h
 |some j=>
  rw[e]at h;obtain⟨h1,h2,h3,h4⟩:=QG e;exact⟨j,h1,h,h2,h3,h4⟩
def yC (b:cH):Prop:=∀o i,subscripted b false o i=operate [o,i] (getItem o i)
def MY (X:Cx) (r:R2):Prop:=
 ∀(value slice:cH) (cM:cj) (s:cA) (σ:St) (H:Hp) (x y:V) (v u:cy) (Q:VK),Inv X cM σ H s->RelV x v->RelV y u->r x y H Q->
  subscripted slice false v u=operate [v,u] (getItem v u)->wpAny (model X.prog X.w) X.A (subscriptTail value slice v u) (EP X cM σ Q) X.xe s
def MtR (X:Cx) (id:String) (r:V->List V->Hp->VK->Prop):Prop:=
 ∀(cM:cj) (s:cA) (σ:St) (H:Hp) (x:V) (xs:List V) (v:cy) (us:cx) (Q:VK),Inv X cM σ H s->RelV x v->Vals xs us->r x xs H Q->
  wpAny (model X.prog X.w) X.A (call (.builtin id) (v::us)) (EP X cM σ Q) X.xe s
section
variable {X:Cx}{a b:cH}{ta tb:TE}{pos:Pos}
def MY.or (h:MY X r) (h':MY X r'):MY X (λx y H Q=>r x y H Q\/r' x y H Q):=by
 intro value slice cM s σ H x y v u Q I rx ry q hs;rcases q with q|q
 ·exact h value slice cM s σ H x y v u Q I rx ry q hs
 ·exact h' value slice cM s σ H x y v u Q I rx ry q hs
def Si (hr:MY X r) (ha:PE X a ta) (hb:PE X b tb) (hs:yC b):PE X (.Subscript a b pos) (VA r ta tb):=by
 intro cM s σ H Q I h;exact Subscript_ (TC ha hb I h λv u s2 x y H2 I2 rx ry q=>hr a b cM s2 σ H2 x y v u Q I2 rx ry q (hs _ _))
def WE (K:W.Frag):R2:=λx y H Q=>∃p xs i v,x=.ref p/\y=.int i/\rD K H p xs/\mE xs i=some v/\Q v H
def WG (K:W.Frag):R2:=λx y H Q=>∃p xs i v,x=.ref p/\y=.int i/\mB K H p xs/\mE xs i=some v/\Q v H
def WH:R2:=λx y H Q=>∃z i c,x=.str z/\y=.int i/\z.length<=sizeLine/\mE z.cps.toList i=some c/\Q (.str ⟨#[c]⟩) H
def QH:MY X (WE X.K):=by
 intro value slice cM s σ H x y v u Q I rx ry h hs;obtain⟨p,xs,i,z,rfl,rfl,hq,he,q⟩:=h;cases rx;obtain⟨t,rfl⟩:=ry;obtain⟨dE,r,pl,hz⟩:=I.list hq;obtain⟨j,h1,h2,h3,h4,h5⟩:=DE he;obtain⟨w,ew,QI⟩:=r.get h2;have hl:=r.length;have hn:=wJ;have fin:EP X cM σ Q w s:=⟨z,H,I,QI,q⟩;by_cases h0:0<=i
 ·have hj:i.toNat=j:=by
   rw[seqIndex_of h0 h5]at h1;exact aS h1
  exact item_listR pl.isList h0 (by omega) (by rw[hj];simpa using ew) fin hs
 ·have hj:(i+(dE.toArray.size:Int)).toNat=j:=by
   rw[seqIndex_neg (by omega) h4]at h1
   rw[aq,<-hl];exact aS h1
  exact subscriptTail_builtinR (x:=w) pl.isList.typeIs slot_list_getitem.lookup
   (wpAny_getItem_list_neg (Q:=λr s'=>r=w/\EP X cM σ Q r s') pl.isList (by omega) (by rw[aq]<;>omega) (by omega) (by rw[hj];simpa using ew) ⟨rfl,fin⟩) hs
def Ua:MY X (WG X.K):=by
 intro value slice cM s σ H x y v u Q I rx ry h hs;obtain⟨p,xs,i,z,rfl,rfl,hq,he,q⟩:=h;cases rx;obtain⟨t,rfl⟩:=ry;obtain⟨dE,r,pl,hz⟩:=I.tuple hq;obtain⟨j,h1,h2,h3,h4,h5⟩:=DE he;obtain⟨w,ew,QI⟩:=r.get h2;have hl:=r.length;have hn:=wJ;have fin:EP X cM σ Q w s:=⟨z,H,I,QI,q⟩;exact subscriptTail_builtinR (x:=w) pl.typeIs slot_tuple_getitem.lookup
  (getItem_tuple (j:=j) (Q:=λr s'=>r=w/\EP X cM σ Q r s') pl (by omega) (by omega) (by rw[aq,<-hl];exact h1) (by simpa using ew) ⟨rfl,fin⟩) hs
def Ub:MY X WH:=by
 intro value slice cM s σ H x y v u Q I rx ry h hs;obtain⟨z,i,c,rfl,rfl,hz,he,q⟩:=h;obtain⟨t,rfl⟩:=rx;obtain⟨t',rfl⟩:=ry;obtain⟨j,h1,h2,h3,h4,h5⟩:=DE he;have hl:z.cps.toList.length=z.length:=by simp[Str.length]
 rw[hl]at h1 h4 h5;have hn:=wJ;exact tail_any (typeIs_str s z t) slot_str_getitem.lookup (getItem_str (c:=c) (by
  have e1:decide (i< -(2^63:Int))=false:=aH (by omega)
  have e2:decide (i ≥ 2^63)=false:=aH (by omega)
  rw[e1,e2,Bool.or_false]) (by rw[h1];simpa using h2) ⟨.str ⟨#[c]⟩,H,I.tok _,⟨_,rfl⟩,q⟩) hs
def rIx (K:W.Frag):R2:=λx y H Q=>WE K x y H Q\/WG K x y H Q\/WH x y H Q
def Uc:MY X (rIx X.K):=QH.or (Ua.or Ub)
def DF (lo hi:Option Int) (n:Nat):(sliceBounds lo hi none n).1=((HT.i8 n 0 lo:Nat):Int)/\(sliceBounds lo hi none n).2.1=((HT.i8 n n hi:Nat):Int)/\(sliceBounds lo hi none n).2.2=1:=by
 refine⟨?_,?_,rfl⟩
 ·cases lo with
  |none=>simp[sliceBounds,HT.i8]
  |some i=>
   simp only[sliceBounds,HT.i8,Option.getD_none,show(1:Int)>0 by decide,if_true]
   by_cases h:i<0
   ·simp only[h,if_true]<;>omega
   ·simp only[h,bD]<;>omega
 ·cases hi with
  |none=>simp[sliceBounds,HT.i8]
  |some i=>
   simp only[sliceBounds,HT.i8,Option.getD_none,show(1:Int)>0 by decide,if_true]
   by_cases h:i<0
   ·simp only[h,if_true]<;>omega
   ·simp only[h,bD]<;>omega
def Bp (dE:cx) (lo hi:Option Int):slicePick dE.toArray lo hi none=((dE.drop (HT.i8 dE.length 0 lo)).take (HT.i8 dE.length dE.length hi-HT.i8 dE.length 0 lo)).toArray:=by
 obtain⟨h1,h2,h3⟩:=DF lo hi dE.toArray.size;unfold slicePick;rw[h1,h2,h3];simp only[sliceRange_one,pick_run,aq]<;>rfl
def Zt (K:W.Frag):V->Option Int->Option Int->Hp->VK->Prop:=λx lo hi H Q=>∃a xs,x=.ref a/\rD K H a xs/\∀p,H p=none->Q (.ref p) (upd H p (.lst (Fj xs lo hi)))
def QJ:Sg X (Zt X.K):=by
 intro cM s σ H x v vl vu lo hi sl Q I rx hs pl pu h;obtain⟨a,xs,rfl,hx,q⟩:=h;cases rx;obtain⟨dE,r,ht,hz⟩:=I.list hx;have hlen:=r.length;refine⟨"list",_,slot_list_getitem.lookup,ht.isList.typeIs,?_⟩;refine wpAny_getItem_list_slice ht.isList hs pl pu .none (by simp) ?_ (by rw[aq]<;>omega)
 rw[Bp,<-hlen];refine⟨.ref s.heap.objs.size,_,I.laid (t':=s.toks) (o:=.lst (Fj xs lo hi)) (λb ob q=>ag _ q) (au _) ?_,rfl,q _ (I.gk.fresh (au _))⟩
 exact⟨aD (xO xs lo hi) hz,_,0,(r.drop (HT.i8 xs.length 0 lo)).take (HT.i8 xs.length xs.length hi-HT.i8 xs.length 0 lo),az _ rfl⟩
def DG:i9 X (.builtin "len") (λxs H Q=>∃p ys,xs=[.ref p]/\(rD X.K H p ys\/mB X.K H p ys)/\Q (.int ys.length) H):=by
 intro cM s σ H xs us Q I r h;obtain⟨p,ys,rfl,hq,q⟩:=h;obtain⟨u,rfl,rx⟩:=vals1 r;cases rx;have hn:=wJ;rcases hq with hq|hq
 ·obtain⟨dE,r',pl,hz⟩:=I.list hq;have hlen:=r'.length;exact Calls.call_len_list pl.isList (by simp only[aq]<;>omega) ⟨.int ys.length,H,I.tok _,⟨s.toks+1,by rw[aq,hlen]⟩,q⟩
 ·obtain⟨dE,r',pl,hz⟩:=I.tuple hq;have hlen:=r'.length;exact len_tuple pl (by simp only[aq]<;>omega) ⟨.int ys.length,H,I.tok _,⟨s.toks+1,by rw[aq,hlen]⟩,q⟩
def DH:i9 X (.builtin "len") (λxs H Q=>∃z,xs=[.str z]/\z.length<=sizeLine/\Q (.int z.length) H):=by
 intro cM s σ H xs us Q I r h;obtain⟨z,rfl,hz,q⟩:=h;obtain⟨u,rfl,t,rfl⟩:=vals1 r;have hn:=wJ;exact len_str (by omega) ⟨.int z.length,H,I.tok _,⟨_,rfl⟩,q⟩
def i9.or (h:i9 X f r) (h':i9 X f r'):i9 X f (λxs H Q=>r xs H Q\/r' xs H Q):=by
 intro cM s σ H xs us Q I rs q;rcases q with q|q
 ·exact h cM s σ H xs us Q I rs q
 ·exact h' cM s σ H xs us Q I rs q
def DI:i9 X (.type "list") (λxs H Q=>∃p ys,xs=[.ref p]/\(rD X.K H p ys\/mB X.K H p ys)/\∀l,H l=none->Q (.ref l) (upd H l (.lst ys))):=by
 intro cM s σ H xs us Q I r h;obtain⟨p,ys,rfl,hq,q⟩:=h;obtain⟨u,rfl,rx⟩:=vals1 r;cases rx;have fin:∀(dE:cx),Vals ys dE->ys.length<=sizeLine->∀(h':Heap) (c':Nat),(∀b o',s.heap.get? b=some o'->h'.get? b=some o')->
   h'.get? s.heap.objs.size=some {cls:=.type "list",dict:=none,data:=.seq dE.toArray c',slots:=#[]}->EP X cM σ Q (.ref s.heap.objs.size) {s with heap:=h'}:=λdE r' hz h' c' kp e=>
  ⟨.ref s.heap.objs.size,_,I.laid (t':=s.toks) kp (au _) (show gO X.prog X.w _ h' _ (.lst ys)from⟨hz,dE,c',r',e⟩),rfl,q _ (I.gk.fresh (au _))⟩
 rcases hq with hq|hq
 ·obtain⟨dE,r',pl,hz⟩:=I.list hq;have hlen:=r'.length;obtain⟨o,ho,hc,n,hd⟩:=pl.isList;exact call_list_seq p (.inl rfl) ho hc hd (λh' c' kp e=>fin dE r' hz h' c' kp e) (by simp only[aq]<;>omega)
 ·obtain⟨dE,r',pl,hz⟩:=I.tuple hq;have hlen:=r'.length;obtain⟨o,ho,hc,n,hd⟩:=pl;exact call_list_seq p (.inr rfl) ho hc hd (λh' c' kp e=>fin dE r' hz h' c' kp e) (by simp only[aq]<;>omega)
def Bq:i9 X (.type "tuple") (λxs H Q=>∃p ys,xs=[.ref p]/\((rD X.K H p ys/\∀l,H l=none->Q (.ref l) (upd H l (.tup ys)))\/(mB X.K H p ys/\Q (.ref p) H))):=by
 intro cM s σ H xs us Q I r h;obtain⟨p,ys,rfl,h⟩:=h;obtain⟨u,rfl,rx⟩:=vals1 r;cases rx;rcases h with⟨hq,q⟩|⟨hq,q⟩
 ·obtain⟨dE,r',pl,hz⟩:=I.list hq;have hlen:=r'.length;refine call_tuple_list pl.isList (λh' kp=>?_) (by simp only[aq]<;>omega)
  have I1:Inv X cM σ H {s with heap:=h'}:=I.kept (t':=s.toks) kp
  have I2:Inv X cM σ (upd H h'.objs.size (.tup ys)) {s with heap:=h'.push {cls:=.type "tuple",data:=.seq dE.toArray}}:=
   I1.laid (t':=s.toks) (λb o e=>ag _ e) (au _) (show gO X.prog X.w _ _ _ (.tup ys)from⟨hz,dE,r',IsTup.new _ _⟩)
  exact⟨.ref h'.objs.size,_,I2,rfl,q _ (I1.gk.fresh (au _))⟩
 ·obtain⟨dE,r',pl,hz⟩:=I.tuple hq;exact call_tuple_same pl ⟨.ref p,H,I,rfl,q⟩
def tyV (K:W.Frag) (T:String) (x:V) (H:Hp):Prop:=match x with
 |.str _=>T="str"
 |.int _=>T="int"
 |.ref p=>(T="list"/\∃xs,rD K H p xs)\/(T="tuple"/\∃o,K.lookup p=some o/\o.cls=.type "tuple"/\o.dict=none)\/
   (T="dict"/\((∃kvs,H p=some (.dK kvs))\/∃kvs,H p=some (.dT kvs)))\/(T="set"/\∃S n,H p=some (.set S n))
 |_=>False
def Ud (I:Inv X cM σ H s) (r:RelV x v) (ty:tyV X.K T x H):s.TypeIs v T/\∀a,v=.ref a->∃ob,s.heap.get? a=some ob/\ob.dict=none:=by
 cases x with
 |str z=>
  obtain⟨t,rfl⟩:=r;cases (show T="str" from ty)
  exact⟨typeIs_str s z t,λ_ e=>nomatch e⟩
 |int i=>
  obtain⟨t,rfl⟩:=r;cases (show T="int" from ty)
  exact⟨typeIs_int s i t,λ_ e=>nomatch e⟩
 |ref p=>
  cases r;rcases ty with⟨rfl,xs,hq⟩|⟨rfl,o,hk,hc,hd⟩|⟨rfl,hk⟩|⟨rfl,S,n,hk⟩
  ·obtain⟨dE,_,pl,_⟩:=I.list hq;refine⟨pl.isList.typeIs,λa e=>?_⟩
   cases e;obtain⟨o,n,e,c,hd,_⟩:=pl;exact⟨o,e,hd⟩
  ·refine⟨⟨o,I.yA p o hk,hc⟩,λa e=>?_⟩
   cases e;exact⟨o,I.yA _ o hk,hd⟩
  ·have z:∃o,s.heap.get? p=some o/\o.ExactDict:=by
    rcases hk with⟨kvs,hk⟩|⟨kvs,hk⟩
    ·obtain⟨_,_,_,_,o,_,_,e,ex,_⟩:=I.gk p _ hk;exact⟨o,e,ex⟩
    ·obtain⟨_,_,_,_,o,_,_,e,ex,_⟩:=I.gk p _ hk;exact⟨o,e,ex⟩
   obtain⟨o,e,ex⟩:=z;refine⟨⟨o,e,ex.1⟩,λa e2=>?_⟩
   cases e2;exact⟨o,e,ex.2.1⟩
  ·obtain⟨o,_,_,_,e,ex,_⟩:=I.gk p _ hk;refine⟨⟨o,e,ex.1⟩,λa e2=>?_⟩
   cases e2;exact⟨o,e,ex.2.1⟩
 |_=>exact False.elim ty
noncomputable def Zu (K:W.Frag) (T:String) (r:V->List V->Hp->VK->Prop) (to:TE) (t:TA):TE:=λσ H Q=>to σ H λx H1=>tyV K T x H1/\t σ H1 λxs H2=>r x xs H2 Q
variable {o e:cH}{es:List cH}{to:TE}{t:TA}{name:Str}{apos gP:Pos}{T id:String}{r:V->List V->Hp->VK->Prop}
def MZ (pa:PlainAttrs T) (slot:Slot T name id) (hty:typeOf (.builtin id)=pure (.type "method_descriptor")) (hm:MtR X id r) (ho:PE X o to) (ha:PA X (e::es) t)
  (zh:attributeBase o name X.env (eval o X.env)=eval o X.env:=by rfl)
  (HL:((backTo gP (starEach (e::es) X.env)).all (λx=> !x.1)&&(backToKw gP (keywordEach [] X.env)).all (λx=>x.1.isSome)
   &&decide ((e::es).length+([]:List Keyword).length+(if([]:List Keyword).isEmpty then 0 else 1)<30))=true:=by rfl)
  (zi:(apos.endLine==gP.line)=true:=by rfl) (hs:starEach (e::es) X.env=(false,eval e X.env)::starEach es X.env:=by rfl) (uK:(backTo gP (starEach es X.env)).any (·.1)=false:=by rfl):
  PE X (.Call (.Attribute o name apos) (e::es) [] gP) (Zu X.K T r to t):=by
 intro cM s σ H Q I h;refine wpAny_Call_method_late zh HL zi rfl (g7 (ho cM s σ H _ I h) λv s1 ⟨x,H1,I1,r1,ty,q1⟩=>?_)
 obtain⟨h1,h2⟩:=Ud I1 r1 ty;refine⟨T,id,pa,slot,hty,h1,h2,?_⟩;have hA:=ha gP cM s1 σ H1 _ I1 q1;rw[hs]at hA ⊢;refine Calls.callWith_builtin (by show(false||(backTo gP (starEach es X.env)).any (·.1))=false;rw[uK]<;>rfl) (Calls.evalArgs_plain ?_)
 exact g7 hA λus s2 ⟨vs,H2,I2,r2,q2⟩=>hm cM s2 σ H2 x vs v us Q I2 r1 r2 q2
end
def Zv (X:Cx) (id:String) (r:V->List V->Hp->VK->Prop):Prop:=
 ∀(cM:cj) (s:cA) (σ:St) (H:Hp) (x:V) (xs:List V) (v:cy) (us:cx) (Q:VK),Inv X cM σ H s->RelV x v->Vals xs us->r x xs H Q->
  wpAny (model X.prog X.w) X.A (call (.builtin id) (v::us)) (EP X cM σ Q) X.xe s
theorem Vals.one:∀{x:V}{us:cx},Vals [x] us->∃u,us=[u]/\RelV x u
 |_,_,.cons r .nil=>⟨_,rfl,r⟩
theorem Vals.eraseIdx:∀{xs:List V}{us:cx}(i:Nat),Vals xs us->Vals (xs.eraseIdx i) (us.eraseIdx i)
 |_,_,_,.nil=>.nil
 |_,_,0,.cons _ t=>t
 |_,_,i+1,.cons r t=>.cons r (Vals.eraseIdx i t)
theorem oV {α:Type}:∀(l:List α) (i:Nat),(l.eraseIdx i).length<=l.length
 |[],_=>au _
 |_::_,0=>Nat.le_succ _
 |_::r,i+1=>Nat.succ_le_succ (oV r i)
section
variable {X:Cx}{cM:cj}{σ:St}{H:Hp}{s:cA}{l:cG}{xs ys:List V}
def Inv.Ue {dE its':cx}(I:Inv X cM σ H s) (hH:H l=some (.lst xs)) (e:s.heap.get? l=some {cls:=.type "list",data:=.seq dE.toArray n}) (hf:f dE.toArray=its'.toArray) (hv:Vals ys its') (hz:ys.length<=sizeLine):Inv X cM σ (upd H l (.lst ys)) {s with heap:=s.heap.update l (Obj.mapSeq f),toks:=t'}:=by
 have q:=PySem.IsL.update e f;rw[hf]at q;refine I.write (x:=l) (e:=l) (by rw[hH];exact trivial) (.inl rfl) (λb' u hb hu=>(bx s.heap (Obj.mapSeq f) (Ne.symm hb)).trans hu) ⟨_,q⟩ ?_
 exact⟨hz,its',_,hv,q⟩
def Inv.Zw (I:Inv X cM σ H s) (hv:Vals ys dE) (hz:ys.length<=sizeLine):Inv X cM σ (upd H s.heap.objs.size (.lst ys)) {s with heap:=s.heap.push {cls:=.type "list",data:=.seq dE.toArray},toks:=t'}:=
 I.laid (λ_ _ q=>ag _ q) (au _) ⟨hz,dE,0,hv,az _ rfl⟩
theorem Inv.fresh (I:Inv X cM σ H s):H s.heap.objs.size=none:=I.gk.fresh (au _)
def Inv.QK (I:Inv X cM σ H s) (hH:H l=some (.lst xs)):xs.length<=sizeLine/\∃(dE:cx) (n:Nat),Vals xs dE/\xs.length=dE.length/\s.heap.get? l=some {cls:=.type "list",data:=.seq dE.toArray n}:=by
 obtain⟨z,dE,n,r,e⟩:=I.gk l _ hH;exact⟨z,dE,n,r,r.length,e⟩
def M1 (h:n<=sizeLine):Builtin.List.listTooLong n=false:=by
 unfold Builtin.List.listTooLong;exact aH (by omega)
end
section
variable {X:Cx}
def JL:V->List V->Hp->VK->Prop:=λx vs H Q=>∃l xs y,x=.ref l/\vs=[y]/\H l=some (.lst xs)/\xs.length<sizeLine/\Q .eU (upd H l (.lst (xs++[y])))
def Ck:Zv X "list.append" JL:=by
 intro cM s σ H x vs v us Q I rx rv h;obtain⟨l,xs,y,rfl,rfl,hH,hz,q⟩:=h;cases rx;obtain⟨u,rfl,ru⟩:=rv.one;obtain⟨z,dE,n,r,hl,e⟩:=I.QK hH;refine call_meets F.slot_list_append ⟨_,e,rfl⟩ F.entry_list_append (F.args_list_append_2 _ _) (PySem.list_append l dE.toArray n u (by rw[aq];omega)) ⟨e,?_⟩
 refine⟨.eU,_,I.Ue (its':=dE++[u]) hH e (by simp) (r.append (.cons ru .nil)) ?_,rfl,q⟩
 rw[aQ,length_singleton];omega
def QL:V->List V->Hp->VK->Prop:=λx vs H Q=>∃l b xs zs,x=.ref l/\vs=[.ref b]/\H l=some (.lst xs)/\H b=some (.lst zs)/\xs.length+zs.length<=sizeLine/\Q .eU (upd H l (.lst (xs++zs)))
def K9:Zv X "list.extend" QL:=by
 intro cM s σ H x vs v us Q I rx rv h;obtain⟨l,b,xs,zs,rfl,rfl,hH,hB,hz,q⟩:=h;cases rx;obtain⟨u,rfl,ru⟩:=rv.one;cases ru;obtain⟨z,dE,n,r,hl,e⟩:=I.QK hH;obtain⟨z2,mD,n2,r2,La,e2⟩:=I.QK hB;have hsz:dE.toArray.size+mD.toArray.size<=sizeLine:=by rw[aq,aq];omega
 have WI:¬ (!dE.toArray.isEmpty&&Builtin.List.listTooLong (dE.toArray.size+mD.toArray.size))=true:=by
  rw[M1 hsz,Bool.and_false];exact aZ
 refine call_meets F.slot_list_extend ⟨_,e,rfl⟩ F.entry_list_extend (F.args_list_extend_2 _ _)
  (AutoSeq1.list_extend_list_list_0 l dE.toArray n b mD.toArray n2 WI (by rw[aq];omega) (by omega)) ⟨e,e2,?_⟩
 refine⟨.eU,_,I.Ue (its':=dE++mD) hH e (by simp) (r.append r2) ?_,rfl,q⟩
 rw[aQ];omega
def M3:V->List V->Hp->VK->Prop:=λx vs H Q=>∃l xs i k y,x=.ref l/\vs=[.int i]/\H l=some (.lst xs)/\-(2^63)<=i/\i<2^63/\seqIndex? i xs.length=some k/\xs[k]? =some y/\Q y (upd H l (.lst (xs.eraseIdx k)))
def M4:Zv X "list.pop" M3:=by
 intro cM s σ H x vs v us Q I rx rv h;obtain⟨l,xs,i,k,y,rfl,rfl,hH,h1,h2,hk,hy,q⟩:=h;cases rx;obtain⟨u,rfl,ru⟩:=rv.one;obtain⟨t,rfl⟩:=ru;obtain⟨z,dE,n,r,hl,e⟩:=I.QK hH;obtain⟨w,hw,QI⟩:=r.get hy;refine call_meets F.slot_list_pop ⟨_,e,rfl⟩ F.entry_list_pop (F.args_list_pop_2 _ _)
  (MeetsSeq.list_pop_at l dE.toArray n i t k w (fitsIndex_both h1 h2) (by rw[aq,<-hl];exact hk) (by rw[<-Array.getElem?_toList];exact hw) (by rw[aq];omega)) ⟨e,?_⟩
 refine⟨y,_,I.Ue (its':=dE.eraseIdx k) hH e ?_ (r.eraseIdx k) ?_,QI,q⟩
 ·show dE.toArray.eraseIdxIfInBounds k=(dE.eraseIdx k).toArray;rw[eraseIdxIfInBounds_toArray]
 ·have:=oV xs k;omega
end
end L2
namespace Att
open PySem.W PySem.Calls
def yo:∀(ns:cp) (vs:cx),WellAll P h vs (ns.map WData.int)->IntsAre vs ns:=by
 intro ns;induction ns with
 |nil=>
  intro vs w;rw[map_nil]at w;cases w;exact .nil
 |cons n ns ih=>
  intro vs w;rw[aF]at w;cases w with
  |cons a b=>
   cases a;exact .cons _ _ (ih _ b)
def Lb {l:OpenLaw}(hn:l.most=some n) (QM:l.row.toRowW.claim.pre args=true) (Zx:WellAll P h vals args):∃a vs ns,vals=[Value.ref a]/\args=[WData.list (ns.map WData.int)]/\h.get? a=some {cls:=.type "list",data:=.seq vs.toArray}/\IntsAre vs ns/\ns.length<=n:=by
 have hsh:WShape.hasAll [] args [.list .int]=true:=(pre_splitW QM).1;have hc:l.pre.holds [] {args:=args}=true:=(pre_splitW QM).2;obtain⟨d,r,rfl,h1,h2⟩:=hasAllW_cons hsh;obtain rfl:=hasAllW_nil h2;obtain⟨xs,rfl,h3⟩:=hasW_list h1;obtain⟨ns,rfl⟩:=items_int h3;have hlen:ns.length<=n:=by
  unfold OpenLaw.pre at hc;have h4:(WTm.not (.lt (.lit (.int (n:Int))) (.len (.arg 0)))).holds [] {args:=[.list (ns.map .int)]}=true:=by
   have h4:=(holds_andW hc).1;rw[hn]at h4;exact h4
  have h5:=condW_of h4 (w_not (w_lt w_lit (w_len_list (w_arg rfl))));rw[ae]at h5;refine Nat.le_of_not_lt λq=>?_
  have q':(n:Int)<((ns.length:Nat):Int):=by omega
  first
   |(rw[aR q']at h5;exact absurd h5 (by decide))
   |(simp at h5;omega)
 cases Zx with
 |cons w1 w2=>
  cases w2;cases w1 with
  |list ho wM=>exact⟨_,_,ns,rfl,rfl,ho,yo ns _ wM,hlen⟩
def Lc (l:OpenLaw) (args:List WData):l.row.toRowW.claim.post args (.bool true) args=true:=
 postW_of (r:=l.row.toRowW) (X:=(true==true))
  (show WShape.has [] (.bool true) .bool=true by first|rfl|decide|simp[WShape.has,WShape.arms,WShape.armsAll])
  (show(WTm.eq .res (.lit (.bool true))).value [] {args:=args,res:=some (.bool true),after:=args}=some (.bool (true==true))from w_eq_bool (w_res rfl) w_lit) rfl
def Fl {l:OpenLaw}{n:Nat}{q:cC}{loose:List Str}{YP:cD->Heap->Prop}{d:DefRec}(hn:l.most=some n) (WJ:d.params.defaults=[]) (call:∀(w:cD) (s₀ s₁:cA) (mg mb:cg) (fa:cG) (o:Obj) (pm cd doc:cy) (a:cG) (vs:cx) (ns:cp),
   Ground q loose [] XP w s₀ mg mb s₁.heap->YP w s₁.heap->
   s₁.heap.get? fa=some o->o.data=.func (docDef d.name d.params d.body d.scope pm cd doc)->s₁.heap.CodeRec cd d.name->mg d.name=some (.ref fa)->
   s₁.heap.get? a=some {cls:=.type "list",data:=.seq vs.toArray}->IntsAre vs ns->ns.length<=n->s₁.gens=#[]->
   codeAny (model l.prog w) callerA (.call (.ref fa) ⟨[.ref a],[]⟩) (λr s'=>r=.ok (.ret (.bool true))/\OldK s₁.heap s'.heap/\s'.os=s₁.os/\AllBare s'.gens) s₁):WalkO q loose XP YP l.row.toRowW d [] (λf vs=>PySem.call f vs):=by
 intro w s₀ s₁ mg mb G Y fa o pm cd doc dV kV ho hd yX hD WK hg args vals as QM ado hrd Zx WL;obtain rfl:dV=.none:=Dflts.none hD WJ;obtain rfl:kV=.none:=Dflts.noKw hD;obtain⟨a,vs,ns,rfl,rfl,Ug,hints,hlen⟩:=Lb hn QM Zx;refine enter_call (codeAny_mono (call w s₀ s₁ mg mb fa o pm cd doc a vs ns G Y ho (fd_plain hd) yX WK Ug hints hlen hg) λr s' hq=>?_)
 obtain⟨rfl,h2,h3,h4⟩:=hq;exact⟨.inl ⟨.bool true,.bool true,[],rfl,λ_=>rfl,.bool true,Lc l _,λ_=>⟨List.Pairwise.nil,λ_ hm=>(nomatch hm)⟩⟩,h2,h3,h4⟩
end Att
namespace L2
theorem tw:∀{vs:cx}{ns:cp},IntsAre vs ns->Vals (ns.map V.int) vs
 |_,_,.nil=>.nil
 |_,_,.cons n t h=>.cons ⟨t,rfl⟩ (tw h)
noncomputable def inClass (s:cI) (j:Nat):cI:=match s with
 |.ClassDef _ _ _ body _ _ _ _ _ _ _=>body.getD j (.Pass ⟨0,0,0,0⟩)
 |_=>.Pass ⟨0,0,0,0⟩
noncomputable def ky (s:cI):Arguments:=match s with
 |.FunctionDef _ a _ _ _ _ _ _ _ _=>a
 |_=>{posonlyargs:=[],args:=[],vararg:=none,kwonlyargs:=[],kw_defaults:=[],kwarg:=none,defaults:=[]}
noncomputable def fO (s:cI):List cI:=match s with
 |.FunctionDef _ _ b _ _ _ _ _ _ _=>b
 |_=>[]
noncomputable def cY (s:cI):Scope:=match s with
 |.FunctionDef _ _ _ _ _ _ sc _ _ _=>sc
 |_=>{kind:=.function,names:=[],isGenerator:=false,isCoroutine:=false}
noncomputable abbrev iY:Qy:=λ_ _ _ _ _ _=>False
noncomputable abbrev E0:XK:=λ_ _ _=>False
def Cm {X:Cx}:Passes iY X E0:=λ_ _ _ _ _ _ _ h=>h.elim
structure jW (K:W.Frag) (x qual:Str) (st:cI) (f:cG) (fd:cB):Prop where
 ex:∃(oc:cy) (od:cq) (kV doc pm:cy) (an:cq) (fD ct:cy) (TR:cu),
  fd=W.fnOf x qual (ky st) (fO st) (cY st) .none kV doc pm an fD ct/\K.lookup f=some ⟨oc,od,.func fd,TR⟩/\W.codeIn K fD qual=true
 kp:W.keepIn K (.ref f)=true
section
variable {P:cC}{w:cD}{K:W.Frag}{mg:cg}{base:Heap}
def jW.ok {st:cI}(F:jW K x qual st f fd) (S:dA N ps (cY st)) (len:∀vs H Q E,sp vs H Q E->vs.length=ps.length) (jL:∀(fD:cy) (A:cE) (outer:List Env) (s:cA) (H:Hp) (vs:List V) (Q:VK) (E:XK),hW k (A.deeper (envOfC qual (cY st) s.heap.objs.size f fD))->sp vs H Q E->
   ∃t,Dw (tY iY P w K mg base N qual (cY st) f fD A outer s H E).Hu (fO st) t/\t {nx:=λ_ H'=>Q .eU H',rt:=Q} (start N vs) H):eO P w K mg base iY (k+1) f fd ps sp:=by
 obtain⟨oc,od,kV,doc,pm,an,fD,ct,TR,rfl,lk,yX⟩:=F.ex;refine Sf lk yX S len λA outer s H vs Q E hr Qa=>?_
 obtain⟨t,h,q⟩:=jL fD A outer s H vs Q E hr Qa;exact⟨t,h.Hu,q⟩
def jW.binds {st:cI}(F:jW K x qual st f fd) (h:∀(kV doc pm:cy) (an:cq) (fD ct:cy) (us:cx),us.length=ps.length->bindArgs (W.fnOf x qual (ky st) (fO st) (cY st) .none kV doc pm an fD ct) ⟨us,[]⟩=pure (ps.zip us)):Binds K fd ps []:=by
 obtain⟨oc,od,kV,doc,pm,an,fD,ct,TR,rfl,lk,yX⟩:=F.ex;exact .all (h kV doc pm an fD ct)
def M5 {st:cI}{kV doc pm fD ct:cy}(l:K.lookup f=some ⟨oc,od,.func (W.fnOf x qual (ky st) (fO st) (cY st) .none kV doc pm an fD ct),TR⟩) (c:W.codeIn K fD qual=true) (k:W.keepIn K (.ref f)=true):jW K x qual st f (W.fnOf x qual (ky st) (fO st) (cY st) .none kV doc pm an fD ct):=⟨⟨oc,od,kV,doc,pm,an,fD,ct,TR,rfl,l,c⟩,k⟩
end
def mP (h:n<=1000):n<sizeLine:=Nat.lt_of_le_of_lt h (by decide)
section
variable {X:Cx}
def pv (i:Nat) (hN:X.N[i]? =some x:=by rfl) (hv:Vx X.env.scope x:=by first|exact Or.inl rfl|exact Or.inr (Or.inl rfl)|exact Or.inr (Or.inr rfl)) (hd:(x==("__debug__":Str))=false:=by decide) (yX:(x==("__classdict__":Str))=false:=by decide):PE X (.Name x pos) (lQ i):=Ht hN hv hd yX
end
def Br {A B:Prop}(h:B):if false=true then A else B:=by
 rw[if_neg aZ];exact h
def yp {A B:Prop}(h:A):if true=true then A else B:=by
 rw[if_pos rfl];exact h
def eE (H H':Hp):Prop:=∀b o,H b=some o->H' b=some o
def eE.refl (H:Hp):eE H H:=λ_ _ h=>h
def eE.trans (a:eE H H1) (b:eE H1 H2):eE H H2:=λc o h=>b c o (a c o h)
def eE.free (e:eE H H') (h:H' l=Option.none):H l=Option.none:=by
 cases q:H l with
 |none=>rfl
 |some o=>
  rw[e l o q]at h;cases h
def wN (K:W.Frag):List (cG×Array cy):=yk.filterMap λ(t:Str×Pos×Str)=>(W.tabIn K t.1).map λq=>(q.2,Bk t.2.1 t.2.2)
def QN {K:W.Frag}(h:(b,ps)∈wN K):∃x c pos qual,(x,pos,qual)∈yk/\W.tabIn K x=some (c,b)/\ps=Bk pos qual:=by
 obtain⟨⟨x,pos,qual⟩,hm,he⟩:=mem_filterMap.mp h;cases ht:W.tabIn K x with
 |none=>rw[show W.tabIn K (x,pos,qual).1=none from ht]at he;cases he
 |some q=>
  obtain⟨c,P⟩:=q;rw[show W.tabIn K (x,pos,qual).1=some (c,P)from ht]at he
  cases he;exact⟨x,c,pos,qual,hm,ht,rfl⟩
def M6 {K:W.Frag}(hm:(x,pos,qual)∈yk) (ht:W.tabIn K x=some (c,b)):(b,Bk pos qual)∈wN K:=
 mem_filterMap.mpr ⟨(x,pos,qual),hm,by show(W.tabIn K x).map _=_;rw[ht];rfl⟩
theorem vi {α:Type}:∀{l:List (cG×α)}{b:cG}{v:α},(l.map (·.1)).Nodup->(b,v)∈l->l.lookup b=some v
 |[],_,_,_,h=>by cases h
 |(c,u)::r,b,v,nd,h=>by
  rw[aF,nodup_cons]at nd;rcases mem_cons.mp h with e|h
  ·cases e;simp[bp]
  ·have jX:b≠c:=λz=>nd.1 (by rw[<-z];exact mem_map_of_mem (f:=(·.1)) h)
   have hb:(b==c)=false:=by simpa using jX
   rw[bp,hb];exact vi nd.2 h
theorem xP {α:Type}:∀{l:List (cG×α)}{b:cG}{v:α},l.lookup b=some v->(b,v)∈l
 |[],_,_,h=>by cases h
 |(c,u)::r,b,v,h=>by
  by_cases e:b=c
  ·subst e;simp only[bp,bM,Option.some.injEq]at h;subst h;exact af
  ·have hb:(b==c)=false:=by simpa using e
   simp only[bp,hb]at h;exact ai _ (xP h)
def tabsOk (K:W.Frag):Bool:=W.noTabs K&&decide ((wN K).map (·.1)).Nodup
def Ld {K:W.Frag}(KX:K.In s₁.heap) (M7:s₁.heap.Ns mainGlobals mg) (hb:s₁.heap.Ns builtinsNs mb) (hbb:∀x:Str,x≠"__name__"->mb x=bootBuiltins x) (Uh:s₁.heap.NoLimit) (hg:s₁.gens=#[]) (ha:s₁.heap.get? a=some {cls:=.type "list",data:=.seq vs.toArray}) (hi:IntsAre vs ns) (hl:ns.length<=sizeLine) (hr:hW k callerA) (Zy:tabsOk K=true) (hT:∀x c Pt pos qual,(x,pos,qual)∈yk->W.tabIn K x=some (c,Pt)->W.CodeHd s₁.heap c Pt/\s₁.heap.get? Pt=some (W.tabObj #[])) (hbm:∃bm ob,mg "__builtins__"=some (.ref bm)/\bm≠builtinsNs/\s₁.heap.get? bm=some ob/\ob.cls=.type "module"/\ob.dict=some builtinsNs/\ob.data=.plain) (F:∀base:Heap,K.In base->base.Ns mainGlobals mg->eO P w K mg base CX k fa fd [x] sp) (WM:∀(s:cA) (u:cy),BindsTo s fd ⟨[u],[]⟩ [(x,u)]) (Qa:∀H:Hp,rD K H a (ns.map V.int)->sp [.ref a] H (λv _=>v=.bl true) λ_ _ _=>False) (Zz:∀H e s',CX [] H s₁ (λ_ _ _=>False) e s'->False):codeAny (model P w) callerA (.call (.ref fa) ⟨[.ref a],[]⟩) (λr s'=>r=.ok (.ret (.bool true))/\OldK s₁.heap s'.heap/\s'.os=s₁.os/\AllBare s'.gens) s₁:=by
 have rv:=tw hi;have M8:=hi.length;obtain⟨Yw,ZA⟩:=Bool.and_eq_true_iff.mp Zy;have Qf:((wN K).map (·.1)).Nodup:=bJ ZA
 have atT:∀{b:cG}{ps:Array cy},(wN K).lookup b=some ps->∃c pos qual,ps=Bk pos qual/\W.CodeHd s₁.heap c b/\s₁.heap.get? b=some (W.tabObj #[]):=λ{b ps} h=>by
  obtain⟨x,c,pos,qual,hm,ht,e⟩:=QN (xP h);exact⟨c,pos,qual,e,hT x c b pos qual hm ht⟩
 have core:∀H0:Hp,(∀b u,H0 b=some u->b=a/\K.lookup a=none/\u=.yT {cls:=.type "list",data:=.seq vs.toArray} (.lst (ns.map V.int)))->rD K H0 a (ns.map V.int)->
   codeAny (model P w) callerA (.call (.ref fa) ⟨[.ref a],[]⟩) (λr s'=>r=.ok (.ret (.bool true))/\OldK s₁.heap s'.heap/\s'.os=s₁.os/\AllBare s'.gens) s₁:=by
  intro H0 h0 hS0;have hex:∃H:Hp,(∀b u,H0 b=some u->H b=some u)/\(∀b ps,(wN K).lookup b=some ps->H b=some (.Hr ps))/\∀b u,H b=some u->(b=a/\K.lookup a=none/\u=.yT {cls:=.type "list",data:=.seq vs.toArray} (.lst (ns.map V.int)))\/∃ps,(wN K).lookup b=some ps/\u=.Hr ps:=by
   refine⟨λb=>match(wN K).lookup b with|some ps=>some (HO.Hr ps)|none=>H0 b,λb u e=>?_,λb ps e=>?_,λb u e=>?_⟩
   ·show(match(wN K).lookup b with|some ps=>some (HO.Hr ps)|none=>H0 b)=_
    cases q:(wN K).lookup b with
    |none=>exact e
    |some ps=>
     obtain⟨c,pos,qual,_,_,e2⟩:=atT q;obtain⟨rfl,_⟩:=h0 b u e;rw[ha]at e2;cases e2
   ·show(match(wN K).lookup b with|some ps=>some (HO.Hr ps)|none=>H0 b)=_
    rw[e]
   ·have e':(match(wN K).lookup b with|some ps=>some (HO.Hr ps)|none=>H0 b)=some u:=e
    cases q:(wN K).lookup b with
    |none=>
     rw[q]at e';exact .inl (h0 b u e')
    |some ps=>
     rw[q]at e';cases e';exact .inr ⟨ps,rfl,rfl⟩
  obtain⟨H,up,ut,uo⟩:=hex;have hS:rD K H a (ns.map V.int):=by
   rcases hS0 with h|h
   ·rcases h with h|⟨o,h⟩
    ·exact .inl (.inl (up _ _ h))
    ·exact .inl (.inr ⟨o,up _ _ h⟩)
   ·exact .inr h
  have gk:ua P w H s₁.heap:=λb u e=>by
   rcases uo b u e with⟨rfl,_,rfl⟩|⟨ps,q,rfl⟩
   ·exact⟨ha,by rw[ae];exact hl,vs,_,rv,ha⟩
   ·obtain⟨c,pos,qual,rfl,_,e2⟩:=atT q;exact⟨#[],e2,trivial,pos,qual,#[],by simp,.inl rfl⟩
  have yD:∀{b:cG}{o:Obj},s₁.heap.get? b=some o->H b=none->(Bm s₁.heap H).get? b=some o:=λe n=>Mv e n
  have Wv:∀{b:cG}{o:Obj}{es:Array DictEntry}{ep:Nat},s₁.heap.get? b=some o->o.data=.dict es ep->H b=none:=λ{b o es ep} e d=>by
   cases q:H b with
   |none=>rfl
   |some u=>
    rcases uo b u q with⟨rfl,_,_⟩|⟨ps,q2,_⟩
    ·rw[ha]at e;cases e;have d':Data.seq vs.toArray _=Data.dict es ep:=d;cases d'
    ·obtain⟨c,pos,qual,_,_,e2⟩:=atT q2;rw[e]at e2;cases e2;cases d
  have Yx:∀{b:cG}{m:cg},s₁.heap.Ns b m->(Bm s₁.heap H).Ns b m:=λ{b m} ⟨o,es,ep,e,d,r⟩=>⟨o,es,ep,yD e (Wv e d),d,r⟩
  have hKb:K.In (Bm s₁.heap H):=λb o e=>yD (KX b o e) (by
   cases q:H b with
   |none=>rfl
   |some u=>
    rcases uo b u q with⟨rfl,hk,_⟩|⟨ps,q2,_⟩
    ·rw[hk]at e;cases e
    ·obtain⟨c,pos,qual,_,_,e2⟩:=atT q2;rw[KX b o e]at e2;cases e2;have h2:=all_eq_true.mp Yw (b,W.tabObj #[]) (W.mem_of_lookupK e);exact absurd (show false=true from h2) aZ)
  have hM:Mod K mg (Bm s₁.heap H):=⟨hKb,Yx M7,⟨mb,Yx hb,hbb⟩,let ⟨mc,h1,h2⟩:=Uh;⟨mc,Yx h1,h2⟩⟩;have noB:∀{b:cG}{o:Obj}{T:String},s₁.heap.get? b=some o->o.cls=.type T->T≠"list"->H b=none:=λ{b o T} e d nl=>by
   cases q:H b with
   |none=>rfl
   |some u=>
    rcases uo b u q with⟨rfl,_,_⟩|⟨ps,q2,_⟩
    ·rw[ha]at e;cases e;injection (show Value.type "list"=Value.type T from d)with d'
     exact absurd d'.symm nl
    ·obtain⟨c,pos,qual,_,_,e2⟩:=atT q2;rw[e]at e2;cases e2;cases d
  have Yy:KR K mg (Bm s₁.heap H) H:=λx c Pt pos qual hm ht=>by
   obtain⟨hC,hP⟩:=hT x c Pt pos qual hm ht;obtain⟨o,vs',file,tf,flags,tg,inF,text,tt,c1,c2,c3⟩:=hC;obtain⟨bm,ob,b1,b2,b3,b4,b5,b6⟩:=hbm;refine⟨⟨#[],by rw[ut Pt _ (vi Qf (M6 hm ht))];simp⟩,⟨o,vs',file,tf,flags,tg,inF,text,tt,yD c1 (noB c1 c2 (by decide)),c2,c3⟩,bm,ob,b1,b2,λz=>?_,λz=>?_,yD b3 (noB b3 b4 (by decide)),b4,b5,b6⟩
   ·obtain⟨og,es,ep,e,hd,_⟩:=M7;rw[z,e]at b3;cases b3;rw[hd]at b6;cases b6
   ·rw[z,hP]at b3;cases b3;cases b4
  have e0:HH P w K mg (Bm s₁.heap H) callerA [] s₁ H:=⟨rfl,hM,λb o e=>Qm e,Nat.le_of_eq (KS _ _),trivial,λb hb=>absurd (show b∈([]:List cG)from hb) (by simp),gk,.of_eq hg,Yy⟩
  refine codeAny_mono ((F _ hKb (Yx M7)).run callerA [] s₁ H ⟨[.ref a],[]⟩ [.ref a] [.ref a] _ _ hr e0 (WM s₁ (.ref a)) (.cons rfl .nil) (Qa H hS)) λr s' h=>?_
  cases r with
  |error e=>exact(Zz H e s' h).elim
  |ok fl=>
   cases fl with
   |next=>exact False.elim h
   |brk=>exact False.elim h
   |cont=>exact False.elim h
   |ret u=>
    obtain⟨v,H',os,bare,un,WN,r',q⟩:=h;have q':v=.bl true:=q;subst q';obtain rfl:u=Value.bool true:=r';refine⟨rfl,⟨λb o e=>?_,λb o e=>un.there b o e (by simp)⟩,os,bare⟩
    cases q:H b with
    |none=>exact .inl (un.keep b o e q (by intro z;exact absurd (show b∈([]:List cG)from z) (by simp)) (by simp))
    |some u=>
     rcases uo b u q with⟨_,_,rfl⟩|⟨ps,q2,rfl⟩
     ·have z2:=un.Du b _ _ q;obtain⟨e1,_⟩:=gk b _ q;obtain⟨e2,_⟩:=WN b _ z2;rw[e]at e1;cases e1;exact .inl e2
     ·obtain⟨c,pos,qual,_,hC,e2⟩:=atT q2;obtain⟨more,e3⟩:=un.Bl b _ q;obtain⟨qs,e4,_⟩:=(show Cb H' s'.heap b (ps++more)from WN b _ e3)
      rw[e]at e2;cases e2;exact .inr (.inl ⟨(hC.tab e).isCodeTable,rfl,#[],qs,rfl,by rw[e4];simp⟩)
 cases hk:K.lookup a with
 |some o=>
  have e:=KX a o hk;rw[ha]at e;cases e;exact core (λ_=>none) (λb u z=>by cases z) (.inr ⟨_,vs.toArray,_,hk,rfl,rfl,rfl,by rw[aq,M8];exact hl,by simpa using rv⟩)
 |none=>
  refine core (λb=>if b=a then some (.yT {cls:=.type "list",data:=.seq vs.toArray} (.lst (ns.map V.int)))else none) (λb u z=>?_) (.inl (.inr ⟨{cls:=.type "list",data:=.seq vs.toArray},if_pos rfl⟩))
  by_cases hb:b=a
  ·have z':=(if_pos hb).symm.trans z;cases z';exact⟨hb,hk,rfl⟩
  ·have z':=(if_neg hb).symm.trans z;cases z'
def QO {l:W.OpenLaw}{n k:Nat}{q:cC}{loose:List Str}{YP:cD->Heap->Prop}{d:DefRec}{K:Params->W.Frag}{CX:cD->Qy}{sp:cD->Sp}{x:Str}(hn:l.most=some n) (VC:n<=sizeLine) (WJ:d.params.defaults=[]) (hr:hW k callerA) (hY:∀(w:cD) (h:Heap),YP w h->(K w.params).In h) (M9:∀t∈yk,((recsOf q).find? λe=>e.name==t.1).isSome=true) (F:∀(w:cD) (mg:cg) (fa:cG) (h:Heap),(K w.params).In h->h.Ns mainGlobals mg->mg d.name=some (.ref fa)->
   tabsOk (K w.params)=true/\∃fd:cB,(∀(s:cA) (u:cy),BindsTo s fd ⟨[u],[]⟩ [(x,u)])/\
    ∀base:Heap,(K w.params).In base->base.Ns mainGlobals mg->eO l.prog w (K w.params) mg base (CX w) k fa fd [x] (sp w)) (Qa:∀(w:cD) (H:Hp) (a:cG) (ns:cp),ns.length<=n->rD (K w.params) H a (ns.map V.int)->sp w [.ref a] H (λv _=>v=.bl true) λ_ _ _=>False) (Zz:∀(w:cD) (H:Hp) (s:cA) (e:cy) (s':cA),CX w [] H s (λ_ _ _=>False) e s'->False):W.WalkO q loose XP YP l.row.toRowW d [] (λf vs=>PySem.call f vs):=by
 refine Att.Fl hn WJ λw s₀ s₁ mg mb fa o pm cd doc a vs ns G Y ho hd yX WK Ug hints hlen hg=>?_
 have KX:=hY w _ Y;obtain⟨Zy,fd,hb,hF⟩:=F w mg fa _ KX G.T.g WK;refine Ld KX G.T.g G.T.b G.T.builtins G.T.nolimit hg Ug hints (aD hlen VC) hr Zy (λx c Pt pos qual hm ht=>?_) (let ⟨bm,ob,b1,b2,b3,b4,b5,b6⟩:=G.T.bmain;⟨bm,ob,b1,b2,b3,b4,b5,b6⟩) hF hb (λH hS=>Qa w H a ns hlen hS) λH e s'=>Zz w H s₁ e s'
 obtain⟨d',R7⟩:=Option.isSome_iff_exists.mp (M9 _ hm);exact W.tab_of G.T KX R7 ht
theorem mX (env:Env):∀(names:List (Str×NameKind)) (x:Str),
  (names.map λ(n,k)=>if(k==NameKind.free&&env.scope.kind==.function&&env.kindOf n==some .cell)then(n,NameKind.cell)else(n,k)).lookup x=
   (names.lookup x).map λk=>if(k==NameKind.free&&env.scope.kind==.function&&env.kindOf x==some .cell)then NameKind.cell else k
 |[],_=>rfl
 |(n,k)::r,x=>by
  have ih:=mX env r x;rw[aF];show List.lookup x ((if(k==NameKind.free&&env.scope.kind==.function&&env.kindOf n==some .cell)=true then(n,NameKind.cell)else(n,k))::_)=_
  by_cases hx:x=n
  ·subst hx;by_cases hc:(k==NameKind.free&&env.scope.kind==.function&&env.kindOf x==some .cell)=true
   ·rw[if_pos hc];simp only[bp,bM,bA];rw[if_pos hc]
   ·rw[if_neg hc];simp only[bp,bM,bA];rw[if_neg hc]
  ·have hb:(x==n)=false:=by simpa using hx
   by_cases hc:(k==NameKind.free&&env.scope.kind==.function&&env.kindOf n==some .cell)=true
   ·rw[if_pos hc];simp only[bp,hb];exact ih
   ·rw[if_neg hc];simp only[bp,hb];exact ih
theorem mem_lookup {α:Type}:∀{l:List (Str×α)}{x:Str}{a:α},l.lookup x=some a->(x,a)∈l
 |[],_,_,h=>by cases h
 |(n,b)::r,x,a,h=>by
  by_cases hx:x=n
  ·subst hx;simp only[bp,bM,Option.some.injEq]at h;subst h;exact af
  ·have hb:(x==n)=false:=by simpa using hx
   simp only[bp,hb]at h;exact ai _ (mem_lookup h)
def HM (h:∀y∈scope.names,y.2=.free->∃c,env.cells.lookup y.1=some c):∃cl,closureFor scope env=pure cl/\(∀x c,cl.lookup x=some c->env.cells.lookup x=some c/\(x,NameKind.free)∈scope.names)/\(∀x,(x,NameKind.free)∈scope.names->∃c,cl.lookup x=some c):=by
 have loop:∀(l:List (Str×NameKind)) (acc:List (Str×cG)) (f:Str×NameKind->List (Str×cG)->Sem (ForInStep (List (Str×cG)))),
   (∀n k a,f (n,k) a=if(k==NameKind.free)=true then(do let c <-cellOf env n;pure (ForInStep.yield ((n,c)::a)))else pure (ForInStep.yield a))->
   (∀y∈l,y.2=.free->∃c,env.cells.lookup y.1=some c)->
   ∃cl,forIn l acc f=pure cl/\(∀x c,cl.lookup x=some c->acc.lookup x=some c\/(env.cells.lookup x=some c/\(x,NameKind.free)∈l))/\(∀x,((x,NameKind.free)∈l\/∃c,acc.lookup x=some c)->∃c,cl.lookup x=some c):=by
  intro l;induction l with
  |nil=>intro acc f _ _;exact⟨acc,rfl,λx c e=>.inl e,λx e=>e.elim (λz=>nomatch z) id⟩
  |cons y r ih=>
   intro acc f hf hl;obtain⟨n,k⟩:=y;have hr:∀y∈r,y.2=.free->∃c,env.cells.lookup y.1=some c:=λy hy=>hl y (ai _ hy)
   rw[forIn_cons,hf];by_cases hk:k=.free
   ·subst hk;obtain⟨c,hc⟩:=hl (n,.free) af rfl;have ec:cellOf env n=pure c:=by unfold cellOf;rw[hc]
    rw[if_pos (by rfl),ec]
    obtain⟨cl,e1,e2,e3⟩:=ih ((n,c)::acc) f hf hr;refine⟨cl,by simpa using e1,λx d hx=>?_,λx hx=>e3 x ?_⟩
    ·rcases e2 x d hx with z|⟨z1,z2⟩
     ·by_cases VE:x=n
      ·subst VE;simp only[bp,bM,Option.some.injEq]at z;subst z;exact .inr ⟨hc,af⟩
      ·have hb:(x==n)=false:=by simpa using VE
       simp only[bp,hb]at z;exact .inl z
     ·exact .inr ⟨z1,ai _ z2⟩
    ·by_cases VE:x=n
     ·subst VE;exact .inr ⟨c,by simp[bp]⟩
     ·have hb:(x==n)=false:=by simpa using VE
      rcases hx with z|⟨d,z⟩
      ·rcases mem_cons.mp z with z|z
       ·cases z;exact absurd rfl VE
       ·exact .inl z
      ·exact .inr ⟨d,by simp only[bp,hb];exact z⟩
   ·have hb:(k==NameKind.free)=false:=by simpa using hk
    rw[if_neg (by rw[hb];exact aZ)]
    obtain⟨cl,e1,e2,e3⟩:=ih acc f hf hr;refine⟨cl,by simpa using e1,λx d hx=>(e2 x d hx).elim .inl λz=>.inr ⟨z.1,ai _ z.2⟩,λx hx=>e3 x ?_⟩
    rcases hx with z|z
    ·rcases mem_cons.mp z with z|z
     ·cases z;exact absurd rfl hk
     ·exact .inl z
    ·exact .inr z
 have ec:closureFor scope env=forIn scope.names ([]:List (Str×cG)) (λ(x:Str×NameKind) a=>if(x.2==NameKind.free)=true then(do let c <-cellOf env x.1;pure (ForInStep.yield ((x.1,c)::a)))else pure (ForInStep.yield a)):=by
  unfold closureFor;simp only[bind_pure]
 obtain⟨cl,e1,e2,e3⟩:=loop scope.names [] (λ(x:Str×NameKind) a=>if(x.2==NameKind.free)=true then(do let c <-cellOf env x.1;pure (ForInStep.yield ((x.1,c)::a)))else pure (ForInStep.yield a)) (λn k a=>rfl) h
 refine⟨cl,?_,λx c hx=>?_,λx hx=>e3 x (.inl hx)⟩
 ·rw[ec,e1]
 ·rcases e2 x c hx with z|z
  ·simp at z
  ·exact z
noncomputable def fj (X:Cx) (scope:Scope) (cl:List (Str×cG)) (C:cG) (s:cA) (H:Hp) (fp:List cG):Cx:=
 {X with s₀:=s,H₀:=H,env:=compEnvC scope cl C X.env,outer:=X.stack,ex:=fp,fn:=λ_=>false,pn:=[],xe:=λ_ _=>False}
noncomputable def pP (N:List Str) (outer names:List (Str×NameKind)) (xs:List Str):Bool:=
 names.all (λy=>(y.2!=.cell&&(y.2!=.local||xs.contains y.1|| !(N.contains y.1)))&&(y.2!=.local||names.lookup y.1==some .local)&&(y.2!=.free||((outer.lookup y.1==some .cell||outer.lookup y.1==some .free)&&names.lookup y.1==some .free)))&&xs.all λx=>names.lookup x==some .local
structure uL (X:Cx) (scope:Scope) (x:Str) (j:Nat):Prop where
 kind:scope.kind=.function
 ok:pP X.N X.env.scope.names scope.names [x]=true
 hj:X.N[j]? =some x
 nd:X.N.Nodup
abbrev Na (X:Cx) (scope:Scope):Prop:=∀y∈scope.names,y.2≠.cell/\(y.2=.local->scope.names.lookup y.1=some .local)/\(y.2=.free->(X.env.kindOf y.1=some .cell\/X.env.kindOf y.1=some .free)/\scope.names.lookup y.1=some .free)
section
variable {X:Cx}{scope:Scope}{xs:List Str}
def HN (h:pP X.N X.env.scope.names scope.names xs=true):Na X scope:=λy hy=>by
 unfold pP at h;have h1:=(all_eq_true.mp (Bool.and_eq_true_iff.mp h).1) y hy;have h2:=Bool.and_eq_true_iff.mp h1;have h3:=Bool.and_eq_true_iff.mp h2.1;have h0:=Bool.and_eq_true_iff.mp h3.1;refine⟨by simpa using h0.1,λe=>?_,λe=>?_⟩
 ·have:=h3.2;rw[e]at this
  simpa using this
 ·have:=h2.2;rw[e]at this;exact(by simpa using this:(X.env.scope.names.lookup y.1=some .cell\/X.env.scope.names.lookup y.1=some .free)/\scope.names.lookup y.1=some .free)
def QP (h:pP X.N X.env.scope.names scope.names xs=true) (hm:(y,NameKind.local)∈scope.names) {i:Nat}(e:X.N[i]? =some y):y∈xs:=by
 unfold pP at h;have h1:=(all_eq_true.mp (Bool.and_eq_true_iff.mp h).1) _ hm;have h2:=Bool.and_eq_true_iff.mp h1;have h3:=Bool.and_eq_true_iff.mp h2.1;have h0:=(Bool.and_eq_true_iff.mp h3.1).2;have hN:y∈X.N:=bh e;have hN':X.N.contains y=true:=by simpa using hN
 simp only[hN',bne_self_eq_false,Bool.false_or,bS,Bool.or_false]at h0
 simpa using h0
def Sj (h:pP X.N X.env.scope.names scope.names xs=true) {x:Str}(hx:x∈xs):scope.names.lookup x=some .local:=by
 unfold pP at h
 simpa using (all_eq_true.mp (Bool.and_eq_true_iff.mp h).2) x hx
end
def Nb (X:Cx) (ifs:List cH) (t:TT):Prop:=
 ∀(cM:cj) (s:cA) (σ:St) (H:Hp) (Q:Bool->Hp->Prop),Inv X cM σ H s->t σ H Q->
  wpAny (model X.prog X.w) X.A (forIn ifs true λc r=>if r=true then do let ok <-isTrue c X.env (eval c X.env);pure (ForInStep.yield ok)else pure (ForInStep.yield r)) (TP X cM σ Q) X.xe s
noncomputable def WR:TT:=λ_ H Q=>Q true H
def Fm:Nb X [] WR:=λ_ _ _ H _ I h=>wpAny_tests_nil ⟨H,I,h⟩
def Fn {X:Cx}{t:TT}(h:PT X c t):Nb X [c] t:=λcM s σ H Q I q=>wpAny_tests_one (h cM s σ H Q I q)
abbrev TZ:=St->V->Hp->(St->Hp->Prop)->Prop
def Nc (wi:TI) (Z:TZ) (tt:TT) (te:TE):TE:=λσ H Q=>wi σ H λJ H1=>∀D,H1 D=none->∃W:Nat->Nat->List V->Hp->Prop,(∃m,W 0 m [] (upd H1 D (.lst [])))/\
 ∀i m acc H,W i m acc H->(J.stop i H/\Q (.ref D) H)\/(J.go i H/\∀x H',J.Tw i H x H'->Z σ x H' λσ' H'=>tt σ' H' λb H2=>
  if b=true then te σ' H2 λy H3=>H3 D=some (.lst acc)/\acc.length<sizeLine/\∃m',m'<m/\W (i+1) m' (acc++[y]) (upd H3 D (.lst (acc++[y])))else ∃m',m'<m/\W (i+1) m' acc H2)
abbrev Nd (wi:TI) (j:Nat) (tt:TT) (te:TE):TE:=Nc wi (λσ x H' k=>k (σ.set j (some x)) H') tt te
structure Nf (X:Cx) (scope:Scope) (tg:cH) (Z:TZ):Prop where
 kind:scope.kind=.function
 all:Na X scope
 tgt:∀σ:St,σ.length=X.N.length->∃z:St,z.length=σ.length/\(∀(i:Nat) y v,X.N[i]? =some y->z[i]? =some (some v)->σ[i]? =some (some v)/\(y,NameKind.local)∉scope.names)/\
  ∀cl C s H fp,∃g,PG (fj X scope cl C s H fp) tg g/\∀x H' k,Z σ x H' k->g x z H' λσ' H''=>(∀(k:Nat) v,z[k]? =some (some v)->σ'[k]? =some (some v))/\k σ' H''
theorem DJ {prog:cC}{w:cD}{A:cE}{s:cA}{elt target iter:cH}{ifs:List cH}{scope:Scope}{pos:Pos}{it acc:cy}{env:Env}(I:Nat->cA->Prop) (turn:∀n s,I n s->wpAny (model prog w) A (pyNext it) (λr s₁=>match r with
   |none=>R (.ok .next) s₁
   |some v=>wpAny (model prog w) A (letOwnedTupleGo target it v) (λ_ s₁=>wpAny (model prog w) A (assign target env v) (λ_ s₂=>
     wpAny (model prog w) A (forIn ifs true λc r=>if r=true then do let ok <-isTrue c env (eval c env);pure (ForInStep.yield ok)else pure (ForInStep.yield r)) (λok s₃=>
      if ok=true then wpAny (model prog w) A (eval elt env) (λx s₄=>
       wpAny (model prog w) A (call (.builtin "list.append") [acc,x]) (λ_ s₅=>∃m,m<n/\I m s₅) (λ_ _=>False) s₄) (λ_ _=>False) s₃
      else ∃m,m<n/\I m s₃) (λ_ _=>False) s₂) (λ_ _=>False) s₁) (λ_ _=>False) s₁) (λ_ _=>False) s) (n:Nat) (h:I n s):codeAny (model prog w) A (.compLoop (.ListComp elt [⟨target,iter,ifs,0⟩] scope pos) 0 it acc env) R s:=by
 refine codeAny_loop rfl I (λn s hI=>?_) n h
 show wpAny _ A ((compTurn (.ListComp elt [⟨target,iter,ifs,0⟩] scope pos) 0 it acc env).onRaise (λx=>do noteFrame x env;theTreesLotGoes x)) _ _ s
 refine wpAny_noted ?_;rw[compTurn_list];refine aa (wpAny_standAt (aa (bO (turn n s hI) (λr s₁ h₁=>?_) λ_ _ h'=>h'.elim)))
 cases r with
 |none=>exact aj h₁
 |some v=>
  refine aa (bO h₁ (λ_ s₁ h₁=>?_) λ_ _ h'=>h'.elim)
  refine aa (bO h₁ (λ_ s₂ h₂=>aa (bO h₂ (λok s₃ h₃=>?_) λ_ _ h'=>h'.elim)) λ_ _ h'=>h'.elim)
  cases ok with
  |false=>exact aj ⟨rfl,h₃⟩
  |true=>
   exact aa (aa (bO h₃ (λx s₄ h₄=>aa (bO h₄ (λ_ s₅ h₅=>aj (aj ⟨rfl,h₅⟩)) λ_ _ h'=>h'.elim)) λ_ _ h'=>h'.elim))
section
variable {X:Cx}{elt iter tg:cH}{Z:TZ}{ifs:List cH}{x:Str}{px pos:Pos}{scope:Scope}{j:Nat}{wi:TI}{tt:TT}{te:TE}
def zj (hc:X.calm=true) (S:Nf X scope tg Z) (wF:closureFor scope X.env=pure cl) (Mn:∀y c,cl.lookup y=some c->X.env.cells.lookup y=some c/\(y,NameKind.free)∈scope.names) (VF:∀y,(y,NameKind.free)∈scope.names->∃c,cl.lookup y=some c) (ht:∀cl C s H fp,Nb (fj X scope cl C s H fp) ifs tt) (he:∀cl C s H fp,PE (fj X scope cl C s H fp) elt te) {Q:VK}(I2:Inv X cM σ H2 s₂) (T:Turn X.prog X.w X.K tg J fp it tn) (Sb:tn 0 s₂.heap) (f2:∀b∈fp,Fc X cM H2 b) (hR:∀D,H2 D=none->∃W:Nat->Nat->List V->Hp->Prop,(∃m,W 0 m [] (upd H2 D (.lst [])))/\
   ∀i m acc H,W i m acc H->(J.stop i H/\Q (.ref D) H)\/(J.go i H/\∀x H',J.Tw i H x H'->Z σ x H' λσ' H'=>tt σ' H' λb H2=>
    if b=true then te σ' H2 λy H3=>H3 D=some (.lst acc)/\acc.length<sizeLine/\∃m',m'<m/\W (i+1) m' (acc++[y]) (upd H3 D (.lst (acc++[y])))else ∃m',m'<m/\W (i+1) m' acc H2)) {RR:cy->cG->Result->cA->Prop}(hRR:∀D C s' H' m',s₂.heap.objs.size<=C->Inv X cM σ H' s'->s'.heap.Ns C m'->H' C=none->Q (.ref D) H'->RR (.ref D) C (.ok .next) s'):wpAny (model X.prog X.w) X.A (newList []) (λacc s₃=>wpAny (model X.prog X.w) X.A (newFunctionEnv scope X.env.globals cl [] X.env.qual none .none (some X.env)) (λWS s₄=>
   codeAny (model X.prog X.w) X.A (.compStart (.ListComp elt [⟨tg,iter,ifs,0⟩] scope pos) 0 (.ref it) acc {WS with scope:=relabel scope X.env}) (RR acc WS.locals) s₄) E s₃) E s₂:=by
 have A1:=S.all;obtain⟨z,zl,z0,zg⟩:=S.tgt σ I2.len;refine bQ (wpAny_newFunctionEnv (λy hy=>(A1 y hy).1) (by intro y hy;simp at hy) (λh₁ QQ Ng=>?_) S.kind)
 dsimp only at QQ Ng ⊢;generalize WT:s₂.heap.push {cls:=.type "list",dict:=none,data:=.seq ([]:cx).toArray}=G at QQ Ng ⊢;have hC:G.objs.size=s₂.heap.objs.size+1:=by rw[<-WT,Heap.size_push]
 have Yz:s₂.heap.objs.size≠G.objs.size:=by rw[hC];exact aE (Nat.lt_succ_self _)
 have HP:s₂.heap.objs.size<=G.objs.size:=by rw[hC];exact Nat.le_succ _
 have below:∀b,b<s₂.heap.objs.size->b≠G.objs.size/\b≠s₂.heap.objs.size:=λb hb=>⟨by rw[hC];exact aE (Nat.lt_succ_of_lt hb),aE hb⟩
 have old:∀b o,s₂.heap.get? b=some o->h₁.get? b=some o:=λb o e=>Ng.extBut b o (below b (aB e)).1 (ag _ (WT▸ag _ e))
 have tZ:h₁.get? s₂.heap.objs.size=some {cls:=.type "list",data:=.seq ([]:cx).toArray 0}:=Ng.extBut _ _ Yz (ag _ (WT▸az _ rfl));generalize hCn:G.objs.size=C at QQ Ng hC Yz HP below ⊢;generalize Fo:s₂.heap.objs.size=D at tZ hC Yz HP below ⊢;have hD2:H2 D=none:=by rw[<-Fo];exact I2.gk.fresh (au _)
 have hC2:H2 C=none:=I2.gk.fresh (by rw[Fo];exact HP)
 obtain⟨W,⟨m0,w0⟩,turn⟩:=hR D hD2;have Nh:∀b∈fp,b<D:=λb hb=>by
  obtain⟨o,e,_⟩:=T.obj 0 _ Sb b hb;rw[<-Fo];exact aB e
 have ok:(fj X scope cl C s₂ H2 fp).Ok:=by
  have o:=I2.ok;refine⟨o.mod,S.kind,o.glob,o.blt,by show s₂.heap.objs.size<=C;rw[Fo];exact HP,λy z c e1 e2=>o.inj y z c (Mn y c e1).1 (Mn z c e2).1,λy hy=>?_,λy c z=>(by cases z),o.hd,o.frames,.inl rfl,λb hb=>⟨?_,λy c e=>(f2 b hb).2.2.2.2.1 y c (Mn y c e).1⟩,
   λb ob e=>I2.bs b ob e,aD o.P7 I2.sz,λb ob e hb=>?_,λb hb z=>?_,I2.stack,I2.JB,I2.ok.tb.un I2.base⟩
  ·have q:((relabel scope X.env).names.lookup y=some .cell\/(relabel scope X.env).names.lookup y=some .free):=hy;have e:=mX X.env scope.names y;have fr:scope.names.lookup y=some .free:=by
    cases k:scope.names.lookup y with
    |none=>
     rw[k]at e;have e':(relabel scope X.env).names.lookup y=none:=e;rw[e']at q;rcases q with q|q<;>cases q
    |some kk=>
     by_cases hk:kk=.free
     ·rw[hk]
     ·rw[k]at e;have hb:(kk==NameKind.free)=false:=by simpa using hk
      have e':(relabel scope X.env).names.lookup y=some kk:=by
       refine e.trans ?_;simp only[bA,hb,Bool.false_and,aI,bD]
      rw[e']at q;have hm:(y,kk)∈scope.names:=mem_lookup k;rcases q with q|q
      ·exact absurd (aS q) (A1 _ hm).1
      ·exact absurd (aS q) hk
   exact VF y (mem_lookup fr)
  ·show b≠C;exact aE (aw (Nh b hb) HP)
  ·rcases(f2 b hb).2.2.2.1 with z|z
   ·exact o.Mw b ob e z
   ·exact absurd (aw (aB e) (aD o.P7 z)) (Nat.lt_irrefl _)
  ·rcases mem_cons.mp (I2.Dv b z)with z|z
   ·exact(f2 b hb).2.1 z
   ·exact(f2 b hb).2.2.1 z
 have WU:Un (JA X.stack) fp H2 (upd H2 D (.lst [])) s₂.heap h₁:=Un.laid old (by rw[Fo];exact au _) hD2
 have QR:∀y c,cl.lookup y=some c->c<D:=λy c e=>by
  obtain⟨v,z⟩:=I2.cell y c (Mn y c e).1;rw[<-Fo];exact z.lt
 have Hy:∀{H':Hp},(∀b∈fp,H' b=none)->∀b∈fp,Fc (fj X scope cl C s₂ H2 fp) [] H' b:=λhn b hb=>
  ⟨hn b hb,aE (aw (Nh b hb) HP),λz=>(mem_cons.mp (I2.Dv b z)).elim (λq=>(f2 b hb).2.1 q) λq=>(f2 b hb).2.2.1 q,.inl hb,λy c e=>(f2 b hb).2.2.2.2.1 y c (Mn y c e).1,(λp hp=>nomatch hp)⟩
 have start:Inv (fj X scope cl C s₂ H2 fp) [] z (upd H2 D (.lst [])) {s₂ with heap:=h₁,toks:=s₂.toks+([]:List (Str×cy)).length}:=by
  refine⟨ok,rfl,I2.bare,WU,⟨_,QQ,λi y v e1 e2 e3=>?_⟩,λy c e=>?_,?_,λy c e=>?_,(λp hp=>nomatch hp),?_,?_⟩
  ·obtain⟨m,hn,hl⟩:=I2.loc;obtain⟨e2,WA⟩:=z0 i y v e1 e2
   ·skip
    have YA:(relabel scope X.env).names.lookup y=some .local\/(relabel scope X.env).names.lookup y=some .cell\/(relabel scope X.env).names.lookup y=some .free:=e3;have er:=mX X.env scope.names y;have YB:(relabel scope X.env).names.lookup y=(scope.names.lookup y).map λk=>if(k==NameKind.free&&X.env.scope.kind==.function&&X.env.kindOf y==some .cell)then NameKind.cell else k:=er
    cases k:scope.names.lookup y with
    |none=>
     rw[k]at YB;have Ui:(relabel scope X.env).names.lookup y=none:=YB;rw[Ui]at YA;rcases YA with q|q|q<;>cases q
    |some kk=>
     have hm:(y,kk)∈scope.names:=mem_lookup k;obtain⟨a1,a2,a3⟩:=A1 _ hm;by_cases hk:kk=.free
     ·subst hk;obtain⟨o1,_⟩:=a3 rfl;have ZC:Vx X.env.scope y:=o1.elim (λz=>.inr (.inl z)) λz=>.inr (.inr z)
      obtain⟨u,r,l⟩:=hl i y v e1 e2 ZC;obtain⟨c',My⟩:=VF y hm;refine⟨u,r,.inr ⟨?_,c',My,?_⟩⟩
      ·show(relabel scope X.env).names.lookup y=some .cell\/(relabel scope X.env).names.lookup y=some .free;rw[YB,k];simp only[bA];split
       ·exact .inl rfl
       ·exact .inr rfl
      ·rcases l with⟨l1,_⟩|⟨_,c,ec,z⟩
       ·rcases o1 with o1|o1<;>(rw[l1]at o1;cases o1)
       ·have ec2:=(Mn y c' My).1;rw[ec]at ec2;cases ec2;obtain⟨oc,ho,hd⟩:=z;exact⟨oc,old _ _ ho,hd⟩
     ·have hb:(kk==NameKind.free)=false:=by simpa using hk
      have Ui:(relabel scope X.env).names.lookup y=some kk:=by rw[YB,k];simp only[bA,hb,Bool.false_and,aI,bD]
      rw[Ui]at YA;rcases YA with q|q|q
      ·
       cases q;exact absurd hm WA
      ·cases q;exact absurd rfl a1
      ·cases q;exact absurd rfl hk
  ·obtain⟨v,oc,ho,hd⟩:=I2.cell y c (Mn y c e).1;exact⟨v,oc,old _ _ ho,hd⟩
  ·show upd H2 D (.lst []) C=none;rw[dg (Ne.symm Yz)];exact hC2
  ·rw[dg (aE (QR y c e))];exact I2.rG y c (Mn y c e).1
  ·exact I2.gk.laid old (by rw[Fo];exact au _) ⟨bK _,[],0,.nil,tZ⟩
  ·exact zl.trans I2.len
 have st1:tn 0 h₁:=T.keep _ _ _ Sb λb hb o e=>old b o e
 have fr1:∀b∈fp,upd H2 D (.lst []) b=none:=λb hb=>by rw[dg (aE (Nh b hb))];exact(f2 b hb).1
 obtain⟨g,pg,hg⟩:=zg cl C s₂ H2 fp;have loop:∀s₄:cA,s₄={s₂ with heap:=h₁,toks:=s₂.toks+([]:List (Str×cy)).length}->
   codeAny (model X.prog X.w) X.A (.compLoop (.ListComp elt [⟨tg,iter,ifs,0⟩] scope pos) 0 (.ref it) (.ref D) (compEnvC scope cl C X.env)) (RR (.ref D) C) s₄:=by
  rintro s₄ rfl
  refine DJ (λn s'=>∃i acc H',Inv (fj X scope cl C s₂ H2 fp) [] z H' s'/\tn i s'.heap/\(∀b∈fp,H' b=none)/\W i n acc H') ?_ m0 ⟨0,[],_,start,st1,fr1,w0⟩
  rintro n s3 ⟨i,acc,H3,I3,Wc,Wd,w3⟩
  rcases turn i n acc H3 w3 with⟨stop,qn⟩|⟨go,step⟩
  ·refine g7 (T.done (fj X scope cl C s₂ H2 fp) rfl rfl rfl hc i [] s3 _ H3 _ I3 (Hy Wd) Wc stop) λr s4 ⟨hr,I4⟩=>?_
   subst hr;obtain⟨m',Hn,_⟩:=I4.loc;exact hRR D C s4 H3 m' (by rw[Fo];exact HP) (I2.V0 (ch:=fp) I4.os I4.base I4.gk I4.bare λb hb=>⟨(f2 b hb).2.2.2.1,(f2 b hb).2.1,(f2 b hb).2.2.2.2.1,(f2 b hb).2.2.2.2.2⟩) Hn I4.free qn
  ·refine g7 (T.item (fj X scope cl C s₂ H2 fp) rfl rfl rfl hc i [] s3 _ H3 _ I3 (Hy Wd) Wc go) λr s4 ⟨u,hr,h4⟩=>?_
   subst hr;refine g7 h4 λ_ s5 ⟨y,H5,I5,r5,y5,TB,Zg⟩=>?_
   have Zh:=I5.pinned (Hy Zg) (T.obj _ _ TB);refine g7 (pg _ s5 _ H5 y u _ Zh r5 (hg y H5 _ (step y H5 y5))) λ_ s6 ⟨σ6,H6,I6,wk,q6⟩=>?_
   refine g7 (ht cl C s₂ H2 fp _ s6 _ H6 _ I6 q6) λb s7 ⟨H7,I7,q7⟩=>?_
   have again:∀{H8:Hp}{s8:cA}{Uj:List V},Inv (fj X scope cl C s₂ H2 fp) ([]++yY fp s5.heap) σ6 H8 s8->(∃m',m'<n/\W (i+1) m' Uj H8)->∃m,m<n/\∃i acc H',Inv (fj X scope cl C s₂ H2 fp) [] z H' s8/\tn i s8.heap/\(∀b∈fp,H' b=none)/\W i m acc H':=λ{H8 s8 Uj} I8 ⟨m',hm,w8⟩=>by
    refine⟨m',hm,i+1,Uj,H8,I8.vd.weak (zl.trans (I2.len.trans I8.len.symm)) wk,T.keep _ _ _ TB λb hb o e=>(I8.pin (b,o) (aL _ (aL _ (pN hb e)))).1,λb hb=>?_,w8⟩
    ·obtain⟨o,e,d⟩:=T.obj _ _ TB b hb;exact(I8.pin (b,o) (aL _ (aL _ (pN hb e)))).2.1
   cases b with
   |false=>exact again I7 (by simpa using q7)
   |true=>
    simp only[if_true]at q7 ⊢;refine g7 (he cl C s₂ H2 fp _ s7 _ H7 _ I7 q7) λv s8 ⟨z,H8,I8,r8,hD8,hz8,q8⟩=>?_
    refine g7 (Ck (X:=fj X scope cl C s₂ H2 fp) _ s8 _ H8 (.ref D) [z] (.ref D) [v] (λ_ H9=>∃m',m'<n/\W (i+1) m' (acc++[z]) H9) I8 rfl (.cons r8 .nil) ⟨D,acc,z,rfl,rfl,hD8,hz8,q8⟩) λ_ s9 ⟨_,H9,I9,_,q9⟩=>?_
    exact again I9 q9
 exact codeAny_compStart_list (loop _ rfl) (T.self _ 0 _ _ _ st1 (loop _ rfl))
def zk (I0:X.Ok) (S:Na X scope):∃cl,closureFor scope X.env=pure cl/\(∀y c,cl.lookup y=some c->X.env.cells.lookup y=some c/\(y,NameKind.free)∈scope.names)/\(∀y,(y,NameKind.free)∈scope.names->∃c,cl.lookup y=some c):=
 HM λy hy e=>I0.has y.1 ((S y hy).2.2 e).1
def JM (hc:X.calm=true) (S:Nf X scope tg Z) (hi:PI X tg iter wi) (ht:∀cl C s H fp,Nb (fj X scope cl C s H fp) ifs tt) (he:∀cl C s H fp,PE (fj X scope cl C s H fp) elt te)
  (hs:∀v,foldedSetIterable iter X.env v=pure v:=by intro _;rfl):PE X (.ListComp elt [⟨tg,iter,ifs,0⟩] scope pos) (Nc wi Z tt te):=by
 intro cM s σ H Q I h;obtain⟨cl,wF,Mn,VF⟩:=zk I.ok S.all;rw[eval_ListComp];refine wpAny_comprehension_free (use:=none) rfl hs wF S.kind (λy hy=>(S.all y hy).2.1) (g7 (hi cM s σ H _ I h) λv s1 h1=>g7 h1 λYs s2 h2=>?_)
 obtain⟨it,fp,tn,J,H2,e,I2,T,Sb,f2,hR⟩:=h2;subst e;refine zj hc S wF Mn VF ht he I2 T Sb f2 hR (RR:=λacc C=>compPost (model X.prog X.w) X.A X.xe none (EP X cM σ Q) acc C) ?_
 intro D C s' H' m' hC I' hn hf q;refine⟨m',hn,λh' Sk=>⟨.ref D,H',?_,rfl,q⟩⟩
 exact I'.turned (t':=s'.toks) (it:=C) (λb o hb e=>(Sk.2 b hb).trans e) hf (bw (aw I2.lt hC)) (.inr (aD I2.sz hC))
  (λy c e z=>by obtain⟨v,q⟩:=I2.cell y c e;exact absurd (aw q.lt (by rw[z];exact hC)) (Nat.lt_irrefl _)) λp hp z=>absurd (aw (aB (I2.pin p hp).1) (by rw[z];exact hC)) (Nat.lt_irrefl _)
noncomputable def Fp (i:Nat) (t:TE):TS:=λDn σ H=>t σ H λv H1=>Dn.nx (σ.set i (some v)) H1
def uL.G (S:uL X scope x j):Nf X scope (.Name x px) λσ x H' k=>k (σ.set j (some x)) H':=⟨S.kind,HN S.ok,λσ hl=>by
 have hj:j<σ.length:=by rw[hl];exact(List.getElem?_eq_some_iff.mp S.hj).1
 have zc:∀{i v},(σ.set j none)[i]? =some (some v)->i≠j/\σ[i]? =some (some v):=λ{i v} e=>by
  by_cases h:i=j
  ·subst h;rw[bc hj]at e;cases e
  ·rw[aG (Ne.symm h)]at e;exact⟨h,e⟩
 refine⟨σ.set j none,length_set,λi y v e1 e2=>⟨(zc e2).2,λhm=>(zc e2).1 ?_⟩,λcl C s H fp=>⟨_,fU (X:=fj X scope cl C s H fp) S.nd S.hj (.inl (lookup_relabel_local (Sj S.ok (by simp)))) (.inr (lookup_relabel_local (Sj S.ok (by simp)))),λx H' k h=>⟨λi v e=>?_,?_⟩⟩⟩
 ·have:=QP S.ok hm e1;simp at this;subst this;exact yW S.nd e1 S.hj
 ·rw[aG (Ne.symm (zc e).1)];exact e
 ·rw[set_set];exact h⟩
def zm (hc:X.calm=true) (S:uL X scope x j) (hi:PI X (.Name x px) iter wi) (ht:∀cl C s H fp,Nb (fj X scope cl C s H fp) ifs tt) (he:∀cl C s H fp,PE (fj X scope cl C s H fp) elt te) (hN:X.N[i]? =some y) (hy:Loc X.env.scope y) (hf:X.fn y=true\/X.env.scope.names.lookup y=some .local) (WV:swapsWith (.ListComp elt [⟨.Name x px,iter,ifs,0⟩] scope pos) (some (.Name y py)) DK.line X.env=pure true) (hs:∀v,foldedSetIterable iter X.env v=pure v:=by intro _;rfl):PS X (.Assign [.Name y py] (.ListComp elt [⟨.Name x px,iter,ifs,0⟩] scope pos) DK) (Fp i (Nd wi j tt te)):=by
 intro cM s σ H Dn I h;obtain⟨cl,wF,Mn,VF⟩:=zk I.ok (HN S.ok);rw[exec_Assign_Name_used _ _ _ _ WV];refine aa (wpAny_standAt (aa ?_));show wpAny _ X.A (do let _ <-comprehension (.ListComp elt [⟨.Name x px,iter,ifs,0⟩] scope pos) scope X.env _ (newList []) false (eval iter X.env) (some (assign (.Name y py) X.env))) _ _ s
 refine aa (bO (wpAny_comprehension_free (use:=some (assign (.Name y py) X.env)) (Q:=λ_ s'=>SP X cM Dn .next s') rfl hs wF S.kind (λy hy=>(HN S.ok y hy).2.1)
  (g7 (hi cM s σ H _ I h) λv s1 h1=>g7 h1 λYs s2 h2=>?_)) (λ_ s' hq=>aj (aj hq)) λ_ _ e=>e)
 obtain⟨it,fp,tn,J,H2,e,I2,T,Sb,f2,hR⟩:=h2;subst e;refine zj (Q:=λv H1=>Dn.nx (σ.set i (some v)) H1) hc S.G wF Mn VF ht he I2 T Sb f2 hR (RR:=λacc C=>compPost (model X.prog X.w) X.A X.xe (some (assign (.Name y py) X.env)) (λ_ s'=>SP X cM Dn .next s') acc C) ?_
 intro D C s' H' m' hC I' hn QS q;show wpAny _ X.A (assign (.Name y py) X.env (.ref D)) _ _ _;have hLC:C≠X.env.locals:=bw (aw I2.lt hC);have hcC:∀y c,X.env.cells.lookup y=some c->c≠C:=λy c e z=>by obtain⟨v,q⟩:=I2.cell y c e;exact absurd (aw q.lt (by rw[z];exact hC)) (Nat.lt_irrefl _)
 refine wpAny_assign_Name (Cc (v:=.ref D) I' S.nd hN hy rfl (λs6 I6 hs6=>?_) hf)
 obtain⟨a,Qg,ha⟩:=hs6;have hCa:C≠a:=ha.elim (λz=>by rw[z];exact hLC) λz w=>hcC _ _ z w.symm
 refine⟨m',hn.sameBut Qg hCa,λh' Sk=>⟨_,H',?_,q⟩⟩
 exact I6.turned (t':=s6.toks) (it:=C) (λb o hb e=>(Sk.2 b hb).trans e) QS hLC (.inr (aD I2.sz hC)) hcC λp hp z=>absurd (aw (aB (I2.pin p hp).1) (by rw[z];exact hC)) (Nat.lt_irrefl _)
end
end L2
namespace So
open PySem.W
noncomputable def jM {α:Type}(lt:Nat->Nat->Bool):KasT α->α
 |.ret a=>a
 |.ask i j k=>jM lt (k (lt i j))
theorem mQ (lt:Nat->Nat->Bool) (f:α->KasT β):∀t:KasT α,jM lt (t.bind f)=jM lt (f (jM lt t))
 |.ret _=>rfl
 |.ask i j k=>mQ lt f (k (lt i j))
section
variable (rank:Nat->Int)
noncomputable def kk (p:Array Nat) (i:Nat):Int:=rank (p.getD i 0)
def HQ (p:Array Nat) (n:Nat):Prop:=∀i j,i<=j->j<n->kk rank p i<=kk rank p j
def Dec (p:Array Nat) (n:Nat):Prop:=∀i j,i<=j->j<n->kk rank p j<=kk rank p i
variable {rank}
theorem Fq (h:p[i]? =q[j]?):kk rank p i=kk rank q j:=by
 unfold kk;rw[aT,aT,h]
theorem HR (hj:j<=p.size) (k:Nat):kk rank (kas_rev p i j) k=if i<=k/\k<j then kk rank p (i+j-1-k)else kk rank p k:=by
 have e:=getElem?_mirror_all (xs:=p) (i:=i) hj k;unfold kas_rev;split
 ·rename_i h;rw[if_pos h]at e;exact Fq e
 ·rename_i h;rw[if_neg h]at e;exact Fq e
theorem wO (hj:j<=p.size) (he:∀k,i<=k->k<j->kk rank p k=kk rank p (j-1)) (k:Nat):kk rank (kas_rev p i j) k=kk rank p k:=by
 rw[HR hj];split
 ·rw[he _ (by omega) (by omega),he k (by omega) (by omega)]
 ·rfl
theorem jN (p:Array Nat) (i j:Nat):(kas_rev p i j).Perm p:=mirror_perm _ _ _ _
theorem zo (p:Array Nat) (i j:Nat):(kas_rev p i j).size=p.size:=(jN p i j).size_eq
theorem HQ.snoc (h:HQ rank p n) (h1:1<=n) (hx:kk rank p (n-1)<=kk rank p n):HQ rank p (n+1):=λi j Fs hj=>by
 by_cases Uk:j<n
 ·exact h i j Fs Uk
 ·have e:j=n:=by omega
  subst e;by_cases hi:i=j
  ·subst hi;exact Int.le_refl _
  ·exact Int.le_trans (h i (j-1) (by omega) (by omega)) hx
theorem Dec.snoc (h:Dec rank p n) (h1:1<=n) (hx:kk rank p n<=kk rank p (n-1)):Dec rank p (n+1):=λi j Fs hj=>by
 by_cases Uk:j<n
 ·exact h i j Fs Uk
 ·have e:j=n:=by omega
  subst e;by_cases hi:i=j
  ·subst hi;exact Int.le_refl _
  ·exact Int.le_trans hx (h i (j-1) (by omega) (by omega))
theorem Dec.congr (h:Dec rank p n) (e:∀k,kk rank q k=kk rank p k):Dec rank q n:=λi j Fs hj=>by rw[e,e];exact h i j Fs hj
variable {lt:Nat->Nat->Bool}(fP:∀i j,lt i j=decide (rank i<rank j))
include fP
theorem Ni {p:Array Nat}(f n:Nat):jM lt (kas_asc p (f+1) n)=if rank (p.getD n 0)<rank (p.getD (n-1) 0)then n else jM lt (kas_asc p f (n+1)):=by
 show jM lt (if lt (p.getD n 0) (p.getD (n-1) 0)=true then KasT.ret n else kas_asc p f (n+1))=_
 rw[fP];by_cases c:rank (p.getD n 0)<rank (p.getD (n-1) 0)
 ·rw[aR c,if_pos rfl,if_pos c];rfl
 ·rw[aH c,if_neg aZ,if_neg c]
theorem DM {p:Array Nat}:∀(f n:Nat),1<=n->HQ rank p n->let m:=jM lt (kas_asc p f n);n<=m/\m<=n+f/\HQ rank p m/\(m=n+f\/kk rank p m<kk rank p (m-1))
 |0,n,h1,h=>⟨au _,au _,h,.inl rfl⟩
 |f+1,n,h1,h=>by
  dsimp only;rw[Ni fP];by_cases c:rank (p.getD n 0)<rank (p.getD (n-1) 0)
  ·rw[if_pos c];exact⟨au _,by omega,h,.inr c⟩
  ·rw[if_neg c];have ih:=DM f (n+1) (by omega) (h.snoc h1 (by show rank _<=rank _;omega))
   dsimp only at ih;obtain⟨a,b,c',d⟩:=ih;exact⟨by omega,by omega,c',d.elim (λz=>.inl (by omega)) .inr⟩
theorem Le (f:Nat) (p:Array Nat) (n q:Nat):jM lt (kas_desc (f+1) p n q)=if rank (p.getD n 0)<rank (p.getD (n-1) 0)then(if q>0 then jM lt (kas_desc f (kas_rev p (n-(q+1)) n) (n+1) 0)else jM lt (kas_desc f p (n+1) 0))
  else if rank (p.getD (n-1) 0)<rank (p.getD n 0)then(p,n,q)else jM lt (kas_desc f p (n+1) (q+1)):=by
 show jM lt (if lt (p.getD n 0) (p.getD (n-1) 0)=true then(if q>0 then kas_desc f (kas_rev p (n-(q+1)) n) (n+1) 0 else kas_desc f p (n+1) 0)
  else .ask (p.getD (n-1) 0) (p.getD n 0) λd=>if d=true then .ret (p,n,q)else kas_desc f p (n+1) (q+1))=_
 rw[fP];by_cases c:rank (p.getD n 0)<rank (p.getD (n-1) 0)
 ·rw[aR c,if_pos rfl,if_pos c];split<;>rfl
 ·rw[aH c,if_neg aZ,if_neg c];show jM lt (if lt (p.getD (n-1) 0) (p.getD n 0)=true then KasT.ret (p,n,q)else kas_desc f p (n+1) (q+1))=_
  rw[fP];by_cases c2:rank (p.getD (n-1) 0)<rank (p.getD n 0)
  ·rw[aR c2,if_pos rfl,if_pos c2];rfl
  ·rw[aH c2,if_neg aZ,if_neg c2]
theorem vj:∀(f:Nat) (p:Array Nat) (n q:Nat),1<=n->n+f<=p.size->Dec rank p n->q+1<=n->(∀i,n-(q+1)<=i->i<n->kk rank p i=kk rank p (n-1))->
  let r:=jM lt (kas_desc f p n q);r.1.Perm p/\n<=r.2.1/\r.2.1<=n+f/\Dec rank r.1 r.2.1/\r.2.2+1<=r.2.1/\(∀i,r.2.1-(r.2.2+1)<=i->i<r.2.1->kk rank r.1 i=kk rank r.1 (r.2.1-1))
 |0,p,n,q,h1,hz,h,hq,he=>⟨Array.Perm.refl _,au _,au _,h,hq,he⟩
 |f+1,p,n,q,h1,hz,h,hq,he=>by
  dsimp only;rw[Le fP];by_cases c:rank (p.getD n 0)<rank (p.getD (n-1) 0)
  ·rw[if_pos c];have hx:kk rank p n<=kk rank p (n-1):=Int.le_of_lt c;by_cases hq0:q>0
   ·rw[if_pos hq0];have es:=wO (rank:=rank) (p:=p) (i:=n-(q+1)) (j:=n) (by omega) he
    have ih:=vj f (kas_rev p (n-(q+1)) n) (n+1) 0 (by omega) (by rw[zo];omega) ((h.snoc h1 hx).congr es) (by omega) (λi a b=>by rw[show i=n+1-1 by omega])
    dsimp only at ih;obtain⟨a,b,c',d⟩:=ih;exact⟨a.trans (jN _ _ _),by omega,by omega,d⟩
   ·rw[if_neg hq0];have ih:=vj f p (n+1) 0 (by omega) (by omega) (h.snoc h1 hx) (by omega) (λi a b=>by rw[show i=n+1-1 by omega])
    dsimp only at ih;obtain⟨a,b,c',d⟩:=ih;exact⟨a,by omega,by omega,d⟩
  ·rw[if_neg c];by_cases c2:rank (p.getD (n-1) 0)<rank (p.getD n 0)
   ·rw[if_pos c2];exact⟨Array.Perm.refl _,au _,by show n<=_;omega,h,hq,he⟩
   ·rw[if_neg c2];have ex:kk rank p n=kk rank p (n-1):=by unfold kk;omega
    have ih:=vj f p (n+1) (q+1) (by omega) (by omega) (h.snoc h1 (Int.le_of_eq ex)) (by omega) (λi a b=>by
     rw[show n+1-1=n by omega]
     by_cases hi:i=n
     ·rw[hi]
     ·rw[ex];exact he i (by omega) (by omega))
    dsimp only at ih;obtain⟨a,b,c',d⟩:=ih;exact⟨a,by omega,by omega,d⟩
theorem Co {p:Array Nat}{n nrem:Nat}(h1:1<=n) (hn:n<=nrem) (hz:nrem<=p.size) (h:Dec rank p n):let r:=jM lt (kas_tail3 n nrem p);r.2.Perm p/\1<=r.1/\r.1<=nrem/\HQ rank r.2 r.1:=by
 dsimp only;unfold kas_tail3;rw[mQ];have hi:HQ rank (kas_rev p 0 n) n:=λi j Fs hj=>by
  rw[HR (by omega),HR (by omega),if_pos (by omega),if_pos (by omega)]
  exact h _ _ (by omega) (by omega)
 have ih:=DM fP (p:=kas_rev p 0 n) (nrem-n) n h1 hi;dsimp only at ih;exact⟨jN _ _ _,by show 1<=jM lt (kas_asc _ _ _);omega,by show jM lt (kas_asc _ _ _)<=nrem;omega,ih.2.2.1⟩
theorem vk {p:Array Nat}{n nrem:Nat}(hn:n+1<=nrem) (hz:nrem<=p.size) (h:Dec rank p (n+1)):let r:=jM lt (kas_descPart n nrem p);r.2.Perm p/\1<=r.1/\r.1<=nrem/\HQ rank r.2 r.1:=by
 dsimp only;unfold kas_descPart;rw[mQ];have ih:=vj fP (nrem-(n+1)) p (n+1) 0 (by omega) (by omega) h (by omega) (λi a b=>by rw[show i=n+1-1 by omega])
 dsimp only at ih;generalize jM lt (kas_desc (nrem-(n+1)) p (n+1) 0)=r at ih ⊢;obtain⟨a,b,c,d,e,g⟩:=ih;have sz:r.1.size=p.size:=a.size_eq;by_cases hq:r.2.2>0
 ·rw[if_pos hq];have es:=wO (rank:=rank) (p:=r.1) (i:=r.2.1-(r.2.2+1)) (j:=r.2.1) (by omega) g
  have t:=Co fP (p:=kas_rev r.1 (r.2.1-(r.2.2+1)) r.2.1) (n:=r.2.1) (nrem:=nrem) (by omega) (by omega) (by rw[zo];omega) (d.congr es)
  exact⟨t.1.trans ((jN _ _ _).trans a),t.2⟩
 ·rw[if_neg hq];have t:=Co fP (p:=r.1) (n:=r.2.1) (nrem:=nrem) (by omega) (by omega) (by omega) d
  exact⟨t.1.trans a,t.2⟩
theorem Lf {p:Array Nat}{nrem:Nat}(h1:1<=nrem) (hz:nrem<=p.size):let r:=jM lt (kas_count nrem p);r.2.Perm p/\1<=r.1/\r.1<=nrem/\HQ rank r.2 r.1:=by
 dsimp only;unfold kas_count;rw[mQ];have ih:=DM fP (p:=p) (nrem-1) 1 (au _) (λi j Fs hj=>by have:i=j:=(by omega);subst this;exact Int.le_refl _)
 dsimp only at ih;generalize jM lt (kas_asc p (nrem-1) 1)=n at ih ⊢;obtain⟨a,b,c,d⟩:=ih;by_cases hnn:n=nrem
 ·rw[if_pos (by simpa using hnn)]
  exact⟨Array.Perm.refl _,a,by show n<=nrem;omega,c⟩
 ·rw[if_neg (by simpa using hnn)]
  have hl:kk rank p n<kk rank p (n-1):=d.resolve_left (by omega)
  by_cases Sm:n>1
  ·rw[if_pos Sm];have e0:jM lt (KasT.ask (p.getD 0 0) (p.getD (n-1) 0) λc=>if c=true then .ret (n,p)else kas_descPart n nrem (kas_rev p 0 n))=jM lt (if lt (p.getD 0 0) (p.getD (n-1) 0)=true then .ret (n,p)else kas_descPart n nrem (kas_rev p 0 n)):=rfl
   rw[e0,fP];by_cases hr:rank (p.getD 0 0)<rank (p.getD (n-1) 0)
   ·rw[aR hr,if_pos rfl];exact⟨Array.Perm.refl _,a,by show n<=nrem;omega,c⟩
   ·rw[aH hr,if_neg aZ];have wM:∀k,0<=k->k<n->kk rank p k=kk rank p (n-1):=λk _ hk=>by
     have a1:=c 0 k (by omega) hk
     have a2:=c k (n-1) (by omega) (by omega)
     have a3:¬ kk rank p 0<kk rank p (n-1):=hr;omega
    have es:=wO (rank:=rank) (p:=p) (i:=0) (j:=n) (by omega) wM
    have t:=vk fP (p:=kas_rev p 0 n) (n:=n) (nrem:=nrem) (by omega) (by rw[zo];omega) (λi j Fs hj=>by
     rw[es,es];by_cases Uk:j<n
     ·rw[wM i (by omega) (by omega),wM j (by omega) Uk];exact Int.le_refl _
     ·have e:j=n:=by omega
      subst e;by_cases hi:i=j
      ·subst hi;exact Int.le_refl _
      ·rw[wM i (by omega) (by omega)];exact Int.le_of_lt hl)
    exact⟨t.1.trans (jN _ _ _),t.2⟩
  ·rw[if_neg Sm];have e:n=1:=by omega
   subst e;exact vk fP (by omega) hz (λi j Fs hj=>by
    by_cases hi:i=j
    ·subst hi;exact Int.le_refl _
    ·have:i=0:=by omega
     have:j=1:=by omega
     subst_vars
     exact Int.le_of_lt hl)
theorem wQ {p:Array Nat}{k:Nat}(hs:HQ rank p k):∀(f l r:Nat),l<=r->r<=k->r-l<=f->(∀i,i<l->kk rank p i<=kk rank p k)->(∀i,r<=i->i<k->kk rank p k<kk rank p i)->
  let m:=jM lt (kas_place p k f l r);m<=k/\(∀i,i<m->kk rank p i<=kk rank p k)/\(∀i,m<=i->i<k->kk rank p k<kk rank p i)
 |0,l,r,h1,h2,h3,WL,YC=>by
  have e:l=r:=by omega
  subst e;exact⟨h2,WL,YC⟩
 |f+1,l,r,h1,h2,h3,WL,YC=>by
  dsimp only;unfold kas_place;by_cases hg:l ≥ r
  ·rw[if_pos hg];have e:l=r:=by omega
   subst e;exact⟨h2,WL,YC⟩
  ·rw[if_neg hg];simp only[jM];rw[fP];have Lg:l<=(l+r)/2:=by omega
   have Cp:(l+r)/2<r:=by omega
   generalize (l+r)/2=m at Lg Cp ⊢;by_cases c:rank (p.getD k 0)<rank (p.getD m 0)
   ·rw[aR c,if_pos rfl];have ih:=wQ hs f l m Lg (by omega) (by omega) WL (λi a b=>Int.lt_of_lt_of_le c (hs m i a b))
    exact ih
   ·rw[aH c,if_neg aZ];have ih:=wQ hs f (m+1) r (by omega) h2 (by omega) (λi a=>Int.le_trans (hs i m (by omega) (by omega)) (by show rank _<=rank _;omega)) YC
    exact ih
theorem Cq {p:Array Nat}{src d:Nat}(hs:src<p.size) (hd:d<=src) (k:Nat):kk rank (bubble p src d) k=if k=src-d then kk rank p src else if src-d<k/\k<=src then kk rank p (k-1)else kk rank p k:=by
 have e:=getElem?_bubble hs d hd k;by_cases h1:k=src-d
 ·rw[if_pos h1]at e ⊢;exact Fq e
 ·rw[if_neg h1]at e ⊢;by_cases h2:src-d<k/\k<=src
  ·rw[if_pos h2]at e ⊢;exact Fq e
  ·rw[if_neg h2]at e ⊢;exact Fq e
theorem JN:∀(f:Nat) (p:Array Nat) (k:Nat),k+f<=p.size->HQ rank p k->let r:=jM lt (kas_bin f p k);r.Perm p/\HQ rank r (k+f)
 |0,p,k,hz,h=>⟨Array.Perm.refl _,h⟩
 |f+1,p,k,hz,h=>by
  dsimp only;unfold kas_bin;rw[mQ];have pl:=wQ fP h k 0 k (bK _) (au _) (by omega) (λi a=>absurd a (Nat.not_lt_zero _)) (λi a b=>by omega)
  dsimp only at pl;generalize jM lt (kas_place p k k 0 k)=l at pl ⊢;obtain⟨h1,h2,h3⟩:=pl;have ks:k<p.size:=by omega
  have inc:HQ rank (bubble p k (k-l)) (k+1):=λi j Fs hj=>by
   rw[Cq fP ks (by omega),Cq fP ks (by omega),show k-(k-l)=l by omega]
   by_cases hi:i=l
   ·rw[if_pos hi];by_cases WW:j=l
    ·rw[if_pos WW];exact Int.le_refl _
    ·rw[if_neg WW,if_pos (by omega)]
     exact Int.le_of_lt (h3 (j-1) (by omega) (by omega))
   ·rw[if_neg hi];by_cases hi2:l<i/\i<=k
    ·rw[if_pos hi2,if_neg (by omega),if_pos (by omega)]
     exact h (i-1) (j-1) (by omega) (by omega)
    ·rw[if_neg hi2];by_cases WW:j=l
     ·rw[if_pos WW];exact h2 i (by omega)
     ·rw[if_neg WW];by_cases ZD:l<j/\j<=k
      ·rw[if_pos ZD];exact h i (j-1) (by omega) (by omega)
      ·rw[if_neg ZD];exact h i j Fs (by omega)
  have ih:=JN f (bubble p k (k-l)) (k+1) (by rw[bubble_size];omega) inc
  dsimp only at ih;exact⟨ih.1.trans (bubble_perm _ _ _),by rw[show k+(f+1)=k+1+f by omega];exact ih.2⟩
theorem Nj (n:Nat) (h1:1<=n):let r:=jM lt (kas_sort n);r.Perm (toArray (List.range n))/\HQ rank r n:=by
 dsimp only;unfold kas_sort;rw[mQ];have hz:(toArray (List.range n)).size=n:=by simp
 have c:=Lf fP (p:=toArray (List.range n)) h1 (by omega)
 dsimp only at c;generalize jM lt (kas_count n (toArray (List.range n)))=r at c ⊢;obtain⟨a,b,d,e⟩:=c;have sz:r.2.size=n:=a.size_eq.trans hz;by_cases WX:r.1<n
 ·rw[if_pos WX];have m:max r.1 1=r.1:=by omega
  rw[m];have bn:=JN fP (n-r.1) r.2 r.1 (by omega) e
  dsimp only at bn;exact⟨bn.1.trans a,by have:=bn.2;rwa [show r.1+(n-r.1)=n by omega]at this⟩
 ·rw[if_neg WX];have:r.1=n:=by omega
  exact⟨a,by show HQ rank r.2 n;rw[<-this];exact e⟩
end
end So
namespace DL
open L2
inductive D where
 |eU|bl (b:Bool)|int (i:Int)|str (x:Str)|tup (ds:List D)|lst (ds:List D)
mutual
inductive Is (C:Hp):V->D->Prop where
 |eU:Is C .eU .eU
 |bl (b:Bool):Is C (.bl b) (.bl b)
 |int (i:Int):Is C (.int i) (.int i)
 |str (x:Str):Is C (.str x) (.str x)
 |tup {a:cG}{xs:List V}{ds:List D}:C a=some (.tup xs)->IsL C xs ds->Is C (.ref a) (.tup ds)
 |lst {a:cG}{xs:List V}{ds:List D}:Rd C a (.lst xs)->IsL C xs ds->Is C (.ref a) (.lst ds)
inductive IsL (C:Hp):List V->List D->Prop where
 |nil:IsL C [] []
 |cons {v:V}{d:D}{vs:List V}{ds:List D}:Is C v d->IsL C vs ds->IsL C (v::vs) (d::ds)
end
def _root_.L2.Rd.same (e:eE C C') (h:Rd C a u):Rd C' a u:=by
 rcases h with h|⟨o,h⟩
 ·exact .inl (e _ _ h)
 ·exact .inr ⟨o,e _ _ h⟩
mutual
theorem Is.mono {C C':Hp}(e:eE C C'):∀{v:V}{d:D},Is C v d->Is C' v d
 |_,_,.eU=>.eU
 |_,_,.bl b=>.bl b
 |_,_,.int i=>.int i
 |_,_,.str x=>.str x
 |_,_,.tup h l=>.tup (e _ _ h) (IsL.mono e l)
 |_,_,.lst h l=>.lst (h.same e) (IsL.mono e l)
theorem IsL.mono {C C':Hp}(e:eE C C'):∀{vs:List V}{ds:List D},IsL C vs ds->IsL C' vs ds
 |_,_,.nil=>.nil
 |_,_,.cons h t=>.cons (Is.mono e h) (IsL.mono e t)
end
section
variable {C:Hp}
theorem IsL.length:∀{vs:List V}{ds:List D},IsL C vs ds->vs.length=ds.length
 |_,_,.nil=>rfl
 |_,_,.cons _ t=>congrArg (·+1) (IsL.length t)
theorem IsL.get:∀{vs:List V}{ds:List D}{i:Nat}{d:D},IsL C vs ds->ds[i]? =some d->∃v,vs[i]? =some v/\Is C v d
 |_,_,_,_,.nil,e=>by simp at e
 |_,_,0,_,.cons h _,e=>by simp at e;subst e;exact⟨_,rfl,h⟩
 |_,_,i+1,_,.cons _ t,e=>by
  obtain⟨v,h1,h2⟩:=IsL.get (i:=i) t (by simpa using e)
  exact⟨v,by simpa using h1,h2⟩
theorem IsL.get':∀{vs:List V}{ds:List D}{i:Nat}{v:V},IsL C vs ds->vs[i]? =some v->∃d,ds[i]? =some d/\Is C v d
 |_,_,_,_,.nil,e=>by simp at e
 |_,_,0,_,.cons h _,e=>by simp at e;subst e;exact⟨_,rfl,h⟩
 |_,_,i+1,_,.cons _ t,e=>by
  obtain⟨v,h1,h2⟩:=IsL.get' (i:=i) t (by simpa using e)
  exact⟨v,by simpa using h1,h2⟩
theorem IsL.append:∀{vs ws:List V}{ds es:List D},IsL C vs ds->IsL C ws es->IsL C (vs++ws) (ds++es)
 |_,_,_,_,.nil,s=>s
 |_,_,_,_,.cons h t,s=>.cons h (IsL.append t s)
theorem IsL.take:∀{vs:List V}{ds:List D}(n:Nat),IsL C vs ds->IsL C (vs.take n) (ds.take n)
 |_,_,0,_=>.nil
 |_,_,_+1,.nil=>.nil
 |_,_,n+1,.cons h t=>.cons h (IsL.take n t)
theorem IsL.drop:∀{vs:List V}{ds:List D}(n:Nat),IsL C vs ds->IsL C (vs.drop n) (ds.drop n)
 |_,_,0,h=>h
 |_,_,_+1,.nil=>.nil
 |_,_,n+1,.cons _ t=>IsL.drop n t
theorem IsL.eraseIdx:∀{vs:List V}{ds:List D}(n:Nat),IsL C vs ds->IsL C (vs.eraseIdx n) (ds.eraseIdx n)
 |_,_,_,.nil=>.nil
 |_,_,0,.cons _ t=>t
 |_,_,n+1,.cons h t=>.cons h (IsL.eraseIdx n t)
def IsL.ints (ns:cp):IsL C (ns.map V.int) (ns.map D.int):=by
 induction ns with
 |nil=>exact .nil
 |cons n r ih=>exact .cons (.int n) ih
theorem IsL.lE:∀{ns:cp}{vs:List V},IsL C vs (ns.map D.int)->vs=ns.map V.int
 |[],_,.nil=>rfl
 |n::r,_,.cons (.int _) t=>by rw[IsL.lE t];rfl
theorem IsL.HS:∀{bs:List Bool}{vs:List V},IsL C vs (bs.map D.bl)->vs=bs.map V.bl
 |[],_,.nil=>rfl
 |n::r,_,.cons (.bl _) t=>by rw[IsL.HS t];rfl
def IsL.one (h:Is C v d):IsL C [v] [d]:=.cons h .nil
end
structure pK (C H C' H':Hp):Prop where
 c:eE C C'
 h:eE H H'
 s:eE C' H'
 n:∀a u,C' a=some u->C a=some u\/H a=none
def fu (h:H p=none):eE H (upd H p o):=λb u q=>by rw[dg (dB q h)];exact q
def Ho:HO->Bool
 |.ext _=>true
 |.ins _ _ _=>true
 |.own _=>true
 |.dK _=>true
 |.yT _ _=>true
 |_=>false
class Mem where
 cell:cq
 face:cq
 ok:Hp->Hp->Prop
 has:Hp->Hp->D->Prop
 rel:Hp->Hp->Hp->Hp->Prop
 of0:∀{C H C' H':Hp},pK C H C' H'->rel C H C' H'
 trans:∀{C H C' H' C2 H2:Hp},rel C H C' H'->rel C' H' C2 H2->rel C H C2 H2
 chg:∀{C H C' H':Hp}{a:cG}{o:HO},rel C H C' H'->H a=none->rel C H C' (upd H' a o)
 give:∀{C H C' H':Hp}{a:cG}{o:HO},rel C H C' H'->C' a=none->H' a=some o->Ho o=false->rel C H (upd C' a o) H'
 WY:∀{C H C' H':Hp},rel C H C' H'->ok C H->ok C' H'
 Nk:∀{C H C' H':Hp}{k:D},rel C H C' H'->ok C H->has C H k->has C' H' k
 VG:∀{C H:Hp}{a:cG}{o:HO},ok C H->(∀u,H a=some u->Ho u=false)->ok C (upd H a o)
 Lh:∀{C H:Hp}{a:cG}{o:HO}{k:D},ok C H->(∀u,H a=some u->Ho u=false)->has C H k->has C (upd H a o) k
 WZ:∀{C H:Hp}{a:cG}{o:HO},ok C H->C a=none->H a=some o->Ho o=false->ok (upd C a o) H
 Nl:∀{C H:Hp}{a:cG}{o:HO}{k:D},ok C H->C a=none->H a=some o->Ho o=false->has C H k->has (upd C a o) H k
@[reducible] noncomputable def Mem.keep:Mem where
 cell:=none
 face:=none
 ok:=λ_ _=>True
 has:=λ_ _ _=>False
 rel:=λ_ H _ H'=>eE H H'
 of0:=λe=>e.h
 trans:=λa b=>a.trans b
 chg:=λ{_ _ _ _ a o} r h b u q=>by rw[dg (dB q h)];exact r b u q
 give:=λr _ _ _=>r
 WY:=λ_ _=>trivial
 Nk:=λ_ _ h=>h
 VG:=λ_ _=>trivial
 Lh:=λ_ _ h=>h
 WZ:=λ_ _ _ _=>trivial
 Nl:=λ_ _ _ _ h=>h
structure Ev [m:Mem] (C H C' H':Hp):Prop where
 c:eE C C'
 h:∀b o,H b=some o->(m.cell≠some b\/Ho o=false)->H' b=some o
 x:∀b o,H b=some o->m.cell=some b->Ho o=true->∃o',H' b=some o'/\Ho o'=true
 s:eE C' H'
 n:∀a u,C' a=some u->C a=some u\/H a=none
 r:m.rel C H C' H'
section
variable {C H C' H' C2 H2:Hp}
theorem pK.refl (s:eE C H):pK C H C H:=⟨eE.refl _,eE.refl _,s,λ_ _ e=>.inl e⟩
theorem pK.trans (a:pK C H C' H') (b:pK C' H' C2 H2):pK C H C2 H2:=
 ⟨a.c.trans b.c,a.h.trans b.h,b.s,λp u e=>(b.n p u e).elim (a.n p u) λz=>.inr (a.h.free z)⟩
theorem pK.new (s:eE C H) (h:H p=none):pK C H (upd C p o) (upd H p o):=
 ⟨fu (s.free h),fu h,λb u q=>by
  by_cases e:b=p
  ·subst e;rw[dh]at q ⊢;exact q
  ·rw[dg e]at q ⊢;exact s b u q,λb u q=>by
  by_cases e:b=p
  ·subst e;exact .inr h
  ·rw[dg e]at q;exact .inl q⟩
def pK.gm (s:eE C H) (h:H p=none):pK C H C (upd H p o):=
 ⟨eE.refl _,fu h,s.trans (fu h),λ_ _ e=>.inl e⟩
def Ev.xQ (e:@Ev Mem.keep C H C' H'):pK C H C' H':=⟨@Ev.c Mem.keep _ _ _ _ e,@Ev.r Mem.keep _ _ _ _ e,@Ev.s Mem.keep _ _ _ _ e,@Ev.n Mem.keep _ _ _ _ e⟩
variable [Mem]
def pK.up (e:pK C H C' H'):Ev C H C' H':=⟨e.c,λb o q _=>e.h b o q,λb o q _ x=>⟨o,e.h b o q,x⟩,e.s,e.n,Mem.of0 e⟩
def Ev.free (e:Ev C H C' H') (h:H' a=none):H a=none:=by
 cases q:H a with
 |none=>rfl
 |some o=>
  cases hx:Ho o with
  |false=>rw[e.h a o q (.inr hx)]at h;cases h
  |true=>
   by_cases hc:Mem.cell=some a
   ·obtain⟨o',h1,_⟩:=e.x a o q hc hx;rw[h1]at h;cases h
   ·rw[e.h a o q (.inl hc)]at h;cases h
def Ev.hh (e:Ev C H C' H') (h:H a=some o) (hx:Ho o=false:=by rfl):H' a=some o:=e.h a o h (.inr hx)
theorem Ev.refl (s:eE C H):Ev C H C H:=(pK.refl s).up
theorem Ev.trans (a:Ev C H C' H') (b:Ev C' H' C2 H2):Ev C H C2 H2:=
 ⟨a.c.trans b.c,λp o q x=>b.h p o (a.h p o q x) x,λp o q c x=>let ⟨o',h1,h2⟩:=a.x p o q c x;b.x p o' h1 c h2,b.s,λp u e=>(b.n p u e).elim (a.n p u) λz=>.inr (a.free z),Mem.trans a.r b.r⟩
theorem Ev.new (s:eE C H) (h:H p=none):Ev C H (upd C p o) (upd H p o):=(pK.new s h).up
theorem Ev.gm (s:eE C H) (h:H p=none):Ev C H C (upd H p o):=(pK.gm s h).up
def Ev.nn (a:Ev C H C' H') (h:C p=none) (h2:H p=some u):C' p=none:=by
 cases q:C' p with
 |none=>rfl
 |some o=>rcases a.n p o q with z|z<;>simp_all
def Ev.JO (e:Ev C H C' H') (hn:H a=none) (hc:C' a=none) (o:HO):Ev C H C' (upd H' a o):=
 ⟨e.c,λb u q x=>by rw[dg (dB q hn)];exact e.h b u q x,λb u q c x=>by rw[dg (dB q hn)];exact e.x b u q c x,λb u q=>by rw[dg (dB q hc)];exact e.s b u q,e.n,Mem.chg e.r hn⟩
def Ev.Sn (e:Ev C H C' H') (hn:H a=none) (hc:C' a=none) (ho:H' a=some o) (hx:Ho o=false:=by rfl):Ev C H (upd C' a o) H':=
 ⟨e.c.trans (fu hc),e.h,e.x,λb u z=>by
   by_cases hb:b=a
   ·subst hb;rw[dh]at z;cases z;exact ho
   ·rw[dg hb]at z;exact e.s b u z,λb u z=>by
   by_cases hb:b=a
   ·subst hb;exact .inr hn
   ·rw[dg hb]at z;exact e.n b u z,Mem.give e.r hc ho hx⟩
end
inductive Sl where
 |no|dat (d:D)|own (ds:List D)|memo (ks:List D)
noncomputable abbrev gh:=List Sl
structure Sx [m:Mem] (δ:gh) (σ:L2.St) (C H:Hp):Prop where
 sub:eE C H
 dat:∀(i:Nat) (d:D),δ[i]? =some (.dat d)->∃v,σ[i]? =some (some v)/\Is C v d
 own:∀(i:Nat) (ds:List D),δ[i]? =some (.own ds)->∃(a:cG) (xs:List V),σ[i]? =some (some (.ref a))/\C a=none/\H a=some (.lst xs)/\IsL C xs ds
 DN:∀(i j:Nat) (ds es:List D) (a:cG),δ[i]? =some (.own ds)->δ[j]? =some (.own es)->σ[i]? =some (some (.ref a))->σ[j]? =some (some (.ref a))->i=j
 len:δ.length=σ.length
 mem:∀(i:Nat) (ks:List D),δ[i]? =some (.memo ks)->∃a:cG,m.face=some a/\σ[i]? =some (some (.ref a))/\m.ok C H/\∀k∈ks,m.has C H k
section
variable [Mem] {δ:gh}{σ:L2.St}{C H C' H':Hp}
def Sx.ev (x:Sx δ σ C H) (e:Ev C H C' H'):Sx δ σ C' H' where
 sub:=e.s
 dat:=λi d q=>let ⟨v,h1,h2⟩:=x.dat i d q;⟨v,h1,h2.mono e.c⟩
 own:=λi ds q=>let ⟨a,xs,h1,h2,h3,h4⟩:=x.own i ds q;⟨a,xs,h1,e.nn h2 h3,e.hh h3,h4.mono e.c⟩
 DN:=x.DN
 len:=x.len
 mem:=λi ks q=>let ⟨a,h1,h2,h3,h4⟩:=x.mem i ks q;⟨a,h1,h2,Mem.WY e.r h3,λk hk=>Mem.Nk e.r h3 (h4 k hk)⟩
omit [Mem] in
def getElem?_set_cases {α:Type}{l:List α}{a b:α}(h:(l.set i a)[j]? =some b):(j=i/\b=a)\/(j≠i/\l[j]? =some b):=by
 by_cases e:j=i
 ·subst e;by_cases hl:j<l.length
  ·rw[bc hl]at h;exact .inl ⟨rfl,(aS h).symm⟩
  ·have:(l.set j a)[j]? =none:=by simp;omega
   rw[this]at h;cases h
 ·rw[aG (Ne.symm e)]at h;exact .inr ⟨e,h⟩
omit [Mem] in
def HU {α:Type}{l:List α}{a b:α}(h:(l.set i a)[i]? =some b):i<l.length:=by
 by_cases hl:i<l.length
 ·exact hl
 ·have:(l.set i a)[i]? =none:=by simp;omega
  rw[this]at h;cases h
def Sx.wR (x:Sx δ σ C H) {i:Nat}{v:V}{d:D}(h:Is C v d):Sx (δ.set i (.dat d)) (σ.set i (some v)) C H where
 sub:=x.sub
 dat:=λk d' q=>by
  rcases getElem?_set_cases q with⟨rfl,e⟩|⟨hk,e⟩
  ·cases e;have:=HU q;exact⟨v,by rw[bc (by rw[<-x.len];exact this)],h⟩
  ·obtain⟨v',h1,h2⟩:=x.dat k d' e;exact⟨v',by rw[aG (Ne.symm hk)];exact h1,h2⟩
 own:=λk ds q=>by
  rcases getElem?_set_cases q with⟨rfl,e⟩|⟨hk,e⟩
  ·cases e
  ·obtain⟨a,xs,h1,h2⟩:=x.own k ds e;exact⟨a,xs,by rw[aG (Ne.symm hk)];exact h1,h2⟩
 DN:=λk l ds es a q1 q2 q3 q4=>by
  rcases getElem?_set_cases q1 with⟨_,e1⟩|⟨hk,e1⟩
  ·cases e1
  rcases getElem?_set_cases q2 with⟨_,e2⟩|⟨hl,e2⟩
  ·cases e2
  rw[aG (Ne.symm hk)]at q3;rw[aG (Ne.symm hl)]at q4;exact x.DN k l ds es a e1 e2 q3 q4
 len:=by simp[x.len]
 mem:=λk ks q=>by
  rcases getElem?_set_cases q with⟨rfl,e⟩|⟨hk,e⟩
  ·cases e
  ·obtain⟨a,h1,h2,h3⟩:=x.mem k ks e;exact⟨a,h1,by rw[aG (Ne.symm hk)];exact h2,h3⟩
def Sx.DO (x:Sx δ σ C H) {i:Nat}{a:cG}{xs:List V}{ds:List D}(hc:C a=none) (hH:H a=some (.lst xs)) (hl:IsL C xs ds)
  (hn:∀(k:Nat) (es:List D),δ[k]? =some (.own es)->σ[k]? ≠some (some (.ref a))):Sx (δ.set i (.own ds)) (σ.set i (some (.ref a))) C H where
 sub:=x.sub
 dat:=λk d' q=>by
  rcases getElem?_set_cases q with⟨rfl,e⟩|⟨hk,e⟩
  ·cases e
  ·obtain⟨v',h1,h2⟩:=x.dat k d' e;exact⟨v',by rw[aG (Ne.symm hk)];exact h1,h2⟩
 own:=λk es q=>by
  rcases getElem?_set_cases q with⟨rfl,e⟩|⟨hk,e⟩
  ·cases e;have:=HU q;exact⟨a,xs,by rw[bc (by rw[<-x.len];exact this)],hc,hH,hl⟩
  ·obtain⟨b,ys,h1,h2⟩:=x.own k es e;exact⟨b,ys,by rw[aG (Ne.symm hk)];exact h1,h2⟩
 DN:=λk l JP es b q1 q2 q3 q4=>by
  rcases getElem?_set_cases q1 with⟨hk,e1⟩|⟨hk,e1⟩
  ·rcases getElem?_set_cases q2 with⟨pM,e2⟩|⟨pM,e2⟩
   ·rw[hk,pM]
   ·subst hk;have e3:=getElem?_set_cases q3;rcases e3 with⟨_,e3⟩|⟨z,_⟩
    ·cases e3;rw[aG (Ne.symm pM)]at q4;exact absurd q4 (hn l es e2)
    ·exact absurd rfl z
  ·rcases getElem?_set_cases q2 with⟨pM,e2⟩|⟨pM,e2⟩
   ·subst pM;rcases getElem?_set_cases q4 with⟨_,e4⟩|⟨z,_⟩
    ·cases e4;rw[aG (Ne.symm hk)]at q3;exact absurd q3 (hn k JP e1)
    ·exact absurd rfl z
   ·rw[aG (Ne.symm hk)]at q3;rw[aG (Ne.symm pM)]at q4;exact x.DN k l JP es b e1 e2 q3 q4
 len:=by simp[x.len]
 mem:=λk ks q=>by
  rcases getElem?_set_cases q with⟨rfl,e⟩|⟨hk,e⟩
  ·cases e
  ·obtain⟨a,h1,h2,h3⟩:=x.mem k ks e;exact⟨a,h1,by rw[aG (Ne.symm hk)];exact h2,h3⟩
def Sx.mut (x:Sx δ σ C H) {i:Nat}{a:cG}{ys:List V}{ds es:List D}(hi:δ[i]? =some (.own ds)) (ha:σ[i]? =some (some (.ref a))) (hl:IsL C ys es):
  Sx (δ.set i (.own es)) σ C (upd H a (.lst ys))where
 sub:=λb u q=>by
  obtain⟨a',xs,h1,h2,_⟩:=x.own i ds hi;rw[ha]at h1;cases h1;have:b≠a:=λz=>by rw[z,h2]at q;cases q
  rw[dg this];exact x.sub b u q
 dat:=λk d' q=>by
  rcases getElem?_set_cases q with⟨rfl,e⟩|⟨hk,e⟩
  ·cases e
  ·exact x.dat k d' e
 own:=λk fs q=>by
  obtain⟨a',xs,h1,h2,_⟩:=x.own i ds hi;rw[ha]at h1;cases h1;rcases getElem?_set_cases q with⟨rfl,e⟩|⟨hk,e⟩
  ·cases e;exact⟨a,ys,ha,h2,dh,hl⟩
  ·obtain⟨b,zs,HV,Li,Nm,QT⟩:=x.own k fs e;have:b≠a:=λz=>by subst z;exact hk (x.DN k i fs ds b e hi HV ha)
   exact⟨b,zs,HV,Li,by rw[dg this];exact Nm,QT⟩
 DN:=λk l JP Mx b q1 q2 q3 q4=>by
  have Nn:∀{k:Nat}{Mx:List D},(δ.set i (Sl.own es))[k]? =some (.own Mx)->∃fs,δ[k]? =some (.own fs):=λ{k Mx} q=>by
   rcases getElem?_set_cases q with⟨rfl,e⟩|⟨hk,e⟩
   ·exact⟨ds,hi⟩
   ·exact⟨_,e⟩
  obtain⟨f1,e1⟩:=Nn q1;obtain⟨f2,e2⟩:=Nn q2;exact x.DN k l f1 f2 b e1 e2 q3 q4
 len:=by simp[x.len]
 mem:=λk ks q=>by
  obtain⟨a',xs,h1,h2,h3,_⟩:=x.own i ds hi;rw[ha]at h1;cases h1;have hx:∀u,H a=some u->Ho u=false:=λu q=>by rw[h3]at q;cases q;rfl
  rcases getElem?_set_cases q with⟨rfl,e⟩|⟨hk,e⟩
  ·cases e
  ·obtain⟨b,h1,h2,h3,h4⟩:=x.mem k ks e;exact⟨b,h1,h2,Mem.VG h3 hx,λk hk=>Mem.Lh h3 hx (h4 k hk)⟩
def Sx.give (x:Sx δ σ C H) {i:Nat}{a:cG}{ds:List D}(hi:δ[i]? =some (.own ds)) (ha:σ[i]? =some (some (.ref a))) (hH:H a=some (.lst xs)) (hl:IsL C xs ds):Sx (δ.set i (.dat (.lst ds))) σ (upd C a (.lst xs)) H:=by
 obtain⟨a',xs',h1,h2,h3,_⟩:=x.own i ds hi;rw[ha]at h1;cases h1;have sc:eE C (upd C a (.lst xs)):=fu h2;exact {
  sub:=λb u q=>by
   by_cases e:b=a
   ·subst e;rw[dh]at q;cases q;exact hH
   ·rw[dg e]at q;exact x.sub b u q
  dat:=λk d' q=>by
   rcases getElem?_set_cases q with⟨rfl,e⟩|⟨hk,e⟩
   ·cases e;exact⟨_,ha,.lst (.inl dh) (hl.mono sc)⟩
   ·obtain⟨v,q1,q2⟩:=x.dat k d' e;exact⟨v,q1,q2.mono sc⟩
  own:=λk fs q=>by
   rcases getElem?_set_cases q with⟨rfl,e⟩|⟨hk,e⟩
   ·cases e
   ·obtain⟨b,zs,HV,Li,Nm,QT⟩:=x.own k fs e;have:b≠a:=λz=>by subst z;exact hk (x.DN k i fs ds b e hi HV ha)
    exact⟨b,zs,HV,by rw[dg this];exact Li,Nm,QT.mono sc⟩
  DN:=λk l JP Mx b q1 q2 q3 q4=>by
   rcases getElem?_set_cases q1 with⟨_,e1⟩|⟨_,e1⟩
   ·cases e1
   rcases getElem?_set_cases q2 with⟨_,e2⟩|⟨_,e2⟩
   ·cases e2
   exact x.DN k l JP Mx b e1 e2 q3 q4
  len:=by simp[x.len]
  mem:=λk ks q=>by
   rcases getElem?_set_cases q with⟨rfl,e⟩|⟨hk,e⟩
   ·cases e
   ·obtain⟨b,h1,Li,h3,h4⟩:=x.mem k ks e;exact⟨b,h1,Li,Mem.WZ h3 h2 hH rfl,λk hk=>Mem.Nl h3 h2 hH rfl (h4 k hk)⟩}
end
variable [Mem]
def pL (C H:Hp) (v:V) (d:D):Prop:=Is C v d\/∃a xs ds,v=.ref a/\d=.lst ds/\C a=none/\H a=some (.lst xs)/\IsL C xs ds
noncomputable def tD (f:gh->Option D):TE:=λσ H Q=>∃C δ d,Sx δ σ C H/\f δ=some d/\∀v C' H',Ev C H C' H'->Is C' v d->Q v H'
noncomputable def tO (f:gh->Option D):TE:=λσ H Q=>∃C δ d,Sx δ σ C H/\f δ=some d/\∀v C' H',Ev C H C' H'->pL C' H' v d->Q v H'
noncomputable def tF (f:gh->Option (List D)):TE:=λσ H Q=>∃C δ ds,Sx δ σ C H/\f δ=some ds/\∀a xs C' H',Ev C H C' H'->H a=none->C' a=none->H' a=some (.lst xs)->IsL C' xs ds->Q (.ref a) H'
noncomputable def tQ (f:gh->Option Bool):TT:=λσ H Q=>∃C δ b,Sx δ σ C H/\f δ=some b/\∀C' H',Ev C H C' H'->Q b H'
noncomputable def YD (f:gh->Option (List D)):TA:=λσ H Q=>∃C δ ds,Sx δ σ C H/\f δ=some ds/\∀vs C' H',Ev C H C' H'->IsL C' vs ds->Q vs H'
abbrev PD (X:Cx) (e:cH) (f:gh->Option D):Prop:=PE X e (tD f)
abbrev PO (X:Cx) (e:cH) (f:gh->Option D):Prop:=PE X e (tO f)
abbrev PF (X:Cx) (e:cH) (f:gh->Option (List D)):Prop:=PE X e (tF f)
abbrev PQ (X:Cx) (e:cH) (f:gh->Option Bool):Prop:=PT X e (tQ f)
abbrev VH (X:Cx) (es:List cH) (f:gh->Option (List D)):Prop:=PA X es (YD f)
omit [Mem] in
def _root_.L2.PE.imp (h:PE X e t) (m:∀σ H Q,t' σ H Q->t σ H Q):PE X e t':=λcM s σ H Q I q=>h cM s σ H Q I (m σ H Q q)
omit [Mem] in
def _root_.L2.PT.imp (h:PT X e t) (m:∀σ H Q,t' σ H Q->t σ H Q):PT X e t':=λcM s σ H Q I q=>h cM s σ H Q I (m σ H Q q)
omit [Mem] in
def _root_.L2.PW.imp (h:PW X e t) (m:∀σ H Q,t' σ H Q->t σ H Q):PW X e t':=λwhole cM s σ H Q I q=>h whole cM s σ H Q I (m σ H Q q)
omit [Mem] in
def _root_.L2.PA.imp (h:PA X es t) (m:∀σ H Q,t' σ H Q->t σ H Q):PA X es t':=λpos cM s σ H Q I q=>h pos cM s σ H Q I (m σ H Q q)
omit [Mem] in
def _root_.L2.PS.imp {st:cI}(h:PS X st t) (m:∀Dn σ H,t' Dn σ H->t Dn σ H):PS X st t':=λcM s σ H Dn I q=>h cM s σ H Dn I (m Dn σ H q)
omit [Mem] in
def _root_.L2.Dw.imp {st:List cI}(h:Dw X st t) (m:∀Dn σ H,t' Dn σ H->t Dn σ H):Dw X st t':=λcM s σ H Dn I q=>h cM s σ H Dn I (m Dn σ H q)
section
variable {X:Cx}{e a b c:cH}{pos:Pos}
def PD.o (h:PD X e f):PO X e f:=h.imp λσ H Q ⟨C,δ,d,x,q,k⟩=>⟨C,δ,d,x,q,λv C' H' ev i=>k v C' H' ev (.inl i)⟩
noncomputable def dL (f:gh->Option (List D)):gh->Option D:=λδ=>(f δ).map D.lst
theorem PF.d (h:PF X e f):PD X e (dL f):=h.imp λσ H Q ⟨C,δ,d,x,q,k⟩=>by
 unfold dL at q;cases hf:f δ with
 |none=>rw[hf]at q;cases q
 |some ds=>
  rw[hf]at q;have q':d=.lst ds:=(aS q).symm;subst q';exact⟨C,δ,ds,x,hf,λa xs C' H' ev h1 h2 h3 h4=>k (.ref a) (upd C' a (.lst xs)) H' (ev.Sn h1 h2 h3) (.lst (.inl dh) (h4.mono (fu h2)))⟩
noncomputable def cW (i:Nat):gh->Option D:=λδ=>match δ[i]? with|some (.dat d)=>some d|_=>none
noncomputable def df (i:Nat):gh->Option D:=λδ=>match δ[i]? with|some (.dat d)=>some d|some (.own ds)=>some (.lst ds)|_=>none
noncomputable def dC (d:D):gh->Option D:=λ_=>some d
def Lj (h:PE X e (lQ i)):PD X e (cW i):=h.imp λσ H Q ⟨C,δ,d,x,q,k⟩=>by
 unfold cW at q;split at q
 ·rename_i d' hd;cases q;obtain⟨v,h1,h2⟩:=x.dat i _ hd;exact⟨v,h1,k v C H (.refl x.sub) h2⟩
 ·cases q
def Lk (h:PE X e (lQ i)):PO X e (df i):=h.imp λσ H Q ⟨C,δ,d,x,q,k⟩=>by
 unfold df at q;split at q
 ·rename_i d' hd;cases q;obtain⟨v,h1,h2⟩:=x.dat i _ hd;exact⟨v,h1,k v C H (.refl x.sub) (.inl h2)⟩
 ·rename_i ds hd;cases q;obtain⟨a,xs,h1,h2,h3,h4⟩:=x.own i _ hd;exact⟨_,h1,k _ C H (.refl x.sub) (.inr ⟨a,xs,ds,rfl,rfl,h2,h3,h4⟩)⟩
 ·cases q
def yE (h:PE X e (tC v)) (hd:∀C,Is C v d):PD X e (dC d):=h.imp λσ H Q ⟨C,δ,d',x,q,k⟩=>by
 cases q;exact k v C H (.refl x.sub) (hd C)
def Qh (r:R2) (op:D->D->Option D):Prop:=∀C H x y dx dy d Q,eE C H->pL C H x dx->pL C H y dy->op dx dy=some d->(∀v C' H',pK C H C' H'->Is C' v d->Q v H')->r x y H Q
def ZE (r:R2) (op:D->D->Option (List D)):Prop:=∀C H x y dx dy ds Q,eE C H->pL C H x dx->pL C H y dy->op dx dy=some ds->(∀a xs C' H',pK C H C' H'->H a=none->C' a=none->H' a=some (.lst xs)->IsL C' xs ds->Q (.ref a) H')->r x y H Q
noncomputable def dw {α:Type}(op:D->D->Option α) (f g:gh->Option D):gh->Option α:=λδ=>(f δ).bind λx=>(g δ).bind λy=>op x y
def pL.ev (h:pL C H v d) (e:Ev C H C' H'):pL C' H' v d:=by
 rcases h with h|⟨a,xs,ds,h1,h2,h3,h4,h5⟩
 ·exact .inl (h.mono e.c)
 ·exact .inr ⟨a,xs,ds,h1,h2,e.nn h3 h4,e.hh h4,h5.mono e.c⟩
def JQ (hd:Qh r op):∀σ H Q,tD (dw op f g) σ H Q->VA r (tO f) (tO g) σ H Q:=λσ H Q ⟨C,δ,d,x,q,k⟩=>by
 unfold dw at q;cases hf:f δ with
 |none=>rw[hf]at q;cases q
 |some dx=>
  cases hg:g δ with
  |none=>rw[hf,hg]at q;cases q
  |some dy=>
   rw[hf,hg]at q;refine⟨C,δ,dx,x,hf,λv C1 H1 e1 i1=>⟨C1,δ,dy,x.ev e1,hg,λu C2 H2 e2 i2=>hd C2 H2 v u dx dy d Q e2.s (i1.ev e2) i2 q λw C3 H3 e3 i3=>k w C3 H3 ((e1.trans e2).trans e3.up) i3⟩⟩
def W0 (hd:ZE r op):∀σ H Q,tF (dw op f g) σ H Q->VA r (tO f) (tO g) σ H Q:=λσ H Q ⟨C,δ,d,x,q,k⟩=>by
 unfold dw at q;cases hf:f δ with
 |none=>rw[hf]at q;cases q
 |some dx=>
  cases hg:g δ with
  |none=>rw[hf,hg]at q;cases q
  |some dy=>
   rw[hf,hg]at q;refine⟨C,δ,dx,x,hf,λv C1 H1 e1 i1=>⟨C1,δ,dy,x.ev e1,hg,λu C2 H2 e2 i2=>hd C2 H2 v u dx dy d Q e2.s (i1.ev e2) i2 q λa xs C3 H3 e3 h3=>k a xs C3 H3 ((e1.trans e2).trans e3.up) ((e1.trans e2).free h3)⟩⟩
def Ft (ho:tX X (binaryOp op) r) (hd:Qh r o) (ha:PO X a f) (hb:PO X b g):PD X (.BinOp a op b pos) (dw o f g):=(MI ho ha hb).imp (JQ hd)
def W3 (ho:tX X (binaryOp op) r) (hd:ZE r o) (ha:PO X a f) (hb:PO X b g):PF X (.BinOp a op b pos) (dw o f g):=(MI ho ha hb).imp (W0 hd)
def W4 (ho:MY X r) (hd:Qh r o) (ha:PO X a f) (hb:PO X b g) (hs:yC b):PD X (.Subscript a b pos) (dw o f g):=(Si ho ha hb hs).imp (JQ hd)
noncomputable def oI (g:Int->Int->D):D->D->Option D
 |.int i,.int j=>some (g i j)
 |_,_=>none
noncomputable def Np (c:Int->Int->Bool) (g:Int->Int->D):D->D->Option D
 |.int i,.int j=>if c i j=true then some (g i j)else none
 |_,_=>none
theorem pL.int (h:pL C H v (.int i)):v=.int i:=by
 rcases h with h|⟨_,_,_,_,z,_⟩
 ·cases h;rfl
 ·cases z
def pL.is (h:pL C H v d) (hd:∀ds,d≠.lst ds):Is C v d:=by
 rcases h with h|⟨_,_,ds,_,z,_⟩
 ·exact h
 ·exact absurd z (hd ds)
def Nq (h:∀C i j,Is C (gV i j) (g i j)):Qh (Qq gV) (oI g):=λC H x y dx dy d Q s ix iy q k=>by
 unfold oI at q;split at q
 ·rename_i i j;cases q;exact⟨i,j,ix.int,iy.int,k _ C H (.refl s) (h C i j)⟩
 ·cases q
def Sq {c:Int->Int->Bool}(hc:∀i j,c i j=true->P i j) (h:∀C i j,Is C (gV i j) (g i j)):Qh (rI P gV) (Np c g):=λC H x y dx dy d Q s ix iy q k=>by
 unfold Np at q;split at q
 ·rename_i i j;split at q
  ·rename_i Vz;cases q;exact⟨i,j,ix.int,iy.int,hc i j Vz,k _ C H (.refl s) (h C i j)⟩
  ·cases q
 ·cases q
def kZ:=oI λi j=>.int (i+j)
def rN:=oI λi j=>.int (i-j)
noncomputable def Nr (i j:Int):Bool:=(decide (-(2^64)<i)&&decide (i<2^64))||(decide (-(2^64)<j)&&decide (j<2^64))
def Bs:=Np Nr λi j=>.int (i*j)
noncomputable def HW (_ j:Int):Bool:=decide (0<j)
def DP:=Np HW λi j=>.int (i%j)
def JR:=oI λi j=>.bl (decide (i<=j))
def QU:=oI λi j=>.bl (decide (j<i))
def W5:=oI λi j=>.bl (decide (j<=i))
def vm (X:Cx) (op:CmpOp) (o:D->D->Option D):Prop:=∃r,tX X (compareOp op) r/\Qh r o
def QV:vm X .LtE JR:=⟨_,Wg,Nq λ_ _ _=>.bl _⟩
def Ul:vm X .Gt QU:=⟨_,Wh,Nq λ_ _ _=>.bl _⟩
def W6:vm X .GtE W5:=⟨_,Wi,Nq λ_ _ _=>.bl _⟩
noncomputable def qB (f:gh->Option D):gh->Option Bool:=λδ=>match f δ with|some (.bl b)=>some b|_=>none
def ZF {b:Bool}(h:qB f δ=some b):f δ=some (.bl b):=by
 unfold qB at h;split at h
 ·rename_i e;cases h;exact e
 ·cases h
def Sr {t:TE}(h:∀σ H Q,tD f σ H Q->t σ H Q):∀σ H Q,tQ (qB f) σ H Q->t σ H λx H1=>∃c,x=.bl c/\Q c H1:=λσ H Q ⟨C,δ,b,x,q,k⟩=>
 h σ H _ ⟨C,δ,.bl b,x,ZF q,λv C' H' ev i=>by cases i;exact⟨b,rfl,k C' H' ev⟩⟩
noncomputable def pQ (f g:gh->Option Bool):gh->Option Bool:=λδ=>match f δ with|some true=>g δ|some false=>some false|none=>none
noncomputable def Cr (f g:gh->Option Bool):gh->Option Bool:=λδ=>match f δ with|some true=>some true|some false=>g δ|none=>none
noncomputable def lR (f:gh->Option Bool):gh->Option Bool:=λδ=>(f δ).map not
abbrev PQW (X:Cx) (e:cH) (f:gh->Option Bool):Prop:=PW X e (tQ f)
def Um {f g:gh->Option Bool}:∀σ H Q,tQ (pQ f g) σ H Q->V2 (tQ f) (tQ g) σ H Q:=λσ H Q ⟨C,δ,b,x,q,k⟩=>by
 unfold pQ at q;split at q
 ·rename_i hf;exact⟨C,δ,true,x,hf,λC' H' ev=>yp ⟨C',δ,b,x.ev ev,q,λC2 H2 e2=>k C2 H2 (ev.trans e2)⟩⟩
 ·rename_i hf;cases q;exact⟨C,δ,false,x,hf,λC' H' ev=>Br (k C' H' ev)⟩
 ·cases q
def W7:∀σ H Q,tQ (Cr f g) σ H Q->tOr (tQ f) (tQ g) σ H Q:=λσ H Q ⟨C,δ,b,x,q,k⟩=>by
 unfold Cr at q;split at q
 ·rename_i hf;cases q;exact⟨C,δ,true,x,hf,λC' H' ev=>yp (k C' H' ev)⟩
 ·rename_i hf;exact⟨C,δ,false,x,hf,λC' H' ev=>Br ⟨C',δ,b,x.ev ev,q,λC2 H2 e2=>k C2 H2 (ev.trans e2)⟩⟩
 ·cases q
noncomputable def DQ (f g:gh->Option D):gh->Option D:=λδ=>match f δ with|some (.bl true)=>g δ|some (.bl false)=>some (.bl false)|_=>none
noncomputable def VI (c:gh->Option Bool) (f g:gh->Option D):gh->Option D:=λδ=>match c δ with|some true=>f δ|some false=>g δ|none=>none
noncomputable def zp (o o':D->D->Option D) (f g h:gh->Option D):gh->Option D:=λδ=>(f δ).bind λx=>(g δ).bind λy=>match o x y with
 |some (.bl true)=>(h δ).bind λz=>o' y z
 |some (.bl false)=>some (.bl false)
 |_=>none
end
noncomputable def isStar:cH->Bool
 |.Starred _ _=>true
 |_=>false
def fS (h:isStar e=false):starEach (e::es) env=(false,eval e env)::starEach es env:=by
 cases e<;>first|(cases h;done)|(rw[starEach];intro _ _ z;cases z)
def noStar (es:List cH):Bool:=es.all λe=> !isStar e
theorem hZ:∀{es:List cH},noStar es=true->(backTo pos (starEach es env)).any (·.1)=false
 |[],_=>rfl
 |e::es,h=>by
  unfold noStar at h;rw[all_cons,Bool.and_eq_true]at h;rw[fS (by simpa using h.1)]
  unfold backTo;rw[aF,bF];have:=hZ (pos:=pos) (env:=env) (es:=es) h.2;unfold backTo at this;rw[this];rfl
def Uo (h:isStar e=false):((backTo pos (starEach [e] env)).all (λx=> !x.1)&&(backToKw pos (keywordEach [] env)).all (λx=>x.1.isSome)
   &&decide ([e].length+([]:List Keyword).length+(if([]:List Keyword).isEmpty then 0 else 1)<30))=true:=by
 rw[fS h];rfl
section
variable {X:Cx}{e:cH}{es:List cH}{pos p:Pos}{x:Str}
noncomputable def cT:gh->Option (List D):=λ_=>some []
noncomputable def cN (f:gh->Option D) (g:gh->Option (List D)):gh->Option (List D):=λδ=>(f δ).bind λd=>(g δ).map λds=>d::ds
def yF:VH X [] cT:=(rK (X:=X)).imp λσ H Q ⟨C,δ,ds,x,q,k⟩=>by cases q;exact k [] C H (.refl x.sub) .nil
def vn (ha:PD X e f) (hr:VH X es g) (hs:cL e es X.env:=by exact fS rfl):VH X (e::es) (cN f g):=(jy ha hr hs).imp λσ H Q ⟨C,δ,ds,x,q,k⟩=>by
 unfold cN at q;cases hf:f δ with
 |none=>rw[hf]at q;cases q
 |some d=>
  cases hg:g δ with
  |none=>rw[hf,hg]at q;cases q
  |some r=>
   rw[hf,hg]at q;cases q;exact⟨C,δ,d,x,hf,λv C1 H1 e1 i1=>⟨C1,δ,r,x.ev e1,hg,λvs C2 H2 e2 i2=>k _ C2 H2 (e1.trans e2) (.cons (i1.mono e2.c) i2)⟩⟩
inductive Bu (C H:Hp):List V->List D->Prop where
 |nil:Bu C H [] []
 |cons {v:V}{d:D}{vs:List V}{ds:List D}:pL C H v d->Bu C H vs ds->Bu C H (v::vs) (d::ds)
noncomputable def ZG (f:gh->Option (List D)):TA:=λσ H Q=>∃C δ ds,Sx δ σ C H/\f δ=some ds/\∀vs C' H',Ev C H C' H'->Bu C' H' vs ds->Q vs H'
abbrev PAO (X:Cx) (es:List cH) (f:gh->Option (List D)):Prop:=PA X es (ZG f)
noncomputable def fV (f:gh->Option (List D)):gh->Option D:=λδ=>(f δ).bind λds=>if ds.length<=1000 then some (.tup ds)else none
noncomputable def rO (f:gh->Option (List D)):gh->Option (List D):=λδ=>(f δ).bind λds=>if ds.length<=1000 then some ds else none
noncomputable def nR (g:List D->Option D):Sp:=λvs H Q _=>∃C ds d,eE C H/\IsL C vs ds/\g ds=some d/\∀v C' H',pK C H C' H'->Is C' v d->Q v H'
noncomputable def cU (g:List D->Option D) (f:gh->Option (List D)):gh->Option D:=λδ=>(f δ).bind g
def QW:∀σ H Q,tD (cU g f) σ H Q->Se (nR g) [] E (YD f) σ H Q:=λσ H Q ⟨C,δ,d,x,q,k⟩=>by
 unfold cU at q;cases hf:f δ with
 |none=>rw[hf]at q;cases q
 |some ds=>
  rw[hf]at q;exact⟨C,δ,ds,x,hf,λvs C1 H1 e1 i1=>⟨C1,ds,d,e1.s,by rw[bB];exact i1,q,λv C2 H2 e2 i2=>k v C2 H2 (e1.trans e2.up) i2⟩⟩
def QX (F:eO X.prog X.w X.K X.mg X.base iY k f fd ps (nR g)) (hr:hW k X.A) (hg:Gl X x) (hm:X.mg x=some (.ref f)) (hk:W.keepIn X.K (.ref f)=true) (hb:Binds X.K fd ps []) (ha:VH X (e::es) fa) (yn:(x==("__debug__":Str))=false:=by decide) (he:cL e es X.env:=by exact fS rfl) (mn:(backTo pos (starEach es X.env)).any (·.1)=false:=by exact hZ rfl):PD X (.Call (.Name x p) (e::es) [] pos) (cU g fa):=(DC F hr hg hm hk hb .nil Cm ha yn he mn).imp QW
def CD (r:List V->Hp->VK->Prop) (g:List D->Option D):Prop:=∀C H vs ds d Q,eE C H->Bu C H vs ds->g ds=some d->(∀v C' H',pK C H C' H'->Is C' v d->Q v H')->r vs H Q
def CF (r:List V->Hp->VK->Prop) (g:List D->Option (List D)):Prop:=∀C H vs ds d Q,eE C H->Bu C H vs ds->g ds=some d->(∀a xs C' H',pK C H C' H'->H a=none->C' a=none->H' a=some (.lst xs)->IsL C' xs d->Q (.ref a) H')->r vs H Q
def xR (X:Cx) (f:cy) (g:List D->Option D):Prop:=∃r,i9 X f r/\CD r g
def Ct (X:Cx) (f:cy) (g:List D->Option (List D)):Prop:=∃r,i9 X f r/\CF r g
noncomputable def eP (g:List D->Option (List D)) (f:gh->Option (List D)):gh->Option (List D):=λδ=>(f δ).bind g
def Ss (hd:CD r g):∀σ H Q,tD (cU g f) σ H Q->Yu r (ZG f) σ H Q:=λσ H Q ⟨C,δ,d,x,q,k⟩=>by
 unfold cU at q;cases hf:f δ with
 |none=>rw[hf]at q;cases q
 |some ds=>
  rw[hf]at q;exact⟨C,δ,ds,x,hf,λvs C1 H1 e1 i1=>hd C1 H1 vs ds d Q e1.s i1 q λv C2 H2 e2 i2=>k v C2 H2 (e1.trans e2.up) i2⟩
def Su (hd:CF r g):∀σ H Q,tF (eP g f) σ H Q->Yu r (ZG f) σ H Q:=λσ H Q ⟨C,δ,d,x,q,k⟩=>by
 unfold eP at q;cases hf:f δ with
 |none=>rw[hf]at q;cases q
 |some ds=>
  rw[hf]at q;exact⟨C,δ,ds,x,hf,λvs C1 H1 e1 i1=>hd C1 H1 vs ds d Q e1.s i1 q λa xs C2 H2 e2 h2=>k a xs C2 H2 (e1.trans e2.up) (e1.free h2)⟩
end
end DL
namespace DL
open L2
variable [Mem]
structure Gd (B C0 H0:Hp) (δ:gh) (σ:L2.St) (C H:Hp):Prop where
 b:eE B C
 ev:Ev C0 H0 C H
 x:Sx δ σ C H
 fr:∀(i:Nat) (ds:List D) (a:cG),δ[i]? =some (.own ds)->σ[i]? =some (some (.ref a))->H0 a=none
inductive R where
 |next (δ:gh)|ret (d:D)|brk (δ:gh)|cont (δ:gh)
abbrev _root_.bX:=gh->Option (List D)
abbrev _root_.bY:=gh->Option R
abbrev _root_.bZ:=gh->Option D
abbrev _root_.cb:=gh->Option Bool
noncomputable abbrev _root_.cc:=List D->Option D
noncomputable abbrev _root_.cw:=List D
noncomputable def Fi (B C0 H0:Hp) (Dn:Ends):R->Prop
 |.next δ=>∀σ C H,Gd B C0 H0 δ σ C H->Dn.nx σ H
 |.ret d=>∀v C H,Ev C0 H0 C H->Is C v d->Dn.rt v H
 |.brk δ=>∀σ C H,Gd B C0 H0 δ σ C H->Dn.bk σ H
 |.cont δ=>∀σ C H,Gd B C0 H0 δ σ C H->Dn.ct σ H
def tS (B C0 H0:Hp) (f:bY):TS:=λDn σ H=>∃C δ r,Gd B C0 H0 δ σ C H/\f δ=some r/\Fi B C0 H0 Dn r
def PB (X:Cx) (C0 H0:Hp) (st:cI) (f:bY):Prop:=∀B,PS X st (tS B C0 H0 f)
def VJ (X:Cx) (C0 H0:Hp) (st:List cI) (f:bY):Prop:=∀B,Dw X st (tS B C0 H0 f)
section
variable {B C0 H0 C H C' H':Hp}{δ:gh}{σ:L2.St}
def Gd.Bv (g:Gd B C0 H0 δ σ C H) (e:Ev C H C' H'):Gd B C0 H0 δ σ C' H':=⟨g.b.trans e.c,g.ev.trans e,g.x.ev e,g.fr⟩
theorem Gd.wR (g:Gd B C0 H0 δ σ C H) (h:Is C v d):Gd B C0 H0 (δ.set i (.dat d)) (σ.set i (some v)) C H:=
 ⟨g.b,g.ev,g.x.wR h,λk ds a q1 q2=>by
  rcases getElem?_set_cases q1 with⟨_,e⟩|⟨hk,e⟩
  ·cases e
  ·rw[aG (Ne.symm hk)]at q2;exact g.fr k ds a e q2⟩
theorem Gd.DO (g:Gd B C0 H0 δ σ C H) (e:Ev C H C' H') (hn:H a=none) (hc:C' a=none) (hH:H' a=some (.lst xs)) (hl:IsL C' xs ds):Gd B C0 H0 (δ.set i (.own ds)) (σ.set i (some (.ref a))) C' H':=
 ⟨g.b.trans e.c,g.ev.trans e,(g.x.ev e).DO hc hH hl (λk es q z=>by
   obtain⟨b,ys,h1,h2,h3,_⟩:=g.x.own k es q;rw[z]at h1;cases h1;rw[hn]at h3;cases h3),
  λk es b q1 q2=>by
   rcases getElem?_set_cases q1 with⟨rfl,e1⟩|⟨hk,e1⟩
   ·rcases getElem?_set_cases q2 with⟨_,e2⟩|⟨z,_⟩
    ·cases e2;exact g.ev.free hn
    ·exact absurd rfl z
   ·rw[aG (Ne.symm hk)]at q2;exact g.fr k es b e1 q2⟩
theorem Gd.mut (g:Gd B C0 H0 δ σ C H) (hi:δ[i]? =some (.own ds)) (ha:σ[i]? =some (some (.ref a))) (hl:IsL C ys es):Gd B C0 H0 (δ.set i (.own es)) σ C (upd H a (.lst ys)):=by
 obtain⟨a',xs,h1,h2,h3,_⟩:=g.x.own i ds hi;rw[ha]at h1;cases h1;refine⟨g.b,g.ev.JO (g.fr i ds a hi ha) h2 _,g.x.mut hi ha hl,λk fs b q1 q2=>?_⟩
 rcases getElem?_set_cases q1 with⟨rfl,e1⟩|⟨hk,e1⟩
 ·exact g.fr k ds b hi q2
 ·exact g.fr k fs b e1 q2
noncomputable def wU (i:Nat) (δ:gh):gh:=match δ[i]? with|some (.own ds)=>δ.set i (.dat (.lst ds))|_=>δ
theorem Gd.give (g:Gd B C0 H0 δ σ C H) (i:Nat):∃C',Gd B C0 H0 (wU i δ) σ C' H:=by
 unfold wU;split
 ·rename_i ds hi;obtain⟨a,xs,h1,h2,h3,h4⟩:=g.x.own i ds hi;refine⟨upd C a (.lst xs),g.b.trans (fu h2),g.ev.Sn (g.fr i ds a hi h1) h2 h3,g.x.give hi h1 h3 h4,λk fs b q1 q2=>?_⟩
  ·rcases getElem?_set_cases q1 with⟨_,e1⟩|⟨hk,e1⟩
   ·cases e1
   ·exact g.fr k fs b e1 q2
 ·exact⟨C,g⟩
end
section
variable {X:Cx}{C0 H0:Hp}{e:cH}{pos:Pos}{f g:bY}
noncomputable def fW:bY:=λδ=>some (.next δ)
noncomputable def dH (f g:bY):bY:=λδ=>match f δ with|some (.next δ')=>g δ'|r=>r
def hO (i:Nat) (f:bY):bY:=λδ=>f (wU i δ)
noncomputable def eh (f:bZ):bY:=λδ=>(f δ).map .ret
noncomputable def i6 (i:Nat) (f:bZ):bY:=λδ=>(f δ).map λd=>.next (δ.set i (.dat d))
noncomputable def gQ (i:Nat) (f:bX):bY:=λδ=>(f δ).map λds=>.next (δ.set i (.own ds))
def Up {f:bZ}{t:TE}(h:∀σ H Q,tD f σ H Q->t σ H Q):∀Dn σ H,tS B C0 H0 (i6 i f) Dn σ H->t σ H λv H1=>Dn.nx (σ.set i (some v)) H1:=λDn σ H ⟨C,δ,r,gd,q,k⟩=>by
 unfold i6 at q;cases hf:f δ with
 |none=>rw[hf]at q;cases q
 |some d=>
  rw[hf]at q;cases q;exact h σ H _ ⟨C,δ,d,gd.x,hf,λv C' H' ev i=>k _ C' H' ((gd.Bv ev).wR i)⟩
def Nt {B:Hp}{f:bX}{t:TE}(h:∀σ H Q,tF f σ H Q->t σ H Q):∀Dn σ H,tS B C0 H0 (gQ i f) Dn σ H->t σ H λv H1=>Dn.nx (σ.set i (some v)) H1:=λDn σ H ⟨C,δ,r,gd,q,k⟩=>by
 unfold gQ at q;cases hf:f δ with
 |none=>rw[hf]at q;cases q
 |some ds=>
  rw[hf]at q;cases q;exact h σ H _ ⟨C,δ,ds,gd.x,hf,λa xs C' H' ev h1 h2 h3 h4=>k _ C' H' (gd.DO ev h1 h2 h3 h4)⟩
noncomputable def kW (c:cb) (f g:bY):bY:=λδ=>match c δ with|some true=>f δ|some false=>g δ|none=>none
noncomputable def HX (i:Nat) (f:bZ):bY:=λδ=>match δ[i]? with
 |some (.own ds)=>(f δ).bind λd=>if ds.length<1000000 then some (.next (δ.set i (.own (ds++[d]))))else none
 |_=>none
omit [Mem] in
def yG (h:n<1000000):n<sizeLine:=aw h (by decide)
def Ll {i:Nat}{o:cH}{f:bZ}{t:TA}(ht:PA X [e] t) (ho:PE X o (lQ i)) (he:∀σ H Q,YD (cN f cT) σ H Q->t σ H Q) (call:PE X (.Call (.Attribute o "append" apos) [e] [] pos) (Zu X.K "list" JL (lQ i) t)) {pos':Pos}(hs:swapsWith (.Call (.Attribute o "append" apos) [e] [] pos) none pos'.line X.env=pure false:=by rfl):PB X C0 H0 (.Expr (.Call (.Attribute o "append" apos) [e] [] pos) pos') (HX i f):=λB=>(JF call hs).imp λDn σ H ⟨C,δ,r,gd,q,k⟩=>by
 unfold HX at q;split at q
 ·rename_i ds hi;cases hf:f δ with
  |none=>rw[hf]at q;cases q
  |some d=>
   rw[hf]at q;simp only[ao]at q;split at q
   ·rename_i hz;cases q;obtain⟨a,xs,h1,h2,h3,h4⟩:=gd.x.own i ds hi;refine⟨_,h1,.inl ⟨rfl,_,rD.of h3⟩,he σ H _ ⟨C,δ,[d],gd.x,by unfold cN cT;rw[hf];rfl,λvs C' H' ev i'=>?_⟩⟩
    cases i' with
    |cons i1 i2=>
     cases i2;refine⟨a,xs,_,rfl,rfl,ev.hh h3,by rw[h4.length];exact yG hz,k σ C' _ ((gd.Bv ev).mut hi h1 ((h4.mono ev.c).append (.one i1)))⟩
   ·cases q
 ·cases q
end
def Wk (J:It) (ds:cw) (C:Hp):Prop:=∀i C' H',eE C C'->eE C' H'->(∀d,ds[i]? =some d->J.go i H'/\∀x H3,J.Tw i H' x H3->H3=H'/\Is C' x d)/\(ds.length<=i->J.stop i H')
def WkE (J:It) (ds:cw) (C H:Hp):Prop:=∀i C' H',Ev C H C' H'->(∀d,ds[i]? =some d->J.go i H'/\∀x H3,J.Tw i H' x H3->H3=H'/\Is C' x d)/\(ds.length<=i->J.stop i H')
noncomputable def tI (f:bX):TI:=λσ H R=>∃C δ ds,Sx δ σ C H/\f δ=some ds/\∀J C' H',Ev C H C' H'->Wk J ds C'->R J H'
noncomputable def tIE (f:bX):TI:=λσ H R=>∃C δ ds,Sx δ σ C H/\f δ=some ds/\∀J C' H',Ev C H C' H'->WkE J ds C' H'->R J H'
omit [Mem] in
def _root_.L2.PI.imp (h:PI X tg e t) (m:∀σ H Q,t' σ H Q->t σ H Q):PI X tg e t':=λcM s σ H Q I q=>h cM s σ H Q I (m σ H Q q)
abbrev W8 (X:Cx) (tg e:cH) (f:bX):Prop:=PI X tg e (tI f)
abbrev PIe (X:Cx) (tg e:cH) (f:bX):Prop:=PI X tg e (tIE f)
section
variable {X:Cx}{tg e:cH}
def W8.weak (h:W8 X tg e f):PIe X tg e f:=h.imp λσ H R ⟨C,δ,ds,x,q,k⟩=>⟨C,δ,ds,x,q,λJ C' H' ev wk=>k J C' H' ev λi C2 H2 e2=>wk i C2 H2 e2.c e2.s⟩
noncomputable def iL (f:bZ):bX:=λδ=>match f δ with|some (.lst ds)=>some ds|_=>none
noncomputable def iT (f:bZ):bX:=λδ=>match f δ with|some (.tup ds)=>some ds|_=>none
def Cu {K:W.Frag}(h:Rd C a (.lst xs)) (hl:IsL C xs ds):Wk (Zc K a) ds C:=λi C' H' sc sh=>by
 have hq:rD K H' a xs:=.inl ((h.same sc).same sh);refine⟨λd hd=>?_,λhi=>⟨xs,hq,by rw[hl.length];exact hi⟩⟩
 obtain⟨v,hv,is⟩:=hl.get hd;exact⟨⟨xs,v,hq,hv⟩,λx H3 ⟨e1,e2⟩=>⟨e1,by
  have:=e2 xs hq;rw[hv]at this;cases this;exact is.mono sc⟩⟩
def Nu {K:W.Frag}(h:C a=some (.tup xs)) (hl:IsL C xs ds):Wk (Zd K a) ds C:=λi C' H' sc sh=>by
 have hq:mB K H' a xs:=mB.of (sh _ _ (sc _ _ h));refine⟨λd hd=>?_,λhi=>⟨xs,hq,by rw[hl.length];exact hi⟩⟩
 obtain⟨v,hv,is⟩:=hl.get hd;exact⟨⟨xs,v,hq,hv⟩,λx H3 ⟨e1,e2⟩=>⟨e1,by
  have:=e2 xs hq;rw[hv]at this;cases this;exact is.mono sc⟩⟩
def Fu {f:bZ}(h:PD X e f):W8 X tg e (iL f):=(JH h).imp λσ H R ⟨C,δ,ds,x,q,k⟩=>by
 unfold iL at q;split at q
 ·rename_i es hf;cases q;refine⟨C,δ,_,x,hf,λv C' H' ev i=>?_⟩
  cases i with
  |lst hr hl=>exact⟨_,rfl,⟨_,.inl (hr.same ev.s)⟩,k _ C' H' ev (Cu hr hl)⟩
 ·cases q
def JS (h:PD X e f):W8 X tg e (iT f):=(Tx h).imp λσ H R ⟨C,δ,ds,x,q,k⟩=>by
 unfold iT at q;split at q
 ·rename_i es hf;cases q;refine⟨C,δ,_,x,hf,λv C' H' ev i=>?_⟩
  cases i with
  |tup hr hl=>exact⟨_,rfl,⟨_,mB.of (ev.s _ _ hr)⟩,k _ C' H' ev (Nu hr hl)⟩
 ·cases q
noncomputable def dD (lo:Int):Nat->cp
 |0=>[]
 |n+1=>lo::dD (lo+1) n
omit [Mem] in
theorem pR:∀(n i:Nat) (lo:Int),(dD lo n)[i]? =if i<n then some (lo+i)else none
 |0,i,lo=>by simp[dD]
 |n+1,0,lo=>by simp[dD]
 |n+1,i+1,lo=>by
  show(dD (lo+1) n)[i]? =_;rw[pR n i (lo+1)];by_cases h:i<n
  ·rw[if_pos h,if_pos (by omega)];congr 1;omega
  ·rw[if_neg h,if_neg (by omega)]
omit [Mem] in
theorem eF:∀(n:Nat) (lo:Int),(dD lo n).length=n
 |0,_=>rfl
 |n+1,lo=>congrArg (·+1) (eF n (lo+1))
def zq {lo:Int}:Wk (V8 lo n) ((dD lo n).map D.int) C:=λi C' H' sc sh=>by
 refine⟨λd hd=>?_,λhi=>?_⟩
 ·rw[av,pR]at hd;split at hd
  ·rename_i h;cases hd;exact⟨h,λx H3 ⟨e1,e2⟩=>⟨e1,by rw[e2];exact .int _⟩⟩
  ·cases hd
 ·rw[ae,eF]at hi;exact hi
def wG (f:bX):bX:=λδ=>match f δ with|some [.int j]=>if j<1000000/\-1000000<j then some ((dD 0 j.toNat).map D.int)else none|_=>none
def ZI (f:bX):bX:=λδ=>match f δ with|some [.int i,.int j]=>if(i<1000000/\-1000000<i)/\j<1000000/\-1000000<j then some ((dD i (j-i).toNat).map D.int)else none|_=>none
noncomputable def gp (j:Nat) (f:bY):cw->bY
 |[],δ=>some (.next δ)
 |d::ds,δ=>match f (δ.set j (.dat d))with
  |some (.next δ')=>gp j f ds δ'
  |some (.cont δ')=>gp j f ds δ'
  |some (.brk δ')=>some (.next δ')
  |some (.ret r)=>some (.ret r)
  |none=>none
def kz (j:Nat) (i:bX) (f:bY):bY:=λδ=>(i δ).bind λds=>gp j f ds δ
noncomputable def j5 (j:Nat) (t:cb) (f:bZ) (δ:gh):cw->Option (cw)
 |[]=>some []
 |d::ds=>match t (δ.set j (.dat d))with
  |some true=>(f (δ.set j (.dat d))).bind λy=>(j5 j t f δ ds).map λys=>y::ys
  |some false=>j5 j t f δ ds
  |none=>none
def ei (i:bX) (j:Nat) (t:cb) (f:bZ):bX:=λδ=>(i δ).bind λds=>if ds.length<1000000 then j5 j t f δ ds else none
noncomputable def lS:cb:=λ_=>some true
def Nv:∀σ H Q,tQ lS σ H Q->WR σ H Q:=λσ H Q ⟨C,δ,b,x,q,k⟩=>by cases q;exact k C H (.refl x.sub)
def HY (ht:∀σ H Q,tQ t σ H Q->tt σ H Q):∀σ H Q,tF (ei i j t f) σ H Q->Nd (tIE i) j tt (tD f) σ H Q:=λσ H Q ⟨C,δ,ys,x,q,k⟩=>by
 unfold ei at q;cases hf:i δ with
 |none=>rw[hf]at q;cases q
 |some ds=>
  rw[hf]at q;simp only[ao]at q;split at q
  case isFalse=>cases q
  rename_i hz;refine⟨C,δ,ds,x,hf,λJ C1 H1 ev wk A hA=>?_⟩
  refine⟨λn m acc H'=>∃C' done rest,m=ds.length-n/\n<=ds.length/\Ev C1 H1 C' H'/\C' A=none/\H' A=some (.lst acc)/\IsL C' acc done/\done.length<=n/\j5 j t f δ (ds.drop n)=some rest/\ys=done++rest,
   ⟨ds.length,C1,[],ys,by simp,bK _,.gm ev.s hA,ev.s.free hA,dh,.nil,au _,by simpa using q,rfl⟩,?_⟩
  rintro n m acc H2 ⟨C2,done,rest,rfl,hn,e2,a2,b2,l2,le2,q2,ey⟩
  have w:=wk n C2 H2 e2;by_cases fP:n<ds.length
  ·have hd:ds[n]? =some ds[n]:=ah fP;obtain⟨go,yl⟩:=w.1 _ hd;rw[drop_eq_getElem_cons fP]at q2;refine .inr ⟨go,λv H3 y=>?_⟩
   obtain⟨rfl,is⟩:=yl v H3 y;have x2:Sx δ σ C2 H3:=x.ev (ev.trans e2);have x3:=x2.wR (i:=j) is;unfold j5 at q2;split at q2
   ·rename_i ZJ;refine ht _ _ _ ⟨C2,_,true,x3,ZJ,λC4 H4 e4=>yp ?_⟩
    cases QY:f (δ.set j (.dat ds[n]))with
    |none=>rw[QY]at q2;cases q2
    |some y=>
     rw[QY]at q2;simp only[ao]at q2;cases hr:j5 j t f δ (ds.drop (n+1))with
     |none=>rw[hr]at q2;cases q2
     |some rs=>
      rw[hr]at q2;cases q2;refine⟨C4,_,y,x3.ev e4,QY,λu C5 H5 e5 i5=>?_⟩
      have Mo:=e4.trans e5;have YE:=Mo.hh b2;have a5:=Mo.nn a2 b2;refine⟨YE,?_,ds.length-(n+1),by omega,C5,done++[y],rs,rfl,fP,(e2.trans Mo).JO hA a5 _,a5,dh,(l2.mono Mo.c).append (.one i5),?_,hr,?_⟩
      ·rw[l2.length];exact yG (by omega)
      ·rw[aQ,length_singleton];omega
      ·rw[ey,append_assoc];rfl
   ·rename_i ZJ;refine ht _ _ _ ⟨C2,_,false,x3,ZJ,λC4 H4 e4=>Br ?_⟩
    exact⟨ds.length-(n+1),by omega,C4,done,rest,rfl,fP,e2.trans e4,e4.nn a2 b2,e4.hh b2,l2.mono e4.c,by omega,q2,ey⟩
   ·cases q2
  ·have e:n=ds.length:=by omega
   subst e;rw[drop_length]at q2;unfold j5 at q2;cases q2;rw[bB]at ey;subst ey;exact .inl ⟨w.2 (au _),k A acc C2 H2 (ev.trans e2) (ev.free hA) a2 b2 l2⟩
end
end DL
namespace DL
open L2
noncomputable def gz (n:Nat) (np:Nat) (f:bY) (ds:cw):Option D:=
 if ds.length=np then(match f (ds.map Sl.dat++replicate (n-np) Sl.no)with|some (.ret d)=>some d|some (.next _)=>some .eU|_=>none)else none
section
variable [Mem] {C H:Hp}{N ps:List Str}{vs:List V}{ds:cw}{d:D}{δ:gh}{σ:L2.St}{fb:bY}{Q:VK}{sc:Scope}
def tE (gd:Gd C C H δ σ C H) (q:(match fb δ with|some (.ret d)=>some d|some (.next _)=>some .eU|_=>none)=some d) (k:∀v C' H',Ev C H C' H'->Is C' v d->Q v H'):tS C C H fb {nx:=λ_ H'=>Q .eU H',rt:=Q} σ H:=by
 split at q
 ·rename_i d' hf;cases q;exact⟨C,_,_,gd,hf,λv C' H' ev i'=>k v C' H' ev i'⟩
 ·rename_i δ' hf;cases q;exact⟨C,_,_,gd,hf,λσ' C' H' g'=>k .eU C' H' g'.ev .eU⟩
 ·cases q
def wV {n:Nat}(hn:n<vs.length):(L2.start N vs)[n]? =some vs[n]? :=by
 unfold L2.start;rw[aJ (by rw[ae];exact hn),av,ah hn];rfl
def Sv (sx:Sx δ σ C H) (no:∀(n:Nat) es,δ[n]? ≠some (Sl.own es)):Gd C C H δ σ C H:=⟨eE.refl _,.refl sx.sub,sx,λn es a e _=>absurd e (no n es)⟩
def JT (S:dA N ps sc):ps.length<=N.length:=by have:=S.pre;rw[<-this,bI];omega
def Fv (S:dA N ps sc) (sub:eE C H) (i:IsL C vs ds) (hl:ds.length=ps.length):Gd C C H (ds.map Sl.dat++replicate (N.length-ps.length) Sl.no) (L2.start N vs) C H:=by
 have ge:∀{n:Nat}{x:Sl},(ds.map Sl.dat++replicate (N.length-ps.length) Sl.no)[n]? =some x->(∃d,ds[n]? =some d/\x=.dat d)\/x=.no:=λ{n x} e=>by
  by_cases hn:n<ds.length
  ·rw[aJ (by simpa using hn),av,ah hn]at e
   cases e;exact .inl ⟨_,ah hn,rfl⟩
  ·rw[aP (by rw[ae];omega),bf]at e
   split at e<;>cases e
   exact .inr rfl
 have no:∀(n:Nat) es,(ds.map Sl.dat++replicate (N.length-ps.length) Sl.no)[n]? ≠some (Sl.own es):=λn es e=>by rcases ge e with⟨_,_,q⟩|q<;>cases q
 have lv:=i.length;have:=JT S;refine Sv ⟨sub,λn d e=>?_,λn es e=>absurd e (no n es),λn m es fs a e=>absurd e (no n es),?_,λn ks e=>by rcases ge e with⟨_,_,q⟩|q<;>cases q⟩ no
 ·rcases ge e with⟨_,hd,q⟩|q<;>cases q
  obtain⟨v,h1,h2⟩:=i.get hd;exact⟨v,by rw[wV (List.getElem?_eq_some_iff.mp h1).1,h1],h2⟩
 ·unfold L2.start;simp only[aQ,ae,length_replicate];omega
end
def Sw {P:cC}{w:cD}{K:W.Frag}{base:Heap}{x qual:Str}{st:cI}{f:cG}{fd:cB}{N ps:List Str}{k:Nat}(F:jW K x qual st f fd) (S:dA N ps (cY st)) {fb:bY}(jL:∀(fD:cy) (A:cE) (outer:List Env) (s:cA) (H:Hp) (E:XK),hW k (A.deeper (envOfC qual (cY st) s.heap.objs.size f fD))->∀C0 H0,@VJ Mem.keep (tY iY P w K mg base N qual (cY st) f fD A outer s H E).Hu C0 H0 (fO st) fb):eO P w K mg base iY (k+1) f fd ps (nR (gz N.length ps.length fb)):=by
 letI:Mem:=Mem.keep
 refine F.ok S (λvs H Q E h=>?_) (λfD A outer s H vs Q E hr h=>?_)
 all_goals
  obtain⟨C,ds,d,sub,i,q,k⟩:=h;unfold gz at q;split at q
  case isFalse=>cases q
  rename_i hl
 ·rw[i.length];exact hl
 ·exact⟨tS C C H fb,jL fD A outer s H E hr C H C,tE (Fv S sub i hl) q λv C' H' ev i'=>k v C' H' ev.xQ i'⟩
mutual
noncomputable def jJ:D->D->Bool
 |.eU,.eU=>true
 |.bl a,.bl b=>a==b
 |.bl a,.int b=>(if a then 1 else 0)==b
 |.int a,.bl b=>a==(if b then 1 else 0)
 |.int a,.int b=>a==b
 |.str a,.str b=>a==b
 |.tup a,.tup b=>jY a b
 |.lst a,.lst b=>jY a b
 |_,_=>false
noncomputable def jY:cw->cw->Bool
 |[],[]=>true
 |a::as,b::bs=>jJ a b&&jY as bs
 |_,_=>false
end
mutual
noncomputable def eV:D->Nat
 |.tup ds=>jO ds+1
 |.lst ds=>jO ds+1
 |_=>0
noncomputable def jO:cw->Nat
 |[]=>0
 |d::ds=>max (eV d) (jO ds)
end
theorem lT:∀{ds:cw}{d:D},d∈ds->eV d<=jO ds
 |e::r,d,h=>by
  unfold jO;rcases mem_cons.mp h with h|h
  ·subst h;omega
  ·have:=lT h;omega
mutual
theorem vo:∀d:D,jJ d d=true
 |.eU=>by unfold jJ;rfl
 |.bl b=>by unfold jJ;simp
 |.int i=>by unfold jJ;simp
 |.str x=>by unfold jJ;simp
 |.tup ds=>by unfold jJ;exact wW ds
 |.lst ds=>by unfold jJ;exact wW ds
theorem wW:∀ds:cw,jY ds ds=true
 |[]=>by unfold jY;rfl
 |d::ds=>by unfold jY;rw[vo d,wW ds];rfl
end
theorem oW:∀(as bs:cw),jY as bs=((List.range (min as.length bs.length)).all (λj=>jJ (as.getD j .eU) (bs.getD j .eU))&&as.length==bs.length)
 |[],[]=>by unfold jY;rfl
 |[],b::bs=>by unfold jY;simp
 |a::as,[]=>by unfold jY;simp
 |a::as,b::bs=>by
  unfold jY;rw[oW as bs];have e:min (a::as).length (b::bs).length=min as.length bs.length+1:=by simp only[ay];omega
  rw[e,range_succ_eq_map,all_cons,all_map];simp only[ay,getD_cons_zero,Nat.add_left_inj,Nat.add_eq,Nat.add_zero,Bool.and_assoc]
  congr 1
  have e2:(as.length+1==bs.length+1)=(as.length==bs.length):=by
   rw[Bool.eq_iff_iff];simp
  rw[e2]
  congr 1
mutual
theorem Is.inj {C:Hp}:∀{v:V}{d e:D},Is C v d->Is C v e->d=e
 |_,_,_,.eU,.eU=>rfl
 |_,_,_,.bl _,.bl _=>rfl
 |_,_,_,.int _,.int _=>rfl
 |_,_,_,.str _,.str _=>rfl
 |_,_,_,.tup h l,.tup h' l'=>by
  rw[h]at h';cases h';rw[IsL.inj l l']
 |_,_,_,.lst h l,.lst h' l'=>by
  have:∀{a:cG}{xs ys:List V},Rd C a (.lst xs)->Rd C a (.lst ys)->xs=ys:=λ{a xs ys} p q=>by
   rcases p with p|⟨o,p⟩<;>rcases q with q|⟨o',q⟩<;>(rw[p]at q;cases q)<;>rfl
  cases this h h';rw[IsL.inj l l']
 |_,_,_,.tup h l,.lst h' l'=>by
  rcases h' with q|⟨o',q⟩<;>(rw[h]at q;cases q)
 |_,_,_,.lst h l,.tup h' l'=>by
  rcases h with q|⟨o',q⟩<;>(rw[h']at q;cases q)
theorem IsL.inj {C:Hp}:∀{vs:List V}{ds es:cw},IsL C vs ds->IsL C vs es->ds=es
 |_,_,_,.nil,.nil=>rfl
 |_,_,_,.cons h t,.cons h' t'=>by rw[Is.inj h h',IsL.inj t t']
end
section
variable {X:Cx}{cM:cj}{σ:L2.St}{C H:Hp}{s:cA}
inductive Kd (s:cA):cy->D->Prop
 |eU:Kd s .none .eU
 |bl (b:Bool):Kd s (.bool b) (.bl b)
 |int (i:Int) (t:Tok):Kd s (.int i t) (.int i)
 |str (x:Str) (t:Tok):Kd s (.str x t) (.str x)
 |tup {a:cG}{dE:Array cy}{ds:cw}:s.heap.IsTuple a dE->Kd s (.ref a) (.tup ds)
 |lst {a:cG}{dE:Array cy}{ds:cw}:s.heap.IsList a dE->Kd s (.ref a) (.lst ds)
def Cv (I:Inv X cM σ H s) (sub:eE C H) (iv:Is C v d) (ru:RelV v u):Kd s u d:=by
 cases iv with
 |eU=>cases ru;exact .eU
 |bl b=>cases ru;exact .bl b
 |int b=>obtain⟨t,rfl⟩:=ru;exact .int b t
 |str b=>obtain⟨t,rfl⟩:=ru;exact .str b t
 |tup h l=>cases ru;obtain⟨dE,_,p,_⟩:=I.tuple (mB.of (K:=X.K) (sub _ _ h));exact .tup p
 |lst h l=>cases ru;obtain⟨dE,_,p,_⟩:=I.list (.inl (h.same sub));exact .lst p.isList
def wX (I:Inv X cM σ H s) (sub:eE C H) (iv:Is C v (.tup ds)) (ru:RelV v (.ref a)):∃dE xs,v=.ref a/\IsTup s.heap a dE.toArray/\dE.toArray.size=ds.length/\IsL C xs ds/\Vals xs dE:=by
 cases iv with
 |@tup b xs _ h l=>
  cases ru;obtain⟨dE,r,p,_⟩:=I.tuple (mB.of (K:=X.K) (sub _ _ h));exact⟨dE,xs,rfl,p,by rw[aq,<-r.length,l.length],l,r⟩
def wY (I:Inv X cM σ H s) (sub:eE C H) (iv:Is C v (.lst ds)) (ru:RelV v (.ref a)):∃dE xs,v=.ref a/\s.heap.IsList a dE.toArray/\dE.toArray.size=ds.length/\IsL C xs ds/\Vals xs dE:=by
 cases iv with
 |@lst b xs _ h l=>
  cases ru;obtain⟨dE,r,p,_⟩:=I.list (.inl (h.same sub));exact⟨dE,xs,rfl,p.isList,by rw[aq,<-r.length,l.length],l,r⟩
def QZ (C:Hp) (s:cA) (A:cE) (n:Nat):Prop:=∀{d e:D}{v w:V}{u z:cy},eV d<=n->Is C v d->Is C w e->RelV v u->RelV w z->SeqAt.EqAt A s u z (jJ d e)
section
variable {A:cE}{n:Nat}{d e:D}{v w:V}{u z:cy}
def vp (ih:QZ C s A.in1 n) {xs ys:List V}{ds es:cw}{dE mD:cx}(hn:eV (.tup ds)<=n+1) (l1:IsL C xs ds) (l2:IsL C ys es) (r1:Vals xs dE) (r2:Vals ys mD):
  ∀j (h1:j<dE.toArray.size) (h2:j<mD.toArray.size),SeqAt.EqAt A.in1 s dE.toArray[j] mD.toArray[j] (jJ (ds.getD j .eU) (es.getD j .eU)):=λj h1 h2=>by
 have HV:j<dE.length:=by simpa using h1
 have Li:j<mD.length:=by simpa using h2
 have g1:xs[j]? =some (xs[j]'(by rw[r1.length];exact HV)):=ah _
 have g2:ys[j]? =some (ys[j]'(by rw[r2.length];exact Li)):=ah _
 obtain⟨u1,q1,k1⟩:=r1.get g1;obtain⟨u2,q2,k2⟩:=r2.get g2;obtain⟨d1,e1,i1⟩:=l1.get' g1;obtain⟨d2,e2,i2⟩:=l2.get' g2;have w1:dE.toArray[j]=u1:=by
  rw[ah HV]at q1
  simpa using aS q1
 have w2:mD.toArray[j]=u2:=by
  rw[ah Li]at q2
  simpa using aS q2
 rw[w1,w2,ak,ak,e1,e2];unfold eV at hn;exact ih (aD (lT (bh e1)) (by omega)) i1 i2 k1 k2
def Nw (I:Inv X cM σ H s) (sub:eE C H) (ih:QZ C s A.in1 n) (hd:eV d<=n+1) (hu:A.units<cLine) (iv:Is C v d) (iw:Is C w e) (ru:RelV v u) (rz:RelV w z):SeqAt.RcAt A s u z (jJ d e):=by
 cases Cv I sub iv ru<;>cases Cv I sub iw rz<;>unfold jJ<;>try (with_reducible first|exact .none_none|exact .none_bool _|exact .none_int _ _|exact .none_str _ _|exact .none_tuple ‹_› ‹_› |exact .none_list ‹_› ‹_› |exact .bool_none _|exact .bool_bool _ _|exact .bool_int _ _ _|exact .bool_str _ _ _|exact .bool_tuple _ ‹_› ‹_› |exact .bool_list _ ‹_› ‹_› |exact .int_none _ _|exact .int_bool _ _ _|exact .int_int _ _ _ _|exact .int_str _ _ _ _|exact .int_tuple _ _ ‹_› ‹_› |exact .int_list _ _ ‹_› ‹_› |exact .str_none _ _|exact .str_bool _ _ _|exact .str_int _ _ _ _|exact .str_str _ _ _ _|exact .str_tuple _ _ ‹_› ‹_› |exact .str_list _ _ ‹_› ‹_› |exact .tuple_none ‹_› ‹_› |exact .tuple_bool _ ‹_› ‹_› |exact .tuple_int _ _ ‹_› ‹_› |exact .tuple_str _ _ ‹_› ‹_› |exact .tuple_list ‹_› ‹_› ‹_› |exact .list_none ‹_› ‹_› |exact .list_bool _ ‹_› ‹_› |exact .list_int _ _ ‹_› ‹_› |exact .list_str _ _ ‹_› ‹_› |exact .list_tuple ‹_› ‹_› ‹_›)
 ·obtain⟨dE,xs,_,p1,e1,l,r1⟩:=wX I sub iv ru;obtain⟨mD,ys,_,p2,e2,l2,r2⟩:=wX I sub iw rz;have q:=SeqAt.RcAt.tuples p1 p2 hu (vp ih hd l l2 r1 r2);rw[e1,e2]at q;rw[oW];exact q
 ·obtain⟨dE,xs,_,p1,e1,l,r1⟩:=wY I sub iv ru;obtain⟨mD,ys,_,p2,e2,l2,r2⟩:=wY I sub iw rz;rw[oW];by_cases hl:dE.toArray.size=mD.toArray.size
  ·have q:=SeqAt.RcAt.lists p1 p2 hl hu (vp ih hd l l2 r1 r2);rw[<-e1,<-e2,<-hl,Nat.min_self,bM,Bool.and_true];exact q
  ·have q:=SeqAt.RcAt.lists_lengths p1 p2 (by simpa using hl) hu
   rw[<-e1,<-e2,beq_false_of_ne hl,Bool.and_false];exact q
end
theorem DR (I:Inv X cM σ H s) (sub:eE C H):∀(n:Nat) (A:cE),A.units+n<cLine->QZ C s A n
 |n,A,hu,d,e,v,w,u,z,hd,iv,iw,ru,rz=>by
  have Nx:A.units<cLine:=by omega
  have step:∀{a b:cG},1<=eV d->(v=.ref a->w=.ref a->d=e)->u=.ref a->z=.ref b->v=.ref a->w=.ref b->SeqAt.EqAt A s u z (jJ d e):=λ{a b} h1 hj e1 e2 e3 e4=>by
   cases n with
   |zero=>omega
   |succ n=>
    subst e1 e2;by_cases Qi:a=b
    ·subst Qi;rw[<-hj e3 e4,vo];exact .same _
    ·exact .of_refs Qi (Nw I sub (DR I sub n A.in1 (by show A.units+1+n<cLine;omega)) hd Nx iv iw ru rz)
  cases Cv I sub iv ru<;>cases Cv I sub iw rz<;>try (unfold jJ;first|(with_reducible first|exact .none_none|exact .none_bool _|exact .none_int _ _|exact .none_str _ _|exact .none_tuple ‹_› ‹_› |exact .none_list ‹_› ‹_› |exact .bool_none _|exact .bool_bool _ _|exact .bool_int _ _ _|exact .bool_str _ _ _|exact .bool_tuple _ ‹_› ‹_› |exact .bool_list _ ‹_› ‹_› |exact .int_none _ _|exact .int_bool _ _ _|exact .int_int _ _ _ _|exact .int_str _ _ _ _|exact .int_tuple _ _ ‹_› ‹_› |exact .int_list _ _ ‹_› ‹_› |exact .str_none _ _|exact .str_bool _ _ _|exact .str_int _ _ _ _|exact .str_str _ _ _ _|exact .str_tuple _ _ ‹_› ‹_› |exact .str_list _ _ ‹_› ‹_› |exact .tuple_none ‹_› ‹_› |exact .tuple_bool _ ‹_› ‹_› |exact .tuple_int _ _ ‹_› ‹_› |exact .tuple_str _ _ ‹_› ‹_› |exact .tuple_list ‹_› ‹_› ‹_› |exact .list_none ‹_› ‹_› |exact .list_bool _ ‹_› ‹_› |exact .list_int _ _ ‹_› ‹_› |exact .list_str _ _ ‹_› ‹_› |exact .list_tuple ‹_› ‹_› ‹_›)|with_reducible exact .same _)
  ·obtain⟨_,_,e1,_⟩:=wX I sub iv ru;obtain⟨_,_,e2,_⟩:=wX I sub iw rz;exact step (by unfold eV;omega) (λh1 h2=>by rw[h1]at iv;rw[h2]at iw;exact Is.inj iv iw) rfl rfl e1 e2
  ·obtain⟨_,_,e1,_⟩:=wY I sub iv ru;obtain⟨_,_,e2,_⟩:=wY I sub iw rz;exact step (by unfold eV;omega) (λh1 h2=>by rw[h1]at iv;rw[h2]at iw;exact Is.inj iv iw) rfl rfl e1 e2
section
variable {A:cE}{d e:D}{v w:V}{u z:cy}
def Uq (I:Inv X cM σ H s) (sub:eE C H) (hd:eV d<=30) (hu:A.units+40<cLine) (iv:Is C v d) (iw:Is C w e) (ru:RelV v u) (rz:RelV w z):SeqAt.RcAt A s u z (jJ d e):=
 Nw I sub (DR I sub 30 A.in1 (by show A.units+1+30<cLine;omega)) (by omega) (by omega) iv iw ru rz
def Ur (I:Inv X cM σ H s) (sub:eE C H) (hd:eV d<=30) (hu:A.units+40<cLine) (iv:Is C v d) (iw:Is C w e) (ru:RelV v u) (rz:RelV w z):SeqAt.RcNeAt A s u z (!(jJ d e)):=by
 have ih:QZ C s A.in1 30:=DR I sub 30 A.in1 (by show A.units+1+30<cLine;omega)
 have Nx:A.units<cLine:=by omega
 cases Cv I sub iv ru<;>cases Cv I sub iw rz<;>unfold jJ<;>(try simp only[Bool.not_false,bS])<;>try (with_reducible first|exact .none_none|exact .none_bool _|exact .none_int _ _|exact .none_str _ _|exact .none_tuple ‹_› ‹_› |exact .none_list ‹_› ‹_› |exact .bool_none _|exact .bool_bool _ _|exact .bool_int _ _ _|exact .bool_str _ _ _|exact .bool_tuple _ ‹_› ‹_› |exact .bool_list _ ‹_› ‹_› |exact .int_none _ _|exact .int_bool _ _ _|exact .int_int _ _ _ _|exact .int_str _ _ _ _|exact .int_tuple _ _ ‹_› ‹_› |exact .int_list _ _ ‹_› ‹_› |exact .str_none _ _|exact .str_bool _ _ _|exact .str_int _ _ _ _|exact .str_str _ _ _ _|exact .str_tuple _ _ ‹_› ‹_› |exact .str_list _ _ ‹_› ‹_› |exact .tuple_none ‹_› ‹_› |exact .tuple_bool _ ‹_› ‹_› |exact .tuple_int _ _ ‹_› ‹_› |exact .tuple_str _ _ ‹_› ‹_› |exact .tuple_list ‹_› ‹_› ‹_› |exact .list_none ‹_› ‹_› |exact .list_bool _ ‹_› ‹_› |exact .list_int _ _ ‹_› ‹_› |exact .list_str _ _ ‹_› ‹_› |exact .list_tuple ‹_› ‹_› ‹_›)
 ·obtain⟨dE,xs,_,p1,e1,l,r1⟩:=wX I sub iv ru;obtain⟨mD,ys,_,p2,e2,l2,r2⟩:=wX I sub iw rz;have q:=SeqAt.RcNeAt.tuples p1 p2 Nx (vp ih (by omega) l l2 r1 r2)
  rw[e1,e2]at q;rw[oW];exact q
 ·obtain⟨dE,xs,_,p1,e1,l,r1⟩:=wY I sub iv ru;obtain⟨mD,ys,_,p2,e2,l2,r2⟩:=wY I sub iw rz;rw[oW];by_cases hl:dE.toArray.size=mD.toArray.size
  ·have q:=SeqAt.RcNeAt.lists p1 p2 hl Nx (vp ih (Nat.le_succ_of_le hd) l l2 r1 r2);rw[<-e1,<-e2,<-hl,Nat.min_self,bM,Bool.and_true];exact q
  ·have q:=SeqAt.RcNeAt.lists_lengths p1 p2 (by simpa using hl) Nx
   rw[<-e1,<-e2,beq_false_of_ne hl,Bool.and_false];exact q
end
end
variable [Mem]
def pL.list {K:W.Frag}{C H:Hp}{v:V}{ds:cw}(s:eE C H) (h:pL C H v (.lst ds)):∃a xs,v=.ref a/\rD K H a xs/\IsL C xs ds:=by
 rcases h with h|⟨a,xs,es,h1,h2,h3,h4,h5⟩
 ·cases h with
  |lst h l=>exact⟨_,_,rfl,.inl (h.same s),l⟩
 ·cases h2;exact⟨a,xs,h1,rD.of h4,h5⟩
theorem pL.tup {K:W.Frag}{C H:Hp}{v:V}{ds:cw}(s:eE C H) (h:pL C H v (.tup ds)):∃a xs,v=.ref a/\mB K H a xs/\IsL C xs ds/\C a=some (.tup xs):=by
 rcases h with h|⟨a,xs,es,h1,h2,_⟩
 ·cases h with
  |tup h l=>exact⟨_,_,rfl,mB.of (s _ _ h),l,h⟩
 ·cases h2
theorem IsL.mE (l:IsL C xs ds) (h:mE ds i=some d):∃v,L2.mE xs i=some v/\Is C v d:=by
 unfold L2.mE at h ⊢;rw[l.length];cases hk:E6 ds.length i with
 |none=>rw[hk]at h;cases h
 |some j=>
  rw[hk]at h;exact l.get h
def gK:D->D->Option D
 |.lst ds,.int i=>mE ds i
 |.tup ds,.int i=>mE ds i
 |.str z,.int i=>if z.length<=1000000 then(mE z.cps.toList i).map λc=>.str ⟨#[c]⟩else none
 |_,_=>none
section
variable {X:Cx}{a b c e o:cH}{f g h:bZ}
def W9:Qh (rIx X.K) gK:=λC H x y dx dy d Q s ix iy q k=>by
 unfold gK at q;split at q
 ·rename_i ds i;obtain⟨p,xs,rfl,hq,l⟩:=ix.list (K:=X.K) s;obtain⟨v,h1,h2⟩:=l.mE q;exact .inl ⟨p,xs,i,v,rfl,iy.int,hq,h1,k v C H (.refl s) h2⟩
 ·rename_i ds i;obtain⟨p,xs,rfl,hq,l,_⟩:=ix.tup (K:=X.K) s;obtain⟨v,h1,h2⟩:=l.mE q;exact .inr (.inl ⟨p,xs,i,v,rfl,iy.int,hq,h1,k v C H (.refl s) h2⟩)
 ·rename_i z i;split at q
  ·rename_i hz;cases hc:mE z.cps.toList i with
   |none=>rw[hc]at q;cases q
   |some c=>
    rw[hc]at q;cases q;have:=ix.is (λ_ z=>by cases z)
    cases this;exact .inr (.inr ⟨z,i,c,rfl,iy.int,aD hz (by decide),hc,k _ C H (.refl s) (.str _)⟩)
  ·cases q
 ·cases q
def nS (d e:D):Option D:=if eV d<=30 then some (.bl (jJ d e))else none
def pL.both (h:pL C H v d):∃C',eE C C'/\(eE C H->eE C' H)/\Is C' v d:=by
 rcases h with h|⟨a,xs,ds,rfl,rfl,h3,h4,h5⟩
 ·exact⟨C,eE.refl _,id,h⟩
 ·refine⟨upd C a (.lst xs),fu h3,λs b u q=>?_,.lst (.inl dh) (h5.mono (fu h3))⟩
  by_cases e:b=a
  ·subst e;rw[dh]at q;cases q;exact h4
  ·rw[dg e]at q;exact s b u q
def pL.two {C H:Hp}{v w:V}{d e:D}(s:eE C H) (h:pL C H v d) (h':pL C H w e):∃C',eE C' H/\Is C' v d/\Is C' w e:=by
 obtain⟨C1,a1,b1,i1⟩:=h.both;have s1:=b1 s;rcases h' with h'|⟨a,xs,ds,rfl,rfl,h3,h4,h5⟩
 ·exact⟨C1,s1,i1,h'.mono a1⟩
 ·cases q:C1 a with
  |none=>
   refine⟨upd C1 a (.lst xs),λb u z=>?_,i1.mono (fu q),.lst (.inl dh) ((h5.mono a1).mono (fu q))⟩
   by_cases e:b=a
   ·subst e;rw[dh]at z;cases z;exact h4
   ·rw[dg e]at z;exact s1 b u z
  |some u=>
   have:=s1 a u q;rw[h4]at this;cases this;exact⟨C1,s1,i1,.lst (.inl q) (h5.mono a1)⟩
def rq (hu:X.A.units+64<cLine):vm X .Eq nS:=by
 refine⟨λx y H Q=>∃C dx dy,eE C H/\Is C x dx/\Is C y dy/\eV dx<=30/\Q (.bl (jJ dx dy)) H,?_,?_⟩
 ·rintro cM s σ H x y v u Q I rx ry ⟨C,dx,dy,sub,ix,iy,hd,q⟩
  have fin:EP X cM σ Q (.bool (jJ dx dy)) s:=⟨.bl _,H,I,rfl,q⟩;exact Uq I sub hd (by omega) ix iy rx ry X.prog X.w _ _ fin
 ·intro C H x y dx dy d Q s ix iy q k;unfold nS at q;split at q
  ·rename_i hd;cases q;obtain⟨C',s',i1,i2⟩:=pL.two s ix iy;exact⟨C',dx,dy,s',i1,i2,hd,k _ C H (.refl s) (.bl _)⟩
  ·cases q
def rP (d e:D):Option D:=if eV d<=30 then some (.bl (!(jJ d e)))else none
def uM (hu:X.A.units+64<cLine):vm X .NotEq rP:=by
 refine⟨λx y H Q=>∃C dx dy,eE C H/\Is C x dx/\Is C y dy/\eV dx<=30/\Q (.bl (!(jJ dx dy))) H,?_,?_⟩
 ·rintro cM s σ H x y v u Q I rx ry ⟨C,dx,dy,sub,ix,iy,hd,q⟩
  have fin:EP X cM σ Q (.bool (!(jJ dx dy))) s:=⟨.bl _,H,I,rfl,q⟩;exact Ur I sub hd (by omega) ix iy rx ry X.prog X.w _ _ fin
 ·intro C H x y dx dy d Q s ix iy q k;unfold rP at q;split at q
  ·rename_i hd;cases q;obtain⟨C',s',i1,i2⟩:=pL.two s ix iy;exact⟨C',dx,dy,s',i1,i2,hd,k _ C H (.refl s) (.bl _)⟩
  ·cases q
noncomputable def uc:D->Option (cw)
 |.lst ds=>some ds
 |.tup ds=>some ds
 |_=>none
def memD (d:D) (ds:cw):Bool:=ds.any λe=>jJ e d
def uN (d e:D):Option D:=(uc e).bind λds=>if jO ds<=30 then some (.bl (memD d ds))else none
def vq (d e:D):Option D:=(uc e).bind λds=>if jO ds<=30 then some (.bl (!(memD d ds)))else none
def vr {cM:cj}{σ:L2.St}{C H:Hp}{s:cA}(I:Inv X cM σ H s) (sub:eE C H) {A:cE}(hu:A.units+31<cLine) {d:D}{w:V}{z:cy}(iw:Is C w d) (rz:RelV w z):
  ∀{xs:List V}{ds:cw}{dE:cx},jO ds<=30->IsL C xs ds->Vals xs dE->∃e:cy->Bool,(∀y∈dE,SeqAt.EqAt A.in1 s y z (e y))/\dE.any e=memD d ds:=λ{xs ds dE} hn l r=>by
 classical
 have one:∀{v:V}{u:cy}{c:D},c∈ds->Is C v c->RelV v u->SeqAt.EqAt A.in1 s u z (jJ c d):=λ{v u c} hc i ru=>
  DR I sub 30 A.in1 (by show A.units+1+30<cLine;omega) (aD (lT hc) hn) i iw ru rz
 let e:cy->Bool:=λu=>if h:∃v c,c∈ds/\Is C v c/\RelV v u then jJ h.choose_spec.choose d else false
 have he:∀{v u c},c∈ds->Is C v c->RelV v u->e u=jJ c d:=λ{v u c} hc i ru=>by
  have hx:∃v c,c∈ds/\Is C v c/\RelV v u:=⟨v,c,hc,i,ru⟩;show(if h:∃v c,c∈ds/\Is C v c/\RelV v u then jJ h.choose_spec.choose d else false)=_
  rw[dif_pos hx];obtain⟨h1,h2,h3⟩:=hx.choose_spec.choose_spec;have ev:hx.choose=v:=h3.inj ru;have ec:hx.choose_spec.choose=c:=by
   have Li:Is C v hx.choose_spec.choose:=by rw[<-ev];exact h2
   exact Li.inj i
  rw[ec]
 refine⟨e,λy hy=>?_,?_⟩
 ·obtain⟨j,hj,ej⟩:=getElem_of_mem hy;have g1:xs[j]? =some (xs[j]'(by rw[r.length];exact hj)):=ah _
  obtain⟨u1,q1,k1⟩:=r.get g1;obtain⟨c,e1,i1⟩:=l.get' g1;have hc:=bh e1;rw[ah hj]at q1;have eu:u1=y:=by rw[<-ej];exact(aS q1).symm
  subst eu;rw[he hc i1 k1];exact one hc i1 k1
 ·have aux:∀{xs:List V}{es:cw}{dE:cx},(∀c∈es,c∈ds)->IsL C xs es->Vals xs dE->dE.any e=es.any λc=>jJ c d:=by
   intro xs es dE hs l;induction es generalizing xs dE with
   |nil=>cases l;intro r;cases r;rfl
   |cons c es ih=>
    intro r;cases l with
    |cons i l=>
     cases r with
     |cons rr r=>
      rw[bF,bF,he (hs c af) i rr,ih (λc hc=>hs c (ai _ hc)) l r]
  exact aux (λc hc=>hc) l r
def Bw (hu:X.A.units+64<cLine):vm X .In uN:=by
 refine⟨λx y H Q=>∃C dx ds,eE C H/\Is C x dx/\(Is C y (.lst ds)\/Is C y (.tup ds))/\jO ds<=30/\Q (.bl (memD dx ds)) H,?_,?_⟩
 ·rintro cM s σ H x y v u Q I rx ry ⟨C,dx,ds,sub,ix,iy,hd,q⟩
  rcases iy with iy|iy
  ·cases iy with
   |lst h l=>
    cases ry;obtain⟨dE,r,pl,hz⟩:=I.list (.inl (h.same sub));obtain⟨e,h1,h2⟩:=vr I sub (A:=X.A) (by omega) ix rx hd l r
    refine SeqAt.in_listAt e pl.isList (λw hw=>h1 w (by simpa using hw)) ⟨.bl _,H,I,rfl,?_⟩
    rw[show dE.toArray.any e=dE.any e by simp,h2]
    exact q
  ·cases iy with
   |tup h l=>
    cases ry;obtain⟨dE,r,pl,hz⟩:=I.tuple (mB.of (K:=X.K) (sub _ _ h));obtain⟨e,h1,h2⟩:=vr I sub (A:=X.A) (by omega) ix rx hd l r
    refine SeqAt.in_tupleAt e pl (λw hw=>h1 w (by simpa using hw)) ⟨.bl _,H,I,rfl,?_⟩
    rw[show dE.toArray.any e=dE.any e by simp,h2]
    exact q
 ·intro C H x y dx dy d Q s ix iy q k;unfold uN at q;cases hs:uc dy with
  |none=>rw[hs]at q;cases q
  |some ds=>
   rw[hs]at q;simp only[ao]at q;split at q
   ·rename_i hd;cases q;obtain⟨C',s',i1,i2⟩:=pL.two s ix iy;refine⟨C',dx,ds,s',i1,?_,hd,k _ C H (.refl s) (.bl _)⟩;unfold uc at hs;split at hs
    ·cases hs;exact .inl i2
    ·cases hs;exact .inr i2
    ·cases hs
   ·cases q
def tG (hu:X.A.units+64<cLine):vm X .NotIn vq:=by
 refine⟨λx y H Q=>∃C dx ds,eE C H/\Is C x dx/\(Is C y (.lst ds)\/Is C y (.tup ds))/\jO ds<=30/\Q (.bl (!(memD dx ds))) H,?_,?_⟩
 ·rintro cM s σ H x y v u Q I rx ry ⟨C,dx,ds,sub,ix,iy,hd,q⟩
  rcases iy with iy|iy
  ·cases iy with
   |lst h l=>
    cases ry;obtain⟨dE,r,pl,hz⟩:=I.list (.inl (h.same sub));obtain⟨e,h1,h2⟩:=vr I sub (A:=X.A) (by omega) ix rx hd l r
    refine SeqAt.notIn_listAt e pl.isList (λw hw=>h1 w (by simpa using hw)) ⟨.bl _,H,I,rfl,?_⟩
    rw[show dE.toArray.any e=dE.any e by simp,h2]
    exact q
  ·cases iy with
   |tup h l=>
    cases ry;obtain⟨dE,r,pl,hz⟩:=I.tuple (mB.of (K:=X.K) (sub _ _ h));obtain⟨e,h1,h2⟩:=vr I sub (A:=X.A) (by omega) ix rx hd l r
    refine SeqAt.notIn_tupleAt e pl (λw hw=>h1 w (by simpa using hw)) ⟨.bl _,H,I,rfl,?_⟩
    rw[show dE.toArray.any e=dE.any e by simp,h2]
    exact q
 ·intro C H x y dx dy d Q s ix iy q k;unfold vq at q;cases hs:uc dy with
  |none=>rw[hs]at q;cases q
  |some ds=>
   rw[hs]at q;simp only[ao]at q;split at q
   ·rename_i hd;cases q;obtain⟨C',s',i1,i2⟩:=pL.two s ix iy;refine⟨C',dx,ds,s',i1,?_,hd,k _ C H (.refl s) (.bl _)⟩;unfold uc at hs;split at hs
    ·cases hs;exact .inl i2
    ·cases hs;exact .inr i2
    ·cases hs
   ·cases q
noncomputable def VL:D->D->Option Bool
 |.eU,.eU=>some true
 |.bl a,.bl b=>some (a==b)
 |.bl _,.eU=>some false
 |.int _,.eU=>some false
 |.str _,.eU=>some false
 |.tup _,.eU=>some false
 |.lst _,.eU=>some false
 |.eU,.bl _=>some false
 |_,_=>none
def YF (d e:D):Option D:=(VL d e).map .bl
def HZ (d e:D):Option D:=(VL d e).map λb=>.bl (!b)
def Sy {C H:Hp}{x y:V}{dx dy:D}{b:Bool}(ix:pL C H x dx) (iy:pL C H y dy) (h:VL dx dy=some b):
  (∃p q,x=.bl p/\y=.bl q/\b=(p==q))\/(y=.eU/\b=decide (x=.eU))\/(x=.eU/\(∃q,y=.bl q)/\b=false):=by
 unfold VL at h;split at h
 ·cases h;have:=ix.is (λ_ z=>by cases z);cases this
  have:=iy.is (λ_ z=>by cases z);cases this
  exact .inr (.inl ⟨rfl,by simp⟩)
 ·rename_i p q;cases h;have:=ix.is (λ_ z=>by cases z);cases this
  have:=iy.is (λ_ z=>by cases z);cases this
  exact .inl ⟨p,q,rfl,rfl,rfl⟩
 ·cases h;have:=ix.is (λ_ z=>by cases z);cases this
  have:=iy.is (λ_ z=>by cases z);cases this
  exact .inr (.inl ⟨rfl,by simp⟩)
 ·cases h;have:=ix.is (λ_ z=>by cases z);cases this
  have:=iy.is (λ_ z=>by cases z);cases this
  exact .inr (.inl ⟨rfl,by simp⟩)
 ·cases h;have:=ix.is (λ_ z=>by cases z);cases this
  have:=iy.is (λ_ z=>by cases z);cases this
  exact .inr (.inl ⟨rfl,by simp⟩)
 ·cases h;have:=ix.is (λ_ z=>by cases z);cases this
  have:=iy.is (λ_ z=>by cases z);cases this
  exact .inr (.inl ⟨rfl,by simp⟩)
 ·cases h;have:=iy.is (λ_ z=>by cases z);cases this
  rcases ix with ix|⟨a,xs,ds,rfl,_⟩
  ·cases ix;exact .inr (.inl ⟨rfl,by simp⟩)
  ·exact .inr (.inl ⟨rfl,by simp⟩)
 ·rename_i q;cases h;have:=ix.is (λ_ z=>by cases z);cases this
  have:=iy.is (λ_ z=>by cases z);cases this
  exact .inr (.inr ⟨rfl,⟨q,rfl⟩,rfl⟩)
 ·cases h
def Xa:vm X .Is YF:=by
 refine⟨λx y H Q=>∃b,((∃p q,x=.bl p/\y=.bl q/\b=(p==q))\/(y=.eU/\b=decide (x=.eU))\/(x=.eU/\(∃q,y=.bl q)/\b=false))/\Q (.bl b) H,?_,?_⟩
 ·rintro cM s σ H x y v u Q I rx ry ⟨b,h,q⟩
  rcases h with⟨p,p',rfl,rfl,rfl⟩|⟨rfl,rfl⟩|⟨rfl,⟨p,rfl⟩,rfl⟩
  ·cases rx;cases ry;exact is_bool ⟨.bl _,H,I,rfl,q⟩
  ·exact TK cM s σ H x .eU v u Q I rx ry ⟨rfl,q⟩
  ·cases rx;cases ry;exact wpAny_is_other (by rfl) (by intro z;cases z) ⟨.bl _,H,I,rfl,q⟩
 ·intro C H x y dx dy d Q s ix iy q k;unfold YF at q;cases hb:VL dx dy with
  |none=>rw[hb]at q;cases q
  |some b=>rw[hb]at q;cases q;exact⟨b,Sy ix iy hb,k _ C H (.refl s) (.bl b)⟩
def yH:vm X .IsNot HZ:=by
 refine⟨λx y H Q=>∃b,((∃p q,x=.bl p/\y=.bl q/\b=(p==q))\/(y=.eU/\b=decide (x=.eU))\/(x=.eU/\(∃q,y=.bl q)/\b=false))/\Q (.bl (!b)) H,?_,?_⟩
 ·rintro cM s σ H x y v u Q I rx ry ⟨b,h,q⟩
  rcases h with⟨p,p',rfl,rfl,rfl⟩|⟨rfl,rfl⟩|⟨rfl,⟨p,rfl⟩,rfl⟩
  ·cases rx;cases ry;exact isnot_bool ⟨.bl _,H,I,rfl,q⟩
  ·exact Qt cM s σ H x .eU v u Q I rx ry ⟨rfl,q⟩
  ·cases rx;cases ry;exact wpAny_isNot_other (by rfl) (by intro z;cases z) ⟨.bl _,H,I,rfl,q⟩
 ·intro C H x y dx dy d Q s ix iy q k;unfold HZ at q;cases hb:VL dx dy with
  |none=>rw[hb]at q;cases q
  |some b=>rw[hb]at q;cases q;exact⟨b,Sy ix iy hb,k _ C H (.refl s) (.bl _)⟩
noncomputable def intsOf:cw->Option (cp)
 |[]=>some []
 |.int i::r=>(intsOf r).map λns=>i::ns
 |_=>none
omit [Mem] in
theorem jz:∀{ds:cw}{ns:cp},intsOf ds=some ns->ds=ns.map D.int
 |[],_,h=>by cases h;rfl
 |.int i::r,ns,h=>by
  unfold intsOf at h;cases hr:intsOf r with
  |none=>rw[hr]at h;cases h
  |some ms=>rw[hr]at h;cases h;rw[jz hr];rfl
omit [Mem] in
def jc (ns:cp):intsOf (ns.map D.int)=some ns:=by
 induction ns with
 |nil=>rfl
 |cons n r ih=>show(intsOf (r.map D.int)).map _=_;rw[ih];rfl
def Lm:D->D->Option D
 |.int i,.int j=>some (.bl (decide (i<j)))
 |.tup a,.tup b=>(intsOf a).bind λns=>(intsOf b).map λms=>.bl (HT.lexLt ns ms)
 |_,_=>none
def JU (hu:X.A.units+64<cLine):vm X .Lt Lm:=by
 refine⟨_,Wf.or (TY (by omega)),?_⟩
 intro C H x y dx dy d Q s ix iy q k;unfold Lm at q;split at q
 ·rename_i i j;cases q;exact .inl ⟨i,j,ix.int,iy.int,k _ C H (.refl s) (.bl _)⟩
 ·rename_i a b;cases ha:intsOf a with
  |none=>rw[ha]at q;cases q
  |some ns=>
   cases hb:intsOf b with
   |none=>rw[ha,hb]at q;cases q
   |some ms=>
    rw[ha,hb]at q;cases q;obtain⟨p,xs,rfl,h1,l1,_⟩:=ix.tup (K:=X.K) s;obtain⟨p',ys,rfl,h2,l2,_⟩:=iy.tup (K:=X.K) s;rw[jz ha]at l1;rw[jz hb]at l2;cases l1.lE;cases l2.lE;exact .inr ⟨p,p',ns,ms,rfl,rfl,h1,h2,k _ C H (.refl s) (.bl _)⟩
 ·cases q
noncomputable def Q0 (f:bZ):bZ:=λδ=>match f δ with|some (.int i)=>some (.int (-i))|_=>none
def Ny {r r':R2}{o o':D->D->Option D}(h1:Qh r o) (h2:Qh r' o'):∀σ H Q,tD (zp o o' f g h) σ H Q->MM r r' (tO f) (tO g) (tO h) σ H Q:=λσ H Q ⟨C,δ,d,x,q,k⟩=>by
 unfold zp at q;cases hf:f δ with
 |none=>rw[hf]at q;cases q
 |some dx=>
  cases hg:g δ with
  |none=>rw[hf,hg]at q;cases q
  |some dy=>
   rw[hf,hg]at q;simp only[ao]at q;refine⟨C,δ,dx,x,hf,λv C1 H1 e1 i1=>⟨C1,δ,dy,x.ev e1,hg,λu C2 H2 e2 i2=>?_⟩⟩
   split at q
   ·rename_i ho;refine h1 C2 H2 v u dx dy _ _ e2.s (i1.ev e2) i2 ho λz C3 H3 e3 i3=>?_
    cases i3;refine⟨true,rfl,yp ?_⟩;cases hh:h δ with
    |none=>rw[hh]at q;cases q
    |some dz=>
     rw[hh]at q;exact⟨C3,δ,dz,x.ev ((e1.trans e2).trans e3.up),hh,λz' C4 H4 e4 i4=>h2 C4 H4 u z' dy dz d Q e4.s ((i2.ev e3.up).ev e4) i4 q λw C5 H5 e5 i5=>k w C5 H5 ((((e1.trans e2).trans e3.up).trans e4).trans e5.up) i5⟩
   ·rename_i ho;cases q;refine h1 C2 H2 v u dx dy _ _ e2.s (i1.ev e2) i2 ho λz C3 H3 e3 i3=>?_
    cases i3;exact⟨false,rfl,Br (k _ C3 H3 ((e1.trans e2).trans e3.up) (.bl _))⟩
   ·cases q
noncomputable def hX:cc
 |[.lst ds]=>some (.int ds.length)
 |[.tup ds]=>some (.int ds.length)
 |[.str z]=>if z.length<=1000000 then some (.int z.length)else none
 |_=>none
def Bu.one (h:Bu C H vs [d]):∃v,vs=[v]/\pL C H v d:=by
 cases h with|cons h t=>cases t;exact⟨_,rfl,h⟩
def Bu.two {C H:Hp}{vs:List V}{d e:D}(h:Bu C H vs [d,e]):∃v w,vs=[v,w]/\pL C H v d/\pL C H w e:=by
 cases h with|cons h t=>cases t with|cons h2 t=>cases t;exact⟨_,_,rfl,h,h2⟩
def lU:xR X (.builtin "len") hX:=by
 refine⟨_,DG.or DH,?_⟩;intro C H vs ds d Q s i q k;unfold hX at q;split at q
 ·cases q;obtain⟨v,rfl,j⟩:=i.one;obtain⟨p,xs,rfl,hq,l⟩:=j.list (K:=X.K) s;exact .inl ⟨p,xs,rfl,.inl hq,by rw[l.length];exact k _ C H (.refl s) (.int _)⟩
 ·cases q;obtain⟨v,rfl,j⟩:=i.one;obtain⟨p,xs,rfl,hq,l,_⟩:=j.tup (K:=X.K) s;exact .inl ⟨p,xs,rfl,.inr hq,by rw[l.length];exact k _ C H (.refl s) (.int _)⟩
 ·split at q
  ·rename_i hz;cases q;obtain⟨v,rfl,j⟩:=i.one;have:=j.is (λ_ z=>by cases z);cases this
   exact .inr ⟨_,rfl,aD hz (by decide),k _ C H (.refl s) (.int _)⟩
  ·cases q
 ·cases q
noncomputable def i7:cc
 |[.lst ds]=>some (.tup ds)
 |[.tup ds]=>some (.tup ds)
 |_=>none
def gq:xR X (.type "tuple") i7:=by
 refine⟨_,Bq,?_⟩;intro C H vs ds d Q s i q k;unfold i7 at q;split at q
 ·cases q;obtain⟨v,rfl,j⟩:=i.one;obtain⟨p,xs,rfl,hq,l⟩:=j.list (K:=X.K) s;exact⟨p,xs,rfl,.inl ⟨hq,λt ht=>k _ _ _ (.new s ht) (.tup dh (l.mono (fu (s.free ht))))⟩⟩
 ·cases q;obtain⟨v,rfl,j⟩:=i.one;obtain⟨p,xs,rfl,hq,l,hc⟩:=j.tup (K:=X.K) s;exact⟨p,xs,rfl,.inr ⟨hq,k _ C H (.refl s) (.tup hc l)⟩⟩
 ·cases q
noncomputable def zr:cw->Option (cw)
 |[.lst ds]=>some ds
 |[.tup ds]=>some ds
 |_=>none
def Ia:Ct X (.type "list") zr:=by
 refine⟨_,DI,?_⟩;intro C H vs ds d Q s i q k;unfold zr at q;split at q
 ·cases q;obtain⟨v,rfl,j⟩:=i.one;obtain⟨p,xs,rfl,hq,l⟩:=j.list (K:=X.K) s;exact⟨p,xs,rfl,.inl hq,λt ht=>k t xs C _ (.gm s ht) ht (s.free ht) dh l⟩
 ·cases q;obtain⟨v,rfl,j⟩:=i.one;obtain⟨p,xs,rfl,hq,l,hc⟩:=j.tup (K:=X.K) s;exact⟨p,xs,rfl,.inr hq,λt ht=>k t xs C _ (.gm s ht) ht (s.free ht) dh l⟩
 ·cases q
noncomputable def zt:cc
 |[.int i,.int j]=>some (.int (if j<i then j else i))
 |_=>none
def Nz (hc:X.calm=true):xR X (.builtin "min") zt:=by
 refine⟨_,K2 hc,?_⟩;intro C H vs ds d Q s i q k;unfold zt at q;split at q
 ·rename_i i' j';cases q;obtain⟨v,w,rfl,i1,i2⟩:=i.two;exact⟨i',j',by rw[i1.int,i2.int],k _ C H (.refl s) (.int _)⟩
 ·cases q
noncomputable def wZ:D->D->Option (cw)
 |.lst a,.lst b=>if a.length+b.length<=1000000 then some (a++b)else none
 |_,_=>none
end
end DL
namespace DL
open L2
variable [Mem]
omit [Mem] in
def eX:bootBuiltins "tuple"=some (.type "tuple"):=by decide +kernel
omit [Mem] in
def yI:bootBuiltins "list"=some (.type "list"):=by decide +kernel
omit [Mem] in
def Us:bootBuiltins "int"=some (.type "int"):=by decide +kernel
omit [Mem] in
def DS:bootBuiltins "bool"=some (.type "bool"):=by decide +kernel
omit [Mem] in
def iG:bootBuiltins "len"=some (.builtin "len"):=by decide +kernel
omit [Mem] in
def w4:bootBuiltins "all"=some (.builtin "all"):=by decide +kernel
omit [Mem] in
def zu:bootBuiltins "min"=some (.builtin "min"):=by decide +kernel
omit [Mem] in
def gA:bootBuiltins "sorted"=some (.builtin "sorted"):=by decide +kernel
omit [Mem] in
def Bx:bootBuiltins "isinstance"=some (.builtin "isinstance"):=by decide +kernel
def pL.Sz (s:eE C H) (h:pL C H v (.lst ds)):∃a xs,v=.ref a/\Rd H a (.lst xs)/\IsL C xs ds:=by
 rcases h with h|⟨a,xs,es,h1,h2,h3,h4,h5⟩
 ·cases h with
  |lst h l=>exact⟨_,_,rfl,h.same s,l⟩
 ·cases h2;exact⟨a,xs,h1,.inl h4,h5⟩
section
variable {X:Cx}{a b e o:cH}{pos p p2:Pos}{f h:bZ}
def Q1:tX X (binaryOp .Add) (λx y H Q=>∃l b xs zs,x=.ref l/\y=.ref b/\Rd H l (.lst xs)/\Rd H b (.lst zs)/\xs.length+zs.length<=sizeLine/\∀p,H p=none->Q (.ref p) (upd H p (.lst (xs++zs)))):=by
 intro cM s σ H x y v u Q I rx ry h;obtain⟨l,b,xs,zs,rfl,rfl,hH,hB,hz,q⟩:=h;cases rx;cases ry;obtain⟨z,dE,n,r,e⟩:=hH.ok I.gk;obtain⟨z2,mD,n2,r2,e2⟩:=hB.ok I.gk;have l1:=r.length;have l2:=r2.length;refine PySem.P.add_list e e2 ?_ (by rw[aq,aq];omega)
 have ea:dE.toArray++mD.toArray=(dE++mD).toArray:=by simp
 rw[ea];exact⟨.ref _,_,I.Zw (t':=s.toks) (r.append r2) (by rw[aQ];omega),rfl,q _ I.fresh⟩
def Q2:ZE (λx y H Q=>∃l b xs zs,x=.ref l/\y=.ref b/\Rd H l (.lst xs)/\Rd H b (.lst zs)/\xs.length+zs.length<=sizeLine/\∀p,H p=none->Q (.ref p) (upd H p (.lst (xs++zs)))) wZ:=λC H x y dx dy ds Q s ix iy q k=>by
 unfold wZ at q;split at q
 ·split at q
  ·rename_i hz;cases q;obtain⟨p1,xs,rfl,h1,l1⟩:=ix.Sz s;obtain⟨p2,ys,rfl,h2,l2⟩:=iy.Sz s;exact⟨p1,p2,xs,ys,rfl,rfl,h1,h2,by rw[l1.length,l2.length];exact aD hz (by decide),λt ht=>k t _ C _ (.gm s ht) ht (s.free ht) dh (l1.append l2)⟩
  ·cases q
 ·cases q
def uO (ds:cw) (lo hi:Option Int):cw:=(ds.drop (HT.i8 ds.length 0 lo)).take (HT.i8 ds.length ds.length hi-HT.i8 ds.length 0 lo)
noncomputable def Mp:gh->Option (Option Int):=λ_=>some none
noncomputable def uP (f:bZ):gh->Option (Option Int):=λδ=>match f δ with|some (.int i)=>some (some i)|_=>none
noncomputable def tP (f:gh->Option (Option Int)):TO:=λσ H Q=>∃C δ o,Sx δ σ C H/\f δ=some o/\∀C' H',Ev C H C' H'->Q o H'
omit [Mem] in
def _root_.L2.PO.imp {X:Cx}{e:Option cH}{t t':TO}(h:L2.PO X e t) (m:∀σ H Q,t' σ H Q->t σ H Q):L2.PO X e t':=λcM s σ H Q I q=>h cM s σ H Q I (m σ H Q q)
def Ib (f:bZ) (lo hi:gh->Option (Option Int)):bX:=λδ=>match f δ with
 |some (.lst ds)=>(lo δ).bind λl=>(hi δ).map λu=>uO ds l u
 |_=>none
def IsL.cut (l:IsL C xs ds) (lo hi:Option Int):IsL C (Fj xs lo hi) (uO ds lo hi):=by
 unfold Fj uO;rw[l.length];exact(l.drop _).take _
noncomputable def NA:D->String
 |.eU=>"NoneType"
 |.bl _=>"bool"
 |.int _=>"int"
 |.str _=>"str"
 |.tup _=>"tuple"
 |.lst _=>"list"
def Xb (T:String):D->Bool
 |.bl _=>T=="bool"||T=="int"
 |d=>T==NA d
def NB (T:String):i9 X (.builtin "isinstance") (λxs H Q=>∃x t b,xs=[x,.ty T]/\ve X.K H x t/\W.kitOne X.K t (.type T)=some b/\Q (.bl b) H):=by
 intro cM s σ H xs us Q I r h;obtain⟨x,t,b,rfl,ty,e,q⟩:=h;obtain⟨u,w,rfl,r1,r2⟩:=vals2 r;cases r2;exact K5 I r1 ty e λtk=>⟨.bl b,H,I.tok tk,rfl,q⟩
def JV (T:String):Prop:=∀(K:W.Frag) (d:D),W.kitOne K (.type (NA d)) (.type T)=some (Xb T d)
omit [Mem] in
def Q3:JV "int":=λK d=>by cases d<;>rfl
omit [Mem] in
def zv:JV "bool":=λK d=>by cases d<;>rfl
omit [Mem] in
def kit_tuple:JV "tuple":=λK d=>by cases d<;>rfl
def Ut {K:W.Frag}{C H:Hp}{v:V}{d:D}(s:eE C H) (h:pL C H v d):ve K H v (.type (NA d)):=by
 rcases h with h|⟨a,xs,ds,rfl,rfl,_,h4,_⟩
 ·cases h with
  |eU=>exact .eU
  |bl b=>exact .bl b
  |int i=>exact .int i
  |str x=>exact .str x
  |tup h l=>exact .tup (s _ _ h)
  |lst h l=>
   rcases h with h|⟨o,h⟩
   ·exact .lst (s _ _ h)
   ·exact .yT (s _ _ h)
 ·exact .lst h4
def w5 (T:String) (f:bZ):bZ:=λδ=>(f δ).map λd=>.bl (Xb T d)
omit [Mem] in
def gB {α:Type}(l:List α) (d:α):(List.range l.length).map (λi=>l.getD i d)=l:=by
 apply ext_getElem
 ·simp
 ·intro i h1 h2;simp[ak,ah h2]
def Fw (hc:X.calm=true):i9 X (.builtin "all") (λxs H Q=>∃(p:cG) (bs:List Bool),xs=[.ref p]/\rD X.K H p (bs.map V.bl)/\Q (.bl (bs.all id)) H):=by
 intro cM s σ H xs us Q I r h;obtain⟨p,bs,rfl,hq,q⟩:=h;obtain⟨u,rfl,r1⟩:=vals1 r;cases r1;obtain⟨dE,rv,pl,hz⟩:=I.list hq;have fP:p<s.heap.objs.size:=by obtain⟨o,n,e,_⟩:=pl;exact aB e
 have hlen:=rv.length;rw[ae]at hlen;have ZK:∀(i:Nat) (v:cy),dE.toArray[i]? =some v->v=.bool (bs.getD i false):=λi v hv=>by
  have JI:dE[i]? =some v:=by simpa using hv
  have hi:i<dE.length:=(List.getElem?_eq_some_iff.mp JI).1;have g1:(bs.map V.bl)[i]? =some (.bl (bs.getD i false)):=by
   rw[av,ah (by omega),ak,ah (by omega)];rfl
  obtain⟨w,h1,h2⟩:=rv.get g1;rw[JI]at h1;cases h1;exact h2
 refine call_all_walk (wpAny_pyIter_list pl.isList ⟨s.heap.objs.size,_,_,_,_,_,λi=>bs.getD i false,rfl,Walks.list (A:=X.A.in1) (I.ok.hd hc) s.heap.objs.size p (aE fP) dE.toArray,⟨⟨_,az _ rfl,rfl,rfl⟩,?_⟩,λi v s' Q' E' hv hQ=>?_,λh' tk kk=>?_⟩)
 ·obtain⟨o,n,e,h1,h2,h3⟩:=pl;exact⟨o,ag _ e,h1,n,h3⟩
 ·rw[ZK i v hv];exact bP hQ
 ·have I1:L2.Inv X cM σ H {s with heap:=s.heap.push {cls:=.type "list_iterator",data:=.fields #[.ref p,.int 0 0]}}:=I.kept (t':=s.toks) λb o e=>ag _ e
  obtain⟨f0,f1,f2,f3,f4,f5⟩:=I.MG (H':=H) (au _) (I.gk.fresh (au _));have I2:=I1.turned (t':=tk) (h':=h') (it:=s.heap.objs.size) (λb o hb e=>kk b o (by simpa using hb) e) f0 f1 f3 f4 f5
  refine⟨.bl (bs.all id),H,I2,?_,q⟩;show Value.bool _=Value.bool _
  congr 1
  rw[aq,<-hlen];exact all_map.symm.trans (congrArg (·.all id) (gB bs false))
noncomputable def oX:cw->Option (List Bool)
 |[]=>some []
 |.bl i::r=>(oX r).map λns=>i::ns
 |_=>none
omit [Mem] in
theorem zw:∀{ds:cw}{ns:List Bool},oX ds=some ns->ds=ns.map D.bl
 |[],_,h=>by cases h;rfl
 |.bl i::r,ns,h=>by
  unfold oX at h;cases hr:oX r with
  |none=>rw[hr]at h;cases h
  |some ms=>rw[hr]at h;cases h;rw[zw hr];rfl
omit [Mem] in
def Ln (ns:List Bool):oX (ns.map D.bl)=some ns:=by
 induction ns with
 |nil=>rfl
 |cons n r ih=>show(oX (r.map D.bl)).map _=_;rw[ih];rfl
def By:cc
 |[.lst ds]=>(oX ds).map λbs=>.bl (bs.all id)
 |_=>none
def Cw (hc:X.calm=true):xR X (.builtin "all") By:=by
 refine⟨_,Fw hc,?_⟩;intro C H vs ds d Q s i q k;unfold By at q;split at q
 ·rename_i es;cases hb:oX es with
  |none=>rw[hb]at q;cases q
  |some bs=>
   rw[hb]at q;cases q;obtain⟨v,rfl,j⟩:=i.one;obtain⟨p,xs,rfl,hq,l⟩:=j.list (K:=X.K) s;rw[zw hb]at l;cases l.HS;exact⟨p,bs,rfl,hq,k _ C H (.refl s) (.bl _)⟩
 ·cases q
def Cy (hg:Gl X "range") (hm:X.mg "range"=none) (ha:PA X [a] ta) (hs:starEach [a] X.env=[(false,eval a X.env)]:=by exact fS rfl):PE X (.Call (.Name "range" p) [a] [] pos) (λσ H Q=>ta σ H λvs H1=>∃j:Int,vs=[.int j]/\∀t,H1 t=none->Q (.ref t) (upd H1 t (.Ml 0 j))):=by
 intro cM s σ H Q I h;refine Call_ (kr I hg hm boot_range (PyProof.Rows.callWith_type1 (g7 (ha pos cM s σ H _ I h) λus s1 ⟨vs,H1,I1,r1,q1⟩=>?_) hs rfl))
 obtain⟨j,e,q⟩:=q1;subst e;obtain⟨u,rfl,t,rfl⟩:=vals1 r1;refine call_range_1 ⟨.ref s1.heap.objs.size,_,I1.laid (o:=.Ml 0 j) (λb o e=>ag _ e) (au _) ?_,rfl,q _ (I1.gk.fresh (au _))⟩
 exact⟨_,_,_,az _ rfl⟩
def Bz:∀(dE:cx) (lo:Int),dE.length=n->(∀(j:Nat) (v:cy),dE[j]? =some v->∃t,v=Value.int (lo+(j:Int)) t)->Vals ((dD lo n).map V.int) dE:=by
 induction n with
 |zero=>intro dE lo hl _;cases dE with|nil=>exact .nil|cons _ _=>simp at hl
 |succ n ih=>
  intro dE lo hl h;cases dE with
  |nil=>simp at hl
  |cons v r=>
   refine .cons ?_ (ih r (lo+1) (by simpa using hl) λj w hw=>?_)
   ·obtain⟨t,e⟩:=h 0 v rfl;exact⟨t,by rw[e];simp⟩
   ·obtain⟨t,e⟩:=h (j+1) w (by simpa using hw)
    exact⟨t,by rw[e];congr 1;omega⟩
def BA (hc:X.calm=true):i9 X (.type "list") (λxs H Q=>∃(p:cG) (hi:Int),xs=[.ref p]/\H p=some (.Ml 0 hi)/\hi<1000000/\-1000000<hi/\∀l,H l=none->Q (.ref l) (upd H l (.lst ((dD 0 hi.toNat).map V.int)))):=by
 intro cM s σ H xs us Q I r h;obtain⟨p,hi,rfl,hp,h1,h2,q⟩:=h;obtain⟨u,rfl,rx⟩:=vals1 r;cases rx;obtain⟨t,u,v,e⟩:=I.gk p _ hp;refine call_list_range (n:=hi.toNat) (I.ok.hd hc) e (small_one (by omega) (by omega) (by omega) (by omega)) ?_ (by omega) λh' tk mF c' kp e' it=>?_
 ·rw[rangeSize_one];split<;>omega
 ·refine⟨.ref s.heap.objs.size,_,I.laid (t':=tk) kp (au _) (show gO X.prog X.w _ h' _ (.lst ((dD 0 hi.toNat).map V.int))from⟨?_,mF.toList,c',?_,by simpa using e'⟩),rfl,q _ (I.gk.fresh (au _))⟩
  ·rw[ae,eF];exact bg (yG (by omega))
  ·refine Bz mF.toList 0 (by simpa using it.1) λj v hv=>?_
   obtain⟨t,e⟩:=it.2 j v (by simpa using hv)
   exact⟨t,by rw[e];congr 1;omega⟩
end
end DL
namespace So
open PySem.W
noncomputable def ou {α:Type}(n:Nat) (P:α->Prop):KasT α->Prop
 |.ret a=>P a
 |.ask i j k=>i<n/\j<n/\∀b,ou n P (k b)
theorem ou.bind {α β:Type}{n:Nat}{P:α->Prop}{R:β->Prop}{f:α->KasT β}(hf:∀a,P a->ou n R (f a)):∀{t:KasT α},ou n P t->ou n R (t.bind f)
 |.ret a,h=>hf a h
 |.ask i j k,h=>⟨h.1,h.2.1,λb=>ou.bind hf (h.2.2 b)⟩
def Al (p:Array Nat) (n:Nat):Prop:=0<n/\∀x∈p,x<n
def Al.at (h:Al p n) (i:Nat):p.getD i 0<n:=by
 rw[aT];cases e:p[i]? with
 |none=>exact h.1
 |some x=>exact h.2 x (Array.mem_of_getElem? e)
def Al.perm (h:Al p n) (e:q.Perm p):Al q n:=⟨h.1,λx hx=>h.2 x (e.mem_iff.mp hx)⟩
theorem DT (h:Al p n):∀(f m:Nat),ou n (λ_=>True) (kas_asc p f m)
 |0,_=>trivial
 |f+1,m=>⟨h.at _,h.at _,λb=>by
  cases b with
  |true=>exact trivial
  |false=>exact DT h f (m+1)⟩
theorem vt:∀(f:Nat) (p:Array Nat) (m q:Nat),Al p n->ou n (λr=>Al r.1 n) (kas_desc f p m q)
 |0,_,_,_,h=>h
 |f+1,p,m,q,h=>⟨h.at _,h.at _,λb=>by
  cases b with
  |true=>
   show ou n _ (if q>0 then _ else _)
   split
   ·exact vt f _ _ _ (h.perm (jN _ _ _))
   ·exact vt f _ _ _ h
  |false=>exact⟨h.at _,h.at _,λb=>by
    cases b with
    |true=>exact h
    |false=>exact vt f _ _ _ h⟩⟩
def Cz {n m k:Nat}{p:Array Nat}(h:Al p n):ou n (λr=>Al r.2 n) (kas_tail3 m k p):=
 ou.bind (n:=n) (R:=λr:Nat×Array Nat=>Al r.2 n) (P:=λ_=>True) (f:=λm'=>KasT.ret (m',kas_rev p 0 m)) (λ_ _=>(h.perm (jN _ _ _):Al (kas_rev p 0 m) n)) (DT (h.perm (jN _ _ _)) _ _)
def vv (h:Al p n):ou n (λr=>Al r.2 n) (kas_descPart m k p):=
 ou.bind (λr hr=>by
  split
  ·exact Cz (hr.perm (jN _ _ _))
  ·exact Cz hr) (vt _ _ _ _ h)
def Lo (h:Al p n):ou n (λr=>Al r.2 n) (kas_count k p):=
 ou.bind (λm _=>by
  split
  ·exact h
  ·split
   ·exact⟨h.at _,h.at _,λb=>by
     cases b with
     |true=>exact h
     |false=>exact vv (h.perm (jN _ _ _))⟩
   ·exact vv h) (DT h _ _)
theorem w6 (h:Al p n):∀(f l r:Nat),ou n (λ_=>True) (kas_place p k f l r)
 |0,_,_=>trivial
 |f+1,l,r=>by
  unfold kas_place;split
  ·exact trivial
  ·exact⟨h.at _,h.at _,λb=>by
    cases b with
    |true=>exact w6 h f _ _
    |false=>exact w6 h f _ _⟩
theorem JW:∀(f:Nat) (p:Array Nat) (k:Nat),Al p n->ou n (λr=>Al r n) (kas_bin f p k)
 |0,_,_,h=>h
 |f+1,p,k,h=>ou.bind (λl _=>JW f _ _ (h.perm (bubble_perm _ _ _))) (w6 h _ _ _)
def NC (hn:0<n):ou n (λr=>Al r n) (kas_sort n):=
 ou.bind (λr hr=>by
  split
  ·exact JW _ _ _ hr
  ·exact hr) (Lo ⟨hn,λx hx=>by simpa using hx⟩)
theorem CA (hc:∀i j (Q:Bool->cA->Prop),i<n->j<n->Q (lt i j) s->cmp i j Q s):∀(t:KasT α),ou n P t->Q (jM lt t) s->t.kasWp cmp Q s
 |.ret _,_,h=>h
 |.ask i j k,a,h=>hc i j _ a.1 a.2.1 (CA hc (k (lt i j)) (a.2.2 _) h)
end So
namespace HT
theorem pV:∀a:cp,lexLt a a=false
 |[]=>rfl
 |x::a=>by rw[jb,if_pos rfl];exact pV a
theorem j6:∀{a b c:cp},lexLt a b=true->lexLt b c=true->lexLt a c=true
 |[],[],_,h,_=>by cases h
 |[],_::_,[],_,h=>by cases h
 |[],_::_,_::_,_,_=>rfl
 |_::_,[],_,h,_=>by cases h
 |_::_,_::_,[],_,h=>by cases h
 |x::a,y::b,z::c,h1,h2=>by
  rw[jb]at h1 h2 ⊢;split at h1
  ·rename_i e;subst e;split at h2
   ·rename_i e2;subst e2;rw[if_pos rfl];exact j6 h1 h2
   ·rename_i e2;rw[if_neg e2];exact h2
  ·rename_i e;have q1:x<y:=bJ h1;split at h2
   ·rename_i e2;subst e2;rw[if_neg e];exact h1
   ·have q2:y<z:=bJ h2;rw[if_neg (by omega)];exact aR (by omega)
theorem gR:∀{a b:cp},lexLt a b=false->lexLt b a=false->a=b
 |[],[],_,_=>rfl
 |[],_::_,h,_=>by cases h
 |_::_,[],_,h=>by cases h
 |x::a,y::b,h1,h2=>by
  rw[jb]at h1 h2;by_cases e:x=y
  ·subst e;rw[if_pos rfl]at h1 h2;rw[gR h1 h2]
  ·rw[if_neg e]at h1;rw[if_neg (Ne.symm e)]at h2;have q1:=of_decide_eq_false h1;have q2:=of_decide_eq_false h2;omega
end HT
namespace L2
def ua.has (x:ua P w H h) (e:H a=some o):∃ob,h.get? a=some ob:=by
 have q:=x a o e;cases o with
 |lst xs=>obtain⟨_,_,_,_,e⟩:=q;exact⟨_,e⟩
 |tup xs=>obtain⟨_,_,_,ob,e,_⟩:=q;exact⟨ob,e⟩
 |dK kvs=>obtain⟨_,_,_,_,o,_,_,e,_⟩:=q;exact⟨_,e⟩
 |dT kvs=>obtain⟨_,_,_,_,o,_,_,e,_⟩:=q;exact⟨_,e⟩
 |set S n=>obtain⟨o,_,_,_,e,_⟩:=q;exact⟨_,e⟩
 |ins C dx fs=>obtain⟨_,_,_,e,_⟩:=q;exact⟨_,e⟩
 |own y=>obtain⟨_,e⟩:=q;exact⟨_,e⟩
 |xd fs=>obtain⟨_,⟨_,_,_,e,_⟩,_⟩:=q;exact⟨_,e⟩
 |Ml lo hi=>obtain⟨_,_,_,e⟩:=q;exact⟨_,e⟩
 |yT ob u=>obtain⟨e,_⟩:=q;exact⟨_,e⟩
 |Hr ps=>obtain⟨_,e,_⟩:=(show Cb H h a ps from q);exact⟨_,e⟩
 |met f y=>exact⟨_,(show h.get? a=some _ from q)⟩
 |ext φ=>obtain⟨_,⟨_,e⟩,_⟩:=q;exact⟨_,e⟩
theorem Fx:∀vs:cx,(vs.zip vs).map (·.2)=vs
 |[]=>rfl
 |v::r=>congrArg (v:: ·) (Fx r)
theorem CB {α:Type}{p q:α->Bool}:∀{l:List α},(∀x∈l,p x=true->q x=true)->(∃x∈l,q x=true/\p x=false)->l.countP p<l.countP q
 |[],_,h=>by obtain⟨x,hx,_⟩:=h;cases hx
 |y::l,hs,h=>by
  have Sk:∀x∈l,p x=true->q x=true:=λx hx=>hs x (ai _ hx)
  have le:l.countP p<=l.countP q:=countP_mono_left Sk;rw[countP_cons,countP_cons];obtain⟨x,hx,h1,h2⟩:=h;rcases mem_cons.mp hx with rfl|hx
  ·rw[h1,h2];simp only[if_true,aI,bD];omega
  ·have ih:=CB Sk ⟨x,hx,h1,h2⟩;cases hp:p y with
   |false=>simp only[aI,bD];omega
   |true=>rw[hs y af hp];simp only[if_true];omega
def yJ (nss:cn) (a:cp):Int:=((([]:cp)::nss).countP λx=>HT.lexLt x a:Nat)
def DU (nss:cn) (i:Nat):nss.getD i []∈([]:cp)::nss:=by
 rw[ak];cases e:nss[i]? with
 |none=>exact af
 |some x=>exact ai _ (bh e)
def zx (ha:a∈([]:cp)::nss) (hb:b∈([]:cp)::nss):HT.lexLt a b=decide (yJ nss a<yJ nss b):=by
 unfold yJ;cases h:HT.lexLt a b with
 |true=>
  have:=CB (l:=([]:cp)::nss) (p:=λx=>HT.lexLt x a) (q:=λx=>HT.lexLt x b) (λx _ hx=>HT.j6 hx h) ⟨a,ha,h,HT.pV a⟩
  exact(aR (by omega)).symm
 |false=>
  refine(aH ?_).symm;have:(([]:cp)::nss).countP (λx=>HT.lexLt x b)<=(([]:cp)::nss).countP (λx=>HT.lexLt x a):=countP_mono_left λx _ hx=>by
   cases h2:HT.lexLt b a with
   |true=>exact HT.j6 hx h2
   |false=>rw[HT.gR h h2];exact hx
  omega
noncomputable def DV (K:W.Frag) (H:Hp):List V->cn->Prop:=Paired λv ns=>∃a,v=.ref a/\mB K H a (ns.map V.int)
theorem nT {prog:cC}{w:cD}{A:cE}{s:cA}{Q:Bool->cA->Prop}{bb:Bool}:∀(us zs:cx) (ns ms:cp) (i:Nat) (fin:Bool),IntsAre us ns->IntsAre zs ms->
  (bb=true\/True)->fin=(if ns.length<ms.length then true else false)->Q (HT.lexLt ns ms) s->W.KatLex prog w A bb fin Q (us.zip zs) i s
 |[],zs,ns,ms,i,fin,h1,h2,_,e,q=>by
  cases h1;show Q fin s;rw[e];cases h2 with
  |nil=>exact q
  |cons n t h=>rw[HT.rL]at q;simpa using q
 |_::_,[],ns,ms,i,fin,h1,h2,_,e,q=>by
  cases h2;cases h1 with
  |cons n t h=>
   show Q fin s;rw[e];rw[HT.rM]at q
   simpa using q
 |u::us,z::zs,ns,ms,i,fin,h1,h2,hb,e,q=>by
  cases h1 with
  |cons n t h1=>
   cases h2 with
   |cons m t' h2=>
    refine W.kat_cons (wpAny_eqBool_int ?_);rw[HT.jb]at q;by_cases ZL:n=m
    ·subst ZL;rw[bM];rw[if_pos rfl]at q;refine W.kat_yes (nT us zs _ _ (i+1) fin h1 h2 hb ?_ q);rw[e];simp only[ay,Nat.add_lt_add_iff_right]
    ·have jX:(n==m)=false:=by simpa using ZL
     rw[jX];rw[if_neg ZL]at q;refine W.kat_no ?_;cases hbb:(bb&&i==0)with
     |true=>exact oneLt_int q
     |false=>exact W.kat_one _ _ (lt_int q)
def Uu {h:Heap}{a:cG}{m m':cg}(x:h.Ns a m) (y:h.Ns a m'):m=m':=by
 obtain⟨o,es,ep,e,d,_,f⟩:=x;obtain⟨o',Mx,Tp,e',d',_,f'⟩:=y;rw[e]at e';cases e';rw[d]at d';injection d' with d1 _
 subst d1
 funext n
 rw[<-f,<-f']
section
variable {X:Cx}
def w9:i9 X (.builtin "sorted") (λxs H Q=>∃(p:cG) (ns:cp),xs=[.ref p]/\rD X.K H p (ns.map V.int)/\ns.length<64/\∀(l:cG) (ms:cp),H l=none->ms.Perm ns->ms.Pairwise (·<= ·)->Q (.ref l) (upd H l (.lst (ms.map V.int)))):=by
 intro cM s σ H xs us Q I r h;obtain⟨p,ns,rfl,hq,xS,q⟩:=h;obtain⟨u,rfl,rx⟩:=vals1 r;cases rx;obtain⟨dE,rv,pl,hz⟩:=I.list hq;have hi:IntsAre dE ns:=intsAre_of rv;have hl:=hi.length;refine sorted_ints pl.isList hi (by omega) λout E5 a1 a2 a3=>?_
 obtain⟨e,he⟩:=sortedAll_at s.heap dE out;refine⟨.ref (s.heap.objs.size+1),_,I.laid (t':=s.toks) (o:=.lst (E5.map V.int)) (λb o z=>sortedAll_old z) (Nat.le_succ _) ?_,rfl,q _ E5 (I.gk.fresh (Nat.le_succ _)) a2 a3⟩
 refine⟨?_,out.toList,e,tw a1,by simpa using he⟩
 have:=a2.length_eq;rw[ae];exact bg (mP (by omega))
def Ic {s:cA}{vs:cx}(o1:T.get? a=some (seqObj "list" vs.toArray 0)) (h2:vs.length<2) (h:∀h' c,h'.get? a=some (seqObj "list" vs.toArray c)->(∀b o,b≠a->T.get? b=some o->h'.get? b=some o)->Q .none {s with heap:=h',toks:=tk}):wpAny (model prog w) A (call (.builtin "list.sort") [.ref a]) Q E {s with heap:=T,toks:=tk}:=by
 have ha:a<T.objs.size:=aB o1;refine bL slot_list_sort ⟨_,o1,rfl⟩ entry_list_sort ?_ (args_list_sort _);rw[list_sort_plain];refine aa (listItems_at o1 rfl (aa (listUpdate_at o1 rfl ?_ (hsz:=by rw[aq,bu];omega))))
 obtain⟨e1,DW⟩:∃e1,(T.update a (Obj.mapSeq λ_=>#[])).get? a=some (seqObj "list" #[] e1):=⟨_,get?_update_seq o1 (λ_=>#[])⟩
 refine aa (seqEpoch_at DW rfl (aa (wpAny_newTuple (aa (wpAny_newList (bj ?_))) (by show vs.length<=_;rw[bu];omega))))
 have YG:(((T.update a (Obj.mapSeq λ_=>#[])).push (seqObj "tuple" vs.toArray 0)).push (seqObj "list" #[] 0)).get? a=some (seqObj "list" #[] e1):=ag _ (ag _ DW)
 have kp6:∀b o,b≠a->T.get? b=some o->(((T.update a (Obj.mapSeq λ_=>#[])).push (seqObj "tuple" vs.toArray 0)).push (seqObj "list" #[] 0)).get? b=some o:=λb o hb e=>ag _ (ag _ ((bx _ _ (Ne.symm hb)).trans e))
 show wpAny (model prog w) _ _ _ _ {s with heap:=((T.update a (Obj.mapSeq λ_=>#[])).push (seqObj "tuple" vs.toArray 0)).push (seqObj "list" #[] 0),toks:=tk}
 generalize ((T.update a (Obj.mapSeq λ_=>#[])).push (seqObj "tuple" vs.toArray 0)).push (seqObj "list" #[] 0)=U at YG kp6
 dsimp only;have hsz:vs.toArray.size<2:=by rw[aq];exact h2
 rw[if_pos hsz,if_pos hsz];refine aa (aj ?_);rw[StateT.run_pure];refine aa (aj ?_);dsimp only;have Q4:(vs.toArray.zip vs.toArray).map (·.2)=vs.toArray:=by
  apply Array.toList_inj.mp
  rw[Array.toList_map,Array.toList_zip];exact Fx vs
 rw[show(arrOf (SortSt.mk' general' (vs.toArray.zip vs.toArray) #[] 7 none))=vs.toArray.zip vs.toArray from rfl]at *
 refine aa (seqEpoch_at YG rfl (aa (listUpdate_at YG rfl ?_ (hsz2:=by rw[Q4,aq,bu];omega))))
 rw[Q4];simp only[bne_self_eq_false,aI,bD];obtain⟨c,hc⟩:∃c,(U.update a (Obj.mapSeq λ_=>vs.toArray)).get? a=some (seqObj "list" vs.toArray c):=⟨_,get?_update_seq YG (λ_=>vs.toArray)⟩
 exact aj ⟨_,rfl,h _ c hc λb o hb e=>(bx _ _ (Ne.symm hb)).trans (kp6 b o hb e)⟩
def vw (hl:∀{A':cE}{E:cf}{Q:cx->cA->Prop},A'.handled=A.handled->(∀g tk,(∀b o,s.heap.get? b=some o->g.get? b=some o)->s.heap.objs.size<g.objs.size->Q vs {s with heap:=g,toks:=tk})->wpAny (model prog w) A' (collect (.ref l)) Q E s) (h2:vs.length<2) (h:∀D h' c tk,h'.get? D=some (seqObj "list" vs.toArray c)->s.heap.objs.size<=D->(∀b o,s.heap.get? b=some o->h'.get? b=some o)->Q (.ref D) {s with heap:=h',toks:=tk}):wpAny (model prog w) A (call (.builtin "sorted") [.ref l]) Q E s:=by
 refine Calls.call_function_entry kind_sorted plain_sorted entry_sorted (args_sorted1 _) ?_;unfold Builtin.«sorted»;refine aa (m:=checkCount "sorted" 1 1 _) (aj ?_);refine aa (hl rfl λg tk keep hg=>?_)
 refine aa (wpAny_newList ?_ (by rw[bu];omega))
 have E9:(g.push (seqObj "list" vs.toArray 0)).get? g.objs.size=some (seqObj "list" vs.toArray 0):=az _ rfl;refine aa (bj (Ic (s:=s) (T:=g.push (seqObj "list" vs.toArray 0)) (tk:=tk) E9 h2 λh' c hD kp=>?_))
 refine aj ⟨_,rfl,h _ h' c tk hD (bg hg) λb o e=>kp b o ?_ (ag _ (keep b o e))⟩
 exact aE (bG (aB e) hg)
def zy (I:Inv X cM σ H s) (rv:Vals vs dE) (hl:∀{A:cE}{E:cf}{Q:cx->cA->Prop},Q dE {s with heap:=(s.heap.push (seqObj "list" #[] 0)).update s.heap.objs.size (Obj.mapSeq (·++dE.toArray))}->dE.length<=sizeLine->wpAny (model X.prog X.w) A (collect (.ref p)) Q E s) (h2:vs.length<2) (q:∀l,H l=none->Q (.ref l) (upd H l (.lst vs))):wpAny (model X.prog X.w) X.A (call (.builtin "sorted") [.ref p]) (EP X cM σ Q) X.xe s:=by
 have hn:=rv.length;refine vw (λ_ k=>hl (k _ s.toks (λb o e=>(bx _ _ (bw (aB e))).trans (ag _ e)) (by rw[Heap.size_update,size_push'];exact Nat.lt_succ_self _)) (by rw[bu];omega)) (by omega) λD h' c tk hD xb keep=>⟨.ref D,_,I.laid (t':=tk) (o:=.lst vs) keep xb ⟨bg (mP (by omega)),dE,c,rv,hD⟩,rfl,q D (I.gk.fresh xb)⟩
def yq:i9 X (.builtin "sorted") (λxs H Q=>∃(p:cG) (vs:List V),xs=[.ref p]/\rD X.K H p vs/\vs.length<2/\∀l,H l=none->Q (.ref l) (upd H l (.lst vs))):=by
 intro cM s σ H xs us Q I r h;obtain⟨p,vs,rfl,hq,h2,q⟩:=h;obtain⟨u,rfl,rx⟩:=vals1 r;cases rx;obtain⟨dE,rv,pl,hz⟩:=I.list hq;exact zy I rv (λq z=>collect_list pl.isList q z) h2 q
def pW {α β:Type}{F:α->β->Prop}{l:List α}{m:List β}(t:Paired F l m):∀{i:Nat}{v:α},l[i]? =some v->∃w,m[i]? =some w/\F v w:=by
 induction t with
 |nil=>intro i v e;simp at e
 |cons x t ih=>
  intro i v e;cases i with
  |zero=>simp at e;subst e;exact⟨_,rfl,x⟩
  |succ i=>exact ih (by simpa using e)
def zA {nss:cn}(h2:2<=n) (xS:n<64) (hc:∀i j (R:Bool->cA->Prop),i<n->j<n->R (HT.lexLt (nss.getD i []) (nss.getD j [])) s->cmp i j R s) (q:∀ar:Array Nat,ar.toList.Perm (List.range n)->(∀i∈ar.toList,i<n)->(ar.toList.map λi=>nss.getD i []).Pairwise (λa b=>HT.lexLt b a=false)->Q ar s):(W.kas_sort n).kasWp cmp Q s:=by
 refine So.CA (n:=n) hc _ (So.NC (by omega)) ?_
 obtain⟨s1,s2⟩:=So.Nj (lt:=λi j=>HT.lexLt (nss.getD i []) (nss.getD j [])) (rank:=λi=>yJ nss (nss.getD i [])) (λi j=>zx (DU _ _) (DU _ _)) n (by omega)
 generalize So.jM _ (W.kas_sort n)=ar at s1 s2;have pm:ar.toList.Perm (List.range n):=by simpa using Array.perm_iff_toList_perm.mp s1
 have sz:ar.size=n:=by simpa using s1.size_eq
 refine q ar pm (λi hi=>by simpa using pm.mem_iff.mp hi) ?_
 rw[pairwise_map,pairwise_iff_getElem];intro i j hi hj Fs;have DX:i<ar.size:=by simpa using hi
 have Ie:j<ar.size:=by simpa using hj
 have le:=s2 i j (bg Fs) (by omega)
 unfold So.kk at le;rw[aT,aT,aU DX,aU Ie]at le;simp only[Option.getD_some]at le;have e:=zx (nss:=nss) (a:=nss.getD (ar[j]) []) (b:=nss.getD (ar[i]) []) (DU _ _) (DU _ _);simp only[Array.getElem_toList];rw[e];exact aH (by omega)
def Inv.CC (I:Inv X cM σ H s) (F':Fr X.base X.env.locals h' m) (N':News X.base X.env.locals h' news) (hs:∀p∈my X.base s.heap X.env.locals,p∈news):∀b o,b≠X.env.locals->s.heap.get? b=some o->h'.get? b=some o:=λb o hb e=>by
 cases g:X.base.get? b with
 |some u=>
  have:=I.bk b u g;rw[e]at this;cases this;exact F'.keep b _ g
 |none=>exact(N' (b,o) (hs _ (xM hb g e))).1
def Inv.Uv {s:cA}{σ:St}{H:Hp}{m:cg}{h2:Heap}{D:cG}{us:List V}{vs:cx}{tk c:Nat}(I:Inv X cM σ H s) (hD:H D=none) (Fo:s.heap.get? D=none) (F:Fr X.base X.env.locals s.heap m) (F2:Fr X.base X.env.locals h2 m) (oY:∀b o,b≠X.env.locals->s.heap.get? b=some o->h2.get? b=some o) (hl:us.length<64) (vl:Vals us vs) (atD:h2.get? D=some {cls:=.type "list",data:=.seq vs.toArray c}):Inv X cM σ (upd H D (.lst us)) {s with heap:=h2,toks:=tk}:=by
 show Inv X cM σ _ {s with heap:=h2,gens:=s.gens,drawn:=s.drawn,toks:=tk}
 refine I.step (g':=s.gens) (d':=s.drawn) (t':=tk) (ch:=[]) (λ_ z=>nomatch z) (λb o h1 _ _ e _=>oY b o h1 e) (λb o h1 _ _ e _=>⟨o.slots,oY b o h1 e⟩) (λb o _ e hn=>?_) (λb o _ e=>?_) (λb xs e=>?_) (λb o xs e=>?_) (λb ps e=>⟨#[],?_⟩) (λm' hm=>?_) (λb u e=>?_) I.bare
 ·rw[dg (λz=>by rw[z,Fo]at e;cases e)];exact hn
 ·by_cases hb:b=X.env.locals
  ·obtain⟨o',_,_,e',_⟩:=F2.ns;exact⟨o',by rw[hb];exact e'⟩
  ·exact⟨o,oY b o hb e⟩
 ·rw[dg (dB e hD)];exact e
 ·rw[dg (dB e hD)];exact e
 ·rw[dg (dB e hD),e];simp
 ·rw[Uu hm F.ns];exact F2.ns
 ·by_cases hb:b=D
  ·subst hb;rw[dh]at e;cases e;exact⟨bg (mP (by omega)),_,c,vl,atD⟩
  ·rw[dg hb]at e;refine(I.gk b u e).Hs (λk v hk z=>oY k v ?_ z) (λk z=>by rw[dg (dB z hD)];exact z) λk xs z=>by rw[dg (dB z hD)];exact z
   rcases hk with rfl|hk
   ·intro z;rw[z,I.free]at e;cases e
   ·intro z;rw[z,I.free]at hk;cases hk
def Fy (hu:X.A.units+64<cLine) {cM:cj}{s:cA}{σ:St}{H:Hp}{Q:VK}{p:cG}{vs:List V}{nss:cn}{P:V->cp->Prop}{RR:cx->cp->Prop}(I:Inv X cM σ H s) {dE:cx}(rv:Vals vs dE) (ht:Paired P vs nss) (h2:2<=vs.length) (xS:vs.length<64)
  (ZM:∀{m:cg}{news:cj}{Q:cf},Fr X.base X.env.locals s.heap m->News X.base X.env.locals s.heap news->(∀D e1 h',Fr X.base X.env.locals h' m->News X.base X.env.locals h' ((D,seqObj "list" #[] e1)::news)->(∀q∈news,q.1<D)->
   wpAny (model X.prog X.w) X.A.in1.in1 (keyKind' dE.toArray) (λκ s'=>(W.kas_sort dE.length).kasWp (W.kas_ask X.prog X.w X.A.in1.in1 κ dE) (λp Ff=>W.KasFin X.base X.env.locals m D e1 (p.toList.map λi=>dE.getD i Value.none) (λs3=>Q (.ref D) s3) Ff) s') (λ_ _=>False) {s with heap:=h'})->wpAny (model X.prog X.w) X.A (call (.builtin "sorted") [.ref p]) Q X.xe s)
  (hP:∀v l,l∈nss->P v l->∃a xs,v=.ref a/\mB X.K H a xs/\∀ts,Vals xs ts->RR ts l/\∃i t r,ts=.int i t::r)
  (hc:∀h' ts ND l l' R bb,(∀b o,(∀m,¬ s.heap.Ns b m)->s.heap.get? b=some o->h'.get? b=some o)->RR ts l->RR ND l'->R (HT.lexLt l l') {s with heap:=h'}->W.KatLex X.prog X.w X.A.in1.in1 bb (decide (ts.toArray.size<ND.toArray.size)) R (ts.toArray.toList.zip ND.toArray.toList) 0 {s with heap:=h'})
  (q:∀(l:cG) (ix:List Nat),H l=none->ix.Perm (List.range vs.length)->(ix.map λi=>nss.getD i []).Pairwise (λa b=>HT.lexLt b a=false)->Q (.ref l) (upd H l (.lst (ix.map λi=>vs.getD i .eU)))):wpAny (model X.prog X.w) X.A (call (.builtin "sorted") [.ref p]) (EP X cM σ Q) X.xe s:=by
 have hlen:=rv.length;have abK:=Paired.length ht;obtain⟨m,F⟩:=I.fr;have N:News X.base X.env.locals s.heap (my X.base s.heap X.env.locals):=yV;have zB:∀i,i<vs.length->∃(a:cG) (o:Obj) (ts:cx) (n:Nat),dE.getD i Value.none=.ref a/\a≠X.env.locals/\s.heap.get? a=some o/\o.cls=.type "tuple"/\o.data=.seq ts.toArray n/\RR ts (nss.getD i [])/\∃i t r,ts=.int i t::r:=λi hi=>by
  have g1:vs[i]? =some vs[i]:=ah hi;obtain⟨w,h1,h3⟩:=rv.get g1;obtain⟨l,e1,e2⟩:=pW ht g1;obtain⟨a,xs,e3,e4,e5⟩:=hP _ l (bh e1) e2;rw[e3]at h3;cases h3;obtain⟨ts,r2,⟨o,ho,hc,n,hd⟩,_⟩:=I.tuple e4;obtain⟨e6,e7⟩:=e5 ts r2;refine⟨a,o,ts,n,?_,?_,ho,hc,hd,?_,e7⟩
  ·rw[ak,h1];rfl
  ·intro z;obtain⟨oL,es,ep,hL,Xc,_⟩:=F.ns;rw[z,hL]at ho;cases ho;rw[Xc]at hd;cases hd
  ·rw[ak,e1];exact e6
 refine ZM F N λD e1 h' F' N' fP=>?_
 have Fo:s.heap.get? D=none:=by
  cases e:s.heap.get? D with
  |none=>rfl
  |some o=>
   have n1:=(N' (D,_) (.head _)).2.1;have n2:=(N' (D,_) (.head _)).2.2;exact absurd (fP (D,o) (xM n1 n2 e)) (Nat.lt_irrefl _)
 have rQ:=I.CC F' N' λ_ h=>.tail _ h
 have Xd:∃fs:cx,fs.length=dE.length/\W.KatTups h' dE fs/\∀v∈fs,∃i t,v=Value.int i t:=by
  have aux:∀(l:cx),(∀v∈l,∃(a:cG) (o:Obj) (n:Nat) (k:Int) (t:Tok) (r:cx),v=.ref a/\h'.get? a=some o/\o.cls=.type "tuple"/\o.data=.seq (Value.int k t::r).toArray n)->∃fs:cx,fs.length=l.length/\W.KatTups h' l fs/\∀v∈fs,∃i t,v=Value.int i t:=by
   intro l;induction l with
   |nil=>intro _;exact⟨[],rfl,.nil,λv hv=>nomatch hv⟩
   |cons v l ih=>
    intro h;obtain⟨fs,l1,l2,l3⟩:=ih λw hw=>h w (ai _ hw)
    obtain⟨a,o,n,k,t,r,rfl,e2,e3,e4⟩:=h v af;refine⟨Value.int k t::fs,by simp[l1],.cons e2 e3 e4 (by simp) l2,λw hw=>?_⟩
    rcases mem_cons.mp hw with rfl|hw
    ·exact⟨k,t,rfl⟩
    ·exact l3 w hw
  refine aux dE λv hv=>?_
  obtain⟨i,hi,e⟩:=getElem_of_mem hv;obtain⟨a,o,_,n,b1,b3,b4,b5,b6,_,k,t,r,rfl⟩:=zB i (by omega)
  refine⟨a,o,n,k,t,r,?_,rQ a o b3 b4,b5,b6⟩;rw[ak,ah hi]at b1;rw[<-e];exact b1
 obtain⟨fs,f1,f2,f3⟩:=Xd;refine W.kat_kind (T:=.type "int") f2 (by omega) (λv hv=>?_) (by decide) ?_
 ·obtain⟨i,t,rfl⟩:=f3 v hv;exact λA Q E s' k q=>aj q
 rw[<-hlen];have cmp:∀i j (R:Bool->cA->Prop),i<vs.length->j<vs.length->R (HT.lexLt (nss.getD i []) (nss.getD j [])) {s with heap:=h'}->W.kas_ask X.prog X.w X.A.in1.in1 (tuples' (Value.type "int"!=Value.type "tuple")) dE i j R {s with heap:=h'}:=λi j R hi hj hR=>by
  obtain⟨a,o,ts,n,b1,b3,b4,b5,b6,b7,_⟩:=zB i hi;obtain⟨a',o',ND,n',c1,c3,c4,c5,c6,c7,_⟩:=zB j hj;show wpAny _ _ (keyLt' _ (dE.getD i Value.none) (dE.getD j Value.none)) _ _ _;rw[b1,c1];exact W.kat_lt (rQ a o b3 b4) b6 (rQ a' o' c3 c4) c6 (hc h' ts ND _ _ R _ (λb o nb e=>rQ b o (λz=>nb m (z▸F.ns)) e) b7 c7 hR)
 refine zA h2 xS cmp λar pm below NF=>?_
 refine⟨_,_,F',N',.head λp hp=>aE (fP p hp),λh2 c F2 N2=>?_⟩
 have hD:H D=none:=by
  cases e:H D with
  |none=>rfl
  |some u=>obtain⟨o,z⟩:=I.gk.has e;rw[Fo]at z;cases z
 have vl:Vals (ar.toList.map λi=>vs.getD i .eU) (ar.toList.map λi=>dE.getD i Value.none):=by
  have aux:∀(l:List Nat),(∀i∈l,i<vs.length)->Vals (l.map λi=>vs.getD i .eU) (l.map λi=>dE.getD i Value.none):=by
   intro l;induction l with
   |nil=>intro _;exact .nil
   |cons i l ih=>
    intro h;refine .cons ?_ (ih λk hk=>h k (ai _ hk))
    have hi:=h i af;show RelV (vs.getD i .eU) (dE.getD i Value.none);obtain⟨w,e1,e2⟩:=rv.get (ah hi);rw[ak,ak,e1,ah hi];exact e2
  exact aux _ below
 exact⟨.ref D,upd H D (.lst (ar.toList.map λi=>vs.getD i .eU)),I.Uv (s:=s) (tk:=s.toks) (c:=c) hD Fo F F2 (I.CC F2 N2 λ_ h=>.tail _ h) (by rw[ae,pm.length_eq,length_range];exact xS) vl (N2 _ (.head _)).1,rfl,q D ar.toList hD pm NF⟩
def xc (hu:X.A.units+64<cLine):i9 X (.builtin "sorted") (λxs H Q=>∃(p:cG) (vs:List V) (nss:cn),xs=[.ref p]/\rD X.K H p vs/\DV X.K H vs nss/\2<=vs.length/\vs.length<64/\(∀ns∈nss,ns≠[])/\
  ∀(l:cG) (ix:List Nat),H l=none->ix.Perm (List.range vs.length)->(ix.map λi=>nss.getD i []).Pairwise (λa b=>HT.lexLt b a=false)->Q (.ref l) (upd H l (.lst (ix.map λi=>vs.getD i .eU)))):=by
 intro cM s σ H xs us Q I r h;obtain⟨p,vs,nss,rfl,hq,ht,h2,xS,jX,q⟩:=h;obtain⟨u,rfl,rx⟩:=vals1 r;cases rx;obtain⟨dE,rv,pl,hz⟩:=I.list hq;have hl:=rv.length;refine Fy hu (RR:=IntsAre) I rv ht h2 xS (λF N h=>W.kat_sorted F N pl.isList (by omega) (by omega) h) (λv l hl ⟨a,e1,e2⟩=>⟨a,_,e1,e2,λts r=>?_⟩) (λh' ts ND l l' R bb _ b7 c7 hR=>nT _ _ l l' 0 _ (by simpa using b7) (by simpa using c7) (.inr trivial) ?_ hR) q
 ·have b:=intsAre_of r;refine⟨b,?_⟩;cases b with
  |nil=>exact absurd rfl (jX _ hl)
  |cons i t b=>exact⟨i,t,_,rfl⟩
 ·rw[aq,aq,b7.length,c7.length];by_cases h:l.length<l'.length
  ·rw[if_pos h];exact aR h
  ·rw[if_neg h];exact aH h
end
end L2
namespace DL
open L2
variable [Mem]
noncomputable def NG (a b:Int):Bool:=decide (a<=b)
def sortI (ns:cp):cp:=ns.mergeSort NG
def Xe (a b:cp):Bool:= !(HT.lexLt b a)
def fi (nss:cn):cn:=nss.mergeSort Xe
omit [Mem] in
def sortI_perm (ns:cp):(sortI ns).Perm ns:=mergeSort_perm _ _
omit [Mem] in
def zC (ns:cp):(sortI ns).Pairwise (·<= ·):=
 (pairwise_mergeSort (le:=NG) (λa b c h1 h2=>by simp only[NG,decide_eq_true_eq]at *; omega) (λa b=>by simp only[NG,Bool.or_eq_true,decide_eq_true_eq];omega) ns).imp λ{a b} h=>by simpa [NG]using h
omit [Mem] in
def eY (nss:cn):(fi nss).Perm nss:=mergeSort_perm _ _
omit [Mem] in
def rR (nss:cn):(fi nss).Pairwise (λa b=>HT.lexLt b a=false):=
 (pairwise_mergeSort (le:=Xe) (λa b c h1 h2=>by
  simp only[Xe,Bool.not_eq_true']at *;cases h:HT.lexLt c a with
  |false=>rfl
  |true=>
   cases hb:HT.lexLt b c with
   |true=>rw[HT.j6 hb h]at h1;cases h1
   |false=>rw[HT.gR hb h2]at h1;rw[h1]at h;cases h) (λa b=>by
  simp only[Xe,Bool.or_eq_true,Bool.not_eq_true'];cases h:HT.lexLt b a with
  |false=>exact .inl rfl
  |true=>
   right;cases h2:HT.lexLt a b with
   |false=>rfl
   |true=>have:=HT.j6 h h2;rw[HT.pV]at this;cases this) nss).imp λ{a b} h=>by simpa [Xe]using h
omit [Mem] in
theorem gw {α:Type}{R:α->α->Prop}(Lp:∀a b,R a b->R b a->a=b):∀{l m:List α},l.Perm m->l.Pairwise R->m.Pairwise R->l=m
 |[],m,h,_,_=>by have:=h.length_eq;cases m with|nil=>rfl|cons _ _=>cases this
 |a::l,m,h,p,q=>by
  cases m with
  |nil=>exact absurd h.length_eq (by simp)
  |cons b m=>
   have Qi:a=b:=by
    by_cases e:a=b
    ·exact e
    ·have h1:a∈m:=(mem_cons.mp (h.mem_iff.mp af)).resolve_left e;have h2:b∈l:=(mem_cons.mp (h.mem_iff.mpr af)).resolve_left (Ne.symm e);exact Lp a b ((pairwise_cons.mp p).1 b h2) ((pairwise_cons.mp q).1 a h1)
   subst Qi;rw[gw Lp ((perm_cons a).mp h) (pairwise_cons.mp p).2 (pairwise_cons.mp q).2]
noncomputable def tupI (ns:cp):D:=.tup (ns.map D.int)
noncomputable abbrev _root_.cJ (i:Int):DL.Sl:=.dat (.int i)
abbrev _root_.cK (l:List Int):DL.Sl:=.dat (tupI l)
def jZ:cw->Option (cn)
 |[]=>some []
 |.tup ds::r=>(intsOf ds).bind λns=>(jZ r).map λnss=>ns::nss
 |_=>none
omit [Mem] in
theorem tH:∀{ds:cw}{nss:cn},jZ ds=some nss->ds=nss.map tupI
 |[],_,h=>by cases h;rfl
 |.tup es::r,nss,h=>by
  unfold jZ at h;cases h1:intsOf es with
  |none=>rw[h1]at h;cases h
  |some ns=>
   cases h2:jZ r with
   |none=>rw[h1,h2]at h;cases h
   |some ms=>rw[h1,h2]at h;cases h;rw[tH h2,jz h1];rfl
omit [Mem] in
def mY (nss:cn):jZ (nss.map tupI)=some nss:=by
 induction nss with
 |nil=>rfl
 |cons n r ih=>show(intsOf (n.map D.int)).bind _=_;rw[jc];show(jZ (r.map tupI)).map _=_;rw[ih];rfl
def kA:cw->Option (cw)
 |[.lst ds]=>if ds.length<64 then
   (match intsOf ds with
   |some ns=>some ((sortI ns).map D.int)
   |none=>(jZ ds).bind λnss=>if nss.all (λns=> !ns.isEmpty)=true then some ((fi nss).map tupI)else none)
  else none
 |_=>none
theorem IsL.DY {K:W.Frag}{C H:Hp}(s:eE C H):∀{nss:cn}{vs:List V},IsL C vs (nss.map tupI)->DV K H vs nss
 |[],_,.nil=>.nil
 |ns::r,_,.cons h t=>by
  cases h with
  |tup h l=>
   cases l.lE;exact .cons ⟨_,rfl,mB.of (s _ _ h)⟩ (IsL.DY s t)
theorem IsL.places (l:IsL C vs ds):∀(ix:List Nat),(∀i∈ix,i<ds.length)->IsL C (ix.map λi=>vs.getD i .eU) (ix.map λi=>ds.getD i .eU)
 |[],_=>.nil
 |i::ix,h=>by
  refine .cons ?_ (IsL.places l ix λk hk=>h k (ai _ hk))
  have hi:=h i af;obtain⟨v,h1,h2⟩:=l.get (ah hi);show Is C (vs.getD i .eU) (ds.getD i .eU);rw[ak,ak,h1,ah hi];exact h2
omit [Mem] in
def vy {α β:Type}(f:α->β) (l:List α) (a:α) (b:β) (ix:List Nat) (h:∀i∈ix,i<l.length):(ix.map λi=>(l.map f).getD i b)=(ix.map λi=>l.getD i a).map f:=by
 rw[aV];apply bR
 intro i hi;have:=h i hi;simp[ak,av,ah this]
section
variable {X:Cx}
def zD (hu:X.A.units+64<cLine):Ct X (.builtin "sorted") kA:=by
 refine⟨_,w9.or (yq.or (xc hu)),?_⟩;intro C H vs ds d Q s i q k;unfold kA at q;split at q
 ·rename_i es;split at q
  case isFalse=>cases q
  rename_i xS;obtain⟨v,rfl,j⟩:=i.one;obtain⟨p,xs,rfl,hq,l⟩:=j.list (K:=X.K) s;split at q
  ·rename_i ns hi;cases q;rw[jz hi]at l xS;cases l.lE;refine .inl ⟨p,ns,rfl,hq,by simpa using xS,λt ms ht pm pw=>?_⟩
   have e:ms=sortI ns:=gw (λa b h1 h2=>Int.le_antisymm h1 h2) (pm.trans (sortI_perm ns).symm) pw (zC ns)
   subst e;exact k t _ C _ (.gm s ht) ht (s.free ht) dh (.ints _)
  ·cases hn:jZ es with
   |none=>rw[hn]at q;cases q
   |some nss=>
    rw[hn]at q;simp only[ao]at q;split at q
    ·rename_i wM;cases q;have ee:=tH hn;subst ee;have lv:=l.length;rw[ae]at lv xS;by_cases h2:xs.length<2
     ·refine .inr (.inl ⟨p,xs,rfl,hq,h2,λt ht=>?_⟩)
      have e:fi nss=nss:=by
       have:nss.length<2:=by omega
       match nss,this with
       |[],_=>exact List.Perm.eq_nil (eY [])
       |[a],_=>exact perm_singleton.mp (eY [a])
      rw[e]at k;exact k t xs C _ (.gm s ht) ht (s.free ht) dh l
     ·refine .inr (.inr ⟨p,xs,nss,rfl,hq,l.DY s,by omega,by omega,λns M7=>?_,λt ix ht pm pw=>?_⟩)
      ·have:=all_eq_true.mp wM ns M7;intro z;subst z;simp at this
      ·have lt:∀i∈ix,i<(nss.map tupI).length:=λi hi=>by
        have:=pm.mem_iff.mp hi;rw[mem_range]at this;rw[ae];omega
       have lt':∀i∈ix,i<nss.length:=λi hi=>by have:=lt i hi;rwa [ae]at this
       have e:(ix.map λi=>nss.getD i [])=fi nss:=by
        refine gw (λa b h1 h2=>HT.gR h2 h1) ?_ pw (rR nss)
        have e1:(ix.map λi=>nss.getD i []).Perm ((List.range nss.length).map λi=>nss.getD i []):=List.Perm.map _ (by rw[<-lv];exact pm)
        rw[gB]at e1;exact e1.trans (eY nss).symm
       have ll:=l.places ix lt;rw[vy tupI nss [] .eU ix lt',e]at ll;exact k t _ C _ (.gm s ht) ht (s.free ht) dh ll
    ·cases q
 ·cases q
end
section
variable {e:cH}{C0 H0:Hp}{f:bZ}
def Gd.gm (g:Gd B C0 H0 δ σ C H) (h0:H0 a=none) (hc:C a=none) (hn:∀(k:Nat) (es:cw),δ[k]? =some (.own es)->σ[k]? ≠some (some (.ref a))) (hx:∀u,H a=some u->Ho u=false) (o:HO):Gd B C0 H0 δ σ C (upd H a o):=
 ⟨g.b,g.ev.JO h0 hc o,⟨λb u q=>by rw[dg (dB q hc)];exact g.x.sub b u q,g.x.dat,λk ds q=>by
   obtain⟨b,xs,h1,h2,h3,h4⟩:=g.x.own k ds q;exact⟨b,xs,h1,h2,by rw[dg (λz=>hn k ds q (by rw[h1,z]))];exact h3,h4⟩,g.x.DN,g.x.len,λk ks q=>by
   obtain⟨b,h1,h2,h3,h4⟩:=g.x.mem k ks q;exact⟨b,h1,h2,Mem.VG h3 hx,λk hk=>Mem.Lh h3 hx (h4 k hk)⟩⟩,g.fr⟩
def Gd.Q5 (g:Gd B C0 H0 δ σ C H) (h0:H0 a=none) (hc:C a=none) (hH:H a=some (.lst xs)) (hl:IsL C xs ds) (hn:∀(k:Nat) (es:cw),δ[k]? =some (.own es)->σ[k]? ≠some (some (.ref a))):Gd B C0 H0 (δ.set i (.own ds)) (σ.set i (some (.ref a))) C H:=
 ⟨g.b,g.ev,g.x.DO hc hH hl hn,λk es b q1 q2=>by
  rcases getElem?_set_cases q1 with⟨rfl,e1⟩|⟨hk,e1⟩
  ·rcases getElem?_set_cases q2 with⟨_,e2⟩|⟨z,_⟩
   ·cases e2;exact h0
   ·exact absurd rfl z
  ·rw[aG (Ne.symm hk)]at q2;exact g.fr k es b e1 q2⟩
noncomputable def DZ (j m:Nat) (f:bZ) (δ:gh):cw->cw->Option (cw×cw)
 |ls,[]=>some ([],ls)
 |ls,d::ds=>match f ((δ.set m (.own ls)).set j (.dat d))with
  |some (.int i)=>if 0<=i then(match ls[i.toNat]? with
   |some x=>(DZ j m f δ (ls.eraseIdx i.toNat) ds).map λr=>(x::r.1,r.2)
   |none=>none)else none
  |_=>none
def Fz (k j m:Nat) (i:bX) (f:bZ):bY:=λδ=>match δ[m]? with
 |some (.own ls)=>if ls.length<1000000 then(i δ).bind λds=>if ds.length<1000000 then(DZ j m f δ ls ds).map λr=>.next ((δ.set m (.own r.2)).set k (.own r.1))else none else none
 |_=>none
omit [Mem] in
def getElem?_set_own {δ:gh}{m k:Nat}{ls es:cw}(hm:∃fs,δ[m]? =some (Sl.own fs)) (h:(δ.set m (Sl.own ls))[k]? =some (.own es)):∃fs,δ[k]? =some (.own fs):=by
 rcases getElem?_set_cases h with⟨rfl,_⟩|⟨_,e⟩
 ·exact hm
 ·exact⟨_,e⟩
def NH {B:Hp}{k j m:Nat}{i:bX}{tt:TT}(ZN:m≠j) (ht:∀σ H Q,tQ lS σ H Q->tt σ H Q) {K:W.Frag}:∀Dn σ H,tS B C0 H0 (Fz k j m i f) Dn σ H->
  Fp k (Nd (tI i) j tt (Zu K "list" M3 (lQ m) (YD (cN f cT)))) Dn σ H:=λDn σ H ⟨C,δ,r,gd,q,kk⟩=>by
 unfold Fz at q;split at q
 case h_2=>cases q
 rename_i ls hm;split at q
 case isFalse=>cases q
 rename_i hzl;cases hf:i δ with
 |none=>rw[hf]at q;cases q
 |some ds=>
  rw[hf]at q;simp only[ao]at q;split at q
  case isFalse=>cases q
  rename_i hz;cases hp:DZ j m f δ ls ds with
  |none=>rw[hp]at q;cases q
  |some pr=>
   rw[hp]at q;cases q;obtain⟨ys,rem⟩:=pr;refine⟨C,δ,ds,gd.x,hf,λJ C1 H1 ev wk A hA=>?_⟩
   have g1:=gd.Bv ev;have Xf:∀(k:Nat) (es:cw),δ[k]? =some (.own es)->σ[k]? ≠some (some (.ref A)):=λk es e z=>by
    obtain⟨a,xs,h1,_,h3,_⟩:=g1.x.own k es e;rw[z]at h1;cases h1;rw[hA]at h3;cases h3
   have Uw:∀(ls:cw) (k:Nat) (es:cw),(δ.set m (.own ls))[k]? =some (.own es)->σ[k]? ≠some (some (.ref A)):=λls k es e=>by
    obtain⟨fs,e'⟩:=getElem?_set_own ⟨_,hm⟩ e;exact Xf k fs e'
   have ZO:H0 A=none:=g1.ev.free hA;have dm:δ.set m (.own ls)=δ:=by
    apply ext_getElem?
    intro n;by_cases e:n=m
    ·subst e;rw[bc (List.getElem?_eq_some_iff.mp hm).1,hm]
    ·rw[aG (Ne.symm e)]
   refine⟨λn mm acc H'=>∃C' lc done rest,mm=ds.length-n/\n<=ds.length/\Gd B C0 H0 (δ.set m (.own lc)) σ C' H'/\eE C1 C'/\C' A=none/\H' A=some (.lst acc)/\IsL C' acc done/\done.length<=n/\lc.length<1000000/\DZ j m f δ lc (ds.drop n)=some (rest,rem)/\ys=done++rest,
    ⟨ds.length,C1,ls,[],ys,by simp,bK _,by rw[dm];exact g1.gm ZO (ev.s.free hA) Xf (λu q=>by rw[hA]at q;cases q) _,eE.refl _,ev.s.free hA,dh,.nil,au _,hzl,by simpa using hp,rfl⟩,?_⟩
   rintro n mm acc H2 ⟨C2,lc,done,rest,rfl,hn,g2,sc,a2,b2,l2,le2,hlc,q2,ey⟩
   have w:=wk n C2 H2 sc g2.x.sub;by_cases fP:n<ds.length
   ·have hd:ds[n]? =some ds[n]:=ah fP;obtain⟨go,yl⟩:=w.1 _ hd;rw[drop_eq_getElem_cons fP]at q2;refine .inr ⟨go,λv H3 y=>?_⟩
    obtain⟨rfl,is⟩:=yl v H3 y;have x3:=g2.x.wR (i:=j) is;unfold DZ at q2;split at q2
    case h_2=>cases q2
    rename_i ii hfi;split at q2
    case isFalse=>cases q2
    rename_i hi0;split at q2
    case h_2=>cases q2
    rename_i x hx;cases hr:DZ j m f δ (lc.eraseIdx ii.toNat) (ds.drop (n+1))with
    |none=>rw[hr]at q2;cases q2
    |some pr=>
     rw[hr]at q2;cases q2;have hml:m<δ.length:=(List.getElem?_eq_some_iff.mp hm).1;have om:(δ.set m (.own lc))[m]? =some (.own lc):=bc hml;obtain⟨a,xs,h1,h2,h3,h4⟩:=g2.x.own m lc om;refine ht _ _ _ ⟨C2,_,true,x3,rfl,λC4 H4 e4=>yp ?_⟩
     have g4:=g2.Bv e4;have Nm:=e4.hh h3;refine⟨.ref a,by rw[aG (Ne.symm ZN)];exact h1,.inl ⟨rfl,_,rD.of Nm⟩,C4,_,[.int ii],x3.ev e4,by unfold cN cT;rw[hfi];rfl,λvs C5 H5 e5 i5=>?_⟩
     cases i5 with
     |cons i51 i52=>
      cases i52;cases i51;have Mo:=e4.trans e5;have g5:=g2.Bv Mo;have hH5:=Mo.hh h3;have l5:=h4.mono Mo.c;obtain⟨vx,hvx,isx⟩:=l5.get hx;have hlen:xs.length=lc.length:=l5.length;have adS:ii.toNat<xs.length:=(List.getElem?_eq_some_iff.mp hvx).1;have aA:a≠A:=λz=>Uw lc m lc om (by rw[h1,z])
      have YE:H5 A=some (.lst acc):=Mo.hh b2;have a5:=Mo.nn a2 b2;refine⟨a,xs,ii,ii.toNat,vx,rfl,rfl,hH5,by omega,by omega,seqIndex_of hi0 (by omega),hvx,?_⟩
      refine⟨by rw[dg (Ne.symm aA)];exact YE,by rw[l2.length];exact yG (by omega),ds.length-(n+1),by omega,C5,lc.eraseIdx ii.toNat,done++[x],pr.1,rfl,fP,?_,sc.trans Mo.c,a5,dh,(l2.mono Mo.c).append (.one isx),?_,?_,hr,?_⟩
      ·have g6:=g5.mut (es:=lc.eraseIdx ii.toNat) om h1 (l5.eraseIdx ii.toNat);rw[set_set]at g6;exact g6.gm ZO a5 (Uw _) (λu q=>by rw[dg (Ne.symm aA),YE]at q;cases q;rfl) _
      ·rw[aQ,length_singleton];omega
      ·exact Nat.lt_of_le_of_lt (oV _ _) hlc
      ·rw[ey,append_assoc];rfl
   ·have e:n=ds.length:=by omega
    subst e;rw[drop_length]at q2;unfold DZ at q2;cases q2;rw[bB]at ey;subst ey;refine .inl ⟨w.2 (au _),kk _ C2 H2 ?_⟩;exact g2.Q5 ZO a2 b2 l2 (Uw _)
end
end DL
namespace DL
open L2
def gZ (P:cC) (w:cD) (K:W.Frag) (mg:cg) (base:Heap) (k:Nat) (x:Str) (g:cc):Prop:=
 ∃f fd ps,eO P w K mg base iY k f fd ps (nR g)/\mg x=some (.ref f)/\W.keepIn K (.ref f)=true/\Binds K fd ps []
theorem gZ.mono {P:cC}{w:cD}{K:W.Frag}{mg:cg}{base:Heap}{j k:Nat}{x:Str}{g:cc}(c:gZ P w K mg base j x g) (h:j<=k:=by omega):gZ P w K mg base k x g:=
 let ⟨f,fd,ps,F,r⟩:=c;⟨f,fd,ps,F.mono h,r⟩
noncomputable def D1 (K:W.Frag):Bool:=K.all λp=>match p.2.data with
 |.seq _ _=>(match p.2.cls with|.type t=>t !="list"|_=>true)
 |_=>true
def mem_of_lookup {K:W.Frag}{a:cG}{o:Obj}(e:K.lookup a=some o):(a,o)∈K:=by
 induction K with
 |nil=>cases e
 |cons p r ih=>
  obtain⟨b,u⟩:=p;rw[bp]at e;by_cases h:a=b
  ·subst h;simp only[bM]at e;cases e;exact af
  ·have hb:(a==b)=false:=by simpa using h
   simp only[hb]at e;exact ai _ (ih e)
def Ig {K:W.Frag}(h:D1 K=true) {a:cG}{o:Obj}{dE:Array cy}{n:Nat}(e:K.lookup a=some o) (hc:o.cls=.type "list") (hs:o.data=.seq dE n):False:=by
 have:=all_eq_true.mp h _ (mem_of_lookup e);simp only[hs,hc]at this;simp at this
def Xg {l:W.OpenLaw}{q:cC}{loose:List Str}{XP:(cg)->Heap->Prop}{YP:cD->Heap->Prop}{d:DefRec}{K:Params->W.Frag}{x:Str}{g:cc}(hn:l.most=some 63) (WJ:d.params.defaults=[])
  (hY:∀(w:cD) (h:Heap),YP w h->(K w.params).In h)
  (hg:∀ns:cp,ns.length<=63->g [.lst (ns.map D.int)]=some (.bl true))
  (M9:∀t∈yk,((recsOf q).find? λe=>e.name==t.1).isSome=true)
  (F:∀(w:cD) (mg:cg) (fa:cG) (h:Heap),(K w.params).In h->h.Ns mainGlobals mg->mg d.name=some (.ref fa)->
   D1 (K w.params)=true/\tabsOk (K w.params)=true/\∃fd:cB,(∀(s:cA) (u:cy),BindsTo s fd ⟨[u],[]⟩ [(x,u)])/\∀base:Heap,(K w.params).In base->base.Ns mainGlobals mg->eO l.prog w (K w.params) mg base iY 65 fa fd [x] (nR g)):
  W.WalkO q loose XP YP l.row.toRowW d [] (λf vs=>PySem.call f vs):=
 L2.QO (n:=63) (k:=65) (x:=x) (CX:=λ_=>iY) (sp:=λw vs H Q E=>D1 (K w.params)=true->nR g vs H Q E) hn (by decide) WJ ⟨rfl,by decide,by decide,rfl⟩ hY M9
  (λw mg fa h k1 k2 k3=>by
   obtain⟨z,tz,fd,b,f⟩:=F w mg fa h k1 k2 k3;exact⟨tz,fd,b,λbase e1 e2=>(f base e1 e2).imp λvs H Q E h=>h z⟩)
  (λw H a ns hl hS hz=>by
   have hr:Rd H a (.lst (ns.map V.int)):=by
    rcases hS with h|⟨o,dE,n,e1,e2,_,e4,_⟩
    ·exact h
    ·exact(Ig hz e1 e2 e4).elim
   exact⟨H,[.lst (ns.map D.int)],.bl true,eE.refl H,.cons (.lst hr (.ints ns)) .nil,hg ns hl,λv C' H' ev i=>by cases i;rfl⟩)
  λ_ _ _ _ _ z=>z
variable [Mem]
structure WD (X:Cx) (e:cH) (f:bZ):Prop where
 go:PD X e f
structure WO (X:Cx) (e:cH) (f:bZ):Prop where
 go:PO X e f
structure WF (X:Cx) (e:cH) (f:bX):Prop where
 go:PF X e f
structure WQ (X:Cx) (e:cH) (f:cb):Prop where
 go:PQ X e f
structure BB (X:Cx) (e:cH) (f:cb):Prop where
 go:PQW X e f
structure Hq (X:Cx) (es:List cH) (f:bX):Prop where
 go:VH X es f
structure Ux (X:Cx) (es:List cH) (f:bX):Prop where
 go:PAO X es f
structure rA (X:Cx) (tg e:cH) (f:bX):Prop where
 go:W8 X tg e f
structure Xh (X:Cx) (tg e:cH) (f:bX):Prop where
 go:PIe X tg e f
structure WB (X:Cx) (C0 H0:Hp) (st:cI) (f:bY):Prop where
 go:PB X C0 H0 st f
structure wH (X:Cx) (C0 H0:Hp) (st:List cI) (f:bY):Prop where
 go:VJ X C0 H0 st f
structure WP (X:Cx) (e:Option cH) (f:gh->Option (Option Int)):Prop where
 go:L2.PO X e (tP f)
section
variable {X:Cx}{e tg:cH}{pos:Pos}
def cP (i:Nat) (hN:X.N[i]? =some x:=by rfl) (hv:Vx X.env.scope x:=by first|exact Or.inl rfl|exact Or.inr (Or.inl rfl)|exact Or.inr (Or.inr rfl)) (hd:(x==("__debug__":Str))=false:=by decide) (yX:(x==("__classdict__":Str))=false:=by decide):WO X (.Name x pos) (df i):=⟨Lk (Ht hN hv hd yX)⟩
def cQ (i:Nat) (hN:X.N[i]? =some x:=by rfl) (hv:Vx X.env.scope x:=by first|exact Or.inl rfl|exact Or.inr (Or.inl rfl)|exact Or.inr (Or.inr rfl)) (hd:(x==("__debug__":Str))=false:=by decide) (yX:(x==("__classdict__":Str))=false:=by decide):WD X (.Name x pos) (cW i):=⟨Lj (Ht hN hv hd yX)⟩
theorem WD.o (h:WD X e f):WO X e f:=⟨h.go.o⟩
theorem WF.d (h:WF X e f):WD X e (dL f):=⟨h.go.d⟩
theorem BB.pt (h:BB X e f):WQ X e f:=⟨h.go.pt⟩
theorem rA.weak (h:rA X tg e f):Xh X tg e f:=⟨h.go.weak⟩
def CG:WP X none Mp:=⟨QD.imp λσ H Q ⟨C,δ,o,x,q,k⟩=>by cases q;exact k C H (.refl x.sub)⟩
def rS (h:WO X e f):WP X (some e) (uP f):=⟨(QE h.go).imp λσ H Q ⟨C,δ,o,x,q,k⟩=>by
 unfold uP at q;split at q
 ·rename_i i hf;cases q;exact⟨C,δ,_,x,hf,λv C' H' ev i'=>⟨i,i'.int,k C' H' ev⟩⟩
 ·cases q⟩
end
end DL
namespace DL
open L2
def fy {P:cC}{w:cD}{K:W.Frag}{mg:cg}{base:Heap}{x qual:Str}{st:cI}{f:cG}{fd:cB}{N ps:List Str}{k:Nat}(F:jW K x qual st f fd) (S:dA N ps (cY st)) {fb:bY}
  (jL:∀(m:Mem) (fD:cy) (A:cE) (outer:List Env) (s:cA) (H:Hp) (E:XK),hW k (A.deeper (envOfC qual (cY st) s.heap.objs.size f fD))->∀C0 H0,wH (tY iY P w K mg base N qual (cY st) f fD A outer s H E).Hu C0 H0 (fO st) fb):
  eO P w K mg base iY (k+1) f fd ps (nR (gz N.length ps.length fb)):=Sw F S λfD A outer s H E hr C0 H0=>@wH.go Mem.keep _ _ _ _ _ (jL Mem.keep fD A outer s H E hr C0 H0)
variable [Mem]
variable [Mem]
section
variable {X:Cx}{e a b c:cH}{pos:Pos}
def cZ:WD X (.Constant (.int i) j pos) (dC (.int i)):=⟨yE Dx λ_=>.int i⟩
def jd:WD X (.Constant (.bool i) j pos) (dC (.bl i)):=⟨yE V1 λ_=>.bl i⟩
def lb {j:Nat}:WD X (.Constant .none j pos) (dC .eU):=⟨yE Mz λ_=>.eU⟩
def jU (hg:Gl X x) (hm:X.mg x=some (.int i t)) (hd:(x==("__debug__":Str))=false:=by decide):WD X (.Name x pos) (dC (.int i)):=⟨yE (Qo (v:=.int i) hg hm ⟨t,rfl⟩ hd) λ_=>.int i⟩
def kB (ha:WO X a f) (hb:WO X b g):WD X (.BinOp a .Add b pos) (dw kZ f g):=⟨Ft MJ (Nq λ_ _ _=>.int _) ha.go hb.go⟩
def uQ (ha:WO X a f) (hb:WO X b g):WD X (.BinOp a .Sub b pos) (dw rN f g):=⟨Ft TF (Nq λ_ _ _=>.int _) ha.go hb.go⟩
def D2 (ha:WO X a f) (hb:WO X b g):WD X (.BinOp a .Mult b pos) (dw Bs f g):=⟨Ft TH (Sq (λi j h=>by
 unfold Nr at h;unfold Qs
 simpa using h) λ_ _ _=>.int _) ha.go hb.go⟩
def Ih (ha:WO X a f) (hb:WO X b g):WD X (.BinOp a .Mod b pos) (dw DP f g):=⟨Ft TJ (Sq (λi j h=>by
 unfold HW at h
 simpa using h) λ_ _ _=>.int _) ha.go hb.go⟩
def pX (c:vm X op o) (ha:WO X a f) (hb:WO X b g) (hm:behindInMarks op b=false:=by first|exact yZ _|rfl):WD X (.Compare a [op] [b] pos) (dw o f g):=⟨by
 have ha:=ha.go;have hb:=hb.go;obtain⟨r,ho,hd⟩:=c;exact(Qu ho ha hb hm).imp (JQ hd)⟩
def ik (h:WD X e f) (he:∀whole,isTrue e X.env whole=(do let v <-whole;standAt e.pos;holding [v] (truthy v)):=by intro _;rfl):WQ X e (qB f):=⟨by have h:=h.go;exact(Tq h he).imp (Sr λ_ _ _ h=>h)⟩
def dI (c:vm X op o) (ha:WO X a f) (hb:WO X b g) (hm:behindInMarks op b=false:=by first|exact yZ _|rfl):WQ X (.Compare a [op] [b] pos) (qB (dw o f g)):=⟨by
 have ha:=ha.go;have hb:=hb.go;obtain⟨r,ho,hd⟩:=c;exact(yB ho ha hb hm).imp (Sr (JQ hd))⟩
def vz (ha:WQ X a f):BB X (.BoolOp .And [a] pos) f:=by
 have ha:=ha.go;exact⟨by
  intro wh cM s σ H Q I h;refine isTrue_and (g7 (ha cM s σ H Q I h) λc s1 e=>?_)
  cases c with
  |true=>exact isTrue_and_nil e
  |false=>exact e⟩
def mG {f:cb}(ha:WQ X a f):BB X (.BoolOp .Or [a] pos) f:=⟨MA ha.go⟩
def vA {rest:List cH}{f g:cb}(ha:WQ X a f) (hb:BB X (.BoolOp .And (b::rest) pos) g):BB X (.BoolOp .And (a::b::rest) pos) (pQ f g):=⟨(Tr ha.go hb.go).imp Um⟩
def pY {rest:List cH}{f g:cb}(ha:WQ X a f) (hb:BB X (.BoolOp .Or (b::rest) pos) g):BB X (.BoolOp .Or (a::b::rest) pos) (Cr f g):=⟨(R9 ha.go hb.go).imp W7⟩
def jK (ha:WQ X a f):WQ X (.UnaryOp .Not a pos) (lR f):=⟨(Ts ha.go).imp λσ H Q ⟨C,δ,b,x,q,k⟩=>by
 unfold lR at q;cases hf:f δ with
 |none=>rw[hf]at q;cases q
 |some c=>
  rw[hf]at q;cases q;exact⟨C,δ,c,x,hf,k⟩⟩
def D3 (h:WD X a f):WD X (.BoolOp op [a] pos) f:=by
 have h:=h.go;exact⟨λcM s σ H Q I hw=>BoolOp_one (h cM s σ H Q I hw)⟩
def zE {rest:List cH}{f g:bZ}(ha:WD X a f) (hb:WD X (.BoolOp .And (b::rest) pos) g):WD X (.BoolOp .And (a::b::rest) pos) (DQ f g):=⟨(Tt ha.go hb.go).imp λσ H Q ⟨C,δ,d,x,q,k⟩=>by
 unfold DQ at q;split at q
 ·rename_i hf;exact⟨C,δ,_,x,hf,λv C' H' ev i=>by cases i;exact⟨true,rfl,yp ⟨C',δ,d,x.ev ev,q,λu C2 H2 e2 i2=>k u C2 H2 (ev.trans e2) i2⟩⟩⟩
 ·rename_i hf;cases q;exact⟨C,δ,_,x,hf,λv C' H' ev i=>by cases i;exact⟨false,rfl,Br (k _ C' H' ev (.bl _))⟩⟩
 ·cases q⟩
def zF (hc:WQ X c q) (ha:WD X a f) (hb:WD X b g):WD X (.IfExp c a b pos) (VI q f g):=⟨(MB hc.go ha.go hb.go).imp λσ H Q ⟨C,δ,d,x,h,k⟩=>by
 unfold VI at h;split at h
 ·rename_i hf;exact⟨C,δ,true,x,hf,λC' H' ev=>yp ⟨C',δ,d,x.ev ev,h,λu C2 H2 e2 i2=>k u C2 H2 (ev.trans e2) i2⟩⟩
 ·rename_i hf;exact⟨C,δ,false,x,hf,λC' H' ev=>Br ⟨C',δ,d,x.ev ev,h,λu C2 H2 e2 i2=>k u C2 H2 (ev.trans e2) i2⟩⟩
 ·cases h
⟩
end
section
variable {X:Cx}{e:cH}{es:List cH}{pos p:Pos}{x:Str}
def cR:Hq X [] cT:=⟨yF⟩
def cO (ha:WD X e f) (hr:Hq X es g) (hs:cL e es X.env:=by exact fS rfl):Hq X (e::es) (cN f g):=⟨vn ha.go hr.go hs⟩
def dq:Ux X [] cT:=⟨(rK (X:=X)).imp λσ H Q ⟨C,δ,ds,x,q,k⟩=>by cases q;exact k [] C H (.refl x.sub) .nil⟩
def da (ha:WO X e f) (hr:Ux X es g) (hs:cL e es X.env:=by exact fS rfl):Ux X (e::es) (cN f g):=⟨(jy ha.go hr.go hs).imp λσ H Q ⟨C,δ,ds,x,q,k⟩=>by
 unfold cN at q;cases hf:f δ with
 |none=>rw[hf]at q;cases q
 |some d=>
  cases hg:g δ with
  |none=>rw[hf,hg]at q;cases q
  |some r=>
   rw[hf,hg]at q;cases q;exact⟨C,δ,d,x,hf,λv C1 H1 e1 i1=>⟨C1,δ,r,x.ev e1,hg,λvs C2 H2 e2 i2=>k _ C2 H2 (e1.trans e2) (.cons (i1.ev e2) i2)⟩⟩⟩
def eL (h:Hq X es f):WD X (.Tuple es k pos) (fV f):=⟨(TL h.go).imp λσ H Q ⟨C,δ,d,x,q,k⟩=>by
 unfold fV at q;cases hf:f δ with
 |none=>rw[hf]at q;cases q
 |some ds=>
  rw[hf]at q;simp only[ao]at q;split at q
  ·rename_i hz;cases q;refine⟨C,δ,ds,x,hf,λvs C1 H1 e1 i1=>⟨?_,λp hp=>k _ _ _ (e1.trans (.new e1.s hp)) (.tup dh (i1.mono (fu (e1.s.free hp))))⟩⟩
   rw[i1.length];exact bg (mP hz)
  ·cases q⟩
def ma (h:Hq X es f):WF X (.List es pos) (rO f):=⟨(TM h.go).imp λσ H Q ⟨C,δ,d,x,q,k⟩=>by
 unfold rO at q;cases hf:f δ with
 |none=>rw[hf]at q;cases q
 |some ds=>
  rw[hf]at q;simp only[ao]at q;split at q
  ·rename_i hz;cases q;refine⟨C,δ,_,x,hf,λvs C1 H1 e1 i1=>⟨?_,λp hp=>k p vs C1 _ (e1.trans (.gm e1.s hp)) (e1.free hp) (e1.s.free hp) dh i1⟩⟩
   rw[i1.length];exact bg (mP hz)
  ·cases q
⟩
def eA {id:String}{g:cc}{f:bX}(hc:xR X (.builtin id) g) (hg:Gl X x) (hm:X.mg x=none) (hv:bootBuiltins x=some (.builtin id)) (ha:Ux X (e::es) f) (hn:x≠"__name__":=by decide) (yn:(x==("__debug__":Str))=false:=by decide) (he:cL e es X.env:=by exact fS rfl) (mn:(backTo pos (starEach es X.env)).any (·.1)=false:=by exact hZ rfl):WD X (.Call (.Name x p) (e::es) [] pos) (cU g f):=⟨by
 have ha:=ha.go;obtain⟨r,h1,h2⟩:=hc;exact(zd h1 hg hm hv ha hn yn he mn).imp (Ss h2)⟩
def je {id:String}{g:cw->Option (cw)}{f:bX}(hc:Ct X (.builtin id) g) (hg:Gl X x) (hm:X.mg x=none) (hv:bootBuiltins x=some (.builtin id)) (ha:Ux X (e::es) f) (hn:x≠"__name__":=by decide) (yn:(x==("__debug__":Str))=false:=by decide) (he:cL e es X.env:=by exact fS rfl) (mn:(backTo pos (starEach es X.env)).any (·.1)=false:=by exact hZ rfl):WF X (.Call (.Name x p) (e::es) [] pos) (eP g f):=⟨by
 have ha:=ha.go;obtain⟨r,h1,h2⟩:=hc;exact(zd h1 hg hm hv ha hn yn he mn).imp (Su h2)⟩
def ff (hc:xR X (.type T) g) (hg:Gl X x) (hm:X.mg x=none) (hv:bootBuiltins x=some (.type T)) (ha:Ux X (e::es) f) (hn:x≠"__name__":=by decide) (yn:(x==("__debug__":Str))=false:=by decide) (he:cL e es X.env:=by exact fS rfl) (mn:(backTo pos (starEach es X.env)).any (·.1)=false:=by exact hZ rfl):WD X (.Call (.Name x p) (e::es) [] pos) (cU g f):=⟨by
 have ha:=ha.go;obtain⟨r,h1,h2⟩:=hc;exact(wL h1 hg hm hv ha hn yn he mn).imp (Ss h2)⟩
def xf (hc:Ct X (.type T) g) (hg:Gl X x) (hm:X.mg x=none) (hv:bootBuiltins x=some (.type T)) (ha:Ux X (e::es) f) (hn:x≠"__name__":=by decide) (yn:(x==("__debug__":Str))=false:=by decide) (he:cL e es X.env:=by exact fS rfl) (mn:(backTo pos (starEach es X.env)).any (·.1)=false:=by exact hZ rfl):WF X (.Call (.Name x p) (e::es) [] pos) (eP g f):=⟨by
 have ha:=ha.go;obtain⟨r,h1,h2⟩:=hc;exact(wL h1 hg hm hv ha hn yn he mn).imp (Su h2)⟩
end
variable [Mem]
section
variable {X:Cx}{C0 H0:Hp}{st:cI}{ZH rest:List cI}{e:cH}{pos:Pos}{f g:bY}
def dR:wH X C0 H0 [] fW:=⟨λB=>Dz.imp λDn σ H ⟨C,δ,r,g,q,k⟩=>by cases q;exact k σ C H g⟩
def cX (h:WB X C0 H0 st f):wH X C0 H0 [st] f:=⟨λB=>JE (h.go B)⟩
def cV (h:WB X C0 H0 st f) (h2:wH X C0 H0 rest g):wH X C0 H0 (st::rest) (dH f g):=⟨λB=>(va (h.go B) (h2.go B)).imp λDn σ H ⟨C,δ,r,gd,q,k⟩=>by
 unfold dH at q;split at q
 ·rename_i δ' hf;exact⟨C,δ,.next δ',gd,hf,λσ' C' H' g'=>⟨C',δ',r,g',q,k⟩⟩
 ·rename_i hn;refine⟨C,δ,r,gd,q,?_⟩;cases r with
  |next δ'=>exact absurd q (hn δ')
  |ret d=>exact k
  |brk δ'=>exact k
  |cont δ'=>exact k
⟩
def fJ (i:Nat) (h:wH X C0 H0 ZH f):wH X C0 H0 ZH (hO i f):=⟨λB=>(h.go B).imp λDn σ H ⟨C,δ,r,gd,q,k⟩=>by
 obtain⟨C',g'⟩:=gd.give i;exact⟨C',_,r,g',q,k⟩⟩
def dv {f:bZ}(he:WD X e f):WB X C0 H0 (.Return (some e) pos) (eh f):=⟨λB=>(Tu he.go).imp λDn σ H ⟨C,δ,r,gd,q,k⟩=>by
 unfold eh at q;cases hf:f δ with
 |none=>rw[hf]at q;cases q
 |some d=>
  rw[hf]at q;cases q;exact⟨C,δ,d,gd.x,hf,λv C' H' ev i=>k v C' H' (gd.ev.trans ev) i⟩⟩
def fN (i:Nat) {x:Str}{pos':Pos}{f:bZ}(hN:X.N.Nodup) (he:WD X e f) (hi:X.N[i]? =some x:=by rfl) (hx:Loc X.env.scope x:=by first|exact Or.inl rfl|exact Or.inr rfl) (hs:swapsWith e (some (.Name x pos')) pos.line X.env=pure false:=by rfl) (hf:X.fn x=true\/X.env.scope.names.lookup x=some .local:=by first|exact .inl rfl|exact .inr rfl):WB X C0 H0 (.Assign [.Name x pos'] e pos) (i6 i f):=⟨λB=>(Hv hN hi hx he.go hs hf).imp (Up λ_ _ _ h=>h)⟩
def iH (i:Nat) {x:Str}{pos':Pos}{f:bX}(hN:X.N.Nodup) (he:WF X e f) (hi:X.N[i]? =some x:=by rfl) (hx:Loc X.env.scope x:=by first|exact Or.inl rfl|exact Or.inr rfl) (hs:swapsWith e (some (.Name x pos')) pos.line X.env=pure false:=by rfl) (hf:X.fn x=true\/X.env.scope.names.lookup x=some .local:=by first|exact .inl rfl|exact .inr rfl):WB X C0 H0 (.Assign [.Name x pos'] e pos) (gQ i f):=⟨λB=>(Hv hN hi hx he.go hs hf).imp (Nt λ_ _ _ h=>h)⟩
def fE (hc:WQ X c q) (ha:wH X C0 H0 a f) (hb:wH X C0 H0 b g):WB X C0 H0 (.If c a b pos) (kW q f g):=⟨λB=>(MD hc.go (ha.go B) (hb.go B)).imp λDn σ H ⟨C,δ,r,gd,h,k⟩=>by
 unfold kW at h;split at h
 ·rename_i hf;exact⟨C,δ,true,gd.x,hf,λC' H' ev=>yp ⟨C',δ,r,gd.Bv ev,h,k⟩⟩
 ·rename_i hf;exact⟨C,δ,false,gd.x,hf,λC' H' ev=>Br ⟨C',δ,r,gd.Bv ev,h,k⟩⟩
 ·cases h
⟩
end
section
variable {X:Cx}{tg e:cH}
def rT (h:WD X e f):rA X tg e (iL f):=⟨Fu h.go⟩
def eG (h:WD X e f):rA X tg e (iT f):=⟨JS h.go⟩
def pZ (h:WO X e f):Xh X tg e (iL f):=⟨(JH h.go).imp λσ H R ⟨C,δ,ds,x,q,k⟩=>by
 unfold iL at q;split at q
 ·rename_i es hf;cases q;refine⟨C,δ,_,x,hf,λv C' H' ev i=>?_⟩
  rcases i with i|⟨a,xs,JP,rfl,e2,h2,h3,h4⟩
  ·cases i with
   |lst hr hl=>exact⟨_,rfl,⟨_,.inl (hr.same ev.s)⟩,k _ C' H' ev λi C2 H2 e2=>Cu hr hl i C2 H2 e2.c e2.s⟩
  ·cases e2;refine⟨a,rfl,⟨xs,rD.of h3⟩,k _ C' H' ev λi C2 H2 e2=>?_⟩
   have hq:rD X.K H2 a xs:=rD.of (e2.hh h3);refine⟨λd hd=>?_,λhi=>⟨xs,hq,by rw[h4.length];exact hi⟩⟩
   obtain⟨v,hv,is⟩:=h4.get hd;exact⟨⟨xs,v,hq,hv⟩,λx H3 ⟨z1,z2⟩=>⟨z1,by
    have:=z2 xs hq;rw[hv]at this;cases this;exact is.mono e2.c⟩⟩
 ·cases q
⟩
def iI (hg:Gl X "range") (hm:X.mg "range"=none) (ha:Hq X [a] f) (hs:starEach [a] X.env=[(false,eval a X.env)]:=by exact fS rfl):rA X tg (.Call (.Name "range" p) [a] [] pos) (wG f):=⟨(KY hg hm ha.go hs).imp λσ H R ⟨C,δ,ds,x,q,k⟩=>by
 unfold wG at q;split at q
 ·rename_i j hf;split at q
  ·rename_i hj;cases q;refine⟨C,δ,_,x,hf,λvs C' H' ev i=>?_⟩
   cases i with
   |cons i1 i2=>
    cases i2;cases i1;exact⟨j,rfl,by omega,by omega,k _ C' H' ev zq⟩
  ·cases q
 ·cases q⟩
def Ii (hg:Gl X "range") (hm:X.mg "range"=none) (ha:Hq X [a,b] f) (hs:starEach [a,b] X.env=[(false,eval a X.env),(false,eval b X.env)]:=by exact fS rfl) (K0:starEach [b] X.env=[(false,eval b X.env)]:=by exact fS rfl):rA X tg (.Call (.Name "range" p) [a,b] [] pos) (ZI f):=⟨(KZ hg hm ha.go hs K0).imp λσ H R ⟨C,δ,ds,x,q,k⟩=>by
 unfold ZI at q;split at q
 ·rename_i i j hf;split at q
  ·rename_i hj;cases q;refine⟨C,δ,_,x,hf,λvs C' H' ev i'=>?_⟩
   cases i' with
   |cons i1 i2=>
    cases i2 with
    |cons i2 i3=>
     cases i3;cases i2;cases i1;exact⟨i,j,rfl,by omega,k _ C' H' ev zq⟩
  ·cases q
 ·cases q
⟩
def ip (hp:PassesOwn (model X.prog X.w) X.A X.env X.xe) (hc:X.calm=true) (hi:rA X tg iter i) (hg:PG X tg (JG j)) (hb:wH X C0 H0 body f) (hs:∀x,foldedSetIterable iter X.env x=pure x:=by intro _;rfl):WB X C0 H0 (.For tg iter body [] pos) (kz j i f):=⟨λB cM s σ H Dn I h=>by
 obtain⟨C,δ,r,gd,q,k⟩:=h;unfold kz at q;cases hf:i δ with
 |none=>rw[hf]at q;cases q
 |some ds=>
  rw[hf]at q;simp only[ao]at q;have main:∀J C1 H1,Ev C H C1 H1->Wk J ds C1->∃W:Nat->Nat->L2.St->Hp->Prop,(∃m,W 0 m σ H1)/\∀i m σ H,W i m σ H->
    (J.stop i H/\Dn.nx σ H)\/(J.go i H/\∃N:L2.St->Hp->Prop,(∀σ' H',N σ' H'->∃m',m'<m/\W (i+1) m' σ' H')/\∀x H',J.Tw i H x H'->JG j x σ H' λσ2 H2=>tS C1 C0 H0 f {Dn with nx:=N,ct:=N,bk:=Dn.nx} σ2 H2):=by
   intro J C1 H1 ev wk;have bs:eE B C1:=gd.b.trans ev.c;refine⟨λn m σ H=>∃C δ,m=ds.length-n/\n<=ds.length/\Gd C1 C0 H0 δ σ C H/\gp j f (ds.drop n) δ=some r,⟨ds.length,C1,δ,by simp,bK _,⟨eE.refl _,gd.ev.trans ev,gd.x.ev ev,gd.fr⟩,by simpa using q⟩,?_⟩
   rintro n m σ2 H2 ⟨C2,δ2,rfl,hn,g2,q2⟩
   have w:=wk n C2 H2 g2.b g2.x.sub;by_cases fP:n<ds.length
   ·have hd:ds[n]? =some ds[n]:=ah fP;obtain⟨go,yl⟩:=w.1 _ hd;rw[drop_eq_getElem_cons fP]at q2;refine .inr ⟨go,λσ' H'=>∃C' δ',Gd C1 C0 H0 δ' σ' C' H'/\gp j f (ds.drop (n+1)) δ'=some r,λσ' H' ⟨C',δ',g',q'⟩=>⟨ds.length-(n+1),by omega,C',δ',rfl,fP,g',q'⟩,λx H3 y=>?_⟩
    obtain⟨rfl,is⟩:=yl x H3 y;have g3:=g2.wR (i:=j) is;unfold gp at q2;show tS C1 C0 H0 f {Dn with nx:=_,ct:=_,bk:=Dn.nx} (σ2.set j (some x)) _
    cases Xi:f (δ2.set j (.dat ds[n]))with
    |none=>rw[Xi]at q2;cases q2
    |some rb=>
     rw[Xi]at q2;refine⟨C2,δ2.set j (.dat ds[n]),rb,g3,Xi,?_⟩;cases rb with
     |next δ'=>exact λσ' C' H' g'=>⟨C',δ',g',q2⟩
     |cont δ'=>exact λσ' C' H' g'=>⟨C',δ',g',q2⟩
     |brk δ'=>
      cases q2;exact λσ' C' H' g'=>k σ' C' H' ⟨bs.trans g'.b,g'.ev,g'.x,g'.fr⟩
     |ret d=>
      cases q2;exact k
   ·have e:n=ds.length:=by omega
    subst e;rw[drop_length]at q2;unfold gp at q2;cases q2;exact .inl ⟨w.2 (au _),k σ2 C2 H2 ⟨bs.trans g2.b,g2.ev,g2.x,g2.fr⟩⟩
  refine Tz (tb:=λZP σ' H'=>∃C1,tS C1 C0 H0 f ZP σ' H') hp hc hi.go hg (λcM s σ H ZP I ⟨C1,h⟩=>hb.go C1 cM s σ H ZP I h) hs cM s σ H Dn I ?_
  refine⟨C,δ,ds,gd.x,hf,λJ C1 H1 ev wk=>?_⟩
  obtain⟨W,w0,st⟩:=main J C1 H1 ev wk;refine⟨W,w0,λi m σ H w=>?_⟩
  rcases st i m σ H w with z|⟨go,N,hN,hy⟩
  ·exact .inl z
  ·exact .inr ⟨go,N,hN,λx H' y=>⟨C1,hy x H' y⟩⟩⟩
end
section
variable {X:Cx}{elt iter:cH}{x:Str}{px pos:Pos}{scope:Scope}{i:bX}{t:cb}{f:bZ}
def jA (j:Nat) (hc:X.calm=true) (S:uL X scope x j) (hi:Xh X (.Name x px) iter i) (he:∀cl C s H fp,WD (fj X scope cl C s H fp) elt f) (hs:∀v,foldedSetIterable iter X.env v=pure v:=by intro _;rfl):WF X (.ListComp elt [⟨.Name x px,iter,[],0⟩] scope pos) (ei i j lS f):=⟨(JM hc S.G hi.go (λ_ _ _ _ _=>Fm) (λcl C s H fp=>(he cl C s H fp).go) hs).imp (HY Nv)⟩
def fM (j:Nat) (hc:X.calm=true) (S:uL X scope x j) (hi:Xh X (.Name x px) iter i) (ht:∀cl C s H fp,WQ (fj X scope cl C s H fp) c t) (he:∀cl C s H fp,WD (fj X scope cl C s H fp) elt f) (hs:∀v,foldedSetIterable iter X.env v=pure v:=by intro _;rfl):WF X (.ListComp elt [⟨.Name x px,iter,[c],0⟩] scope pos) (ei i j t f):=⟨(JM hc S.G hi.go (λcl C s H fp=>Fn ((λcl C s H fp=>(ht cl C s H fp).go) cl C s H fp)) (λcl C s H fp=>(he cl C s H fp).go) hs).imp (HY λ_ _ _ h=>h)⟩
variable {C0 H0:Hp}{y:Str}{py DK:Pos}
def jB (k j:Nat) (hc:X.calm=true) (S:uL X scope x j) (hi:Xh X (.Name x px) iter i) (ht:∀cl C s H fp,WQ (fj X scope cl C s H fp) c t) (he:∀cl C s H fp,WD (fj X scope cl C s H fp) elt f) (hN:X.N[k]? =some y:=by rfl) (hy:Loc X.env.scope y:=by first|exact Or.inl rfl|exact Or.inr rfl) (hf:X.fn y=true\/X.env.scope.names.lookup y=some .local:=by first|exact .inl rfl|exact .inr rfl) (WV:swapsWith (.ListComp elt [⟨.Name x px,iter,[c],0⟩] scope pos) (some (.Name y py)) DK.line X.env=pure true:=by rfl) (hs:∀v,foldedSetIterable iter X.env v=pure v:=by intro _;rfl):WB X C0 H0 (.Assign [.Name y py] (.ListComp elt [⟨.Name x px,iter,[c],0⟩] scope pos) DK) (gQ k (ei i j t f)):=⟨λB=>
 (zm hc S hi.go (λcl C s H fp=>Fn ((λcl C s H fp=>(ht cl C s H fp).go) cl C s H fp)) (λcl C s H fp=>(he cl C s H fp).go) hN hy hf WV hs).imp (Nt (HY λ_ _ _ h=>h))⟩
end
variable [Mem]
section
variable {X:Cx}{a b c o:cH}{pos:Pos}{f g h:bZ}
def dZ (ha:WO X a f) (hb:WO X b g) (hs:yC b):WD X (.Subscript a b pos) (dw gK f g):=⟨W4 Uc W9 ha.go hb.go hs⟩
def Uy (ha:WO X a f):WD X (.UnaryOp .USub a pos) (Q0 f):=⟨(Sd MK ha.go).imp λσ H Q ⟨C,δ,d,x,q,k⟩=>by
 unfold Q0 at q;split at q
 ·rename_i i hf;cases q;exact⟨C,δ,_,x,hf,λv C' H' ev i'=>⟨i,i'.int,k _ C' H' ev (.int _)⟩⟩
 ·cases q⟩
def NI {op VB:CmpOp}{o o':D->D->Option D}(c1:vm X op o) (c2:vm X VB o') (ha:WO X a f) (hb:WO X b g) (hc:WO X c h) (hm:lastMarks [op,VB] [b,c]=false:=by with_unfolding_all rfl):WD X (.Compare a [op,VB] [b,c] pos) (zp o o' f g h):=⟨by
 have ha:=ha.go;have hb:=hb.go;have hc:=hc.go;obtain⟨r,h1,h2⟩:=c1;obtain⟨r',h3,h4⟩:=c2;exact(MN h1 h3 ha hb hc hm).imp (Ny h2 h4)⟩
end
variable [Mem]
section
variable {X:Cx}{a b e o:cH}{pos p p2:Pos}{f g:bZ}
def nU (ha:WO X a f) (hb:WO X b g):WF X (.BinOp a .Add b pos) (dw wZ f g):=⟨W3 Q1 Q2 ha.go hb.go⟩
def D4 {lo hi:Option cH}{fl fh:gh->Option (Option Int)}(he:WO X e f) (hl:WP X lo fl) (hh:WP X hi fh):WF X (.Subscript e (.Slice lo hi none p2) pos) (Ib f fl fh):=⟨(Fh QJ he.go hl.go hh.go).imp λσ H Q ⟨C,δ,ds,x,q,k⟩=>by
 unfold Ib at q;split at q
 ·rename_i es hf;cases h1:fl δ with
  |none=>rw[h1]at q;cases q
  |some l=>
   cases h2:fh δ with
   |none=>rw[h1,h2]at q;cases q
   |some u=>
    rw[h1,h2]at q;cases q;refine⟨C,δ,_,x,hf,λv C1 H1 e1 i1=>⟨C1,δ,l,x.ev e1,h1,λC2 H2 e2=>⟨C2,δ,u,x.ev (e1.trans e2),h2,λC3 H3 e3=>?_⟩⟩⟩
    obtain⟨p,xs,rfl,hq,ll⟩:=((i1.ev e2).ev e3).list (K:=X.K) e3.s;have ev:=(e1.trans e2).trans e3;exact⟨p,xs,rfl,hq,λt ht=>k t _ C3 _ (ev.trans (.gm e3.s ht)) (ev.free ht) (e3.s.free ht) dh (ll.cut l u)⟩
 ·cases q⟩
def rV (kit:JV T) (bt:bootBuiltins x=some (.type T)) (ha:WO X a f) (hg:Gl X "isinstance") (hm:X.mg "isinstance"=none) (hgT:Gl X x) (hmT:X.mg x=none) (hn:x≠"__name__":=by decide) (hd:(x==("__debug__":Str))=false:=by decide) (he:starEach [a,.Name x p2] X.env=(false,eval a X.env)::starEach [.Name x p2] X.env:=by exact fS rfl) (he2:cL (.Name x p2) [] X.env:=by exact fS rfl) (mn:(backTo pos (starEach [.Name x p2] X.env)).any (·.1)=false:=by exact hZ rfl):WD X (.Call (.Name "isinstance" p) [a,.Name x p2] [] pos) (w5 T f):=⟨(zd (NB T) hg hm Bx (jy ha.go (jy (Qp (v:=.ty T) hgT hmT bt rfl hn hd) rK he2) he) (by decide) (by decide) he mn).imp λσ H Q ⟨C,δ,d,x,q,k⟩=>by
  unfold w5 at q;cases hf:f δ with
  |none=>rw[hf]at q;cases q
  |some dx=>
   rw[hf]at q;cases q;exact⟨C,δ,dx,x,hf,λv C' H' ev i=>⟨v,_,_,rfl,Ut ev.s i,kit X.K dx,k _ C' H' ev (.bl _)⟩⟩⟩
def vB {f:bX}{p' pos':Pos}(hc:X.calm=true) (hg:Gl X "list") (hm:X.mg "list"=none) (ZQ:Gl X "range") (NJ:X.mg "range"=none) (ha:Hq X [a] f) (hs:starEach [a] X.env=[(false,eval a X.env)]:=by exact fS rfl) (he:starEach [.Call (.Name "range" p') [a] [] pos'] X.env=(false,eval (.Call (.Name "range" p') [a] [] pos') X.env)::starEach [] X.env:=by exact fS rfl) (mn:(backTo pos (starEach [] X.env)).any (·.1)=false:=by exact hZ rfl):WF X (.Call (.Name "list" p) [.Call (.Name "range" p') [a] [] pos'] [] pos) (wG f):=⟨(wL (BA hc) hg hm yI (jy (Cy ZQ NJ ha.go hs) rK he) (by decide) (by decide) he mn).imp λσ H Q ⟨C,δ,ds,x,q,k⟩=>by
  unfold wG at q;split at q
  ·rename_i j hf;split at q
   ·rename_i hj;cases q;refine⟨C,δ,_,x,hf,λvs C' H' ev i=>?_⟩
    cases i with
    |cons i1 i2=>
     cases i2;cases i1;refine⟨j,rfl,λt ht=>⟨t,j,rfl,dh,hj.1,hj.2,λl hl=>?_⟩⟩
     have e1:=Ev.gm (o:=HO.Ml 0 j) ev.s ht;exact k l _ C' _ ((ev.trans e1).trans (.gm e1.s hl)) (ev.free (e1.free hl)) (ev.s.free (e1.free hl)) dh (.ints _)
   ·cases q
  ·cases q⟩
end
variable [Mem]
section
variable {X:Cx}{e:cH}{pos:Pos}{C0 H0:Hp}{f:bZ}
def NK (ho:PE X o (lQ i)) (he:WD X e f) (vC:cL e [] X.env:=by exact fS rfl) (zh:attributeBase o "append" X.env (eval o X.env)=eval o X.env:=by rfl) (HL:((backTo pos (starEach [e] X.env)).all (λx=> !x.1)&&(backToKw pos (keywordEach [] X.env)).all (λx=>x.1.isSome)
   &&decide ([e].length+([]:List Keyword).length+(if([]:List Keyword).isEmpty then 0 else 1)<30))=true:=by exact Uo rfl) (zi:(apos.endLine==pos.line)=true:=by rfl) (uK:(backTo pos (starEach [] X.env)).any (·.1)=false:=by exact hZ rfl) (hs:swapsWith (.Call (.Attribute o "append" apos) [e] [] pos) none pos'.line X.env=pure false:=by rfl):WB X C0 H0 (.Expr (.Call (.Attribute o "append" apos) [e] [] pos) pos') (HX i f):=⟨Ll (vn he.go yF vC) ho (λ_ _ _ h=>h) (MZ PySem.F.plainAttrs_list PySem.F.slot_list_append PySem.F.type_list_append Ck ho (vn he.go yF vC) zh HL zi vC uK) hs⟩
variable {o iter:cH}{x y:Str}{px py DK apos gP:Pos}{scope:Scope}{i:bX}
def Q6 (k j m:Nat) (hc:X.calm=true) (ZN:m≠j) (S:uL X scope x j) (hi:rA X (.Name x px) iter i) (ho:∀cl C s H fp,PE (fj X scope cl C s H fp) o (lQ m)) (he:∀cl C s H fp,WD (fj X scope cl C s H fp) e f) (vC:∀cl C s H fp,starEach [e] (fj X scope cl C s H fp).env=(false,eval e (fj X scope cl C s H fp).env)::starEach [] (fj X scope cl C s H fp).env:=by intros;exact fS rfl) (zh:∀cl C s H fp,attributeBase o "pop" (fj X scope cl C s H fp).env (eval o (fj X scope cl C s H fp).env)=eval o (fj X scope cl C s H fp).env:=by intros;rfl) (HL:∀cl C s H fp,((backTo gP (starEach [e] (fj X scope cl C s H fp).env)).all (λx=> !x.1)&&(backToKw gP (keywordEach [] (fj X scope cl C s H fp).env)).all (λx=>x.1.isSome)
   &&decide ([e].length+([]:List Keyword).length+(if([]:List Keyword).isEmpty then 0 else 1)<30))=true:=by intros;exact Uo rfl) (zi:(apos.endLine==gP.line)=true:=by rfl) (uK:∀cl C s H fp,(backTo gP (starEach [] (fj X scope cl C s H fp).env)).any (·.1)=false:=by intros;rfl) (hN:X.N[k]? =some y:=by rfl) (hy:Loc X.env.scope y:=by first|exact Or.inl rfl|exact Or.inr rfl) (hf:X.fn y=true\/X.env.scope.names.lookup y=some .local:=by first|exact .inl rfl|exact .inr rfl) (WV:swapsWith (.ListComp (.Call (.Attribute o "pop" apos) [e] [] gP) [⟨.Name x px,iter,[],0⟩] scope pos) (some (.Name y py)) DK.line X.env=pure true:=by rfl) (hs:∀v,foldedSetIterable iter X.env v=pure v:=by intro _;rfl):WB X C0 H0 (.Assign [.Name y py] (.ListComp (.Call (.Attribute o "pop" apos) [e] [] gP) [⟨.Name x px,iter,[],0⟩] scope pos) DK) (Fz k j m i f):=⟨λB=>
 (zm hc S hi.go (λ_ _ _ _ _=>Fm) (λcl C s H fp=>MZ PySem.F.plainAttrs_list PySem.F.slot_list_pop PySem.F.type_list_pop M4 (ho cl C s H fp) (vn ((λcl C s H fp=>(he cl C s H fp).go) cl C s H fp) yF (vC cl C s H fp)) (zh cl C s H fp) (HL cl C s H fp) zi (vC cl C s H fp) (uK cl C s H fp)) hN hy hf WV hs).imp (NH ZN Nv)⟩
end
section
variable {X:Cx}{e:cH}{es:List cH}{p pos:Pos}{x:Str}
def dc (c:gZ X.prog X.w X.K X.mg X.base k x g) (hr:hW k X.A) (hg:Gl X x) (ha:Hq X (e::es) fa) (yn:(x==("__debug__":Str))=false:=by decide) (he:cL e es X.env:=by exact fS rfl) (mn:(backTo pos (starEach es X.env)).any (·.1)=false:=by exact hZ rfl):WD X (.Call (.Name x p) (e::es) [] pos) (cU g fa):=⟨by
 have ha:=ha.go;obtain⟨f,fd,ps,F,hm,hk,hb⟩:=c;exact QX F hr hg hm hk hb ha yn he mn⟩
end
end DL
namespace DL
open L2
variable [Mem]
noncomputable def D5:D->Option Bool
 |.eU=>some false
 |.bl b=>some b
 |.int i=>some (i !=0)
 |.str z=>if z.length<=1000000 then some ((z.length:Int)!=0)else none
 |.tup ds=>some (!ds.isEmpty)
 |.lst ds=>some (!ds.isEmpty)
def qT (f:bZ):cb:=λδ=>(f δ).bind D5
theorem IsL.isEmpty (l:IsL C xs ds):xs.isEmpty=ds.isEmpty:=by cases l<;>rfl
def JX {K:W.Frag}{C H:Hp}{v:V}{d:D}{b:Bool}(s:eE C H) (i:pL C H v d) (h:D5 d=some b):Qv K v H b:=by
 cases d with
 |eU=>cases h;have:=i.is (λ_ z=>by cases z);cases this;rfl
 |bl c=>cases h;have:=i.is (λ_ z=>by cases z);cases this;rfl
 |int c=>cases h;have:=i.is (λ_ z=>by cases z);cases this;rfl
 |str z=>
  simp only[D5]at h;split at h
  ·rename_i hz;cases h;have:=i.is (λ_ z=>by cases z);cases this
   exact⟨aD hz (by decide),rfl⟩
  ·cases h
 |tup ds=>
  cases h;obtain⟨a,xs,rfl,hq,l,_⟩:=i.tup (K:=K) s;exact .inr (.inl ⟨xs,hq,by rw[l.isEmpty]⟩)
 |lst ds=>
  cases h;obtain⟨a,xs,rfl,hq,l⟩:=i.list (K:=K) s;exact .inl ⟨xs,hq,by rw[l.isEmpty]⟩
section
variable {X:Cx}{a b:cH}{p2:Pos}{h:bZ}
def NL:tX X (binaryOp .Add) (λx y H Q=>∃a b ys,x=.ref a/\y=.ref b/\mB X.K H a []/\mB X.K H b ys/\Q (.ref b) H):=by
 intro cM s σ H x y v u Q I rx ry h;obtain⟨a,b,ys,rfl,rfl,ha,hb,q⟩:=h;cases rx;cases ry;obtain⟨dE,r1,p1,_⟩:=I.tuple ha;obtain⟨mD,r2,p2,_⟩:=I.tuple hb;have e0:dE=[]:=by cases r1;rfl
 obtain⟨⟨cls,dd,data,sl⟩,ho,hc,n,hd⟩:=id p1;obtain⟨⟨TU,Qb,data2,Qc⟩,zf,vf,n2,hd2⟩:=id p2;simp only at hc hd vf hd2;subst hc hd vf hd2;exact concat_meets ⟨_,ho,rfl⟩ ⟨_,zf,rfl⟩ noFill_tuple_add seq_tuple_add PySem.F.slot_tuple_add PySem.F.entry_tuple_add (PySem.F.args_tuple_add_2 _ _)
   (tuple_addW0 a b dE.toArray mD.toArray n n2 dd Qb sl Qc (by simp[e0])) ⟨ho,zf,⟨.ref b,H,I,rfl,q⟩⟩
noncomputable def lh:D->D->Option D
 |.tup a,.tup b=>if a.length+b.length<=1000000 then some (.tup (a++b))else none
 |_,_=>none
def Q7:Qh (λx y H Q=>(∃a b ys,x=.ref a/\y=.ref b/\mB X.K H a []/\mB X.K H b ys/\Q (.ref b) H)\/Sh X.K x y H Q) lh:=λC H x y dx dy d Q s ix iy q k=>by
 unfold lh at q;split at q
 ·rename_i ds es;split at q
  ·rename_i hz;cases q;obtain⟨a,xs,rfl,hq,l,hc⟩:=ix.tup (K:=X.K) s;obtain⟨b,ys,rfl,VM,l2,vf⟩:=iy.tup (K:=X.K) s;cases ds with
   |nil=>
    cases l;exact .inl ⟨a,b,ys,rfl,rfl,hq,VM,k _ C H (.refl s) (.tup vf l2)⟩
   |cons d0 ds=>
    refine .inr ⟨a,b,xs,ys,rfl,rfl,hq,VM,(λz=>by rw[z]at l;cases l),by rw[l.length,l2.length];exact aD hz (by decide),λz=>?_,λz t ht=>?_⟩
    ·subst z;cases l2;exact k _ C H (.refl s) (.tup hc (by rw[bB];exact l))
    ·exact k _ _ _ (.new s ht) (.tup dh ((l.append l2).mono (fu (s.free ht))))
  ·cases q
 ·cases q
def IsL.Uz {C:Hp}{xs:List V}{ds:cw}(l:IsL C xs ds) {lo hi:Option Int}(h:HT.i8 xs.length 0 lo=0/\HT.i8 xs.length xs.length hi=xs.length):IsL C xs (uO ds lo hi):=by
 unfold uO;rw[<-l.length,h.1,h.2,drop_zero,Nat.sub_zero,l.length,take_length];exact l
end
end DL
namespace DL
open L2
instance:DecidableEq D:=Classical.typeDecidableEq D
mutual
inductive KI (h:Heap):cy->D->Prop where
 |int (n:Int) (t:Tok):KI h (.int n t) (.int n)
 |tup {a:cG}{o:Obj}{items:Array cy}{n:Nat}{ds:cw}:h.get? a=some o->o.cls=.type "tuple"->o.data=.seq items n->uR h items.toList ds->KI h (.ref a) (.tup ds)
inductive uR (h:Heap):cx->cw->Prop where
 |nil:uR h [] []
 |cons {v:cy}{d:D}{vs:cx}{ds:cw}:KI h v d->uR h vs ds->uR h (v::vs) (d::ds)
end
theorem uR.length:∀{vs:cx}{ds:cw},uR h vs ds->vs.length=ds.length
 |_,_,.nil=>rfl
 |_,_,.cons _ t=>congrArg (·+1) t.length
theorem uR.get {h:Heap}:∀{vs:cx}{ds:cw}{i:Nat}{v:cy},uR h vs ds->vs[i]? =some v->∃d,ds[i]? =some d/\KI h v d
 |_,_,_,_,.nil,e=>by simp at e
 |_,_,0,_,.cons h _,e=>⟨_,rfl,by simp only[aM,Option.some.injEq]at e;subst e;exact h⟩
 |_,_,i+1,_,.cons _ t,e=>by
  obtain⟨d,h1,h2⟩:=t.get (i:=i) (by simpa using e)
  exact⟨d,by simpa using h1,h2⟩
mutual
theorem KI.inj {h:Heap}:∀{v:cy}{d e:D},KI h v d->KI h v e->d=e
 |_,_,_,.int n t,.int _ _=>rfl
 |_,_,_,.tup h1 h2 h3 l,.tup HV Li Nm l'=>by
  rw[h1]at HV;cases HV;rw[h3]at Nm;injection Nm with e1 _;subst e1
  rw[l.inj l']
theorem uR.inj {h:Heap}:∀{vs:cx}{ds es:cw},uR h vs ds->uR h vs es->ds=es
 |_,_,_,.nil,.nil=>rfl
 |_,_,_,.cons h t,.cons h' t'=>by rw[h.inj h',t.inj t']
end
mutual
theorem KI.keeps {h h':Heap}{x:cG}{ox:Obj}{es:Array DictEntry}{ep:Nat}(ho:h.get? x=some ox) (hd:ox.data=.dict es ep) (hs:Heap.SameBut x h h'):∀{v:cy}{d:D},KI h v d->KI h' v d
 |_,_,.int n t=>.int n t
 |_,_,@KI.tup _ a o items n ds h1 h2 h3 l=>by
  have jX:a≠x:=by
   rintro rfl
   rw[ho]at h1;cases h1;rw[hd]at h3;exact nomatch h3
  exact .tup ((hs.2 a jX).trans h1) h2 h3 (uR.keeps ho hd hs l)
theorem uR.keeps {h h':Heap}{x:cG}{ox:Obj}{es:Array DictEntry}{ep:Nat}(ho:h.get? x=some ox) (hd:ox.data=.dict es ep) (hs:Heap.SameBut x h h'):∀{vs:cx}{ds:cw},uR h vs ds->uR h' vs ds
 |_,_,.nil=>.nil
 |_,_,.cons h t=>.cons (KI.keeps ho hd hs h) (uR.keeps ho hd hs t)
end
mutual
noncomputable def fF:D->Int
 |.int n=>hashInt n
 |.tup ds=>reduceHash (Builtin.Tuple.tupleHashOf (mZ ds))
 |_=>0
noncomputable def mZ:cw->cp
 |[]=>[]
 |d::ds=>fF d::mZ ds
end
mutual
noncomputable def zG:D->Nat
 |.tup ds=>qS ds+1
 |_=>1
noncomputable def qS:cw->Nat
 |[]=>0
 |d::ds=>zG d+qS ds
end
theorem qa:∀a b:cw,mZ (a++b)=mZ a++mZ b
 |[],b=>by simp[mZ]
 |x::a,b=>by simp[mZ,qa a b]
theorem qb:∀a b:cw,qS (a++b)=qS a+qS b
 |[],b=>by simp[qS]
 |x::a,b=>by simp[qS,qb a b,Nat.add_assoc]
section
variable {prog:cC}{w:cD}{E:cf}
def KI.hash (n:Nat):∀(A:cE) (s:cA) (v:cy) (d:D) (Q:Int->cA->Prop),eV d<=n->A.units+n<cLine->KI s.heap v d->Q (fF d) {s with toks:=s.toks+zG d}->wpAny (model prog w) A (pyHash v) Q E s:=by
 induction n with
 |zero=>
  intro A s v d Q hn hu k h;cases k with
  |int i t=>
   unfold fF zG at h;exact wpAny_pyHash_int h
  |tup h1 h2 h3 l=>unfold eV at hn;omega
 |succ n ih=>
  intro A s v d Q hn hu k h;cases k with
  |int i t=>
   unfold fF zG at h;exact wpAny_pyHash_int h
  |@tup a o items m ds ho hc hd l=>
   have hT:s.TypeIs (.ref a) "tuple":=⟨o,ho,hc⟩;have Hn:jO ds<=n:=by unfold eV at hn;omega
   unfold fF zG at h;unfold pyHash
   first|unfold pyHashByItsType|skip
   first|refine aa (wpAny_cRoomFor_or (.inr (by omega)) ?_)|skip
   refine aa (wpAny_specialOf hT F.slot_tuple_hash.lookup ?_);show wpAny _ _ (if(some (Value.builtin "tuple.__hash__")==some Value.none)=true then _ else _) Q E s
   rw[if_neg (by rw[beq_builtin_none];exact aZ)]
   refine aa (wpAny_specialOf hT F.slot_tuple_hash.lookup ?_);show wpAny _ _ (callSpecialIfBoundUnlessNone? (.ref a) "__hash__" _>>=_) Q E s;refine aa (wpAny_callSpecialIfBoundUnlessNone?_slot hT F.slot_tuple_hash (bL F.slot_tuple_hash hT F.entry_tuple_hash ?_ (F.args_tuple_hash_1 _)));show wpAny _ _ (Builtin.Tuple.tupleItemsOf (.ref a)>>=_) _ _ s;refine aa (wpAny_tupleItemsOf ho hd ?_);refine aa ?_;rw[<-Array.forIn_toList];refine wpAny_forIn_list _
    (λrest (b:Array Int) s'=>∃done left,ds=done++left/\uR s.heap rest left/\b.toList=mZ done/\s'={s with toks:=s.toks+qS done})
    _ ?_ ?_ _ _ ⟨[],ds,rfl,l,by simp[mZ],by simp[qS]⟩
   ·rintro x rest b s' ⟨done,left,rfl,hl,hb,rfl⟩
    cases hl with
    |@cons _ k _ Xj h1 pM=>
     have hk:eV k<=n:=aD (lT (aL _ af)) Hn;refine aa (ih _ {s with toks:=s.toks+qS done} x k _ hk ?_ h1 ?_)
     ·show A.units+1+n<cLine;omega
     ·first
       |exact aj ⟨done++[k],Xj,by simp,pM,by simp[hb,qa,mZ],by simp[Nat.add_assoc,qb,qS]⟩
       |exact aa (aj (aj ⟨done++[k],Xj,by simp,pM,by simp[hb,qa,mZ],by simp[Nat.add_assoc,qb,qS]⟩))
   ·rintro b s' ⟨done,left,rfl,hl,hb,rfl⟩
    cases hl;rw[bB]at h;show wpAny _ _ (retInt (Builtin.Tuple.tupleHashOf b.toList)) _ _ _;rw[hb];refine wpAny_ret_mkInt ?_;show wpAny _ _ (if(decide (-(2:Int)^63<=Builtin.Tuple.tupleHashOf (mZ done))&&decide (Builtin.Tuple.tupleHashOf (mZ done)<2^63))=true then _ else _) Q E _
    unfold reduceHash at h;by_cases hr:(decide (-(2:Int)^63<=Builtin.Tuple.tupleHashOf (mZ done))&&decide (Builtin.Tuple.tupleHashOf (mZ done)<2^63))=true
    ·rw[if_pos hr];rw[if_pos hr]at h;exact aj (by simpa [Nat.add_assoc]using h)
    ·rw[if_neg hr];rw[if_neg hr]at h;exact aa (wpAny_rule (aj (by simpa [Nat.add_assoc]using h)))
def KI.eq (n:Nat):∀(A:cE) (s:cA) (u v:cy) (d e:D),eV d<=n->A.units+n<cLine->KI s.heap u d->KI s.heap v e->SeqAt.EqAt A s u v (jJ d e):=by
 induction n with
 |zero=>
  intro A s u v d e hn hu ku kv;have Nx:A.units<cLine:=by omega
  cases ku with
  |int i t=>
   cases kv with
   |int j t'=>unfold jJ;exact SeqAt.EqAt.int_int i t j t'
   |@tup b o2 iF n2 es zf vf hd2 l2=>unfold jJ;exact SeqAt.EqAt.int_tuple i t (items:=iF) ⟨o2,zf,vf,n2,hd2⟩ Nx
  |tup h1 h2 h3 l=>unfold eV at hn;omega
 |succ n ih=>
  intro A s u v d e hn hu ku kv;have Nx:A.units<cLine:=by omega
  cases ku with
  |int i t=>
   cases kv with
   |int j t'=>unfold jJ;exact SeqAt.EqAt.int_int i t j t'
   |@tup b o2 iF n2 es zf vf hd2 l2=>unfold jJ;exact SeqAt.EqAt.int_tuple i t (items:=iF) ⟨o2,zf,vf,n2,hd2⟩ Nx
  |@tup a o items m ds ho hc hd l=>
   have Hn:jO ds<=n:=by unfold eV at hn;omega
   have p1:IsTup s.heap a items:=⟨o,ho,hc,m,hd⟩;cases kv with
   |int j t'=>unfold jJ;exact SeqAt.EqAt.tuple_int j t' p1 Nx
   |@tup b o2 iF n2 es zf vf hd2 l2=>
    have p2:IsTup s.heap b iF:=⟨o2,zf,vf,n2,hd2⟩;by_cases Qi:a=b
    ·subst Qi;have e:=KI.inj (KI.tup ho hc hd l) (KI.tup zf vf hd2 l2);rw[<-e,vo];exact SeqAt.EqAt.same _
    ·have hits:∀j (h1:j<items.size) (h2:j<iF.size),SeqAt.EqAt A.in1 s items[j] iF[j] (jJ (ds.getD j .eU) (es.getD j .eU)):=λj h1 h2=>by
      obtain⟨d1,e1,i1⟩:=l.get (i:=j) (v:=items[j]) (by simp[h1])
      obtain⟨d2,e2,i2⟩:=l2.get (i:=j) (v:=iF[j]) (by simp[h2])
      rw[ak,ak,e1,e2];exact ih A.in1 s _ _ d1 d2 (aD (lT (bh e1)) Hn) (by show A.units+1+n<cLine;omega) i1 i2
     have q:=SeqAt.RcAt.tuples p1 p2 Nx hits;have z1:items.size=ds.length:=by rw[<-aN,l.length]
     have z2:iF.size=es.length:=by rw[<-aN,l2.length]
     unfold jJ;rw[oW];rw[z1,z2]at q;exact SeqAt.EqAt.of_refs Qi q
mutual
theorem KI.jJ {h h':Heap}:∀{u v:cy}{d e:D},KI h u d->KI h' v e->jJ d e=decide (d=e)
 |_,_,_,_,.int i t,.int j t'=>by unfold DL.jJ;by_cases e:i=j<;>simp[e]
 |_,_,_,_,.int i t,.tup _ _ _ _=>by unfold DL.jJ;simp
 |_,_,_,_,.tup _ _ _ _,.int j t'=>by unfold DL.jJ;simp
 |_,_,_,_,.tup _ _ _ l,.tup _ _ _ l'=>by
  unfold DL.jJ;rw[uR.jY l l'];simp
theorem uR.jY {h h':Heap}:∀{us vs:cx}{ds es:cw},uR h us ds->uR h' vs es->jY ds es=decide (ds=es)
 |_,_,_,_,.nil,.nil=>by unfold DL.jY;simp
 |_,_,_,_,.nil,.cons _ _=>by unfold DL.jY;simp
 |_,_,_,_,.cons _ _,.nil=>by unfold DL.jY;simp
 |_,_,_,_,.cons a b,.cons a' b'=>by
  unfold DL.jY;rw[KI.jJ a a',uR.jY b b'];simp[Bool.decide_and]
end
def KI.quiet (n:Nat):∀(A:cE) (s:cA) (u:cy) (d:D) (Q:Bool->cA->Prop),eV d<=n->KI s.heap u d->Q true s->wpAny (model prog w) A (eqIsQuiet n u) Q E s:=by
 induction n with
 |zero=>
  intro A s u d Q hn k h;cases k with
  |int i t=>rw[eqIsQuiet_byValue _ rfl];exact aj h
  |tup h1 h2 h3 l=>unfold eV at hn;omega
 |succ n ih=>
  intro A s u d Q hn k h;cases k with
  |int i t=>rw[eqIsQuiet_byValue _ rfl];exact aj h
  |@tup a o items m ds ho hc hd l=>
   have hT:s.TypeIs (.ref a) "tuple":=⟨o,ho,hc⟩;have Hn:jO ds<=n:=by unfold eV at hn;omega
   unfold eqIsQuiet;refine aa (wpAny_specialOf hT F.slot_tuple_eq.lookup ?_);show wpAny _ _ (isInstance (.ref a) (.type "tuple")>>=_) _ _ s;refine aa (wpAny_isInstance hT isSubtype_tuple_tuple ?_);simp only[bS,aI,bD];refine aa (wpAny_seqItems ho hd ?_);refine aa ?_;show wpAny _ _ (forIn items _ _) _ _ s;rw[<-Array.forIn_toList];refine wpAny_forIn_list _ (λrest r s'=>r.1=none/\s'=s/\∃es,(∀e∈es,eV e<=n)/\uR s.heap rest es) _ ?_ ?_ _ _ ⟨rfl,rfl,ds,λe he=>aD (lT he) Hn,l⟩
   ·rintro v rest r s' ⟨hr,rfl,es,he,hk⟩
    cases hk with
    |cons k1 k2=>
     refine aa (ih A s' v _ _ (he _ af) k1 ?_);simp only[bS,aI,bD];exact aj ⟨rfl,rfl,_,λe h=>he e (ai _ h),k2⟩
   ·rintro⟨r1,r2⟩ s' ⟨hr,rfl,_⟩
    simp only at hr;subst hr;exact aj h
end
def mH (prog:cC) (w:cD):HeapKind prog w D where
 is:=λh d a=>KI h (.ref a) d/\eV d<=4
 hash:=fF
 draws:=zG
 room:=λA=>A.units+8<cLine
 inj:=λhx hy=>hx.1.inj hy.1
 keeps:=λx ho hd hs=>⟨x.1.keeps ho hd hs,x.2⟩
 pyHash:=λhu hk h=>KI.hash 4 _ _ _ _ _ hk.2 (by omega) hk.1 h
 eqBool:=λhu hx hy h=>KI.eq 4 _ _ _ _ _ _ hx.2 (by omega) hx.1 hy.1 _ _ _ _ (by rw[KI.jJ hx.1 hy.1];exact h)
 quiet:=λhk h=>KI.quiet 8 _ _ _ _ _ (aD hk.2 (by decide)) hk.1 h
mutual
noncomputable def ow:D->Bool
 |.int _=>true
 |.tup ds=>nV ds
 |_=>false
noncomputable def nV:cw->Bool
 |[]=>true
 |d::ds=>ow d&&nV ds
end
section
variable {X:Cx}{cM:cj}{σ:L2.St}{C H:Hp}{s:cA}
mutual
theorem Is.ki (I:Inv X cM σ H s) (sub:eE C H):∀(d:D) {v:V}{u:cy},ow d=true->Is C v d->RelV v u->KI s.heap u d
 |.int i,_,_,_,is,ru=>by
  cases is;obtain⟨t,rfl⟩:=ru;exact .int i t
 |.tup ds,_,_,hk,is,ru=>by
  cases is with
  |tup h l=>
   cases ru;obtain⟨dE,r,⟨o,ho,hc,n,hd⟩,_⟩:=I.tuple (mB.of (K:=X.K) (sub _ _ h));unfold ow at hk;exact .tup ho hc hd (by have:=IsL.kis I sub ds hk l r;simpa using this)
 |.eU,_,_,hk,_,_=>by unfold ow at hk;cases hk
 |.bl _,_,_,hk,_,_=>by unfold ow at hk;cases hk
 |.str _,_,_,hk,_,_=>by unfold ow at hk;cases hk
 |.lst _,_,_,hk,_,_=>by unfold ow at hk;cases hk
theorem IsL.kis (I:Inv X cM σ H s) (sub:eE C H):∀(ds:cw) {vs:List V}{us:cx},nV ds=true->IsL C vs ds->Vals vs us->uR s.heap us ds
 |[],_,_,_,l,r=>by
  cases l;cases r;exact .nil
 |d::ds,_,_,hk,l,r=>by
  cases l with
  |cons h t=>
   cases r with
   |cons r rs=>
    unfold nV at hk;rw[Bool.and_eq_true]at hk;exact .cons (Is.ki I sub d hk.1 h r) (IsL.kis I sub ds hk.2 t rs)
end
end
structure eM where
 W:D->Option D
 enc:D->Nat
 N:Nat
 hN:N<=16777216
 lt:∀k d,W k=some d->enc k<N
 inj:∀k k' d d',W k=some d->W k'=some d'->enc k=enc k'->k=k'
 key:∀k d,W k=some d->ow k=true/\eV k<=4
def kX (a:cG) (xs:List (D×cG×cy)):Heap->Prop:=λh=>∃o es ep,h.get? a=some o/\o.ExactDict/\o.data=.dict es ep/\es.toList=xs.map (λx=>(⟨fF x.1,.ref x.2.1,x.2.2⟩:DictEntry))/\(xs.map (·.1)).Nodup
structure eI (a:cG) (M:eM) (C H:Hp) (xs:List (D×cG×cy)):Prop where
 h:H a=some (.ext (kX a xs))
 c:C a=none
 sm:(a==sysModules)=false
 nd:(xs.map (·.1)).Nodup
 ent:∀x∈xs,Is C (.ref x.2.1) x.1/\∃v d,RelV v x.2.2/\Is C v d/\M.W x.1=some d
theorem CH:∀(N:Nat) (l:List Nat),l.Nodup->(∀x∈l,x<N)->l.length<=N
 |0,l,_,h=>by
  cases l with
  |nil=>exact au _
  |cons a r=>exact absurd (h a af) (Nat.not_lt_zero _)
 |N+1,l,nd,h=>by
  have h1:=CH N (l.erase N) (nd.erase N) (λx hx=>by
   have:=(nd.mem_erase_iff.mp hx);have:=h x this.2;omega)
  have h2:l.length<=(l.erase N).length+1:=by
   rw[length_erase];split<;>omega
  omega
def eI.len (m:eI a M C H xs):xs.length<=M.N:=by
 have h:=CH M.N (xs.map λx=>M.enc x.1) ?_ ?_
 ·simpa using h
 ·have nd:=m.nd;rw[List.Nodup,pairwise_map]at nd ⊢;refine List.Pairwise.imp_of_mem (λ{x y} hx hy jX he=>?_) nd
  obtain⟨_,v,d,_,_,w1⟩:=m.ent x hx;obtain⟨_,v',d',_,_,w2⟩:=m.ent y hy;exact jX (M.inj _ _ _ _ w1 w2 he)
 ·intro n hn;obtain⟨x,hx,rfl⟩:=mem_map.mp hn;obtain⟨_,v,d,_,_,w1⟩:=m.ent x hx;exact M.lt _ _ w1
section
variable {a:cG}{M:eM}{C H C' H':Hp}{xs:List (D×cG×cy)}
theorem eI.UA (m:eI a M C H xs) (e:pK C H C' H'):eI a M C' H' xs where
 h:=e.h _ _ m.h
 c:=by
  cases q:C' a with
  |none=>rfl
  |some u=>
   rcases e.n a u q with z|z
   ·rw[m.c]at z;cases z
   ·rw[m.h]at z;cases z
 sm:=m.sm
 nd:=m.nd
 ent:=λx hx=>let ⟨h1,v,d,h2,h3,h4⟩:=m.ent x hx;⟨h1.mono e.c,v,d,h2,h3.mono e.c,h4⟩
theorem eI.BC (m:eI a M C H xs) {b:cG}{o:HO}(hb:b≠a):eI a M C (upd H b o) xs where
 h:=by rw[dg (Ne.symm hb)];exact m.h
 c:=m.c
 sm:=m.sm
 nd:=m.nd
 ent:=m.ent
theorem eI.BD (m:eI a M C H xs) {b:cG}{o:HO}(hb:b≠a) (hc:C b=none):eI a M (upd C b o) H xs where
 h:=m.h
 c:=by rw[dg (Ne.symm hb)];exact m.c
 sm:=m.sm
 nd:=m.nd
 ent:=λx hx=>let ⟨h1,v,d,h2,h3,h4⟩:=m.ent x hx;⟨h1.mono (fu hc),v,d,h2,h3.mono (fu hc),h4⟩
theorem eI.ne (m:eI a M C H xs) (h:∀u,H b=some u->Ho u=false):b≠a:=λz=>by
 subst z;have:=h _ m.h;cases this
theorem eI.SA (m:eI a M C H xs) {b:cG}(h:H b=none):b≠a:=λz=>by
 subst z;rw[m.h]at h;cases h
end
@[reducible] noncomputable def fm (a:cG) (M:eM):Mem where
 cell:=some a
 face:=some a
 ok:=λC H=>∃xs,eI a M C H xs
 has:=λC H k=>∃xs,eI a M C H xs/\k∈xs.map (·.1)
 rel:=λC H C' H'=>((∃xs,eI a M C H xs)->∃xs,eI a M C' H' xs)/\∀k,(∃xs,eI a M C H xs/\k∈xs.map (·.1))->∃xs,eI a M C' H' xs/\k∈xs.map (·.1)
 of0:=λe=>⟨λ⟨xs,m⟩=>⟨xs,m.UA e⟩,λk ⟨xs,m,hk⟩=>⟨xs,m.UA e,hk⟩⟩
 trans:=λr1 r2=>⟨λh=>r2.1 (r1.1 h),λk h=>r2.2 k (r1.2 k h)⟩
 chg:=λ{_ _ _ _ b o} r hb=>⟨λ⟨xs,m⟩=>let ⟨ys,m'⟩:=r.1 ⟨xs,m⟩;⟨ys,m'.BC (m.SA hb)⟩,λk ⟨xs,m,hk⟩=>let ⟨ys,m',rB⟩:=r.2 k ⟨xs,m,hk⟩;⟨ys,m'.BC (m.SA hb),rB⟩⟩
 give:=λ{_ _ _ H' b o} r hc ho hx=>⟨λh=>let ⟨ys,m'⟩:=r.1 h;⟨ys,m'.BD (m'.ne λu q=>by rw[ho]at q;cases q;exact hx) hc⟩,λk h=>let ⟨ys,m',rB⟩:=r.2 k h;⟨ys,m'.BD (m'.ne λu q=>by rw[ho]at q;cases q;exact hx) hc,rB⟩⟩
 WY:=λr h=>r.1 h
 Nk:=λr _ h=>r.2 _ h
 VG:=λ⟨xs,m⟩ h=>⟨xs,m.BC (m.ne h)⟩
 Lh:=λ_ h ⟨xs,m,hk⟩=>⟨xs,m.BC (m.ne h),hk⟩
 WZ:=λ⟨xs,m⟩ hc ho hx=>⟨xs,m.BD (m.ne λu q=>by rw[ho]at q;cases q;exact hx) hc⟩
 Nl:=λ_ hc ho hx ⟨xs,m,hk⟩=>⟨xs,m.BD (m.ne λu q=>by rw[ho]at q;cases q;exact hx) hc,hk⟩
section
variable {X:Cx}{M:eM}{a:cG}{cM:cj}{σ:L2.St}{C H:Hp}{s:cA}{xs ys:List (D×cG×cy)}
theorem eI.dict (I:Inv X cM σ H s) (sub:eE C H) (m:eI a M C H xs):s.heap.DictOfH (mH X.prog X.w) a xs:=by
 obtain⟨⟨o,es,ep,h1,h2,h3,h4,h5⟩,_⟩:=I.gk a _ m.h;exact⟨o,es,ep,h1,h2,h3,h4,λx hx=>by
  obtain⟨h1,v,d,_,_,w⟩:=m.ent x hx;obtain⟨k1,k2⟩:=M.key _ _ w;exact⟨Is.ki I sub _ k1 h1 rfl,k2⟩,h5⟩
theorem eI.keys_eq (I:Inv X cM σ H s) (sub:eE C H) (m:eI a M C H xs) (m':eI a M C H ys):xs.map (·.1)=ys.map (·.1):=by
 obtain⟨o,es,ep,h1,h2,h3,h4,h5,h6⟩:=m.dict I sub;obtain⟨o',Mx,Tp,HV,Li,Nm,QT,h5',h6'⟩:=m'.dict I sub;rw[h1]at HV;cases HV;rw[h3]at Nm;injection Nm with e1 _;subst e1
 rw[h4]at QT;clear h1 h2 Li h3 h4 h6 h6' m m';induction xs generalizing ys with
 |nil=>cases ys with
  |nil=>rfl
  |cons _ _=>cases QT
 |cons x xs ih=>
  cases ys with
  |nil=>cases QT
  |cons y ys=>
   rw[aF,aF]at QT;injection QT with e1 e2
   have ea:x.2.1=y.2.1:=by
    have:(entryOfKey (mH X.prog X.w) x).key=(entryOfKey (mH X.prog X.w) y).key:=congrArg DictEntry.key e1;injection this
   have k1:=(h5 x af).1;have k2:=(h5' y af).1;rw[ea]at k1;rw[aF,aF,k1.inj k2,ih (λx hx=>h5 x (ai _ hx)) (λx hx=>h5' x (ai _ hx)) e2]
theorem xg:(atKey xs k).isSome=true↔k∈xs.map (·.1):=by
 unfold atKey;rw[Option.isSome_map,find?_isSome];constructor
 ·rintro⟨x,hx,e⟩
  exact mem_map.mpr ⟨x,hx,by simpa using e⟩
 ·intro h;obtain⟨x,hx,e⟩:=mem_map.mp h;exact⟨x,hx,by simpa using e⟩
theorem CI (h:atKey xs k=some p):(k,p)∈xs:=by
 unfold atKey at h;cases q:xs.find? (λx=>decide (x.1=k))with
 |none=>rw[q]at h;cases h
 |some x=>
  rw[q]at h;cases h;have h1:=mem_of_find?_eq_some q;have h2:=find?_some q;have h3:x.1=k:=by simpa using h2
  rw[<-h3];exact h1
def UB (g:Bool->Bool) (a:cG) (M:eM):R2:=λx y H Q=>∃C ds xs,eE C H/\Is C x (.tup ds)/\ow (.tup ds)=true/\eV (.tup ds)<=4/\y=.ref a/\eI a M C H xs/\Q (.bl (g (atKey xs (.tup ds)).isSome)) H
theorem FA (hu:X.A.units+64<cLine) (he:∀v u,compareOp op v u=(do return .bool (g (<-contains u v)))):tX X (compareOp op) (UB g a M):=by
 intro cM s σ H x y v u Q I rx ry h;obtain⟨C,ds,xs,sub,is,hk,hd,rfl,m,q⟩:=h;cases is with
 |@tup p ws _ hp l=>
  cases rx;cases ry;have HB:(mH X.prog X.w).is s.heap (.tup ds) p:=⟨Is.ki I sub _ hk (.tup hp l) rfl,hd⟩;have hm:=m.dict I sub;rw[he];refine aa ?_;unfold contains;try with_reducible refine bj ?_
  refine aa (wpAny_specialOf hm.typeIs slot_dict_contains.lookup ?_);show wpAny _ _ (if(some (Value.builtin "dict.__contains__")==some Value.none)=true then _ else _) _ X.xe s
  rw[if_neg (by rw[beq_builtin_none];exact aZ)]
  refine aa (wpAny_callSpecialUnlessNone?_slot (name:=Str.ofString "__contains__") hm.typeIs slot_dict_contains
   (bL slot_dict_contains hm.typeIs entry_dict_contains ?_ (args_dict_contains _ _)))
  show wpAny _ _ (dictGet a (.ref p)>>=_) _ _ s;have j7:(mH X.prog X.w).room X.A.in1:=by show X.A.units+1+8<cLine;omega
  refine aa (wpAny_dictGet_heap j7 HB hm ?_);cases hf:atKey xs (.tup ds)with
  |some p'=>
   rw[hf]at q;show wpAny _ _ (ret (.bool true)) _ _ _;exact aj ⟨_,rfl,bP (aj ⟨.bl _,H,I.tok _,rfl,q⟩)⟩
  |none=>
   rw[hf]at q;show wpAny _ _ (Builtin.Dict.pendingKey? a (.ref p)>>=_) _ _ _;exact aa (wpAny_pendingKey_other m.sm (aj ⟨_,rfl,bP (aj ⟨.bl _,H,I.tok _,rfl,q⟩)⟩))
theorem D6 (hu:X.A.units+64<cLine):tX X (compareOp .NotIn) (UB (!·) a M):=FA hu λ_ _=>rfl
theorem Lq (hu:X.A.units+64<cLine):tX X (compareOp .In) (UB id a M):=FA hu λ_ _=>rfl
def Xk (a:cG) (M:eM):R2:=λx y H Q=>∃C ds xs,eE C H/\x=.ref a/\Is C y (.tup ds)/\ow (.tup ds)=true/\eV (.tup ds)<=4/\eI a M C H xs/\D.tup ds∈xs.map (·.1)/\∀v d,M.W (.tup ds)=some d->Is C v d->Q v H
theorem Q8 (hu:X.A.units+64<cLine):MY X (Xk a M):=by
 intro value slice cM s σ H x y v u Q I rx ry h hs;obtain⟨C,ds,xs,sub,rfl,is,hk,hd,m,wI,q⟩:=h;cases is with
 |@tup p ws _ hp l=>
  cases rx;cases ry;have HB:(mH X.prog X.w).is s.heap (.tup ds) p:=⟨Is.ki I sub _ hk (.tup hp l) rfl,hd⟩;have hm:=m.dict I sub;have j7:(mH X.prog X.w).room X.A.in1:=by show X.A.units+1+8<cLine;omega
  cases hf:atKey xs (.tup ds)with
  |none=>
   have:=xg.mpr wI;rw[hf]at this;cases this
  |some pv=>
   obtain⟨_,v',d,r,i,w⟩:=m.ent _ (CI hf);exact tail_any (ops:=[.ref a,.ref p]) hm.typeIs slot_dict_getitem.lookup (wpAny_getItem_heap j7 HB hm hf ⟨v',H,I.tok _,r,q v' d w i⟩) hs
theorem zH {xs:List (D×cG×cy)}{k:D}{v:cy}:(xs.map (putAt k v)).map (·.1)=xs.map (·.1):=by
 rw[aV];apply bR
 intro x _;unfold putAt;simp only[Function.comp_apply];split<;>rfl
def Xl (a:cG) (M:eM):Tv:=λo i v H Q=>∃C ds d xs,eE C H/\o=.ref a/\Is C i (.tup ds)/\Is C v d/\M.W (.tup ds)=some d/\eI a M C H xs/\
 ∀ys,eI a M C (upd H a (.ext (kX a ys))) ys->(∀k,(∃zs,eI a M C H zs/\k∈zs.map (·.1))->k∈ys.map (·.1))->D.tup ds∈ys.map (·.1)->Q (upd H a (.ext (kX a ys)))
theorem FC (hu:X.A.units+64<cLine):V6 X (Xl a M):=by
 intro cM s σ H o i v ov iv u Q I ro ri rv h;obtain⟨C,ds,d,xs,sub,rfl,is,iv',hw,m,q⟩:=h;obtain⟨hk,hd⟩:=M.key _ _ hw;cases is with
 |@tup p ws _ hp l=>
  cases ro;cases ri;have HB:(mH X.prog X.w).is s.heap (.tup ds) p:=⟨Is.ki I sub _ hk (.tup hp l) rfl,hd⟩;have hm:=m.dict I sub;have j7:(mH X.prog X.w).room X.A.in1:=by show X.A.units+1+8<cLine;omega
  refine wpAny_setItem_heap j7 HB hm (λh' NJ Sk=>?_) (aD m.len (aD M.hN (by decide)))
  have keys:(storedH xs (.tup ds) p u).map (·.1)=if(atKey xs (.tup ds)).isSome then xs.map (·.1)else xs.map (·.1)++[.tup ds]:=by
   unfold storedH;split
   ·exact zH
   ·simp
  have wI:D.tup ds∈(storedH xs (.tup ds) p u).map (·.1):=by
   rw[keys];split
   ·rename_i hh;exact xg.mp hh
   ·exact aL _ af
  have hold:∀k∈xs.map (·.1),k∈(storedH xs (.tup ds) p u).map (·.1):=λk h=>by
   rw[keys];split
   ·exact h
   ·exact bC _ h
  obtain⟨oo,es,ep,g1,g2,g3,g4,g5,g6⟩:=NJ;have m':eI a M C (upd H a (.ext (kX a (storedH xs (.tup ds) p u)))) (storedH xs (.tup ds) p u):=by
   refine⟨dh,m.c,m.sm,g6,λx hx=>?_⟩
   unfold storedH at hx;split at hx
   ·obtain⟨y,hy,rfl⟩:=mem_map.mp hx;obtain⟨h1,v',d',r,i',w⟩:=m.ent y hy;unfold putAt;split
    ·rename_i e;refine⟨h1,v,d,rv,iv',?_⟩;show M.W y.1=some d;rw[e];exact hw
    ·exact⟨h1,v',d',r,i',w⟩
   ·rcases mem_append.mp hx with hx|hx
    ·exact m.ent x hx
    ·rw[br]at hx;subst hx;exact⟨.tup hp l,v,d,rv,iv',hw⟩
  have ok:gO X.prog X.w (upd H a (.ext (kX a (storedH xs (.tup ds) p u)))) h' a (.ext (kX a (storedH xs (.tup ds) p u))):=
   ⟨⟨oo,es,ep,g1,g2,g3,g4,g6⟩,⟨oo,g1⟩,λh1 h2 ⟨o1,e1,p1,q1,q2⟩ st=>⟨o1,e1,p1,st _ q1,q2⟩⟩
  refine⟨_,I.write (e:=a) (by rw[m.h];exact trivial) (.inl rfl) (λb ob hb hq=>(Sk.2 b hb).trans hq) ⟨oo,g1⟩ ok,q _ m' (λk ⟨zs,mz,hz⟩=>hold k (by rw[m.keys_eq I sub mz];exact hz)) wI⟩
end
def Lr (δ' δ:gh):Prop:=δ'.length=δ.length/\∀(i:Nat) (s:Sl),δ'[i]? =some s->s=.no\/δ[i]? =some s\/∃ks Xj,s=.memo Xj/\δ[i]? =some (.memo ks)/\∀k∈Xj,k∈ks
section
variable [Mem] {δ δ':gh}{σ:L2.St}{B C0 H0 C H:Hp}
theorem Lr.own (w:Lr δ' δ) {i:Nat}{ds:cw}(q:δ'[i]? =some (.own ds)):δ[i]? =some (.own ds):=by
 rcases w.2 i _ q with z|z|⟨_,_,z,_⟩
 ·cases z
 ·exact z
 ·cases z
def Sx.weak (x:Sx δ σ C H) (w:Lr δ' δ):Sx δ' σ C H where
 sub:=x.sub
 dat:=λi d q=>by
  rcases w.2 i _ q with z|z|⟨_,_,z,_⟩
  ·cases z
  ·exact x.dat i d z
  ·cases z
 own:=λi ds q=>x.own i ds (w.own q)
 DN:=λi j ds es a q1 q2 q3 q4=>x.DN i j ds es a (w.own q1) (w.own q2) q3 q4
 len:=w.1.trans x.len
 mem:=λi ks q=>by
  rcases w.2 i _ q with z|z|⟨ks1,ks2,z,z2,z3⟩
  ·cases z
  ·exact x.mem i ks z
  ·cases z;obtain⟨a,h1,h2,h3,h4⟩:=x.mem i ks1 z2;exact⟨a,h1,h2,h3,λk hk=>h4 k (z3 k hk)⟩
theorem Gd.weak (g:Gd B C0 H0 δ σ C H) (w:Lr δ' δ):Gd B C0 H0 δ' σ C H:=⟨g.b,g.ev,g.x.weak w,λk ds a q1 q2=>g.fr k ds a (w.own q1) q2⟩
def Sx.FD (x:Sx δ σ C H) {i:Nat}{ks:cw}{k:D}(hi:δ[i]? =some (.memo ks)) (hk:Mem.has C H k):Sx (δ.set i (.memo (k::ks))) σ C H where
 sub:=x.sub
 dat:=λj d q=>by
  rcases getElem?_set_cases q with⟨rfl,e⟩|⟨hj,e⟩
  ·cases e
  ·exact x.dat j d e
 own:=λj ds q=>by
  rcases getElem?_set_cases q with⟨rfl,e⟩|⟨hj,e⟩
  ·cases e
  ·exact x.own j ds e
 DN:=λj l ds es a q1 q2 q3 q4=>by
  rcases getElem?_set_cases q1 with⟨_,e⟩|⟨_,e1⟩
  ·cases e
  rcases getElem?_set_cases q2 with⟨_,e⟩|⟨_,e2⟩
  ·cases e
  exact x.DN j l ds es a e1 e2 q3 q4
 len:=by simp[x.len]
 mem:=λj ls q=>by
  rcases getElem?_set_cases q with⟨rfl,e⟩|⟨hj,e⟩
  ·cases e;obtain⟨a,h1,h2,h3,h4⟩:=x.mem j ks hi;refine⟨a,h1,h2,h3,λc hc=>?_⟩
   rcases mem_cons.mp hc with rfl|hc
   ·exact hk
   ·exact h4 c hc
  ·exact x.mem j ls e
theorem Gd.FD (g:Gd B C0 H0 δ σ C H) (hi:δ[i]? =some (.memo ks)) (hk:Mem.has C H k):Gd B C0 H0 (δ.set i (.memo (k::ks))) σ C H:=
 ⟨g.b,g.ev,g.x.FD hi hk,λj ds a q1 q2=>by
  rcases getElem?_set_cases q1 with⟨_,e⟩|⟨_,e⟩
  ·cases e
  ·exact g.fr j ds a e q2⟩
end
def forget (fs:List Nat) (δ:gh):gh:=fs.foldl (λδ i=>δ.set i .no) δ
theorem oy:∀(fs:List Nat) (δ:gh),(forget fs δ).length=δ.length
 |[],_=>rfl
 |i::fs,δ=>by
  show(forget fs (δ.set i .no)).length=_;rw[oy fs,length_set]
theorem zI:∀(fs:List Nat) (δ:gh) (i:Nat) (s:Sl),(forget fs δ)[i]? =some s->s=.no\/δ[i]? =some s
 |[],_,_,_,h=>.inr h
 |j::fs,δ,i,s,h=>by
  rcases zI fs (δ.set j .no) i s h with z|z
  ·exact .inl z
  ·rcases getElem?_set_cases z with⟨_,e⟩|⟨_,e⟩
   ·exact .inl e
   ·exact .inr e
def FE (fs:List Nat) (δ:gh) (i:Nat) (k:D) (ks:cw):Lr ((forget fs δ).set i (.memo [k])) (δ.set i (.memo (k::ks))):=by
 refine⟨by simp[oy],λj s q=>?_⟩
 rcases getElem?_set_cases q with⟨rfl,e⟩|⟨hj,e⟩
 ·have hl:j<δ.length:=by have:=HU q;rwa [oy]at this
  exact .inr (.inr ⟨k::ks,[k],e,by rw[bc hl],λc hc=>by rw[br]at hc;subst hc;exact af⟩)
 ·rcases zI fs δ j s e with z|z
  ·exact .inl z
  ·exact .inr (.inl (by rw[aG (Ne.symm hj)];exact z))
open Classical in
def yK (i:Nat) (fs:List Nat) (fk:bZ) (fb:bY):bY:=λδ=>match δ[i]?,fk δ,fb δ with
 |some (.memo _),some (.tup ds),some (.next δ2)=>if ow (.tup ds)=true/\eV (.tup ds)<=4/\Lr ((forget fs δ).set i (.memo [.tup ds])) δ2 then some (.next ((forget fs δ).set i (.memo [.tup ds])))else none
 |_,_,_=>none
def vD (M:eM) (i:Nat) (fk:bZ):bZ:=λδ=>match δ[i]?,fk δ with
 |some (.memo ks),some (.tup ds)=>if ow (.tup ds)=true/\eV (.tup ds)<=4/\D.tup ds∈ks then M.W (.tup ds)else none
 |_,_=>none
noncomputable def lV (M:eM) (i:Nat) (fk fe:bZ):bY:=λδ=>match δ[i]?,fk δ,fe δ with
 |some (.memo ks),some (.tup ds),some d=>if M.W (.tup ds)=some d then some (.next (δ.set i (.memo (.tup ds::ks))))else none
 |_,_,_=>none
section
variable {a:cG}{M:eM}{k o:cH}
def FF (s:eE C H) (m:eI a M C H xs) (m':eI a M C (upd H a (.ext (kX a ys))) ys) (hk:∀k,(∃zs,eI a M C H zs/\k∈zs.map (·.1))->k∈ys.map (·.1)):@Ev (fm a M) C H C (upd H a (.ext (kX a ys))):=by
 letI:=fm a M
 refine⟨eE.refl _,λb o q h=>?_,λb o q h x=>?_,λb u q=>?_,λb u q=>.inl q,⟨λ_=>⟨ys,m'⟩,λk h=>⟨ys,m',hk k h⟩⟩⟩
 ·have:b≠a:=λz=>by
   subst z;rcases h with h|h
   ·exact h rfl
   ·rw[m.h]at q;cases q;cases h
  rw[dg this];exact q
 ·cases h;exact⟨_,dh,rfl⟩
 ·rw[dg (dB q m.c)];exact s b u q
end
noncomputable def tAM [m:Mem] (i j:Nat) (f:bX):TA:=λσ H Q=>∃C δ ds ks,Sx δ σ C H/\δ[i]? =some (.memo ks)/\f δ=some ds/\∀vs C' H' a,Ev C H C' H'->m.face=some a->vs[j]? =some (.ref a)->IsL C' (vs.eraseIdx j) ds->Q vs H'
abbrev PAM [Mem] (X:Cx) (es:List cH) (i j:Nat) (f:bX):Prop:=PA X es (tAM i j f)
def VN (j:Nat) (Mf:cw->eM) (g:cc):Sp:=λvs H Q _=>∃C ds d a,eE C H/\vs[j]? =some (.ref a)/\IsL C (vs.eraseIdx j) ds/\(∃xs,eI a (Mf ds) C H xs)/\g ds=some d/\∀v C' H',@Ev (fm a (Mf ds)) C H C' H'->Is C' v d->Q v H'
open Classical in
noncomputable def zJ (i:Nat) (Mf:cw->eM) (g:cc) (M:eM) (f:bX):bZ:=λδ=>match δ[i]? with
 |some (.memo _)=>(f δ).bind λds=>if Mf ds=M then g ds else none
 |_=>none
noncomputable def startM (n np j:Nat) (ds:cw):gh:=(ds.take j).map Sl.dat++.memo []::(ds.drop j).map Sl.dat++replicate (n-np) Sl.no
def CJ (n np j:Nat) (Mf:cw->eM) (fb:eM->bY) (ds:cw):Option D:=
 if ds.length+1=np/\j<np then(match fb (Mf ds) (startM n np j ds)with|some (.ret d)=>some d|some (.next _)=>some .eU|_=>none)else none
def Ij (hl:ds.length+1=np) (hj:j<np) (i:Nat):(startM n np j ds)[i]? =if i<j then(ds[i]?).map Sl.dat else if i=j then some (.memo [])else if i<np then(ds[i-1]?).map Sl.dat else if i<np+(n-np)then some .no else none:=by
 unfold startM;have l1:((ds.take j).map Sl.dat).length=j:=by rw[ae,bI];omega
 have l2:((ds.drop j).map Sl.dat).length=ds.length-j:=by rw[ae,length_drop]
 rw[append_assoc];by_cases h1:i<j
 ·rw[if_pos h1,aJ (by omega),av,getElem?_take_of_lt h1]
 ·rw[if_neg h1,aP (by omega),l1]
  by_cases h2:i=j
  ·subst h2;rw[if_pos rfl,Nat.sub_self];rfl
  ·rw[if_neg h2,cons_append];obtain⟨r,hr⟩:∃r,i-j=r+1:=⟨i-j-1,by omega⟩
   rw[hr,aK];by_cases h3:i<np
   ·rw[if_pos h3,aJ (by omega),av,getElem?_drop]
    congr 2
    omega
   ·rw[if_neg h3,aP (by omega),bf]
    congr 1
    rw[eq_iff_iff];constructor<;>intro _<;>omega
def CK [m:Mem] (S:dA N ps sc) (sub:eE C H) (hj:vs[j]? =some (.ref a)) (i:IsL C (vs.eraseIdx j) ds) (hl:ds.length+1=ps.length/\j<ps.length) (hf:m.face=some a) (ok:m.ok C H):Gd C C H (startM N.length ps.length j ds) (L2.start N vs) C H:=by
 have hjv:j<vs.length:=(List.getElem?_eq_some_iff.mp hj).1;have h1:=i.length;rw[length_eraseIdx_of_lt hjv]at h1;have:=JT S;have ge:∀{n:Nat}{x:Sl},(startM N.length ps.length j ds)[n]? =some x->(∃d v,vs[n]? =some v/\Is C v d/\x=.dat d)\/n=j/\x=.memo []\/x=.no:=λ{n x} e=>by
  rw[Ij hl.1 hl.2]at e;split at e
  ·rename_i h;cases hd:ds[n]? with
   |none=>rw[hd]at e;cases e
   |some d'=>
    rw[hd]at e;cases e;obtain⟨v,g1,g2⟩:=i.get hd;rw[getElem?_eraseIdx,if_pos h]at g1;exact .inl ⟨_,v,g1,g2,rfl⟩
  ·split at e
   ·cases e;exact .inr (.inl ⟨by assumption,rfl⟩)
   ·split at e
    ·cases hd:ds[n-1]? with
     |none=>rw[hd]at e;cases e
     |some d'=>
      rw[hd]at e;cases e;obtain⟨v,g1,g2⟩:=i.get hd;rw[getElem?_eraseIdx,if_neg (by omega),show n-1+1=n by omega]at g1
      exact .inl ⟨_,v,g1,g2,rfl⟩
    ·split at e<;>cases e
     exact .inr (.inr rfl)
 have no:∀(n:Nat) es,(startM N.length ps.length j ds)[n]? ≠some (Sl.own es):=λn es e=>by rcases ge e with⟨_,_,_,_,q⟩|⟨_,q⟩|q<;>cases q
 refine Sv ⟨sub,λn d e=>?_,λn es e=>absurd e (no n es),λn m es fs a e=>absurd e (no n es),?_,λn ks e=>?_⟩ no
 ·rcases ge e with⟨_,v,h1,h2,q⟩|⟨_,q⟩|q<;>cases q
  exact⟨v,by rw[wV (List.getElem?_eq_some_iff.mp h1).1,h1],h2⟩
 ·unfold L2.start startM;simp only[aQ,ae,length_replicate,ay,bI,length_drop];omega
 ·rcases ge e with⟨_,_,_,_,q⟩|⟨rfl,q⟩|q<;>cases q
  exact⟨a,hf,by rw[wV hjv,hj],ok,λk hk=>by cases hk⟩
def oV {C:Hp}{vs:List V}{ds:cw}{j n:Nat}{v:V}(hj:vs[j]? =some v) (i:IsL C (vs.eraseIdx j) ds) (hl:ds.length+1=n):vs.length=n:=by
 have h1:=i.length;have h2:j<vs.length:=(List.getElem?_eq_some_iff.mp hj).1;rw[length_eraseIdx_of_lt h2]at h1;omega
def UC {P:cC}{w:cD}{K:W.Frag}{mg:cg}{base:Heap}{x qual:Str}{st:cI}{f:cG}{fd:cB}{N ps:List Str}{k:Nat}(j:Nat) (Mf:cw->eM) (F:jW K x qual st f fd) (S:dA N ps (cY st)) {fb:eM->bY}
  (jL:∀(a:cG) (M:eM) (fD:cy) (A:cE) (outer:List Env) (s:cA) (H:Hp) (E:XK),hW k (A.deeper (envOfC qual (cY st) s.heap.objs.size f fD))->∀C0 H0,@VJ (fm a M) (tY iY P w K mg base N qual (cY st) f fD A outer s H E).Hu C0 H0 (fO st) (fb M)):
  eO P w K mg base iY (k+1) f fd ps (VN j Mf (CJ N.length ps.length j Mf fb)):=by
 refine F.ok S (λvs H Q E h=>?_) (λfD A outer s H vs Q E hr h=>?_)
 all_goals
  obtain⟨C,ds,d,a,sub,hj,i,ok,q,fin⟩:=h;unfold CJ at q;split at q
  case isFalse=>cases q
  rename_i hl
 ·exact oV hj i hl.1
 ·letI:=fm a (Mf ds)
  exact⟨tS C C H (fb (Mf ds)),jL a (Mf ds) fD A outer s H E hr C H C,tE (CK S sub hj i hl rfl ok) q fin⟩
section
variable {X:Cx}{es:List cH}{p pos:Pos}{a:cG}{M:eM}
def _root_.L2.Inv.ZR (I:Inv X cM σ H s):sysModules<s.heap.objs.size:=by
 have h:mainGlobals<s.heap.objs.size:=(I.mod.glob.keeps I.bk).lt;exact bG (by decide) h
def Xm:TE:=λ_ H Q=>∀p,H p=none->(p==sysModules)=false->Q (.ref p) (upd H p (.ext (kX p [])))
def JY:PE X (.Dict [] [] pos) Xm:=λcM s σ H Q I h=>
 wpAny_Dict_empty ⟨.ref s.heap.objs.size,_,I.laid (a:=s.heap.objs.size) (o:=.ext (kX s.heap.objs.size [])) (t':=s.toks) (λ_ _ q=>ag _ q) (au _)
  ⟨⟨_,#[],0,az _ rfl,⟨rfl,rfl,rfl⟩,rfl,rfl,nodup_nil⟩,⟨_,az _ rfl⟩,λh1 h2 ⟨o1,e1,p1,q1,q2⟩ st=>⟨o1,e1,p1,st _ q1,q2⟩⟩,rfl,
  h _ (I.gk.fresh (au _)) (beq_eq_false_iff_ne.mpr (Ne.symm (aE I.ZR)))⟩
def zK {C H:Hp}{p:cG}(hc:C p=none) (hs:(p==sysModules)=false) (hH:H p=some (.ext (kX p []))):eI p M C H []:=⟨hH,hc,hs,nodup_nil,λ_ h=>by cases h⟩
def UD (e1:pK C H C1 H1) (hn:H a=none) (e2:@Ev (fm a M) C1 H1 C2 H2):pK C H C2 H2:=by
 letI:=fm a M
 refine⟨e1.c.trans e2.c,λb o q=>?_,e2.s,λb u q=>?_⟩
 ·have hb:b≠a:=λz=>by subst z;rw[hn]at q;cases q
  exact e2.h b o (e1.h b o q) (.inl λz=>hb (aS z).symm)
 ·rcases e2.n b u q with z|z
  ·exact e1.n b u z
  ·exact .inr (e1.h.free z)
def tAN (j:Nat) (f:bX):TA:=λσ H Q=>∃C δ ds,@Sx Mem.keep δ σ C H/\f δ=some ds/\∀vs C' H' a,pK C H C' H'->H a=none->C' a=none->H' a=some (.ext (kX a []))->(a==sysModules)=false->vs[j]? =some (.ref a)->IsL C' (vs.eraseIdx j) ds->Q vs H'
abbrev PAN (X:Cx) (es:List cH) (j:Nat) (f:bX):Prop:=PA X es (tAN j f)
noncomputable def noOwn (δ:gh):Bool:=δ.all λs=>match s with|.own _=>false|_=>true
noncomputable def rW (δ:gh):Bool:=δ.all λs=>match s with|.memo _=>false|_=>true
def zL {δ:gh}(h:noOwn δ=true) {i:Nat}{ds:cw}(q:δ[i]? =some (.own ds)):False:=by
 have:=all_eq_true.mp h _ (bh q);cases this
def CL {δ:gh}(h:rW δ=true) {i:Nat}{ds:cw}(q:δ[i]? =some (.memo ds)):False:=by
 have:=all_eq_true.mp h _ (bh q);cases this
def NM (i:Nat):R->Option R
 |.next δ=>if rW (δ.set i .no)=true then some (.next (δ.set i .no))else none
 |.ret d=>some (.ret d)
 |.brk δ=>if rW (δ.set i .no)=true then some (.brk (δ.set i .no))else none
 |.cont δ=>if rW (δ.set i .no)=true then some (.cont (δ.set i .no))else none
end
end DL
namespace HT
section
variable {prog:cC}{w:cD}{A:cE}{E:cf}{s:cA}
def t4 {t sl:cG}{items:Array cy}{vl vu:cy}{lo hi:Option Int}{Q:cf}(ht:IsTup s.heap t items) (hs:s.heap.IsSliceOf sl vl vu .none) (pl:IsPart vl lo) (pu:IsPart vu hi)
  (hw:i8 items.size 0 lo=0/\i8 items.size items.size hi=items.size)
  (h:Q (.ref t) s):wpAny (model prog w) A (getItem (.ref t) (.ref sl)) Q E s:=by
 obtain⟨os,K8,Qd,Qe⟩:=id hs;have Wz:s.TypeIs (.ref sl) "slice":=⟨os,K8,Qd⟩;unfold getItem;try with_reducible refine bj ?_
 first|refine aa (aj ?_)|skip
 refine aa (wpAny_sequenceKey ht.typeIs (by decide) ?_)
 refine aa (wpAny_callSpecial?_slot (name:=Str.ofString "__getitem__") ht.typeIs PyProof.Rows.slot_tuple_getitem
  (bL PyProof.Rows.slot_tuple_getitem ht.typeIs entry_tuple_getitem ?_ (args_tuple_getitem _ _)))
 show wpAny _ _ (Builtin.Tuple.tupleItemsOf (.ref t)>>=_) _ _ s;refine aa (tupleItemsOf_ ht ?_);refine aa (wpAny_typeOf Wz ?_);rw[if_pos (by decide)]
 refine aa (oU hs pl pu ?_);have ZS:(((i8 items.size 0 lo:Nat):Int)==0&&(1:Int)==1&&(i8 items.size items.size hi-i8 items.size 0 lo)==items.size)=true:=by
  rw[hw.1,hw.2];simp
 show wpAny _ _ (if(((i8 items.size 0 lo:Nat):Int)==0&&(1:Int)==1&&(i8 items.size items.size hi-i8 items.size 0 lo)==items.size)=true then _ else _) _ _ s
 rw[if_pos ZS];unfold Builtin.Tuple.tupleIsExact;refine aa (aa (wpAny_typeOf ht.typeIs (aj ?_)));rw[if_pos (by decide)]
 first
  |exact aa (wpAny_rule (aa (aj ⟨_,rfl,aj h⟩)))
  |exact aa (wpAny_rule (aj ⟨_,rfl,aj h⟩))
end
end HT
namespace DL
open L2
variable [Mem]
section
variable {X:Cx}{a:cH}{f h:bZ}
def Q9:Sg X (λx lo hi H Q=>∃a xs,x=.ref a/\mB X.K H a xs/\(HT.i8 xs.length 0 lo=0/\HT.i8 xs.length xs.length hi=xs.length)/\Q (.ref a) H):=by
 intro cM s σ H x v vl vu lo hi sl Q I rx hs pl pu h;obtain⟨a,xs,rfl,hx,hw,q⟩:=h;cases rx;obtain⟨dE,r,ht,hz⟩:=I.tuple hx;have hlen:dE.toArray.size=xs.length:=by rw[aq];exact r.length.symm
 refine⟨"tuple",_,PyProof.Rows.slot_tuple_getitem.lookup,ht.typeIs,?_⟩;exact HT.t4 ht hs pl pu (by rw[hlen];exact hw) ⟨.ref a,H,I,rfl,q⟩
def D7 (f:bZ) (lo hi:gh->Option (Option Int)):bZ:=λδ=>match f δ with
 |some (.tup ds)=>(lo δ).bind λl=>(hi δ).map λu=>.tup (uO ds l u)
 |_=>none
noncomputable def Ra (i:Nat) (f:bX):bY:=λδ=>match δ[i]? with
 |some (.own ds)=>(f δ).bind λes=>if ds.length+es.length<=1000000 then some (.next (δ.set i (.own (ds++es))))else none
 |_=>none
end
end DL
namespace DL
open L2
variable [Mem]
end DL
namespace DL
open L2
variable [Mem]
variable [Mem]
section
variable {X:Cx}{a b e:cH}{pos:Pos}{f g:bZ}
def zM (ha:WO X e f) (he:∀whole,isTrue e X.env whole=(do let v <-whole;standAt e.pos;holding [v] (truthy v)):=by intro _;rfl):WQ X e (qT f):=⟨(MP ha.go he).imp λσ H Q ⟨C,δ,b,x,q,k⟩=>by
 unfold qT at q;cases hf:f δ with
 |none=>rw[hf]at q;cases q
 |some d=>
  rw[hf]at q;exact⟨C,δ,d,x,hf,λv C' H' ev i=>⟨b,JX ev.s i q,k C' H' ev⟩⟩⟩
def kC (ha:WO X a f) (hb:WO X b g):WD X (.BinOp a .Add b pos) (dw lh f g):=⟨Ft (NL.or QF) Q7 ha.go hb.go⟩
end
variable [Mem]
section
variable {X:Cx}{a b e o:cH}{pos p p2:Pos}{f:bZ}
def Ik {lo hi:Option cH}{fl fh:gh->Option (Option Int)}(he:WO X e f) (hl:WP X lo fl) (hh:WP X hi fh):WD X (.Subscript e (.Slice lo hi none p2) pos) (D7 f fl fh):=⟨(Fh (Q9.or TX) he.go hl.go hh.go).imp λσ H Q ⟨C,δ,d,x,q,k⟩=>by
 unfold D7 at q;split at q
 ·rename_i es hf;cases h1:fl δ with
  |none=>rw[h1]at q;cases q
  |some l=>
   cases h2:fh δ with
   |none=>rw[h1,h2]at q;cases q
   |some u=>
    rw[h1,h2]at q;cases q;refine⟨C,δ,_,x,hf,λv C1 H1 e1 i1=>⟨C1,δ,l,x.ev e1,h1,λC2 H2 e2=>⟨C2,δ,u,x.ev (e1.trans e2),h2,λC3 H3 e3=>?_⟩⟩⟩
    obtain⟨p,xs,rfl,hq,ll,hc⟩:=((i1.ev e2).ev e3).tup (K:=X.K) e3.s;have ev:=(e1.trans e2).trans e3;by_cases hw:HT.i8 xs.length 0 l=0/\HT.i8 xs.length xs.length u=xs.length
    ·exact .inl ⟨p,xs,rfl,hq,hw,k _ C3 H3 ev (.tup hc (ll.Uz hw))⟩
    ·exact .inr ⟨p,xs,rfl,hq,hw,λt ht=>k _ _ _ (ev.trans (.new e3.s ht)) (.tup dh ((ll.cut l u).mono (fu (e3.s.free ht))))⟩
 ·cases q⟩
def UE {C0 H0:Hp}{i:Nat}{apos pos':Pos}{f:bX}(ho:PE X o (lQ i)) (he:WF X e f) (vC:cL e [] X.env:=by exact fS rfl) (zh:attributeBase o "extend" X.env (eval o X.env)=eval o X.env:=by rfl) (HL:((backTo pos (starEach [e] X.env)).all (λx=> !x.1)&&(backToKw pos (keywordEach [] X.env)).all (λx=>x.1.isSome)
   &&decide ([e].length+([]:List Keyword).length+(if([]:List Keyword).isEmpty then 0 else 1)<30))=true:=by exact Uo rfl) (zi:(apos.endLine==pos.line)=true:=by rfl) (uK:(backTo pos (starEach [] X.env)).any (·.1)=false:=by exact hZ rfl) (hs:swapsWith (.Call (.Attribute o "extend" apos) [e] [] pos) none pos'.line X.env=pure false:=by rfl):WB X C0 H0 (.Expr (.Call (.Attribute o "extend" apos) [e] [] pos) pos') (Ra i f):=⟨λB=>
 (JF (MZ PySem.F.plainAttrs_list PySem.F.slot_list_extend PySem.F.type_list_extend K9 ho (jy he.go rK vC) zh HL zi vC uK) hs).imp λDn σ H ⟨C,δ,r,gd,q,k⟩=>by
  unfold Ra at q;split at q
  ·rename_i ds hi;cases hf:f δ with
   |none=>rw[hf]at q;cases q
   |some es=>
    rw[hf]at q;simp only[ao]at q;split at q
    ·rename_i hz;cases q;obtain⟨a,xs,h1,h2,h3,h4⟩:=gd.x.own i ds hi;refine⟨_,h1,.inl ⟨rfl,_,rD.of h3⟩,C,δ,es,gd.x,hf,λb ys C' H' ev hn hc hb hl=>?_⟩
     have g1:=gd.Bv ev;obtain⟨a',xs',z1,z2,z3,z4⟩:=g1.x.own i ds hi;rw[h1]at z1;cases z1;exact⟨a,b,xs',ys,rfl,rfl,z3,hb,by rw[z4.length,hl.length];exact aD hz (by decide),k σ C' _ (g1.mut hi h1 (z4.append hl))⟩
    ·cases q
  ·cases q⟩
end
variable [Mem]
end DL
namespace DL
open L2
def FG (P:cC) (w:cD) (K:W.Frag) (mg:cg) (base:Heap) (k:Nat) (x:Str) (j:Nat) (Mf:cw->eM) (g:cc):Prop:=
 ∃f fd ps,eO P w K mg base iY k f fd ps (VN j Mf g)/\mg x=some (.ref f)/\W.keepIn K (.ref f)=true/\Binds K fd ps []
theorem FG.mono {P:cC}{w:cD}{K:W.Frag}{mg:cg}{base:Heap}{k l:Nat}{x:Str}{j:Nat}{Mf:cw->eM}{g:cc}(c:FG P w K mg base k x j Mf g) (h:k<=l:=by omega):FG P w K mg base l x j Mf g:=
 let ⟨f,fd,ps,F,r⟩:=c;⟨f,fd,ps,F.mono h,r⟩
def D8 {P:cC}{w:cD}{K:W.Frag}{mg:cg}{base:Heap}{k:Nat}{f:cG}{fd:cB}{ps:List Str}:eO P w K mg base iY k f fd ps (nR λ_=>none):=
 ⟨(λvs H Q E ⟨_,_,_,_,_,q,_⟩=>by cases q),λA outer s H args us vs Q E _ _ _ _ ⟨_,_,_,_,_,q,_⟩=>by cases q⟩
def NN {P:cC}{w:cD}{K:W.Frag}{mg:cg}{base:Heap}{k:Nat}{f:cG}{fd:cB}{ps:List Str}{j:Nat}{Mf:cw->eM}:eO P w K mg base iY k f fd ps (VN j Mf λ_=>none):=
 ⟨(λvs H Q E ⟨_,_,_,_,_,_,_,_,q,_⟩=>by cases q),λA outer s H args us vs Q E _ _ _ _ ⟨_,_,_,_,_,_,_,_,q,_⟩=>by cases q⟩
structure YH [Mem] (X:Cx) (es:List cH) (i j:Nat) (f:bX):Prop where
 go:PAM X es i j f
structure YI (X:Cx) (es:List cH) (j:Nat) (f:bX):Prop where
 go:PAN X es j f
section
variable {X:Cx}{e k o:cH}{es:List cH}{p pos:Pos}{x:Str}{a:cG}{M:eM}{C0 H0:Hp}{i:Nat}
def NO [Mem] (ho:PE X e (lQ i)) (hr:Hq X es f) (hs:cL e es X.env:=by exact fS rfl):YH X (e::es) i 0 f:=⟨(jy ho hr.go hs).imp λσ H Q ⟨C,δ,ds,ks,x,hi,q,k⟩=>by
 obtain⟨a,h1,h2,_,_⟩:=x.mem i ks hi;exact⟨.ref a,h2,C,δ,ds,x,q,λvs C' H' ev il=>k (.ref a::vs) C' H' a ev h1 rfl il⟩⟩
def NP [Mem] (ha:WD X e f) (hr:YH X es i j g) (hs:cL e es X.env:=by exact fS rfl):YH X (e::es) i (j+1) (cN f g):=⟨(jy ha.go hr.go hs).imp λσ H Q ⟨C,δ,ds,ks,x,hi,q,k⟩=>by
 unfold cN at q;cases hf:f δ with
 |none=>rw[hf]at q;cases q
 |some d=>
  cases hg:g δ with
  |none=>rw[hf,hg]at q;cases q
  |some r=>
   rw[hf,hg]at q;cases q;exact⟨C,δ,d,x,hf,λv C1 H1 e1 i1=>⟨C1,δ,r,ks,x.ev e1,hi,hg,λvs C2 H2 a e2 h1 h2 i2=>k (v::vs) C2 H2 a (e1.trans e2) h1 h2 (.cons (i1.mono e2.c) i2)⟩⟩⟩
def NQ (hr:@Hq Mem.keep X es f) (hs:cL (.Dict [] [] pos) es X.env:=by exact fS rfl):YI X (.Dict [] [] pos::es) 0 f:=by
 have hr:=(@Hq.go Mem.keep _ _ _ hr);exact⟨(jy JY hr hs).imp λσ H Q ⟨C,δ,ds,x,q,k⟩=>by
  letI:=Mem.keep
  intro t ht hsm;have e0:pK C H C (upd H t (.ext (kX t []))):=.gm x.sub ht;refine⟨C,δ,ds,x.ev e0.up,q,λvs C' H' ev il=>?_⟩
  have e1:=ev.xQ;refine k (.ref t::vs) C' H' t (e0.trans e1) ht ?_ (e1.h _ _ dh) hsm rfl il;cases z:C' t with
  |none=>rfl
  |some u=>
   rcases e1.n t u z with z|z
   ·rw[x.sub.free ht]at z;cases z
   ·rw[dh]at z;cases z⟩
def NR (ha:@WD Mem.keep X e f) (hr:YI X es j g) (hs:cL e es X.env:=by exact fS rfl):YI X (e::es) (j+1) (cN f g):=by
 have ha:=(@WD.go Mem.keep _ _ _ ha);have hr:=hr.go;exact⟨(jy ha hr hs).imp λσ H Q ⟨C,δ,ds,x,q,k⟩=>by
  letI:=Mem.keep
  unfold cN at q;cases hf:f δ with
  |none=>rw[hf]at q;cases q
  |some d=>
   cases hg:g δ with
   |none=>rw[hf,hg]at q;cases q
   |some r=>
    rw[hf,hg]at q;cases q;exact⟨C,δ,d,x,hf,λv C1 H1 e1 i1=>⟨C1,δ,r,x.ev e1,hg,λvs C2 H2 a e2 h1 h2 h3 h4 h5 i2=>k (v::vs) C2 H2 a (e1.xQ.trans e2) (e1.free h1) h2 h3 h4 h5 (.cons (i1.mono e2.c) i2)⟩⟩⟩
def NS (c:FG X.prog X.w X.K X.mg X.base l x j Mf g) (hr:hW l X.A) (hg:Gl X x) (ha:@YH (fm a M) X (e::es) i j fa) (yn:(x==("__debug__":Str))=false:=by decide) (he:cL e es X.env:=by exact fS rfl) (mn:(backTo pos (starEach es X.env)).any (·.1)=false:=by exact hZ rfl):@WD (fm a M) X (.Call (.Name x p) (e::es) [] pos) (zJ i Mf g M fa):=by
 obtain⟨f,fd,ps,F,hm,hk,hb⟩:=c;letI:=fm a M
 have ha:=ha.go;exact⟨by
  letI:=fm a M
  refine(DC F hr hg hm hk hb .nil Cm ha yn he mn).imp λσ H Q ⟨C,δ,d,x,q,fin⟩=>?_
  unfold zJ at q;split at q
  ·rename_i ks hi;cases hf:fa δ with
   |none=>rw[hf]at q;cases q
   |some ds=>
    rw[hf]at q;simp only[ao]at q;split at q
    ·rename_i hM;refine⟨C,δ,ds,ks,x,hi,hf,λvs C1 H1 a' e1 h1 h2 i1=>?_⟩
     cases h1;obtain⟨a',z1,z2,ok,_⟩:=(x.ev e1).mem i ks hi;rw[bB];subst hM;exact⟨C1,ds,d,a,e1.s,h2,i1,ok,q,λv C2 H2 e2 i2=>fin v C2 H2 (e1.trans e2) i2⟩
    ·cases q
  ·cases q⟩
def NT {l j:Nat}{Mf:cw->eM}{g:cc}{fa:bX}(c:FG X.prog X.w X.K X.mg X.base l x j Mf g) (hr:hW l X.A) (hg:Gl X x) (ha:YI X (e::es) j fa)
  (yn:(x==("__debug__":Str))=false:=by decide) (he:cL e es X.env:=by exact fS rfl) (mn:(backTo pos (starEach es X.env)).any (·.1)=false:=by exact hZ rfl):
  @WD Mem.keep X (.Call (.Name x p) (e::es) [] pos) (cU g fa):=by
 obtain⟨f,fd,ps,F,hm,hk,hb⟩:=c;letI:=Mem.keep
 have ha:=ha.go;exact⟨by
  letI:=Mem.keep
  refine(DC F hr hg hm hk hb .nil Cm ha yn he mn).imp λσ H Q ⟨C,δ,d,x,q,fin⟩=>?_
  unfold cU at q;cases hf:fa δ with
  |none=>rw[hf]at q;cases q
  |some ds=>
   rw[hf]at q;refine⟨C,δ,ds,x,hf,λvs C1 H1 a e1 h1 h2 h3 h4 h5 i1=>?_⟩
   show VN j Mf g (vs++[]) H1 Q E0;rw[bB];exact⟨C1,ds,d,a,e1.s,h5,i1,⟨[],zK h2 h4 h3⟩,q,λv C2 H2 e2 i2=>fin v C2 H2 (UD e1 h1 e2).up i2⟩⟩
def Il (hu:X.A.units+64<cLine) (he:@WD (fm a M) X e fe) (ho:PE X o (lQ i)) (hk:@WD (fm a M) X k fk) (ha:∀v,assign (.Subscript o k p) X.env v=(do
   let ov <-holding [v] (eval o X.env)
   let iv <-holding [v,ov] (eval k X.env)
   standAt p
   holding [v,ov,iv] (setItem ov iv v)
   release [v,ov,iv] []):=by intro _;rfl) (hs:swapsWithSole [.Subscript o k p] e pos.line X.env=pure false:=by rfl) (hw:swappedStores [.Subscript o k p] e X.env=pure none:=by rfl) (h1:(assignEach [.Subscript o k p] X.env).map (·.2)=[assign (.Subscript o k p) X.env]:=by rfl):@WB (fm a M) X C0 H0 (.Assign [.Subscript o k p] e pos) (lV M i fk fe):=by
 letI:=fm a M
 have he:=he.go;have hk:=hk.go;exact⟨λB=>by
  letI:=fm a M
  refine(MF he (ME ho hk (FC (a:=a) (M:=M) hu) ha) hs hw h1).imp λDn σ H ⟨C,δ,r,gd,q,fin⟩=>?_
  unfold lV at q;split at q
  ·rename_i ks ds d hi Rb QY;split at q
   ·rename_i hc;cases q;refine⟨C,δ,d,gd.x,QY,λv C1 H1 e1 i1=>?_⟩
    have g1:=gd.Bv e1;obtain⟨a',z1,z2,_,_⟩:=g1.x.mem i ks hi;cases z1;refine⟨.ref a,z2,C1,δ,.tup ds,g1.x,Rb,λkv C2 H2 e2 i2=>?_⟩
    have g2:=g1.Bv e2;obtain⟨a',z1,z2,⟨xs,m⟩,_⟩:=g2.x.mem i ks hi;refine⟨C2,ds,d,xs,e2.s,rfl,i2,i1.mono e2.c,hc,m,λys m' rB wI=>fin σ C2 _ ?_⟩
    have ev:=FF e2.s m m' rB;exact(g2.Bv ev).FD hi ⟨ys,m',wI⟩
   ·cases q
  ·cases q⟩
end
def NU {P:cC}{w:cD}{K:W.Frag}{mg:cg}{base:Heap}{x qual:Str}{st:cI}{f:cG}{fd:cB}{N ps:List Str}{k:Nat}(F:jW K x qual st f fd) (S:dA N ps (cY st)) {fb:bY}
  (jL:∀(fD:cy) (A:cE) (outer:List Env) (s:cA) (H:Hp) (E:XK),hW k (A.deeper (envOfC qual (cY st) s.heap.objs.size f fD))->∀C0 H0,@wH Mem.keep (tY iY P w K mg base N qual (cY st) f fD A outer s H E).Hu C0 H0 (fO st) fb):
  eO P w K mg base iY (k+1) f fd ps (nR (gz N.length ps.length fb)):=Sw F S λfD A outer s H E hr C0 H0=>@wH.go Mem.keep _ _ _ _ _ (jL fD A outer s H E hr C0 H0)
def Rc {P:cC}{w:cD}{K:W.Frag}{mg:cg}{base:Heap}{x qual:Str}{st:cI}{f:cG}{fd:cB}{N ps:List Str}{k:Nat}(j:Nat) (Mf:cw->eM) (F:jW K x qual st f fd) (S:dA N ps (cY st)) {fb:eM->bY}
  (jL:∀(a:cG) (M:eM) (fD:cy) (A:cE) (outer:List Env) (s:cA) (H:Hp) (E:XK),hW k (A.deeper (envOfC qual (cY st) s.heap.objs.size f fD))->∀C0 H0,@wH (fm a M) (tY iY P w K mg base N qual (cY st) f fD A outer s H E).Hu C0 H0 (fO st) (fb M)):
  eO P w K mg base iY (k+1) f fd ps (VN j Mf (CJ N.length ps.length j Mf fb)):=UC j Mf F S λa M fD A outer s H E hr C0 H0=>@wH.go (fm a M) _ _ _ _ _ (jL a M fD A outer s H E hr C0 H0)
def Im:bootBuiltins "any"=some (.builtin "any"):=by decide +kernel
section
variable {X:Cx}
def FH (hc:X.calm=true):i9 X (.builtin "any") (λxs H Q=>∃(p:cG) (bs:List Bool),xs=[.ref p]/\rD X.K H p (bs.map V.bl)/\Q (.bl (bs.any id)) H):=by
 intro cM s σ H xs us Q I r h;obtain⟨p,bs,rfl,hq,q⟩:=h;obtain⟨u,rfl,r1⟩:=vals1 r;cases r1;obtain⟨dE,rv,pl,hz⟩:=I.list hq;have fP:p<s.heap.objs.size:=by obtain⟨o,n,e,_⟩:=pl;exact aB e
 have hlen:=rv.length;rw[ae]at hlen;have ZK:∀(i:Nat) (v:cy),dE.toArray[i]? =some v->v=.bool (bs.getD i false):=λi v hv=>by
  have JI:dE[i]? =some v:=by simpa using hv
  have hi:i<dE.length:=(List.getElem?_eq_some_iff.mp JI).1;have g1:(bs.map V.bl)[i]? =some (.bl (bs.getD i false)):=by
   rw[av,ah (by omega),ak,ah (by omega)];rfl
  obtain⟨w,h1,h2⟩:=rv.get g1;rw[JI]at h1;cases h1;exact h2
 refine call_any_walk (wpAny_pyIter_list pl.isList ⟨s.heap.objs.size,_,_,_,_,_,λi=>bs.getD i false,rfl,Walks.list (A:=X.A.in1) (I.ok.hd hc) s.heap.objs.size p (aE fP) dE.toArray,⟨⟨_,az _ rfl,rfl,rfl⟩,?_⟩,λi v s' Q' E' hv hQ=>?_,λh' tk kk=>?_⟩)
 ·obtain⟨o,n,e,h1,h2,h3⟩:=pl;exact⟨o,ag _ e,h1,n,h3⟩
 ·rw[ZK i v hv];exact bP hQ
 ·have I1:L2.Inv X cM σ H {s with heap:=s.heap.push {cls:=.type "list_iterator",data:=.fields #[.ref p,.int 0 0]}}:=I.kept (t':=s.toks) λb o e=>ag _ e
  obtain⟨f0,f1,f2,f3,f4,f5⟩:=I.MG (H':=H) (au _) (I.gk.fresh (au _));have I2:=I1.turned (t':=tk) (h':=h') (it:=s.heap.objs.size) (λb o hb e=>kk b o (by simpa using hb) e) f0 f1 f3 f4 f5
  refine⟨.bl (bs.any id),H,I2,?_,q⟩;show Value.bool _=Value.bool _
  congr 1
  rw[aq,<-hlen];exact any_map.symm.trans (congrArg (·.any id) (gB bs false))
def Io:cc
 |[.lst ds]=>(oX ds).map λbs=>.bl (bs.any id)
 |_=>none
def NV (hc:X.calm=true):xR X (.builtin "any") Io:=by
 refine⟨_,FH hc,?_⟩;intro C H vs ds d Q s i q k;unfold Io at q;split at q
 ·rename_i es;cases hb:oX es with
  |none=>rw[hb]at q;cases q
  |some bs=>
   rw[hb]at q;cases q;letI:=Mem.keep
   obtain⟨v,rfl,j⟩:=i.one;obtain⟨p,xs,rfl,hq,l⟩:=j.list (K:=X.K) s;rw[zw hb]at l;cases l.HS;exact⟨p,bs,rfl,hq,k _ C H (.refl s) (.bl _)⟩
 ·cases q
end
end DL
namespace L2
section
variable {prog:cC}{w:cD}{A:cE}{E:cf}{s:cA}
def rX (ht:IsTup s.heap t vs.toArray) (hQ:Q vs {s with heap:=(s.heap.push (seqObj "list" #[] 0)).update s.heap.objs.size (Obj.mapSeq (·++vs.toArray))}) (hsz:vs.length<=sizeLine):wpAny (model prog w) A (collect (.ref t)) Q E s:=by
 obtain⟨o,ho,hc,n,hd⟩:=id ht;unfold collect;refine aa (wpAny_runValue (codeAny_builtin F.entry_proto_collect ?_));rw[bW F.plain_proto_collect _];show wpAny _ A.in1 (newList []>>=λl=>again (.builtin "list.__iadd__" ⟨[l,.ref t],[]⟩)) _ _ s
 refine aa (bQ ?_);refine aj ⟨plainId_quiet F.plain_list_iadd _,codeAny_builtin F.entry_list_iadd ?_⟩;rw[bW F.plain_list_iadd _];show wpAny _ A.in1 (Builtin.List.listExtendWith (.ref s.heap.objs.size) (.ref t) (.ref s.heap.objs.size)) _ _ _;have hS:(s.heap.push {cls:=.type "list",data:=.seq ([]:cx).toArray}).get? s.heap.objs.size=some {cls:=.type "list",data:=.seq #[] 0}:=az _ rfl;have hS₂:=Heap.get?_update_self (Obj.mapSeq (·++vs.toArray)) hS rfl
 have Xn:wpAny (model prog w) A (match Value.ref s.heap.objs.size with
   |Value.ref a=>do
    match(<-load a).data with
     |Data.seq xs _=>pure xs.toList
     |_=>unsupported "internal:collect"
   |_=>unsupported "internal:collect") Q E {s with heap:=(s.heap.push {cls:=.type "list",data:=.seq ([]:cx).toArray}).update s.heap.objs.size (Obj.mapSeq (·++vs.toArray))}:=by
  show wpAny _ A (load s.heap.objs.size>>=_) _ _ _;refine aa (wpAny_load hS₂ ?_);refine aj ?_;have e:((#[]:Array cy)++vs.toArray).toList=vs:=by simp
  show Q ((#[]:Array cy)++vs.toArray).toList _;rw[e];exact hQ
 refine bO (wpAny_extend_seq (hsz:=by rw[aq];exact hsz) (A:=A) (R:=λr s'=>r=.ok (.ret (.ref s.heap.objs.size))/\s'={s with heap:=(s.heap.push {cls:=.type "list",data:=.seq ([]:cx).toArray}).update s.heap.objs.size (Obj.mapSeq (·++vs.toArray))})
  (s:={s with heap:=s.heap.push {cls:=.type "list",data:=.seq ([]:cx).toArray}}) _ t _ 0 (.inr rfl) hS (ag _ ho) hc hd ⟨rfl,rfl⟩) (λfin s' h=>?_) (λe s' h=>?_)
 ·cases fin with
  |done f=>
   obtain⟨e,rfl⟩:=h;cases e;exact Xn
  |again c'=>exact⟨h.1,codeAny_mono h.2 λr Ff hr=>by obtain⟨rfl,rfl⟩:=hr;exact Xn⟩
 ·exact absurd h.1 (by simp)
def D9 {t:cG}{vs:cx}{ns:cp}{Q:cf}(ht:IsTup s.heap t vs.toArray) (hI:IntsAre vs ns) (xS:vs.length<64)
  (h:∀(out:Array cy) (E5:cp),IntsAre out.toList E5->E5.Perm ns->E5.Pairwise (·<= ·)->Q (.ref (s.heap.objs.size+1)) {s with heap:=sortedAll s.heap vs out}):
  wpAny (model prog w) A (call (.builtin "sorted") [.ref t]) Q E s:=by
 refine Calls.call_function_entry kind_sorted plain_sorted entry_sorted (args_sorted1 _) ?_;unfold Builtin.«sorted»;refine aa (m:=checkCount "sorted" 1 1 _) (aj ?_);refine aa (rX ht ?_ (by rw[bu];omega))
 refine aa (wpAny_newList ?_ (hsz:=by rw[bu];omega))
 have hsz:((s.heap.push (seqObj "list" #[] 0)).update s.heap.objs.size (Obj.mapSeq (·++vs.toArray))).objs.size=s.heap.objs.size+1:=by
  rw[Heap.size_update,size_push']
 have E9:(((s.heap.push (seqObj "list" #[] 0)).update s.heap.objs.size (Obj.mapSeq (·++vs.toArray))).push (seqObj "list" vs.toArray 0)).get? (s.heap.objs.size+1)=some (seqObj "list" vs.toArray 0):=by
  rw[<-hsz];exact az _ rfl
 show wpAny _ _ _ _ _ {s with heap:=((s.heap.push (seqObj "list" #[] 0)).update s.heap.objs.size (Obj.mapSeq (·++vs.toArray))).push (seqObj "list" vs.toArray 0)}
 rw[hsz];refine aa (bj (bL slot_list_sort ⟨_,E9,rfl⟩ entry_list_sort (list_sort_tree E9 hI xS λout E5 a1 a2 a3=>⟨_,rfl,?_⟩) (args_list_sort _)))
 exact aj ⟨_,rfl,h out E5 a1 a2 a3⟩
end
section
variable {X:Cx}
def vE:i9 X (.builtin "sorted") (λxs H Q=>∃(p:cG) (ns:cp),xs=[.ref p]/\mB X.K H p (ns.map V.int)/\ns.length<64/\∀(l:cG) (ms:cp),H l=none->ms.Perm ns->ms.Pairwise (·<= ·)->Q (.ref l) (upd H l (.lst (ms.map V.int)))):=by
 intro cM s σ H xs us Q I r h;obtain⟨p,ns,rfl,hq,xS,q⟩:=h;obtain⟨u,rfl,rx⟩:=vals1 r;cases rx;obtain⟨dE,rv,pl,hz⟩:=I.tuple hq;have hi:IntsAre dE ns:=intsAre_of rv;have hl:=hi.length;refine D9 pl hi (by omega) λout E5 a1 a2 a3=>?_
 obtain⟨e,he⟩:=sortedAll_at s.heap dE out;refine⟨.ref (s.heap.objs.size+1),_,I.laid (t':=s.toks) (o:=.lst (E5.map V.int)) (λb o z=>sortedAll_old z) (Nat.le_succ _) ?_,rfl,q _ E5 (I.gk.fresh (Nat.le_succ _)) a2 a3⟩
 refine⟨?_,out.toList,e,tw a1,by simpa using he⟩
 have:=a2.length_eq;rw[ae];exact bg (mP (by omega))
end
end L2
namespace DL
open L2
section
variable {X:Cx}
def iP:cw->Option (cw)
 |[.tup ds]=>if ds.length<64 then(intsOf ds).map λns=>(sortI ns).map D.int else none
 |_=>none
def tJ (hu:X.A.units+64<cLine):Ct X (.builtin "sorted") iP:=by
 refine⟨_,vE,?_⟩;intro C H vs ds d Q s i q k;unfold iP at q;split at q
 ·rename_i es;split at q
  ·rename_i xS;cases hn:intsOf es with
   |none=>rw[hn]at q;cases q
   |some ns=>
    rw[hn]at q;cases q;letI:=Mem.keep
    obtain⟨v,rfl,j⟩:=i.one;obtain⟨p,xs,rfl,hq,l,_⟩:=j.tup (K:=X.K) s;have e:=jz hn;subst e;cases l.lE;rw[ae]at xS;refine⟨p,ns,rfl,hq,xS,λt ms ht pm pw=>?_⟩
    have e:ms=sortI ns:=gw (λa b h1 h2=>by omega) (pm.trans (sortI_perm ns).symm) pw (zC ns)
    subst e;exact k t _ C _ (.gm s ht) ht (s.free ht) dh (.ints _)
  ·cases q
 ·cases q
end
structure OC where
 cl:cG
 fG:Str
 fK:Str
 Mf:D->eM
structure vG where
 o:cG
 dx:cG
 a:cG
structure hU (Y:OC) (A:vG) (G:D) (C H:Hp) (xs:List (D×cG×cy)):Prop where
 h:∃fs gv,H A.o=some (.ins Y.cl A.dx fs)/\fs.lookup Y.fG=some gv/\fs.lookup Y.fK=some (.ref A.a)/\(∀m,m≠Y.fG->m≠Y.fK->fs.lookup m=none)/\Is C gv G
 c:C A.o=none
 m:eI A.a (Y.Mf G) C H xs
section
variable {Y:OC}{A:vG}{G:D}{C H C' H':Hp}{xs:List (D×cG×cy)}
theorem hU.UA (m:hU Y A G C H xs) (e:pK C H C' H'):hU Y A G C' H' xs where
 h:=let ⟨fs,gv,h1,h2,h3,h4,h5⟩:=m.h;⟨fs,gv,e.h _ _ h1,h2,h3,h4,h5.mono e.c⟩
 c:=by
  obtain⟨fs,gv,h1,_⟩:=m.h;cases q:C' A.o with
  |none=>rfl
  |some u=>
   rcases e.n A.o u q with z|z
   ·rw[m.c]at z;cases z
   ·rw[h1]at z;cases z
 m:=m.m.UA e
theorem hU.BC (m:hU Y A G C H xs) {b:cG}{o:HO}(hb:b≠A.o) (UG:b≠A.a):hU Y A G C (upd H b o) xs where
 h:=let ⟨fs,gv,h1,h2⟩:=m.h;⟨fs,gv,by rw[dg (Ne.symm hb)];exact h1,h2⟩
 c:=m.c
 m:=m.m.BC UG
theorem hU.BD (m:hU Y A G C H xs) {b:cG}{o:HO}(hb:b≠A.o) (UG:b≠A.a) (hc:C b=none):hU Y A G (upd C b o) H xs where
 h:=let ⟨fs,gv,h1,h2,h3,h4,h5⟩:=m.h;⟨fs,gv,h1,h2,h3,h4,h5.mono (fu hc)⟩
 c:=by rw[dg (Ne.symm hb)];exact m.c
 m:=m.m.BD UG hc
theorem hU.ne (m:hU Y A G C H xs) (h:∀u,H b=some u->Ho u=false):b≠A.o/\b≠A.a:=by
 refine⟨λz=>?_,m.m.ne h⟩
 obtain⟨fs,gv,h1,_⟩:=m.h;subst z;have:=h _ h1;cases this
theorem hU.SA (m:hU Y A G C H xs) (h:H b=none):b≠A.o/\b≠A.a:=by
 refine⟨λz=>?_,m.m.SA h⟩
 obtain⟨fs,gv,h1,_⟩:=m.h;subst z;rw[h1]at h;cases h
theorem hU.SD (m:hU Y A G C H xs) {b:cG}{o:HO}(ho:H b=some o) (hx:Ho o=false):b≠A.o/\b≠A.a:=m.ne λu q=>by rw[ho]at q;cases q;exact hx
theorem hU.oa (m:hU Y A G C H xs):A.o≠A.a:=λz=>by
 obtain⟨fs,gv,h1,_⟩:=m.h;have:=m.m.h;rw[<-z,h1]at this;cases this
end
@[reducible] noncomputable def eQ (Y:OC) (A:vG) (G:D):Mem where
 cell:=some A.a
 face:=some A.o
 ok:=λC H=>∃xs,hU Y A G C H xs
 has:=λC H k=>∃xs,hU Y A G C H xs/\k∈xs.map (·.1)
 rel:=λC H C' H'=>((∃xs,hU Y A G C H xs)->∃xs,hU Y A G C' H' xs)/\∀k,(∃xs,hU Y A G C H xs/\k∈xs.map (·.1))->∃xs,hU Y A G C' H' xs/\k∈xs.map (·.1)
 of0:=λe=>⟨λ⟨xs,m⟩=>⟨xs,m.UA e⟩,λk ⟨xs,m,hk⟩=>⟨xs,m.UA e,hk⟩⟩
 trans:=λr1 r2=>⟨λh=>r2.1 (r1.1 h),λk h=>r2.2 k (r1.2 k h)⟩
 chg:=λ{_ _ _ _ b o} r hb=>⟨λ⟨xs,m⟩=>let ⟨ys,m'⟩:=r.1 ⟨xs,m⟩;⟨ys,m'.BC (m.SA hb).1 (m.SA hb).2⟩,λk ⟨xs,m,hk⟩=>let ⟨ys,m',rB⟩:=r.2 k ⟨xs,m,hk⟩;⟨ys,m'.BC (m.SA hb).1 (m.SA hb).2,rB⟩⟩
 give:=λ{_ _ _ H' b o} r hc ho hx=>⟨λh=>let ⟨ys,m'⟩:=r.1 h;⟨ys,m'.BD (m'.SD ho hx).1 (m'.SD ho hx).2 hc⟩,λk h=>let ⟨ys,m',rB⟩:=r.2 k h;⟨ys,m'.BD (m'.SD ho hx).1 (m'.SD ho hx).2 hc,rB⟩⟩
 WY:=λr h=>r.1 h
 Nk:=λr _ h=>r.2 _ h
 VG:=λ⟨xs,m⟩ h=>⟨xs,m.BC (m.ne h).1 (m.ne h).2⟩
 Lh:=λ_ h ⟨xs,m,hk⟩=>⟨xs,m.BC (m.ne h).1 (m.ne h).2,hk⟩
 WZ:=λ{_ _ b o} ⟨xs,m⟩ hc ho hx=>⟨xs,m.BD (m.SD ho hx).1 (m.SD ho hx).2 hc⟩
 Nl:=λ{_ _ b o k} _ hc ho hx ⟨xs,m,hk⟩=>⟨xs,m.BD (m.SD ho hx).1 (m.SD ho hx).2 hc,hk⟩
noncomputable def oZ (G:D) (i:Nat):bZ:=λδ=>match δ[i]? with
 |some (.memo _)=>some G
 |_=>none
structure rC (K:W.Frag) (Y:OC):Prop where
 cl:P9 K Y.cl
 nG:rJ K Y.cl Y.fG
 nK:rJ K Y.cl Y.fK
section
variable {X:Cx}{Y:OC}{A:vG}{G:D}{k o:cH}{po:Pos}{i:Nat}
def Rf (Z:rC X.K Y) (ho:PE X o (lQ i)) (hb:attributeBase o Y.fG X.env (eval o X.env)=eval o X.env):@PD (eQ Y A G) X (.Attribute o Y.fG po) (oZ G i):=by
 letI:=eQ Y A G
 refine(DA ho hb).imp λσ H Q ⟨C,δ,d,x,q,fin⟩=>?_
 unfold oZ at q;split at q
 ·rename_i ks hi;cases q;obtain⟨a',h1,h2,⟨xs,m⟩,_⟩:=x.mem i ks hi;cases h1;obtain⟨fs,gv,g1,g2,g3,g4,g5⟩:=m.h;exact⟨.ref A.o,h2,A.o,Y.cl,A.dx,fs,gv,rfl,g1,Z.cl,Z.nG,g2,fin gv C H (.refl x.sub) g5⟩
 ·cases q
def UH (Z:rC X.K Y) (x:@Sx (eQ Y A G) δ σ C H) (hi:δ[i]? =some (.memo ks)) (q:Q (.ref A.a) H):Wm X.K (lQ i) Y.fK σ H Q:=by
 obtain⟨a',h1,h2,⟨xs,m⟩,_⟩:=@Sx.mem (eQ Y A G) _ _ _ _ x i ks hi;cases h1;obtain⟨fs,gv,g1,g2,g3,g4,g5⟩:=m.h;exact⟨.ref A.o,h2,A.o,Y.cl,A.dx,fs,_,rfl,g1,Z.cl,Z.nK,g3,q⟩
def Ip (s:eE C H) (m:hU Y A G C H xs) (m':eI A.a (Y.Mf G) C (upd H A.a (.ext (kX A.a ys))) ys) (hk:∀k,(∃zs,eI A.a (Y.Mf G) C H zs/\k∈zs.map (·.1))->k∈ys.map (·.1)):hU Y A G C (upd H A.a (.ext (kX A.a ys))) ys/\@Ev (eQ Y A G) C H C (upd H A.a (.ext (kX A.a ys))):=by
 letI:=eQ Y A G
 have m2:hU Y A G C (upd H A.a (.ext (kX A.a ys))) ys:=⟨let ⟨fs,gv,h1,h2⟩:=m.h;⟨fs,gv,by rw[dg m.oa];exact h1,h2⟩,m.c,m'⟩
 refine⟨m2,eE.refl _,λb o q h=>?_,λb o q h x=>?_,λb u q=>?_,λb u q=>.inl q,⟨λ_=>⟨ys,m2⟩,λk ⟨zs,mz,hz⟩=>⟨ys,m2,hk k ⟨zs,mz.m,hz⟩⟩⟩⟩
 ·have:b≠A.a:=λz=>by
   subst z;rcases h with h|h
   ·exact h rfl
   ·rw[m.m.h]at q;cases q;cases h
  rw[dg this];exact q
 ·cases h;exact⟨_,dh,rfl⟩
 ·rw[dg (dB q m.m.c)];exact s b u q
end
def NW (Y:OC) (g:cc):Sp:=λvs H Q _=>∃C G ds d A ws,eE C H/\vs=.ref A.o::ws/\IsL C ws ds/\(∃xs,hU Y A G C H xs)/\g (G::ds)=some d/\∀v C' H',@Ev (eQ Y A G) C H C' H'->Is C' v d->Q v H'
noncomputable def oz (i:Nat) (G:D) (g:cc) (f:bX):bZ:=λδ=>match δ[i]? with
 |some (.memo _)=>(f δ).bind λds=>g (G::ds)
 |_=>none
noncomputable def vH (g:cc) (fg:bZ) (fa:bX):bZ:=λδ=>(fg δ).bind λG=>(fa δ).bind λds=>g (G::ds)
def qU (n np:Nat) (fb:D->bY):cc
 |G::ds=>if ds.length+1=np/\0<np then(match fb G (startM n np 0 ds)with|some (.ret d)=>some d|some (.next _)=>some .eU|_=>none)else none
 |[]=>none
def UI {P:cC}{w:cD}{K:W.Frag}{mg:cg}{base:Heap}{x qual:Str}{st:cI}{f:cG}{fd:cB}{N ps:List Str}{k:Nat}(Y:OC) (F:jW K x qual st f fd) (S:dA N ps (cY st)) {fb:D->bY}
  (jL:∀(A:vG) (G:D) (fD:cy) (Ar:cE) (outer:List Env) (s:cA) (H:Hp) (E:XK),hW k (Ar.deeper (envOfC qual (cY st) s.heap.objs.size f fD))->∀C0 H0,@VJ (eQ Y A G) (tY iY P w K mg base N qual (cY st) f fD Ar outer s H E).Hu C0 H0 (fO st) (fb G)):
  eO P w K mg base iY (k+1) f fd ps (NW Y (qU N.length ps.length fb)):=by
 refine F.ok S (λvs H Q E h=>?_) (λfD Ar outer s H vs Q E hr h=>?_)
 all_goals
  obtain⟨C,G,ds,d,A,ws,sub,rfl,i,ok,q,fin⟩:=h;simp only[qU]at q;split at q
  case isFalse=>cases q
  rename_i hl
 ·rw[ay,i.length];exact hl.1
 ·letI:=eQ Y A G
  exact⟨tS C C H (fb G),jL A G fD Ar outer s H E hr C H C,tE (CK (j:=0) S sub rfl i hl rfl ok) q fin⟩
def zN (Y:OC) (H:Hp) (x dx p:cG) (gv:V):Hp:=upd (upd (upd H x (.ins Y.cl dx (pO Y.fG gv []))) p (.ext (kX p []))) x (.ins Y.cl dx (pO Y.fK (.ref p) (pO Y.fG gv [])))
def NX (Y:OC):TS:=λDn σ H=>∃x dx gv,σ[0]? =some (some (.ref x))/\σ[1]? =some (some gv)/\H x=some (.ins Y.cl dx [])/\∀p,p≠x->H p=none->(p==sysModules)=false->Dn.nx σ (zN Y H x dx p gv)
def Iq (Y:OC):Sp:=λvs H Q _=>∃x dx gv,vs=[.ref x,gv]/\H x=some (.ins Y.cl dx [])/\∀p,p≠x->H p=none->(p==sysModules)=false->Q .eU (zN Y H x dx p gv)
section
variable {X:Cx}{Y:OC}{e0 e1 e2:cH}{p1 p2 p3 p4 p5:Pos}
def NY (Z:rC X.K Y) (h0:PE X e0 (lQ 0)) (h1:PE X e1 (lQ 1)) (h2:PE X e2 (lQ 0))
  (s1:swapsWith e1 (some (.Attribute e0 Y.fG p1)) p2.line X.env=pure false) (s2:swapsWith (.Dict [] [] p4) (some (.Attribute e2 Y.fK p3)) p5.line X.env=pure false):
  Dw X [.Assign [.Attribute e0 Y.fG p1] e1 p2,.Assign [.Attribute e2 Y.fK p3] (.Dict [] [] p4) p5] (NX Y):=λcM s σ H Dn I h=>by
 obtain⟨x,dx,gv,q0,q1,hx,fin⟩:=h;refine va (MS h0 h1 s1) (JE (MS h2 (JY (pos:=p4)) s2)) cM s σ H Dn I ?_;refine⟨gv,q1,.ref x,q0,x,Y.cl,dx,[],rfl,hx,Z.cl,Z.nG,by decide,?_⟩
 intro p hp hs;have jX:p≠x:=λz=>by subst z;rw[dh]at hp;cases hp
 refine⟨.ref x,q0,x,Y.cl,dx,_,rfl,by rw[dg (Ne.symm jX),dh],Z.cl,Z.nK,by show(1:Nat)<1000;decide,?_⟩
 exact fin p jX (by rw[dg jX]at hp;exact hp) hs
end
def Rg {P:cC}{w:cD}{K:W.Frag}{mg:cg}{base:Heap}{x qual:Str}{st:cI}{f:cG}{fd:cB}{N:List Str}{p1 p2:Str}{k:Nat}(Y:OC) (F:jW K x qual st f fd) (S:dA N [p1,p2] (cY st)) (hN:N.length=2)
  (jL:∀(fD:cy) (Ar:cE) (outer:List Env) (s:cA) (H:Hp) (E:XK),Dw (tY iY P w K mg base N qual (cY st) f fD Ar outer s H E).Hu (fO st) (NX Y)):
  eO P w K mg base iY (k+1) f fd [p1,p2] (Iq Y):=by
 refine F.ok S (λvs H Q E h=>?_) (λfD Ar outer s H vs Q E hr h=>?_)
 ·obtain⟨x,dx,gv,rfl,_⟩:=h;rfl
 ·obtain⟨x,dx,gv,rfl,hx,fin⟩:=h;refine⟨NX Y,jL fD Ar outer s H E,x,dx,gv,?_,?_,hx,fin⟩<;>rfl
def SG (Y:OC) (fg:bZ):TE:=λσ H Q=>∃C δ G,@Sx Mem.keep δ σ C H/\fg δ=some G/\∀A C' H',pK C H C' H'->H A.o=none->H A.a=none->hU Y A G C' H' []->Q (.ref A.o) H'
section
variable {X:Cx}{Y:OC}{A:vG}{G:D}{e o:cH}{es:List cH}{pos apos:Pos}{k:Nat}{m x:Str}{f:cG}{fd:cB}{ps:List Str}{g:cc}{fa:bX}{fg:bZ}
def Rh (e1:pK C H C1 H1) (hn:H A.a=none) (e2:@Ev (eQ Y A G) C1 H1 C2 H2):pK C H C2 H2:=by
 letI:=eQ Y A G
 refine⟨e1.c.trans e2.c,λb o q=>?_,e2.s,λb u q=>?_⟩
 ·have hb:b≠A.a:=λz=>by subst z;rw[hn]at q;cases q
  exact e2.h b o (e1.h b o q) (.inl λz=>hb (aS z).symm)
 ·rcases e2.n b u q with z|z
  ·exact e1.n b u z
  ·exact .inr (e1.h.free z)
def Ir {pl:Sem Bool}(Z:rC X.K Y) (ho:PE X o (SG Y fg)) (hm:Meth X.K Y.cl m f) (h1:m≠Y.fG) (h2:m≠Y.fK) (F:eO X.prog X.w X.K X.mg X.base iY k f fd ps (NW Y g)) (hr:hW k X.A) (hb:Binds X.K fd ps []) (ha:@VH Mem.keep X (e::es) fa)
  (uJ:cL e es X.env) (mn:(backTo pos (starEach es X.env)).any (·.1)=false)
  (ht:eval (.Call (.Attribute o m apos) (e::es) [] pos) X.env=(do
   let ov <-eval o X.env
   standAt apos.atName
   let (f,first) <-holding [ov] (getMethod ov m pl)
   callWith pos f first (backTo pos (starEach (e::es) X.env)) (backToKw pos (keywordEach [] X.env)))):
  @PD Mem.keep X (.Call (.Attribute o m apos) (e::es) [] pos) (vH g fg fa):=by
 letI:=Mem.keep
 refine(JJ ho Z.cl hm F hr hb .nil Cm ha uJ mn ht).imp λσ H Q ⟨C,δ,d,x,q,fin⟩=>?_
 unfold vH at q;cases hG:fg δ with
 |none=>rw[hG]at q;cases q
 |some G=>
  cases hf:fa δ with
  |none=>rw[hG,hf]at q;cases q
  |some ds=>
   rw[hG,hf]at q;simp only[ao]at q;refine⟨C,δ,G,x,hG,λA C1 H1 e1 n1 n2 mm=>?_⟩
   obtain⟨fs,gv,g1,g2,g3,g4,g5⟩:=mm.h;refine⟨A.o,A.dx,fs,rfl,g1,g4 m h1 h2,C1,δ,ds,x.ev e1.up,hf,λvs C2 H2 e2 i2=>?_⟩
   show NW Y g (V.ref A.o::(vs++[])) H2 Q E0;rw[bB];have ZT:=e2.xQ;exact⟨C2,G,ds,d,A,vs,ZT.s,rfl,i2,⟨[],mm.UA ZT⟩,q,λv C3 H3 e3 i3=>fin v C3 H3 (Rh (e1.trans ZT) n2 e3).up i3⟩
end
def nW (P:cC) (w:cD) (K:W.Frag) (mg:cg) (base:Heap) (k:Nat) (Y:OC) (m:Str) (g:cc):Prop:=
 ∃f fd ps,eO P w K mg base iY k f fd ps (NW Y g)/\Meth K Y.cl m f/\Binds K fd ps []/\m≠Y.fG/\m≠Y.fK
theorem nW.mono {P:cC}{w:cD}{K:W.Frag}{mg:cg}{base:Heap}{k l:Nat}{Y:OC}{m:Str}{g:cc}(c:nW P w K mg base k Y m g) (h:k<=l:=by omega):nW P w K mg base l Y m g:=
 let ⟨f,fd,ps,F,r⟩:=c;⟨f,fd,ps,F.mono h,r⟩
def xh (P:cC) (w:cD) (K:W.Frag) (mg:cg) (base:Heap) (k:Nat) (Y:OC) (x:Str):Prop:=
 ∃f fd ps,eO P w K mg base iY k f fd ps (Iq Y)/\Mk K Y.cl f/\mg x=some (.ref Y.cl)/\Binds K fd ps []/\Y.fK≠Y.fG
theorem xh.mono {P:cC}{w:cD}{K:W.Frag}{mg:cg}{base:Heap}{k l:Nat}{Y:OC}{x:Str}(c:xh P w K mg base k Y x) (h:k<=l:=by omega):xh P w K mg base l Y x:=
 let ⟨f,fd,ps,F,r⟩:=c;⟨f,fd,ps,F.mono h,r⟩
def FJ {P:cC}{w:cD}{K:W.Frag}{mg:cg}{base:Heap}{k:Nat}{f:cG}{fd:cB}{ps:List Str}{Y:OC}:eO P w K mg base iY k f fd ps (NW Y λ_=>none):=
 ⟨(λvs H Q E ⟨_,_,_,_,_,_,_,_,_,_,q,_⟩=>by cases q),λA outer s H args us vs Q E _ _ _ _ ⟨_,_,_,_,_,_,_,_,_,_,q,_⟩=>by cases q⟩
structure Xo (X:Cx) (Y:OC) (e:cH) (f:bZ):Prop where
 go:PE X e (SG Y f)
section
variable {X:Cx}{Y:OC}{A:vG}{G:D}{C0 H0:Hp}{e k o:cH}{es:List cH}{body:List cI}{pos pos' p po apos:Pos}{i l:Nat}{m x:Str}{g:cc}{fa:bX}{fg:bZ}
def yL (Z:rC X.K Y) (ho:PE X o (lQ i)) (hb:attributeBase o Y.fG X.env (eval o X.env)=eval o X.env:=by rfl):@WD (eQ Y A G) X (.Attribute o Y.fG po) (oZ G i):=by
 letI:=eQ Y A G
 exact⟨Rf Z ho hb⟩
def NZ (fs:List Nat) (hu:X.A.units+64<cLine) (Z:rC X.K Y) (hk:@WD (eQ Y A G) X k fk) (ho:PE X o (lQ i)) (ZU:@wH (eQ Y A G) X C0 H0 body fb) (hb:attributeBase o Y.fK X.env (eval o X.env)=eval o X.env:=by rfl) (hm:behindInMarks .NotIn (.Attribute o Y.fK po)=false:=by first|exact yZ _|rfl):@WB (eQ Y A G) X C0 H0 (.If (.Compare k [.NotIn] [.Attribute o Y.fK po] pos) body [] pos') (yK i fs fk fb):=by
 letI:=eQ Y A G
 have hk:=hk.go;have ZU:=ZU.go;exact⟨λB=>by
  letI:=eQ Y A G
  refine(MD (yB (D6 (a:=A.a) (M:=Y.Mf G) hu) hk (DA ho hb) hm) (ZU B) Dz).imp λDn σ H ⟨C,δ,r,gd,q,fin⟩=>?_
  unfold yK at q;split at q
  ·rename_i ks ds δ2 hi Rb Xi;split at q
   ·rename_i hc;obtain⟨c1,c2,c3⟩:=hc;cases q;refine⟨C,δ,.tup ds,gd.x,Rb,λv C1 H1 e1 i1=>?_⟩
    have g1:=gd.Bv e1;obtain⟨a',h1,h2,⟨xs,m⟩,h4⟩:=g1.x.mem i ks hi;refine UH Z g1.x hi ⟨C1,ds,xs,e1.s,i1,c1,c2,rfl,m.m,_,rfl,?_⟩;cases hs:(atKey xs (.tup ds)).isSome with
    |true=>exact Br (fin σ C1 H1 ((g1.FD hi ⟨xs,m,xg.mp hs⟩).weak (FE fs δ i _ ks)))
    |false=>exact yp ⟨C1,δ,.next δ2,g1,Xi,λσ' C' H' g'=>fin σ' C' H' (g'.weak c3)⟩
   ·cases q
  ·cases q⟩
def Lu (hu:X.A.units+64<cLine) (Z:rC X.K Y) (ho:PE X o (lQ i)) (hk:@WD (eQ Y A G) X k fk) (hs:yC k) (hb:attributeBase o Y.fK X.env (eval o X.env)=eval o X.env:=by rfl):@WD (eQ Y A G) X (.Subscript (.Attribute o Y.fK po) k pos) (vD (Y.Mf G) i fk):=by
 letI:=eQ Y A G
 have hk:=hk.go;exact⟨by
  letI:=eQ Y A G
  refine(Si (Q8 (a:=A.a) (M:=Y.Mf G) hu) (DA ho hb) hk hs).imp λσ H Q ⟨C,δ,d,x,q,fin⟩=>?_
  unfold vD at q;split at q
  ·rename_i ks ds hi Rb;split at q
   ·rename_i hc;obtain⟨c1,c2,c3⟩:=hc;refine UH Z x hi ⟨C,δ,.tup ds,x,Rb,λv C1 H1 e1 i1=>?_⟩
    obtain⟨a',h1,_,_,h4⟩:=(x.ev e1).mem i ks hi;obtain⟨xs,m,hx⟩:=h4 _ c3;refine⟨C1,ds,xs,e1.s,rfl,i1,c1,c2,m.m,hx,λw d' hw iw=>?_⟩
    rw[q]at hw;cases hw;exact fin w C1 H1 e1 iw
   ·cases q
  ·cases q⟩
def Lv (hu:X.A.units+64<cLine) (Z:rC X.K Y) (he:@WD (eQ Y A G) X e fe) (ho:PE X o (lQ i)) (hk:@WD (eQ Y A G) X k fk) (hb:attributeBase o Y.fK X.env (eval o X.env)=eval o X.env:=by rfl) (ha:∀v,assign (.Subscript (.Attribute o Y.fK po) k p) X.env v=(do
   let ov <-holding [v] (eval (.Attribute o Y.fK po) X.env)
   let iv <-holding [v,ov] (eval k X.env)
   standAt p
   holding [v,ov,iv] (setItem ov iv v)
   release [v,ov,iv] []):=by intro _;rfl) (hs:swapsWithSole [.Subscript (.Attribute o Y.fK po) k p] e pos.line X.env=pure false:=by rfl) (hw:swappedStores [.Subscript (.Attribute o Y.fK po) k p] e X.env=pure none:=by rfl) (h1:(assignEach [.Subscript (.Attribute o Y.fK po) k p] X.env).map (·.2)=[assign (.Subscript (.Attribute o Y.fK po) k p) X.env]:=by rfl):@WB (eQ Y A G) X C0 H0 (.Assign [.Subscript (.Attribute o Y.fK po) k p] e pos) (lV (Y.Mf G) i fk fe):=by
 letI:=eQ Y A G
 have he:=he.go;have hk:=hk.go;exact⟨λB=>by
  letI:=eQ Y A G
  refine(MF he (ME (DA ho hb) hk (FC (a:=A.a) (M:=Y.Mf G) hu) ha) hs hw h1).imp λDn σ H ⟨C,δ,r,gd,q,fin⟩=>?_
  unfold lV at q;split at q
  ·rename_i ks ds d hi Rb QY;split at q
   ·rename_i hc;cases q;refine⟨C,δ,d,gd.x,QY,λv C1 H1 e1 i1=>?_⟩
    have g1:=gd.Bv e1;refine UH Z g1.x hi ⟨C1,δ,.tup ds,g1.x,Rb,λkv C2 H2 e2 i2=>?_⟩
    have g2:=g1.Bv e2;obtain⟨a',z1,z2,⟨xs,m⟩,_⟩:=g2.x.mem i ks hi;refine⟨C2,ds,d,xs,e2.s,rfl,i2,i1.mono e2.c,hc,m.m,λys m' rB wI=>fin σ C2 _ ?_⟩
    obtain⟨m2,ev⟩:=Ip e2.s m m' rB;exact(g2.Bv ev).FD hi ⟨ys,m2,wI⟩
   ·cases q
  ·cases q⟩
def vI (Z:rC X.K Y) (c:nW X.prog X.w X.K X.mg X.base l Y m g) (hr:hW l X.A) (ho:PE X o (lQ i)) (ha:@Hq (eQ Y A G) X (e::es) fa) (uJ:cL e es X.env:=by exact fS rfl) (mn:(backTo pos (starEach es X.env)).any (·.1)=false:=by exact hZ rfl) (ht:eval (.Call (.Attribute o m apos) (e::es) [] pos) X.env=(do
   let ov <-eval o X.env
   standAt apos.atName
   let (f,first) <-holding [ov] (getMethod ov m pl)
   callWith pos f first (backTo pos (starEach (e::es) X.env)) (backToKw pos (keywordEach [] X.env))):=by rfl):@WD (eQ Y A G) X (.Call (.Attribute o m apos) (e::es) [] pos) (oz i G g fa):=by
 obtain⟨f,fd,ps,F,hm,hb,h1,h2⟩:=c;letI:=eQ Y A G
 have ha:=ha.go;exact⟨by
  letI:=eQ Y A G
  refine(JJ ho Z.cl hm F hr hb .nil Cm ha uJ mn ht).imp λσ H Q ⟨C,δ,d,x,q,fin⟩=>?_
  unfold oz at q;split at q
  ·rename_i ks hi;cases hf:fa δ with
   |none=>rw[hf]at q;cases q
   |some ds=>
    rw[hf]at q;simp only[ao]at q;obtain⟨a',z1,z2,⟨xs,mm⟩,_⟩:=x.mem i ks hi;cases z1;obtain⟨fs,gv,g1,g2,g3,g4,g5⟩:=mm.h;refine⟨.ref A.o,z2,A.o,A.dx,fs,rfl,g1,g4 m h1 h2,C,δ,ds,x,hf,λvs C1 H1 e1 i1=>?_⟩
    obtain⟨_,_,_,ok,_⟩:=(x.ev e1).mem i ks hi;show NW Y g (V.ref A.o::(vs++[])) H1 Q E0;rw[bB];exact⟨C1,G,ds,d,A,vs,e1.s,rfl,i1,ok,q,λv C2 H2 e2 i2=>fin v C2 H2 (e1.trans e2) i2⟩
  ·cases q⟩
def ZV (Z:rC X.K Y) (c:xh X.prog X.w X.K X.mg X.base l Y x) (hr:hW (l+1) X.A) (hg:Gl X x) (ha:@WD Mem.keep X e fg) (yn:(x==("__debug__":Str))=false:=by decide) (he:cL e [] X.env:=by exact fS rfl) (mn:(backTo pos (starEach [] X.env)).any (·.1)=false:=by exact hZ rfl):
  Xo X Y (.Call (.Name x p) [e] [] pos) fg:=by
 obtain⟨f,fd,ps,F,M,hm,hb,hgk⟩:=c;have ha:=(@WD.go Mem.keep _ _ _ ha);exact⟨by
  letI:=Mem.keep
  refine(Qz M F hr hg hm hb .nil Cm (jy ha rK he) yn he mn).imp λσ H Q ⟨C,δ,G,sx,q,fin⟩=>?_
  refine⟨C,δ,G,sx,q,λv C1 H1 e1 i1=>?_⟩
  intro x dx hx SH jX;refine⟨x,dx,v,rfl,dh,λp hp YJ ZW=>⟨rfl,?_⟩⟩
  have e1:=e1.xQ;have hpd:p≠dx:=λz=>by
   subst z;rw[dg hp,dh]at YJ;cases YJ
  have Qj:H1 p=none:=by rw[dg hp,dg hpd]at YJ;exact YJ
  have hH:∀b,b≠x->b≠p->b≠dx->zN Y (upd (upd H1 dx (.own x)) x (.ins Y.cl dx [])) x dx p v b=H1 b:=λb n1 n2 n3=>by
   unfold zN;rw[dg n1,dg n2,dg n1,dg n1,dg n3]
  have ev:pK C1 H1 C1 (zN Y (upd (upd H1 dx (.own x)) x (.ins Y.cl dx [])) x dx p v):=by
   refine⟨eE.refl _,λb u q=>?_,λb u q=>?_,λb u q=>.inl q⟩
   ·rw[hH b (dB q hx) (dB q Qj) (dB q SH)];exact q
   ·have q':=e1.s b u q;rw[hH b (dB q' hx) (dB q' Qj) (dB q' SH)];exact q'
  refine fin ⟨x,dx,p⟩ C1 _ (e1.trans ev) (e1.h.free hx) (e1.h.free Qj) ⟨⟨_,v,dh,?_,?_,λm h1 h2=>?_,i1⟩,e1.s.free hx,zK (e1.s.free Qj) ZW ?_⟩
  ·rw[ja,if_neg (Ne.symm hgk),ja,if_pos rfl]
  ·rw[ja,if_pos rfl]
  ·rw[ja,if_neg h2,ja,if_neg h1];rfl
  ·show zN Y _ x dx p v p=_;unfold zN;rw[dg hp,dh]⟩
def Iu (Z:rC X.K Y) (c:nW X.prog X.w X.K X.mg X.base l Y m g) (hr:hW l X.A) (ho:Xo X Y o fg) (ha:@Hq Mem.keep X (e::es) fa) (uJ:cL e es X.env:=by exact fS rfl) (mn:(backTo pos (starEach es X.env)).any (·.1)=false:=by exact hZ rfl) (ht:eval (.Call (.Attribute o m apos) (e::es) [] pos) X.env=(do
   let ov <-eval o X.env
   standAt apos.atName
   let (f,first) <-holding [ov] (getMethod ov m pl)
   callWith pos f first (backTo pos (starEach (e::es) X.env)) (backToKw pos (keywordEach [] X.env))):=by rfl):@WD Mem.keep X (.Call (.Attribute o m apos) (e::es) [] pos) (vH g fg fa):=by
 obtain⟨f,fd,ps,F,hm,hb,h1,h2⟩:=c;exact @WD.mk Mem.keep _ _ _ (Ir Z ho.go hm h1 h2 F hr hb (@Hq.go Mem.keep _ _ _ ha) uJ mn ht)
end
def yM {P:cC}{w:cD}{K:W.Frag}{mg:cg}{base:Heap}{x qual:Str}{st:cI}{f:cG}{fd:cB}{N ps:List Str}{k:Nat}(Y:OC) (F:jW K x qual st f fd) (S:dA N ps (cY st)) {fb:D->bY}
  (jL:∀(A:vG) (G:D) (fD:cy) (Ar:cE) (outer:List Env) (s:cA) (H:Hp) (E:XK),hW k (Ar.deeper (envOfC qual (cY st) s.heap.objs.size f fD))->∀C0 H0,@wH (eQ Y A G) (tY iY P w K mg base N qual (cY st) f fD Ar outer s H E).Hu C0 H0 (fO st) (fb G)):
  eO P w K mg base iY (k+1) f fd ps (NW Y (qU N.length ps.length fb)):=UI Y F S λA G fD Ar outer s H E hr C0 H0=>@wH.go (eQ Y A G) _ _ _ _ _ (jL A G fD Ar outer s H E hr C0 H0)
noncomputable def JZ (f:bZ):bZ:=λδ=>match f δ with
 |some (.tup ds)=>some (.tup ds.reverse)
 |_=>none
end DL
namespace HT
section
variable {prog:cC}{w:cD}{A:cE}{E:cf}{s:cA}
def Iv (n:Nat):Builtin.Slice.sliceAdjust none none (-1) (n:Int)=((n:Int)-1,-1):=rfl
def Iw (n:Nat):Builtin.Slice.slicePlaces ((n:Int)-1) (-1) (-1)=n:=by
 unfold Builtin.Slice.slicePlaces;have h1:¬ ((-1:Int)>0):=by omega
 simp only[h1,bD];split
 ·rw[show(- -1:Int)=1 by omega,Int.ediv_one];omega
 ·omega
def xi {sl:cG}{st:cy}{n:Nat}{Q:Int×Int×Nat->cA->Prop}(hs:s.heap.IsSliceOf sl .none .none st) (pk:IsPart st (some (-1))) (h:Q ((n:Int)-1,-1,n) s):
  wpAny (model prog w) A (Builtin.Slice.sliceApplied (.ref sl) (pure (n:Int))) Q E s:=by
 obtain⟨os,K8,Qd,Qe⟩:=id hs;unfold Builtin.Slice.sliceApplied Builtin.Slice.sliceFields;refine aa (aa (wpAny_field K8 Qe (x:=.none) rfl (aa (wpAny_field K8 Qe (x:=.none) rfl (aa (wpAny_field K8 Qe (x:=st) rfl (aj ?_)))))));refine aa (mW pk ?_);show wpAny _ _ (if((-1:Int)==0)=true then _ else _) _ _ s
 rw[if_neg (by decide)]
 refine aa (mW .none (aa (mW .none (aa (aj ?_)))));show wpAny _ _ (match Builtin.Slice.sliceAdjust none none (-1) (n:Int)with|(lo,hi)=>pure (lo,(-1:Int),Builtin.Slice.slicePlaces lo hi (-1))) _ _ s
 rw[Iv n];show wpAny _ _ (pure ((n:Int)-1,(-1:Int),Builtin.Slice.slicePlaces ((n:Int)-1) (-1) (-1))) _ _ s;rw[Iw];exact aj h
def N0 (xs:Array cy):((List.range xs.size).filterMap λ(m:Nat)=>xs[(((xs.size:Int)-1)+(m:Int)*(-1)).toNat]?).toArray=xs.toList.reverse.toArray:=by
 congr 1
 have e:(List.range xs.size).filterMap (λ(m:Nat)=>xs[(((xs.size:Int)-1)+(m:Int)*(-1)).toNat]?)=((List.range xs.size).map λk=>xs.size-1-k).filterMap λk=>xs[k]? :=by
  rw[filterMap_map]
  congr 1
  funext m
  simp only[Function.comp]
  congr 1
  omega
 rw[e,W.krv_range,filterMap_reverse,W.krv_all]
def vJ {t sl:cG}{items:Array cy}{st:cy}{Q:cf}(ht:IsTup s.heap t items) (hs:s.heap.IsSliceOf sl .none .none st) (pk:IsPart st (some (-1)))
  (h:Q (.ref s.heap.objs.size) {s with heap:=s.heap.push {cls:=.type "tuple",data:=.seq items.toList.reverse.toArray}}) (hsz:items.size<=sizeLine):wpAny (model prog w) A (getItem (.ref t) (.ref sl)) Q E s:=by
 have vh:sizeOk (.seq items.toList.reverse.toArray):=by
  show items.toList.reverse.toArray.size<=sizeLine;rw[aq,length_reverse,aN];exact hsz
 obtain⟨os,K8,Qd,Qe⟩:=id hs;have Wz:s.TypeIs (.ref sl) "slice":=⟨os,K8,Qd⟩;unfold getItem;try with_reducible refine bj ?_
 first|refine aa (aj ?_)|skip
 refine aa (wpAny_sequenceKey ht.typeIs (by decide) ?_)
 refine aa (wpAny_callSpecial?_slot (name:=Str.ofString "__getitem__") ht.typeIs PyProof.Rows.slot_tuple_getitem
  (bL PyProof.Rows.slot_tuple_getitem ht.typeIs entry_tuple_getitem ?_ (args_tuple_getitem _ _)))
 show wpAny _ _ (Builtin.Tuple.tupleItemsOf (.ref t)>>=_) _ _ s;refine aa (tupleItemsOf_ ht ?_);refine aa (wpAny_typeOf Wz ?_);rw[if_pos (by decide)]
 refine aa (xi hs pk ?_);have WA:¬ ((((items.size:Int)-1)==0&&(-1:Int)==1&&items.size==items.size)=true):=by
  intro q;rw[Bool.and_eq_true,Bool.and_eq_true]at q;exact absurd q.1.2 (by decide)
 show wpAny _ _ (if(((items.size:Int)-1)==0&&(-1:Int)==1&&items.size==items.size)=true then _ else _) _ _ s
 rw[if_neg WA,N0]
 first
  |exact aa (m:=Builtin.Tuple.tupleExact _) (bQ (aj ⟨_,rfl,aj h⟩) vh)
  |exact aa (m:=Builtin.Tuple.tupleExact _) (bQ (aa (aj (aj ⟨_,rfl,aj h⟩))) vh)
  |exact aa (aa (m:=Builtin.Tuple.tupleExact _) (bQ (aj (aj ⟨_,rfl,aj h⟩)) vh))
  |exact aa (aa (m:=Builtin.Tuple.tupleExact _) (bQ (aj ⟨_,rfl,aj h⟩) vh))
end
end HT
namespace DL
open L2
theorem xT:∀{xs:List V}{ds:cw},IsL C xs ds->IsL C xs.reverse ds.reverse
 |_,_,.nil=>.nil
 |_,_,.cons h l=>by
  rw[reverse_cons,reverse_cons];exact(xT l).append (.one h)
theorem vK:∀{xs:List V}{us:cx},Vals xs us->Vals xs.reverse us.reverse
 |_,_,.nil=>.nil
 |_,_,.cons h l=>by
  rw[reverse_cons,reverse_cons];exact(vK l).append (.cons h .nil)
section
variable [Mem] {X:Cx}{e:cH}{pos p0 p1 p2:Pos}{k0:Nat}{f:bZ}
def ZX (K:W.Frag) (te:TE):TE:=λσ H Q=>te σ H λx H1=>∃a xs,x=.ref a/\mB K H1 a xs/\∀p,H1 p=none->Q (.ref p) (upd H1 p (.tup xs.reverse))
omit [Mem] in
def UJ (he:PE X e te):PE X (.Subscript e (.Slice none none (some (.UnaryOp .USub (.Constant (.int 1) k0 p0) p1)) p2) pos) (ZX X.K te):=by
 intro cM s σ H Q I h;refine Subscript_ (g7 (he cM s σ H _ I h) λv s1 ⟨x,H1,I1,r1,q1⟩=>?_)
 obtain⟨a,xs,rfl,hx,q⟩:=q1;cases r1;refine wpAny_Slice ?_;rw[evalPart_none];refine aj ?_;refine aj ?_;rw[evalPart_some];refine g7 (Sd MK (Dx (X:=X)) cM s1 σ H1 (λy H2=>y=.int (-1)/\H2=H1) I1 ⟨1,rfl,rfl,rfl⟩) λvs s3 ⟨y,H3,I3,r3,e3,e4⟩=>?_
 subst e3 e4;obtain⟨tk,rfl⟩:=r3;have I4:Inv X cM σ H3 {s3 with heap:=s3.heap.push {cls:=.type "slice",data:=.fields #[.none,.none,.int (-1) tk]}}:=I3.kept (t':=s3.toks) λb ob q=>ag _ q
 obtain⟨dE,rv,ht,hz⟩:=I4.tuple hx;have hlen:dE.toArray.size=xs.length:=by rw[aq];exact rv.length.symm
 show wpAny (model X.prog X.w) X.A (subscriptTail e (.Slice none none (some (.UnaryOp .USub (.Constant (.int 1) k0 p0) p1)) p2) (.ref a) (.ref s3.heap.objs.size)) (EP X cM σ Q) X.xe {s3 with heap:=s3.heap.push {cls:=.type "slice",data:=.fields #[.none,.none,.int (-1) tk]}}
 refine tail_any (ops:=[.ref a,.ref s3.heap.objs.size]) ht.typeIs PyProof.Rows.slot_tuple_getitem.lookup ?_ (by with_unfolding_all rfl)
 refine HT.vJ ht (Heap.IsSliceOf.new ..) (.int (-1) tk) ?_ (by rw[hlen];exact hz)
 refine⟨.ref _,_,I4.laid (t':=s3.toks) (o:=.tup xs.reverse) (λb ob q=>ag _ q) (au _) ?_,rfl,q _ (I4.gk.fresh (au _))⟩
 exact⟨by rw[length_reverse];exact hz,_,vK rv,IsTup.new _ _⟩
def Rj (he:WO X e f):WD X (.Subscript e (.Slice none none (some (.UnaryOp .USub (.Constant (.int 1) k0 p0) p1)) p2) pos) (JZ f):=⟨(UJ he.go).imp λσ H Q ⟨C,δ,d,x,q,k⟩=>by
 unfold JZ at q;split at q
 ·rename_i ds hf;cases q;refine⟨C,δ,_,x,hf,λv C1 H1 e1 i1=>?_⟩
  obtain⟨a,xs,rfl,hq,ll,_⟩:=pL.tup (K:=X.K) e1.s i1;exact⟨a,xs,rfl,hq,λt ht=>k _ _ _ (e1.trans (.new e1.s ht)) (.tup dh ((xT ll).mono (fu (e1.s.free ht))))⟩
 ·cases q⟩
end
noncomputable def iS (f:bZ):bX:=λδ=>match f δ with
 |some (.lst ds)=>some ds
 |some (.tup ds)=>some ds
 |_=>none
noncomputable def Xp:cp->Int
 |[]=>0
 |a::r=>if r.isEmpty then a else(if a<Xp r then Xp r else a)
noncomputable def jf:cp->Int
 |[]=>0
 |a::r=>if r.isEmpty then a else(if jf r<a then jf r else a)
def FK:cc
 |[.lst ds]=>(intsOf ds).bind λns=>if ns.isEmpty then none else some (.int (jf ns))
 |_=>none
theorem rY:∀(l:cp),l≠[]->jf l∈l/\∀x∈l,jf l<=x
 |[],h=>absurd rfl h
 |[a],_=>by simp[jf]
 |a::b::r,_=>by
  obtain⟨h1,h2⟩:=rY (b::r) (by simp)
  have e:jf (a::b::r)=(if jf (b::r)<a then jf (b::r)else a):=by rw[jf];simp
  rw[e];refine⟨?_,λx hx=>?_⟩
  ·by_cases h:jf (b::r)<a
   ·rw[if_pos h];exact ai _ h1
   ·rw[if_neg h];exact af
  ·rcases mem_cons.mp hx with rfl|q
   ·split<;>omega
   ·have:=h2 x q;split<;>omega
theorem zO:∀{ns:cp}{dE:cx},Vals (ns.map V.int) dE->∃xs:Array (Int×Tok),dE.toArray=intItems xs/\xs.toList.map (·.1)=ns
 |[],_,.nil=>⟨#[],by simp[intItems],rfl⟩
 |n::ns,_,.cons r t=>by
  obtain⟨tk,rfl⟩:=r;obtain⟨xs,e1,e2⟩:=zO t;refine⟨((n,tk)::xs.toList).toArray,?_,by simpa using e2⟩
  have:intItems xs=(xs.toList.map λp=>Value.int p.1 p.2).toArray:=by cases xs;simp[intItems]
  rw[this]at e1;have e3:=congrArg Array.toList e1;simp only[]at e3;simp[intItems,e3]
section
variable {X:Cx}
def BE (hc:X.calm=true):i9 X (.builtin "min") (λxs H Q=>∃(p:cG) (ns:cp),xs=[.ref p]/\rD X.K H p (ns.map V.int)/\ns≠[]/\Q (.int (jf ns)) H):=by
 intro cM s σ H xs us Q I r h;obtain⟨p,ns,rfl,hq,jX,q⟩:=h;obtain⟨u,rfl,r1⟩:=vals1 r;cases r1;obtain⟨dE,rv,pl,hz⟩:=I.list hq;obtain⟨ys,e1,e2⟩:=zO rv;have hl:=pl.isList;rw[e1]at hl;have hsz:0<ys.size:=by
  have:(ys.toList.map (·.1)).length=ns.length:=by rw[e2]
  rw[ae,aN]at this;cases ns with
  |nil=>exact absurd rfl jX
  |cons a r=>rw[ay]at this;omega
 refine min_intList (I.ok.hd hc) hl hsz λv h' tk hv k=>⟨_,H,I.kept k,?_,q⟩
 obtain⟨t,rfl⟩:=intItems_at hv;obtain⟨h1,h2⟩:=argBest_lt (numAt ys) (ys.size-1);generalize argBest (λi j=>decide (numAt ys i<numAt ys j)) (ys.size-1)=j at *
 have hn:numAt ys j∈ns:=by
  rw[numAt_eq,e2,ak];have hj:j<ns.length:=by rw[<-e2,ae,aN];omega
  rw[ah hj];exact getElem_mem hj
 obtain⟨m1,m2⟩:=rY ns jX;have le1:=m2 _ hn;have le2:numAt ys j<=jf ns:=by
  obtain⟨i,hi,e⟩:=getElem_of_mem m1;have DX:i<ys.size:=by rw[<-e2,ae,aN]at hi;exact hi
  have:=h2 i (by omega)
  rw[numAt_eq ys i,e2,ak,ah hi]at this;simp only[Option.getD_some]at this;rw[e]at this;exact this
 exact⟨t,by rw[show numAt ys j=jf ns by omega]⟩
end
section
variable [Mem] {X:Cx}{e tg:cH}{f:bZ}
def UK (hc:X.calm=true):xR X (.builtin "min") FK:=by
 refine⟨_,BE hc,?_⟩;intro C H vs ds d Q s i q k;unfold FK at q;split at q
 ·rename_i es;cases hb:intsOf es with
  |none=>rw[hb]at q;cases q
  |some ns=>
   rw[hb]at q;simp only[ao]at q;split at q
   ·cases q
   ·rename_i jX;cases q;obtain⟨v,rfl,j⟩:=i.one;obtain⟨p,xs,rfl,hq,l⟩:=j.list (K:=X.K) s;rw[jz hb]at l;cases l.lE;exact⟨p,ns,rfl,hq,λz=>jX (by rw[z];rfl),k _ C H (.refl s) (.int _)⟩
 ·cases q
def J0 (h:WD X e f):rA X tg e (iS f):=⟨λcM s σ H Q I ⟨C,δ,ds,x,q,k⟩=>by
 unfold iS at q;split at q
 ·rename_i es hf;exact Fu h.go cM s σ H Q I ⟨C,δ,ds,x,by unfold iL;rw[hf];exact q,k⟩
 ·rename_i es hf;exact JS h.go cM s σ H Q I ⟨C,δ,ds,x,by unfold iT;rw[hf];exact q,k⟩
 ·cases q⟩
end
end DL
namespace LW
open DL
open L2 (mE E6)
def vL:bY:=
  (eh (dw DP (dw DP (dw Bs (df 0) (dC (.int 48271))) (df 1)) (df 2)))
def rZ:bY:=
  vL
def eC:cc:=gz 3 3 rZ
def m4:bY:=
  (i6 4 (dw kZ (df 1) (cU eC (cN (cW 0) (cN (dC (.int 9973)) (cN (dw kZ (dw rN (df 2) (df 1)) (dC (.int 1))) cT))))))
def m5:bY:=
  (gQ 5 (rO cT))
def m6:bY:=
  (i6 7 (dw kZ (dC (.int 1)) (cU eC (cN (dw kZ (df 0) (dw Bs (dC (.int 7)) (df 6))) (cN (dC (.int 9949)) (cN (cU zt (cN (dC (.int 4)) (cN (df 4) cT))) cT))))))
def jg:bY:=
  (i6 7 (dC (.int 2)))
def iq:bY:=
  (kW (pQ (qB (dw QU (dw DP (df 0) (dC (.int 3))) (dC (.int 0)))) (pQ (qB (dw nS (df 7) (dC (.int 1)))) (qB (dw QU (df 4) (dC (.int 1)))))) jg fW)
def m7:bY:=
  (gQ 8 (wG (cN (cW 4) cT)))
def m8:bY:=
  (Fz 9 10 8 (wG (cN (cW 7) cT)) (cU eC (cN (dw kZ (dw kZ (df 0) (dw Bs (dC (.int 11)) (df 6))) (dw Bs (dC (.int 3)) (df 10))) (cN (dC (.int 9941)) (cN (dw rN (df 4) (df 10)) cT)))))
def nc:bY:=
  (HX 5 (cU i7 (cN (dL (eP kA (cN (df 9) cT))) cT)))
def jh:bY:=
  (kW (qB (dw vq (cU i7 (cN (dL (eP kA (cN (df 9) cT))) cT)) (df 5))) nc fW)
def iQ:bY:=
  (dH m6
   (dH iq
   (dH m7
   (dH m8
   (hO 9 jh)))))
def md:bY:=
  (kz 6 (wG (cN (cU eC (cN (cW 0) (cN (dC (.int 9967)) (cN (dw kZ (df 3) (dC (.int 1))) cT)))) cT)) iQ)
def me:bY:=
  (eh (fV (cN (cW 4) (cN (cU i7 (cN (dL (eP kA (cN (df 5) cT))) cT)) cT))))
def lF:bY:=
  (dH m4
  (dH m5
  (dH md
  me)))
def fL:cc:=gz 11 4 lF
noncomputable def lW (c p m:Int):Int:=c*48271%p%m
def vM (hm:0<m):0<=lW c p m:=Int.emod_nonneg _ (by omega)
def vN (hm:0<m):lW c p m<m:=Int.emod_lt_of_pos _ hm
def FL (hp:0<p) (hm:0<m):eC [.int c,.int p,.int m]=some (.int (lW c p m)):=by
 simp[eC,rZ,vL,gz,eh,dw,df,dC,Bs,DP,Np,Nr,HW,hp,hm,lW]
theorem FN (P:Nat->gh->Prop):∀(ds:cw) (n:Nat) (δ:gh),P n δ->
  (∀i δ d,ds[i]? =some d->P (n+i) δ->∃δ',f (δ.set j (.dat d))=some (.next δ')/\P (n+i+1) δ')->∃δ',gp j f ds δ=some (.next δ')/\P (n+ds.length) δ'
 |[],n,δ,h0,_=>⟨δ,rfl,h0⟩
 |d::ds,n,δ,h0,st=>by
  obtain⟨δ1,e1,h1⟩:=st 0 δ d rfl h0;obtain⟨δ2,e2,h2⟩:=FN P ds (n+1) δ1 h1 (λi δ d hd hp=>by
   have:=st (i+1) δ d (by simpa using hd) (by rw[show n+(i+1)=n+1+i by omega];exact hp)
   rw[show n+(i+1)+1=n+1+i+1 by omega]at this
   exact this)
  refine⟨δ2,?_,by rw[show n+(d::ds).length=n+1+ds.length by simp;omega];exact h2⟩
  unfold gp;rw[e1];exact e2
theorem uS {α:Type}:∀(ls:List α) (i:Nat) (h:i<ls.length),(ls[i]::ls.eraseIdx i).Perm ls
 |a::l,0,_=>List.Perm.refl _
 |a::l,i+1,h=>by
  simp only[getElem_cons_succ,eraseIdx_cons_succ];exact(List.Perm.swap _ _ _).trans (List.Perm.cons _ (uS l i (by simpa using h)))
theorem J1:∀(ds ls:cw),ds.length<=ls.length->
  (∀k d lc,ds[k]? =some d->lc.length+k=ls.length->∃i:Int,f ((δ.set m (.own lc)).set j (.dat d))=some (.int i)/\0<=i/\i<lc.length)->
  ∃xs rest,DZ j m f δ ls ds=some (xs,rest)/\(xs++rest).Perm ls/\xs.length=ds.length
 |[],ls,_,_=>⟨[],ls,rfl,List.Perm.refl _,rfl⟩
 |d::ds,ls,hl,h=>by
  obtain⟨i,e,h0,h1⟩:=h 0 d ls rfl rfl;have hi:i.toNat<ls.length:=by omega
  have le:(ls.eraseIdx i.toNat).length=ls.length-1:=length_eraseIdx_of_lt hi;obtain⟨xs,rest,e2,p,l⟩:=J1 ds (ls.eraseIdx i.toNat) (by simp at hl;omega) (λk d lc hd hk=>h (k+1) d lc (by simpa using hd) (by omega))
  refine⟨ls[i.toNat]::xs,rest,?_,?_,by simp[l]⟩
  ·unfold DZ;rw[e];simp only[if_pos h0,ah hi,e2,bA]
  ·rw[cons_append];refine(List.Perm.cons _ p).trans ?_;exact uS _ _ hi
theorem g8:∀(n:Nat) (lo x:Int),x∈dD lo n↔lo<=x/\x<lo+n
 |0,lo,x=>by simp only[dD,bH,false_iff];omega
 |n+1,lo,x=>by
  simp only[dD,mem_cons,g8 n (lo+1) x];omega
theorem ji:∀(n:Nat) (lo:Int),(dD lo n).Pairwise (·< ·)
 |0,_=>.nil
 |n+1,lo=>by
  simp only[dD,pairwise_cons];exact⟨λx hx=>by rw[g8]at hx;omega,ji n (lo+1)⟩
end LW
namespace ST
open SetTable
abbrev eR (l:List Nat):Prop:=l.Pairwise (·< ·)
def yN {l:List Nat}(h:eR l) {i k:Nat}(hik:i<k) (hk:k<l.length):l[i]'(by omega)<l[k]:=pairwise_iff_getElem.mp h i k (by omega) hk hik
theorem Ea (xs:Array Nat) (j:Nat) (hr:eR xs.toList):∀(fuel lo hi:Nat),lo<=hi->hi<=xs.size->hi-lo<=fuel->(∀k (h:k<xs.size),k<lo->xs[k]<j)->(∀k (h:k<xs.size),hi<=k->j<=xs[k])->
  let r:=below.go xs j fuel lo hi
  r<=xs.size/\(∀k (h:k<xs.size),k<r->xs[k]<j)/\(∀k (h:k<xs.size),r<=k->j<=xs[k])
 |0,lo,hi,h1,h2,h3,h4,h5=>by
  have e:lo=hi:=by omega
  subst e;exact⟨h2,h4,h5⟩
 |fuel+1,lo,hi,h1,h2,h3,h4,h5=>by
  unfold below.go;by_cases fP:lo<hi
  ·simp only[if_pos fP];have Xq:(lo+hi)/2<xs.size:=by omega
   have hg:xs.getD ((lo+hi)/2) j=xs[(lo+hi)/2]:=by simp[Xq]
   rw[hg];by_cases hc:xs[(lo+hi)/2]<j
   ·rw[if_pos hc];refine Ea xs j hr fuel ((lo+hi)/2+1) hi (by omega) h2 (by omega) (λk hk hkl=>?_) h5
    by_cases ZY:k=(lo+hi)/2
    ·subst ZY;exact hc
    ·have:=yN hr (i:=k) (k:=(lo+hi)/2) (by omega) (by simpa using Xq)
     simp only[Array.getElem_toList]at this;omega
   ·rw[if_neg hc];refine Ea xs j hr fuel lo ((lo+hi)/2) (by omega) (by omega) (by omega) h4 (λk hk hkl=>?_)
    by_cases ZY:k=(lo+hi)/2
    ·subst ZY;omega
    ·have:=yN hr (i:=(lo+hi)/2) (k:=k) (by omega) (by simpa using hk)
     simp only[Array.getElem_toList]at this;omega
  ·simp only[if_neg fP];have e:lo=hi:=by omega
   subst e;exact⟨h2,h4,h5⟩
def qc (xs:Array Nat) (j:Nat) (hr:eR xs.toList):below xs j<=xs.size/\(∀k (h:k<xs.size),k<below xs j->xs[k]<j)/\(∀k (h:k<xs.size),below xs j<=k->j<=xs[k]):=
 Ea xs j hr xs.size 0 xs.size (bK _) (au _) (by omega) (λk h hk=>by omega) (λk h hk=>by omega)
def N1 (hr:eR xs.toList) (h:xs[i]? =some j):below xs j=i:=by
 obtain⟨h1,h2,h3⟩:=qc xs j hr;obtain⟨hi,hv⟩:=Array.getElem?_eq_some_iff.mp h;by_cases fP:i<below xs j
 ·have:=h2 i hi fP;omega
 ·by_cases Sm:below xs j<i
  ·have hb:below xs j<xs.size:=by omega
   have:=yN hr (i:=below xs j) (k:=i) Sm (by simpa using hi)
   simp only[Array.getElem_toList]at this;have:=h3 (below xs j) hb (au _);omega
  ·omega
structure Tb (t:cF):Prop where
 rise:eR t.place.toList
 Xr:t.dummies=#[]
def tK (h:Tb t) (hi:t.place[i]? =some j):t.slot j=.live i:=by
 unfold slot;rw[N1 h.rise hi];simp[hi]
def zP (h:Tb t) (hj:j∉t.place.toList):t.slot j=.empty:=by
 unfold slot;have h1:¬ (t.place[below t.place j]? ==some j)=true:=λz=>hj (by
  have z':t.place[below t.place j]? =some j:=by simpa using z
  exact Array.mem_toList_iff.mpr (Array.mem_of_getElem? z'))
 have h2:has t.dummies j=false:=by rw[h.Xr];rfl
 simp only[if_neg h1,h2];rfl
def zQ (h:Tb t) (j:Nat):(∃i,t.slot j=.live i/\t.place[i]? =some j)\/(t.slot j=.empty/\j∉t.place.toList):=by
 by_cases hj:j∈t.place.toList
 ·obtain⟨i,hi⟩:=bo hj;have DX:t.place[i]? =some j:=by simpa using hi
  exact .inl ⟨i,tK h DX,DX⟩
 ·exact .inr ⟨zP h hj,hj⟩
noncomputable def it {α:Type}(f:α->α):Nat->α->α
 |0,a=>a
 |n+1,a=>it f n (f a)
theorem uT (f:α->α):∀(m n:Nat) (a:α),it f (m+n) a=it f n (it f m a)
 |0,n,a=>by rw[Nat.zero_add];rfl
 |m+1,n,a=>by rw[show m+1+n=(m+n)+1 by omega];exact uT f m n (f a)
def qd (f:α->α) (n:Nat) (a:α):it f (n+1) a=f (it f n a):=uT f n 1 a
noncomputable def lp (mask i pt:Nat):Nat:=(i*5+1+pt/32)%(mask+1)
def gC (mask:Nat) (p:Probe):Probe:={p with j:=lp mask p.i p.perturb,more:=runEnd mask (lp mask p.i p.perturb)-lp mask p.i p.perturb,i:=lp mask p.i p.perturb,perturb:=p.perturb/32}
def j8 (mask:Nat) (p:Probe):Probe:=if p.more>0 then {p with j:=p.j+1,more:=p.more-1}else gC mask p
def N4 (t:cF) (p:Probe):t.advance p=j8 t.mask p:=by
 unfold SetTable.advance j8;split<;>rfl
def UL (mask i:Nat):runEnd mask i-i<=9:=by unfold runEnd;split<;>omega
theorem zR (mask:Nat):∀(k:Nat) (p:Probe),k<=p.more->it (j8 mask) k p={p with j:=p.j+k,more:=p.more-k}
 |0,p,_=>rfl
 |k+1,p,h=>by
  show it (j8 mask) k (j8 mask p)=_;have e:j8 mask p={p with j:=p.j+1,more:=p.more-1}:=by unfold j8;rw[if_pos (by omega)]
  rw[e,zR mask k _ (by show k<=p.more-1;omega)]
  show({p with j:=p.j+1+k,more:=p.more-1-k}:Probe)={p with j:=p.j+(k+1),more:=p.more-(k+1)}
  rw[show p.j+1+k=p.j+(k+1) by omega,show p.more-1-k=p.more-(k+1) by omega]
def xU (mask:Nat) (p:Probe):it (j8 mask) (p.more+1) p=gC mask p:=by
 rw[qd,zR mask p.more p (au _)];unfold j8;rw[if_neg (by show ¬ p.more-p.more>0;omega)]
 rfl
theorem blocks (mask:Nat):∀(n:Nat) (p:Probe),p.more<=9->∃k,k<=10*n/\it (j8 mask) k p=it (gC mask) n p
 |0,p,_=>⟨0,au _,rfl⟩
 |n+1,p,h=>by
  obtain⟨k,h1,h2⟩:=blocks mask n (gC mask p) (UL mask _);refine⟨p.more+1+k,by omega,?_⟩
  rw[uT,xU];exact h2
theorem Iy (mask:Nat):∀(n:Nat) (p:Probe),(it (gC mask) n p).perturb=p.perturb/32^n
 |0,p=>by show p.perturb=_;rw[Nat.pow_zero,Nat.div_one]
 |n+1,p=>by
  show(it (gC mask) n (gC mask p)).perturb=_;rw[Iy mask n];show p.perturb/32/32^n=_;rw[Nat.div_div_eq_div_mul,Nat.pow_succ,Nat.mul_comm]
noncomputable def Rk (mask i:Nat):Nat:=(i*5+1)%(mask+1)
theorem N5 (mask:Nat):∀(n:Nat) (p:Probe),p.perturb/32=0->(it (gC mask) n p).i=it (Rk mask) n p.i
 |0,p,_=>rfl
 |n+1,p,h=>by
  show(it (gC mask) n (gC mask p)).i=it (Rk mask) n (Rk mask p.i);rw[N5 mask n _ (by show p.perturb/32/32=0;rw[h])]
  congr 1
  show lp mask p.i p.perturb=Rk mask p.i;unfold lp Rk;rw[h,Nat.add_zero]
def Xs:∀i:Fin 8,∀e:Fin 8,∃m:Fin 8,it (Rk 7) m.val i.val=e.val:=by decide +kernel
def SI:∀i:Fin 32,∀e:Fin 32,∃m:Fin 32,it (Rk 31) m.val i.val=e.val:=by decide +kernel
def reach {mask:Nat}(hm:mask=7\/mask=31) {p:Probe}(h9:p.more<=9) (hp:p.perturb<2^64) {e:Nat}(he:e<=mask):∃k,k<10*turns mask/\(it (j8 mask) k p).j=e:=by
 have key:∃m,m<=mask/\it (Rk mask) m (it (gC mask) 12 p).i=e:=by
  have hi:(it (gC mask) 12 p).i<=mask:=by
   rw[qd];show lp mask _ _<=mask;unfold lp;have:=Nat.mod_lt ((it (gC mask) 11 p).i*5+1+(it (gC mask) 11 p).perturb/32) (show 0<mask+1 by omega)
   omega
  rcases hm with rfl|rfl
  ·obtain⟨m,hm⟩:=Xs ⟨(it (gC 7) 12 p).i,by omega⟩ ⟨e,by omega⟩
   exact⟨m.val,by omega,hm⟩
  ·obtain⟨m,hm⟩:=SI ⟨(it (gC 31) 12 p).i,by omega⟩ ⟨e,by omega⟩
   exact⟨m.val,by omega,hm⟩
 obtain⟨m,h1,h2⟩:=key;obtain⟨k,h3,h4⟩:=blocks mask (12+m) p h9;refine⟨k,by unfold turns;omega,?_⟩
 rw[h4,uT];have h0:(it (gC mask) 12 p).perturb/32=0:=by
  rw[Iy,Nat.div_div_eq_div_mul];apply Nat.div_eq_of_lt
  exact aw hp (by decide)
 have hj:∀(n:Nat) (q:Probe),q.j=q.i->(it (gC mask) n q).j=(it (gC mask) n q).i:=λn=>by
  cases n with
  |zero=>exact λq h=>h
  |succ n=>intro q _;rw[qd];rfl
 rw[hj m _ (by rw[qd];rfl),N5 mask m _ h0,h2]
structure Pb (p:Probe):Prop where
 nine:p.more<=9
 Rl:p.perturb<2^64
 dm:p.dummy=none
theorem Pb.j8 {mask:Nat}{p:Probe}(h:Pb p):Pb (j8 mask p):=by
 unfold ST.j8;split
 ·exact⟨by show p.more-1<=9;have:=h.nine;omega,h.Rl,h.dm⟩
 ·exact⟨UL mask _,Nat.lt_of_le_of_lt (Nat.div_le_self _ _) h.Rl,h.dm⟩
def J2 (h:Int):bits h<2^64:=by
 unfold bits;have h1:=Int.emod_lt_of_pos h (show(0:Int)<2^64 by decide)
 have h2:=Int.emod_nonneg h (show(2^64:Int)≠0 by decide)
 omega
def N6 (t:cF) (h:Int):Pb (t.probeStart h):=⟨UL _ _,J2 h,rfl⟩
theorem N7 (ht:Tb t):∀(fuel:Nat) (p:Probe),Pb p->(∃k,k<fuel/\t.slot (it (j8 t.mask) k p).j=.empty)->
  ∃k,(∀m,m<k->∃i,t.slot (it (j8 t.mask) m p).j=.live i/\ha i≠h)/\
   ((t.slot (it (j8 t.mask) k p).j=.empty/\probe.go t ha h fuel p=some (.empty (it (j8 t.mask) k p).j none))\/
    ∃i,t.slot (it (j8 t.mask) k p).j=.live i/\ha i=h/\probe.go t ha h fuel p=some (.candidate (it (j8 t.mask) k p).j i (it (j8 t.mask) (k+1) p)))
 |0,p,_,⟨k,hk,_⟩=>by omega
 |fuel+1,p,hp,⟨k,hk,he⟩=>by
  rcases zQ ht p.j with⟨i,hs,_⟩|⟨hs,_⟩
  ·by_cases hh:ha i=h
   ·refine⟨0,λm hm=>by omega,.inr ⟨i,hs,hh,?_⟩⟩
    unfold probe.go;rw[hs];show(if(ha i==h)=true then _ else _)=_
    rw[if_pos (beq_iff_eq.mpr hh),N4];rfl
   ·have e:probe.go t ha h (fuel+1) p=probe.go t ha h fuel (j8 t.mask p):=by
     conv=>lhs;unfold probe.go
     rw[hs];show(if(ha i==h)=true then _ else _)=_
     rw[if_neg (λz=>hh (beq_iff_eq.mp z)),N4]
    have YK:k≠0:=λz=>by
     subst z;have YL:t.slot p.j=.empty:=he;rw[hs]at YL;cases YL
    obtain⟨k',rfl⟩:∃k',k=k'+1:=⟨k-1,by omega⟩
    obtain⟨k2,h1,h2⟩:=N7 ht fuel (j8 t.mask p) hp.j8 ⟨k',by omega,he⟩
    refine⟨k2+1,λm hm=>?_,?_⟩
    ·cases m with
     |zero=>exact⟨i,hs,hh⟩
     |succ m=>exact h1 m (by omega)
    ·rw[e];exact h2
  ·refine⟨0,λm hm=>by omega,.inl ⟨hs,?_⟩⟩
   unfold probe.go;rw[hs];show some (Met.empty p.j p.dummy)=_;rw[hp.dm];rfl
structure Wt (t:cF) (hs:cp):Prop where
 tb:Tb t
 mask:t.mask=7\/t.mask=31
 len:t.place.size=hs.length
 le:∀j∈t.place.toList,j<=t.mask
 room:t.place.size<t.mask+1
 way:∀(i:Nat) (h:Int),hs[i]? =some h->∃k,t.place[i]? =some (it (j8 t.mask) k (t.probeStart h)).j/\∀m,m<k->(it (j8 t.mask) m (t.probeStart h)).j∈t.place.toList
def Lw:∀{l:List Nat},eR l->(∀j∈l,j<=n)->l.length<n+1->∃e,e<=n/\e∉l:=by
 intro l hr hle hlen;by_cases h:∀e,e<=n->e∈l
 ·exfalso;have:=bV (l₁:=List.range (n+1)) (l₂:=l) nodup_range λe he=>h e (by have:=mem_range.mp he;omega)
  rw[length_range]at this;omega
 ·simp only[Classical.not_forall]at h;obtain⟨e,he,hn⟩:=h;exact⟨e,he,hn⟩
noncomputable def ins {α:Type}(l:List α) (p:Nat) (x:α):List α:=l.take p++x::l.drop p
def ud (xs:Array α) (p:Nat) (x:α):(insertAt xs p x).toList=ins xs.toList p x:=by
 unfold insertAt ins;simp[Array.toList_append,Array.toList_push,Array.toList_extract,extract_eq_drop_take];exact take_of_length_le (by simp)
def mC (hp:p<=l.length) (i:Nat):(ins l p x)[i]? =if i<p then l[i]? else if i=p then some x else l[i-1]? :=by
 unfold ins;have hl:(l.take p).length=p:=by rw[bI];omega
 by_cases h:i<p
 ·rw[if_pos h,aJ (by omega),getElem?_take,if_pos h]
 ·rw[if_neg h,aP (by omega),hl]
  by_cases h2:i=p
  ·rw[if_pos h2,h2,Nat.sub_self];rfl
  ·rw[if_neg h2];obtain⟨d,hd⟩:∃d,i-p=d+1:=⟨i-p-1,by omega⟩
   rw[hd,aK,getElem?_drop]
   congr 1
   omega
def yO:y∈ins l p x↔y=x\/y∈l:=by
 unfold ins;rw[mem_append,mem_cons];have:y∈l↔y∈l.take p\/y∈l.drop p:=by rw[<-mem_append,take_append_drop]
 rw[this];constructor
 ·rintro(h|h|h)
  ·exact .inr (.inl h)
  ·exact .inl h
  ·exact .inr (.inr h)
 ·rintro(h|h|h)
  ·exact .inr (.inl h)
  ·exact .inl h
  ·exact .inr (.inr h)
def ng (hp:p<=l.length):(ins l p x).length=l.length+1:=by
 unfold ins;simp only[aQ,bI,ay,length_drop];omega
def ins_map (f:α->β) (l:List α) (p:Nat) (x:α):(ins l p x).map f=ins (l.map f) p (f x):=by
 unfold ins;simp[map_take,map_drop]
def N8 (hr:eR xs.toList) (hj:j∉xs.toList):eR (ins xs.toList (below xs j) j):=by
 obtain⟨h1,h2,h3⟩:=qc xs j hr;unfold ins;refine pairwise_append.mpr ⟨List.Pairwise.sublist (take_sublist _ _) hr,pairwise_cons.mpr ⟨λy hy=>?_,List.Pairwise.sublist (drop_sublist _ _) hr⟩,λa ha b hb=>?_⟩
 ·obtain⟨i,hi⟩:=bo hy;rw[getElem?_drop]at hi;have fP:below xs j+i<xs.size:=by have:=(List.getElem?_eq_some_iff.mp hi).1;simpa using this
  have xb:=h3 (below xs j+i) fP (by omega)
  have e:xs[below xs j+i]=y:=by have:=(List.getElem?_eq_some_iff.mp hi).2;simpa using this
  have jX:y≠j:=λz=>hj (z▸mem_of_mem_drop hy)
  omega
 ·have ha':a<j:=by
   obtain⟨i,hi⟩:=bo ha;rw[getElem?_take]at hi;split at hi
   ·rename_i fP;have hl:i<xs.size:=by have:=(List.getElem?_eq_some_iff.mp hi).1;simpa using this
    have e:xs[i]=a:=by have:=(List.getElem?_eq_some_iff.mp hi).2;simpa using this
    have:=h2 i hl fP;omega
   ·cases hi
  have QA:j<=b:=by
   rcases mem_cons.mp hb with rfl|hb
   ·exact au _
   ·obtain⟨i,hi⟩:=bo hb;rw[getElem?_drop]at hi;have fP:below xs j+i<xs.size:=by have:=(List.getElem?_eq_some_iff.mp hi).1;simpa using this
    have:=h3 (below xs j+i) fP (by omega)
    have e:xs[below xs j+i]=b:=by have:=(List.getElem?_eq_some_iff.mp hi).2;simpa using this
    omega
  omega
structure Pm (mask:Nat) (p:Probe):Prop where
 pb:Pb p
 le:p.j+p.more<=mask
def N9 {mask i:Nat}(h:i<=mask):i+(runEnd mask i-i)<=mask:=by unfold runEnd;split<;>omega
theorem Pm.j8 {mask:Nat}{p:Probe}(h:Pm mask p):Pm mask (j8 mask p):=by
 refine⟨h.pb.j8,?_⟩;unfold ST.j8;have:=h.le;split
 ·show p.j+1+(p.more-1)<=mask;omega
 ·show lp mask p.i p.perturb+(runEnd mask (lp mask p.i p.perturb)-lp mask p.i p.perturb)<=mask;exact N9 (by unfold lp;have:=Nat.mod_lt (p.i*5+1+p.perturb/32) (show 0<mask+1 by omega);omega)
theorem Pm.it {mask:Nat}:∀(k:Nat) {p:Probe},Pm mask p->Pm mask (it (ST.j8 mask) k p)
 |0,_,h=>h
 |k+1,_,h=>Pm.it k h.j8
def vO (t:cF) (h:Int):Pm t.mask (t.probeStart h):=
 ⟨N6 t h,N9 (by have:=Nat.mod_lt (bits h) (show 0<t.mask+1 by omega);show bits h%(t.mask+1)<=t.mask;omega)⟩
theorem Wt.put (w:Wt t hs) (he:(it (j8 t.mask) k (t.probeStart h)).j∉t.place.toList) (hb:∀m,m<k->(it (j8 t.mask) m (t.probeStart h)).j∈t.place.toList) (j7:t.place.size+1<t.mask+1):Wt (t.put (it (j8 t.mask) k (t.probeStart h)).j).1 (ins hs (t.put (it (j8 t.mask) k (t.probeStart h)).j).2 h)/\(t.put (it (j8 t.mask) k (t.probeStart h)).j).2<=hs.length/\(t.put (it (j8 t.mask) k (t.probeStart h)).j).1.mask=t.mask/\(t.put (it (j8 t.mask) k (t.probeStart h)).j).1.place.size=t.place.size+1:=by
 generalize hj:(it (j8 t.mask) k (t.probeStart h)).j=j at he ⊢;have ZZ:j<=t.mask:=by rw[<-hj];have:=(Pm.it k (vO t h)).le;omega
 obtain⟨b1,_,_⟩:=qc t.place j w.tb.rise;have hd:has t.dummies j=false:=by rw[w.tb.Xr];rfl
 have e1:(t.put j).1.place.toList=ins t.place.toList (below t.place j) j:=ud _ _ _;have e2:(t.put j).2=below t.place j:=rfl;have e3:(t.put j).1.mask=t.mask:=rfl;have e4:∀h',(t.put j).1.probeStart h'=t.probeStart h':=λh'=>rfl
 have e5:(t.put j).1.dummies=#[]:=by show(if has t.dummies j=true then _ else t.dummies)=_;rw[hd];exact w.tb.Xr
 have hbl:below t.place j<=t.place.toList.length:=by simpa using b1
 have hsz:(t.put j).1.place.size=t.place.size+1:=by
  have:=congrArg List.length e1;rw[ng hbl]at this
  simpa using this
 have Z0:below t.place j<=hs.length:=by rw[<-w.len];exact b1
 refine⟨⟨⟨by rw[e1];exact N8 w.tb.rise he,e5⟩,by rw[e3];exact w.mask,?_,?_,by rw[e3,hsz];exact j7,?_⟩,by rw[e2];exact Z0,e3,hsz⟩
 ·rw[hsz,e2,ng Z0,w.len]
 ·intro y hy;rw[e1]at hy;rw[e3];rcases yO.mp hy with rfl|hy
  ·exact ZZ
  ·exact w.le y hy
 ·intro i h' hi;rw[e3,e4,e1];have hp:(t.put j).1.place[i]? =(ins t.place.toList (below t.place j) j)[i]? :=by rw[<-e1];simp
  rw[hp,mC hbl];rw[e2,mC Z0]at hi;by_cases c1:i<below t.place j
  ·rw[if_pos c1]at hi ⊢;obtain⟨k',h1,h2⟩:=w.way i h' hi;exact⟨k',by simpa using h1,λm hm=>yO.mpr (.inr (h2 m hm))⟩
  ·rw[if_neg c1]at hi ⊢;by_cases c2:i=below t.place j
   ·rw[if_pos c2]at hi ⊢;cases hi;exact⟨k,by rw[hj],λm hm=>yO.mpr (.inr (hb m hm))⟩
   ·rw[if_neg c2]at hi ⊢;obtain⟨k',h1,h2⟩:=w.way (i-1) h' hi;exact⟨k',by simpa using h1,λm hm=>yO.mpr (.inr (h2 m hm))⟩
def Oa (led:Bool):Wt (fresh 0 0 led) []:=
 ⟨⟨List.Pairwise.nil,rfl⟩,.inl rfl,rfl,(λj hj=>by cases hj),(by show 0<8;decide),(λi h hi=>by cases hi)⟩
noncomputable def fr (owner:Array (Option Nat)) (j:Nat):Bool:=(owner.getD j (some 0)).isNone
noncomputable def Lx (mask i pt:Nat):Probe:={j:=i,more:=runEnd mask i-i,i:=i,perturb:=pt,dummy:=none}
def Ly (mask i pt:Nat):gC mask (Lx mask i pt)=Lx mask (lp mask i pt) (pt/32):=rfl
def UM (mask i:Nat):i<=runEnd mask i:=by unfold runEnd;split<;>omega
theorem CM (mask:Nat) (owner:Array (Option Nat)):∀(fuel i pt:Nat),(∃n,n<fuel/\fr owner (it (gC mask) n (Lx mask i pt)).j=true)->
  ∃k,layClean.free mask owner fuel i pt=some (it (j8 mask) k (Lx mask i pt)).j/\fr owner (it (j8 mask) k (Lx mask i pt)).j=true/\∀m,m<k->fr owner (it (j8 mask) m (Lx mask i pt)).j=false
 |0,i,pt,⟨n,hn,_⟩=>by omega
 |fuel+1,i,pt,⟨n,hn,hf⟩=>by
  unfold layClean.free;have xb:=UM mask i;have YM:∀k,k<=runEnd mask i-i->(it (j8 mask) k (Lx mask i pt)).j=i+k:=λk hk=>by rw[zR mask k _ hk];rfl
  cases SJ:(List.range (runEnd mask i+1-i)).find? λk=>(owner.getD (i+k) (some 0)).isNone with
  |some k=>
   obtain⟨h1,h2,h3⟩:=find?_range_eq_some.mp SJ;have hk:k<=runEnd mask i-i:=by have:=mem_range.mp h2;omega
   refine⟨k,by rw[YM k hk],by rw[YM k hk];exact h1,λm hm=>?_⟩
   rw[YM m (by omega)]
   have:=h3 m hm;unfold fr;cases hx:(owner.getD (i+m) (some 0)).isNone with
   |false=>rfl
   |true=>rw[hx]at this;exact absurd this (by simp)
  |none=>
   have wM:∀k,k<=runEnd mask i-i->fr owner (i+k)=false:=λk hk=>by
    have:=find?_eq_none.mp SJ k (mem_range.mpr (by omega))
    unfold fr;cases hx:(owner.getD (i+k) (some 0)).isNone with
    |false=>rfl
    |true=>rw[hx]at this;exact absurd rfl this
   have hn0:n≠0:=λz=>by
    subst z;have h0:fr owner i=true:=hf;rw[show i=i+0 from rfl,wM 0 (bK _)]at h0
    cases h0
   obtain⟨n',rfl⟩:∃n',n=n'+1:=⟨n-1,by omega⟩
   obtain⟨k,e1,e2,e3⟩:=CM mask owner fuel (lp mask i pt) (pt/32) ⟨n',by omega,hf⟩
   have uJ:∀m,it (j8 mask) (runEnd mask i-i+1+m) (Lx mask i pt)=it (j8 mask) m (Lx mask (lp mask i pt) (pt/32)):=λm=>by
    rw[uT];have:=xU mask (Lx mask i pt);rw[show(Lx mask i pt).more=runEnd mask i-i from rfl]at this
    rw[this,Ly]
   refine⟨runEnd mask i-i+1+k,?_,by rw[uJ];exact e2,λm hm=>?_⟩
   ·rw[uJ];exact e1
   ·by_cases Cp:m<=runEnd mask i-i
    ·rw[YM m Cp];exact wM m Cp
    ·obtain⟨m',rfl⟩:∃m',m=runEnd mask i-i+1+m':=⟨m-(runEnd mask i-i+1),by omega⟩
     rw[uJ];exact e3 m' (by omega)
def UN {mask:Nat}(hm:mask=7\/mask=31) {p:Probe}(hp:p.perturb<2^64) {e:Nat}(he:e<=mask):∃n,n<turns mask/\(it (gC mask) n p).j=e:=by
 have key:∃m,m<=mask/\it (Rk mask) m (it (gC mask) 12 p).i=e:=by
  have hi:(it (gC mask) 12 p).i<=mask:=by
   rw[qd];show lp mask _ _<=mask;unfold lp;have:=Nat.mod_lt ((it (gC mask) 11 p).i*5+1+(it (gC mask) 11 p).perturb/32) (show 0<mask+1 by omega)
   omega
  rcases hm with rfl|rfl
  ·obtain⟨m,hm⟩:=Xs ⟨(it (gC 7) 12 p).i,by omega⟩ ⟨e,by omega⟩
   exact⟨m.val,by omega,hm⟩
  ·obtain⟨m,hm⟩:=SI ⟨(it (gC 31) 12 p).i,by omega⟩ ⟨e,by omega⟩
   exact⟨m.val,by omega,hm⟩
 obtain⟨m,h1,h2⟩:=key;refine⟨12+m,by unfold turns;omega,?_⟩
 rw[uT];have h0:(it (gC mask) 12 p).perturb/32=0:=by
  rw[Iy,Nat.div_div_eq_div_mul];apply Nat.div_eq_of_lt
  exact aw hp (by decide)
 have hj:∀(n:Nat) (q:Probe),q.j=q.i->(it (gC mask) n q).j=(it (gC mask) n q).i:=λn=>by
  cases n with
  |zero=>exact λq h=>h
  |succ n=>intro q _;rw[qd];rfl
 rw[hj m _ (by rw[qd];rfl),N5 mask m _ h0,h2]
def way (mask:Nat) (h:Int) (k:Nat):Nat:=(it (j8 mask) k (Lx mask (bits h%(mask+1)) (bits h))).j
structure Ow (mask:Nat) (owner:Array (Option Nat)) (hs:cp):Prop where
 size:owner.size=mask+1
 of:∀(j k:Nat),owner[j]? =some (some k)->∃h q,hs[k]? =some h/\j=way mask h q/\∀m,m<q->fr owner (way mask h m)=false
 has:∀k:Nat,k<hs.length->∃j:Nat,owner[j]? =some (some k)
 one:∀(j j' k:Nat),owner[j]? =some (some k)->owner[j']? =some (some k)->j=j'
def Ob (mask:Nat) (h:Int) (k:Nat):way mask h k<=mask:=by
 have:=(Pm.it k (vO {fresh 0 0 true with mask:=mask} h)).le
 exact aD (Nat.le_add_right _ _) this
def Oc (h:j<owner.size):fr owner j=true↔owner[j]? =some none:=by
 unfold fr;rw[aU h,show owner.getD j (some 0)=owner[j] by simp[h]]
 cases owner[j]<;>simp
def Ow.room {mask:Nat}{owner:Array (Option Nat)}{hs:cp}(o:Ow mask owner hs) (hl:hs.length<mask+1):∃e,e<=mask/\fr owner e=true:=by
 by_cases h:∀e,e<=mask->fr owner e=false
 ·exfalso;have own:∀e,e<=mask->∃k,owner[e]? =some (some k):=λe he=>by
   have fP:e<owner.size:=by rw[o.size];omega
   cases hx:owner[e]with
   |none=>
    have:=(Oc fP).mpr (by rw[aU fP,hx])
    rw[h e he]at this;cases this
   |some k=>exact⟨k,by rw[aU fP,hx]⟩
  let f:Nat->Nat:=λe=>match owner[e]? with|some (some k)=>k|_=>0
  have hf:∀e,e<=mask->owner[e]? =some (some (f e)):=λe he=>by
   obtain⟨k,hk⟩:=own e he;show owner[e]? =some (some (match owner[e]? with|some (some k)=>k|_=>0))
   rw[hk]
  have nd:((List.range (mask+1)).map f).Nodup:=by
   refine pairwise_map.mpr (List.Pairwise.imp_of_mem (λ{a b} ha hb Qi z=>?_) pairwise_lt_range)
   have ha':=hf a (by have:=mem_range.mp ha;omega)
   have QA:=hf b (by have:=mem_range.mp hb;omega)
   rw[<-z]at QA;exact absurd (o.one a b _ ha' QA) (by omega)
  have:=bV (l₂:=List.range hs.length) nd λk hk=>by
   obtain⟨e,he,rfl⟩:=mem_map.mp hk;obtain⟨h',q,h1,_⟩:=o.of e _ (hf e (by have:=mem_range.mp he;omega))
   exact mem_range.mpr (List.getElem?_eq_some_iff.mp h1).1
  rw[ae,length_range,length_range]at this;omega
 ·simp only[Classical.not_forall]at h;obtain⟨e,he,hn⟩:=h;exact⟨e,he,by cases hx:fr owner e with|true=>rfl|false=>exact absurd hx hn⟩
def Ow.step {mask:Nat}{owner:Array (Option Nat)}{hs:cp}(hm:mask=7\/mask=31) (o:Ow mask owner hs) (hl:hs.length<mask+1) (h:Int):
  ∃j,layClean.free mask owner (turns mask) (bits h%(mask+1)) (bits h)=some j/\Ow mask (owner.setIfInBounds j (some hs.length)) (hs++[h]):=by
 obtain⟨e,he,QY⟩:=o.room hl;obtain⟨n,hn,jX⟩:=UN hm (p:=Lx mask (bits h%(mask+1)) (bits h)) (J2 h) he;obtain⟨q,e1,e2,e3⟩:=CM mask owner (turns mask) (bits h%(mask+1)) (bits h) ⟨n,hn,by rw[jX];exact QY⟩
 have UO:way mask h q<owner.size:=by rw[o.size];have:=Ob mask h q;omega
 have Uk:owner[way mask h q]? =some none:=(Oc UO).mp e2;have get:∀j':Nat,(owner.setIfInBounds (way mask h q) (some hs.length))[j']? =if way mask h q=j' then some (some hs.length)else owner[j']? :=λj'=>by
  rw[Array.getElem?_setIfInBounds];by_cases hx:way mask h q=j'
  ·rw[if_pos hx,if_pos hx,if_pos (by first|exact UO|(rw[<-hx];exact UO))]
  ·rw[if_neg hx,if_neg hx]
 have frm:∀j':Nat,fr owner j'=false->fr (owner.setIfInBounds (way mask h q) (some hs.length)) j'=false:=λj' hx=>by
  unfold fr at hx ⊢;rw[aT]at hx ⊢;rw[get j'];by_cases hy:way mask h q=j'
  ·rw[if_pos hy];rfl
  ·rw[if_neg hy];exact hx
 refine⟨way mask h q,e1,⟨by rw[Array.size_setIfInBounds];exact o.size,λj' k hk=>?_,λk hk=>?_,λj1 j2 k h1 h2=>?_⟩⟩
 ·rw[get j']at hk;by_cases hx:way mask h q=j'
  ·rw[if_pos hx]at hk;cases hk;exact⟨h,q,by simp,hx.symm,λm VO=>frm _ (e3 m VO)⟩
  ·rw[if_neg hx]at hk;obtain⟨h',q',a1,a2,a3⟩:=o.of j' k hk;exact⟨h',q',by rw[aJ (List.getElem?_eq_some_iff.mp a1).1];exact a1,a2,λm VO=>frm _ (a3 m VO)⟩
 ·rw[aQ,length_singleton]at hk;by_cases hx:k=hs.length
  ·exact⟨way mask h q,by rw[get,if_pos rfl,hx]⟩
  ·obtain⟨j',Ie⟩:=o.has k (by omega)
   refine⟨j',?_⟩;rw[get,if_neg (λz=>by rw[<-z,Uk]at Ie;cases Ie)]
   exact Ie
 ·rw[get]at h1 h2;have old:∀j':Nat,owner[j']? =some (some hs.length)->False:=λj' Ie=>by
   obtain⟨h',q',a1,_⟩:=o.of j' _ Ie;exact absurd (List.getElem?_eq_some_iff.mp a1).1 (by omega)
  by_cases x1:way mask h q=j1
  ·by_cases x2:way mask h q=j2
   ·rw[<-x1,<-x2]
   ·rw[if_pos x1]at h1;rw[if_neg x2]at h2;cases h1;exact(old j2 h2).elim
  ·by_cases x2:way mask h q=j2
   ·rw[if_neg x1]at h1;rw[if_pos x2]at h2;cases h2;exact(old j1 h1).elim
   ·rw[if_neg x1]at h1;rw[if_neg x2]at h2;exact o.one j1 j2 k h1 h2
def UP (mask:Nat):Ow mask (Array.replicate (mask+1) none) []:=by
 have no:∀(j k:Nat),(Array.replicate (mask+1) (none:Option Nat))[j]? =some (some k)->False:=λj k h=>by
  rw[Array.getElem?_replicate]at h;split at h<;>cases h
 exact⟨by simp,λj k h=>(no j k h).elim,(λk h=>by cases h),λj j' k h _=>(no j k h).elim⟩
noncomputable def Od (mask:Nat) (acc:Option (Array (Option Nat)×Nat)) (h:Int):Option (Array (Option Nat)×Nat):=acc.bind λx=>(layClean.free mask x.1 (turns mask) (bits h%(mask+1)) (bits h)).bind λj=>some (x.1.setIfInBounds j (some x.2),x.2+1)
theorem FO {mask:Nat}(hm:mask=7\/mask=31):∀(rest dn:cp) (owner:Array (Option Nat)),Ow mask owner dn->(dn++rest).length<mask+2->∃Eb,rest.foldl (Od mask) (some (owner,dn.length))=some (Eb,(dn++rest).length)/\Ow mask Eb (dn++rest)
 |[],dn,owner,o,_=>⟨owner,by rw[bB];rfl,by rw[bB];exact o⟩
 |h::rest,dn,owner,o,hl=>by
  rw[aQ,ay]at hl;obtain⟨j,e1,o1⟩:=o.step hm (by omega) h
  obtain⟨Eb,e2,o2⟩:=FO hm rest (dn++[h]) _ o1 (by simp;omega)
  refine⟨Eb,?_,by rw[show dn++h::rest=dn++[h]++rest by simp];exact o2⟩
  rw[show dn++h::rest=dn++[h]++rest by simp,<-e2]
  show rest.foldl (Od mask) (Od mask (some (owner,dn.length)) h)=_
  congr 1
  show(layClean.free mask owner (turns mask) (bits h%(mask+1)) (bits h)).bind _=_;rw[e1];simp
def FP {mask:Nat}(hm:mask=7\/mask=31) (hashes:Array Int) (hl:hashes.size<mask+2):∃owner,layClean mask hashes=some owner/\Ow mask owner hashes.toList:=by
 obtain⟨owner,e,o⟩:=FO hm hashes.toList [] _ (UP mask) (by simpa using hl)
 refine⟨owner,?_,o⟩;have:layClean mask hashes=(hashes.toList.foldl (Od mask) (some (Array.replicate (mask+1) none,0))).map (·.1):=by
  unfold layClean;rw[<-Array.foldl_toList];rfl
 rw[this];have e':hashes.toList.foldl (Od mask) (some (Array.replicate (mask+1) none,0))=some (owner,([]++hashes.toList).length):=e;rw[e'];rfl
noncomputable def live (mask:Nat) (owner:Array (Option Nat)):List (Nat×Nat):=(List.range (mask+1)).filterMap λj=>(owner.getD j none).map (j, ·)
def nh {mask:Nat}{owner:Array (Option Nat)}{hs:cp}(o:Ow mask owner hs) {j k:Nat}:(j,k)∈live mask owner↔owner[j]? =some (some k):=by
 unfold live;rw[mem_filterMap];constructor
 ·rintro⟨j',Ie,e⟩
  cases hg:owner.getD j' none with
  |none=>rw[hg]at e;cases e
  |some k'=>
   rw[hg]at e;have e':(j',k')=(j,k):=aS e;cases e';rw[aT]at hg;cases hx:owner[j]? with
   |none=>rw[hx]at hg;cases hg
   |some y=>rw[hx]at hg;rw[show y=some k from hg]
 ·intro h;have fP:j<owner.size:=(Array.getElem?_eq_some_iff.mp h).1;rw[o.size]at fP;refine⟨j,mem_range.mpr fP,?_⟩;rw[aT,h];rfl
theorem Iz (f:Nat->Option Nat):∀l:List Nat,(l.filterMap λj=>(f j).map (j, ·)).map (·.1)=l.filter λj=>(f j).isSome
 |[]=>rfl
 |a::l=>by
  rw[filterMap_cons,bq];cases h:f a with
  |none=>simpa [h]using Iz f l
  |some k=>simpa [h]using Iz f l
def CN (mask:Nat) (owner:Array (Option Nat)):eR ((live mask owner).map (·.1)):=by
 unfold live;rw[Iz (λj=>owner.getD j none)]
 exact List.Pairwise.filter _ pairwise_lt_range
def zS {mask:Nat}{owner:Array (Option Nat)}{hs:cp}(o:Ow mask owner hs):((live mask owner).map (·.2)).Perm (List.range hs.length):=by
 have nd:((live mask owner).map (·.2)).Nodup:=by
  refine pairwise_map.mpr (List.Pairwise.imp_of_mem (λ{a b} ha hb Qi z=>?_) (pairwise_map.mp (CN mask owner)))
  obtain⟨a1,a2⟩:=a;obtain⟨b1,b2⟩:=b;have h1:=(nh o).mp ha;have h2:=(nh o).mp hb;have z':a2=b2:=z;rw[z']at h1;have e:=o.one a1 b1 b2 h1 h2;have aea:a1<b1:=Qi;omega
 refine(perm_ext_iff_of_nodup nd nodup_range).mpr λk=>?_
 rw[mem_map,mem_range];constructor
 ·rintro⟨⟨j,k'⟩,hm,rfl⟩
  obtain⟨h,q,h1,_⟩:=o.of j k' ((nh o).mp hm);exact(List.getElem?_eq_some_iff.mp h1).1
 ·intro hk;obtain⟨j,hj⟩:=o.has k hk;exact⟨(j,k),(nh o).mpr hj,rfl⟩
def Rm {mask:Nat}(hm:mask=7\/mask=31) (finger moves:Nat) (led plain:Bool) (hashes:Array Int) (hl:hashes.size<mask+1):
  ∃(t:cF) (order:List Nat),laid mask finger moves led plain hashes=some (t,order.toArray)/\order.Perm (List.range hashes.size)/\Wt t (order.map λk=>hashes.getD k 0)/\t.mask=mask/\t.led=led/\t.plain=plain/\t.moves=moves/\t.finger=finger:=by
 obtain⟨owner,e,o⟩:=FP hm hashes (by omega)
 refine⟨_,(live mask owner).map (·.2),by unfold laid;rw[e];rfl,by simpa using zS o,⟨⟨CN mask owner,rfl⟩,hm,?_,λj hj=>?_,?_,λi h hi=>?_⟩,rfl,rfl,rfl,rfl,rfl⟩
 ·show((live mask owner).map (·.1)).toArray.size=_
  rw[aq,ae,ae,ae]
 ·obtain⟨⟨j',k⟩,NJ,rfl⟩:=mem_map.mp (show j∈(live mask owner).map (·.1)from hj)
  have:=(Array.getElem?_eq_some_iff.mp ((nh o).mp NJ)).1;rw[o.size]at this;show j'<=mask;omega
 ·have:=(zS o).length_eq;show((live mask owner).map (·.1)).toArray.size<mask+1
  rw[ae,length_range]at this;rw[aq,ae,this]
  simpa using hl
 ·rw[av,av]at hi;cases hx:(live mask owner)[i]? with
  |none=>rw[hx]at hi;cases hi
  |some y=>
   obtain⟨j,k⟩:=y;rw[hx]at hi;have hy:hashes.getD k 0=h:=aS hi;have Oe:=(nh o).mp (bh hx);obtain⟨h',q,a1,a2,a3⟩:=o.of j k Oe;have hh:h'=h:=by
    rw[<-hy,aT];have a1':hashes[k]? =some h':=by simpa using a1
    rw[a1'];rfl
   subst hh;refine⟨q,?_,λm VO=>?_⟩
   ·show((live mask owner).map (·.1)).toArray[i]? =some (way mask h' q)
    rw[getElem?_toArray,av,hx,<-a2];rfl
   ·show way mask h' m∈(live mask owner).map (·.1)
    have fP:way mask h' m<owner.size:=by rw[o.size];have:=Ob mask h' m;omega
    have:=a3 m VO;cases hz:owner[way mask h' m]with
    |none=>
     have:=(Oc fP).mpr (by rw[aU fP,hz])
     rw[a3 m VO]at this;cases this
    |some k'=>
     exact mem_map.mpr ⟨(way mask h' m,k'),(nh o).mpr (by rw[aU fP,hz]),rfl⟩
theorem range_all {α:Type}:∀l:List α,(List.range l.length).filterMap (l[·]?)=l
 |[]=>rfl
 |a::l=>by
  rw[ay,range_succ_eq_map,filterMap_cons];show a::((List.range l.length).map Nat.succ).filterMap ((a::l)[·]?)=_
  rw[filterMap_map]
  congr 1
  exact range_all l
def reorder {α:Type}{es:Array α}{order:List Nat}(hp:order.Perm (List.range es.size)):(order.toArray.filterMap (es[·]?)).toList.Perm es.toList/\∀(f:α->Int),(order.toArray.filterMap (es[·]?)).toList.map f=order.map λk=>(es.map f).getD k 0:=by
 have e1:(order.toArray.filterMap (es[·]?)).toList=order.filterMap (es[·]?):=by simp
 have e2:(List.range es.size).filterMap (es[·]?)=es.toList:=by
  have:=range_all es.toList
  simpa using this
 refine⟨by rw[e1,<-e2];exact hp.filterMap _,λf=>?_⟩
 rw[e1,map_filterMap];have wI:∀k∈order,k<es.size:=λk hk=>mem_range.mp (hp.mem_iff.mp hk)
 clear hp e1 e2;induction order with
 |nil=>rfl
 |cons a r ih=>
  have ha:=wI a af;rw[filterMap_cons,aF,<-ih λk hk=>wI k (ai _ hk)]
  simp[ha]
end ST
namespace ST
open DL SetTable
structure El (P:cy->Prop) (h:Heap) (e:Int×cy) (d:D):Prop where
 ki:KI h e.2 d
 hash:e.1=fF d
 dep:eV d<=4
 ref:∃b,e.2=.ref b
 src:P e.2
def IA (P:cy->Prop) (h:Heap) (es:List (Int×cy)) (ds:cw):Prop:=es.length=ds.length/\∀(i:Nat) (e:Int×cy),es[i]? =some e->∃d,ds[i]? =some d/\El P h e d
section
variable {prog:cC}{w:cD}{A:cE}{E:cf}{s:cA}
def J3 (n:Nat):∀(A:cE) (s:cA) (v:cy) (d:D) (Q:Bool->cA->Prop),eV d<=n->KI s.heap v d->Q false s->wpAny (model prog w) A (ofAClassStatement n v) Q E s:=by
 induction n with
 |zero=>
  intro A s v d Q hn k h;cases k with
  |int i t=>unfold ofAClassStatement;exact aj h
  |tup h1 h2 h3 l=>unfold eV at hn;omega
 |succ n ih=>
  intro A s v d Q hn k h;cases k with
  |int i t=>unfold ofAClassStatement;exact aj h
  |@tup a o items m ds ho hc hd l=>
   have hT:s.TypeIs (.ref a) "tuple":=⟨o,ho,hc⟩;have Hn:jO ds<=n:=by unfold eV at hn;omega
   unfold ofAClassStatement;refine aa (wpAny_typeOf hT ?_);show wpAny _ _ (pure true>>=_) _ _ s;refine aa (aj ?_);simp only[bS,aI,bD];refine aa (wpAny_seqItems ho hd ?_);refine aa ?_;show wpAny _ _ (forIn items _ _) _ _ s;rw[<-Array.forIn_toList];refine wpAny_forIn_list _ (λrest r s'=>r.1=none/\s'=s/\∃es,(∀e∈es,eV e<=n)/\uR s.heap rest es) _ ?_ ?_ _ _ ⟨rfl,rfl,ds,λe he=>aD (lT he) Hn,l⟩
   ·rintro v rest r s' ⟨hr,rfl,es,he,hk⟩
    cases hk with
    |cons k1 k2=>
     refine aa (ih A s' v _ _ (he _ af) k1 ?_);simp only[aI,bD];exact aj ⟨rfl,rfl,_,λe h=>he e (ai _ h),k2⟩
   ·rintro⟨r1,r2⟩ s' ⟨hr,rfl,_⟩
    simp only at hr;subst hr;exact aj h
def Rn (hx:KI s.heap x dx) (SH:eV dx<=4) (stored:cx) (uJ:∀y∈stored,∃d,KI s.heap y d/\eV d<=4) (h:Q false s):wpAny (model prog w) A (searchCouldBeSeen x stored) Q E s:=by
 unfold searchCouldBeSeen;refine aa ?_;refine wpAny_forIn_list _ (λrest r s'=>r.1=none/\s'=s/\∀y∈rest,∃d,KI s.heap y d/\eV d<=4) _ ?_ ?_ _ _ ⟨rfl,rfl,uJ⟩
 ·rintro y rest r s' ⟨hr,rfl,hk⟩
  obtain⟨d,kd,hd⟩:=hk y af;have SK:∀z∈rest,∃d,KI s'.heap z d/\eV d<=4:=λz hz=>hk z (ai _ hz)
  have key:∀(b:Bool) (R:ForInStep (Option Bool×Unit)->cA->Prop),R (.yield (none,())) s'->wpAny (model prog w) A (if(b||carriedByValue x&&carriedByValue y)=true then pure (ForInStep.yield (none,()))else do
    let q <-eqIsQuiet 8 x
    if(!q)=true then pure (ForInStep.done (some true,()))else do
     let q <-eqIsQuiet 8 y
     if(!q)=true then pure (ForInStep.done (some true,()))else do
      let q <-ofAClassStatement 8 x
      if q=true then pure (ForInStep.done (some true,()))else do
       let q <-ofAClassStatement 8 y
       if q=true then pure (ForInStep.done (some true,()))else pure (ForInStep.yield (none,()))) R E s':=λb R hR=>by
   split
   ·exact aj hR
   ·refine aa (KI.quiet 8 A s' x dx _ (by omega) hx ?_)
    simp only[bS,aI,bD];refine aa (KI.quiet 8 A s' y d _ (by omega) kd ?_)
    simp only[bS,aI,bD];refine aa (J3 8 A s' x dx _ (by omega) hx ?_)
    simp only[aI,bD];refine aa (J3 8 A s' y d _ (by omega) kd ?_)
    simp only[aI,bD];exact aj hR
  split
  ·exact key _ _ ⟨rfl,rfl,SK⟩
  ·exact key _ _ ⟨rfl,rfl,SK⟩
 ·rintro⟨r1,r2⟩ s' ⟨hr,rfl,_⟩
  simp only at hr;subst hr;exact aj h
end
section
variable {prog:cC}{w:cD}{A:cE}{E:cf}{s:cA}
def Wt.Z1 (W:Wt t hs):t.gaveWay=false:=by
 unfold gaveWay;rcases W.mask with h|h<;>rw[h]<;>rfl
def Wt.emp (W:Wt t hs):∃e,e<=t.mask/\t.slot e=.empty:=by
 obtain⟨e,h1,h2⟩:=Lw (n:=t.mask) W.tb.rise W.le (by have:=W.room;simpa using this)
 exact⟨e,h1,zP W.tb h2⟩
def Lz (ho:s.heap.get? a=some o) (hd:o.data=.set es ep t) (hf:t.fits es.size=true) (W:Wt t (es.toList.map (·.1))) (hE:IA P s.heap es.toList ds) (hx:KI s.heap (.ref xa) dx) (SH:eV dx<=4) (hu:A.units+8<cLine) (hq1:dx∈ds->Q (.there none) s) (VM:dx∉ds->∀k,(it (j8 t.mask) k (t.probeStart (fF dx))).j∉t.place.toList->(∀m,m<k->(it (j8 t.mask) m (t.probeStart (fF dx))).j∈t.place.toList)->Q (.free (it (j8 t.mask) k (t.probeStart (fF dx))).j false) s):∀(r fuel k0 K:Nat) (Of:Option Probe),Of.getD (t.probeStart (fF dx))=it (j8 t.mask) k0 (t.probeStart (fF dx))->t.slot (it (j8 t.mask) K (t.probeStart (fF dx))).j=.empty->k0<=K->K-k0<=r->r<fuel->
   (∀m,m<k0->∃i d,t.slot (it (j8 t.mask) m (t.probeStart (fF dx))).j=.live i/\ds[i]? =some d/\d≠dx)->
   wpAny (model prog w) A (setSearchFrom a (.ref xa) (fF dx) true fuel Of) Q E s:=by
 intro r;induction r using Nat.strongRecOn with
 |_ r ih=>
  intro fuel k0 K Of uJ hK hk hr Xu Xv;obtain⟨fuel,rfl⟩:∃f,fuel=f+1:=⟨fuel-1,by omega⟩
  unfold setSearchFrom;refine aa (wpAny_setState_of ho hd hf ?_);dsimp only;rw[W.Z1];simp only[aI,bD];rw[uJ];obtain⟨e0,Z2,UQ⟩:=W.emp;have Mq:=Pm.it k0 (vO t (fF dx));obtain⟨q,hq,hqe⟩:=reach W.mask Mq.pb.nine Mq.pb.Rl Z2;obtain⟨k,Xw,Xx⟩:=N7 W.tb (ha:=λi=>(es[i]?.map (·.1)).getD 0) (h:=fF dx) (10*turns t.mask) _ Mq.pb ⟨q,hq,by rw[hqe];exact UQ⟩
  have tot:∀m,it (j8 t.mask) m (it (j8 t.mask) k0 (t.probeStart (fF dx)))=it (j8 t.mask) (k0+m) (t.probeStart (fF dx)):=λm=>(uT _ _ _ _).symm
  simp only[tot]at Xw Xx;have entry:∀i j,t.slot j=.live i->∃e d,es[i]? =some e/\ds[i]? =some d/\El P s.heap e d/\t.place[i]? =some j:=λi j hj=>by
   rcases zQ W.tb j with⟨i',h1,h2⟩|⟨h1,_⟩
   ·rw[hj]at h1;cases h1;have fP:i<es.size:=by
     have:=(Array.getElem?_eq_some_iff.mp h2).1;have hl:=W.len;simp at hl;omega
    obtain⟨d,h3,h4⟩:=hE.2 i es[i] (by simp[fP])
    exact⟨es[i],d,by simp[fP],h3,h4,h2⟩
   ·rw[hj]at h1;cases h1
  have other:∀m,m<k->∃i d,t.slot (it (j8 t.mask) (k0+m) (t.probeStart (fF dx))).j=.live i/\ds[i]? =some d/\d≠dx:=λm hm=>by
   obtain⟨i,h1,h2⟩:=Xw m hm;obtain⟨e,d,h3,h4,h5,_⟩:=entry i _ h1;refine⟨i,d,h1,h4,λz=>h2 ?_⟩
   rw[h3];show e.1=_;rw[h5.hash,z]
  have Og:∀m,m<k0+k->∃i d,t.slot (it (j8 t.mask) m (t.probeStart (fF dx))).j=.live i/\ds[i]? =some d/\d≠dx:=λm hm=>by
   by_cases Xy:m<k0
   ·exact Xv m Xy
   ·obtain⟨m',rfl⟩:∃m',m=k0+m':=⟨m-k0,by omega⟩
    exact other m' (by omega)
  rcases Xx with⟨Ro,e⟩|⟨i,Oh,hha,e⟩
  ·
   have IB:dx∉ds:=λwI=>by
    obtain⟨i,hi⟩:=bo wI;have fP:i<es.toList.length:=by rw[hE.1];exact(List.getElem?_eq_some_iff.mp hi).1
    obtain⟨d,h1,h2⟩:=hE.2 i _ (ah fP);rw[hi]at h1;cases h1;obtain⟨ki,p1,p2⟩:=W.way i (fF dx) (by rw[av,ah fP];exact congrArg some h2.hash)
    have SM:(it (j8 t.mask) (k0+k) (t.probeStart (fF dx))).j∉t.place.toList:=λz=>by
     obtain⟨i',DX⟩:=bo z;rw[tK W.tb (i:=i') (by simpa using DX)]at Ro;cases Ro
    rcases Nat.lt_trichotomy ki (k0+k)with Rp|heq|Sm
    ·obtain⟨i',d',q1,q2,q3⟩:=Og ki Rp;rw[tK W.tb p1]at q1;cases q1;rw[hi]at q2;exact q3 (aS q2).symm
    ·subst heq;exact SM (Array.mem_toList_iff.mpr (Array.mem_of_getElem? p1))
    ·exact SM (p2 _ Sm)
   have fin:=VM IB (k0+k) (λz=>by
     obtain⟨i',DX⟩:=bo z;rw[tK W.tb (i:=i') (by simpa using DX)]at Ro;cases Ro) (λm hm=>by
     obtain⟨i,d,q1,_⟩:=Og m hm;obtain⟨_,_,_,_,_,q5⟩:=entry i _ q1;exact Array.mem_toList_iff.mpr (Array.mem_of_getElem? q5))
   split
   ·rename_i met hm;have z:=hm.symm.trans e;cases z;exact aj fin
   ·rename_i hm;exact(hm _ e).elim
  ·obtain⟨⟨hv,y⟩,d,h3,h4,h5,h6⟩:=entry i _ Oh;obtain⟨b,hyb⟩:=h5.ref;have Xz:y=.ref b:=hyb;have aef:k0+k<K:=by
    rcases Nat.lt_trichotomy K (k0+k)with fP|heq|Sm
    ·obtain⟨i',d',q1,_⟩:=Og K fP;rw[hK]at q1;cases q1
    ·subst heq;rw[hK]at Oh;cases Oh
    ·exact Sm
   have SN:t.sameMemory t.moves t.mask=some true:=by unfold sameMemory;rw[if_pos (bM _)]
   have XA:jJ d dx=decide (d=dx):=KI.jJ h5.ki hx;split
   ·rename_i met hm;have z:=hm.symm.trans e;cases z;dsimp only;split
    ·refine aa (Rn hx SH _ (λv hv=>?_) ?_)
     ·obtain⟨en,hen,rfl⟩:=mem_map.mp hv;have Z3:en∈es.toList:=by
       have:=Array.mem_toList_iff.mp hen;exact Array.mem_toList_iff.mpr (Array.mem_filter.mp this).1
      obtain⟨i',DX⟩:=bo Z3;obtain⟨d',_,h8⟩:=hE.2 i' en DX;exact⟨d',h8.ki,h8.dep⟩
     simp only[aI,bD];rw[h3];dsimp only;refine aa (bj ((KI.eq 4 A s y (.ref xa) d dx h5.dep (by omega) h5.ki hx) prog w _ _ ?_))
     refine aa (wpAny_setState_of ho hd hf ?_);dsimp only;rw[XA];by_cases Rq:d=dx
     ·rw[aR Rq];exact aj (hq1 (Rq▸bh h4))
     ·rw[aH Rq,SN];simp only[Bool.and_false,aI,bD,if_true];rw[Oh];dsimp only;rw[h3];dsimp only;rw[Xz];refine aa (wpAny_isSame_ref_self ?_);refine aa (aj ?_);simp only[if_true];exact ih (K-(k0+k+1)) (by omega) fuel (k0+k+1) K _ rfl hK (by omega) (au _) (by omega) λm Cp=>by
       by_cases Xy:m<k0+k
       ·exact Og m Xy
       ·have:m=k0+k:=by omega
        subst this;exact⟨i,d,Oh,h4,Rq⟩
    ·rw[h3];dsimp only;refine aa (bj ((KI.eq 4 A s y (.ref xa) d dx h5.dep (by omega) h5.ki hx) prog w _ _ ?_))
     refine aa (wpAny_setState_of ho hd hf ?_);dsimp only;rw[XA];by_cases Rq:d=dx
     ·rw[aR Rq];exact aj (hq1 (Rq▸bh h4))
     ·rw[aH Rq,SN];simp only[Bool.and_false,aI,bD,if_true];rw[Oh];dsimp only;rw[h3];dsimp only;rw[Xz];refine aa (wpAny_isSame_ref_self ?_);refine aa (aj ?_);simp only[if_true];exact ih (K-(k0+k+1)) (by omega) fuel (k0+k+1) K _ rfl hK (by omega) (au _) (by omega) λm Cp=>by
       by_cases Xy:m<k0+k
       ·exact Og m Xy
       ·have:m=k0+k:=by omega
        subst this;exact⟨i,d,Oh,h4,Rq⟩
   ·rename_i hm;exact(hm _ e).elim
end
mutual
theorem ki_set {h h':Heap}{x:cG}{ox:Obj}{es:Array (Int×cy)}{ep:Nat}{t:cF}(ho:h.get? x=some ox) (hd:ox.data=.set es ep t) (hs:Heap.SameBut x h h'):∀{v:cy}{d:D},KI h v d->KI h' v d
 |_,_,.int n t=>.int n t
 |_,_,@KI.tup _ a o items n ds h1 h2 h3 l=>by
  have jX:a≠x:=by
   rintro rfl
   rw[ho]at h1;cases h1;rw[hd]at h3;exact nomatch h3
  exact .tup ((hs.2 a jX).trans h1) h2 h3 (J4 ho hd hs l)
theorem J4 {h h':Heap}{x:cG}{ox:Obj}{es:Array (Int×cy)}{ep:Nat}{t:cF}(ho:h.get? x=some ox) (hd:ox.data=.set es ep t) (hs:Heap.SameBut x h h'):∀{vs:cx}{ds:cw},uR h vs ds->uR h' vs ds
 |_,_,.nil=>.nil
 |_,_,.cons h t=>.cons (ki_set ho hd hs h) (J4 ho hd hs t)
end
def IA.imp (e:IA P h es ds) (m:∀v d,KI h v d->KI h' v d):IA P h' es ds:=
 ⟨e.1,λi x hx=>let ⟨d,h1,h2⟩:=e.2 i x hx;⟨d,h1,⟨m _ _ h2.ki,h2.hash,h2.dep,h2.ref,h2.src⟩⟩⟩
theorem IA.ins {P:cy->Prop}{h:Heap}{es:List (Int×cy)}{ds:cw}(e:IA P h es ds) {p:Nat}(hp:p<=es.length) {x:Int×cy}{d:D}(hx:El P h x d):IA P h (ST.ins es p x) (ST.ins ds p d):=by
 have LA:p<=ds.length:=by rw[<-e.1];exact hp
 refine⟨by rw[ng hp,ng LA,e.1],λi y hy=>?_⟩
 rw[mC hp]at hy;rw[mC LA];by_cases c1:i<p
 ·rw[if_pos c1]at hy ⊢;exact e.2 i y hy
 ·rw[if_neg c1]at hy ⊢;by_cases c2:i=p
  ·rw[if_pos c2]at hy ⊢;cases hy;exact⟨d,rfl,hx⟩
  ·rw[if_neg c2]at hy ⊢;exact e.2 (i-1) y hy
theorem IC {α:Type}(l:List α):∀(order:List Nat),(∀k∈order,k<l.length)->∀i:Nat,(order.filterMap λk:Nat=>l[k]?)[i]? =(order[i]?).bind λk:Nat=>l[k]?
 |[],_,i=>by simp
 |a::r,h,i=>by
  have ha:=h a af;have e:l[a]? =some l[a]:=ah ha;rw[filterMap_cons,e];cases i with
  |zero=>simp[e]
  |succ i=>simpa using IC l r (λk hk=>h k (ai _ hk)) i
def IA.reorder {P:cy->Prop}{h:Heap}{es:List (Int×cy)}{ds:cw}(e:IA P h es ds) {order:List Nat}(hp:order.Perm (List.range es.length)):IA P h (order.filterMap λk:Nat=>es[k]?) (order.filterMap λk:Nat=>ds[k]?)/\(order.filterMap λk:Nat=>ds[k]?).Perm ds:=by
 have wI:∀k∈order,k<es.length:=λk hk=>mem_range.mp (hp.mem_iff.mp hk)
 have XB:∀k∈order,k<ds.length:=λk hk=>by rw[<-e.1];exact wI k hk
 have XC:∀{α:Type}(l:List α) (o:List Nat),(∀k∈o,k<l.length)->(o.filterMap λk:Nat=>l[k]?).length=o.length:=λl o=>by
  induction o with
  |nil=>intro _;rfl
  |cons a r ih=>
   intro hh;rw[filterMap_cons,ah (hh a af)];show(r.filterMap λk:Nat=>l[k]?).length+1=_
   rw[ih λk hk=>hh k (ai _ hk)];rfl
 refine⟨⟨by rw[XC es order wI,XC ds order XB],λi x hx=>?_⟩,?_⟩
 ·rw[IC es order wI]at hx;rw[IC ds order XB];cases hk:order[i]? with
  |none=>rw[hk]at hx;cases hx
  |some k=>rw[hk]at hx;exact e.2 k x hx
 ·have h1:=hp.filterMap (λk:Nat=>ds[k]?)
  rw[e.1,range_all]at h1;exact h1
section
variable {prog:cC}{w:cD}{A:cE}{E:cf}{s:cA}
def XD (n:Nat):∀(A:cE) (s:cA) (v:cy) (d:D) (Q:Bool->cA->Prop),eV d<=n->KI s.heap v d->Q true s->wpAny (model prog w) A (hashByValue n v) Q E s:=by
 induction n with
 |zero=>
  intro A s v d Q hn k h;cases k with
  |int i t=>unfold hashByValue;exact aj h
  |tup h1 h2 h3 l=>unfold eV at hn;omega
 |succ n ih=>
  intro A s v d Q hn k h;cases k with
  |int i t=>unfold hashByValue;exact aj h
  |@tup a o items m ds ho hc hd l=>
   have hT:s.TypeIs (.ref a) "tuple":=⟨o,ho,hc⟩;have Hn:jO ds<=n:=by unfold eV at hn;omega
   unfold hashByValue;refine aa (wpAny_specialOf hT F.slot_tuple_hash.lookup ?_);dsimp only;refine aa (wpAny_seqItems ho hd ?_);refine aa ?_;show wpAny _ _ (forIn items _ _) _ _ s;rw[<-Array.forIn_toList];refine wpAny_forIn_list _ (λrest r s'=>r.1=none/\s'=s/\∃es,(∀e∈es,eV e<=n)/\uR s.heap rest es) _ ?_ ?_ _ _ ⟨rfl,rfl,ds,λe he=>aD (lT he) Hn,l⟩
   ·rintro v rest r s' ⟨hr,rfl,es,he,hk⟩
    cases hk with
    |cons k1 k2=>
     refine aa (ih A s' v _ _ (he _ af) k1 ?_);simp only[bS,aI,bD];exact aj ⟨rfl,rfl,_,λe h=>he e (ai _ h),k2⟩
   ·rintro⟨r1,r2⟩ s' ⟨hr,rfl,_⟩
    simp only at hr;subst hr;exact aj h
structure yr (P:cy->Prop) (ld:Bool) (h:Heap) (a:cG) (ds:cw):Prop where
 ex:∃(o:Obj) (es:Array (Int×cy)) (ep:Nat) (t:cF),h.get? a=some o/\o.ExactSet/\o.data=.set es ep t/\Wt t (es.toList.map (·.1))/\IA P h es.toList ds/\t.place.size*5<t.mask*3/\t.plain=true/\t.led=ld
 nd:ds.Nodup
theorem Wt.fits {t:cF}{es:Array (Int×cy)}(W:Wt t (es.toList.map (·.1))):t.fits es.size=true:=by
 have h1:=W.len;have h2:=W.room;simp at h1;unfold SetTable.fits SetTable.fill;rw[W.tb.Xr];simp only[Bool.and_eq_true,beq_iff_eq,decide_eq_true_eq,aq,length_nil];omega
def Oi {α:Type}(l:List α) (p:Nat) (x:α):(ins l p x).Perm (x::l):=by
 unfold ins;refine perm_middle.trans (List.Perm.cons x ?_);rw[take_append_drop]
def UR {P:cy->Prop}{ld:Bool}{a xa:cG}{ds:cw}{dx:D}{Q:Bool->cA->Prop}(S:yr P ld s.heap a ds) (hx:KI s.heap (.ref xa) dx) (SH:eV dx<=4) (hP:P (.ref xa)) (hu:A.units+8<cLine) (hn:ds.length<18)
  (h:∀h' JP,Heap.SameBut a s.heap h'->yr P ld h' a JP->JP.Perm (if dx∈ds then ds else dx::ds)->Q (!decide (dx∈ds)) {s with heap:=h'}):
  wpAny (model prog w) A (setAddHashed a (.ref xa) (fF dx)) Q E s:=by
 obtain⟨o,es,ep,t,ho,hex,hd,W,hE,j7,mn,XE⟩:=S.ex;have hf:=W.fits;have hlen:t.place.size=es.size:=by have:=W.len;simpa using this
 unfold setAddHashed setAddHashedIn;refine bj (aa (wpAny_setState_of ho hd hf ?_));dsimp only;have XF:byScan (.ref xa) es=false:=rfl;rw[XF];simp only[aI,bD];obtain⟨e0,Z2,UQ⟩:=W.emp;have Mq:=vO t (fF dx);obtain⟨K,Yw,ZA⟩:=reach W.mask Mq.pb.nine Mq.pb.Rl Z2;have hK3:K<100000:=by
  rcases W.mask with hm|hm<;>(rw[hm]at Yw;unfold turns at Yw;omega)
 unfold setSearch;refine aa (Lz ho hd hf W hE hx SH hu (λwI=>?_) (λIB k US ID=>?_) K 100000 0 K none rfl (by rw[ZA];exact UQ) (bK _) (by omega) hK3 (λm hm=>by omega))
 ·have:=h s.heap ds (Heap.SameBut.refl a s.heap) S (by rw[if_pos wI])
  rw[aR wI]at this;exact aj this
 ·dsimp only;refine aa (wpAny_setState_of ho hd hf ?_);dsimp only;have hr1:t.place.size+1<t.mask+1:=by omega
  obtain⟨W1,Qj,Lg,Qk⟩:=W.put US ID hr1;have Oj:(t.put (it (j8 t.mask) k (t.probeStart (fF dx))).j).1.plain=true:=mn;have Rr:(t.put (it (j8 t.mask) k (t.probeStart (fF dx))).j).1.led=ld:=XE;generalize t.put (it (j8 t.mask) k (t.probeStart (fF dx))).j=tp at W1 Qj Lg Qk Oj Rr;obtain⟨t1,p⟩:=tp;dsimp only at W1 Qj Lg Qk Oj Rr;rw[if_pos Oj];refine aa (XD 8 A s (.ref xa) dx _ (by omega) hx ?_)
  simp only[if_true];have YN:p<=es.toList.length:=by simpa using Qj
  have Z4:(insertAt es p (fF dx,Value.ref xa)).toList=ins es.toList p (fF dx,Value.ref xa):=ud _ _ _;have W1':Wt t1 ((insertAt es p (fF dx,Value.ref xa)).toList.map (·.1)):=by rw[Z4,ins_map];exact W1
  have XG:(insertAt es p (fF dx,Value.ref xa)).size=es.size+1:=by
   rw[<-aN,Z4,ng YN,aN]
  have aej:ds.length=es.size:=by rw[<-hE.1,aN]
  refine aa (wpAny_storeSet_of ho hd ?_ (by rw[XG];exact aD (by omega:es.size+1<=100) (by decide)))
  have Z5:Heap.SameBut a s.heap (s.heap.update a (Obj.putSet (insertAt es p (fF dx,Value.ref xa)) t1)):=Heap.SameBut.update ..;have DW:(s.heap.update a (Obj.putSet (insertAt es p (fF dx,Value.ref xa)) t1)).get? a=some {o with data:=.set (insertAt es p (fF dx,Value.ref xa)) (ep+1) t1}:=by
   have:=Heap.get?_update_self (Obj.putSet (insertAt es p (fF dx,Value.ref xa)) t1) ho (by rw[putSet_of _ t1 hd];rfl)
   rw[putSet_of _ t1 hd]at this;exact this
  have km1:∀v d,KI s.heap v d->KI (s.heap.update a (Obj.putSet (insertAt es p (fF dx,Value.ref xa)) t1)) v d:=λv d=>ki_set ho hd Z5
  have hE1:IA P (s.heap.update a (Obj.putSet (insertAt es p (fF dx,Value.ref xa)) t1)) (insertAt es p (fF dx,Value.ref xa)).toList (ins ds p dx):=by
   rw[Z4];exact(hE.imp km1).ins YN ⟨km1 _ _ hx,rfl,SH,⟨xa,rfl⟩,hP⟩
  have zT:(ins ds p dx).Perm (dx::ds):=Oi ds p dx;have Qf:(ins ds p dx).Nodup:=zT.nodup_iff.mpr (nodup_cons.mpr ⟨IB,S.nd⟩);have SO:t1.fill=t1.place.size:=by unfold SetTable.fill;rw[W1.tb.Xr];rfl
  have XH:(!decide (dx∈ds))=true:=by rw[aH IB];rfl
  by_cases J5:t1.tooFull=true
  ·
   have Xu:t1.mask*3<=t1.place.size*5:=by
    have:decide (t1.fill*5 ≥ t1.mask*3)=true:=J5;rw[SO]at this;have:=bJ this;omega
   have hm7:t.mask=7:=by
    rcases W.mask with hm|hm
    ·exact hm
    ·rw[Lg,hm,Qk]at Xu;omega
   have h4:es.size=4:=by rw[Lg,hm7,Qk]at Xu;rw[hm7]at j7;omega
   generalize aek:insertAt es p (fF dx,Value.ref xa)=BF at *;have UT:BF.size=5:=by rw[XG,h4]
   obtain⟨t2,order,XI,Z6,W2,Cp,XJ,Z7,_⟩:=Rm (mask:=31) (.inr rfl) t1.finger (t1.movedTo 31) t1.led t1.plain (BF.map (·.1)) (by simp[UT])
   have SQ:order.Perm (List.range BF.size):=by simpa using Z6
   obtain⟨rp,Z8⟩:=reorder (es:=BF) SQ;have hsz2:(order.toArray.filterMap (BF[·]?)).size=BF.size:=by
    have:=rp.length_eq
    simpa using this
   have W2':Wt t2 ((order.toArray.filterMap (BF[·]?)).toList.map (·.1)):=by rw[Z8 (·.1)];exact W2
   simp only[Bool.not_false,Bool.true_and,if_pos J5];refine aa ?_;unfold setRelay;refine aa (wpAny_setState_of DW rfl W1'.fits ?_);dsimp only;have hw:sizeAbove (grown (es.size+1))=32:=by rw[h4];rfl
   have hre:t1.relaid (BF.map (·.1)) (grown (es.size+1))=some (t2,order.toArray):=by unfold relaid;rw[hw];exact XI
   rw[hw,if_neg (by decide),hre]
   refine aa ?_;show wpAny _ _ (if((order.toArray.filterMap (BF[·]?)).size !=BF.size)=true then(unsupported "internal:set-table-lost-an-element">>=λ_=>pure (order.toArray.filterMap (BF[·]?),t2))else pure (order.toArray.filterMap (BF[·]?),t2)) _ _ _
   rw[if_neg (by rw[hsz2];simp)]
   refine aj ?_;dsimp only;refine wpAny_storeSet_of DW rfl ?_ (by rw[hsz2,UT];decide)
   have sb2:Heap.SameBut a (s.heap.update a (Obj.putSet BF t1)) ((s.heap.update a (Obj.putSet BF t1)).update a (Obj.putSet (order.toArray.filterMap (BF[·]?)) t2)):=Heap.SameBut.update ..
   have zf:((s.heap.update a (Obj.putSet BF t1)).update a (Obj.putSet (order.toArray.filterMap (BF[·]?)) t2)).get? a=some {o with data:=.set (order.toArray.filterMap (BF[·]?)) (ep+1+1) t2}:=by
    have:=Heap.get?_update_self (Obj.putSet (order.toArray.filterMap (BF[·]?)) t2) DW (by rw[putSet_of _ t2 rfl];rfl)
    rw[putSet_of _ t2 rfl]at this;exact this
   have eq2:(order.toArray.filterMap (BF[·]?)).toList=order.filterMap λk:Nat=>BF.toList[k]? :=by simp
   obtain⟨hE2,XM⟩:=(hE1.imp (λv d=>ki_set DW rfl sb2)).reorder (order:=order) (by simpa using SQ)
   rw[<-eq2]at hE2;have:=h _ _ (Z5.trans sb2) ⟨⟨_,_,_,t2,zf,hex,rfl,W2',hE2,by have h1:=W2'.len;rw[ae,aN,hsz2,UT]at h1;rw[Cp,h1];decide,by rw[Z7];exact Oj,by rw[XJ];exact Rr⟩,(XM.trans zT).nodup_iff.mpr (nodup_cons.mpr ⟨IB,S.nd⟩)⟩ (by rw[if_neg IB];exact XM.trans zT)
   rw[XH]at this;exact aj this
  ·have Xu:t1.place.size*5<t1.mask*3:=by
    have h0:¬ (decide (t1.fill*5 ≥ t1.mask*3)=true):=J5;rw[SO]at h0
    simpa using h0
   simp only[Bool.not_false,Bool.true_and,if_neg J5];have:=h _ (ins ds p dx) Z5 ⟨⟨_,_,_,t1,DW,hex,rfl,W1',hE1,Xu,Oj,Rr⟩,Qf⟩ (by rw[if_neg IB];exact zT)
   rw[XH]at this;exact aj this
end
def Tk (h h':Heap):Prop:=∀b o,h.get? b=some o->o.cls=.type "tuple"->h'.get? b=some o
def Tk.trans (a:Tk h h1) (b:Tk h1 h2):Tk h h2:=λx o e c=>b x o (a x o e c) c
mutual
theorem Ol {h h':Heap}(t:Tk h h'):∀{v:cy}{d:D},KI h v d->KI h' v d
 |_,_,.int n t=>.int n t
 |_,_,.tup h1 h2 h3 l=>.tup (t _ _ h1 h2) h2 h3 (Om t l)
theorem Om {h h':Heap}(t:Tk h h'):∀{vs:cx}{ds:cw},uR h vs ds->uR h' vs ds
 |_,_,.nil=>.nil
 |_,_,.cons h r=>.cons (Ol t h) (Om t r)
end
def yr.mono {P:cy->Prop}{ld:Bool}{h h':Heap}{a:cG}{ds:cw}(S:yr P ld h a ds) (hS:∀o,h.get? a=some o->h'.get? a=some o) (t:Tk h h'):yr P ld h' a ds:=by
 obtain⟨o,es,ep,tb,h1,h2,h3,h4,h5,h6,h7⟩:=S.ex;exact⟨⟨o,es,ep,tb,hS o h1,h2,h3,h4,h5.imp λv d=>Ol t,h6,h7⟩,S.nd⟩
def yr.tk {P:cy->Prop}{ld:Bool}{h h':Heap}{a:cG}{ds:cw}(S:yr P ld h a ds) (hs:Heap.SameBut a h h'):Tk h h':=λb o e c=>by
 obtain⟨o',es,ep,tb,h1,h2,_⟩:=S.ex;have jX:b≠a:=λz=>by
  subst z;rw[h1]at e;cases e;rw[h2.1]at c;exact absurd c (by decide)
 exact(hs.2 b jX).trans e
def IE (led:Bool) (ho:h.get? a=some {cls:=.type "set",dict:=none,data:=.set #[] 0 (.fresh 0 0 led)}):yr P led h a []:=
 ⟨⟨_,#[],0,_,ho,⟨rfl,rfl,rfl⟩,rfl,Oa led,⟨rfl,λi e he=>by simp at he⟩,by show 0*5<7*3;decide,rfl,rfl⟩,nodup_nil⟩
section
variable {prog:cC}{w:cD}{A:cE}{R:Result->cA->Prop}{I:cG}{fp wr:List cG}{G:Array GenState->Array GenState->Prop}{n:Nat}{P:Nat->cy->Prop}{St:Nat->cA->Prop}
def XN {Pv:cy->Prop}{ld:Bool}(W:WalksS prog w A.in1 I fp wr G n P St) (S:cG) (VP:S∉fp) (val:Nat->D) (h0:Heap)
  (IF:∀i v,P i v->(∃xa,v=.ref xa)/\eV (val i)<=4/\KI h0 v (val i)/\Pv v) (hb:n<=18) (hu:A.units+9<cLine)
  (hwr:∀i (s:cA) b o,St i s->b∈wr->s.heap.get? b=some o->o.cls≠.type "tuple"):
  ∀(k i:Nat) (s:cA),n-i=k->i<=n->St i s->Tk h0 s.heap->
   (∃ds,yr Pv ld s.heap S ds/\ds.length<=i/\∀d,d∈ds↔∃m,m<i/\val m=d)->
   (∀s',Moved (S::wr) G s s'->Tk h0 s'.heap->(∃ds,yr Pv ld s'.heap S ds/\ds.length<=n/\∀d,d∈ds↔∃m,m<n/\val m=d)->R (.ok (.ret .none)) s')->
   codeAny (model prog w) A (.builtin "set.update.loop" ⟨[.ref S,.ref I],[]⟩) R s:=by
 have hSw:S∉wr:=λh=>VP (W.sub _ h)
 have IG:∀b∈wr,b∈S::wr:=λb hb=>ai _ hb
 have YO:∀{i:Nat}{s s':cA},St i s->Moved wr G s s'->Tk s.heap s'.heap:=λuJ hm b o e c=>hm.heap b o (λhb=>hwr _ _ b o uJ hb e c) e
 intro k;induction k with
 |zero=>
  intro i s hk hi uJ hT ⟨ds,hS,hl,FQ⟩ hR;have wI:i=n:=by omega
  subst wI;refine codeAny_builtin PyProof.Rows.F.entry_set_update_loop ?_;rw[bW PyProof.Rows.F.plain_set_update_loop _];show wpAny _ A.in1 (pyNext (.ref I)>>=_) _ _ s;refine aa (W.done s _ _ uJ λs' hm=>?_)
  show wpAny _ A.in1 (ret Value.none) _ _ s';exact aj (hR s' ⟨λb o hb e=>hm.heap b o (λz=>hb (IG b z)) e,hm.gens,hm.drawn,hm.os,hm.toks⟩ (hT.trans (YO uJ hm)) ⟨ds,hS.mono (λo e=>hm.heap S o hSw e) (YO uJ hm),hl,FQ⟩)
 |succ k ih=>
  intro i s hk hi uJ hT ⟨ds,hS,hl,FQ⟩ hR;have fP:i<n:=by omega
  refine codeAny_builtin PyProof.Rows.F.entry_set_update_loop ?_;rw[bW PyProof.Rows.F.plain_set_update_loop _];show wpAny _ A.in1 (pyNext (.ref I)>>=_) _ _ s;refine aa (W.item i s _ _ fP uJ λv s' hP LB hm=>?_)
  obtain⟨⟨xa,rfl⟩,Oo,hki,hpv⟩:=IF i v hP;have hT':=hT.trans (YO uJ hm);have Rt:=hS.mono (λo e=>hm.heap S o hSw e) (YO uJ hm)
  show wpAny _ A.in1 (holding [Value.ref xa] (setAdd S (.ref xa))>>=_) _ _ s';refine aa (bj ?_);unfold setAdd;refine bj ?_;have XO:=Ol hT' hki;refine aa (KI.hash 4 A.in1 s' (.ref xa) (val i) _ Oo (by show A.units+1+4<cLine;omega) XO ?_)
  refine UR (s:={s' with toks:=s'.toks+zG (val i)}) Rt XO Oo hpv (by show A.units+1+8<cLine;omega) (by omega) λh' JP Qg YQ Mq=>?_
  have Z9:Tk s'.heap h':=Rt.tk Qg;refine aj ⟨plainId_quiet PyProof.Rows.F.plain_set_update_loop _,ih (i+1) _ (by omega) fP (W.frame _ s' _ _ LB (Nat.le_add_right _ _) λb hb o e=>?_) (hT'.trans Z9) ⟨JP,YQ,?_,λd=>?_⟩ λFf aaa hT2 aab=>?_⟩
  ·rw[Qg.2 b (λh:b=S=>VP (by rw[<-h];exact hb))];exact e
  ·have:=Mq.length_eq;by_cases wI:val i∈ds
   ·rw[if_pos wI]at this;omega
   ·rw[if_neg wI,ay]at this;omega
  ·rw[Mq.mem_iff];have base:=FQ d;constructor
   ·intro hd;split at hd
    ·obtain⟨m,h1,h2⟩:=base.mp hd;exact⟨m,by omega,h2⟩
    ·rcases mem_cons.mp hd with rfl|hd
     ·exact⟨i,by omega,rfl⟩
     ·obtain⟨m,h1,h2⟩:=base.mp hd;exact⟨m,by omega,h2⟩
   ·rintro⟨m,h1,h2⟩
    by_cases hmi:m=i
    ·subst hmi;subst h2;split
     ·rename_i wI;exact wI
     ·exact af
    ·have:=base.mpr ⟨m,by omega,h2⟩
     split
     ·exact this
     ·exact ai _ this
  ·refine hR Ff (Moved.trans W.gtrans ?_ aaa) hT2 aab;refine⟨λb o hb e=>?_,hm.gens,hm.drawn,hm.os,?_⟩
   ·rw[Qg.2 b (λh:b=S=>hb (by rw[h];exact af))]
    exact hm.heap b o (λz=>hb (IG b z)) e
   ·exact aD hm.toks (Nat.le_add_right _ _)
end
noncomputable abbrev dX (led:Bool):Obj:={cls:=.type "set",dict:=none,data:=.set #[] 0 (.fresh 0 0 led)}
section
variable {prog:cC}{w:cD}{A:cE}{E:cf}{s:cA}
def Made (P:cy->Prop) (ld:Bool) (s:cA) (val:cw) (h':Heap):Prop:=(∃ds,yr P ld h' s.heap.objs.size ds/\∀d,d∈ds↔d∈val)/\∀b o,b<s.heap.objs.size->s.heap.get? b=some o->h'.get? b=some o
theorem LC {l:cG}{items:Array cy}{val:cw}{led:Bool}(hh:A.handled=none) (hu:A.units+20<cLine) (hl:s.heap.IsList l items) (hn:items.size=val.length)
  (hit:∀(i:Nat) (v:cy),items[i]? =some v->(∃xa,v=.ref xa)/\eV (val.getD i .eU)<=4/\KI s.heap v (val.getD i .eU)) (hb:items.size<=18) {Q:PySem.Fin->cA->Prop}
  (h:∀h' tk,Made (·∈items.toList) led s val h'->Q (.done (.ret .none)) {s with heap:=h',toks:=tk}):
  wpAny (model prog w) A (Builtin.«set.__init__» ⟨[.ref s.heap.objs.size,.ref l],[]⟩) Q E {s with heap:=s.heap.push (dX led)}:=by
 obtain⟨⟨aac,Oq,XQ,IH⟩,XR,wF,nl,XS⟩:=hl;simp only at wF XS;subst wF XS;have hS:(s.heap.push (dX led)).get? s.heap.objs.size=some (dX led):=az _ rfl;have hT:Shared.TypeIs {s with heap:=s.heap.push (dX led)} (.ref s.heap.objs.size) "set":=⟨_,hS,rfl⟩
 have UU:(s.heap.push (dX led)).get? l=some {cls:=.type "list",dict:=Oq,data:=.seq items nl,slots:=IH}:=ag _ XR;have aad:=PySem.F.sub_list_set;have aae:=PySem.F.sub_list_frozenset;have jX:(Value.type "list"==Value.type "dict")=false:=by decide
 have UW:(s.heap.push (dX led)).IsList l items:=⟨_,UU,rfl,nl,rfl⟩;unfold Builtin.«set.__init__» noKeywords Builtin.Frozenset.updateFrom;generalize hPI:pyIter=PI
 wp_walk
 subst hPI;refine wpAny_pyIter_list UW ?_;refine aa (wpAny_runValue ?_);have XT:l<s.heap.objs.size:=aB XR;have UX:(s.heap.push (dX led)).objs.size=s.heap.objs.size+1:=Heap.size_push ..;have Ot:l≠(s.heap.push (dX led)).objs.size:=by rw[UX];exact aE (Nat.lt_succ_of_lt XT)
 have VP:s.heap.objs.size∉[(s.heap.push (dX led)).objs.size,l]:=by
  rw[UX];simp only[mem_cons,bH,or_false,not_or];exact⟨aE (Nat.lt_succ_self _),bw XT⟩
 have hgS:((s.heap.push (dX led)).push {cls:=.type "list_iterator",data:=.fields #[.ref l,.int 0 0]}).get? s.heap.objs.size=some (dX led):=ag _ hS;have W:=(Walks.list (prog:=prog) (w:=w) (A:=A.in1) hh (s.heap.push (dX led)).objs.size l Ot items).toS;refine XN (Pv:=(·∈items.toList)) W s.heap.objs.size VP (λi=>val.getD i .eU) s.heap (λi v hv=>⟨(hit i v hv).1,(hit i v hv).2.1,(hit i v hv).2.2,Array.mem_toList_iff.mpr (Array.mem_of_getElem? hv)⟩) hb (by omega) (λi s' b o st hbw e c=>?_) (items.size-0) 0 _ (by omega) (bK _) ⟨⟨_,az _ rfl,rfl,rfl⟩,UW.push _⟩ (λb o e _=>ag _ (ag _ e)) ⟨[],IE led hgS,au _,λd=>⟨(λz=>by cases z),λ⟨m,hm,_⟩=>by omega⟩⟩ (λs' hm hTk ⟨ds,hSt,_,FQ⟩=>?_)
 ·have QA:b=(s.heap.push (dX led)).objs.size:=by simpa using hbw
  obtain⟨o',e',c',_⟩:=st.1;subst QA;rw[e]at e';cases e';rw[c]at c';exact absurd c' (by decide)
 ·obtain⟨h',g',d',rE,TN⟩:=s';have eg:g'=s.gens:=hm.gens;have ed:d'=s.drawn:=hm.drawn;have eo:TN=s.os:=hm.os;subst eg ed eo;show wpAny _ _ _ _ _ _;refine aj ?_;show wpAny _ _ (ret Value.none) _ _ _;refine aj (h h' rE ⟨⟨ds,hSt,λd=>(FQ d).trans ⟨λ⟨m,Lg,Cp⟩=>?_,λhd=>?_⟩⟩,λb o hb e=>?_⟩)
  ·have:m<val.length:=by rw[<-hn];exact Lg
   rw[<-Cp];show val.getD m .eU∈val;rw[ak,ah this];exact getElem_mem this
  ·obtain⟨m,Cp⟩:=bo hd;refine⟨m,by rw[hn];exact(List.getElem?_eq_some_iff.mp Cp).1,?_⟩
   show val.getD m .eU=d;rw[ak,Cp];rfl
  ·have hb1:b≠s.heap.objs.size:=aE hb;have UG:b≠(s.heap.push (dX led)).objs.size:=by rw[UX];exact aE (Nat.lt_succ_of_lt hb)
   exact hm.heap b o (by simp only[mem_cons,bH,or_false,not_or];exact⟨hb1,UG⟩) (ag _ (ag _ e))
end
section
variable {prog:cC}{w:cD}{A:cE}{E:cf}{s:cA}
def Ru (a:cy) (h:Q₁ (.ref s.heap.objs.size) {s with heap:=s.heap.push (dX (!w.params.followText "set-order"))}):codeAny (model prog w) A (.call (.builtin "set.__new__") ⟨[.type "set",a],[]⟩) (wants Q₁ E) s:=by
 refine codeAny_of_tree ?_;show wpAny _ A.in1 (checkBuiltinCall "set.__new__" ⟨[.type "set",a],[]⟩>>=λ_=>again (.builtin "set.__new__" ⟨[.type "set",a],[]⟩)) _ _ s
 refine aa (wpAny_of_eq (PySem.F.newCall_set_1 a) (aj ⟨plainId_quiet PySem.F.plain_set_new _,codeAny_builtin PySem.F.entry_set_new ?_⟩));rw[bW PySem.F.plain_set_new _];unfold Builtin.«set.__new__» Builtin.Frozenset.newClass;have IG:=sub_set_self;obtain⟨hp,g,d,tk,os⟩:=s;dsimp only
 wp_walk
 refine wpAny_askSetting (aj ?_);dsimp only;simp only[newObj];refine aa (wpAny_alloc (aj ?_));exact aj h
set_option maxHeartbeats 8000000 in
def ue {x:cy}{Mk:Heap->Prop}{Q:cf}
  (XU:∀{Q:PySem.Fin->cA->Prop},(∀h' tk,Mk h'->Q (.done (.ret .none)) {s with heap:=h',toks:=tk})->wpAny (model prog w) A.in1.in1 (Builtin.«set.__init__» ⟨[.ref s.heap.objs.size,x],[]⟩) Q E {s with heap:=s.heap.push (dX (!w.params.followText "set-order"))})
  (h:∀h' tk,Mk h'->Q (.ref s.heap.objs.size) {s with heap:=h',toks:=tk}):
  wpAny (model prog w) A (call (.type "set") [x]) Q E s:=by
 obtain⟨c,tl,aet⟩:=PySem.F.called_set.mro;have SR:=PySem.F.called_set.made;have IG:=PySem.F.called_set.sub;have h1:=PySem.F.called_set.notType;have h2:=PySem.F.called_set.canCreate;have hct:=PySem.F.typeCall_set_1 x;refine wpAny_call (codeAny_of_tree ?_);show wpAny _ _ (callAny (.type "set") _) _ _ _;refine aj ⟨Code.quiet_builtin _ (by decide +kernel),codeAny_builtin PySem.F.entry_type_call ?_⟩
 rw[Around.under_plain (weight_type_call_type "set" [x] []) rfl]
 repeat (any_goals (first|assumption|wp_step))
 refine codeAny_mono (Ru x (E:=E) (Q₁:=λobj s₁=>obj=.ref s.heap.objs.size/\s₁={s with heap:=s.heap.push (dX (!w.params.followText "set-order"))}) ⟨rfl,rfl⟩) λr s₁ hr=>?_
 cases r with
 |error e=>exact hr
 |ok fl=>
  cases fl with
  |ret obj=>
   obtain⟨rfl,rfl⟩:=hr;have hT:Shared.TypeIs {s with heap:=s.heap.push (dX (!w.params.followText "set-order"))} (.ref s.heap.objs.size) "set":=⟨_,az _ rfl,rfl⟩
   have Oh:=PySem.F.called_set.init.lookup;have hbi:=PySem.F.called_set.init.bind (.ref s.heap.objs.size)
   repeat (any_goals (first|assumption|wp_step))
   refine codeAny_mono (codeAny_call_builtin (R:=wants (λr s₂=>r=.none/\∃h' tk,s₂={s with heap:=h',toks:=tk}/\Mk h') E) PySem.F.called_set.init.plain PySem.F.entry_set_init (check_set_init_1 hT ?_)) λr₂ s₂ hr₂=>?_
   ·exact XU λh' tk hm=>⟨rfl,h',tk,rfl,hm⟩
   ·cases r₂ with
    |error e=>exact hr₂
    |ok fl₂=>
     cases fl₂ with
     |ret r=>
      obtain⟨rfl,h',tk,rfl,hm⟩:=hr₂
      repeat (any_goals (first|assumption|wp_step))
      exact h _ _ hm
     |_=>exact hr₂.elim
  |_=>exact hr.elim
def BG (hh:A.handled=none) (hu:A.units+40<cLine) (hl:s.heap.IsList l items) (hn:items.size=val.length) (hit:∀(i:Nat) (v:cy),items[i]? =some v->(∃xa,v=.ref xa)/\eV (val.getD i .eU)<=4/\KI s.heap v (val.getD i .eU)) (hb:items.size<=18) (h:∀h' tk,Made (·∈items.toList) (!w.params.followText "set-order") s val h'->Q (.ref s.heap.objs.size) {s with heap:=h',toks:=tk}):wpAny (model prog w) A (call (.type "set") [.ref l]) Q E s:=
 ue (λhQ=>LC (s:=s) (A:=A.in1.in1) hh (by show A.units+1+1+20<cLine;omega) hl hn hit hb hQ) h
end
def jC:Slot "set_iterator" "__next__" "set_iterator.__next__":=
 .of (owner:="set_iterator") (n:="__next__") (by rw[typeLookup_type,builtinLookup_eq_fast];kernel_rfl) (by decide +kernel) (by decide +kernel) (by decide +kernel)
  (by first|exact .inl (by decide +kernel)|exact .inr (by decide +kernel)) (by rw[isSubtype_type];kernel_rfl)
def uf:entryFor table "set_iterator.__next__"=some Builtin.«set_iterator.__next__»:=entryFor_of_tree (by kernel_rfl)
def vP (a:cy):argsOk "set_iterator.__next__" ⟨[a],[]⟩:=by
 unfold argsOk;kernel_rfl
theorem J6 (next:Nat->Nat):∀(fuel k:Nat) (left:List α) (out:Array α),left.length<=fuel->(pickOrder.go next fuel k left out).toList.Perm (out.toList++left)
 |0,k,left,out,h=>by
  have:left=[]:=length_eq_zero_iff.mp (by omega)
  subst this;unfold pickOrder.go;rw[bB]
 |fuel+1,k,left,out,h=>by
  unfold pickOrder.go;by_cases hl:left=[]
  ·subst hl;simp
  ·have Ri:0<left.length:=length_pos_iff.mpr hl;have fP:next k%left.length<left.length:=Nat.mod_lt _ Ri;rw[ah fP];dsimp only;refine(J6 next fuel (k+1) _ _ (by rw[length_eraseIdx];split<;>omega)).trans ?_
   rw[Array.toList_push,append_assoc];refine List.Perm.append_left _ ?_;exact(LW.uS left _ fP)
def CO (next:Nat->Nat) (xs:Array α):(pickOrder next xs).toList.Perm xs.toList:=by
 have:=J6 next xs.size 0 xs.toList #[] (by simp)
 show(pickOrder.go next xs.size 0 xs.toList #[]).toList.Perm xs.toList
 simpa using this
noncomputable abbrev zU (first:Int) (i:Nat) (S:cG) (n ep:Nat):Obj:={cls:=.type "set_iterator",data:=.fields #[rawInt first,rawInt i,.ref S,rawInt n,rawInt ep]}
noncomputable def gJ (w:cD) (a:cG) (ep:Nat) (es:Array (Int×cy)):Array (Int×cy):=if w.params.followText "set-order" then pickOrder (w.params.setOrder a ep) es else es
noncomputable def II (t:cF):Nat->Nat
 |0=>0
 |i+1=>t.place.getD i 0+1
def mr (w:cD) (t:cF) (i:Nat):Nat:=if w.params.followText "set-order" then 0 else II t i
def IJ (hr:eR t.place.toList) (i:Nat) (hi:i<=t.place.size):below t.place (II t i)=i:=by
 obtain⟨h1,h2,h3⟩:=qc t.place (II t i) hr;cases i with
 |zero=>
  show below t.place 0=0;by_cases hz:below t.place 0=0
  ·exact hz
  ·have Ri:0<below t.place 0:=by omega
   have fP:0<t.place.size:=by have HV:below t.place 0<=t.place.size:=h1;omega
   have:=h2 0 fP Ri;have ab6:t.place[0]<0:=this;omega
 |succ i=>
  have fP:i<t.place.size:=by omega
  have hg:t.place.getD i 0=t.place[i]:=by simp[fP]
  have hf0:II t (i+1)=t.place[i]+1:=by show t.place.getD i 0+1=_;rw[hg]
  rw[hf0]at h1 h2 h3 ⊢;have lo:i<below t.place (t.place[i]+1):=by
   by_cases hc:below t.place (t.place[i]+1)<=i
   ·have:=h3 i fP hc;omega
   ·omega
  by_cases hc:below t.place (t.place[i]+1)=i+1
  ·exact hc
  ·have Rp:i+1<t.place.size:=by omega
   have a1:=h2 (i+1) Rp (by omega)
   have a2:=yN hr (i:=i) (k:=i+1) (by omega) (by simpa using Rp)
   simp only[Array.getElem_toList]at a2;omega
section
variable {prog:cC}{w:cD}{A:cE}{E:cf}{s:cA}
def IK (ho:s.heap.get? a=some o) (hd:o.data=.set es ep t) (hf:t.fits es.size=true) (hr:eR t.place.toList) (mn:t.plain=true) (XE:t.led= !w.params.followText "set-order") (i:Nat) (hi:i<=es.size) (h:Q ((gJ w a ep es)[i]?.map λe=>(e.2,mr w t (i+1))) s):wpAny (model prog w) A (setNext a (mr w t i) i ep) Q E s:=by
 have hsz:t.place.size=es.size:=by
  simp only[SetTable.fits,Bool.and_eq_true,beq_iff_eq,decide_eq_true_eq]at hf;exact hf.1
 unfold setNext;refine aa (wpAny_setState_of ho hd hf ?_);dsimp only;unfold setsByText;refine aa (aa (wpAny_askSetting (aj ?_)));show wpAny _ _ (if w.params.followText "set-order"=true then _ else _) _ _ _
 cases hb:w.params.followText "set-order" with
 |true=>
  rw[if_pos rfl,if_neg (by simp)]
  unfold setWalk;refine aa (aa (wpAny_setState_of ho hd hf ?_));dsimp only;unfold setsByText;refine aa (aa (wpAny_askSetting (aj ?_)));show wpAny _ _ (if w.params.followText "set-order"=true then _ else _) _ _ _
  rw[hb,if_pos rfl];refine aa (wpAny_askSetting (aj ?_));refine aj ?_;have e1:mr w t i=mr w t (i+1):=by unfold mr;rw[hb];rfl
  unfold gJ at h;rw[hb,if_pos rfl]at h;rw[e1];exact h
 |false=>
  rw[if_neg aZ,if_neg (λhc=>by
   have h2:(!t.plain&&decide (es.size>1))=true:=hc;rw[mn]at h2;cases h2)]
  refine aa ?_;show wpAny _ _ (if(!t.led&& !es.isEmpty)=true then unsupported "set:maker-not-led" else pure ()) _ _ _
  rw[if_neg (by rw[XE,hb];simp)]
  refine aj ?_;refine aj ?_;have e1:mr w t i=II t i:=by unfold mr;rw[hb];rfl
  rw[e1,IJ hr i (by omega)]
  unfold gJ at h;rw[hb,if_neg aZ]at h;by_cases fP:i<es.size
  ·have g1:es[i]? =some es[i]:=by simp[fP]
   have g2:t.place[i]? =some t.place[i]:=by simp[hsz,fP]
   rw[g1]at h ⊢;rw[g2];have e2:mr w t (i+1)=t.place[i]+1:=by unfold mr II;rw[hb];simp[hsz,fP]
   rw[e2]at h;exact h
  ·have g1:es[i]? =none:=by simp;omega
   rw[g1]at h ⊢;exact h
end
def vQ:Slot "set_iterator" "__iter__" "set_iterator.__iter__":=
 .of (owner:="set_iterator") (n:="__iter__") (by rw[typeLookup_type,builtinLookup_eq_fast];kernel_rfl) (by decide +kernel) (by decide +kernel) (by decide +kernel)
  (by first|exact .inl (by decide +kernel)|exact .inr (by decide +kernel)) (by rw[isSubtype_type];kernel_rfl)
def Ec (a:cy):argsOk "set_iterator.__iter__" ⟨[a],[]⟩:=by unfold argsOk;kernel_rfl
def BH:entryFor table "set_iterator.__iter__"=some Builtin.«dict_keyiterator.__iter__»:=
 entryFor_alias (id':="dict_keyiterator.__iter__") (by kernel_rfl) (by first|rfl|decide +kernel) (by decide +kernel) (by kernel_rfl)
def zV:entryFor table "set.__iter__"=some Builtin.«frozenset.__iter__»:=
 entryFor_alias (id':="frozenset.__iter__") (by kernel_rfl) rfl (by decide +kernel) (by kernel_rfl)
structure o3 (w:cD) (h:Heap) (S:cG) (es:Array (Int×cy)) (ep:Nat) (t:cF):Prop where
 at_:∃o,h.get? S=some o/\o.ExactSet/\o.data=.set es ep t
 fits:t.fits es.size=true
 rise:eR t.place.toList
 plain:t.plain=true
 led:t.led= !w.params.followText "set-order"
section
variable {prog:cC}{w:cD}{A:cE}{E:cf}{s:cA}
def J7 (hI:s.heap.get? I=some (zU (mr w t i:Nat) i S es.size ep)) (hS:o3 w s.heap S es ep t) (hi:i<=es.size) (h1:∀e h',(gJ w S ep es)[i]? =some e->h'.get? I=some (zU (mr w t (i+1):Nat) (i+1) S es.size ep)->Heap.SameBut I s.heap h'->Q (.done (.ret e.2)) {s with heap:=h'}) (h2:(gJ w S ep es)[i]? =none->wpAny (model prog w) A (setField (.ref I) 2 .none>>=λ_=>newExc (.type "StopIteration") []>>=λe=>raiseNew e) Q E s):wpAny (model prog w) A (Builtin.«set_iterator.__next__» ⟨[.ref I],[]⟩) Q E s:=by
 obtain⟨o,ho,hex,hd⟩:=hS.at_;unfold Builtin.«set_iterator.__next__» slotArgs;simp only[isEmpty_nil,bS,aI,↓reduceIte,bind_assoc,length_nil,bne_self_eq_false];refine aa (aj ?_);refine aa (wpAny_fieldsOf hI rfl ?_);show wpAny (model prog w) A (setEntries S>>=_) Q E s;refine aa (wpAny_setEntries_of ho hd hS.fits ?_);have hsz:(((es.size:Nat):Int)!=((es.size:Nat):Int))=false:=by simp
 show wpAny _ _ (if(((es.size:Nat):Int)!=((es.size:Nat):Int))=true then _ else _) _ _ _
 rw[if_neg (by rw[hsz];exact aZ)]
 show wpAny _ _ (setNext S (((mr w t i:Nat):Int).toNat) (((i:Nat):Int).toNat) (((ep:Nat):Int).toNat)>>=_) _ _ _;rw[Int.toNat_natCast,Int.toNat_natCast,Int.toNat_natCast];refine aa (IK ho hd hS.fits hS.rise hS.plain hS.led i hi ?_);cases hx:(gJ w S ep es)[i]? with
 |none=>exact h2 hx
 |some e=>
  dsimp only[bA];refine aa (wpAny_setField_rec hI (by simp) λha haI hsa=>?_)
  refine aa (wpAny_setField_rec haI (by simp) λhb hbI Qg=>?_)
  exact aj (h1 e hb hx hbI (hsa.trans Qg))
def o4 (w:cD) (S:cG) (ep:Nat) (es:Array (Int×cy)):(gJ w S ep es).size=es.size:=by
 unfold gJ;split
 ·have:=(CO (w.params.setOrder S ep) es).length_eq
  simpa using this
 ·rfl
def o3.mono (a:o3 w h S es ep t) (k:∀o,h.get? S=some o->h'.get? S=some o):o3 w h' S es ep t:=
 ⟨let ⟨o,h1,h2⟩:=a.at_;⟨o,k o h1,h2⟩,a.fits,a.rise,a.plain,a.led⟩
def LD (hh:A.handled=none) (I S:cG) (jX:S≠I) (es:Array (Int×cy)) (ep:Nat) (t:cF):
  Walks prog w A I [I,S] [I] es.size (λi v=>∃e,(gJ w S ep es)[i]? =some e/\v=e.2) (λi h=>h.get? I=some (zU (mr w t i:Nat) i S es.size ep)/\o3 w h S es ep t)where
 sub:=λb hb=>by simp at hb;simp[hb]
 frame:=λi h h' st hk=>⟨hk I (by simp) _ st.1,st.2.mono λo e=>hk S (by simp) o e⟩
 item:=λi s Q E hi st hQ=>by
  have hT:s.TypeIs (.ref I) "set_iterator":=⟨_,st.1,rfl⟩;unfold pyNext;refine aa (wpAny_attempt (wpAny_callSpecial?_slot (name:=Str.ofString "__next__") hT jC (bL jC hT uf ?_ (vP _))));refine J7 st.1 st.2 (bg hi) (λe h' hx hI' hs=>?_) λhn=>?_
  ·exact⟨_,rfl,aj (hQ e.2 h' s.toks ⟨e,hx,rfl⟩ ⟨hI',st.2.mono λo e=>(hs.2 S jX).trans e⟩ λb o hb e=>(hs.2 b (by simpa using hb)).trans e)⟩
  ·have:i<(gJ w S ep es).size:=by rw[o4];exact hi
   rw[aU this]at hn;cases hn
 done:=λs Q E st hQ=>by
  have hT:s.TypeIs (.ref I) "set_iterator":=⟨_,st.1,rfl⟩;unfold pyNext;refine aa (wpAny_attempt (wpAny_callSpecial?_slot (name:=Str.ofString "__next__") hT jC (bL jC hT uf ?_ (vP _))));refine J7 st.1 st.2 (au _) (λe h' hx hI' hs=>?_) λhn=>?_
  ·have:¬ es.size<(gJ w S ep es).size:=by rw[o4];omega
   rw[Array.getElem?_eq_none (by omega)]at hx;cases hx
  ·refine aa (wpAny_setField_rec st.1 (by simp) λha haI hsa=>?_)
   refine aa ?_;simp only[newExc,newTuple];refine aa (bQ ?_ (by size_fits))
   refine aa (m:=firstArgMember _ _) (wpAny_of_eq (a:=Value.none) (by first|rfl|(simp only[firstArgMember];rfl)) ?_)
   refine bQ ?_ (by size_fits)
   simp only[raiseNew];refine aa (wpAny_handled ?_)
   first|rw[show A.in1.handled=none from hh]|rw[hh]
   refine aa (aj (wpAny_throw ?_));refine aa (wpAny_isInstance (T:="StopIteration") (b:=true) ⟨_,az _ rfl,rfl⟩ isSubtype_stop ?_);exact aj (hQ _ s.toks λb o hb e=>ag _ (ag _ ((hsa.2 b (by simpa using hb)).trans e)))
 self:=λi s Q E st hQ=>by
  have hT:s.TypeIs (.ref I) "set_iterator":=⟨_,st.1,rfl⟩;refine wpAny_pyIter_slot hT vQ (bL vQ hT BH ?_ (Ec _));show wpAny _ _ (ret (.ref I)) _ _ s;exact aj ⟨_,rfl,"set_iterator",_,hT,jC.lookup,hQ⟩
def Ou (hS:o3 w s.heap S es ep t) (h:Q (.ref s.heap.objs.size) {s with heap:=s.heap.push (zU 0 0 S es.size ep)}):wpAny (model prog w) A (pyIter (.ref S)) Q E s:=by
 obtain⟨o,ho,hex,hd⟩:=hS.at_;have hT:s.TypeIs (.ref S) "set":=⟨o,ho,hex.1⟩;refine wpAny_pyIter_slot hT PySem.F.slot_set_iter (bL PySem.F.slot_set_iter hT zV ?_ (PySem.F.args_set_iter_1 _));unfold Builtin.«frozenset.__iter__» Builtin.Frozenset.slot0 slotArgs;simp only[isEmpty_nil,bS,aI,↓reduceIte,bind_assoc,length_nil,bne_self_eq_false];unfold Builtin.Frozenset.addrOf Builtin.Frozenset.sizeOf;refine aa (aj ?_);try dsimp only
 refine aa (aj ?_);refine aa (aa (wpAny_setEntries_of ho hd hS.fits (aj ?_)));unfold setDrawn;refine aa (aa (wpAny_setState_of ho hd hS.fits ?_));dsimp only;unfold setsByText;refine aa (aa (wpAny_askSetting (aj ?_)));refine aj ?_;rw[if_neg (λhc=>by
  have h2:(!w.params.followText "set-order"&&(!t.plain&&decide (es.size>1)))=true:=hc;rw[hS.plain,bS,Bool.false_and,Bool.and_false]at h2;cases h2)]
 refine aa (aj ?_);refine aa (wpAny_setEpoch_of ho hd hS.fits ?_);exact aa (bQ (aj ⟨_,rfl,"set_iterator",_,⟨_,az _ rfl,rfl⟩,jC.lookup,h⟩))
end
section
variable {prog:cC}{w:cD}{A:cE}{E:cf}{s:cA}
def UY [Decidable c] (hc:c) (h:wpAny M A x Q E s):wpAny M A (if c then x else y) Q E s:=by rw[if_pos hc];exact h
def Ov (hS:o3 w s.heap S es ep t) (h:Q false s):wpAny (model prog w) A (Builtin.List.listLengthHint (.ref S)) Q E s:=by
 obtain⟨o,ho,hex,hd⟩:=hS.at_;have hT:s.TypeIs (.ref S) "set":=⟨o,ho,hex.1⟩;unfold Builtin.List.listLengthHint;refine aa (wpAny_specialOf hT PySem.F.slot_set_len.lookup ?_);dsimp only;have Qa:splitId "set.__len__"=some ("set","__len__"):=by decide +kernel
 rw[Qa];dsimp only;refine aa (wpAny_isInstance hT sub_set_self ?_);simp only[bS,aI,bD];refine UY (by decide +kernel) ?_
 refine aa (wpAny_typeOf hT ?_);exact aj h
def xV {S:cG}{es:Array (Int×cy)}{ep:Nat}{t:cF}{Q:cx->cA->Prop}(hh:A.handled=none) (hS:o3 w s.heap S es ep t) (hn:es.size<=1000)
  (hQ:∀h' tk acc,(∀b o,s.heap.get? b=some o->h'.get? b=some o)->acc=(gJ w S ep es).toList.map (·.2)->s.heap.objs.size<h'.objs.size->Q acc {s with heap:=h',toks:=tk}):wpAny (model prog w) A (collect (.ref S)) Q E s:=by
 obtain⟨o,ho,hex,hd⟩:=hS.at_;have Rv:S<s.heap.objs.size:=aB ho;unfold collect;refine aa (wpAny_runValue (codeAny_builtin PySem.F.entry_proto_collect ?_));rw[bW PySem.F.plain_proto_collect _];show wpAny _ A.in1 (newList []>>=λl=>again (.builtin "list.__iadd__" ⟨[l,.ref S],[]⟩)) _ _ s
 refine aa (bQ ?_);refine aj ⟨plainId_quiet PySem.F.plain_list_iadd _,codeAny_builtin PySem.F.entry_list_iadd ?_⟩;rw[bW PySem.F.plain_list_iadd _];generalize hh1:s.heap.push {cls:=.type "list",data:=.seq ([]:cx).toArray}=g1;have YR:g1.objs.size=s.heap.objs.size+1:=by rw[<-hh1];exact Heap.size_push ..
 have k1:∀b o,s.heap.get? b=some o->g1.get? b=some o:=λb o e=>by rw[<-hh1];exact ag _ e
 have hL1:g1.get? s.heap.objs.size=some {cls:=.type "list",data:=.seq ([]:cx).toArray}:=by rw[<-hh1];exact az _ rfl
 have hS1:o3 w g1 S es ep t:=hS.mono λo e=>k1 _ _ e
 have hT1:Shared.TypeIs {s with heap:=g1} (.ref S) "set":=⟨o,k1 _ _ ho,hex.1⟩
 show wpAny _ A.in1 (Builtin.List.listExtendWith (.ref s.heap.objs.size) (.ref S) (.ref s.heap.objs.size)) _ _ {s with heap:=g1}
 unfold Builtin.List.listExtendWith;refine aa (wpAny_typeOf hT1 ?_);have h1:Builtin.List.listSameRef (.ref s.heap.objs.size) (.ref S)=false:=by simp[Builtin.List.listSameRef];exact bw Rv
 have h2:(Value.type "set"==Value.type "list")=false:=by decide
 have h3:(Value.type "set"==Value.type "tuple")=false:=by decide
 simp only[h1,h2,h3,Bool.or_false,aI,bD];refine aa (Ou (s:={s with heap:=g1}) hS1 ?_)
 generalize hh2:g1.push (zU 0 0 S es.size ep)=g2;have k2:∀b o,g1.get? b=some o->g2.get? b=some o:=λb o e=>by rw[<-hh2];exact ag _ e
 have hI2:g2.get? g1.objs.size=some (zU 0 0 S es.size ep):=by rw[<-hh2];exact az _ rfl
 have YQ:o3 w g2 S es ep t:=hS1.mono λo e=>k2 _ _ e
 refine aa (bj (Ov (s:={s with heap:=g2}) YQ ?_))
 show wpAny _ A.in1 (rule "list.extend.makes-room">>=λ_=>Builtin.List.listTouch (.ref s.heap.objs.size)>>=λ_=>
  again (.builtin "list.extend.loop" ⟨[.ref s.heap.objs.size,.ref g1.objs.size,.ref s.heap.objs.size],[]⟩)) _ _ {s with heap:=g2}
 refine aa (wpAny_rule ?_);refine aa ?_;show wpAny _ A.in1 (updateSeq s.heap.objs.size (·.push .none)>>=λ_=>updateSeq s.heap.objs.size (·.pop)) _ _ {s with heap:=g2}
 have hL2:=k2 _ _ hL1;refine aa (wpAny_updateSeq hL2 rfl ?_);have hL3:=Heap.get?_update_self (Obj.mapSeq (·.push Value.none)) hL2 rfl
 refine wpAny_updateSeq hL3 rfl ?_;have hL4:=Heap.get?_update_self (Obj.mapSeq (·.pop)) hL3 rfl
 generalize hh3:(g2.update s.heap.objs.size (Obj.mapSeq (·.push Value.none))).update s.heap.objs.size (Obj.mapSeq (·.pop))=g3 at hL4
 have oth:∀b o,b≠s.heap.objs.size->g2.get? b=some o->g3.get? b=some o:=λb o hb e=>by
  rw[<-hh3];exact(bx _ _ (Ne.symm hb)).trans ((bx _ _ (Ne.symm hb)).trans e)
 have Ot:S≠g1.objs.size:=by rw[YR];exact aE (Nat.lt_succ_of_lt Rv)
 have W:=(LD (prog:=prog) (w:=w) (A:=A.in1) hh g1.objs.size S Ot es ep t).toS;have hLf:s.heap.objs.size∉[g1.objs.size,S]:=by
  rw[YR];simp only[mem_cons,bH,or_false,not_or];exact⟨aE (Nat.lt_succ_self _),bw Rv⟩
 have hf0:((mr w t 0:Nat):Int)=0:=by unfold mr II;split<;>rfl
 refine aj ⟨plainId_quiet PySem.F.plain_extend_loop _,codeAny_extend_loopS W (aD hn (by decide)) _ hLf _ es.size 0 _ _ _ rfl (bK _) ⟨?_,?_⟩ hL4 (ItemsOf.nil _) λs' mF c' hm hL' tZ=>?_⟩
 ·show g3.get? g1.objs.size=some (zU (mr w t 0:Nat) 0 S es.size ep);rw[hf0];exact oth _ _ (by rw[YR];exact bw (Nat.lt_succ_self _)) hI2
 ·exact YQ.mono λo e=>oth _ _ (aE Rv) e
 ·obtain⟨h',g',d',rE,TN⟩:=s';have eg:g'=s.gens:=hm.gens;have ed:d'=s.drawn:=hm.drawn;have eo:TN=s.os:=hm.os;subst eg ed eo;show wpAny _ A (load s.heap.objs.size>>=_) _ _ _;refine aa (wpAny_load hL' ?_);refine aj (hQ h' rE mF.toList (λb o e=>?_) ?_ (aB hL'))
  ·have hb:b<s.heap.objs.size:=aB e;refine hm.heap b o ?_ (oth b o (aE hb) (k2 b o (k1 b o e)));simp only[mem_cons,bH,or_false,not_or];exact⟨aE hb,by rw[YR];exact aE (Nat.lt_succ_of_lt hb)⟩
  ·refine ext_getElem? λj=>?_
   rw[av];have hsz:=tZ.1;have hwz:=o4 w S ep es;by_cases hj:j<es.size
   ·have hj1:j<mF.size:=by omega
    have ZD:j<(gJ w S ep es).size:=by omega
    obtain⟨e,he,hv⟩:=tZ.2 j mF[j] (aU hj1);have YL:(gJ w S ep es).toList[j]? =some e:=by simpa using he
    rw[YL];show mF.toList[j]? =some e.2;rw[<-hv];simp[hj1]
   ·have e1:mF.toList[j]? =none:=getElem?_eq_none (by rw[aN];omega)
    have e2:(gJ w S ep es).toList[j]? =none:=getElem?_eq_none (by rw[aN];omega)
    rw[e1,e2];rfl
end
end ST
namespace ST
open PySem.W DL SetTable
section
variable {prog:cC}{w:cD}{A:cE}{E:cf}{s:cA}{h₀:Heap}{L:cG}{m:cg}{news:cj}{vs:cx}
theorem sortedS {S:cG}{es:Array (Int×cy)}{ep:Nat}{t:cF}{Q:cf}(F:Fr h₀ L s.heap m) (N:News h₀ L s.heap news) (hh:A.handled=none) (hS:o3 w s.heap S es ep t) (XW:vs=(gJ w S ep es).toList.map (·.2)) (h2:2<=vs.length) (xS:vs.length<64)
  (h:∀D e1 h' tk,Fr h₀ L h' m->News h₀ L h' ((D,seqObj "list" #[] e1)::news)->(∀q∈news,q.1<D)->s.heap.objs.size<=D->
   wpAny (model prog w) A.in1.in1 (keyKind' vs.toArray) (λκ s'=>(kas_sort vs.length).kasWp (kas_ask prog w A.in1.in1 κ vs) (λp Ff=>KasFin h₀ L m D e1 (p.toList.map λi=>vs.getD i Value.none) (λs3=>Q (.ref D) s3) Ff) s') (λ_ _=>False) {s with heap:=h',toks:=tk}):
  wpAny (model prog w) A (call (.builtin "sorted") [.ref S]) Q E s:=by
 have hlen:es.size=vs.length:=by rw[XW,ae,aN,o4]
 refine Calls.call_function_entry kind_sorted plain_sorted entry_sorted (args_sorted1 _) ?_;unfold Builtin.«sorted»;refine aa (m:=checkCount "sorted" 1 1 _) (aj ?_);refine aa (xV hh hS (by omega) λg tk acc keep tZ hg=>?_)
 rw[<-XW]at tZ;subst tZ;refine aa (wpAny_newList ?_ (by rw[bu];omega))
 have E9:(g.push (seqObj "list" acc.toArray 0)).get? g.objs.size=some (seqObj "list" acc.toArray 0):=az _ rfl;have oY:∀b o,s.heap.get? b=some o->(g.push (seqObj "list" acc.toArray 0)).get? b=some o:=λb o q=>ag _ (keep b o q)
 have hL:L<s.heap.objs.size:=F.ns.lt;refine aa (bj (bL slot_list_sort ⟨_,E9,rfl⟩ entry_list_sort ?body (args_list_sort _)))
 case body=>
  refine kat_list_sort (s:={s with heap:=g.push (seqObj "list" acc.toArray 0),toks:=tk}) (F.kept oY) (N.grown oY) E9 (bw (bG hL hg)) (Heap.get?_none_of_le (aD F.above (bg (bG hL hg))))
   (λp hp=>aE (bG (aB (N p hp).1) hg)) h2 xS λe1 h' F' N'=>?_
  refine bO (h _ e1 h' tk F' N' (λq hq=>bG (aB (N q hq).1) hg) (bg hg)) (λκ s' hk=>?_) λ_ _ x=>x
  rw[kat_ask_eq rfl]at hk ⊢;exact kas_wp_mono hk λp Ff rB=>rB.mono λs3 hq=>⟨_,rfl,aj ⟨_,rfl,hq⟩⟩
end
def TI (h:Heap) (v:cy) (ns:cp):Prop:=∃(a:cG) (o:Obj) (ts:cx) (n:Nat),v=.ref a/\h.get? a=some o/\o.cls=.type "tuple"/\o.data=.seq ts.toArray n/\IntsAre ts ns
section
variable {prog:cC}{w:cD}{A:cE}{E:cf}{s:cA}
theorem J8:∀(vs:cx) {Q:List (Option cy)->cA->Prop},(∀v∈vs,∃ns,TI s.heap v ns)->(∀fs:List (Option cy),fs.length=vs.length->(∀f∈fs,∀v,f=some v->∃i t,v=Value.int i t)->Q fs s)->wpAny (model prog w) A (vs.mapM firstOfTuple') Q E s
 |[],_,_,h=>by rw[mapM_nil];exact aj (h [] rfl λf hf=>by cases hf)
 |v::vs,Q,t,h=>by
  obtain⟨ns,a,o,ts,n,rfl,ho,hc,hd,hi⟩:=t v af;rw[mapM_cons];refine aa ?_;rw[kas_first_eq];refine aa (Looks.here (show Looks (model prog w) s.heap (typeOf (.ref a)) o.cls from(Looks.ld ho).andThen .now) ?_)
  rw[hc,if_neg (by first|decide|simp)]
  refine aa (listItems_at ho hd (aj ?_));refine aa (J8 vs (Q:=λbs s'=>wpAny (model prog w) A (pure (ts.toArray[0]? ::bs)) Q E s') (λv hv=>t v (ai _ hv)) λfs hl hf=>aj (h _ (by simp[hl]) λf hm v hv=>?_))
  rcases mem_cons.mp hm with rfl|hm
  ·cases hi with
   |nil=>simp at hv
   |cons i t r=>
    simp at hv;exact⟨i,t,hv.symm⟩
  ·exact hf f hm v hv
def SS {vs:cx}{Q:SortKind->cA->Prop}(t:∀v∈vs,∃ns,TI s.heap v ns) (h:∀κ,(κ=tuples' true\/κ=tuples' false)\/κ=general'\/κ=oneType'->Q κ s):wpAny (model prog w) A (keyKind' vs.toArray) Q E s:=by
 rw[kat_kind_eq,mapM_toArray,map_eq_pure_bind];refine aa (aa (J8 vs t λfs hl hf=>aj ?_))
 split
 ·refine aa (wpAny_rule ?_);have hfm:∃l:cx,(fs.toArray.filterMap id)=l.toArray/\∀v∈l,∃i t,v=Value.int i t:=by
   refine⟨fs.filterMap id,by simp,λv hv=>?_⟩
   obtain⟨f,hm,he⟩:=mem_filterMap.mp hv;exact hf f hm v he
  obtain⟨l,e1,e2⟩:=hfm;rw[e1,oneTypeOnly'_eq,mapM_toArray,map_eq_pure_bind];refine aa (aa (aa (kas_mapM (r:=Value.type "int") _ (λv hv Q' hq=>?_) (aj ?_))))
  ·obtain⟨i,t',rfl⟩:=e2 v hv;exact aj hq
  ·have fin:∀b,Q (tuples' b) s:=λb=>by cases b<;>exact h _ (.inl (by first|exact .inl rfl|exact .inr rfl))
   split
   ·exact aj (aj (fin _))
   ·exact aj (aj (fin _))
 ·split
  ·exact aj (h _ (.inr (.inl rfl)))
  ·rw[oneTypeOnly'_eq,mapM_toArray,map_eq_pure_bind];refine aa (aa (aa (kas_mapM (r:=Value.type "tuple") _ (λv hv Q' hq=>?_) (aj ?_))))
   ·obtain⟨ns,a,o,ts,n,rfl,ho,hc,hd,hi⟩:=t v hv;have:=Looks.here (M:=model prog w) (A:=A) (E:=E) (show Looks (model prog w) s.heap (typeOf (.ref a)) o.cls from(Looks.ld ho).andThen .now) (Q:=Q')
    rw[hc]at this;exact this hq
   ·split
    ·refine aj (aj ?_);split
     ·exact h _ (.inr (.inr rfl))
     ·exact h _ (.inr (.inl rfl))
    ·exact aj (aj (h _ (.inr (.inl rfl))))
def XX {x y:cy}{ns ms:cp}{κ:SortKind}{Q:Bool->cA->Prop}(hx:TI s.heap x ns) (hy:TI s.heap y ms) (hu:A.units+8<cLine) (hκ:(κ=tuples' true\/κ=tuples' false)\/κ=general'\/κ=oneType') (h:Q (HT.lexLt ns ms) s):
  wpAny (model prog w) A (keyLt' κ x y) Q E s:=by
 obtain⟨a,o,ts,n,rfl,ho,hc,hd,hi⟩:=hx;obtain⟨a',o',ND,n',rfl,Mm,My,R7,DX⟩:=hy;have t1:IsTup s.heap a ts.toArray:=⟨o,ho,hc,n,hd⟩;have t2:IsTup s.heap a' ND.toArray:=⟨o',Mm,My,n',R7⟩;rcases hκ with hκ|rfl|rfl
 ·have key:∀b,wpAny (model prog w) A (keyLt' (tuples' b) (.ref a) (.ref a')) Q (λ_ _=>False) s:=λb=>by
   refine W.kat_lt ho hd Mm R7 ?_;have s1:ts.toArray.size=ns.length:=by rw[aq,hi.length]
   have s2:ND.toArray.size=ms.length:=by rw[aq,DX.length]
   refine L2.nT _ _ ns ms 0 _ (by simpa using hi) (by simpa using DX) (.inr trivial) ?_ h
   rw[s1,s2];by_cases h:ns.length<ms.length
   ·rw[if_pos h];exact aR h
   ·rw[if_neg h];exact aH h
  rcases hκ with rfl|rfl
  ·exact bO (key true) (λ_ _ x=>x) λ_ _ x=>x.elim
  ·exact bO (key false) (λ_ _ x=>x) λ_ _ x=>x.elim
 ·show wpAny (model prog w) A (oneLt' false (.ref a) (.ref a')) Q E s;refine kat_one _ _ (HT.ze t1 t2 (by simpa using hi) (by simpa using DX) (by omega) ?_)
  exact h
 ·rw[keyLt'_oneType,oneLt'_eq];simp only[if_true];refine aa (wpAny_cRoomFor (by omega) ?_)
  obtain⟨⟨cls,dd,data,sl⟩,DW,hc1,n1,hd1⟩:=t1;obtain⟨⟨TU,Qb,data2,Qc⟩,zf,vf,n2,hd2⟩:=t2;simp only at hc1 hd1 vf hd2;subst hc1 hd1 vf hd2;refine aa (wpAny_callSpecialIfBound?_slot ⟨_,DW,rfl⟩ PySem.F.slot_tuple_lt ?_);refine call_meets PySem.F.slot_tuple_lt ⟨_,DW,rfl⟩ PySem.F.entry_tuple_lt (PySem.F.args_tuple_lt_2 _ _) (HT.ub a a' ts.toArray ND.toArray n1 n2 dd Qb sl Qc ns ms (by simpa using hi) (by simpa using DX)) ⟨DW,zf,?_⟩
  exact bP h
end
end ST
namespace ST
open PySem.W DL SetTable L2
section
variable {prog:cC}{w:cD}{A:cE}{E:cf}{s:cA}
def BI (hh:A.handled=none) (hS:o3 w s.heap S es ep t) (XW:vs=(gJ w S ep es).toList.map (·.2)) (h2:vs.length<2) (h:∀D h' c tk,h'.get? D=some (seqObj "list" vs.toArray c)->s.heap.objs.size<=D->(∀b o,s.heap.get? b=some o->h'.get? b=some o)->Q (.ref D) {s with heap:=h',toks:=tk}):wpAny (model prog w) A (call (.builtin "sorted") [.ref S]) Q E s:=by
 have hlen:es.size=vs.length:=by rw[XW,ae,aN,o4]
 exact vw (λhh' k=>xV (hh'.trans hh) hS (by omega) λg tk acc keep tZ hg=>by rw[<-XW]at tZ;subst tZ;exact k g tk keep hg) h2 h
end
theorem FR {α β:Type}{R:α->cy->β->Prop}:∀(vs:cx),(∀v∈vs,∃a b,R a v b)->∃l:List (α×cy×β),vs=l.map (·.2.1)/\∀p∈l,R p.1 p.2.1 p.2.2
 |[],_=>⟨[],rfl,λp hp=>by cases hp⟩
 |v::vs,h=>by
  obtain⟨a,b,r⟩:=h v af;obtain⟨l,e,hl⟩:=FR vs λx hx=>h x (ai _ hx)
  refine⟨(a,v,b)::l,by rw[e];rfl,λp hp=>?_⟩
  rcases mem_cons.mp hp with rfl|hp
  ·exact r
  ·exact hl p hp
theorem FT:∀{ts:cx}{ns:cp},IntsAre ts ns->uR h ts (ns.map D.int)
 |_,_,.nil=>.nil
 |_,_,.cons n t r=>.cons (.int n t) (FT r)
def TI.ki (t:TI h v ns):KI h v (.tup (ns.map D.int)):=by
 obtain⟨a,o,ts,n,rfl,ho,hc,hd,hi⟩:=t;exact .tup ho hc hd (by simpa using FT hi)
instance:Nonempty D:=⟨.eU⟩
noncomputable def keyOf (h:Heap) (v:cy):D:=Classical.epsilon (KI h v)
def FU (k:KI h v d):keyOf h v=d:=(Classical.epsilon_spec (p:=KI h v) ⟨d,k⟩).inj k
def IA.keys {P:cy->Prop}{h:Heap}{es:List (Int×cy)}{ds:cw}(e:IA P h es ds):ds=es.map λx=>keyOf h x.2:=by
 refine ext_getElem? λi=>?_
 rw[av];cases hx:es[i]? with
 |none=>
  have:es.length<=i:=List.getElem?_eq_none_iff.mp hx;rw[getElem?_eq_none (by rw[<-e.1];exact this)];rfl
 |some x=>
  obtain⟨d,h1,h2⟩:=e.2 i x hx;rw[h1];exact congrArg some (FU h2.ki).symm
section
variable {X:Cx}
def LF {P:cy->Prop}{R0:cG->cp->Prop}{cM:cj}{σ:L2.St}{H:Hp}{s:cA}(I:Inv X cM σ H s) {S:cG}{ds:cw}{es:Array (Int×cy)}{ep:Nat}(hE:IA P s.heap es.toList ds)
  (htr:∀v,P v->∃(b:cG) (ns:cp),v=.ref b/\mB X.K H b (ns.map V.int)/\R0 b ns):
  ∃l:List (cG×cp),(gJ X.w S ep es).toList.map (·.2)=l.map (λp=>Value.ref p.1)/\(∀p∈l,(mB X.K H p.1 (p.2.map V.int)/\R0 p.1 p.2)/\TI s.heap (.ref p.1) p.2)/\(l.map λp=>D.tup (p.2.map D.int)).Perm ds:=by
 have zT:(gJ X.w S ep es).toList.Perm es.toList:=by
  unfold gJ;split
  ·exact CO _ es
  ·exact List.Perm.refl _
 obtain⟨l,e1,e2⟩:=FR (R:=λ(b:cG) v (ns:cp)=>v=.ref b/\(mB X.K H b (ns.map V.int)/\R0 b ns)/\TI s.heap v ns) ((gJ X.w S ep es).toList.map (·.2)) λv hv=>by
  obtain⟨e,he,rfl⟩:=mem_map.mp hv;obtain⟨i,hi⟩:=bo (zT.mem_iff.mp he);obtain⟨d,_,h2⟩:=hE.2 i e hi;obtain⟨b,ns,h3,h4,h40⟩:=htr _ h2.src;obtain⟨ts,r2,⟨o,ho,hc,n,hd⟩,_⟩:=I.tuple h4;exact⟨b,ns,h3,⟨h4,h40⟩,b,o,ts,n,h3,ho,hc,hd,intsAre_of r2⟩
 refine⟨l.map λp=>(p.1,p.2.2),?_,λp hp=>?_,?_⟩
 ·rw[e1,aV];exact bR λp hp=>(e2 p hp).1
 ·obtain⟨q,hq,rfl⟩:=mem_map.mp hp;obtain⟨a1,a2,a3⟩:=e2 q hq;exact⟨a2,by rw[<-a1];exact a3⟩
 ·have h5:(((gJ X.w S ep es).toList.map (·.2)).map (keyOf s.heap)).Perm ds:=by
   rw[aV,hE.keys];exact zT.map _
  rw[e1,aV]at h5;rw[aV];have h6:(l.map ((keyOf s.heap)∘λp=>p.2.1))=l.map ((λp:cG×cp=>D.tup (p.2.map D.int))∘λp=>(p.1,p.2.2)):=bR λp hp=>FU (e2 p hp).2.2.ki
  rw[<-h6];exact h5
def IL {P:cy->Prop}{R0:cG->cp->Prop}{cM:cj}{σ:L2.St}{H:Hp}{s:cA}(hc:X.calm=true) (hu:X.A.units+64<cLine) (I:Inv X cM σ H s) {S:cG}{ds:cw}(uJ:yr P (!X.w.params.followText "set-order") s.heap S ds) (hn:ds.length<64)
  (htr:∀v,P v->∃(b:cG) (ns:cp),v=.ref b/\mB X.K H b (ns.map V.int)/\R0 b ns) {Q:VK}
  (q:∀(D0:cG) (l:List (cG×cp)),H D0=none->(∀p∈l,R0 p.1 p.2)->(l.map (·.2)).Pairwise (λa b=>HT.lexLt b a=false)->(l.map λp=>D.tup (p.2.map D.int)).Perm ds->Q (.ref D0) (upd H D0 (.lst (l.map λp=>V.ref p.1)))):
  wpAny (model X.prog X.w) X.A (call (.builtin "sorted") [.ref S]) (EP X cM σ Q) X.xe s:=by
 obtain⟨o,es,ep,t,ho,hex,hd,W,hE,_,mn,XE⟩:=uJ.ex;have hAt:o3 X.w s.heap S es ep t:=⟨⟨o,ho,hex,hd⟩,W.fits,W.tb.rise,mn,XE⟩;obtain⟨l,e1,e2,e3⟩:=LF (S:=S) (ep:=ep) I hE htr;have hlen:l.length=ds.length:=by have:=e3.length_eq;rwa [ae]at this
 have hh:X.A.handled=none:=I.ok.hd hc;have aux:∀k:List (cG×cp),Vals (k.map λp=>V.ref p.1) (k.map λp=>Value.ref p.1):=λk=>by
  induction k with
  |nil=>exact .nil
  |cons p k ih=>exact .cons rfl ih
 by_cases h2:2<=l.length
 ·obtain⟨m,F⟩:=I.fr;have N:News X.base X.env.locals s.heap (my X.base s.heap X.env.locals):=yV;have aao:(l.map λp=>Value.ref p.1).length=l.length:=by rw[ae]
  refine sortedS (vs:=l.map λp=>Value.ref p.1) F N hh hAt e1.symm (by omega) (by omega) λD0 e0 h' tk F' N' fP xb=>?_
  have Fo:s.heap.get? D0=none:=Heap.get?_none_of_le xb;have rQ:=I.CC F' N' λ_ h=>.tail _ h
  have UZ:∀p∈l,TI h' (.ref p.1) p.2:=λp hp=>by
   obtain⟨a,o,ts,n,ea,ho,hc,hd,hi⟩:=(e2 p hp).2;cases ea;refine⟨_,o,ts,n,rfl,rQ _ o (λz=>?_) ho,hc,hd,hi⟩
   obtain⟨oL,es,ep,hL,Xc,_⟩:=F.ns;rw[z,hL]at ho;cases ho;rw[Xc]at hd;cases hd
  refine SS (s:={s with heap:=h',toks:=tk}) (λv hv=>?_) λκ hκ=>?_
  ·obtain⟨p,hp,rfl⟩:=mem_map.mp hv;exact⟨p.2,UZ p hp⟩
  rw[aao];have mE:∀i,i<l.length->(l.map λp=>Value.ref p.1).getD i Value.none=.ref (l.getD i (0,[])).1/\l.getD i (0,[])∈l:=λi hi=>by
   rw[ak,av,ak,ah hi];exact⟨rfl,getElem_mem hi⟩
  have g:∀k,k<l.length->(l.map (·.2)).getD k []=(l.getD k (0,[])).2:=λk hk=>by
   rw[ak,av,ak,ah hk];rfl
  refine zA h2 (by omega) (nss:=l.map (·.2)) (λi j R hi hj hR=>?_) λar pm below NF=>?_
  ·show wpAny _ _ (keyLt' _ ((l.map λp=>Value.ref p.1).getD i Value.none) ((l.map λp=>Value.ref p.1).getD j Value.none)) _ _ _
   rw[(mE i hi).1,(mE j hj).1];rw[g i hi,g j hj]at hR;exact XX (UZ _ (mE i hi).2) (UZ _ (mE j hj).2) (by show X.A.units+1+1+8<cLine;omega) hκ hR
  generalize pM:(ar.toList.map λi=>l.getD i (0,[]))=l'
  have lp:l'.Perm l:=by
   rw[<-pM];have:=pm.map λi=>l.getD i (0,[])
   have e:(List.range l.length).map (λi=>l.getD i (0,[]))=l:=gB l (0,[])
   rw[e]at this;exact this
  have outs:(ar.toList.map λi=>(l.map λp=>Value.ref p.1).getD i Value.none)=l'.map λp=>Value.ref p.1:=by
   rw[<-pM,aV];exact bR λi hi=>(mE i (below i hi)).1
  rw[outs];refine⟨_,_,F',N',.head λp hp=>aE (fP p hp),λh2 c F2 N2=>?_⟩
  have hD:H D0=none:=I.gk.fresh xb;refine⟨.ref D0,upd H D0 (.lst (l'.map λp=>V.ref p.1)),I.Uv (s:=s) (tk:=tk) (c:=c) hD Fo F F2 (I.CC F2 N2 λ_ h=>.tail _ h) (by rw[ae,lp.length_eq];omega) (aux l') (N2 _ (.head _)).1,rfl,q D0 l' hD (λp hp=>(e2 p (lp.mem_iff.mp hp)).1.2) ?_ ((lp.map _).trans e3)⟩
  rw[<-pM,aV];exact(bR λi hi=>(g i (below i hi)).symm)▸NF
 ·refine BI (vs:=l.map λp=>Value.ref p.1) hh hAt e1.symm (by rw[ae];omega) λD0 h' c tk hD xb keep=>?_
  have QS:H D0=none:=I.gk.fresh xb;refine⟨.ref D0,_,I.laid (t':=tk) (o:=.lst (l.map λp=>V.ref p.1)) keep xb ⟨by rw[ae];exact aD (by omega:l.length<=100) (by decide),_,c,aux l,hD⟩,rfl,q D0 l QS (λp hp=>(e2 p hp).1.2) ?_ e3⟩
  match l,h2 with
  |[],_=>exact List.Pairwise.nil
  |[p],_=>simp
  |_::_::_,h2=>exact absurd (by simp) h2
end
end ST
namespace L2
section
variable {κ:Type} [DecidableEq κ]
noncomputable def t5 (kvs:List (κ×V)) (k:κ):Option V:=(kvs.find? λkv=>decide (kv.1=k)).map (·.2)
noncomputable def putK (kvs:List (κ×V)) (k:κ) (v:V):List (κ×V):=
 if(kvs.any λkv=>decide (kv.1=k))=true then kvs.map (λkv=>if kv.1=k then(kv.1,v)else kv)else kvs++[(k,v)]
def r0 {p:κ×V}{r:List (κ×V)}{k:κ}(e:p.1=k):t5 (p::r) k=some p.2:=by simp[t5,find?_cons,e]
def r6 {p:κ×V}{r:List (κ×V)}{k:κ}(e:¬ p.1=k):t5 (p::r) k=t5 r k:=by simp[t5,find?_cons,e]
theorem FV (k:κ):∀kvs:List (κ×V),(kvs.any λkv=>decide (kv.1=k))=(t5 kvs k).isSome
 |[]=>rfl
 |p::r=>by
  rw[bF];by_cases e:p.1=k
  ·simp only[r0 e,aR e,Bool.true_or,Option.isSome_some]
  ·rw[r6 e,aH e,Bool.false_or];exact FV k r
def xW (kvs:List (κ×V)) (k:κ) (v:V):(putK kvs k v).length<=kvs.length+1:=by
 unfold putK;split
 ·rw[ae];omega
 ·rw[aQ,ay,length_nil];omega
def rF.LG (r:rF o u):o.isSome=u.isSome:=by
 cases o with
 |none=>cases u with
  |none=>rfl
  |some _=>exact(show False from r).elim
 |some _=>cases u with
  |none=>exact(show False from r).elim
  |some _=>rfl
theorem rF.getD (r:rF o u) (rd:RelV d d'):RelV (o.getD d) (u.getD d'):=by
 cases o with
 |none=>cases u with
  |none=>exact rd
  |some _=>exact(show False from r).elim
 |some _=>cases u with
  |none=>exact(show False from r).elim
  |some _=>exact r
def KV.val (r:KV kvs vs) (k:κ):rF (t5 kvs k) (valueAt vs k):=by
 unfold KV at r;induction r with
 |nil=>exact True.intro
 |@cons p q ps qs h t ih=>
  obtain⟨h1,h2⟩:=h;by_cases e:p.1=k
  ·have e':q.1=k:=h1.symm.trans e;have b:valueAt (q::qs) k=some q.2:=by simp[valueAt,find?_cons,e']
   rw[r0 e,b];exact h2
  ·have e':¬ q.1=k:=λz=>e (h1.trans z)
   have b:valueAt (q::qs) k=valueAt qs k:=by simp[valueAt,find?_cons,e']
   rw[r6 e,b];exact ih
theorem KV.any (r:KV kvs vs) (k:κ):(kvs.any λkv=>decide (kv.1=k))=vs.any λkv=>decide (kv.1=k):=by
 unfold KV at r;induction r with
 |nil=>rfl
 |cons h t ih=>rw[bF,bF,ih,h.1]
def KV.U0 (r:KV kvs vs) (k:κ) (ry:RelV y u):KV (kvs.map λkv=>if kv.1=k then(kv.1,y)else kv) (vs.map λkv=>if kv.1=k then(kv.1,u)else kv):=by
 unfold KV at r ⊢;induction r with
 |nil=>exact .nil
 |@cons p q ps qs h t ih=>
  rw[aF,aF];refine .cons ?_ ih;obtain⟨h1,h2⟩:=h;by_cases e:p.1=k
  ·rw[if_pos e,if_pos (h1.symm.trans e)];exact⟨h1,ry⟩
  ·rw[if_neg e,if_neg (λz=>e (h1.trans z))];exact⟨h1,h2⟩
def KV.put {kvs:List (κ×V)}{vs:List (κ×cy)}(r:KV kvs vs) (k:κ) {y:V}{u:cy}(ry:RelV y u):KV (putK kvs k y) (stored vs k u):=by
 unfold putK stored;rw[r.any k];by_cases e:(vs.any λkv=>decide (kv.1=k))=true
 ·rw[if_pos e,if_pos e];exact r.U0 k ry
 ·rw[if_neg e,if_neg e];exact Paired.snoc r ⟨rfl,ry⟩
def KV.keys {kvs:List (κ×V)}{vs:List (κ×cy)}(r:KV kvs vs):kvs.map (·.1)=vs.map (·.1):=by
 unfold KV at r;induction r with
 |nil=>rfl
 |cons h t ih=>rw[aF,aF,ih,h.1]
theorem KV.length {kvs:List (κ×V)}{vs:List (κ×cy)}(r:KV kvs vs):kvs.length=vs.length:=Paired.length r
end
def J9 (r:RelV (kV k) u):(fT P w).is k u=true:=by
 cases k with
 |inl i=>obtain⟨t,e⟩:=(show ∃t,u=Value.int i t from r);subst e;exact E7 P w i t
 |inr x=>obtain⟨t,e⟩:=(show ∃t,u=Value.str x t from r);subst e;exact E8 P w x t
theorem CP:∀{ks:List Key}{us:cx},Vals (ks.map kV) us->ItemsAre (fT P w) ks us
 |[],_,r=>by rw[map_nil]at r;cases r;exact .nil
 |k::ks,_,r=>by
  rw[aF]at r;cases r with
  |cons h t=>exact .cons (J9 h) (CP t)
abbrev KT (H:Hp):List (List Key×V)->List (List Key×cG×cy)->Prop:=Paired λp q=>p.1=q.1/\H q.2.1=some (.tup (p.1.map kV))/\RelV p.2 q.2.2
def KT.val (r:KT H kvs xs) (k:List Key):rF (t5 kvs k) ((atKey xs k).map (·.2)):=by
 induction r with
 |nil=>exact True.intro
 |@cons p q ps qs h t ih=>
  obtain⟨h1,_,h2⟩:=h;by_cases e:p.1=k
  ·have e':q.1=k:=h1.symm.trans e;have b:atKey (q::qs) k=some q.2:=by simp[atKey,find?_cons,e']
   rw[r0 e,b];exact h2
  ·have e':¬ q.1=k:=λz=>e (h1.trans z)
   have b:atKey (q::qs) k=atKey qs k:=by simp[atKey,find?_cons,e']
   rw[r6 e,b];exact ih
def KT.U0 (r:KT H kvs xs) (k:List Key) (ry:RelV y u):KT H (kvs.map λkv=>if kv.1=k then(kv.1,y)else kv) (xs.map (putAt k u)):=by
 induction r with
 |nil=>exact .nil
 |@cons p q ps qs h t ih=>
  rw[aF,aF];refine .cons ?_ ih;obtain⟨h1,h2,h3⟩:=h;unfold putAt;by_cases e:p.1=k
  ·rw[if_pos e,if_pos (h1.symm.trans e)];exact⟨h1,h2,ry⟩
  ·rw[if_neg e,if_neg (λz=>e (h1.trans z))];exact⟨h1,h2,h3⟩
def KT.put (r:KT H kvs xs) (k:List Key) (hb:H b=some (.tup (k.map kV))) (ry:RelV y u):KT H (putK kvs k y) (storedH xs k b u):=by
 have e:(kvs.any λkv=>decide (kv.1=k))=(atKey xs k).isSome:=by
  rw[FV,(r.val k).LG,Option.isSome_map]
 unfold putK storedH;rw[e];by_cases q:(atKey xs k).isSome=true
 ·rw[if_pos q,if_pos q];exact r.U0 k ry
 ·rw[if_neg q,if_neg q];exact Paired.snoc r ⟨rfl,hb,ry⟩
def KT.keeps (r:KT H kvs xs) (ht:∀b ys,H b=some (.tup ys)->H' b=some (.tup ys)):KT H' kvs xs:=
 Paired.Ti r λ_ _ z=>⟨z.1,ht _ _ z.2.1,z.2.2⟩
section
variable {P:cC}{w:cD}{H:Hp}{h:Heap}{a:cG}
def SU (ok:ua P w H h) (e:Rd H a u):gO P w H h a u:=e.ok ok
def Ox (ok:ua P w H h) (e:Rd H a (.dK kvs)):kvs.length<=sizeLine/\(a==sysModules)=false/\∃vs,KV kvs vs/\h.DictOf (fT P w) a vs:=
 show gO P w H h a (.dK kvs)from SU ok e
def SV (ok:ua P w H h) (e:H a=some (.dK kvs)):kvs.length<=sizeLine/\(a==sysModules)=false/\∃vs,KV kvs vs/\h.DictOf (fT P w) a vs:=Ox ok (.inl e)
def IM (ok:ua P w H h) (e:H a=some (.tup (ks.map kV))):(tupleKind (fT P w)).is h ks a:=by
 obtain⟨_,dE,r,o,h1,h2,n,h3⟩:=(show gO P w H h a (.tup (ks.map kV))from ok a _ e)
 exact⟨o,dE.toArray,n,h1,h2,h3,by simpa using CP r⟩
def Oy (ok:ua P w H h) (e:Rd H a (.dT kvs)):kvs.length<=sizeLine/\(a==sysModules)=false/\
  ∃xs,KT H kvs xs/\h.DictOfH (tupleKind (fT P w)) a xs:=by
 obtain⟨z,y,xs,r,o,es,ep,h1,h2,h3,h4,h5⟩:=(show gO P w H h a (.dT kvs)from SU ok e)
 refine⟨z,y,xs,r,o,es,ep,h1,h2,h3,h4,λx hx=>?_,h5⟩
 have all:∀{l:List (List Key×V)}{m:List (List Key×cG×cy)},KT H l m->∀x∈m,(tupleKind (fT P w)).is h x.1 x.2.1:=by
  intro l m q;induction q with
  |nil=>intro x hx;exact nomatch hx
  |@cons p q ps qs hq t ih=>
   intro x hx;rcases mem_cons.mp hx with e|hx
   ·subst e;exact IM ok (by rw[<-hq.1];exact hq.2.1)
   ·exact ih x hx
 exact all r x hx
def XY {kvs:List (List Key×V)}(ok:ua P w H h) (e:H a=some (.dT kvs)):kvs.length<=sizeLine/\(a==sysModules)=false/\
  ∃xs,KT H kvs xs/\h.DictOfH (tupleKind (fT P w)) a xs:=Oy ok (.inl e)
end
def Oz (H:Hp) (a:cG) (y:V) (r:Option V):Prop:=
 (∃kvs k,Rd H a (.dK kvs)/\y=kV k/\r=t5 kvs k)\/∃kvs k b,Rd H a (.dT kvs)/\y=.ref b/\H b=some (.tup (k.map kV))/\r=t5 kvs k
def OA (H:Hp) (a:cG) (y v:V) (H':Hp):Prop:=
 (∃kvs k,H a=some (.dK kvs)/\y=kV k/\kvs.length<sizeLine/\H'=upd H a (.dK (putK kvs k v)))\/
 ∃kvs k b,H a=some (.dT kvs)/\y=.ref b/\H b=some (.tup (k.map kV))/\kvs.length<sizeLine/\H'=upd H a (.dT (putK kvs k v))
theorem Oz.k {H:Hp}{a:cG}{kvs:List (Key×V)}{k:Key}(e:H a=some (.dK kvs)):Oz H a (kV k) (t5 kvs k):=.inl ⟨kvs,k,.inl e,rfl,rfl⟩
theorem OA.k {H:Hp}{a:cG}{kvs:List (Key×V)}{k:Key}{v:V}(e:H a=some (.dK kvs)) (hl:kvs.length<sizeLine):OA H a (kV k) v (upd H a (.dK (putK kvs k v))):=.inl ⟨kvs,k,e,rfl,hl,rfl⟩
section
variable {X:Cx}{cM:cj}{σ:St}{H:Hp}{s:cA}{a:cG}{y v:V}{u r:cy}{A:cE}{E:cf}
def Inv.big (I:Inv X cM σ H s):sysModules<s.heap.objs.size:=by
 have h:mainGlobals<s.heap.objs.size:=(I.mod.glob.keeps I.bk).lt;exact bG (by decide) h
def Ka (I:Inv X cM σ H s) (mu:VU (H a)) (hs:Heap.SameBut a s.heap h') (he:∃q,h'.get? a=some q) (new:gO X.prog X.w (upd H a ob) h' a ob):Inv X cM σ (upd H a ob) {s with heap:=h',toks:=t'}:=
 I.write (x:=a) (e:=a) mu (.inl rfl) (λb q hb z=>(hs.2 b hb).trans z) he new
def U1 (z:kvs.length<=sizeLine) (hd:(a==sysModules)=false) (rel:KV kvs vs) (dd:h'.DictOf (fT P w) a vs):gO P w H' h' a (.dK kvs):=⟨z,hd,vs,rel,dd⟩
def LH {H':Hp}{Q:Unit->cA->Prop}(hu:A.units+1<cLine) (I:Inv X cM σ H s) (g:OA H a y v H') (ry:RelV y u) (rv:RelV v r) (h:∀s',Inv X cM σ H' s'->Q () s'):
  wpAny (model X.prog X.w) A (setItem (.ref a) u r) Q E s:=by
 rcases g with⟨kvs,k,e,ey,l,eH⟩|⟨kvs,k,b,e,ey,eb,l,eH⟩
 ·subst ey eH;obtain⟨z,hd,vs,rel,dd⟩:=SV I.gk e;have hz:vs.length<=sizeLine:=by rw[<-rel.length];exact z
  have hl:(putK kvs k v).length<=sizeLine:=by have:=xW kvs k v;omega
  refine wpAny_setItem_pairs (hsz:=hz) (J9 ry) dd λh' YS hs=>h _ ?_
  have he:∃q,h'.get? a=some q:=let ⟨q,_,_,hq,_⟩:=YS;⟨q,hq⟩;exact Ka I (by rw[e];exact True.intro) hs he (U1 hl hd (rel.put k rv) YS)
 ·subst ey eH;cases (show u=Value.ref b from ry)
  obtain⟨z,hd,xs,rel,dd⟩:=XY I.gk e;have hz:xs.length<=sizeLine:=by rw[<-Paired.length rel];exact z
  have hl:(putK kvs k v).length<=sizeLine:=by have:=xW kvs k v;omega
  refine wpAny_setItem_heap (hsz:=hz) (tupleKind_room_in1 hu) (IM I.gk eb) dd λh' YS hs=>h _ ?_
  obtain⟨q,es,ep,hq,h2,h3,h4,_,h5⟩:=YS;refine Ka I (by rw[e];exact True.intro) hs ⟨q,hq⟩ ⟨hl,hd,_,(rel.put k eb rv).keeps λc ys ec=>?_,q,es,ep,hq,h2,h3,h4,h5⟩
  rw[dg (VT ec e (λz=>nomatch z))]
  exact ec
end
def aap (i:cH):Prop:=∀ov iv,subscripted i false ov iv=operate [ov,iv] (getItem ov iv)
def Rw {prog:cC}{w:cD}{A:cE}{E:cf}{s:cA}{env:Env}{value slice:cH}{pos:Pos}{T id:String}{Q:cf}
  (hl:typeLookup (.type T) "__getitem__"=pure (some (.builtin id))) (hs:aap slice)
  (h:wpAny (model prog w) A (eval value env) (λo s₁=>wpAny (model prog w) A (eval slice env) (λi s₂=>s₂.TypeIs o T/\wpAny (model prog w) A (getItem o i) Q E s₂) E s₁) E s):
  wpAny (model prog w) A (eval (.Subscript value slice pos) env) Q E s:=by
 refine Subscript_ (bO h (λo s₁ h₁=>bO h₁ (λi s₂ h₂=>?_) λ_ _ x=>x) λ_ _ x=>x)
 obtain⟨hT,h₂⟩:=h₂;unfold subscriptTail;refine aa ?_;rw[getitemInPython_of_ne hT.not_modules];refine aa (wpAny_specialOf hT hl ?_);have fin:wpAny (model prog w) A (subscripted slice false o i) (λr s₃=>wpAny (model prog w) A (letTemporaryGo value o r>>=λ_=>pure r) Q E s₃) E s₂:=by
  rw[hs o i];exact wpAny_operating (bO h₂ (λr s₃ h₃=>aa (wpAny_letTemporaryGo (aj h₃))) λ_ _ x=>x)
 first
  |exact aj (aa fin)
  |exact aa (aj (aa fin))
  |exact aa fin
noncomputable def XZ (td ty tv:TE):TS:=λD σ H=>tv σ H λv H1=>td σ H1 λx H2=>ty σ H2 λy H3=>∃a H4,x=.ref a/\OA H3 a y v H4/\D.nx σ H4
section
variable {X:Cx}{o i value:cH}{pos pos':Pos}{td ty tv:TE}
def Rx (hu:X.A.units+1<cLine) (ho:PE X o td) (hi:PE X i ty) (hv:PE X value tv) (hs:swapsWith value (some (.Subscript o i pos')) pos.line X.env=pure false):
  PS X (.Assign [.Subscript o i pos'] value pos) (XZ td ty tv):=by
 intro cM s σ H D I h;refine wpAny_Assign_Subscript (g7 (hv cM s σ H _ I h) λr s1 ⟨v,H1,I1,rv,q1⟩=>g7 (ho cM s1 σ H1 _ I1 q1) λu s2 ⟨x,H2,I2,rx,q2⟩=>g7 (hi cM s2 σ H2 _ I2 q2) λiv s3 ⟨y,H3,I3,ry,a,H4,ex,g,q3⟩=>?_) hs
 subst ex;obtain rfl:u=Value.ref a:=rx;exact LH hu I3 g ry rv λs4 I4=>⟨σ,H4,I4,q3⟩
end
def OB (h:Heap) (hb:sysModules<h.objs.size):gO P w H (h.push {cls:=.type "dict",data:=.dict #[]}) h.objs.size (.dK []):=
 ⟨bK _,beq_eq_false_iff_ne.mpr (Ne.symm (aE hb)),[],.nil,Heap.DictOf.new h⟩
def U2:TE:=λ_ H Q=>∀p,H p=none->Q (.ref p) (upd H p (.dK []))
section
variable {X:Cx}{pos:Pos}
def OD:PE X (.Dict [] [] pos) U2:=λcM s σ H Q I h=>
 wpAny_Dict_empty ⟨.ref s.heap.objs.size,_,I.laid (a:=s.heap.objs.size) (o:=.dK []) (t':=s.toks) (λ_ _ q=>ag _ q) (au _) (OB s.heap I.big),rfl,h _ (I.gk.fresh (au _))⟩
end
structure M2 (X:Cx) (o:cH) (m:Str) (apos:Pos) (e f:cH) (gP:Pos):Prop where
 base:attributeBase o m X.env (eval o X.env)=eval o X.env
 vR:((backTo gP (starEach [e,f] X.env)).all (λx=> !x.1)&&(backToKw gP (keywordEach [] X.env)).all (λx=>x.1.isSome)
  &&decide (([e,f]:List cH).length+([]:List Keyword).length+(if([]:List Keyword).isEmpty then 0 else 1)<30))=true
 line:(apos.endLine==gP.line)=true
 trees:backTo gP (starEach [e,f] X.env)=[(false,eval e X.env),(false,eval f X.env)]
def IsD (H:Hp) (a:cG):Prop:=(∃kvs,Rd H a (.dK kvs))\/∃kvs,Rd H a (.dT kvs)
def U3 {X:Cx}{cM:cj}{σ:St}{H:Hp}{s:cA}{a:cG}(I:Inv X cM σ H s) (d:IsD H a):
  s.TypeIs (.ref a) "dict"/\(∀b,Value.ref a=.ref b->∃ob,s.heap.get? b=some ob/\ob.dict=none)/\(a==sysModules)=false:=by
 rcases d with⟨kvs,e⟩|⟨kvs,e⟩
 ·obtain⟨_,hd,vs,_,dd⟩:=Ox I.gk e;refine⟨dd.typeIs,λb q=>?_,hd⟩
  cases q;obtain⟨ob,_,_,h1,h2,_⟩:=dd;exact⟨ob,h1,h2.2.1⟩
 ·obtain⟨_,hd,xs,_,dd⟩:=Oy I.gk e;refine⟨dd.typeIs,λb q=>?_,hd⟩
  cases q;obtain⟨ob,_,_,h1,h2,_⟩:=dd;exact⟨ob,h1,h2.2.1⟩
section
variable {X:Cx}{cM:cj}{σ:St}{H:Hp}{s:cA}{a:cG}{y d:V}{u r:cy}{o:Option V}{A:cE}{E:cf}
theorem U4 (hu:A.units+1<cLine) (I:Inv X cM σ H s) (g:Oz H a y o) (ry:RelV y u) (rd:RelV d r) (h:∀w' s',Inv X cM σ H s'->RelV (o.getD d) w'->Q w' s'):wpAny (model X.prog X.w) A (call (.builtin "dict.get") [.ref a,u,r]) Q E s:=by
 rcases g with⟨kvs,k,e,ey,l⟩|⟨kvs,k,b,e,ey,eb,l⟩
 ·subst ey;obtain⟨z,hd,vs,rel,dd⟩:=Ox I.gk e;refine call_meetsIn PySem.F.slot_dict_get dd.typeIs PySem.F.entry_dict_get (PySem.F.args_dict_get_3 _ _ _) (meets_dict_get_default (fT X.prog X.w) a (J9 ry) hd r) ⟨_,dd.mapOf,h _ _ (I.tok _) ?_⟩;rw[l];exact(rel.val k).getD rd
 ·subst ey;cases (show u=Value.ref b from ry)
  obtain⟨z,hd,xs,rel,dd⟩:=Oy I.gk e;refine call_meetsIn PySem.F.slot_dict_get dd.typeIs PySem.F.entry_dict_get (PySem.F.args_dict_get_3 _ _ _) (meetsH_dict_get_default (tupleKind (fT X.prog X.w)) a b hd r) ⟨tupleKind_room_in1 hu,k,xs,IM I.gk eb,dd,h _ _ (I.tok _) ?_⟩;rw[l];exact(rel.val k).getD rd
end
noncomputable def U5 (td ty tx:TE):TE:=λσ H Q=>td σ H λx H1=>∃a,x=.ref a/\IsD H1 a/\ty σ H1 λy H2=>tx σ H2 λz H3=>∃o,Oz H3 a y o/\Q (o.getD z) H3
section
variable {X:Cx}{o e f:cH}{apos gP:Pos}{td ty tx:TE}
def OE (hu:X.A.units+1<cLine) (ho:PE X o td) (he:PE X e ty) (hf:PE X f tx) (m:M2 X o "get" apos e f gP):PE X (.Call (.Attribute o "get" apos) [e,f] [] gP) (U5 td ty tx):=by
 intro cM s σ H Q I h;refine wpAny_Call_method m.base m.vR m.line PySem.F.plainAttrs_dict PySem.F.slot_dict_get PySem.F.type_dict_get (g7 (ho cM s σ H _ I h) λu s1 ⟨x,H1,I1,rx,a,ex,d,q1⟩=>?_)
 subst ex;obtain rfl:u=Value.ref a:=rx;obtain⟨t1,t2,_⟩:=U3 I1 d;refine⟨t1,t2,?_⟩;rw[m.trees];refine Calls.callWith_builtin rfl (Calls.evalArgs_plain (Calls.spliced_cons (g7 (he cM s1 σ H1 _ I1 q1) λiv s2 ⟨y,H2,I2,ry,q2⟩=>
  Calls.spliced_cons (g7 (hf cM s2 σ H2 _ I2 q2) λfv s3 ⟨z,H3,I3,rz,ov,g,q3⟩=>Calls.spliced_nil ?_))))
 exact U4 hu I3 g ry rz λw' s4 I4 QI=>⟨_,H3,I4,QI,q3⟩
end
noncomputable abbrev o5:Scope:={kind:=.function,names:=[(Str.ofString "point",.local),(Str.ofString "uses",.free)],isGenerator:=false,isCoroutine:=false,more:=[]}
noncomputable abbrev qe (p:Pos):Arguments:={posonlyargs:=[],args:=[{arg:="point",annotation:=none,pos:=p}],vararg:=none,kwonlyargs:=[],kw_defaults:=[],kwarg:=none,defaults:=[]}
noncomputable abbrev lG (pu pp pS pU IP pT:Pos):cH:=.Tuple [.UnaryOp .USub (.Subscript (.Name "uses" pu) (.Name "point" pp) pS) pU,.Name "point" IP] 0 pT
section
variable {prog:cC}{w:cD}{A:cE}{E:cf}{s:cA}{f c' a cell:cG}{qual:Str}{pm BJ:cy}{pa pu pp pS pU IP pT:Pos}{vs:List (Key×cy)}{p n:Int}{t tn:Tok}
theorem FW (j7:A.depth<recursionLimit) (hf:s.heap.get? f=some (W.kla_obj "<lambda>" qual (qe pa) (lG pu pp pS pU IP pT) o5 [(Str.ofString "uses",cell)] pm c' BJ)) (yX:s.heap.CodeRec (.ref c') qual) (Uh:s.heap.NoLimit) (u9:s.heap.IsCell cell (some (.ref a))) (dd:s.heap.DictOf (fT prog w) a vs) (hv:valueAt vs (.inl p)=some (.int n tn)) (h:∀T h' tk VQ,h'.get? T=some {cls:=.type "tuple",data:=.seq #[.int (-n) VQ,.int p t]}->(∀b o,s.heap.get? b=some o->h'.get? b=some o)->s.heap.objs.size<=T->Q (.ref T) {s with heap:=h',toks:=tk}):wpAny (model prog w) A (call (.ref f) [.int p t]) Q E s:=by
 refine wpAny_call (W.kla_callFunE j7 hf rfl rfl rfl rfl yX ?_);have hb:bindArgs (W.kla_fn "<lambda>" qual (qe pa) (lG pu pp pS pU IP pT) o5 [(Str.ofString "uses",cell)] pm (.ref c') BJ) ⟨[.int p t],[]⟩=pure [(Str.ofString "point",.int p t)]:=rfl;rw[hb];refine aj (wpAny_newFunctionEnv (show ∀x∈o5.names,x.2≠.cell by decide) (by intro x hx;simp at hx;subst hx;rfl) (λh₁ M7 Qg=>⟨Uh.fresh _ Qg,?_⟩) rfl)
 have hk₁:∀b o,s.heap.get? b=some o->h₁.get? b=some o:=λb o e=>Qg.extBut b o (aE (aB e)) (ag _ e)
 have hsz:s.heap.objs.size<=h₁.objs.size:=bg M7.lt;refine W.kla_codeExpr ?_;generalize hL:s.heap.objs.size=L at *;show wpAny (model prog w) (A.deeper (W.envX qual o5 L f (.ref c') [(Str.ofString "uses",cell)])) (eval (lG pu pp pS pU IP pT) (W.envX qual o5 L f (.ref c') [(Str.ofString "uses",cell)])) _ _ {s with heap:=h₁,toks:=s.toks+1}
 generalize hA:A.deeper (W.envX qual o5 L f (.ref c') [(Str.ofString "uses",cell)])=A';generalize s.toks+1=tk₁;refine wpAny_Tuple_spliced ?_;refine Calls.spliced_cons (UnaryOp_ (Rw PySem.F.slot_dict_getitem.lookup (λ_ _=>rfl) ?_))
 have dd₁:h₁.DictOf (fT prog w) a vs:=by obtain⟨o,es,ep,e,r⟩:=dd;exact⟨o,es,ep,hk₁ _ _ e,r⟩
 refine wpAny_Name (wpAny_loadName_free rfl rfl rfl (u9.keeps hk₁) ?_) (by decide)
 refine wpAny_Name (wpAny_loadName_local rfl rfl M7 rfl ?_) (by decide)
 refine⟨dd₁.mapOf.typeIs,wpAny_getItem_of (k:=Sum.inl p) (J9 (k:=Sum.inl p) (u:=.int p t) ⟨t,rfl⟩) dd₁.mapOf hv ?_⟩;refine neg_int ?_;refine Calls.spliced_cons (wpAny_Name (wpAny_loadName_local rfl rfl M7 rfl ?_) (by decide))
 refine Calls.spliced_nil ⟨by show(2:Nat)<=_;decide,?_⟩
 refine h _ _ _ _ (az _ rfl) (λb o e=>ag _ (hk₁ b o e)) ?_
 exact hsz
end
end L2
namespace L2
open PySem.W PySem.Calls
section
variable {prog:cC}{w:cD}{A:cE}{E:cf}{s:cA}{K:Type} [DecidableEq K] {knd:KeyKind prog w K}{d:cG}{kvs:List (K×cy)}{ep:Nat}
theorem vS {Q:cx->cA->Prop}(hh:A.handled=none) (lo:(d==sysModules)=false) (hm:s.heap.DictAt knd d kvs ep) (hn:kvs.length<=sizeLine)
  (hQ:∀h' tk (acc:cx),(∀b o,s.heap.get? b=some o->h'.get? b=some o)->acc.length=kvs.length->(∀(j:Nat) v,acc[j]? =some v->∃k x,kvs[j]? =some (k,x)/\knd.is k v=true)->s.heap.objs.size<h'.objs.size->Q acc {s with heap:=h',toks:=tk}):wpAny (model prog w) A (collect (.ref d)) Q E s:=by
 unfold collect;refine aa (wpAny_runValue (codeAny_builtin PySem.F.entry_proto_collect ?_));rw[bW PySem.F.plain_proto_collect _];show wpAny _ A.in1 (newList []>>=λl=>again (.builtin "list.__iadd__" ⟨[l,.ref d],[]⟩)) _ _ s
 refine aa (bQ ?_);refine aj ⟨plainId_quiet PySem.F.plain_list_iadd _,codeAny_builtin PySem.F.entry_list_iadd ?_⟩;rw[bW PySem.F.plain_list_iadd _];have hS:(s.heap.push {cls:=.type "list",data:=.seq ([]:cx).toArray}).get? s.heap.objs.size=some {cls:=.type "list",data:=.seq #[]}:=az _ rfl;have fP:=hm.lt_size;show wpAny _ A.in1 (Builtin.List.listExtendWith (.ref s.heap.objs.size) (.ref d) (.ref s.heap.objs.size)) _ _ _;have key:=kdl_extend (A:=A) (s:={s with heap:=s.heap.push {cls:=.type "list",data:=.seq ([]:cx).toArray}}) (R:=λr s'=>∃h' tk mF c',r=.ok (.ret (.ref s.heap.objs.size))/\s'={s with heap:=h',toks:=tk}/\(∀b o,b≠s.heap.objs.size->(s.heap.push {cls:=.type "list",data:=.seq ([]:cx).toArray}).get? b=some o->h'.get? b=some o)/\h'.get? s.heap.objs.size=some {cls:=.type "list",dict:=none,data:=.seq mF c',slots:=#[]}/\ItemsOf (λi v=>∃k x,kvs[i]? =some (k,x)/\knd.is k v=true) mF kvs.length)
  (kdl_dict (knd:=knd) (kvs:=kvs) (ep:=ep) lo) hh (hm.push _) s.heap.objs.size (bw fP) (bw fP) (.ref s.heap.objs.size) 0 hS (λh' tk mF c' hk Rt tZ=>⟨h',tk,mF,c',rfl,rfl,hk,Rt,tZ⟩) hn
 have fin:∀(h':Heap) tk mF c',(∀b o,b≠s.heap.objs.size->(s.heap.push {cls:=.type "list",data:=.seq ([]:cx).toArray}).get? b=some o->h'.get? b=some o)->h'.get? s.heap.objs.size=some {cls:=.type "list",dict:=none,data:=.seq mF c',slots:=#[]}->ItemsOf (λi v=>∃k x,kvs[i]? =some (k,x)/\knd.is k v=true) mF kvs.length->Q mF.toList {s with heap:=h',toks:=tk}:=λh' tk mF c' hk Rt tZ=>
  hQ h' tk mF.toList (λb o e=>hk b o (aE (aB e)) (ag _ e)) (by rw[aN];exact tZ.1) (λj v e=>tZ.2 j v (by rw[<-Array.getElem?_toList];exact e)) (aB Rt)
 refine bO key (λr s' hr=>?_) λe s' hr=>?_
 ·cases r with
  |done f=>
   obtain⟨h',tk,mF,c',e1,e2,e3,e4,e5⟩:=hr;cases e1;subst e2;exact aa (wpAny_load e4 (aj (fin h' tk mF c' e3 e4 e5)))
  |again c=>
   refine⟨hr.1,codeAny_mono hr.2 λr s' hr=>?_⟩
   obtain⟨h',tk,mF,c',e1,e2,e3,e4,e5⟩:=hr;cases e1;subst e2;exact aa (wpAny_load e4 (aj (fin h' tk mF c' e3 e4 e5)))
 ·obtain⟨h',tk,mF,c',e1,_⟩:=hr;cases e1
end
section
variable {prog:cC}{w:cD}{A:cE}{E:cf}{s:cA}{K:Type} [DecidableEq K] {knd:KeyKind prog w K}{d:cG}{kvs:List (K×cy)}{ep:Nat}
 {h₀:Heap}{L:cG}{m:cg}{news:cj}{f:cG}
theorem Ry {Q:cf}(F:Fr h₀ L s.heap m) (N:News h₀ L s.heap news) (hh:A.handled=none) (lo:(d==sysModules)=false) (hm:s.heap.DictAt knd d kvs ep) (h2:2<=kvs.length) (xS:kvs.length<64)
  (h:∀(vs:cx) D kS e1 h' tk,vs.length=kvs.length->(∀(j:Nat) v,vs[j]? =some v->∃k x,kvs[j]? =some (k,x)/\knd.is k v=true)->Fr h₀ L h' m->News h₀ L h' ((kS,seqObj "list" #[] 0)::(D,seqObj "list" #[] e1)::news)->D<kS->(∀q∈news,q.1<D)->s.heap.objs.size<=D->
   KatKeys prog w A.in1.in1 h₀ L m kS (.ref f) (λks e s'=>wpAny (model prog w) A.in1.in1 (keyKind' (toArray ks)) (λκ Ff=>(kas_sort vs.length).kasWp (kas_ask prog w A.in1.in1 κ ks) (λp s3=>KatFin h₀ L m kS D ks e e1 (p.toList.map λi=>vs.getD i Value.none) (λs4=>Q (.ref D) s4) s3) Ff) (λ_ _=>False) s') vs [] 0 {s with heap:=h',toks:=tk}):
  wpAny (model prog w) A (call (.builtin "sorted") [.ref d] [(Str.ofString "key",.ref f)]) Q E s:=by
 refine call_function_entry_kw kind_sorted plain_sorted entry_sorted (ksk_s1 _ _) ?_;unfold Builtin.«sorted»;refine aa (m:=checkCount "sorted" 1 1 _) (aj ?_);refine aa (vS hh lo hm (by rw[bu];omega) λg tk vs keep hl hv hg=>?_)
 refine aa (wpAny_newList ?_ (by rw[bu];omega))
 have E9:(g.push (seqObj "list" vs.toArray 0)).get? g.objs.size=some (seqObj "list" vs.toArray 0):=az _ rfl;have oY:∀b o,s.heap.get? b=some o->(g.push (seqObj "list" vs.toArray 0)).get? b=some o:=λb o q=>ag _ (keep b o q)
 have hL:L<s.heap.objs.size:=F.ns.lt;refine aa (bj (wpAny_call_entry_kw slot_list_sort ⟨_,E9,rfl⟩ entry_list_sort ?body (ksk_l1 _ _)))
 case body=>
  show wpAny (model prog w) A.in1.in1 (Builtin.«list.sort» ⟨[.ref g.objs.size],[(Str.ofString "key",.ref f)]⟩) _ _ _;rw[ksk_t1];refine kat_keyed (b:=false) (s:={s with heap:=g.push (seqObj "list" vs.toArray 0),toks:=tk}) (F.kept oY) (N.grown oY) E9 (bw (bG hL hg)) (Heap.get?_none_of_le (aD F.above (bg (bG hL hg))))
   (λp hp=>aE (bG (aB (N p hp).1) hg)) (by omega) (by omega) λkS e1 h' F' N' l0 l1=>?_
  refine kat_keys_mono (h vs g.objs.size kS e1 h' tk hl hv F' N' l0 (λq hq=>bG (aB (N q hq).1) hg) (bg hg)) λks e s' pM hd=>?_
  have La:ks.length=vs.length:=by simpa using pM
  refine bO hd (λκ Ff hk=>?_) λ_ _ x=>x
  have er:∀{α:Type}(l:List α),katRev false l=l:=λ_=>rfl
  rw[er,er,kat_ask_eq La];rw[kat_ask_eq La]at hk;refine kas_wp_mono hk λp s3 rB=>?_
  rw[er];exact rB.mono λs4 hq=>⟨_,rfl,aj ⟨_,rfl,hq⟩⟩
end
section
variable {prog:cC}{w:cD}{A:cE}{E:cf}{s:cA}{f:cG}
theorem LI {T:Heap}{a:cG}{v:cy}{tk:Nat}{Q:cf}(o1:T.get? a=some (seqObj "list" #[v] 0))
  (OF:∀g:Heap,(∀b o,b≠a->T.get? b=some o->g.get? b=some o)->wpAny (model prog w) A.in1 (call (.ref f) [v]) (λ_ s'=>∃h' rE,s'={s with heap:=h',toks:=rE}/\∀b o,g.get? b=some o->h'.get? b=some o) (λ_ _=>False) {s with heap:=g,toks:=tk})
  (h:∀h' c rE,h'.get? a=some (seqObj "list" #[v] c)->(∀b o,b≠a->T.get? b=some o->h'.get? b=some o)->Q .none {s with heap:=h',toks:=rE}):
  wpAny (model prog w) A (call (.builtin "list.sort") [.ref a] [(Str.ofString "key",.ref f)]) Q E {s with heap:=T,toks:=tk}:=by
 have ha:a<T.objs.size:=aB o1;refine wpAny_call_entry_kw slot_list_sort ⟨_,o1,rfl⟩ entry_list_sort ?_ (ksk_l1 _ _);show wpAny (model prog w) A.in1 (Builtin.«list.sort» ⟨[.ref a],[(Str.ofString "key",.ref f)]⟩) _ _ _;rw[ksk_t1];unfold ksk_tree;refine aa (listItems_at o1 rfl (aa (listUpdate_at o1 rfl ?_ (hsz:=by show(1:Nat)<=_;rw[bu];decide) (hsz2:=bK _))))
 obtain⟨e1,DW⟩:∃e1,(T.update a (Obj.mapSeq λ_=>#[])).get? a=some (seqObj "list" #[] e1):=⟨_,get?_update_seq o1 (λ_=>#[])⟩
 refine aa (seqEpoch_at DW rfl (aa (wpAny_newTuple (aa (wpAny_newList (bj ?_))) (by show(1:Nat)<=_;rw[bu];decide))))
 have kp1:∀b o,b≠a->T.get? b=some o->(((T.update a (Obj.mapSeq λ_=>#[])).push (seqObj "tuple" #[v] 0)).push (seqObj "list" #[] 0)).get? b=some o:=λb o hb e=>ag _ (ag _ ((bx _ _ (Ne.symm hb)).trans e))
 have oa:(((T.update a (Obj.mapSeq λ_=>#[])).push (seqObj "tuple" #[v] 0)).push (seqObj "list" #[] 0)).get? a=some (seqObj "list" #[] e1):=ag _ (ag _ DW)
 have ok:(((T.update a (Obj.mapSeq λ_=>#[])).push (seqObj "tuple" #[v] 0)).push (seqObj "list" #[] 0)).get? ((T.update a (Obj.mapSeq λ_=>#[])).push (seqObj "tuple" #[v] 0)).objs.size=some (seqObj "list" #[] 0):=az _ rfl
 have hak:a≠((T.update a (Obj.mapSeq λ_=>#[])).push (seqObj "tuple" #[v] 0)).objs.size:=by rw[size_push',Heap.size_update];exact aE (Nat.lt_succ_of_lt ha)
 have hkT:T.objs.size<=((T.update a (Obj.mapSeq λ_=>#[])).push (seqObj "tuple" #[v] 0)).objs.size:=by rw[size_push',Heap.size_update];exact Nat.le_succ _
 show wpAny (model prog w) A.in1 (ksk_rest a (.ref f) false #[v] e1 (.ref ((T.update a (Obj.mapSeq λ_=>#[])).push (seqObj "tuple" #[v] 0)).objs.size)) _ _ {s with heap:=((T.update a (Obj.mapSeq λ_=>#[])).push (seqObj "tuple" #[v] 0)).push (seqObj "list" #[] 0),toks:=tk}
 generalize ((T.update a (Obj.mapSeq λ_=>#[])).push (seqObj "tuple" #[v] 0)).objs.size=kS at *
 generalize (((T.update a (Obj.mapSeq λ_=>#[])).push (seqObj "tuple" #[v] 0)).push (seqObj "list" #[] 0))=U at *
 unfold ksk_rest;refine aa (wpAny_rule ?_);rw[show(#[v]:Array cy)=[v].toArray from rfl,forIn_toArray,forIn_cons]
 refine aa (aa (aa (wpAny_attempt (bO (OF U kp1) (λk s' hk=>?_) λ_ _ x=>x.elim))))
 obtain⟨g,rE,rfl,kg⟩:=hk;dsimp only;have ok2:=kg _ _ ok;refine aa (listUpdate_at ok2 rfl (aj ?_) (hsz:=bK _) (hsz2:=by show(1:Nat)<=_;rw[bu];decide))
 dsimp only;rw[forIn_nil];refine aj ?_;obtain⟨c1,ok3⟩:∃c,(g.update kS (Obj.mapSeq (·.push k))).get? kS=some (seqObj "list" #[k] c):=⟨_,get?_update_seq ok2 (·.push k)⟩
 have oa3:(g.update kS (Obj.mapSeq (·.push k))).get? a=some (seqObj "list" #[] e1):=(bx _ _ (Ne.symm hak)).trans (kg _ _ oa)
 have kp3:∀b o,b≠a->T.get? b=some o->(g.update kS (Obj.mapSeq (·.push k))).get? b=some o:=λb o hb e=>(bx _ _ (bw (aw (aB e) hkT))).trans (kg _ _ (kp1 b o hb e))
 show wpAny (model prog w) A.in1 (Builtin.List.listItems (.ref kS)>>=λkeys=>ksk_end a false #[v] e1 (.ref kS) keys) _ _ {s with heap:=g.update kS (Obj.mapSeq (·.push k)),toks:=rE}
 generalize g.update kS (Obj.mapSeq (·.push k))=G at ok3 oa3 kp3
 refine aa (listItems_at ok3 rfl ?_);unfold ksk_end;dsimp only;have hsz:(#[v]:Array cy).size<2:=by show(1:Nat)<2;decide
 rw[if_pos hsz,if_pos hsz];simp only[aI,bD];refine aa (aj ?_);rw[StateT.run_pure];refine aa (aj ?_);unfold ksk_tail;dsimp only;have Q4:((#[k]:Array cy).zip #[v]).map (·.2)=#[v]:=by apply Array.toList_inj.mp;simp
 rw[show(arrOf (SortSt.mk' general' ((#[k]:Array cy).zip #[v]) #[] 7 none))=(#[k]:Array cy).zip #[v]from rfl,Q4]
 refine aa (listUpdate_at ok3 rfl ?_ (hsz:=by show(1:Nat)<=_;rw[bu];decide) (hsz2:=bK _))
 refine aa (wpAny_letGo ?_);have oa4:(G.update kS (Obj.mapSeq λ_=>(#[]:Array cy))).get? a=some (seqObj "list" #[] e1):=(bx _ _ (Ne.symm hak)).trans oa3
 have kp4:∀b o,b≠a->T.get? b=some o->(G.update kS (Obj.mapSeq λ_=>(#[]:Array cy))).get? b=some o:=λb o hb e=>(bx _ _ (bw (aw (aB e) hkT))).trans (kp3 b o hb e)
 refine aa (seqEpoch_at oa4 rfl (aa (listUpdate_at oa4 rfl ?_ (hsz:=bK _) (hsz2:=by show(1:Nat)<=_;rw[bu];decide))))
 simp only[bne_self_eq_false,aI,bD];obtain⟨c,hc⟩:∃c,((G.update kS (Obj.mapSeq λ_=>(#[]:Array cy))).update a (Obj.mapSeq λ_=>#[v])).get? a=some (seqObj "list" #[v] c):=⟨_,get?_update_seq oa4 (λ_=>#[v])⟩
 exact aj ⟨_,rfl,h _ c rE hc λb o hb e=>(bx _ _ (Ne.symm hb)).trans (kp4 b o hb e)⟩
variable {K:Type} [DecidableEq K] {knd:KeyKind prog w K}{d:cG}{kvs:List (K×cy)}{ep:Nat}
theorem OG (hh:A.handled=none) (lo:(d==sysModules)=false) (hm:s.heap.DictAt knd d kvs ep) (h1:kvs.length=1) (OF:∀(g:Heap) tk v,(∃k x,kvs[0]? =some (k,x)/\knd.is k v=true)->(∀b o,s.heap.get? b=some o->g.get? b=some o)->wpAny (model prog w) A.in1.in1 (call (.ref f) [v]) (λ_ s'=>∃h' rE,s'={s with heap:=h',toks:=rE}/\∀b o,g.get? b=some o->h'.get? b=some o) (λ_ _=>False) {s with heap:=g,toks:=tk}) (h:∀D v h' c tk,(∃k x,kvs[0]? =some (k,x)/\knd.is k v=true)->h'.get? D=some (seqObj "list" #[v] c)->s.heap.objs.size<=D->(∀b o,s.heap.get? b=some o->h'.get? b=some o)->Q (.ref D) {s with heap:=h',toks:=tk}):wpAny (model prog w) A (call (.builtin "sorted") [.ref d] [(Str.ofString "key",.ref f)]) Q E s:=by
 refine call_function_entry_kw kind_sorted plain_sorted entry_sorted (ksk_s1 _ _) ?_;unfold Builtin.«sorted»;refine aa (m:=checkCount "sorted" 1 1 _) (aj ?_);refine aa (vS hh lo hm (by rw[h1,bu];decide) λg tk vs keep hl hv hg=>?_)
 rw[h1]at hl;obtain⟨v,rfl⟩:∃v,vs=[v]:=by
  match vs,hl with
  |[v],_=>exact⟨v,rfl⟩
 have kv:=hv 0 v rfl;refine aa (wpAny_newList ?_ (by show(1:Nat)<=_;rw[bu];decide))
 have E9:(g.push (seqObj "list" #[v] 0)).get? g.objs.size=some (seqObj "list" #[v] 0):=az _ rfl;refine aa (bj (LI (A:=A.in1) (s:=s) (T:=g.push (seqObj "list" #[v] 0)) (tk:=tk) E9 (λg' kp=>OF g' tk v kv λb o e=>kp b o (aE (bG (aB e) hg)) (ag _ (keep b o e))) λh' c rE hD kp=>?_))
 refine aj ⟨_,rfl,h _ v h' c rE kv hD (bg hg) λb o e=>kp b o ?_ (ag _ (keep b o e))⟩
 exact aE (bG (aB e) hg)
end
theorem vT:∀(l:cx),TriplesOk l->TriplesOk (l++[.int i t,.int j u,c])
 |[],_=>trivial
 |.int _ _::.int _ _::_::rest,h=>vT rest h
def xj (h1:p.line=q.line) (h2:p.col=q.col):∀l:cx,codeAmong p l=codeAmong q l:=λl=>by
 have key:∀(n:Nat) (l:cx),l.length<=n->codeAmong p l=codeAmong q l:=λn=>by
  induction n with
  |zero=>intro l hl;cases l with|nil=>rfl|cons _ _=>simp at hl
  |succ n ih=>
   intro l hl;unfold codeAmong;split
   ·rename_i line _ col _ c rest;rw[h1,h2,ih rest (by simp only[ay]at hl;omega)]
   ·rfl
 exact key l.length l (au _)
def OH (h:Bk p x++m=Bk q y++n):p.line=q.line/\p.col=q.col/\x=y:=by
 have h0:=congrArg (λa:Array cy=>a.toList) h
 simp only[Bk,Array.toList_append,cons_append,nil_append]at h0;injection h0 with a1 h1
 injection h1 with a2 h2
 injection h2 with a3 _
 injection a1 with b1 _
 injection a2 with b2 _
 injection a3 with b3 _
 exact⟨Int.ofNat.inj b1,Int.ofNat.inj b2,b3⟩
def Ed {env:Env}{cell:cG}(h:env.cells.lookup (Str.ofString "uses")=some cell):closureFor o5 env=pure [(Str.ofString "uses",cell)]:=by
 unfold closureFor;simp only[o5,forIn_cons,forIn_nil];have ec:cellOf env (Str.ofString "uses")=pure cell:=by unfold cellOf;rw[h]
 rw[ec];rfl
section
variable {X:Cx}{cM:cj}{σ:St}{H:Hp}{s:cA}{x:Str}{zW:Pos}{qual:Str}{c Pt:cG}{ar:Arguments}{bd:cH}{sc:Scope}{cl:List (Str×cG)}
structure X0 (X:Cx) (cM:cj) (σ:St) (H H2:Hp) (s2:cA) (f c':cG) (qual:Str) (ar:Arguments) (bd:cH) (sc:Scope) (cl:List (Str×cG)):Prop where
 inv:Inv X cM σ H2 s2
 new:H2=H\/∃u,H c'=none/\H2=upd H c' u
 fn:∃pm BJ,s2.heap.get? f=some (kla_obj "<lambda>" qual ar bd sc cl pm c' BJ)
 cd:s2.heap.CodeRec (.ref c') qual
 fl:f≠X.env.locals
 fz:∃oc vs t,H2 c'=some (.yT oc (.own 0))/\oc.data=.fields vs/\vs[1]? =some (.str qual t)
 fn0:H2 f=none
 fs:f∉JA X.stack
theorem LJ (I:Inv X cM σ H s) (hT:(x,zW,qual)∈yk) (ht:tabIn X.K x=some (c,Pt)) (hq:X.env.qual++Str.ofString "<lambda>"=qual) (CQ:X.env.code=.ref c) (wF:closureFor sc X.env=pure cl) (aat:defaultsOf ar X.env=([],[])) (h:∀H2 s2 f c',X0 X cM σ H H2 s2 f c' qual ar bd sc cl->Q (.ref f) s2):wpAny (model X.prog X.w) X.A (eval (.Lambda ar bd sc zW) X.env) Q E s:=by
 obtain⟨⟨more,hP⟩,hC,hB⟩:=(I.ok.tb.un I.base) x c Pt zW qual hT ht;obtain⟨qs,e,tr,pos,acu,X1,eq,r⟩:=(show Cb H s.heap Pt (Bk zW qual++more)from I.gk Pt _ hP)
 obtain⟨z1,z2,z3⟩:=OH eq;subst z3;have hC':CodeHd s.heap c Pt:=hC.keeps I.bk;have SW:s.heap.BuiltinsAt X.mg Pt:=let ⟨bm,ob,b1,b2,b3,b4,b5,b6⟩:=hB;⟨bm,ob,b1,b2,b3,b4,I.bk _ _ b5,b6⟩;have hG:s.heap.Ns mainGlobals X.mg:=I.mod.glob.keeps I.bk;have hgP:mainGlobals≠Pt:=λz=>by
  obtain⟨og,es,ep,eg,hd,_⟩:=hG;rw[z,e]at eg;cases eg;cases hd
 refine kla_eval aat ?_;rw[hq];have hlL:X.env.locals<s.heap.objs.size:=I.lt;have X2:∀{b:cG},s.heap.objs.size<=b->b∉JA X.stack:=λ{b} hb z=>by
  obtain⟨_,o,ho,_⟩:=I.stack.mem z;exact absurd (aB ho) (Nat.not_lt.mpr hb)
 rcases r with hn|⟨c',oc,vs,t,hf,q2,q3,q4⟩
 ·have hnf:codeAmong zW qs.toList=none:=by rw[xj z1 z2];exact hn
  refine kla_makeFunction (wF) I.ok.glob hG CQ hC' e tr hnf hgP SW λc' BJ h' tk hx xb fP M9 Yy=>?_
  obtain⟨c2,oc,vs,t,ec,Vy,hd,hv⟩:=id M9;cases ec;have hH:H c'=none:=I.gk.fresh xb;generalize hfo:kla_obj "<lambda>" qual (ar) bd sc cl ((X.mg "__name__").getD .none) c' BJ=fo;have keep:∀b o,b≠Pt->s.heap.get? b=some o->(h'.push fo).get? b=some o:=λb o hb q=>ag _ (hx b o hb q)
  have nP:∀{b:cG},H b=none->b≠Pt:=λ{b} q z=>by rw[z,hP]at q;cases q
  refine h (upd H c' (.yT oc (.own 0))) _ _ c' ⟨?_,.inr ⟨_,hH,rfl⟩,⟨_,BJ,by rw[hfo];exact az _ (by rw[<-hfo];rfl)⟩,⟨c',oc,vs,t,rfl,ag _ Vy,hd,hv⟩,bw (bG (aw hlL xb) fP),⟨oc,vs,t,dh,hd,hv⟩,by rw[dg (bw fP)];exact I.gk.fresh (bg (Nat.lt_of_le_of_lt xb fP)),X2 (bg (Nat.lt_of_le_of_lt xb fP))⟩
  refine I.un (h':=h'.push fo) (t':=tk) ⟨λb o q n _ _=>keep b o (nP n) q,λb o q n _ _=>⟨o.slots,keep b o (nP n) q⟩,λb o q n _=>?_,λb o q _=>?_,λb xs q=>(dg (dB q hH)).trans q,λb o u q=>(dg (dB q hH)).trans q,λb ps q=>⟨#[],by rw[dg (dB q hH),q];simp⟩⟩ ?_
  ·rw[dg (aE (aw (aB q) xb))];exact n
  ·by_cases hb:b=Pt
   ·subst hb;exact⟨_,ag _ Yy⟩
   ·exact⟨o,keep b o hb q⟩
  ·intro b u q;by_cases hb:b=c'
   ·subst hb;rw[dh]at q;cases q;exact⟨ag _ Vy,oc,ag _ Vy⟩
   ·rw[dg hb]at q;by_cases hbP:b=Pt
    ·subst hbP;rw[hP]at q;cases q;refine⟨_,ag _ Yy,?_,pos,qual,X1,eq,.inr ⟨c',oc,vs,t,?_,dh,hd,hv⟩⟩
     ·rw[Array.toList_append];exact vT _ tr
     ·rw[Array.toList_append,<-xj z1 z2];exact codeAmong_snoc _ tr hnf
    ·refine(I.gk b u q).Hs (λk v hk z=>keep k v ?_ z) (λk z=>(dg (dB z hH)).trans z) (λk xs z=>(dg (dB z hH)).trans z) λk ob u' z=>(dg (dB z hH)).trans z
     rcases hk with rfl|hk
     ·exact hbP
     ·intro z;rw[z,hP]at hk;cases hk
 ·have hf':codeAmong zW qs.toList=some (.ref c'):=by rw[xj z1 z2];exact hf
  refine kla_makeFunctionHit (wF) I.ok.glob hG CQ hC' e tr hf' SW λBJ h' tk hk hsz=>?_
  obtain⟨e1,_⟩:=I.gk c' _ q2;refine h H _ _ c' ⟨I.kept (t':=tk) λb o q=>ag _ (hk b o q),.inl rfl,⟨_,BJ,az _ rfl⟩,⟨c',oc,vs,t,rfl,ag _ (hk _ _ e1),q3,q4⟩,bw (aw hlL hsz),⟨oc,vs,t,q2,q3,q4⟩,I.gk.fresh hsz,X2 hsz⟩
end
section
variable {X:Cx}{cM:cj}{σ:St}{H:Hp}{s:cA}{x:Str}{zW:Pos}{qual:Str}{c Pt cell:cG}{pa pu pp pS pU IP pT:Pos}
abbrev Lam (X:Cx) (cM:cj) (σ:St) (H H2:Hp) (s2:cA) (f c' cell:cG) (qual:Str) (pa:Pos) (body:cH):Prop:=X0 X cM σ H H2 s2 f c' qual (qe pa) body o5 [(Str.ofString "uses",cell)]
def OI (I:Inv X cM σ H s) (hT:(x,zW,qual)∈yk) (ht:tabIn X.K x=some (c,Pt)) (hq:X.env.qual++Str.ofString "<lambda>"=qual) (CQ:X.env.code=.ref c) (wF:X.env.cells.lookup (Str.ofString "uses")=some cell) (h:∀H2 s2 f c',Lam X cM σ H H2 s2 f c' cell qual pa (lG pu pp pS pU IP pT)->Q (.ref f) s2):wpAny (model X.prog X.w) X.A (eval (.Lambda (qe pa) (lG pu pp pS pU IP pT) o5 zW) X.env) Q E s:=LJ I hT ht hq CQ (Ed wF) rfl h
end
end L2
namespace ST
open PySem.W DL L2
noncomputable def zX (kvs:List (Int×Int)):List (Key×V):=kvs.map λkv=>(.inl kv.1,.int kv.2)
noncomputable def kD (kvs:List (Int×Int)):cn:=kvs.map λkv=>[-kv.2,kv.1]
structure CS (P:cC) (w:cD) (h:Heap) (f cell a:cG) (qual:Str) (pa:Pos) (body:cH) (IQ:List (Key×cy)):Prop where
 fn:∃pm c' BJ,h.get? f=some (kla_obj "<lambda>" qual (qe pa) body o5 [(Str.ofString "uses",cell)] pm c' BJ)/\h.CodeRec (.ref c') qual
 lim:h.NoLimit
 cell:h.IsCell cell (some (.ref a))
 dict:h.DictOf (fT P w) a IQ
theorem CS.keeps {P:cC}{w:cD}{h h':Heap}{f cell a:cG}{qual:Str}{pa:Pos}{body:cH}{IQ:List (Key×cy)}(l:CS P w h f cell a qual pa body IQ) (k:∀b o,h.get? b=some o->h'.get? b=some o):CS P w h' f cell a qual pa body IQ where
 fn:=let ⟨pm,c',BJ,e,c2,oc,vs,t,z,e2,r⟩:=l.fn;⟨pm,c',BJ,k _ _ e,c2,oc,vs,t,z,k _ _ e2,r⟩
 lim:=l.lim.keeps k
 cell:=l.cell.keeps k
 dict:=let ⟨o,es,ep,e,r⟩:=l.dict;⟨o,es,ep,k _ _ e,r⟩
noncomputable def xk:cj->cn->Prop:=Paired λp ns=>∃x y t u,p.2={cls:=.type "tuple",data:=.seq #[.int x t,.int y u]}/\ns=[x,y]
theorem xk.snoc:∀{l:cj}{nss:cn}{p:cG×Obj}{ns:cp},xk l nss->(∃x y t u,p.2={cls:=.type "tuple",data:=.seq #[.int x t,.int y u]}/\ns=[x,y])->xk (l++[p]) (nss++[ns])
 |_,_,_,_,.nil,h=>.cons h .nil
 |_,_,_,_,.cons r t,h=>.cons r (xk.snoc t h)
theorem xk.get:∀{l:cj}{nss:cn},xk l nss->∀(i:Nat) (ns:cp),nss[i]? =some ns->∃p,l[i]? =some p/\∃x y t u,p.2={cls:=.type "tuple",data:=.seq #[.int x t,.int y u]}/\ns=[x,y]
 |_,_,.nil,i,ns,h=>by simp at h
 |p::l,n::nss,.cons r t,0,ns,h=>by simp at h;subst h;exact⟨p,rfl,r⟩
 |p::l,n::nss,.cons r t,i+1,ns,h=>xk.get t i ns (by simpa using h)
theorem xk.length (t:xk l nss):l.length=nss.length:=Paired.length t
section
variable {P:cC}{w:cD}{A:cE}{s:cA}{f cell a kS D:cG}{qual:Str}{pa pu pp pS pU IP pT:Pos}{IQ:List (Key×cy)}{h₀:Heap}{L:cG}{m:cg}{news:cj}{e1:Nat}{kvs:List (Int×Int)}
theorem FX {Fin:cx->Nat->cA->Prop}(j7:A.depth<recursionLimit) (hDk:D<kS) (hnD:∀q∈news,q.1<D)
  (stays:∀h' o1 o2 g0,Fr h₀ L h' m->News h₀ L h' ((kS,o1)::(D,o2)::(g0++news))->CS P w h' f cell a qual pa (lG pu pp pS pU IP pT) IQ)
  (IF:∀kv∈kvs,∃tn,valueAt IQ (.inl kv.1)=some (.int kv.2 tn))
  (fin:∀g0 e h' tk,xk g0 (kD kvs)->Fr h₀ L h' m->News h₀ L h' ((kS,seqObj "list" (toArray (g0.map λp=>Value.ref p.1)) e)::(D,seqObj "list" #[] e1)::(g0++news))->(∀p∈g0,kS<p.1)->Fin (g0.map λp=>Value.ref p.1) e {s with heap:=h',toks:=tk}):
  ∀(r done:List (Int×Int)) (vs:cx) (g0:cj) (e:Nat) (h':Heap) (tk:Nat),done++r=kvs->IntsAre vs (r.map (·.1))->xk g0 (kD done)->Fr h₀ L h' m->
   News h₀ L h' ((kS,seqObj "list" (toArray (g0.map λp=>Value.ref p.1)) e)::(D,seqObj "list" #[] e1)::(g0++news))->(∀p∈g0,kS<p.1)->
   KatKeys P w A h₀ L m kS (.ref f) Fin vs (g0.map λp=>Value.ref p.1) e {s with heap:=h',toks:=tk}
 |[],done,vs,g0,e,h',tk,hd,hv,ht,F,N,hk=>by
  cases hv;rw[bB]at hd;subst hd;exact fin g0 e h' tk ht F N hk
 |kv::r,done,vs,g0,e,h',tk,hd,hv,ht,F,N,hk=>by
  cases hv with
  |cons n t hv=>
   have la:=stays h' _ _ g0 F N;obtain⟨pm,c',BJ,hf,hc⟩:=la.fn;obtain⟨tn,OJ⟩:=IF kv (by rw[<-hd];simp)
   refine KatKeys.cons (FW (s:={s with heap:=h',toks:=tk}) j7 hf hc la.lim la.cell la.dict OJ λT h2 VR VQ hT ext xb=>?_)
   have hkS:kS<h'.objs.size:=aB (N _ (.head _)).1;have hL:L<h'.objs.size:=F.ns.lt;have hTk:kS<T:=aw hkS xb;have N2:News h₀ L h2 ((kS,seqObj "list" (toArray (g0.map λp=>Value.ref p.1)) e)::(D,seqObj "list" #[] e1)::((g0++[(T,{cls:=.type "tuple",data:=.seq #[.int (-kv.2) VQ,.int kv.1 t]})])++news)):=λp hp=>by
    have old:∀q∈((kS,seqObj "list" (toArray (g0.map λp=>Value.ref p.1)) e)::(D,seqObj "list" #[] e1)::(g0++news)),h2.get? q.1=some q.2/\q.1≠L/\h₀.get? q.1=none:=λq hq=>⟨ext _ _ (N q hq).1,(N q hq).2⟩
    rcases mem_cons.mp hp with rfl|hp
    ·exact old _ (.head _)
    rcases mem_cons.mp hp with rfl|hp
    ·exact old _ (.tail _ (.head _))
    rcases mem_append.mp hp with hp|hp
    ·rcases mem_append.mp hp with hp|hp
     ·exact old _ (.tail _ (.tail _ (bC _ hp)))
     ·rw[br]at hp;subst hp;exact⟨hT,bw (aw hL xb),Heap.get?_none_of_le (aD F.above (bg (aw hL xb)))⟩
    ·exact old _ (.tail _ (.tail _ (aL _ hp)))
   have ID:∀p∈g0++[((T,{cls:=.type "tuple",data:=.seq #[.int (-kv.2) VQ,.int kv.1 t]}):cG×Obj)],kS<p.1:=λp hp=>by
    rcases mem_append.mp hp with hp|hp
    ·exact hk p hp
    ·rw[br]at hp;subst hp;exact hTk
   refine⟨_,_,F.keeps ext,N2,.head λp hp=>?_,λh3 c3 F3 N3=>?_⟩
   ·rcases mem_cons.mp hp with rfl|hp
    ·exact aE hDk
    ·rcases mem_append.mp hp with hp|hp
     ·exact bw (ID p hp)
     ·exact aE (bG (hnD p hp) hDk)
   ·have em:(g0.map λp=>Value.ref p.1)++[Value.ref T]=(g0++[((T,{cls:=.type "tuple",data:=.seq #[.int (-kv.2) VQ,.int kv.1 t]}):cG×Obj)]).map λp=>Value.ref p.1:=by simp
    rw[em]at N3;show KatKeys P w A h₀ L m kS (.ref f) Fin _ ((g0.map λp=>Value.ref p.1)++[Value.ref T]) c3 {s with heap:=h3,toks:=VR}
    rw[em];refine FX j7 hDk hnD stays IF fin r (done++[kv]) _ _ c3 h3 VR (by rw[<-hd];simp) hv ?_ F3 N3 ID
    show xk _ (kD (done++[kv]));unfold kD;rw[map_append];exact xk.snoc ht ⟨_,_,_,_,rfl,rfl⟩
end
theorem zY [DecidableEq κ]:∀{kvs:List (κ×V)}{k:κ}{v:V},(kvs.map (·.1)).Nodup->(k,v)∈kvs->t5 kvs k=some v
 |[],_,_,_,h=>by cases h
 |p::r,k,v,nd,h=>by
  rw[aF,nodup_cons]at nd;rcases mem_cons.mp h with rfl|h
  ·exact r0 rfl
  ·rw[r6 λz=>nd.1 (by rw[z];exact mem_map_of_mem (f:=(·.1)) h)]
   exact zY nd.2 h
theorem pW {α β:Type}{R:α->β->Prop}:∀{l:List α}{m:List β},Paired R l m->∀(i:Nat) (b:β),m[i]? =some b->∃a,l[i]? =some a/\R a b
 |_,_,.nil,i,b,h=>by simp at h
 |a::l,c::m,.cons r t,0,b,h=>by simp at h;subst h;exact⟨a,rfl,r⟩
 |a::l,c::m,.cons r t,i+1,b,h=>pW t i b (by simpa using h)
theorem xX:∀{vs:cx}{ns:cp},vs.length=ns.length->(∀(j:Nat) v,vs[j]? =some v->∃t,v=.int (ns.getD j 0) t)->IntsAre vs ns
 |[],[],_,_=>.nil
 |v::vs,n::ns,hl,h=>by
  obtain⟨t,e⟩:=h 0 v rfl;have e':v=.int n t:=by simpa using e
  subst e';exact .cons n t (xX (by simpa using hl) λj u hu=>by simpa using h (j+1) u (by simpa using hu))
 |[],_::_,hl,_=>by simp at hl
 |_::_,[],hl,_=>by simp at hl
theorem zZ:∀{vs:cx}{ns:cp},IntsAre vs ns->∀i,i<ns.length->∃t,vs.getD i Value.none=.int (ns.getD i 0) t
 |_,_,.nil,i,h=>by simp at h
 |_,_,.cons n t r,0,h=>⟨t,rfl⟩
 |_,_,.cons n t r,i+1,h=>zZ r i (by simpa using h)
section
variable {X:Cx}{cM:cj}{σ:L2.St}{H:Hp}{s:cA}{f cell a:cG}{qual:Str}{pa pu pp pS pU IP pT:Pos}{kvs:List (Int×Int)}
theorem FY (hc:X.calm=true) (hu:X.A.units+64<cLine) (j7:X.A.in1.in1.depth<recursionLimit) (I:Inv X cM σ H s) (hH:H a=some (.dK (zX kvs))) (R8:∃pm c' BJ,s.heap.get? f=some (kla_obj "<lambda>" qual (qe pa) (lG pu pp pS pU IP pT) o5 [(Str.ofString "uses",cell)] pm c' BJ)/\s.heap.CodeRec (.ref c') qual) (u9:s.heap.IsCell cell (some (.ref a))) (h1:1<=kvs.length) (xS:kvs.length<64) (q:∀(D0:cG) (l:cn),H D0=none->l.Perm (kD kvs)->l.Pairwise (λa b=>HT.lexLt b a=false)->Q (.ref D0) (upd H D0 (.lst (l.map λns=>V.int (ns.getD 1 0))))):wpAny (model X.prog X.w) X.A (call (.builtin "sorted") [.ref a] [(Str.ofString "key",.ref f)]) (EP X cM σ Q) X.xe s:=by
 obtain⟨z,lo,IQ,rel,dd⟩:=SV I.gk hH;obtain⟨o,es,ep,ho,hex,hd,SX,OK,Qf⟩:=id dd;have dAt:s.heap.DictAt (fT X.prog X.w) a IQ ep:=⟨o,es,ho,hex,hd,SX,OK,Qf⟩;have hlen:IQ.length=kvs.length:=by rw[<-rel.length];unfold zX;rw[ae]
 have hh:X.A.handled=none:=I.ok.hd hc;have la:CS X.prog X.w s.heap f cell a qual pa (lG pu pp pS pU IP pT) IQ:=⟨R8,I.nolimit,u9,dd⟩;have IF:∀kv∈kvs,∃tn,valueAt IQ (.inl kv.1)=some (.int kv.2 tn):=λkv X3=>by
  have e:t5 (zX kvs) (.inl kv.1)=some (.int kv.2):=zY (by rw[rel.keys];exact Qf) (mem_map.mpr ⟨kv,X3,rfl⟩)
  obtain⟨u,hw,tn,eu⟩:=rF.some_of (v:=.int kv.2) (o:=valueAt IQ (.inl kv.1)) (by rw[<-e];exact rel.val _)
  exact⟨tn,by rw[hw,eu]⟩
 have isInt:∀(j:Nat) v k x,IQ[j]? =some (k,x)->(fT X.prog X.w).is k v=true->∃t,v=.int ((kvs.map (·.1)).getD j 0) t:=λj v k x hk hv=>by
  obtain⟨p,hp,e1,_⟩:=pW rel j (k,x) hk;unfold zX at hp;rw[av]at hp;cases hkj:kvs[j]? with
  |none=>rw[hkj]at hp;cases hp
  |some kv=>
   rw[hkj]at hp;cases hp;have e1':(Sum.inl kv.1:Key)=k:=e1;subst e1';obtain⟨t,e⟩:=Value.isInt_shape (k:=kv.1) (v:=v) hv;exact⟨t,by rw[e,ak,av,hkj];rfl⟩
 have U6:(kD kvs).length=kvs.length:=by unfold kD;rw[ae]
 have SY:∀i,i<kvs.length->∃kv,kvs[i]? =some kv/\(kD kvs)[i]? =some [-kv.2,kv.1]/\(kD kvs).getD i []=[-kv.2,kv.1]/\(kvs.map (·.1)).getD i 0=kv.1:=λi hi=>by
  refine⟨kvs[i],ah hi,?_,?_,?_⟩
  ·unfold kD;rw[av,ah hi];rfl
  ·unfold kD;rw[ak,av,ah hi];rfl
  ·rw[ak,av,ah hi];rfl
 by_cases h2:2<=kvs.length
 ·obtain⟨m,F⟩:=I.fr;have N:News X.base X.env.locals s.heap (my X.base s.heap X.env.locals):=yV;refine Ry F N hh lo dAt (by omega) (by omega) λvs D0 kS e1 h' tk hl hv F' N' l0 l1 xb=>?_
  have Fo:s.heap.get? D0=none:=Heap.get?_none_of_le xb;have noL:∀{b:cG}{o:Obj},s.heap.get? b=some o->(∀es ep,o.data≠.dict es ep)->b≠X.env.locals:=λ{b o} e nd zb=>by
   obtain⟨oL,es,ep,hL,Xc,_⟩:=F.ns;rw[zb,hL]at e;cases e;exact nd _ _ Xc
  have stays:∀h' o1 o2 g0,Fr X.base X.env.locals h' m->News X.base X.env.locals h' ((kS,o1)::(D0,o2)::(g0++my X.base s.heap X.env.locals))->CS X.prog X.w h' f cell a qual pa (lG pu pp pS pU IP pT) IQ:=λh' o1 o2 g0 F' N'=>by
   have rQ:=I.CC F' N' λ_ h=>.tail _ (.tail _ (aL _ h))
   obtain⟨pm,c',BJ,e,c2,oc,vs2,t,zc,e2,r1,r2⟩:=R8;refine⟨⟨pm,c',BJ,rQ _ _ (noL e λ_ _ z=>by cases z) e,c2,oc,vs2,t,zc,rQ _ _ (noL e2 λ_ _ z=>by rw[r1]at z;cases z) e2,r1,r2⟩,I.ok.mod.nolimit.keeps F'.keep,?_,⟨o,es,ep,rQ _ _ (λzz=>by rw[zz,I.free]at hH;cases hH) ho,hex,hd,SX,OK,Qf⟩⟩
   obtain⟨oc2,e3,e4⟩:=u9;exact⟨oc2,rQ _ _ (noL e3 λ_ _ z=>by rw[e4]at z;cases z) e3,e4⟩
  have hints:IntsAre vs (kvs.map (·.1)):=xX (by rw[ae];omega) λj v hj=>by
   obtain⟨k,x,hk,JI⟩:=hv j v hj;exact isInt j v k x hk JI
  refine FX (s:=s) (kvs:=kvs) (news:=my X.base s.heap X.env.locals) (e1:=e1) j7 l0 l1 stays IF (λg0 e h' tk ht F' N' hk=>?_) kvs [] vs [] 0 h' tk rfl hints .nil F' N' (λp hp=>by cases hp)
  have tl:g0.length=kvs.length:=by rw[ht.length,U6]
  have zB:∀i,i<kvs.length->∃p,g0[i]? =some p/\(g0.map λp=>Value.ref p.1).getD i Value.none=.ref p.1/\TI h' (.ref p.1) ((kD kvs).getD i []):=λi hi=>by
   obtain⟨kv,_,ek,ek2,_⟩:=SY i hi;obtain⟨p,hp,x,y,t,u,ep,ens⟩:=ht.get i _ ek;refine⟨p,hp,by rw[ak,av,hp];rfl,p.1,p.2,[.int x t,.int y u],0,rfl,(N' p (.tail _ (.tail _ (bC _ (bh hp))))).1,by rw[ep],by rw[ep],?_⟩
   rw[ek2,ens];exact .cons x t (.cons y u .nil)
  refine SS (s:={s with heap:=h',toks:=tk}) (λv hv=>?_) λκ hκ=>?_
  ·obtain⟨p,hp,rfl⟩:=mem_map.mp hv;obtain⟨i,hi⟩:=bo hp;have hil:i<kvs.length:=by rw[<-tl];exact(List.getElem?_eq_some_iff.mp hi).1
   obtain⟨p',LA,_,ti⟩:=zB i hil;rw[hi]at LA;cases LA;exact⟨_,ti⟩
  rw[show vs.length=kvs.length by omega]
  refine zA h2 (by omega) (nss:=kD kvs) (λi j R hi hj hR=>?_) λar pm below NF=>?_
  ·obtain⟨p,_,ep,tp⟩:=zB i hi;obtain⟨p',_,Tp,tp'⟩:=zB j hj;show wpAny _ _ (keyLt' _ ((g0.map λp=>Value.ref p.1).getD i Value.none) ((g0.map λp=>Value.ref p.1).getD j Value.none)) _ _ _
   rw[ep,Tp];exact XX tp tp' (by show X.A.units+1+1+8<cLine;omega) hκ hR
  generalize pM:(ar.toList.map λi=>(kD kvs).getD i [])=l'
  have lp:l'.Perm (kD kvs):=by
   rw[<-pM];have:=pm.map λi=>(kD kvs).getD i []
   have e:(List.range kvs.length).map (λi=>(kD kvs).getD i [])=kD kvs:=by rw[<-U6];exact gB (kD kvs) []
   rw[e]at this;exact this
  refine⟨_,_,F',N',.head λp hp=>?_,λh2 c F2 N2=>⟨_,_,F2,N2,.tail (bw l0) (.head λp hp=>?_),λh3 c3 F3 N3=>?_⟩⟩
  ·rcases mem_cons.mp hp with rfl|hp
   ·exact aE l0
   ·rcases mem_append.mp hp with hp|hp
    ·exact bw (hk p hp)
    ·exact aE (bG (l1 p hp) l0)
  ·rcases mem_append.mp hp with hp|hp
   ·exact bw (bG l0 (hk p hp))
   ·exact aE (l1 p hp)
  have hD:H D0=none:=I.gk.fresh xb;refine⟨.ref D0,upd H D0 (.lst (l'.map λns=>V.int (ns.getD 1 0))),I.Uv (s:=s) (tk:=tk) (c:=c3) hD Fo F F3 (I.CC F3 N3 λ_ h=>.tail _ (.tail _ (aL _ h))) (by rw[ae,lp.length_eq,U6];omega) ?_ (N3 _ (.tail _ (.head _))).1,rfl,q D0 l' hD lp (pM▸NF)⟩
  rw[<-pM,aV];have aux:∀k:List Nat,(∀i∈k,i<kvs.length)->Vals (k.map ((λns:cp=>V.int (ns.getD 1 0))∘λi=>(kD kvs).getD i [])) (k.map λi=>vs.getD i Value.none):=λk=>by
   induction k with
   |nil=>intro _;exact .nil
   |cons i k ih=>
    intro hb;obtain⟨kv,_,_,ek2,ek3⟩:=SY i (hb i af);obtain⟨t,et⟩:=zZ hints i (by rw[ae];exact hb i af)
    refine .cons ?_ (ih λj hj=>hb j (ai _ hj))
    have ev:((λns:cp=>V.int (ns.getD 1 0))∘λi=>(kD kvs).getD i []) i=V.int kv.1:=by
     show V.int (((kD kvs).getD i []).getD 1 0)=_;rw[ek2];rfl
    have rv:RelV (V.int kv.1) (vs.getD i Value.none):=by rw[et,ek3];exact⟨t,rfl⟩
    rw[<-ev]at rv;exact rv
  exact aux ar.toList below
 ·have US:kvs.length=1:=by omega
  obtain⟨kv,rfl⟩:∃kv,kvs=[kv]:=by
   match kvs,US with
   |[kv],_=>exact⟨kv,rfl⟩
  refine OG hh lo dAt (by omega) (λg tk v hk ext=>?_) λD0 v h' c tk hk hD xb keep=>?_
  ·obtain⟨k,x,YK,hv⟩:=hk;obtain⟨t,rfl⟩:=isInt 0 v k x YK hv;have lg:=la.keeps ext;obtain⟨pm,c',BJ,hf,My⟩:=lg.fn;obtain⟨tn,OJ⟩:=IF kv (by simp)
   exact FW (s:={s with heap:=g,toks:=tk}) (p:=kv.1) j7 hf My lg.lim lg.cell lg.dict OJ λT h2 VR VQ hT e2 xb=>⟨h2,VR,rfl,e2⟩
  ·obtain⟨k,x,YK,hv⟩:=hk;obtain⟨t,rfl⟩:=isInt 0 v k x YK hv;have QS:H D0=none:=I.gk.fresh xb;exact⟨.ref D0,_,I.laid (t':=tk) (o:=.lst ([[-kv.2,kv.1]].map λns=>V.int (ns.getD 1 0))) keep xb ⟨by show(1:Nat)<=_;decide,[.int kv.1 t],c,.cons ⟨t,rfl⟩ .nil,hD⟩,rfl,q D0 [[-kv.2,kv.1]] QS (List.Perm.refl _) (by simp)⟩
end
end ST
namespace DL
open L2
open ST (zX kD)
noncomputable def mf (kvs:List (Int×Int)):D:=.lst (kvs.map λkv=>.tup [.int kv.1,.int kv.2])
noncomputable def pairD:D->Option (Int×Int)
 |.tup [.int a,.int b]=>some (a,b)
 |_=>none
def tabs:cw->Option (List (Int×Int))
 |[]=>some []
 |d::r=>(pairD d).bind λp=>(tabs r).map λl=>p::l
def Ee:D->Option (List (Int×Int))
 |.lst ds=>tabs ds
 |_=>none
theorem FZ:∀kvs:List (Int×Int),tabs (kvs.map λkv=>D.tup [.int kv.1,.int kv.2])=some kvs
 |[]=>rfl
 |kv::r=>by
  show(pairD (.tup [.int kv.1,.int kv.2])).bind _=_;rw[show pairD (.tup [.int kv.1,.int kv.2])=some kv from rfl]
  simp only[ao];rw[FZ r];rfl
def Ef (kvs:List (Int×Int)):Ee (mf kvs)=some kvs:=FZ kvs
def Ga (h:mf a=mf b):a=b:=by
 have:=congrArg Ee h;rw[Ef,Ef]at this;exact aS this
def OL {d:D}{p:Int×Int}(h:pairD d=some p):d=.tup [.int p.1,.int p.2]:=by
 unfold pairD at h;split at h
 ·cases h;rfl
 ·cases h
theorem Kb:∀{ds:cw}{kvs:List (Int×Int)},tabs ds=some kvs->ds=kvs.map λkv=>D.tup [.int kv.1,.int kv.2]
 |[],_,h=>by cases h;rfl
 |d::r,kvs,h=>by
  unfold tabs at h;cases h1:pairD d with
  |none=>rw[h1]at h;cases h
  |some p=>
   rw[h1]at h;simp only[ao]at h;cases h2:tabs r with
   |none=>rw[h2]at h;cases h
   |some l=>rw[h2]at h;cases h;rw[Kb h2,OL h1];rfl
def Kc (h:Ee k=some kvs):k=mf kvs:=by
 cases k with
 |lst ds=>exact congrArg D.lst (Kb h)
 |_=>cases h
@[reducible] def fX (a:cG):Mem where
 cell:=some a
 face:=some a
 ok:=λC H=>C a=none/\∃kvs,H a=some (.dK kvs)
 has:=λ_ H k=>∀kvs,k=mf kvs->H a=some (.dK (zX kvs))
 rel:=λC H C' H'=>(C a=none/\∃kvs,H a=some (.dK kvs))->C' a=none/\∀u,H a=some u->H' a=some u
 of0:=λ{C H C' H'} e ⟨hc,kvs,hk⟩=>⟨by
  cases q:C' a with
  |none=>rfl
  |some u=>rcases e.n a u q with z|z<;>simp_all,λu q=>e.h a u q⟩
 trans:=λ{C H C' H' C2 H2} r1 r2 ⟨hc,kvs,hk⟩=>by
  obtain⟨a1,a2⟩:=r1 ⟨hc,kvs,hk⟩;obtain⟨b1,b2⟩:=r2 ⟨a1,kvs,a2 _ hk⟩;exact⟨b1,λu q=>b2 u (a2 u q)⟩
 chg:=λ{C H C' H' b o} r hn ⟨hc,kvs,hk⟩=>by
  obtain⟨a1,a2⟩:=r ⟨hc,kvs,hk⟩;exact⟨a1,λu q=>by rw[dg (dB q hn)];exact a2 u q⟩
 give:=λ{C H C' H' b o} r hcb hb hx ⟨hc,kvs,hk⟩=>by
  obtain⟨a1,a2⟩:=r ⟨hc,kvs,hk⟩;have jX:a≠b:=λz=>by
   have:=a2 _ hk;rw[z,hb]at this;cases this;cases hx
  exact⟨by rw[dg jX];exact a1,a2⟩
 WY:=λr ⟨hc,kvs,hk⟩=>⟨(r ⟨hc,kvs,hk⟩).1,kvs,(r ⟨hc,kvs,hk⟩).2 _ hk⟩
 Nk:=λr h hh kvs e=>(r h).2 _ (hh kvs e)
 VG:=λ{C H b o} ⟨hc,kvs,hk⟩ hb=>⟨hc,kvs,by rw[dg (λz=>by subst z;have:=hb _ hk;cases this)];exact hk⟩
 Lh:=λ{C H b o k} ⟨hc,aay,hk⟩ hb hh kvs e=>by rw[dg (λz=>by subst z;have:=hb _ hk;cases this)];exact hh kvs e
 WZ:=λ{C H b o} ⟨hc,kvs,hk⟩ hcb hb hx=>⟨by rw[dg (λz=>by subst z;rw[hk]at hb;cases hb;cases hx)];exact hc,kvs,hk⟩
 Nl:=λ_ _ _ _ hh=>hh
def yP (i:Nat) (fr:bY):bY:=λδ=>if noOwn δ=true/\i<δ.length then(fr (δ.set i (.memo [mf []]))).bind (NM i)else none
section
variable {X:Cx}{e:cH}{es:List cH}{pos:Pos}{x:Str}{a:cG}{C0 H0:Hp}{rest:List cI}
def Ke (e1:pK C H C1 H1) (hn:H a=none) (e2:@Ev (fX a) C1 H1 C2 H2):pK C H C2 H2:=by
 letI:=fX a
 refine⟨e1.c.trans e2.c,λb o q=>?_,e2.s,λb u q=>?_⟩
 ·have hb:b≠a:=λz=>by subst z;rw[hn]at q;cases q
  exact e2.h b o (e1.h b o q) (.inl λz=>hb (aS z).symm)
 ·rcases e2.n b u q with z|z
  ·exact e1.n b u z
  ·exact .inr (e1.h.free z)
def Eg (g:@Gd Mem.keep B C0 H0 δ σ C H) (hn:H a=none) (g2:@Gd (fX a) B C H δ' σ' C2 H2) (hm:rW (δ'.set i .no)=true):@Gd Mem.keep B C0 H0 (δ'.set i .no) σ' C2 H2:=by
 have e1:pK C0 H0 C H:=(@Gd.ev Mem.keep _ _ _ _ _ _ _ g).xQ;have e2:pK C0 H0 C2 H2:=Ke e1 (e1.h.free hn) (@Gd.ev (fX a) _ _ _ _ _ _ _ g2);have x2:=@Gd.x (fX a) _ _ _ _ _ _ _ g2;have own:∀{k:Nat}{ds:cw},(δ'.set i Sl.no)[k]? =some (.own ds)->δ'[k]? =some (.own ds):=λ{k ds} q=>by
  rcases getElem?_set_cases q with⟨_,z⟩|⟨_,z⟩
  ·cases z
  ·exact z
 letI:=Mem.keep
 refine⟨@Gd.b (fX a) _ _ _ _ _ _ _ g2,e2.up,⟨e2.s,λk d q=>?_,λk ds q=>@Sx.own (fX a) _ _ _ _ x2 k ds (own q),λk l ds es b q1 q2=>@Sx.DN (fX a) _ _ _ _ x2 k l ds es b (own q1) (own q2),by rw[length_set];exact @Sx.len (fX a) _ _ _ _ x2,λk ks q=>(CL hm q).elim⟩,λk ds b q1 q2=>?_⟩
 ·rcases getElem?_set_cases q with⟨_,z⟩|⟨_,z⟩
  ·cases z
  ·exact @Sx.dat (fX a) _ _ _ _ x2 k d z
 ·exact e1.h.free (@Gd.fr (fX a) _ _ _ _ _ _ _ g2 k ds b (own q1) q2)
def IS (i:Nat) (hN:X.N.Nodup) (hr:∀(a:cG) (C1 H1:Hp),H1 a=none->@VJ (fX a) X C1 H1 rest fr) (hi:X.N[i]? =some y:=by rfl) (hx:Loc X.env.scope y:=by first|exact Or.inl rfl|exact Or.inr rfl) (hs:swapsWith (.Dict [] [] pd) (some (.Name y py)) pos.line X.env=pure false:=by rfl) (hf:X.fn y=true\/X.env.scope.names.lookup y=some .local:=by first|exact .inl rfl|exact .inr rfl):@VJ Mem.keep X C0 H0 (.Assign [.Name y py] (.Dict [] [] pd) pos::rest) (yP i fr):=λB=>by
 have ex:Dw X rest (λDn σ H=>∃(a:cG) (C1 H1:Hp),H1 a=none/\@tS (fX a) B C1 H1 fr Dn σ H):=λcM s σ H Dn I ⟨a,C1,H1,hn,q⟩=>hr a C1 H1 hn B cM s σ H Dn I q
 refine(va (Hv hN hi hx (OD (pos:=pd)) hs hf) ex).imp λDn σ H ⟨C,δ,r,gd,q,fin⟩=>?_
 unfold yP at q;split at q
 case isFalse=>cases q
 rename_i hc;obtain⟨Oe,hlen⟩:=hc;cases QS:fr (δ.set i (.memo [mf []]))with
 |none=>rw[QS]at q;cases q
 |some r'=>
  rw[QS]at q;simp only[ao]at q;intro t ht;have x0:=@Gd.x Mem.keep _ _ _ _ _ _ _ gd;have sub:=@Sx.sub Mem.keep _ _ _ _ x0;have hct:C t=none:=sub.free ht;have aaz:eE C (upd H t (.dK [])):=sub.trans (fu ht);have e1:pK C0 H0 C H:=(@Gd.ev Mem.keep _ _ _ _ _ _ _ gd).xQ;have e0:pK C H C (upd H t (.dK [])):=.gm sub ht;have g1:@Gd (fX t) B C H (δ.set i (.memo [mf []])) (σ.set i (some (.ref t))) C (upd H t (.dK [])):=by
   letI:=fX t
   have hl:=@Sx.len Mem.keep _ _ _ _ x0;refine⟨@Gd.b Mem.keep _ _ _ _ _ _ _ gd,e0.up,⟨aaz,λk d z=>?_,λk ds z=>?_,λk l ds es b z=>?_,by simp[hl],λk ks z=>?_⟩,λk ds b z=>?_⟩
   ·rcases getElem?_set_cases z with⟨_,z⟩|⟨hk,z⟩
    ·cases z
    ·obtain⟨v,h1,h2⟩:=@Sx.dat Mem.keep _ _ _ _ x0 k d z;exact⟨v,by rw[aG (Ne.symm hk)];exact h1,h2⟩
   ·rcases getElem?_set_cases z with⟨_,z⟩|⟨hk,z⟩
    ·cases z
    ·exact(zL Oe z).elim
   ·rcases getElem?_set_cases z with⟨_,z⟩|⟨hk,z⟩
    ·cases z
    ·exact(zL Oe z).elim
   ·rcases getElem?_set_cases z with⟨rfl,z'⟩|⟨hk,z⟩
    ·cases z';refine⟨t,rfl,by rw[bc (by rw[<-hl];exact hlen)],⟨hct,[],dh⟩,λk hk kvs e=>?_⟩
     rw[br]at hk;subst hk;have:=Ga e;subst this;exact dh
    ·obtain⟨b,h1,_⟩:=@Sx.mem Mem.keep _ _ _ _ x0 k ks z;cases h1
   ·rcases getElem?_set_cases z with⟨_,z⟩|⟨hk,z⟩
    ·cases z
    ·exact(zL Oe z).elim
  refine⟨t,C,H,ht,C,_,r',g1,QS,?_⟩;cases r' with
  |next δ'=>
   simp only[NM]at q;split at q
   ·rename_i hm;cases q;exact λσ' C2 H2 g2=>fin σ' C2 H2 (Eg gd ht g2 hm)
   ·cases q
  |ret d=>
   cases q;exact λv C2 H2 ev iv=>fin v C2 H2 (@pK.up _ _ _ _ Mem.keep (Ke e1 (e1.h.free ht) ev)) iv
  |brk δ'=>
   simp only[NM]at q;split at q
   ·rename_i hm;cases q;exact λσ' C2 H2 g2=>fin σ' C2 H2 (Eg gd ht g2 hm)
   ·cases q
  |cont δ'=>
   simp only[NM]at q;split at q
   ·rename_i hm;cases q;exact λσ' C2 H2 g2=>fin σ' C2 H2 (Eg gd ht g2 hm)
   ·cases q
def IT (i:Nat) (hN:X.N.Nodup) (hr:∀(a:cG) (C1 H1:Hp),H1 a=none->@wH (fX a) X C1 H1 rest fr) (hi:X.N[i]? =some y:=by rfl) (hx:Loc X.env.scope y:=by first|exact Or.inl rfl|exact Or.inr rfl) (hs:swapsWith (.Dict [] [] pd) (some (.Name y py)) pos.line X.env=pure false:=by rfl) (hf:X.fn y=true\/X.env.scope.names.lookup y=some .local:=by first|exact .inl rfl|exact .inr rfl):@wH Mem.keep X C0 H0 (.Assign [.Name y py] (.Dict [] [] pd) pos::rest) (yP i fr):=
 @wH.mk Mem.keep _ _ _ _ _ (IS i hN (λa C1 H1 hn=>@wH.go (fX a) _ _ _ _ _ (hr a C1 H1 hn)) hi hx hs hf)
end
noncomputable def IU (kvs:List (Int×Int)) (p:Int):Int:=((kvs.find? λkv=>decide (kv.1=p)).map (·.2)).getD 0
def o6 (kvs:List (Int×Int)) (p:Int):List (Int×Int):=
 if(kvs.any λkv=>decide (kv.1=p))=true then kvs.map (λkv=>if kv.1=p then(kv.1,IU kvs p+1)else kv)else kvs++[(p,IU kvs p+1)]
def U7 (a b:Int):decide ((Sum.inl a:Key)=Sum.inl b)=decide (a=b):=by
 by_cases h:a=b
 ·subst h;simp
 ·rw[aH h,aH (λz=>h (Sum.inl.inj z))]
theorem Kg (p:Int):∀kvs:List (Int×Int),t5 (zX kvs) (.inl p)=((kvs.find? λkv=>decide (kv.1=p)).map (·.2)).map V.int
 |[]=>rfl
 |kv::r=>by
  have ih:=Kg p r;unfold zX at ih ⊢;rw[aF,find?_cons];by_cases h:kv.1=p
  ·rw[r0 (by show(Sum.inl kv.1:Key)=_;rw[h]),aR h];rfl
  ·rw[r6 (λz=>h (Sum.inl.inj z)),aH h,ih]
def Rz (kvs:List (Int×Int)) (p:Int):(t5 (zX kvs) (.inl p)).getD (.int 0)=.int (IU kvs p):=by
 rw[Kg];unfold IU;cases (kvs.find? λkv=>decide (kv.1=p))<;>rfl
def RA (kvs:List (Int×Int)) (p:Int):putK (zX kvs) (.inl p) (.int (IU kvs p+1))=zX (o6 kvs p):=by
 have ha:((zX kvs).any λkv=>decide (kv.1=(Sum.inl p:Key)))=kvs.any λkv=>decide (kv.1=p):=by
  unfold zX;rw[any_map]
  congr 1
  funext kv
  exact U7 kv.1 p
 unfold putK o6;rw[ha];split
 ·unfold zX;rw[aV,aV];refine bR λkv _=>?_
  simp only[Function.comp_apply];by_cases h:kv.1=p
  ·rw[if_pos (by rw[h]),if_pos h]
  ·rw[if_neg (λz=>h (Sum.inl.inj z)),if_neg h]
 ·unfold zX;rw[map_append];rfl
def Eh (i:Nat) (f:bZ):bY:=λδ=>match δ[i]?,f δ with
 |some (.memo [k]),some (.int p)=>(Ee k).bind λkvs=>if kvs.length<1000/\rW (δ.set i .no)=true then some (.next (δ.set i (.memo [mf (o6 kvs p)])))else none
 |_,_=>none
section
variable {X:Cx}{o1 o2 k1 k2 e:cH}{p pos pos' apos gP pb pz pz2 kp:Pos}{a:cG}{C0 H0:Hp}{i j j2:Nat}{f:bZ}
def LK (hn:H0 a=none) (hu:X.A.units+64<cLine) (DW:PE X o1 (lQ i)) (US:@WD (fX a) X k1 f) (zf:PE X o2 (lQ i)) (ID:@WD (fX a) X k2 f) (m:M2 X o1 "get" apos k1 (.Constant (.int 0) j pz) gP:=by exact⟨rfl,rfl,rfl,rfl⟩)
  (hs:swapsWith (.BinOp (.Call (.Attribute o1 "get" apos) [k1,.Constant (.int 0) j pz] [] gP) .Add (.Constant (.int 1) j2 pz2) pb) (some (.Subscript o2 k2 pos')) pos.line X.env=pure false:=by rfl):
  @WB (fX a) X C0 H0 (.Assign [.Subscript o2 k2 pos'] (.BinOp (.Call (.Attribute o1 "get" apos) [k1,.Constant (.int 0) j pz] [] gP) .Add (.Constant (.int 1) j2 pz2) pb) pos) (Eh i f):=by
 letI:=fX a
 have US:=US.go;have ID:=ID.go;exact⟨λB=>by
  letI:=fX a
  refine(Rx (by omega) zf ID (MI MJ (OE (by omega) DW US Dx m) Dx) hs).imp λDn σ H ⟨C,δ,r,gd,q,fin⟩=>?_
  unfold Eh at q;split at q
  case h_2=>cases q
  rename_i k p' hi hf;cases hk:Ee k with
  |none=>rw[hk]at q;cases q
  |some kvs=>
   rw[hk]at q;simp only[ao]at q;split at q
   case isFalse=>cases q
   rename_i hc;cases q;have ek:=Kc hk;have at_:∀{C' H':Hp},Gd B C0 H0 δ σ C' H'->σ[i]? =some (some (.ref a))/\C' a=none/\H' a=some (.dK (zX kvs)):=λ{C' H'} g=>by
    obtain⟨a',z1,z2,z3,z4⟩:=g.x.mem i [k] hi;cases z1;exact⟨z2,z3.1,z4 k (by simp) kvs ek⟩
   have lt:kvs.length<sizeLine:=aw hc.1 (by decide)
   have lt':(zX kvs).length<sizeLine:=by unfold zX;rw[ae];exact lt
   refine⟨.ref a,(at_ gd).1,a,rfl,.inl ⟨_,.inl (at_ gd).2.2⟩,C,δ,.int p',gd.x,hf,λv1 C1 H1 e1 i1=>?_⟩
   have g1:=gd.Bv e1;have v1e:v1=.int p':=by cases i1;rfl
   subst v1e;refine⟨t5 (zX kvs) (.inl p'),Oz.k (k:=.inl p') (at_ g1).2.2,?_⟩;refine⟨IU kvs p',1,Rz kvs p',rfl,?_⟩;refine⟨.ref a,(at_ g1).1,C1,δ,.int p',g1.x,hf,λv2 C2 H2 e2 i2=>?_⟩
   have g2:=g1.Bv e2;have v2e:v2=.int p':=by cases i2;rfl
   subst v2e;refine⟨a,upd H2 a (.dK (putK (zX kvs) (.inl p') (.int (IU kvs p'+1)))),rfl,OA.k (k:=.inl p') (at_ g2).2.2 lt',?_⟩;rw[RA];have hC:=(at_ g2).2.1;have hH:=(at_ g2).2.2;have xs:=g2.x;refine fin σ C2 _ ⟨g2.b,g2.ev.JO hn hC _,⟨λb u z=>?_,λn d z=>?_,λn ds z=>?_,λn l ds es b z1 z2=>?_,by rw[length_set];exact xs.len,λn ks z=>?_⟩,λn ds b z1 z2=>?_⟩
   ·rw[dg (λzz=>by rw[zz,hC]at z;cases z)];exact xs.sub b u z
   ·rcases getElem?_set_cases z with⟨_,z⟩|⟨_,z⟩
    ·cases z
    ·exact xs.dat n d z
   ·rcases getElem?_set_cases z with⟨_,z⟩|⟨_,z⟩
    ·cases z
    ·obtain⟨b,ys,y1,y2,y3,y4⟩:=xs.own n ds z;exact⟨b,ys,y1,y2,by rw[dg (λzz=>by rw[zz,hH]at y3;cases y3)];exact y3,y4⟩
   ·rcases getElem?_set_cases z1 with⟨_,z1⟩|⟨_,z1⟩
    ·cases z1
    rcases getElem?_set_cases z2 with⟨_,z2⟩|⟨_,z2⟩
    ·cases z2
    exact xs.DN n l ds es b z1 z2
   ·rcases getElem?_set_cases z with⟨rfl,z'⟩|⟨jX,z'⟩
    ·cases z';refine⟨a,rfl,(at_ g2).1,⟨hC,_,dh⟩,λk' rB aay e'=>?_⟩
     rw[br]at rB;subst rB;have:=Ga e';subst this;exact dh
    ·exact(CL hc.2 (i:=n) (ds:=ks) (by rw[aG (Ne.symm jX)];exact z')).elim
   ·rcases getElem?_set_cases z1 with⟨_,z1⟩|⟨_,z1⟩
    ·cases z1
    ·exact g2.fr n ds b z1 z2⟩
def xl (i:Nat):bX:=λδ=>match δ[i]? with
 |some (.memo [k])=>(Ee k).bind λkvs=>if 1<=kvs.length/\kvs.length<64 then some ((fi (kD kvs)).map λns=>.int (ns.getD 1 0))else none
 |_=>none
def Gb (hc:X.calm=true) (hu:X.A.units+64<cLine) (j7:X.A.depth+5<recursionLimit) (hg:Gl X "sorted") (hm:X.mg "sorted"=none) (hN:X.N[i]? =some (Str.ofString "uses")) (hk:X.env.kindOf (Str.ofString "uses")=some .cell) (hT:(x,zW,qual)∈yk) (ht:W.tabIn X.K x=some (c,Pt)) (hq:X.env.qual++Str.ofString "<lambda>"=qual) (CQ:X.env.code=.ref c) (DW:PE X o1 (lQ i)) (he:backTo pos (starEach [o1] X.env)=(false,eval o1 X.env)::backTo pos (starEach [] X.env):=by rfl):@WF (fX a) X (.Call (.Name "sorted" p) [o1] [⟨some "key",.Lambda (qe pa) (lG pu pp pS pU IP pT) o5 zW,kp⟩] pos) (xl i):=by
 letI:=fX a
 exact⟨by
  letI:=fX a
  intro cM s σ H Q I ⟨C,δ,ds,sx,q,k⟩;unfold xl at q;split at q
  case h_2=>cases q
  rename_i k' hi;cases X3:Ee k' with
  |none=>rw[X3]at q;cases q
  |some kvs=>
   rw[X3]at q;simp only[ao]at q;split at q
   case isFalse=>cases q
   rename_i hlen;cases q;obtain⟨a',z1,z2,z3,z4⟩:=sx.mem i [k'] hi;cases z1;have hH:H a=some (.dK (zX kvs)):=z4 k' (by simp) kvs (Kc X3)
   obtain⟨cell,wF⟩:=I.ok.has (Str.ofString "uses") (.inl hk);refine wpAny_Call_Name_kw (kr I hg hm gA ?_);refine callWith_kw ?_ he (by rw[he];rfl) rfl rfl
   rw[he];refine Calls.spliced_cons (g7 (DW cM s σ H (λy H'=>y=.ref a/\H'=H) I ⟨.ref a,z2,rfl,rfl⟩) λu s1 ⟨y,H1,I1,r1,e1,e2⟩=>?_)
   subst e1 e2;obtain rfl:u=Value.ref a:=r1;refine Calls.spliced_nil ?_;refine kws_cons (OI I1 hT ht hq CQ wF λH2 s2 f c' L=>kws_nil ?_)
   have WT:H2 a=some (.dK (zX kvs)):=by
    rcases L.new with e|⟨u,hn,e⟩
    ·rw[e];exact hH
    ·rw[e,dg (dB hH hn)];exact hH
   have u9:s2.heap.IsCell cell (some (.ref a)):=by
    obtain⟨m,hn,hl⟩:=L.inv.loc;obtain⟨u,r,lk⟩:=hl i (Str.ofString "uses") (.ref a) hN z2 (.inr (.inl hk));obtain rfl:u=Value.ref a:=r;rcases lk with⟨rB,_⟩|⟨_,c2,vf,Vz⟩
    ·rw[hk]at rB;cases rB
    ·rw[wF]at vf;cases vf;exact Vz
   obtain⟨pm,BJ,R8⟩:=L.fn;refine ST.FY hc hu (by show X.A.depth<_;omega) L.inv WT ⟨pm,c',BJ,R8,L.cd⟩ u9 hlen.1 hlen.2 λD0 l hD lp pw=>?_
   have el:l=fi (kD kvs):=gw (λa b h1 h2=>HT.gR h2 h1) (lp.trans (eY _).symm) pw (rR _)
   have Mr:pK C H1 C H2:=by
    rcases L.new with e|⟨u,hn,e⟩
    ·rw[e];exact .refl sx.sub
    ·rw[e];exact .gm sx.sub hn
   have hD1:H1 D0=none:=Mr.h.free hD;have hv:l.map (λns=>V.int (ns.getD 1 0))=(l.map λns=>ns.getD 1 0).map V.int:=by rw[aV];rfl
   have hd:(fi (kD kvs)).map (λns=>D.int (ns.getD 1 0))=(l.map λns=>ns.getD 1 0).map D.int:=by rw[<-el,aV];rfl
   rw[hv];rw[hd]at k;exact k D0 _ C _ (Mr.trans (.gm Mr.s hD)).up hD1 (Mr.s.free hD) dh (.ints _)⟩
end
end DL
namespace DL
open L2
def _root_.L2.hW.ten (r:hW k A):A.depth+5<recursionLimit:=by have:=r.dp;omega
def OM {K:W.Frag}{x:Str}{f c P:cG}{fd:cB}{oc:cy}{od:cq}{sl:cu}(a:W.nsIn K mainGlobals x=some (some (.ref f))) (l:K.lookup f=some ⟨oc,od,.func fd,sl⟩) (h:W.tabIn K x=some (c,P)):fd.code=.ref c:=by
 unfold W.tabIn at h;rw[a]at h;simp only[l]at h;split at h
 ·rename_i c' hc;split at h
  ·split at h
   ·cases h;exact hc
   ·cases h
  ·cases h
 ·cases h
def RB {P:cC}{w:cD}{K:W.Frag}{mg:cg}{base:Heap}{x qual:Str}{st:cI}{f:cG}{fd:cB}{N ps:List Str}{k:Nat}(F:jW K x qual st f fd) (S:dA N ps (cY st)) {fb:bY}
  (jL:∀(A:cE) (outer:List Env) (s:cA) (H:Hp) (E:XK),hW k (A.deeper (envOfC qual (cY st) s.heap.objs.size f fd.code))->∀C0 H0,@wH Mem.keep (tY iY P w K mg base N qual (cY st) f fd.code A outer s H E).Hu C0 H0 (fO st) fb):
  eO P w K mg base iY (k+1) f fd ps (nR (gz N.length ps.length fb)):=by
 have key:∀fD,fd.code=fD->∀(A:cE) (outer:List Env) (s:cA) (H:Hp) (E:XK),hW k (A.deeper (envOfC qual (cY st) s.heap.objs.size f fD))->∀C0 H0,@wH Mem.keep (tY iY P w K mg base N qual (cY st) f fD A outer s H E).Hu C0 H0 (fO st) fb:=λfD e=>by
  subst e;exact jL
 obtain⟨oc,od,kV,doc,pm,an,fD,ct,TR,rfl,lk,yX⟩:=id F.ex;have key:=key fD rfl;letI:Mem:=Mem.keep
 refine Sf lk yX S (λvs H Q E h=>?_) λA outer s H vs Q E hr h=>?_
 all_goals
  obtain⟨C,ds,d,sub,i,q,k⟩:=h;unfold gz at q;split at q
  case isFalse=>cases q
  rename_i hl
 ·rw[i.length];exact hl
 ·exact⟨tS C C H fb,(@wH.go Mem.keep _ _ _ _ _ (key A outer s H E hr C H) C).Hu,tE (Fv S sub i hl) q λv C' H' ev i'=>k v C' H' ev.xQ i'⟩
def vU (f:bZ):bX:=λδ=>match f δ with
 |some (.lst ds)=>if ds.length<=18 then(jZ ds).map λnss=>(fi nss.eraseDups).map tupI else none
 |_=>none
def Ge (h:tupI a=tupI b):a=b:=by
 have h':a.map D.int=b.map D.int:=by injection h
 have:=congrArg (List.map λd=>match d with|D.int i=>i|_=>0) h'
 simpa [aV,Function.comp_def]using this
theorem ni:∀(n:Nat) (l:cn),l.length<=n->l.eraseDups.Nodup
 |0,l,h=>by
  have:l=[]:=length_eq_zero_iff.mp (by omega)
  subst this;exact nodup_nil
 |n+1,[],_=>nodup_nil
 |n+1,a::l,h=>by
  rw[eraseDups_cons];have hl:=aW (λb=> !b==a) l
  refine nodup_cons.mpr ⟨λhm=>?_,ni n _ (by simp at h;omega)⟩
  have:=mem_filter.mp (mem_eraseDups.mp hm);simp at this
section
variable [Mem] {X:Cx}{e:cH}{f:bZ}{p p2 pos gP:Pos}
def IV (hc:X.calm=true) (hu:X.A.units+64<cLine) (hg1:Gl X "sorted") (Lg:X.mg "sorted"=none) (hg2:Gl X "set") (Cp:X.mg "set"=none) (ha:WO X e f)
  (Qk:starEach [.Call (.Name "set" p2) [e] [] gP] X.env=(false,eval (.Call (.Name "set" p2) [e] [] gP) X.env)::starEach [] X.env:=by exact fS rfl) (K0:cL e [] X.env:=by exact fS rfl):
  WF X (.Call (.Name "sorted" p) [.Call (.Name "set" p2) [e] [] gP] [] pos) (vU f):=⟨by
 have ha:=ha.go;intro cM s σ H Q I ⟨C,δ,ds,x,q,k⟩;unfold vU at q;split at q
 case h_2=>cases q
 rename_i es0 hf;split at q
 case isFalse=>cases q
 rename_i YT;cases hn:jZ es0 with
 |none=>rw[hn]at q;cases q
 |some nss=>
  rw[hn]at q;cases q;have ee:=tH hn;subst ee;refine wpAny_Call_Name_kw (kr I hg1 Lg gA ?_);refine PyProof.Rows.callWith_builtin1 ?_ Qk rfl;rw[Qk];show wpAny _ _ (spliced ((false,eval (.Call (.Name "set" p2) [e] [] gP) X.env)::backTo pos (starEach [] X.env))) _ _ s;refine Calls.spliced_cons ?_;refine wpAny_Call_Name_kw (kr I hg2 Cp PyProof.Rows.boot_set ?_);refine PyProof.Rows.callWith_type1 (g7 ((jy ha rK K0) gP cM s σ H (λvs H1=>∃v C1,vs=[v]/\Ev C H C1 H1/\pL C1 H1 v (.lst (nss.map tupI))) I ⟨C,δ,_,x,hf,λv C1 H1 ev iv=>⟨v,C1,rfl,ev,iv⟩⟩) λus s1 ⟨vs,H1,I1,r1,v,C1,e1,ev,iv⟩=>?_) K0 rfl
  subst e1;obtain⟨u,rfl,ru⟩:=r1.one;obtain⟨a,xs,rfl,hq,hl⟩:=iv.list (K:=X.K) ev.s;cases ru;obtain⟨dE,rv,pl,hz⟩:=I1.list hq;have hlx:xs.length=nss.length:=by rw[hl.length,ae]
  have Oh:dE.length=nss.length:=by rw[<-rv.length,hlx]
  rw[ae]at YT;have itemAt:∀(i:Nat) (w:cy),dE[i]? =some w->∃(b:cG) (ns:cp),nss[i]? =some ns/\w=.ref b/\mB X.K H1 b (ns.map V.int)/\Is C1 (.ref b) (tupI ns)/\ST.TI s1.heap w ns:=λi w hw=>by
   have hi:i<nss.length:=by rw[<-Oh];exact(List.getElem?_eq_some_iff.mp hw).1
   have Hn:nss[i]? =some nss[i]:=ah hi;obtain⟨v,hv,isv⟩:=hl.get (i:=i) (d:=tupI nss[i]) (by rw[av,Hn];rfl)
   obtain⟨w',hw',QI⟩:=rv.get hv;rw[hw]at hw';cases hw';cases isv with
   |@tup b ys _ hb l=>
    have ey:=l.lE;subst ey;cases QI;have hsq:mB X.K H1 b (nss[i].map V.int):=mB.of (ev.s _ _ hb);obtain⟨ts,r2,⟨o,ho,My,n,hd⟩,_⟩:=I1.tuple hsq;exact⟨b,nss[i],Hn,rfl,hsq,.tup hb l,b,o,ts,n,rfl,ho,My,hd,intsAre_of r2⟩
  have hh:X.A.handled=none:=I1.ok.hd hc;refine ST.BG (val:=nss.map tupI) hh (by omega) pl.isList (by rw[aq,ae];exact Oh) (λi w hw=>?_) (by rw[aq];omega) λh' tk SR=>?_
  ·obtain⟨b,ns,h1,h2,h3,h4,h5⟩:=itemAt i w (by simpa using hw)
   have eg:(nss.map tupI).getD i .eU=tupI ns:=by rw[ak,av,h1];rfl
   rw[eg];refine⟨⟨b,h2⟩,?_,h5.ki⟩;unfold tupI eV;have:∀l:cp,jO (l.map D.int)=0:=λl=>by
    induction l with
    |nil=>unfold jO;rfl
    |cons a l ih=>rw[aF];unfold jO eV;rw[ih];rfl
   rw[this];decide
  ·obtain⟨⟨JP,uJ,FQ⟩,keep⟩:=SR;have I2:Inv X cM σ H1 {s1 with heap:=h',toks:=tk}:=I1.kept (t':=tk) λb o eo=>keep b o (aB eo) eo
   have IG:JP.length<=nss.length:=by
    have:=bV (l₂:=nss.map tupI) uJ.nd λd hd=>(FQ d).mp hd
    rwa [ae]at this
   refine Calls.spliced_nil ?_;refine ST.IL (s:={s1 with heap:=h',toks:=tk}) (R0:=λb ns=>Is C1 (.ref b) (tupI ns)) hc hu I2 uJ (by omega) (λw hw=>?_) λD0 l hD hR hpw Mq=>?_
   ·obtain⟨i,hi⟩:=bo (show w∈dE by simpa using hw)
    obtain⟨b,ns,_,h2,h3,h4,_⟩:=itemAt i w hi;exact⟨b,ns,h2,h3,h4⟩
   ·have nd2:(l.map (·.2)).Nodup:=by
     have h1:((l.map (·.2)).map tupI).Nodup:=by rw[aV];exact Mq.nodup_iff.mpr uJ.nd
     exact(pairwise_map.mp h1).imp λjX z=>jX (by rw[z])
    have pm2:(l.map (·.2)).Perm nss.eraseDups:=by
     refine(perm_ext_iff_of_nodup nd2 (ni _ nss (au _))).mpr λns=>?_
     rw[mem_eraseDups];have h1:tupI ns∈JP↔ns∈l.map (·.2):=by
      rw[<-Mq.mem_iff,mem_map,mem_map];constructor
      ·rintro⟨p',LA,e'⟩;exact⟨p',LA,Ge e'⟩
      ·rintro⟨p',LA,rfl⟩;exact⟨p',LA,rfl⟩
     rw[<-h1,FQ,mem_map];constructor
     ·rintro⟨m',NJ,e'⟩;rw[<-Ge e'];exact NJ
     ·intro NJ;exact⟨ns,NJ,rfl⟩
    have es:l.map (·.2)=fi nss.eraseDups:=gw (λa b h1 h2=>HT.gR h2 h1) (pm2.trans (eY _).symm) hpw (rR _)
    refine k D0 _ C1 _ (ev.trans (.gm ev.s hD)) (ev.free hD) (ev.s.free hD) dh ?_;show IsL C1 _ ((fi nss.eraseDups).map tupI);rw[<-es,aV];have aux:∀l:List (cG×cp),(∀p∈l,Is C1 (.ref p.1) (tupI p.2))->IsL C1 (l.map λp=>V.ref p.1) (l.map (tupI∘λp=>p.2)):=λl=>by
     induction l with
     |nil=>intro _;exact .nil
     |cons p l ih=>intro h;exact .cons (h p af) (ih λq hq=>h q (ai _ hq))
    exact aux l hR⟩
end
end DL
namespace LW
open DL
open L2 (mE E6)
def Ei (p:(xs++rest).Perm (ns.map D.int)):∃ms rs:cp,xs=ms.map D.int/\rest=rs.map D.int/\(ms++rs).Perm ns:=by
 have all:∀x∈xs++rest,∃i,x=D.int i:=λx hx=>by
  have:=p.mem_iff.mp hx;obtain⟨i,_,e⟩:=mem_map.mp this;exact⟨i,e.symm⟩
 have ex:∀l:cw,(∀x∈l,∃i,x=D.int i)->∃ms:cp,l=ms.map D.int:=by
  intro l;induction l with
  |nil=>intro _;exact⟨[],rfl⟩
  |cons a l ih=>
   intro h;obtain⟨i,rfl⟩:=h a af;obtain⟨ms,rfl⟩:=ih λx hx=>h x (ai _ hx)
   exact⟨i::ms,rfl⟩
 obtain⟨ms,e1⟩:=ex xs λx hx=>all x (bC _ hx)
 obtain⟨rs,e2⟩:=ex rest λx hx=>all x (aL _ hx)
 refine⟨ms,rs,e1,e2,?_⟩;subst e1 e2
 let g:D->Int:=λd=>match d with|.int i=>i|_=>0
 have hg:∀l:cp,(l.map D.int).map g=l:=λl=>by rw[aV];exact map_id _
 have q:=p.map g;rw[hg,map_append,hg,hg]at q;exact q
structure Aa (many:Int) (l:cp):Prop where
 ne:l≠[]
 four:l.length<=4
 rise:l.Pairwise (·< ·)
 inn:∀p∈l,0<=p/\p<many
def mR (h:ns.Nodup):(sortI ns).Pairwise (·< ·):=by
 have h1:=zC ns;have h2:(sortI ns).Nodup:=(sortI_perm ns).nodup_iff.mpr h;have:=List.Pairwise.and h1 h2;exact this.imp λ{a b} ⟨x,y⟩=>by omega
def Ej (h:ns.length<64):kA [.lst (ns.map D.int)]=some ((sortI ns).map D.int):=by
 simp only[kA,ae,if_pos h,jc]
theorem CT:∀(a b:cp),jY (a.map D.int) (b.map D.int)=decide (a=b)
 |[],[]=>by unfold jY;simp
 |[],_::_=>by unfold jY;simp
 |_::_,[]=>by unfold jY;simp
 |x::a,y::b=>by
  show jY (.int x::a.map D.int) (.int y::b.map D.int)=_;unfold jY jJ;rw[CT a b];by_cases h1:x=y<;>by_cases h2:a=b<;>simp[h1,h2]
def Ab (a b:cp):jJ (tupI a) (tupI b)=decide (a=b):=by
 unfold tupI;unfold jJ;exact CT a b
def xm (a:cp) (nss:cn):memD (tupI a) (nss.map tupI)=decide (a∈nss):=by
 unfold memD;rw[any_map];induction nss with
 |nil=>simp
 |cons b r ih=>
  rw[bF,ih];simp only[Function.comp_apply,Ab];by_cases h1:b=a
  ·simp[h1]
  ·have:¬ a=b:=λz=>h1 z.symm
   simp[h1,this]
theorem o7:∀ns:cp,jO (ns.map D.int)=0
 |[]=>by unfold jO;rfl
 |n::r=>by
  show jO (.int n::r.map D.int)=0;unfold jO eV;rw[o7 r];rfl
def Gf (ns:cp):eV (tupI ns)=1:=by
 unfold tupI eV;rw[o7]
theorem mS:∀nss:cn,jO (nss.map tupI)<=1
 |[]=>by show jO []<=1;unfold jO;omega
 |n::r=>by
  show jO (tupI n::r.map tupI)<=1;unfold jO;rw[Gf];have:=mS r;omega
structure RC (least most mx many:Int) (ls:cn):Prop where
 lo:least<=many
 hi:many<=most
 num:(ls.length:Int)<=mx
 rise:ls.Pairwise (λa b=>HT.lexLt a b=true)
 line:∀l∈ls,Aa many l
def ON (ls:cn):D:=.tup (ls.map tupI)
def dF (many:Int) (ls:cn):D:=.tup [.int many,ON ls]
def Ac (h:nss≠[]):intsOf (nss.map tupI)=none:=by
 cases nss with
 |nil=>exact absurd rfl h
 |cons a r=>rfl
def Ek (h:nss.length<64) (jX:∀l∈nss,l≠[]):kA [.lst (nss.map tupI)]=some ((fi nss).map tupI):=by
 cases nss with
 |nil=>
  simp[kA,intsOf,sortI,fi]
 |cons a r=>
  simp only[kA,ae,if_pos h,Ac (cons_ne_nil a r),mY,ao];rw[if_pos];rw[all_eq_true];intro x hx;have:=jX x hx;cases x with
  |nil=>exact absurd rfl this
  |cons _ _=>rfl
def nj (h:nss.Nodup):(fi nss).Pairwise (λa b=>HT.lexLt a b=true):=by
 have h1:=rR nss;have h2:(fi nss).Nodup:=(eY nss).nodup_iff.mpr h;have:=List.Pairwise.and h1 h2;refine this.imp λ{a b} ⟨x,y⟩=>?_
 cases e:HT.lexLt a b with
 |true=>rfl
 |false=>exact absurd (HT.gR e x) y
def dU (hl:ds.length=np) (h:f (ds.map Sl.dat++replicate (n-np) Sl.no)=some (.ret d)):gz n np f ds=some d:=by
 unfold gz;rw[if_pos hl,h]
def cS (h:f δ=some (.next δ')):dH f g δ=g δ':=by unfold dH;rw[h]
def fs3 (hm:1<=many):∃z:Int,1<=z/\z<=4/\z<=many/\m6 [cJ c,cJ least,cJ most,cJ lines,cJ many,.own fd,cJ k,x7,x8,x9,.no]=
   some (.next [cJ c,cJ least,cJ most,cJ lines,cJ many,.own fd,cJ k,cJ z,x8,x9,.no]):=by
 have h4:0<(if many<4 then many else 4):=by split<;>omega
 have a1:=vM (c:=c+7*k) (p:=9949) h4;have a2:=vN (c:=c+7*k) (p:=9949) h4;refine⟨1+lW (c+7*k) 9949 (if many<4 then many else 4),by omega,?_,?_,?_⟩
 ·have:(if many<4 then many else 4)<=4:=by split<;>omega
  omega
 ·have:(if many<4 then many else 4)<=many:=by split<;>omega
  omega
 ·simp[m6,i6,dw,cU,cN,cT,dC,df,kZ,Bs,oI,Np,Nr,zt,FL (p:=9949) (by omega) h4]
def fs5 (h1:1<=z) (h4:z<=4) (hm:z<=many):∃y:Int,1<=y/\y<=4/\y<=many/\iq [cJ c,cJ least,cJ most,cJ lines,cJ many,.own fd,cJ k,cJ z,x8,x9,.no]=
   some (.next [cJ c,cJ least,cJ most,cJ lines,cJ many,.own fd,cJ k,cJ y,x8,x9,.no]):=by
 by_cases h:0<c%3/\z=1/\1<many
 ·refine⟨2,by omega,by omega,by omega,?_⟩
  obtain⟨a,rfl,b⟩:=h;simp[iq,jg,kW,i6,pQ,qB,dw,dC,df,QU,DP,oI,Np,HW,nS,eV,jJ,a,b]
 ·refine⟨z,h1,h4,hm,?_⟩;by_cases a:0<c%3
  ·by_cases b:z=1
   ·have d:¬ 1<many:=λd=>h ⟨a,b,d⟩
    simp[iq,jg,kW,fW,pQ,qB,dw,dC,df,QU,DP,oI,Np,HW,nS,eV,jJ,a,b,d]
   ·have b':(z==1)=false:=by simpa using b
    simp[iq,jg,kW,fW,pQ,qB,dw,dC,df,QU,DP,oI,Np,HW,nS,eV,jJ,a,b']
  ·simp[iq,jg,kW,fW,pQ,qB,dw,dC,df,QU,DP,oI,Np,HW,nS,eV,jJ,a]
def fs6 (h1:1<=many) (hm:many<=60):m7 [cJ c,cJ least,cJ most,cJ lines,cJ many,.own fd,cJ k,cJ z,x8,x9,.no]=
   some (.next [cJ c,cJ least,cJ most,cJ lines,cJ many,.own fd,cJ k,cJ z,.own ((dD 0 many.toNat).map D.int),x9,.no]):=by
 have a:many<1000000:=by omega
 have b: -1000000<many:=by omega
 simp[m7,gQ,wG,cN,cT,cW,a,b]
def fs7 (h1:1<=many) (hm:many<=60) (z1:1<=z) (z2:z<=many):∃ms rs:cp,(ms++rs).Perm (dD 0 many.toNat)/\(ms.length:Int)=z/\
  m8 [cJ c,cJ least,cJ most,cJ lines,cJ many,.own fd,cJ k,cJ z,.own ((dD 0 many.toNat).map D.int),x9,.no]=
   some (.next [cJ c,cJ least,cJ most,cJ lines,cJ many,.own fd,cJ k,cJ z,.own (rs.map D.int),.own (ms.map D.int),.no]):=by
 have hl:((dD 0 many.toNat).map D.int).length=many.toNat:=by rw[ae,eF]
 have La:((dD 0 z.toNat).map D.int).length=z.toNat:=by rw[ae,eF]
 obtain⟨xs,rest,e,p,l⟩:=J1 (j:=10) (m:=8) (f:=cU eC (cN (dw kZ (dw kZ (df 0) (dw Bs (dC (.int 11)) (df 6))) (dw Bs (dC (.int 3)) (df 10))) (cN (dC (.int 9941)) (cN (dw rN (df 4) (df 10)) cT))))
  (δ:=[cJ c,cJ least,cJ most,cJ lines,cJ many,.own fd,cJ k,cJ z,.own ((dD 0 many.toNat).map D.int),x9,.no])
  ((dD 0 z.toNat).map D.int) ((dD 0 many.toNat).map D.int) (by omega) (λi d lc hd hk=>by
   rw[av,pR]at hd;split at hd
   ·rename_i hi;cases hd;have hp:0<many-(0+(i:Int)):=by omega
    refine⟨lW (c+11*k+3*(0+(i:Int))) 9941 (many-(0+(i:Int))),?_,vM hp,?_⟩
    ·have LA:0<many-(i:Int):=by omega
     simp[cU,cN,cT,dw,df,dC,kZ,rN,Bs,oI,Np,Nr,FL (p:=9941) (by omega) LA]
    ·have:=vN (c:=c+11*k+3*(0+(i:Int))) (p:=9941) hp;omega
   ·cases hd)
 obtain⟨ms,rs,rfl,rfl,q⟩:=Ei p;refine⟨ms,rs,q,?_,?_⟩
 ·rw[ae]at l;omega
 ·have a:many.toNat<1000000:=by omega
  have b:z<1000000:=by omega
  have b': -1000000<z:=by omega
  have b2:z.toNat<1000000:=by omega
  simp only[m8,Fz,aK,aM,hl,if_pos a,wG,cN,cT,cW,ao,bA,if_pos (And.intro b b'),La,if_pos b2,e];rfl
def fs9 (hz:ms.length<64) (hd:found.length<1000000):jh [cJ c,cJ least,cJ most,cJ lines,cJ many,.own (found.map tupI),cJ k,cJ z,x8,.dat (.lst (ms.map D.int)),.no]=
   some (.next [cJ c,cJ least,cJ most,cJ lines,cJ many,.own ((if sortI ms∈found then found else found++[sortI ms]).map tupI),cJ k,cJ z,x8,.dat (.lst (ms.map D.int)),.no]):=by
 have Oo:jO (found.map tupI)<=30:=aD (mS _) (by decide)
 have e1:∀x5,(cU i7 (cN (dL (eP kA (cN (df 9) cT))) cT)) [cJ c,cJ least,cJ most,cJ lines,cJ many,x5,cJ k,cJ z,x8,.dat (.lst (ms.map D.int)),.no]=some (tupI (sortI ms)):=λx5=>by
  simp[cU,eP,cN,cT,df,dL,Ej hz,i7,tupI]
 by_cases h:sortI ms∈found
 ·simp only[jh,nc,kW,qB,dw,e1,df,aK,aM,ao,vq,uc,if_pos Oo,xm,if_pos h,aR h,bS,fW]
 ·simp only[jh,nc,kW,qB,dw,e1,df,aK,aM,ao,vq,uc,if_pos Oo,xm,if_neg h,aH h,Bool.not_false,HX,ae,if_pos hd,map_append,aF,map_nil];rfl
def IW {c least most lines many k:Int}{found:cn}{x7 x8 x9:Sl}(hm:1<=many) (Cp:many<=60) (Qf:found.Nodup) (hl:∀l∈found,Aa many l) (hlen:found.length<60):
  ∃(Em:cn) (y7 y8 y9:Sl),iQ [cJ c,cJ least,cJ most,cJ lines,cJ many,.own (found.map tupI),cJ k,x7,x8,x9,.no]=
   some (.next [cJ c,cJ least,cJ most,cJ lines,cJ many,.own (Em.map tupI),cJ k,y7,y8,y9,.no])/\Em.Nodup/\(∀l∈Em,Aa many l)/\Em.length<=found.length+1:=by
 obtain⟨z,z1,z2,z3,e3⟩:=fs3 (c:=c) (least:=least) (most:=most) (lines:=lines) (k:=k) (fd:=found.map tupI) (x7:=x7) (x8:=x8) (x9:=x9) hm;obtain⟨y,y1,y2,y3,e5⟩:=fs5 (c:=c) (least:=least) (most:=most) (lines:=lines) (k:=k) (fd:=found.map tupI) (x8:=x8) (x9:=x9) z1 z2 z3;obtain⟨ms,rs,p,l,e7⟩:=fs7 (c:=c) (least:=least) (most:=most) (lines:=lines) (k:=k) (fd:=found.map tupI) (x9:=x9) hm Cp y1 y3;have nd:(ms++rs).Nodup:=p.nodup_iff.mpr ((ji _ _).imp λ{a b} h=>by omega)
 have nd1:ms.Nodup:=(nodup_append.mp nd).1;have sp:=sortI_perm ms;have ok:Aa many (sortI ms):=by
  refine⟨λz=>?_,?_,mR nd1,λx hx=>?_⟩
  ·have:=sp.length_eq;rw[z]at this;simp only[length_nil]at this;omega
  ·have:=sp.length_eq;omega
  ·have h1:x∈ms++rs:=bC _ (sp.mem_iff.mp hx);have h2:=(g8 _ _ _).mp (p.mem_iff.mp h1);omega
 refine⟨if sortI ms∈found then found else found++[sortI ms],cJ y,.own (rs.map D.int),.dat (.lst (ms.map D.int)),?_,?_,?_,?_⟩
 ·unfold iQ;rw[cS e3,cS e5,cS (fs6 hm Cp),cS e7];show jh (wU 9 _)=_;have eg:wU 9 [cJ c,cJ least,cJ most,cJ lines,cJ many,.own (found.map tupI),cJ k,cJ y,.own (rs.map D.int),.own (ms.map D.int),.no]=[cJ c,cJ least,cJ most,cJ lines,cJ many,.own (found.map tupI),cJ k,cJ y,.own (rs.map D.int),.dat (.lst (ms.map D.int)),.no]:=rfl;rw[eg];exact fs9 (by omega) (by omega)
 ·split
  ·exact Qf
  ·rename_i h;rw[nodup_append];exact⟨Qf,(by simp),λa ha b hb=>by rw[br]at hb;subst hb;intro z;subst z;exact h ha⟩
 ·split
  ·exact hl
  ·intro l pM;rcases mem_append.mp pM with h|h
   ·exact hl l h
   ·rw[br]at h;subst h;exact ok
 ·split
  ·omega
  ·simp
def RD (h1:1<=least) (h2:least<=most) (h3:most<=60) (h4:0<=lines) (h5:lines<=50):∃many ls,fL [.int c,.int least,.int most,.int lines]=some (dF many ls)/\RC least most lines many ls:=by
 have hp:0<most-least+1:=by omega
 have hq:0<lines+1:=by omega
 have a1:=vM (c:=c) (p:=9973) hp;have a2:=vN (c:=c) (p:=9973) hp;have b1:=vM (c:=c) (p:=9967) hq;have b2:=vN (c:=c) (p:=9967) hq;obtain⟨δ',e,found,y6,y7,y8,y9,hδ,nd,hl,hn⟩:=FN (j:=6) (f:=iQ) (λn δ=>∃(found:cn) (y6 y7 y8 y9:Sl),δ=[cJ c,cJ least,cJ most,cJ lines,cJ (least+lW c 9973 (most-least+1)),.own (found.map tupI),y6,y7,y8,y9,.no]/\found.Nodup/\(∀l∈found,Aa (least+lW c 9973 (most-least+1)) l)/\found.length<=n)
  ((dD 0 (lW c 9967 (lines+1)).toNat).map D.int) 0 [cJ c,cJ least,cJ most,cJ lines,cJ (least+lW c 9973 (most-least+1)),.own [],.no,.no,.no,.no,.no] ⟨[],.no,.no,.no,.no,rfl,nodup_nil,(λ_ h=>nomatch h),au _⟩
  (λi δ d hd ⟨found,y6,y7,y8,y9,hδ,nd,hl,hn⟩=>by
   have hi:=(List.getElem?_eq_some_iff.mp hd).1;rw[ae,eF]at hi;rw[av,pR,if_pos hi]at hd;cases hd;subst hδ;obtain⟨f',z7,z8,z9,e,q1,q2,q3⟩:=IW (c:=c) (least:=least) (most:=most) (lines:=lines) (k:=0+(i:Int)) (x7:=y7) (x8:=y8) (x9:=y9) (many:=least+lW c 9973 (most-least+1)) (by omega) (by omega) nd hl (by omega)
   exact⟨_,e,f',_,z7,z8,z9,rfl,q1,q2,by omega⟩)
 subst hδ;rw[ae,eF]at hn;refine⟨least+lW c 9973 (most-least+1),fi found,?_,⟨by omega,by omega,?_,nj nd,λl h=>hl l ((eY found).mem_iff.mp h)⟩⟩
 ·have e1:m4 [cJ c,cJ least,cJ most,cJ lines,.no,.no,.no,.no,.no,.no,.no]=some (.next [cJ c,cJ least,cJ most,cJ lines,cJ (least+lW c 9973 (most-least+1)),.no,.no,.no,.no,.no,.no]):=by
   simp[m4,i6,dw,cU,cN,cT,dC,df,cW,kZ,rN,oI,FL (p:=9973) (by omega) hp]
  have e2:m5 [cJ c,cJ least,cJ most,cJ lines,cJ (least+lW c 9973 (most-least+1)),.no,.no,.no,.no,.no,.no]=some (.next [cJ c,cJ least,cJ most,cJ lines,cJ (least+lW c 9973 (most-least+1)),.own [],.no,.no,.no,.no,.no]):=by
   simp[m5,gQ,rO,cT]
  have c1:lW c 9967 (lines+1)<1000000:=by omega
  have c2: -1000000<lW c 9967 (lines+1):=by omega
  have U8:md [cJ c,cJ least,cJ most,cJ lines,cJ (least+lW c 9973 (most-least+1)),.own [],.no,.no,.no,.no,.no]=some (.next [cJ c,cJ least,cJ most,cJ lines,cJ (least+lW c 9973 (most-least+1)),.own (found.map tupI),y6,y7,y8,y9,.no]):=by
   rw[<-e];simp[md,kz,wG,dw,cU,cN,cT,dC,df,cW,kZ,oI,FL (p:=9967) (by omega) hq,c1,c2]
  refine dU rfl ?_;show lF [cJ c,cJ least,cJ most,cJ lines,.no,.no,.no,.no,.no,.no,.no]=_;unfold lF;rw[cS e1,cS e2,cS U8];have hs:=Ek (nss:=found) (by omega) (λl h=>(hl l h).ne)
  have z:(me [cJ c,cJ least,cJ most,cJ lines,cJ (least+lW c 9973 (most-least+1)),.own (found.map tupI),y6,y7,y8,y9,.no])=some (.ret (dF (least+lW c 9973 (most-least+1)) (fi found))):=by
   simp[me,eh,fV,cU,eP,cN,cT,cW,df,dL,hs,i7,dF,ON]
  exact z
 ·have:=(eY found).length_eq;omega
theorem mJ:∀(ds:cw),(∀d∈ds,t (δ.set j (.dat d))=some (p d))->(∀d∈ds,p d=true->f (δ.set j (.dat d))=some (g d))->j5 j t f δ ds=some ((ds.filter p).map g)
 |[],_,_=>rfl
 |d::ds,h,h2=>by
  unfold j5;have ih:=mJ (p:=p) (g:=g) ds (λx hx=>h x (ai _ hx)) λx hx=>h2 x (ai _ hx)
  rw[h d af];cases e:p d with
  |true=>simp only[h2 d af e,ao,ih,bA,filter_cons_of_pos e,aF]
  |false=>simp only[ih,bq,e,aI,bD]
def o8 {α:Type}(l:List α) (q:α->Bool):By [.lst (l.map λx=>D.bl (q x))]=some (.bl (l.all q)):=by
 have:(l.map λx=>D.bl (q x))=(l.map q).map D.bl:=by rw[aV];rfl
 rw[this];show(oX ((l.map q).map D.bl)).map _=_;rw[Ln];simp[all_map]
def qf (l:List α) (i:Nat) (h:i<l.length):mE l (i:Int)=l[i]? :=by
 unfold mE E6;rw[if_pos (by omega),if_pos (by omega)]
 simp
noncomputable def jj {α:Type}(lt:α->α->Bool):List α->Bool
 |a::b::r=>lt a b&&jj lt (b::r)
 |_=>true
theorem uU {α:Type}{lt:α->α->Bool}:∀l:List α,jj lt l=true↔∀(k:Nat) (h:k+1<l.length),lt l[k] l[k+1]=true
 |[]=>by simp[jj]
 |[a]=>by simp[jj]
 |a::b::r=>by
  rw[jj,Bool.and_eq_true,uU (b::r)];constructor
  ·rintro⟨h1,h2⟩ k hk
   cases k with
   |zero=>exact h1
   |succ k=>exact h2 k (by simpa using hk)
  ·intro h;refine⟨h 0 (by simp),λk hk=>?_⟩
   exact h (k+1) (by simpa using hk)
def j0 (h:l.Pairwise λa b=>lt a b=true):jj lt l=true:=by
 rw[uU];intro k hk;exact pairwise_iff_getElem.mp h k (k+1) (by omega) hk (by omega)
def IX {n:Nat}{q:Int->Bool}:(dD 0 n).all q=true↔∀k:Nat,k<n->q k=true:=by
 rw[all_eq_true];constructor
 ·intro h k hk;exact h k ((g8 _ _ _).mpr (by omega))
 ·intro h x hx;have:=(g8 _ _ _).mp hx;have e:=h x.toNat (by omega)
  rwa [show((x.toNat:Nat):Int)=x by omega]at e
end LW
namespace GP
open DL
open L2 (mE E6)
def jk (many:Int) (ls:cn) (f b g:Int):D:=.tup [.tup [.int many,.tup (ls.map tupI)],.int f,.int b,.int g]
noncomputable def fY (m l:cp):Bool:=l.all λp=>decide (p∈m)
noncomputable def jl (y l:cp):Bool:=l.any λp=>decide (p∈y)
def CU (ls:cn) (m y:cp):Option Int:=
 if ls.any (fY m)then some 0 else if ls.all (jl y)then some 1 else none
noncomputable def aaD:Option Int->D
 |some i=>.int i
 |none=>.eU
def Gg (p:Int) (m:cp):memD (.int p) (m.map D.int)=decide (p∈m):=by
 unfold memD;rw[any_map];induction m with
 |nil=>simp
 |cons b r ih=>
  rw[bF,ih];have:(Function.comp (λe=>jJ e (D.int p)) D.int) b=decide (p=b):=by
   show jJ (.int b) (.int p)=_;unfold jJ;by_cases h:b=p
   ·simp[h]
   ·have h2:¬ p=b:=λz=>h z.symm
    simp[h,h2]
  rw[this];by_cases h1:p=b<;>simp[h1]
def nX (p:Int) (m:cp):uN (.int p) (tupI m)=some (.bl (decide (p∈m))):=by
 unfold uN tupI uc;simp only[ao,LW.o7,Gg];rfl
def r9 (p:Int) (m:cp):vq (.int p) (tupI m)=some (.bl (!decide (p∈m))):=by
 unfold vq tupI uc;simp only[ao,LW.o7,Gg];rfl
noncomputable def intOf:D->Int
 |.int i=>i
 |_=>0
def sd (p:Int->Bool) (l:cp):(l.map D.int).filter (λd=>p (intOf d))=(l.filter p).map D.int:=by
 rw[filter_map];rfl
theorem Kh (m:cp):∀l:cp,fY m l=(l.filter λi=> !decide (i∈m)).isEmpty
 |[]=>rfl
 |a::l=>by
  have ih:=Kh m l;unfold fY at ih ⊢;by_cases h:a∈m
  ·simp only[all_cons,bq,h,decide_true,Bool.true_and,bS,ih];rfl
  ·simp[all_cons,bq,h]
theorem Gh (y:cp):∀l:cp,jl y l= !(l.filter λi=>decide (i∈y)).isEmpty
 |[]=>rfl
 |a::l=>by
  have ih:=Gh y l;unfold jl at ih ⊢;by_cases h:a∈y
  ·simp[bF,bq,h]
  ·simp only[bF,bq,h,decide_false,Bool.false_or,ih];rfl
def lj (m y:cp) (w:Int) (c:cp):cp×cp:=if w=0 then(sortI (m++c),y)else(m,sortI (y++c))
def qg (h:ns.length<64):iP [tupI ns]=some ((sortI ns).map D.int):=by
 simp only[iP,tupI,ae,if_pos h,jc,bA]
def o9 (h:a.length+b.length<64):lh (tupI a) (tupI b)=some (tupI (a++b)):=by
 have:a.length+b.length<=1000000:=by omega
 simp[lh,tupI,this]
noncomputable def behind (c:cp) (p:Int):Bool:=match c.getLast? with|none=>true|some q=>decide (q<p)
def xn (some:cp) (c:cp):cn:=(some.filter (behind c)).map λp=>c++[p]
def S0 (some:cp) (cs:cn):cn:=cs.flatMap (xn some)
def CV (some:cp):Nat->cn
 |0=>[[]]
 |k+1=>S0 some (CV some k)
def dS (many:Int) (m y:cp):cp:=(dD 0 many.toNat).filter λp=> !decide (p∈m++y)
noncomputable def CW (b g w:Int) (free:cp):Nat:=(if(free.length:Int)<(if w=0 then b else g)then(free.length:Int)else(if w=0 then b else g)).toNat
def qh (many b g:Int) (m y:cp) (w:Int):cn:=CV (dS many m y) (CW b g w (dS many m y))
def pe (many:Int) (m y:cp):(dS many m y).length<=many.toNat:=by
 unfold dS;have:=aW (λp=> !decide (p∈m++y)) (dD 0 many.toNat)
 rwa [eF]at this
abbrev eR (l:cp):Prop:=l.Pairwise (·< ·)
theorem nk:∀{a b:cp},eR a->eR b->(∀p,p∈a↔p∈b)->a=b
 |[],[],_,_,_=>rfl
 |[],y::b,_,_,h=>absurd ((h y).mpr af) (by simp)
 |x::a,[],_,_,h=>absurd ((h x).mp af) (by simp)
 |x::a,y::b,ha,hb,h=>by
  obtain⟨a1,a2⟩:=pairwise_cons.mp ha;obtain⟨b1,b2⟩:=pairwise_cons.mp hb;have e:x=y:=by
   have h1:=(h x).mp af;have h2:=(h y).mpr af;rcases mem_cons.mp h1 with z|z
   ·exact z
   ·rcases mem_cons.mp h2 with u|u
    ·exact u.symm
    ·have:=b1 x z;have:=a1 y u;omega
  subst e;rw[nk a2 b2 λp=>?_]
  constructor
  ·intro hp;have:=a1 p hp;rcases mem_cons.mp ((h p).mp (ai _ hp))with z|z
   ·omega
   ·exact z
  ·intro hp;have:=b1 p hp;rcases mem_cons.mp ((h p).mpr (ai _ hp))with z|z
   ·omega
   ·exact z
noncomputable def code (l:cp):Nat->Nat
 |0=>0
 |k+1=>2*code l k+(if(k:Int)∈l then 1 else 0)
theorem vV (l:cp):∀k,code l k<2^k
 |0=>by simp[code]
 |k+1=>by
  have:=vV l k;unfold code;rw[Nat.pow_succ];split<;>omega
theorem code_inj:∀k,code a k=code b k->∀i:Nat,i<k->((i:Int)∈a↔(i:Int)∈b)
 |0,_,i,h=>absurd h (by omega)
 |k+1,e,i,h=>by
  unfold code at e;have e1:code a k=code b k:=by split at e<;>split at e<;>omega
  by_cases hi:i=k
  ·subst hi;by_cases h1:(i:Int)∈a<;>by_cases h2:(i:Int)∈b<;>simp[h1,h2]at e ⊢<;>omega
  ·exact code_inj k e1 i (by omega)
structure nr (many:Int) (m y:cp):Prop where
 rm:eR m
 ry:eR y
 im:∀p∈m,0<=p/\p<many
 iy:∀p∈y,0<=p/\p<many
 dj:∀p∈m,p∉y
def Gi (hm:many<=9) (ra:eR a) (rb:eR b) (ia:∀p∈a,0<=p/\p<many) (ib:∀p∈b,0<=p/\p<many) (e:code a 9=code b 9):a=b:=by
 refine nk ra rb λp=>?_
 by_cases h:0<=p/\p<9
 ·obtain⟨n,rfl⟩:∃n:Nat,p=(n:Int):=⟨p.toNat,by omega⟩
  exact code_inj 9 e n (by omega)
 ·constructor
  ·intro hp;have:=ia p hp;omega
  ·intro hp;have:=ib p hp;omega
def iJ (h:eR l):l.Nodup:=h.imp λ{a b} h=>by omega
theorem ji (n:Nat) (lo:Int):eR (dD lo n):=LW.ji n lo
def pf {many:Int}{l:cp}(r:eR l) (i:∀p∈l,0<=p/\p<many):l.length<=many.toNat:=by
 have:l.length<=(dD 0 many.toNat).length:=(iJ r).length_le_of_subset λp hp=>(LW.g8 _ _ _).mpr (by have:=i p hp;omega)
 rwa [eF]at this
def gi:p∈dS many m y↔(0<=p/\p<many)/\p∉m/\p∉y:=by
 unfold dS;rw[mem_filter,LW.g8];simp only[mem_append,not_or,Bool.not_eq_true',decide_eq_false_iff_not];constructor
 ·rintro⟨h1,h2⟩;exact⟨by omega,h2⟩
 ·rintro⟨h1,h2⟩;exact⟨by omega,h2⟩
def qi (many:Int) (m y:cp):eR (dS many m y):=List.Pairwise.filter _ (ji _ _)
theorem xo (hs:eR s):∀(k:Nat) (c:cp),c∈CV s k↔c.length=k/\eR c/\∀p∈c,p∈s
 |0,c=>by
  simp only[CV,br];constructor
  ·rintro rfl;exact⟨rfl,List.Pairwise.nil,by simp⟩
  ·rintro⟨h,_⟩;exact length_eq_zero_iff.mp h
 |k+1,c=>by
  unfold CV S0;rw[mem_flatMap];constructor
  ·rintro⟨b,hb,hc⟩
   obtain⟨l,r,i⟩:=(xo hs k b).mp hb;unfold xn at hc;obtain⟨p,hp,rfl⟩:=mem_map.mp hc;obtain⟨Qj,YN⟩:=mem_filter.mp hp;refine⟨by simp[l],?_,?_⟩
   ·refine pairwise_append.mpr ⟨r,pairwise_singleton _ _,λa ha q hq=>?_⟩
    rw[br]at hq;subst hq;rcases eq_nil_or_concat b with rfl|⟨l',z,rfl⟩
    ·simp at ha
    ·have hz:z<q:=by simpa [behind]using YN
     rw[concat_eq_append]at ha r;rcases mem_append.mp ha with u|u
     ·have:=(pairwise_append.mp r).2.2 a u z (by simp);omega
     ·rw[br]at u;omega
   ·intro q hq;rcases mem_append.mp hq with u|u
    ·exact i q u
    ·rw[br]at u;subst u;exact Qj
  ·rintro⟨l,r,i⟩
   rcases eq_nil_or_concat c with rfl|⟨b,z,rfl⟩
   ·simp at l
   ·rw[concat_eq_append]at l r i ⊢;obtain⟨r1,_,r3⟩:=pairwise_append.mp r;refine⟨b,(xo hs k b).mpr ⟨by simpa using l,r1,λp hp=>i p (bC _ hp)⟩,?_⟩
    unfold xn;refine mem_map.mpr ⟨z,mem_filter.mpr ⟨i z (by simp),?_⟩,rfl⟩
    unfold behind;cases hq:b.getLast? with
    |none=>rfl
    |some q=>
     have:q∈b:=mem_of_getLast? hq
     simpa using r3 q this z (by simp)
def lq:c∈qh many b g m y w↔c.length=CW b g w (dS many m y)/\eR c/\∀p∈c,p∈dS many m y:=xo (qi many m y) _ c
def eD:p∈sortI l↔p∈l:=(sortI_perm l).mem_iff
def lr (ra:eR a) (rc:eR c) (d:∀p∈c,p∉a):eR (sortI (a++c)):=by
 refine LW.mR ?_;refine nodup_append.mpr ⟨iJ ra,iJ rc,λp hp q hq e=>?_⟩
 subst e;exact d p hq hp
def OO (h:nr many m y) (hc:c∈qh many b g m y w):nr many (lj m y w c).1 (lj m y w c).2:=by
 obtain⟨_,rc,ic⟩:=lq.mp hc;unfold lj;split
 ·refine⟨lr h.rm rc λp hp=>(gi.mp (ic p hp)).2.1,h.ry,λp hp=>?_,h.iy,λp hp=>?_⟩
  ·rcases mem_append.mp (eD.mp hp)with u|u
   ·exact h.im p u
   ·exact(gi.mp (ic p u)).1
  ·rcases mem_append.mp (eD.mp hp)with u|u
   ·exact h.dj p u
   ·exact(gi.mp (ic p u)).2.2
 ·refine⟨h.rm,lr h.ry rc λp hp=>(gi.mp (ic p hp)).2.2,h.im,λp hp=>?_,λp hp hq=>?_⟩
  ·rcases mem_append.mp (eD.mp hp)with u|u
   ·exact h.iy p u
   ·exact(gi.mp (ic p u)).1
  ·rcases mem_append.mp (eD.mp hq)with u|u
   ·exact h.dj p hp u
   ·exact(gi.mp (ic p u)).2.1 hp
structure Gm where
 many:Int
 ls:cn
 b:Int
 g:Int
structure Gm.Ok (G:Gm):Prop where
 m0:0<=G.many
 m9:G.many<=9
 li:∀l∈G.ls,∀p∈l,0<=p/\p<G.many
 ll:∀l∈G.ls,l.length<1000000
 b1:1<=G.b
 b3:G.b<=4
 g1:1<=G.g
 g3:G.g<=4
def Gm.qj (G:Gm) (m y:cp) (w:Int):cn:=qh G.many G.b G.g m y w
def Gm.free (G:Gm) (m y:cp):cp:=dS G.many m y
def Gm.over (G:Gm) (m y:cp):Option Int:=CU G.ls m y
def Gj {G:Gm}{m y c:cp}{w:Int}(h:nr G.many m y) (hc:c∈G.qj m y w):(G.free (lj m y w c).1 (lj m y w c).2).length+c.length<=(G.free m y).length:=by
 obtain⟨_,rc,ic⟩:=lq.mp hc;rw[<-aQ];have mp:∀p,(p∈(lj m y w c).1\/p∈(lj m y w c).2)↔(p∈m\/p∈y\/p∈c):=by
  intro p;unfold lj;split<;>simp only[eD,mem_append]
  ·constructor
   ·rintro((a|a)|a)<;>simp[a]
   ·rintro(a|a|a)<;>simp[a]
 refine bV ?_ λp hp=>?_
 ·refine nodup_append.mpr ⟨iJ (qi _ _ _),iJ rc,λp hp q hq e=>?_⟩
  subst e;have:=gi.mp hp;rcases(mp p).mpr (.inr (.inr hq))with u|u
  ·exact this.2.1 u
  ·exact this.2.2 u
 ·rcases mem_append.mp hp with u|u
  ·have:=gi.mp u;refine gi.mpr ⟨this.1,λz=>?_,λz=>?_⟩
   ·rcases(mp p).mpr (.inl z)with u|u
    ·exact this.2.1 u
    ·exact this.2.2 u
   ·rcases(mp p).mpr (.inr (.inl z))with u|u
    ·exact this.2.1 u
    ·exact this.2.2 u
  ·exact ic p u
theorem Ad:∀l:cp,nV (l.map D.int)=true
 |[]=>by unfold nV;rfl
 |a::l=>by
  show nV (.int a::l.map D.int)=true;unfold nV ow;rw[Ad l];rfl
end GP
namespace GP
open DL
def LL {G:Gm}(hG:G.Ok) {m y c:cp}{w:Int}(hc:c∈G.qj m y w):c.length<=(if w=0 then G.b else G.g).toNat:=by
 obtain⟨l,_,_⟩:=lq.mp hc;rw[l];unfold CW;have:=hG.b1;have:=hG.g1;split<;>split<;>omega
def X4 {G:Gm}{m y:cp}:G.over m y=some 0↔∃l∈G.ls,∀p∈l,p∈m:=by
 unfold Gm.over CU;have e:G.ls.any (fY m)=true↔∃l∈G.ls,∀p∈l,p∈m:=by
  rw[bN];simp only[fY,all_eq_true,decide_eq_true_eq]
 constructor
 ·intro h;split at h
  ·rename_i h1;exact e.mp h1
  ·split at h<;>simp at h
 ·intro h;rw[if_pos (e.mpr h)]
def X5 (m y c:cp):lj m y 0 c=(sortI (m++c),y):=rfl
def aaE (m y c:cp):lj m y 1 c=(m,sortI (y++c)):=rfl
structure IY (G:Gm) (P:List (Int×Int)):Prop where
 Ml:∀a∈P,(0<=a.1/\a.1<G.many)/\(0<=a.2/\a.2<G.many)
 ne:∀a∈P,a.1≠a.2
 dj:∀a∈P,∀b∈P,∀x,(x=a.1\/x=a.2)->(x=b.1\/x=b.2)->a=b
 ls:∀l∈G.ls,∃a∈P,a.1∈l/\a.2∈l
def Kept (P:List (Int×Int)) (m y:cp):Prop:=∀a∈P,(a.1∈m->a.2∈y)/\(a.2∈m->a.1∈y)
def vW (P:List (Int×Int)) (m y:cp) (x:Int):Prop:=∀a∈P,(a.1∈m->a.2∈y\/(a.1=x/\a.2∉m))/\(a.2∈m->a.1∈y\/(a.2=x/\a.1∉m))
def Kept.but (h:Kept P m y) (x:Int):vW P m y x:=λa ha=>⟨λz=>.inl ((h a ha).1 z),λz=>.inl ((h a ha).2 z)⟩
def vW.open {G:Gm}{P:List (Int×Int)}{m y:cp}{x:Int}(p:nr G.many m y) (hP:IY G P) (h:vW P m y x):¬ G.over m y=some 0:=by
 intro ho;obtain⟨l,hl,s⟩:=X4.mp ho;obtain⟨a,ha,h1,h2⟩:=hP.ls l hl;rcases(h a ha).1 (s _ h1)with z|z
 ·exact p.dj _ (s _ h2) z
 ·exact z.2 (s _ h2)
def Kept.put (hP:IY G P) (h:Kept P m y) (qy:q∉y):vW P (lj m y 0 [q]).1 y q:=by
 intro a ha;have hm:∀r,r∈(lj m y 0 [q]).1↔r∈m\/r=q:=λr=>by rw[X5];simp[eD]
 have ne:=hP.ne a ha;refine⟨λz=>?_,λz=>?_⟩
 ·rcases(hm _).mp z with u|u
  ·exact .inl ((h a ha).1 u)
  ·by_cases v:a.2∈y
   ·exact .inl v
   ·refine .inr ⟨u,λw=>?_⟩
    rcases(hm _).mp w with t|t
    ·exact qy (u▸(h a ha).2 t)
    ·exact ne (u.trans t.symm)
 ·rcases(hm _).mp z with u|u
  ·exact .inl ((h a ha).2 u)
  ·by_cases v:a.1∈y
   ·exact .inl v
   ·refine .inr ⟨u,λw=>?_⟩
    rcases(hm _).mp w with t|t
    ·exact qy (u▸(h a ha).1 t)
    ·exact ne (t.trans u.symm)
end GP
namespace GP
open DL
open L2 (mE E6)
noncomputable def comb:Nat->cp->cn
 |0,_=>[[]]
 |_+1,[]=>[]
 |k+1,p::r=>(comb k r).map (p:: ·)++comb (k+1) r
theorem nt:∀(k:Nat) (s c:cp),c∈comb k s->c.length=k/\∀p∈c,p∈s
 |0,s,c,h=>by simp[comb]at h;subst h;simp
 |k+1,[],c,h=>by simp[comb]at h
 |k+1,q::r,c,h=>by
  simp only[comb,mem_append,mem_map]at h;rcases h with⟨d,hd,rfl⟩|h
  ·obtain⟨h1,h2⟩:=nt k r d hd;refine⟨by simp[h1],λp hp=>?_⟩
   rcases mem_cons.mp hp with rfl|hp
   ·exact af
   ·exact ai _ (h2 p hp)
  ·obtain⟨h1,h2⟩:=nt (k+1) r c h;exact⟨h1,λp hp=>ai _ (h2 p hp)⟩
theorem nu:∀(k:Nat) (s:cp),s.length<k->comb k s=[]
 |0,s,h=>by omega
 |k+1,[],_=>rfl
 |k+1,p::r,h=>by
  simp only[ay]at h;simp[comb,nu k r (by omega),nu (k+1) r (by omega)]
theorem uV:∀(s:cp),comb s.length s=[s]
 |[]=>rfl
 |p::r=>by simp[comb,uV r,nu (r.length+1) r (by omega)]
theorem vX:∀(s:cp),comb 1 s=s.map λp=>[p]
 |[]=>rfl
 |p::r=>by
  have:=vX r;simp[comb,this]
def ext_nil (s:cp):xn s []=s.map λp=>[p]:=by
 have:s.filter (behind [])=s:=filter_eq_self.mpr λp _=>rfl
 simp[xn,this]
def xY (h:c≠[]):behind (p::c) q=behind c q:=by
 unfold behind;rw[List.getLast?_cons];cases hc:c.getLast? with
 |none=>exact absurd (List.getLast?_eq_none_iff.mp hc) h
 |some x=>rfl
def Ae (h:c≠[]) (hp:∀q∈c,p<q):behind c p=false:=by
 unfold behind;cases hc:c.getLast? with
 |none=>exact absurd (List.getLast?_eq_none_iff.mp hc) h
 |some x=>
  have:=hp x (mem_of_getLast? hc);simp;omega
def RE (h:c≠[]) (hp:∀q∈c,p<q):xn (p::r) c=xn r c:=by
 unfold xn;rw[bq,Ae h hp];rfl
def LM (hr:∀q∈r,p<q) (hc:∀q∈c,q∈r):xn (p::r) (p::c)=(xn r c).map (p:: ·):=by
 unfold xn;rw[aV];by_cases h:c=[]
 ·subst h;have h1:behind [p] p=false:=by simp[behind]
  have h2:r.filter (behind [p])=r:=filter_eq_self.mpr λq hq=>by simp[behind];exact hr q hq
  have h3:r.filter (behind [])=r:=filter_eq_self.mpr λq _=>rfl
  rw[bq,h1,h2,h3];rfl
 ·have h1:behind (p::c) p=false:=by rw[xY h];exact Ae h λq hq=>hr q (hc q hq)
  have h2:r.filter (behind (p::c))=r.filter (behind c):=filter_congr λq _=>xY h
  rw[bq,h1,h2];rfl
theorem kE {α β:Type}{f g:α->List β}:∀{l:List α},(∀a∈l,f a=g a)->l.flatMap f=l.flatMap g
 |[],_=>rfl
 |a::l,h=>by rw[flatMap_cons,flatMap_cons,h a af,kE λb hb=>h b (ai _ hb)]
theorem Af:∀(k:Nat) (s:cp),eR s->comb (k+1) s=(comb k s).flatMap (xn s)
 |0,s,_=>by simp[vX,comb,ext_nil]
 |k+1,[],_=>by simp[comb]
 |k+1,p::r,h=>by
  have hr:∀q∈r,p<q:=(pairwise_cons.mp h).1;have rr:eR r:=(pairwise_cons.mp h).2;have i1:=Af k r rr;have i2:=Af (k+1) r rr;show(comb (k+1) r).map (p:: ·)++comb (k+2) r=((comb k r).map (p:: ·)++comb (k+1) r).flatMap (xn (p::r))
  rw[List.flatMap_append]
  congr 1
  ·rw[flatMap_map,i1,List.map_flatMap];exact kE λc hc=>(LM hr (nt k r c hc).2).symm
  ·rw[i2];refine kE λc hc=>?_
   obtain⟨h1,h2⟩:=nt (k+1) r c hc;exact(RE (λz=>by rw[z]at h1;cases h1) λq hq=>hr q (h2 q hq)).symm
theorem Ag (h:eR s):∀k,CV s k=comb k s
 |0=>by cases s<;>rfl
 |k+1=>by rw[Af k s h,<-Ag h k];rfl
def nY (c:Nat) (ps:cp):cn:=if ps.length<=c then[ps]else comb c ps
def Ah (h:c<=ps.length):nY c ps=comb c ps:=by
 unfold nY;split
 ·have:c=ps.length:=by omega
  rw[this,uV]
 ·rfl
def Ai (c:Nat) (ps:cp) (k:Nat):cn:=match ps[k]? with
 |some p=>(comb c (ps.drop (k+1))).map (p:: ·)
 |none=>[]
theorem CY:∀(c:Nat) (ps:cp),(List.range (ps.length-c)).flatMap (Ai c ps)=comb (c+1) ps
 |c,[]=>by simp[comb]
 |c,p::r=>by
  by_cases h:c<=r.length
  ·have e:(p::r).length-c=(r.length-c)+1:=by simp;omega
   rw[e,range_succ_eq_map,flatMap_cons,flatMap_map];show Ai c (p::r) 0++_=(comb c r).map (p:: ·)++comb (c+1) r
   congr 1
   rw[<-CY c r];exact kE λk _=>rfl
  ·have e:(p::r).length-c=0:=by simp;omega
   rw[e,nu (c+1) (p::r) (by simp;omega)]
   rfl
theorem tL:∀(c:Nat) (ps:cp),(comb c ps).length<=2^ps.length
 |0,ps=>by simp[comb];exact Nat.one_le_two_pow
 |c+1,[]=>by simp[comb]
 |c+1,p::r=>by
  have h1:=tL c r;have h2:=tL (c+1) r;simp only[comb,aQ,ae,ay,Nat.pow_succ];omega
def OP {c:Nat}{ps:cp}:(nY c ps).length<=2^ps.length:=by
 unfold nY;split
 ·simp;exact Nat.one_le_two_pow
 ·exact tL c ps
def IZ {many b g:Int}{w:Int}(hk:0<=(if w=0 then b else g)):qh many b g m y w=nY (if w=0 then b else g).toNat (dS many m y):=by
 unfold qh CW;rw[Ag (qi many m y)];generalize (if w=0 then b else g)=k at hk ⊢
 by_cases h:((dS many m y).length:Int)<k
 ·rw[if_pos h,Int.toNat_natCast,uV];unfold nY;rw[if_pos (by omega)]
 ·rw[if_neg h,Ah (by omega)]
end GP
namespace GP
open DL
theorem mT:∀(k:Nat) (ps c:cp),c.Sublist ps->c.length=k->c∈comb k ps
 |0,ps,c,_,h=>by
  have:c=[]:=length_eq_zero_iff.mp h;subst this;cases ps<;>simp[comb]
 |k+1,[],c,s,h=>by
  have:=s.length_le;simp at this;subst this;simp at h
 |k+1,p::r,c,s,h=>by
  simp only[comb,mem_append,mem_map];cases s with
  |cons _ s=>exact .inr (mT (k+1) r c s h)
  |cons_cons _ s=>
   rename_i c';exact .inl ⟨c',mT k r c' s (by simpa using h),rfl⟩
def RF (h:c∈nY k ps):(∀p∈c,p∈ps)/\c.length<=k/\(c.length=k\/∀p∈ps,p∈c):=by
 unfold nY at h;split at h
 ·simp at h;subst h;exact⟨λp hp=>hp,by omega,.inr λp hp=>hp⟩
 ·obtain⟨h1,h2⟩:=nt k ps c h;exact⟨h2,by omega,.inl h1⟩
structure X6 (G:Gm) (L:cn):Prop where
 li:∀l∈L,∀p∈l,0<=p/\p<G.many
 ll:∀l∈L,l.length<1000000
def Ki (many:Int):nr many [] []:=⟨List.Pairwise.nil,List.Pairwise.nil,(λp h=>by cases h),(λp h=>by cases h),λp h=>by cases h⟩
section
variable {G:Gm}(hG:G.Ok) {L:cn}(hL:X6 G L) (h1:L≠[]) (h2:[]∉L) {ps:cp}(nd:ps.Nodup) (ZW:∀p,p∈ps↔∃l∈L,p∈l)
include hG hL ZW
theorem LN {k:Nat}{c:cp}(nd:ps.Nodup) (h:c∈nY k ps):c.Nodup:=by
 unfold nY at h;split at h
 ·simp at h;subst h;exact nd
 ·have:∀(k:Nat) (ps c:cp),c∈comb k ps->c.Sublist ps:=by
   intro k ps;induction ps generalizing k with
   |nil=>intro c h;cases k<;>simp[comb]at h;subst h;exact List.Sublist.refl _
   |cons p r ih=>
    intro c h;cases k with
    |zero=>simp[comb]at h;subst h;exact nil_sublist _
    |succ k=>
     simp only[comb,mem_append,mem_map]at h;rcases h with⟨d,hd,rfl⟩|h
     ·exact(ih k d hd).cons_cons p
     ·exact(ih (k+1) c h).cons p
  exact nd.sublist (this k ps c h)
end
noncomputable def se (m l:cp):cp:=l.filter λp=> !decide (p∈m)
def fZ (L:cn) (m y:cp):cn:=(L.filter λl=> !jl y l).map (se m)
def OQ (l:cp) (ls:cn):Bool:=ls.any λo=>(!decide (o=l))&&fY l o
def LO (ls:cn):cn:=ls.filter λl=> !OQ l ls
def fA (L:cn) (m y:cp):cn:=LO (fi (fZ L m y).eraseDups)
def dY:p∈se m l↔p∈l/\p∉m:=by
 unfold se;rw[mem_filter];simp
def qk (h:eR l):eR (se m l):=List.Pairwise.filter _ h
def Gk:jl y l=false↔∀p∈l,p∉y:=by
 unfold jl;rw[any_eq_false];simp
def qm:fY m l=true↔∀p∈l,p∈m:=by
 unfold fY;rw[all_eq_true];simp
def eS:f∈fZ L m y↔∃l∈L,(∀p∈l,p∉y)/\f=se m l:=by
 unfold fZ;rw[mem_map];constructor
 ·rintro⟨l,hl,rfl⟩
  obtain⟨h1,h2⟩:=mem_filter.mp hl;exact⟨l,h1,Gk.mp (by simpa using h2),rfl⟩
 ·rintro⟨l,hl,hy,rfl⟩
  exact⟨l,mem_filter.mpr ⟨hl,by rw[Gk.mpr hy];rfl⟩,rfl⟩
def OR:OQ l ls=false↔∀o∈ls,(∀p∈o,p∈l)->o=l:=by
 unfold OQ;rw[any_eq_false];constructor
 ·intro h o ho hs;have:=h o ho;rw[qm.mpr hs]at this
  simpa using this
 ·intro h o ho;by_cases hs:∀p∈o,p∈l
  ·simp[h o ho hs]
  ·have:fY l o=false:=by
    cases q:fY l o with
    |false=>rfl
    |true=>exact absurd (qm.mp q) hs
   simp[this]
def Kj {ls:cn}{f:cp}:f∈fi ls.eraseDups↔f∈ls:=(eY _).mem_iff.trans mem_eraseDups
def fB:f∈fA L m y↔f∈fZ L m y/\∀o∈fZ L m y,(∀p∈o,p∈f)->o=f:=by
 unfold fA LO;rw[mem_filter,Kj];constructor
 ·rintro⟨h1,h2⟩
  exact⟨h1,λo ho=>OR.mp (by simpa using h2) o (Kj.mpr ho)⟩
 ·rintro⟨h1,h2⟩
  exact⟨h1,by rw[OR.mpr λo ho=>h2 o (Kj.mp ho)];rfl⟩
theorem ni {α:Type} [BEq α] [LawfulBEq α]:∀(n:Nat) (l:List α),l.length<=n->l.eraseDups.Nodup
 |_,[],_=>by simp
 |0,_::_,h=>by simp at h
 |n+1,a::l,h=>by
  rw[eraseDups_cons,nodup_cons];refine⟨λz=>?_,ni n _ (aD (aW _ _) (by simpa using h))⟩
  have:=(mem_filter.mp (mem_eraseDups.mp z)).2;simp at this
def Aj (L:cn) (m y:cp):(fA L m y).Pairwise (λa b=>HT.lexLt a b=true):=List.Pairwise.filter _ (LW.nj (ni _ _ (au _)))
def RG (a:cp):HT.lexLt a a=false:=by
 induction a with
 |nil=>rfl
 |cons x r ih=>rw[HT.jb];simp[ih]
def CZ {l:cn}(h:l.Pairwise λa b=>HT.lexLt a b=true):l.Nodup:=h.imp λ{a b} h z=>by subst z;rw[RG]at h;cases h
theorem lex_asymm:∀{a b:cp},HT.lexLt a b=true->HT.lexLt b a=false
 |[],[],h=>by cases h
 |[],_::_,_=>rfl
 |_::_,[],h=>by cases h
 |x::a,y::b,h=>by
  rw[HT.jb]at h ⊢;by_cases e:x=y
  ·rw[if_pos e]at h;rw[if_pos e.symm];exact lex_asymm h
  ·rw[if_neg e]at h;rw[if_neg (Ne.symm e)];have:=bJ h;exact aH (by omega)
def En {l k:cn}(h1:l.Pairwise λa b=>HT.lexLt a b=true) (h2:k.Pairwise λa b=>HT.lexLt a b=true) (h:∀a,a∈l↔a∈k):l=k:=
 gw (R:=λa b=>HT.lexLt b a=false) (λa b x y=>HT.gR y x) ((perm_ext_iff_of_nodup (CZ h1) (CZ h2)).mpr h) (h1.imp λh=>lex_asymm h) (h2.imp λh=>lex_asymm h)
def Gn (ra:eR a) (rb:eR b) (s:∀p∈a,p∈b) (ne:a≠b):a.length<b.length:=by
 have e:a=b.filter λp=>decide (p∈a):=nk ra (List.Pairwise.filter _ rb) λp=>by
  rw[mem_filter];exact⟨λh=>⟨s p h,aR h⟩,λh=>bJ h.2⟩
 have le:(b.filter λp=>decide (p∈a)).length<=b.length:=aW _ _
 rcases Nat.lt_or_ge a.length b.length with h|h
 ·exact h
 ·have h2:(b.filter λp=>decide (p∈a)).length=b.length:=by rw[<-e]at le ⊢;omega
  have h3:=length_filter_eq_length_iff.mp h2;exact absurd (nk ra rb λp=>⟨s p,λhp=>bJ (h3 p hp)⟩) ne
def ph (hL:∀l∈L,eR l) (h:f∈fZ L m y):eR f:=by
 obtain⟨l,hl,_,rfl⟩:=eS.mp h;exact qk (hL l hl)
theorem qo (hL:∀l∈L,eR l):∀(n:Nat) (f:cp),f.length<=n->f∈fZ L m y->∃k∈fA L m y,∀p∈k,p∈f
 |n,f,hn,hf=>by
  by_cases h:∀o∈fZ L m y,(∀p∈o,p∈f)->o=f
  ·exact⟨f,fB.mpr ⟨hf,h⟩,λp hp=>hp⟩
  ·have:∃o∈fZ L m y,(∀p∈o,p∈f)/\o≠f:=by
    refine bT λz=>h λo ho hs=>?_
    exact bT λz2=>z ⟨o,ho,hs,z2⟩
   obtain⟨o,ho,hs,ne⟩:=this;have lt:=Gn (ph hL ho) (ph hL hf) hs ne;cases n with
   |zero=>omega
   |succ n=>
    obtain⟨k,hk,hks⟩:=qo hL n o (by omega) ho
    exact⟨k,hk,λp hp=>hs p (hks p hp)⟩
def mU (hL:∀l∈L,eR l):∀l∈fA L m y,eR l:=λl hl=>ph hL (fB.mp hl).1
def OS (hL:X6 G L):X6 G (fA L m y):=by
 constructor
 ·intro l hl p hp;obtain⟨k,hk,_,rfl⟩:=eS.mp (fB.mp hl).1;exact hL.li k hk p (dY.mp hp).1
 ·intro l hl;obtain⟨k,hk,_,rfl⟩:=eS.mp (fB.mp hl).1;exact Nat.lt_of_le_of_lt (aW _ _) (hL.ll k hk)
def Dc (hr:∀l∈L,eR l) (hM:∀p,p∈M↔p∈m\/p∈m') (hY:∀p,p∈Y↔p∈y\/p∈y') (hd:∀p∈y',p∉m):fA (fA L m y) m' y'=fA L M Y:=by
 have ba:∀b∈fZ (fA L m y) m' y',b∈fZ L M Y:=λb hb=>by
  obtain⟨k,hk,U9,rfl⟩:=eS.mp hb;obtain⟨l,hl,YU,rfl⟩:=eS.mp (fB.mp hk).1;refine eS.mpr ⟨l,hl,λp hp z=>?_,?_⟩
  ·rcases(hY p).mp z with z|z
   ·exact YU p hp z
   ·exact U9 p (dY.mpr ⟨hp,hd p z⟩) z
  ·refine nk (qk (qk (hr l hl))) (qk (hr l hl)) λp=>?_
   rw[dY,dY,dY,hM];constructor
   ·rintro⟨⟨h1,h2⟩,h3⟩;exact⟨h1,λz=>z.elim h2 h3⟩
   ·rintro⟨h1,h2⟩;exact⟨⟨h1,λz=>h2 (.inl z)⟩,λz=>h2 (.inr z)⟩
 have ab:∀a∈fZ L M Y,∃b∈fZ (fA L m y) m' y',∀p∈b,p∈a:=λa ha=>by
  obtain⟨l,hl,YU,rfl⟩:=eS.mp ha;obtain⟨k,hk,hs⟩:=qo (m:=m) (y:=y) hr _ _ (au _) (eS.mpr ⟨l,hl,λp hp z=>YU p hp ((hY p).mpr (.inl z)),rfl⟩)
  refine⟨se m' k,eS.mpr ⟨k,hk,λp hp z=>YU p (dY.mp (hs p hp)).1 ((hY p).mpr (.inr z)),rfl⟩,λp hp=>?_⟩
  obtain⟨h1,h2⟩:=dY.mp hp;obtain⟨h3,h4⟩:=dY.mp (hs p h1);exact dY.mpr ⟨h3,λz=>((hM p).mp z).elim h4 h2⟩
 refine En (Aj _ _ _) (Aj _ _ _) λf=>?_
 rw[fB,fB];constructor
 ·rintro⟨h1,h2⟩
  refine⟨ba f h1,λo ho hs=>?_⟩
  obtain⟨b,hb,hbo⟩:=ab o ho;have e:=h2 b hb λp hp=>hs p (hbo p hp)
  subst e;exact nk (ph hr ho) (ph hr (ba b h1)) λp=>⟨hs p,hbo p⟩
 ·rintro⟨h1,h2⟩
  obtain⟨b,hb,hbf⟩:=ab f h1;have e:=h2 b (ba b hb) hbf;subst e;exact⟨hb,λo ho hs=>h2 o (ba o ho) hs⟩
def vY (L:cn) (w x:Int):cn:=if w=0 then fA L [x] []else fA L [] [x]
noncomputable def oA (L:cn) (w x:Int):Bool:=L.any (λl=>decide (x∈l))&&(decide (w=0)||L.all λl=>decide (1<l.length)||decide (x∈l))
def vF:Nat->cn->Int->Int
 |0,_,_=>1
 |n+1,L,w=>if L=[]then 1 else if[]∈L then 0 else if w=0/\(L.any λl=>decide (l.length<=1))=true then 0 else
  if(L.flatten.any λx=>oA L w x&&vF n (vY L w x) (1-w)==w)=true then w else 1-w
def Va (G:Gm) (L:cn):Prop:=∃m y,nr G.many m y/\L=fA G.ls m y
def xp (L:cn) (w:Int):D:=.tup [.tup (L.map tupI),.int w]
section
variable {P:Type} [Nonempty P] {ok:P->Prop}{k v:P->D}{c:P->Nat}
open Classical in
noncomputable def X7 (ok:P->Prop) (k v:P->D) (d:D):Option D:=if ∃p,ok p/\k p=d then some (v (epsilon λp=>ok p/\k p=d))else none
def xq (h:X7 ok k v d=some e):ok (Classical.epsilon λp=>ok p/\k p=d)/\k (Classical.epsilon λp=>ok p/\k p=d)=d:=by
 unfold X7 at h;split at h
 ·rename_i z;exact Classical.epsilon_spec z
 ·cases h
def Kk (h:ok p) (hv:∀q,k q=k p->v q=v p):X7 ok k v (k p)=some (v p):=by
 have z:∃q,ok q/\k q=k p:=⟨p,h,rfl⟩;unfold X7;rw[if_pos z,hv _ (Classical.epsilon_spec z).2]
def mkM (ok:P->Prop) (k v:P->D) (c:P->Nat) (N:Nat) (hN:N<=16777216) (lt:∀p,ok p->c p<N) (inj:∀p q,ok p->ok q->c p=c q->k p=k q) (key:∀p,ow (k p)=true/\eV (k p)<=4):eM:=
 ⟨X7 ok k v,λd=>c (Classical.epsilon λp=>ok p/\k p=d),N,hN,λd e h=>lt _ (xq h).1,λd d' e e' h h' q=>(xq h).2.symm.trans ((inj _ _ (xq h).1 (xq h').1 q).trans (xq h').2),λd e h=>(xq h).2▸key _⟩
end
def Ak {L K:cn}(h:L.map tupI=K.map tupI):L=K:=aS ((mY L).symm.trans ((congrArg jZ h).trans (mY K)))
def Eo (L:cn) (w:Int):ow (xp L w)=true/\eV (xp L w)<=4:=by
 have kl:∀L:cn,nV (L.map tupI)=true:=λL=>by
  induction L with
  |nil=>unfold nV;rfl
  |cons l r ih=>
   show nV (tupI l::r.map tupI)=true;unfold nV;rw[ih];have:ow (tupI l)=true:=by unfold tupI ow;exact Ad l
   rw[this];rfl
 constructor
 ·unfold xp;simp[ow,nV,kl]
 ·have:=LW.mS L;unfold xp;simp only[eV,jO];omega
def Kl (G:Gm):eM:=mkM (P:=cp×cp×Int) (λp=>G.Ok/\nr G.many p.1 p.2.1/\(p.2.2=0\/p.2.2=1)) (λp=>xp (fA G.ls p.1 p.2.1) p.2.2) (λp=>.int (vF 12 (fA G.ls p.1 p.2.1) p.2.2)) (λp=>code p.1 9*1024+code p.2.1 9*2+p.2.2.toNat) 524288 (by decide)
 (λp h=>by have:=vV p.1 9;have:=vV p.2.1 9;have:=h.2.2;omega)
 (λp q h h' e=>by
  have a1:=vV p.2.1 9;have a2:=vV q.2.1 9;have a3:=h.2.2;have a4:=h'.2.2;have p1:=h.2.1;have p2:=h'.2.1;show xp _ _=xp _ _;rw[Gi h.1.m9 p1.rm p2.rm p1.im p2.im (by omega),Gi h.1.m9 p1.ry p2.ry p1.iy p2.iy (by omega),show p.2.2=q.2.2 by omega])
 λ_=>Eo _ _
def OT {G:Gm}{L:cn}{w:Int}(hG:G.Ok) (h:Va G L) (hw:w=0\/w=1):(Kl G).W (xp L w)=some (.int (vF 12 L w)):=by
 obtain⟨m,y,p,rfl⟩:=h;refine Kk (P:=cp×cp×Int) (ok:=λp=>G.Ok/\nr G.many p.1 p.2.1/\(p.2.2=0\/p.2.2=1)) (k:=λp=>xp (fA G.ls p.1 p.2.1) p.2.2) (v:=λp=>.int (vF 12 (fA G.ls p.1 p.2.1) p.2.2)) (p:=(m,y,w)) ⟨hG,p,hw⟩ λq e=>?_
 injection e with e
 injection e with e1 e2
 injection e1 with e1
 injection e2 with e2 _
 injection e2 with e2
 show D.int (vF 12 (fA G.ls q.1 q.2.1) q.2.2)=_;rw[Ak e1,e2]
instance:Nonempty Gm:=⟨⟨0,[],0,0⟩⟩
def OU (d:D):eM:=Kl (Classical.epsilon λG:Gm=>∃f,jk G.many G.ls f G.b G.g=d)
def Ja (f:Int):OU (jk G.many G.ls f G.b G.g)=Kl G:=by
 obtain⟨f',e⟩:=Classical.epsilon_spec (p:=λK:Gm=>∃f',jk K.many K.ls f' K.b K.g=jk G.many G.ls f G.b G.g) ⟨G,f,rfl⟩
 unfold OU;generalize (Classical.epsilon λK:Gm=>∃f',jk K.many K.ls f' K.b K.g=jk G.many G.ls f G.b G.g)=K at e ⊢
 obtain⟨a,b,c,d⟩:=K;simp only[jk,LW.dF,D.tup.injEq,List.cons.injEq,D.int.injEq]at e;obtain⟨⟨rfl,h,_⟩,_,rfl,rfl,_⟩:=e;rw[Ak h]
structure Mt (P:cn):Prop where
 rise:∀c∈P,eR c
 two:∀c∈P,c.length=2
 dj:∀c∈P,∀d∈P,∀x,x∈c->x∈d->c=d
 nd:P.Nodup
def xr (L P:cn):Prop:=∀l∈L,∃c∈P,∀x∈c,x∈l
def YV (L P:cn):Prop:=∀c∈P,∃l∈L,∀x∈c,x∈l
def OV (L:cn):Prop:=∃P,Mt P/\xr L P
def nZ (L:cn) (c:cp):cn:=fA (L.filter λl=> !fY l c) c []
def Mt.nil:Mt []:=⟨(λc h=>by cases h),(λc h=>by cases h),(λc h=>by cases h),nodup_nil⟩
def Mt.sub {P Q:cn}(h:Mt P) (s:Q.Sublist P):Mt Q:=
 ⟨λc hc=>h.rise c (s.subset hc),λc hc=>h.two c (s.subset hc),λc hc d hd=>h.dj c (s.subset hc) d (s.subset hd),h.nd.sublist s⟩
def uW (r:eR c) (h:c.length=2):∃a b:Int,c=[a,b]/\a<b:=by
 match c,h with
 |[a,b],_=>exact⟨a,b,rfl,by have:=r;simp[eR]at this;exact this⟩
def Gp (rc:eR c) (rl:eR l) (s:∀x∈c,x∈l):c.Sublist l:=by
 have e:c=l.filter λp=>decide (p∈c):=nk rc (List.Pairwise.filter _ rl) λp=>by
  rw[mem_filter];exact⟨λh=>⟨s p h,by simpa using h⟩,λh=>by simpa using h.2⟩
 rw[e];exact filter_sublist
def RH (rc:eR c) (h2:c.length=2) (rl:eR l) (s:∀x∈c,x∈l):c∈nY 2 l:=by
 have sb:=Gp rc rl s;unfold nY;split
 ·rename_i hl;have:=sb.length_le;rw[sb.eq_of_length (by omega)]
  exact br.mpr rfl
 ·exact mT 2 l c sb h2
theorem Am:∀(k:Nat) (s c:cp),c∈comb k s->c.Sublist s
 |0,s,c,h=>by
  have:comb 0 s=[[]]:=by cases s<;>rfl
  rw[this,br]at h;subst h;exact nil_sublist _
 |k+1,[],c,h=>by cases h
 |k+1,p::r,c,h=>by
  unfold comb at h;rcases mem_append.mp h with h|h
  ·obtain⟨d,hd,rfl⟩:=mem_map.mp h;exact(Am k r d hd).cons₂ p
  ·exact(Am (k+1) r c h).cons p
def Jb (rl:eR l) (h2:2<=l.length) (h:c∈nY 2 l):eR c/\c.length=2/\∀x∈c,x∈l:=by
 unfold nY at h;split at h
 ·rw[br]at h;subst h;exact⟨rl,by omega,λx h=>h⟩
 ·have sb:=Am 2 l c h;exact⟨List.Pairwise.sublist sb rl,(nt 2 l c h).1,λx hx=>sb.subset hx⟩
def An (h:f∈nZ L c):∃l∈L,(∃x∈c,x∉l)/\f=se c l:=by
 obtain⟨l,hl,_,rfl⟩:=eS.mp (fB.mp h).1;obtain⟨h1,h2⟩:=mem_filter.mp hl;refine⟨l,h1,?_,rfl⟩;refine bT λz=>?_
 have:fY l c=true:=qm.mpr λp hp=>bT λz2=>z ⟨p,hp,z2⟩
 rw[this]at h2;cases h2
def Jc (hr:∀l∈L,eR l) (hl:l∈L) (hx:∃x∈c,x∉l):∃k∈nZ L c,∀p∈k,p∈l/\p∉c:=by
 have hf:l∈L.filter λl=> !fY l c:=by
  refine mem_filter.mpr ⟨hl,?_⟩;obtain⟨x,h1,h2⟩:=hx;cases q:fY l c with
  |false=>rfl
  |true=>exact absurd (qm.mp q x h1) h2
 obtain⟨k,hk,hs⟩:=qo (L:=L.filter λl=> !fY l c) (m:=c) (y:=[]) (λl h=>hr l (mem_filter.mp h).1) _ (se c l) (au _) (eS.mpr ⟨l,hf,(λp _ h=>by cases h),rfl⟩)
 exact⟨k,hk,λp hp=>dY.mp (hs p hp)⟩
def OW (hr:∀l∈L,eR l) (hl:l∈L) (h:OV L):∃c∈nY 2 l,OV (nZ L c):=by
 obtain⟨P,hP,cv⟩:=h;obtain⟨c,hc,hs⟩:=cv l hl;refine⟨c,RH (hP.rise c hc) (hP.two c hc) (hr l hl) hs,P,hP,λf hf=>?_⟩
 obtain⟨k,hk,⟨x,hx,nx⟩,rfl⟩:=An hf;obtain⟨d,hd,ds⟩:=cv k hk;refine⟨d,hd,λy hy=>dY.mpr ⟨ds y hy,λhy'=>?_⟩⟩
 have:=hP.dj c hc d hd y hy' hy;subst this;exact nx (ds x hx)
def RI (hr:∀l∈L,eR l) (hl:l∈L) (h2:2<=l.length) (hc:c∈nY 2 l) (hP:Mt P) (cv:xr (nZ L c) P) (iL:YV (nZ L c) P):Mt (c::P)/\xr L (c::P)/\YV L (c::P):=by
 obtain⟨rc,lc,sc⟩:=Jb (hr l hl) h2 hc;have S1:∀d∈P,∀x∈d,x∉c:=λd hd x hx=>by
  obtain⟨f,hf,hs⟩:=iL d hd;obtain⟨k,_,_,rfl⟩:=An hf;exact(dY.mp (hs x hx)).2
 have ne:∀d∈P,∃x,x∈d:=λd hd=>by
  match d,hP.two d hd with
  |a::_,_=>exact⟨a,af⟩
 refine⟨⟨?_,?_,?_,?_⟩,?_,?_⟩
 ·intro d hd;rcases mem_cons.mp hd with rfl|hd
  ·exact rc
  ·exact hP.rise d hd
 ·intro d hd;rcases mem_cons.mp hd with rfl|hd
  ·exact lc
  ·exact hP.two d hd
 ·intro d hd e he x h1 h2;rcases mem_cons.mp hd with q1|q1
  ·rcases mem_cons.mp he with q2|q2
   ·exact q1.trans q2.symm
   ·exact absurd (q1▸h1) (S1 e q2 x h2)
  ·rcases mem_cons.mp he with q2|q2
   ·exact absurd (q2▸h2) (S1 d q1 x h1)
   ·exact hP.dj d q1 e q2 x h1 h2
 ·refine nodup_cons.mpr ⟨λhm=>?_,hP.nd⟩
  obtain⟨x,hx⟩:=ne c hm;exact S1 c hm x hx hx
 ·intro k hk;by_cases hx:∃x∈c,x∉k
  ·obtain⟨f,hf,hs⟩:=Jc hr hk hx;obtain⟨d,hd,ds⟩:=cv f hf;exact⟨d,ai _ hd,λx h=>(hs x (ds x h)).1⟩
  ·exact⟨c,af,λx h=>bT λz=>hx ⟨x,h,z⟩⟩
 ·intro d hd;rcases mem_cons.mp hd with rfl|hd
  ·exact⟨l,hl,sc⟩
  ·obtain⟨f,hf,hs⟩:=iL d hd;obtain⟨k,hk,_,rfl⟩:=An hf;exact⟨k,hk,λx h=>(dY.mp (hs x h)).1⟩
theorem yQ {α:Type} [BEq α] [LawfulBEq α]:∀(n:Nat) (l:List α),l.length<=n->l.eraseDups.length<=l.length
 |_,[],_=>by simp
 |0,_::_,h=>by simp at h
 |n+1,a::l,h=>by
  rw[eraseDups_cons,ay,ay];have h1:=aW (λb=> !b==a) l
  have h2:=yQ n (l.filter λb=> !b==a) (aD h1 (by simpa using h))
  omega
def Ao {L:cn}{c l:cp}(hl:l∈L) (hc:∀x∈c,x∈l):(nZ L c).length<L.length:=by
 have h1:(L.filter λl=> !fY l c).length<L.length:=by
  refine Nat.lt_of_le_of_ne (aW _ _) λe=>?_
  have:=length_filter_eq_length_iff.mp e l hl;rw[qm.mpr hc]at this;cases this
 refine Nat.lt_of_le_of_lt ?_ h1;unfold nZ fA LO;refine aD (aW _ _) ?_;rw[(eY _).length_eq];refine aD (yQ _ _ (au _)) ?_;unfold fZ;rw[ae];exact aW _ _
def Ep (hf:f∈vY L w x) (hp:p∈f):(∃l∈L,p∈l)/\p≠x:=by
 unfold vY at hf;split at hf
 ·obtain⟨l,hl,_,rfl⟩:=eS.mp (fB.mp hf).1;obtain⟨h1,h2⟩:=dY.mp hp;exact⟨⟨l,hl,h1⟩,λz=>h2 (by simp[z])⟩
 ·obtain⟨l,hl,hy,rfl⟩:=eS.mp (fB.mp hf).1;obtain⟨h1,_⟩:=dY.mp hp;exact⟨⟨l,hl,h1⟩,λz=>hy p h1 (by simp[z])⟩
theorem Km:∀(n:Nat) (L:cn) (w:Int) (ps:cp),(∀l∈L,∀p∈l,p∈ps)->ps.length<n->vF (n+1) L w=vF n L w
 |0,_,_,_,_,h=>by omega
 |n+1,L,w,ps,hp,hn=>by
  have e:(L.flatten.any λx=>oA L w x&&vF (n+1) (vY L w x) (1-w)==w)=(L.flatten.any λx=>oA L w x&&vF n (vY L w x) (1-w)==w):=by
   refine any_congr λx hx=>?_
   obtain⟨l,hl,hxl⟩:=List.mem_flatten.mp hx;have hxp:=hp l hl x hxl;rw[Km n (vY L w x) (1-w) (ps.erase x) (λf hf p h=>?_) (by rw[List.length_erase_of_mem hxp];have:=length_pos_of_mem hxp;omega)]
   obtain⟨⟨k,hk,X8⟩,ne⟩:=Ep hf h;exact(List.mem_erase_of_ne ne).mpr (hp k hk p X8)
  conv=>lhs;unfold vF
  conv=>rhs;unfold vF
  rw[e]
where
 any_congr {f g:Int->Bool}:∀{l:cp},(∀x∈l,f x=g x)->l.any f=l.any g
  |[],_=>rfl
  |a::l,h=>by rw[bF,bF,h a af,any_congr λx hx=>h x (ai _ hx)]
def xr.long (hP:Mt P) (cv:xr L P) (hl:l∈L):2<=l.length:=by
 obtain⟨c,hc,hs⟩:=cv l hl;have:=bV (iJ (hP.rise c hc)) hs;have:=hP.two c hc;omega
def xr.guard (cv:xr L P) (z:Int):xr (fA L [] [z]) P:=λf hf=>by
 obtain⟨l,hl,_,rfl⟩:=eS.mp (fB.mp hf).1;obtain⟨c,hc,hs⟩:=cv l hl;exact⟨c,hc,λx hx=>dY.mpr ⟨hs x hx,by simp⟩⟩
def Er (L P:cn) (x:Int):Prop:=∀l∈L,(∃c∈P,x∉c/\∀p∈c,p∈l)\/∃c∈P,x∈c/\∃p∈c,p∈l
def xr.but (hP:Mt P) (cv:xr L P) (x:Int):Er (fA L [x] []) P x:=λf hf=>by
 obtain⟨l,hl,_,rfl⟩:=eS.mp (fB.mp hf).1;obtain⟨c,hc,hs⟩:=cv l hl;by_cases hx:x∈c
 ·right;refine⟨c,hc,hx,?_⟩;obtain⟨a,b,rfl,ab⟩:=uW (hP.rise c hc) (hP.two c hc);by_cases ha:x=a
  ·exact⟨b,by simp,dY.mpr ⟨hs b (by simp),by simp;omega⟩⟩
  ·exact⟨a,by simp,dY.mpr ⟨hs a (by simp),by simp;omega⟩⟩
 ·left;exact⟨c,hc,hx,λp hp=>dY.mpr ⟨hs p hp,λz=>hx (by simp at z;exact z▸hp)⟩⟩
def Er.answer (hP:Mt P) (cv:Er L P x) (hn:∀l∈L,x∉l) (h0:∃l∈L,∃p,p∈l):∃z,(∃l∈L,z∈l)/\(∀l∈L,l.length<=1->z∈l)/\xr (fA L [] [z]) P:=by
 have S1:∀l∈L,∀c∈P,(∀p∈c,p∈l)->2<=l.length:=λl hl c hc hs=>by
  have:=bV (iJ (hP.rise c hc)) hs;have:=hP.two c hc;omega
 by_cases hy:∃l∈L,∃c∈P,x∈c/\∃p∈c,p∈l
 ·obtain⟨l,hl,c,hc,hx,p,hp,mn⟩:=hy;have uniq:∀k∈L,∀d∈P,x∈d->∀q∈d,q∈k->q=p:=λk hk d hd Vb q hq RJ=>by
   have:=hP.dj c hc d hd x hx Vb;subst this;obtain⟨a,b,rfl,ab⟩:=uW (hP.rise c hc) (hP.two c hc);have nx:q≠x:=λz=>hn k hk (z▸RJ)
   have np:p≠x:=λz=>hn l hl (z▸mn)
   simp only[mem_cons,bH,or_false]at hx hp hq;omega
  refine⟨p,⟨l,hl,mn⟩,λk hk h1=>?_,λf hf=>?_⟩
  ·rcases cv k hk with⟨d,hd,_,hs⟩|⟨d,hd,Vb,q,hq,RJ⟩
   ·have:=S1 k hk d hd hs;omega
   ·exact uniq k hk d hd Vb q hq RJ▸RJ
  ·obtain⟨k,hk,U9,rfl⟩:=eS.mp (fB.mp hf).1;rcases cv k hk with⟨d,hd,_,hs⟩|⟨d,hd,Vb,q,hq,RJ⟩
   ·exact⟨d,hd,λr hr=>dY.mpr ⟨hs r hr,by simp⟩⟩
   ·exact absurd (by simp[uniq k hk d hd Vb q hq RJ]) (U9 q RJ)
 ·obtain⟨l,hl,p,hp⟩:=h0;have all:∀k∈L,∃d∈P,∀q∈d,q∈k:=λk hk=>by
   rcases cv k hk with⟨d,hd,_,hs⟩|⟨d,hd,Vb,q,hq,RJ⟩
   ·exact⟨d,hd,hs⟩
   ·exact absurd ⟨k,hk,d,hd,Vb,q,hq,RJ⟩ hy
  refine⟨p,⟨l,hl,hp⟩,λk hk h1=>?_,xr.guard (λk hk=>all k hk) p⟩
  obtain⟨d,hd,hs⟩:=all k hk;have:=S1 k hk d hd hs;omega
theorem vZ (hP:Mt P):∀(n:Nat) (L:cn),(∀l∈L,eR l)->
  (xr L P->vF n L 0=1)/\(∀x,Er L P x->(∀l∈L,x∉l)->vF n L 1=1\/n=0)
 |0,_,_=>⟨λ_=>rfl,λ_ _ _=>.inr rfl⟩
 |n+1,L,hr=>by
  refine⟨λcv=>?_,λx cv hn=>.inl ?_⟩
  ·unfold vF;by_cases h0:L=[]
   ·rw[if_pos h0]
   ·rw[if_neg h0,if_neg λz=>by have:=xr.long hP cv z;simp at this,if_neg λz=>by
     obtain⟨l,hl,h1⟩:=bN.mp z.2;have:=xr.long hP cv hl;have:=bJ h1;omega]
    refine if_neg λz=>?_
    obtain⟨x,_,h1⟩:=bN.mp z;rw[Bool.and_eq_true]at h1;have e:vF n (vY L 0 x) (1-0)=0:=by simpa using h1.2
    rcases(vZ hP n (vY L 0 x) (mU hr)).2 x (cv.but hP x) (λf hf hx=>(Ep (w:=0) hf hx).2 rfl)with q|q
    ·rw[show(1:Int)-0=1 by omega,q]at e;cases e
    ·subst q;cases e
  ·unfold vF;by_cases h0:L=[]
   ·rw[if_pos h0]
   ·have ne:[]∉L:=λz=>by
     rcases cv _ z with⟨c,hc,_,hs⟩|⟨c,_,_,p,_,hp⟩
     ·obtain⟨a,b,rfl,_⟩:=uW (hP.rise c hc) (hP.two c hc);exact absurd (hs a (by simp)) (by simp)
     ·cases hp
    rw[if_neg h0,if_neg ne,if_neg λz=>by omega]
    obtain⟨z,⟨l,hl,hz⟩,hs,cz⟩:=cv.answer hP hn (by
     cases L with
     |nil=>exact absurd rfl h0
     |cons l r=>
      cases l with
      |nil=>exact absurd af ne
      |cons p t=>exact⟨_,af,p,af⟩)
    refine if_pos (bN.mpr ⟨z,List.mem_flatten.mpr ⟨l,hl,hz⟩,?_⟩);rw[Bool.and_eq_true];refine⟨?_,?_⟩
    ·unfold oA;rw[Bool.and_eq_true];refine⟨bN.mpr ⟨l,hl,aR hz⟩,?_⟩;rw[Bool.or_eq_true];refine .inr (all_eq_true.mpr λk hk=>?_)
     by_cases h1:1<k.length
     ·simp[h1]
     ·simp[h1,hs k hk (by omega)]
    ·have:=(vZ hP n (vY L 1 z) (mU hr)).1 cz;rw[show(1:Int)-1=0 by omega,this]
     rfl
def OX {L P:cn}(hP:Mt P) (cv:xr L P) (hr:∀l∈L,eR l) (n:Nat):vF (n+1) L 1=1:=by
 obtain⟨x,hx⟩:∃x:Int,(∀l∈L,x∉l)/\∀c∈P,x∉c:=by
  have:∀l:cp,∃x:Int,∀p∈l,p<x:=λl=>by
   induction l with
   |nil=>exact⟨0,λp h=>by cases h⟩
   |cons a l ih=>
    obtain⟨x,h⟩:=ih;refine⟨max x (a+1),λp hp=>?_⟩
    rcases mem_cons.mp hp with rfl|hp
    ·omega
    ·have:=h p hp;omega
  obtain⟨x,h⟩:=this (L.flatten++P.flatten);exact⟨x,λl hl z=>by have:=h x (mem_append.mpr (.inl (List.mem_flatten.mpr ⟨l,hl,z⟩)));omega,λc hc z=>by have:=h x (mem_append.mpr (.inr (List.mem_flatten.mpr ⟨c,hc,z⟩)));omega⟩
 rcases(vZ hP (n+1) L hr).2 x (λl hl=>by obtain⟨c,hc,hs⟩:=cv l hl;exact .inl ⟨c,hc,hx.2 c hc,hs⟩) hx.1 with q|q
 ·exact q
 ·cases q
end GP
namespace PC
open DL LW
def BK:bY:=
  (eh (dC (.bl false)))
def ug:bY:=
  (kW (Cr (lR (qB (w5 "int" (df 0)))) (qB (w5 "bool" (df 0)))) BK fW)
def uh:bY:=
  (eh (zp JR JR (df 1) (df 0) (df 2)))
def mK:bY:=
  (dH ug
  uh)
def lX:cc:=gz 3 3 mK
def sf:bY:=
  (eh (cU By (cN (dL (ei (iT (cW 1)) 2 lS (dw uN (df 2) (df 0)))) cT)))
def Ap:bY:=
  sf
def jD:cc:=gz 3 2 Ap
def qp:bY:=
  (eh (cU Io (cN (dL (ei (iT (cW 1)) 2 lS (dw uN (df 2) (df 0)))) cT)))
def xZ:bY:=
  qp
def jm:cc:=gz 3 2 xZ
def BL:bY:=
  (eh (VI (qB (dw nS (df 1) (dC (.int 0)))) (dw gK (df 0) (dC (.int 2))) (dw gK (df 0) (dC (.int 3)))))
def v3:bY:=
  BL
def eZ:cc:=gz 2 2 v3
def Gq (dN:cc):bY:=
  (eh (fV (cN (cW 0) cT)))
def lY (dN:cc):bY:=
  (kW (qB (dw W5 (df 1) (cU hX (cN (df 0) cT)))) (Gq dN) fW)
def Gr (dN:cc):bY:=
  (eh (fV (cN (fV cT) cT)))
def sg (dN:cc):bY:=
  (kW (qB (dw nS (df 1) (dC (.int 0)))) (Gr dN) fW)
def ya (dN:cc):bY:=
  (gQ 2 (rO cT))
def si (dN:cc):bY:=
  (HX 2 (dw lh (fV (cN (dw gK (df 0) (df 3)) cT)) (df 4)))
def kF (dN:cc):bY:=
  (si dN)
def sj (dN:cc):bY:=
  (kz 4 (iT (cU dN (cN (D7 (df 0) (uP (dw kZ (df 3) (dC (.int 1)))) Mp) (cN (dw rN (df 1) (dC (.int 1))) cT)))) (kF dN))
def kG (dN:cc):bY:=
  (sj dN)
def sk (dN:cc):bY:=
  (kz 3 (wG (cN (dw kZ (dw rN (cU hX (cN (df 0) cT)) (df 1)) (dC (.int 1))) cT)) (kG dN))
def Gs (dN:cc):bY:=
  (eh (cU i7 (cN (df 2) cT)))
def nv (dN:cc):bY:=
  (dH (lY dN)
  (dH (sg dN)
  (dH (ya dN)
  (dH (sk dN)
  (Gs dN)))))
def ft:Nat->cc
 |0=>λ_=>none
 |n+1=>gz 5 2 (nv (ft n))
def qV:bY:=
  (i6 3 (dw lh (df 1) (df 2)))
def yt:bY:=
  (eh (cU i7 (cN (dL (ei (wG (cN (dw gK (df 0) (dC (.int 0))) cT)) 4 (qB (dw vq (df 4) (df 3))) (cW 4))) cT)))
def kH:bY:=
  (dH qV
  yt)
def jP:cc:=gz 5 3 kH
def Jd:bY:=
  (eh (fV (cN (cU i7 (cN (dL (eP iP (cN (dw lh (df 0) (df 3)) cT))) cT)) (cN (cW 1) cT))))
def Je:bY:=
  (kW (qB (dw nS (df 2) (dC (.int 0)))) Jd fW)
def Jf:bY:=
  (eh (fV (cN (cW 0) (cN (cU i7 (cN (dL (eP iP (cN (dw lh (df 1) (df 3)) cT))) cT)) cT))))
def Dd:bY:=
  (dH Je
  Jf)
def so:cc:=gz 4 4 Dd
def ui:bY:=
  (eh (dC (.int 0)))
def oB:bY:=
  (kW (lR (qT (dL (ei (iT (cW 3)) 4 (qB (dw vq (df 4) (df 1))) (cW 4))))) ui fW)
def gD:bY:=
  oB
def oC:bY:=
  (kz 3 (iT (dw gK (dw gK (df 0) (dC (.int 0))) (dC (.int 1)))) gD)
def uj:bY:=
  (eh (dC .eU))
def oE:bY:=
  (kW (lR (qT (dL (ei (iT (cW 3)) 4 (qB (dw uN (df 4) (df 2))) (cW 4))))) uj fW)
def gE:bY:=
  oE
def oF:bY:=
  (kz 3 (iT (dw gK (dw gK (df 0) (dC (.int 0))) (dC (.int 1)))) gE)
def BM:bY:=
  (eh (dC (.int 1)))
def kI:bY:=
  (dH oC
  (dH oF
  BM))
def j9:cc:=gz 5 3 kI
def qW:bY:=
  (gQ 4 (ei (wG (cN (dw gK (dw gK (df 0) (dC (.int 0))) (dC (.int 0))) cT)) 9 (qB (dw vq (df 9) (dw lh (df 1) (df 2)))) (cW 9)))
def qX:bY:=
  (gQ 5 (rO (cN (fV cT) cT)))
def qY:bY:=
  (gQ 7 (rO cT))
def mh:bY:=
  (Ra 7 (ei (iL (df 4)) 9 (Cr (qB (dw nS (df 8) (fV cT))) (qB (dw QU (df 9) (dw gK (df 8) (Q0 (dC (.int 1))))))) (dw lh (df 8) (fV (cN (cW 9) cT)))))
def pj:bY:=
  mh
def qZ:bY:=
  (kz 8 (iL (cW 5)) pj)
def yu:bY:=
  (i6 5 (cW 7))
def jE:bY:=
  (dH qY
  (dH qZ
  (hO 7 yu)))
def mi:bY:=
  (kz 6 (wG (cN (cU zt (cN (dw gK (df 0) (dw kZ (dC (.int 2)) (df 3))) (cN (cU hX (cN (df 4) cT)) cT))) cT)) jE)
def yv:bY:=
  (eh (cW 5))
def kJ:bY:=
  (dH qW
  (hO 4 (dH qX
  (hO 5 (dH mi
  yv)))))
def g9:cc:=gz 10 4 kJ
def qq:bY:=
  (eh (fV (cN (cU i7 (cN (dL (eP iP (cN (dw lh (df 0) (df 3)) cT))) cT)) (cN (cW 1) cT))))
def qr:bY:=
  (kW (qB (dw nS (df 2) (dC (.int 0)))) qq fW)
def v5:bY:=
  (eh (fV (cN (cW 0) (cN (cU i7 (cN (dL (eP iP (cN (dw lh (df 1) (df 3)) cT))) cT)) cT))))
def n4:bY:=
  (dH qr
  v5)
def Vc:cc:=gz 4 4 n4
end PC
namespace PC
open DL GP
open LW (eC fL)
open L2 (mE E6)
def outs (hl:l.length<1000000):oB [.dat G,.dat (tupI m),.dat Y,.dat (tupI l),c]=if fY m l then some (.ret (.int 0))else some (.next [.dat G,.dat (tupI m),.dat Y,.dat (tupI l),c]):=by
 have key:j5 4 (qB (dw vq (df 4) (df 1))) (cW 4) [.dat G,.dat (tupI m),.dat Y,.dat (tupI l),c] (l.map D.int)=some (((l.map D.int).filter λd=> !decide (intOf d∈m)).map id):=by
  refine LW.mJ _ ?_ ?_
  ·intro d hd;obtain⟨i,_,rfl⟩:=mem_map.mp hd;simp only[qB,dw,df,aY,aX,aK,aM,ao,r9];rfl
  ·intro d hd _;simp[cW]
 rw[sd (λi=> !decide (i∈m))]at key
 have e:=Kh m l;have pM:(l.map D.int).length<1000000:=by simpa using hl
 unfold oB kW lR qT dL ei iT;simp only[cW,aK,aM,tupI,ao];simp only[tupI]at key;rw[if_pos pM,key];rw[e];cases hf:(l.filter λi=> !decide (i∈m))with
 |nil=>simp[D5,ui,eh,dC]
 |cons a r=>simp[D5,fW]
def ins {y l:cp}{G M:D}{c:Sl}(hl:l.length<1000000):
  oE [.dat G,.dat M,.dat (tupI y),.dat (tupI l),c]=if jl y l then some (.next [.dat G,.dat M,.dat (tupI y),.dat (tupI l),c])else some (.ret .eU):=by
 have key:j5 4 (qB (dw uN (df 4) (df 2))) (cW 4) [.dat G,.dat M,.dat (tupI y),.dat (tupI l),c] (l.map D.int)=some (((l.map D.int).filter λd=>decide (intOf d∈y)).map id):=by
  refine LW.mJ _ ?_ ?_
  ·intro d hd;obtain⟨i,_,rfl⟩:=mem_map.mp hd;simp only[qB,dw,df,aY,aX,aK,aM,ao,nX];rfl
  ·intro d hd _;simp[cW]
 rw[sd (λi=>decide (i∈y))]at key
 have e:=Gh y l;have pM:(l.map D.int).length<1000000:=by simpa using hl
 unfold oE kW lR qT dL ei iT;simp only[cW,aK,aM,tupI,ao];simp only[tupI]at key;rw[if_pos pM,key];rw[e];cases hf:(l.filter λi=>decide (i∈y))with
 |nil=>simp[D5,uj,eh,dC]
 |cons a r=>simp[D5,fW]
theorem S2:∀(ls:cn) (x:Sl),(∀l∈ls,l.length<1000000)->
  (ls.any (fY m)=true->gp 3 gD (ls.map tupI) [.dat G,cK m,.dat Y,x,c]=some (.ret (.int 0)))/\
  (ls.any (fY m)=false->∃x',gp 3 gD (ls.map tupI) [.dat G,cK m,.dat Y,x,c]=some (.next [.dat G,cK m,.dat Y,x',c]))
 |[],x,_=>⟨λh=>by simp at h,λ_=>⟨x,rfl⟩⟩
 |l::ls,x,hl=>by
  have e:=outs (m:=m) (l:=l) (G:=G) (Y:=Y) (c:=c) (hl l af);have ih:=S2 (m:=m) (G:=G) (Y:=Y) (c:=c) ls (cK l) λl h=>hl l (ai _ h)
  simp only[aF,gp,gD,aY,aX,e,bF];cases h:fY m l with
  |true=>simp
  |false=>simpa [gD]using ih
theorem S3:∀(ls:cn) (x:Sl),(∀l∈ls,l.length<1000000)->
  (ls.all (jl y)=false->gp 3 gE (ls.map tupI) [.dat G,.dat M,cK y,x,c]=some (.ret .eU))/\
  (ls.all (jl y)=true->∃x',gp 3 gE (ls.map tupI) [.dat G,.dat M,cK y,x,c]=some (.next [.dat G,.dat M,cK y,x',c]))
 |[],x,_=>⟨λh=>by simp at h,λ_=>⟨x,rfl⟩⟩
 |l::ls,x,hl=>by
  have e:=ins (y:=y) (l:=l) (G:=G) (M:=M) (c:=c) (hl l af);have ih:=S3 (y:=y) (G:=G) (M:=M) (c:=c) ls (cK l) λl h=>hl l (ai _ h)
  simp only[aF,gp,gE,aY,aX,e,all_cons];cases h:jl y l with
  |false=>simp
  |true=>simpa [gE]using ih
def Vd (hl:∀l∈ls,l.length<1000000):j9 [jk many ls f b g,tupI m,tupI y]=some (aaD (CU ls m y)):=by
 refine LW.dU rfl ?_;show kI [.dat (jk many ls f b g),cK m,cK y,.no,.no]=_;have it:∀x:Sl,iT (dw gK (dw gK (df 0) (dC (.int 0))) (dC (.int 1))) [.dat (jk many ls f b g),cK m,cK y,x,.no]=some (ls.map tupI):=λx=>rfl
 obtain⟨a1,a2⟩:=S2 (m:=m) (G:=jk many ls f b g) (Y:=tupI y) (c:=.no) ls .no hl;have s3:oC [.dat (jk many ls f b g),cK m,cK y,.no,.no]=gp 3 gD (ls.map tupI) [.dat (jk many ls f b g),cK m,cK y,.no,.no]:=by
  unfold oC kz;rw[it];rfl
 unfold CU;cases h:ls.any (fY m)with
 |true=>
  unfold kI dH;rw[s3,a1 h];rfl
 |false=>
  obtain⟨x,e⟩:=a2 h;unfold kI;rw[LW.cS (s3.trans e)];obtain⟨b1,b2⟩:=S3 (y:=y) (G:=jk many ls f b g) (M:=tupI m) (c:=.no) ls x hl;have s6:oF [.dat (jk many ls f b g),cK m,cK y,x,.no]=gp 3 gE (ls.map tupI) [.dat (jk many ls f b g),cK m,cK y,x,.no]:=by
   unfold oF kz;rw[it];rfl
  cases h2:ls.all (jl y)with
  |true=>
   obtain⟨x',e2⟩:=b2 h2;rw[LW.cS (s6.trans e2)];rfl
  |false=>
   unfold dH;rw[s6,b1 h2];rfl
def S5 (hp:0<p) (hm:0<m):eC [.int c,.int p,.int m]=some (.int (LW.lW c p m)):=LW.FL hp hm
theorem iR {α:Type}{j:Nat}{f:bZ}{δ:gh}{φ ψ:α->D}:∀(l:List α),(∀a∈l,f (δ.set j (.dat (φ a)))=some (ψ a))->j5 j lS f δ (l.map φ)=some (l.map ψ)
 |[],_=>rfl
 |a::l,h=>by
  rw[aF];unfold j5;have e:lS (δ.set j (.dat (φ a)))=some true:=rfl;simp only[e,h a af,ao,iR l λx hx=>h x (ai _ hx),bA,aF]
def ir (h:f δ=some ds):cU F (cN (dL f) cT) δ=F [.lst ds]:=by
 simp only[cU,cN,dL,cT,h,bA,ao]
def dM {o:D->D->Option D}{f g:bZ}{δ:gh}{x y:D}(hf:f δ=some x) (hg:g δ=some y):dw o f g δ=o x y:=by
 unfold dw;rw[hf,hg];rfl
def rf (hf:f δ=some x):cN f cT δ=some [x]:=by
 unfold cN cT;rw[hf];rfl
def Kn (hf:f δ=some x) (hg:g δ=some r):cN f g δ=some (x::r):=by
 unfold cN;rw[hf,hg];rfl
def de (hf:f δ=some ds):cU F f δ=F ds:=by
 unfold cU;rw[hf];rfl
def fC (hf:f δ=some d):eh f δ=some (.ret d):=by
 unfold eh;rw[hf];rfl
def gr (hf:f δ=some d):i6 i f δ=some (.next (δ.set i (.dat d))):=by
 unfold i6;rw[hf];rfl
def kY (h:q δ=some true):kW q f g δ=f δ:=by unfold kW;rw[h]
def hV (h:q δ=some false):kW q f g δ=g δ:=by unfold kW;rw[h]
def n5 (h:q δ=some b):lR q δ=some (!b):=by unfold lR;rw[h];rfl
def f6 (h:f δ=some (.ret d)):dH f g δ=some (.ret d):=by unfold dH;rw[h]
def eN (h:f δ=some (.bl b)):qB f δ=some b:=by
 unfold qB;rw[h]
def Aq {α:Type}(l:List α) (q:α->Bool):Io [.lst (l.map λx=>D.bl (q x))]=some (.bl (l.any q)):=by
 have:oX (l.map λx=>D.bl (q x))=some (l.map q):=by
  induction l with
  |nil=>rfl
  |cons a l ih=>simp[oX,ih]
 simp[Io,this,any_map]
def RK (i lo hi:Int):lX [.int i,.int lo,.int hi]=some (.bl (decide (lo<=i)&&decide (i<=hi))):=by
 refine LW.dU rfl ?_;show mK [cJ i,cJ lo,cJ hi]=_;have e:ug [cJ i,cJ lo,cJ hi]=some (.next [cJ i,cJ lo,cJ hi]):=rfl;unfold mK;rw[LW.cS e];have:zp JR JR (df 1) (df 0) (df 2) [cJ i,cJ lo,cJ hi]=some (.bl (decide (lo<=i)&&decide (i<=hi))):=by
  show(match JR (.int lo) (.int i)with|some (.bl true)=>_|some (.bl false)=>_|_=>_)=_
  by_cases h:lo<=i
  ·simp[JR,oI,h,df]
  ·simp[JR,oI,h]
 unfold uh eh;rw[this];rfl
def Ko (i:Int) (m:cp):uN (.int i) (tupI m)=some (.bl (decide (i∈m))):=nX i m
def xt (hl:l.length<1000000):jD [tupI m,tupI l]=some (.bl (fY m l)):=by
 refine LW.dU rfl ?_;show sf [cK m,cK l,.no]=_;have key:j5 2 lS (dw uN (df 2) (df 0)) [cK m,cK l,.no] (l.map D.int)=some (l.map λi=>D.bl (decide (i∈m))):=iR l λi _=>Ko i m
 have pM:(l.map D.int).length<1000000:=by simpa using hl
 have e:ei (iT (cW 1)) 2 lS (dw uN (df 2) (df 0)) [cK m,cK l,.no]=some (l.map λi=>D.bl (decide (i∈m))):=by
  show(if(l.map D.int).length<1000000 then _ else _)=_
  rw[if_pos pM,key]
 unfold sf eh cU cN dL;rw[e];simp only[bA,ao,cT];rw[LW.o8 l (λi=>decide (i∈m))]
 rfl
def As (hl:l.length<1000000):jm [tupI m,tupI l]=some (.bl (jl m l)):=by
 refine LW.dU rfl ?_;show qp [cK m,cK l,.no]=_;have key:j5 2 lS (dw uN (df 2) (df 0)) [cK m,cK l,.no] (l.map D.int)=some (l.map λi=>D.bl (decide (i∈m))):=iR l λi _=>Ko i m
 have pM:(l.map D.int).length<1000000:=by simpa using hl
 have e:ei (iT (cW 1)) 2 lS (dw uN (df 2) (df 0)) [cK m,cK l,.no]=some (l.map λi=>D.bl (decide (i∈m))):=by
  show(if(l.map D.int).length<1000000 then _ else _)=_
  rw[if_pos pM,key]
 unfold qp eh cU cN dL;rw[e];simp only[bA,ao,cT];rw[Aq l (λi=>decide (i∈m))]
 rfl
def X9 (hw:w=0\/w=1):eZ [jk many ls f b g,.int w]=some (.int (if w=0 then b else g)):=by
 rcases hw with rfl|rfl<;>rfl
def OY (h1:m.length+c.length<64) (h2:y.length+c.length<64):so [tupI m,tupI y,.int w,tupI c]=some (.tup [tupI (lj m y w c).1,tupI (lj m y w c).2]):=by
 refine LW.dU rfl ?_;show n4 [cK m,cK y,cJ w,cK c]=_;have k1:=qg (ns:=m++c) (by simpa using h1)
 have k2:=qg (ns:=y++c) (by simpa using h2)
 unfold lj;have j1:=o9 h1;have j2:=o9 h2;by_cases h:w=0
 ·subst h;simp[n4,qq,qr,dH,kW,eh,qB,dw,df,dC,nS,eV,jJ,fV,cN,cT,cW,cU,dL,eP,j1,k1,i7];rfl
 ·have hw:(w==0)=false:=by simpa using h
  simp[n4,qq,qr,v5,dH,kW,fW,hw,eh,qB,dw,df,dC,nS,eV,jJ,fV,cN,cT,cW,cU,dL,eP,j2,k2,i7,h];rfl
theorem Kp (hp:mE ps k=some p):∀(cs acc:cn) (x:Sl),(∀c∈cs,c.length<1000)->acc.length+cs.length<1000000->
  ∃x',gp 4 (kF rc) (cs.map tupI) [cK ps,C,.own (acc.map tupI),cJ k,x]=some (.next [cK ps,C,.own ((acc++cs.map (p:: ·)).map tupI),cJ k,x'])
 |[],acc,x,_,_=>⟨x,by simp[gp]⟩
 |c::cs,acc,x,hc,ha=>by
  simp only[ay]at ha;have hx:gK (tupI ps) (.int k)=some (.int p):=by
   show mE (ps.map D.int) k=_;have:mE (ps.map D.int) k=(mE ps k).map D.int:=by
    unfold mE E6;simp only[ae];split
    ·split
     ·simp
     ·rfl
    ·split
     ·simp
     ·rfl
   rw[this,hp];rfl
  have e1:dw lh (fV (cN (dw gK (df 0) (df 3)) cT)) (df 4) [cK ps,C,.own (acc.map tupI),cJ k,cK c]=some (tupI (p::c)):=by
   have e0:fV (cN (dw gK (df 0) (df 3)) cT) [cK ps,C,.own (acc.map tupI),cJ k,cK c]=some (tupI [p]):=by
    have:dw gK (df 0) (df 3) [cK ps,C,.own (acc.map tupI),cJ k,cK c]=some (.int p):=hx;unfold fV cN;rw[this];rfl
   have:lh (tupI [p]) (tupI c)=some (tupI ([p]++c)):=by
    have h1:=hc c af;have:1+c.length<=1000000:=by omega
    simp[lh,tupI,this]
   exact(dM e0 rfl).trans this
  have e2:si rc [cK ps,C,.own (acc.map tupI),cJ k,cK c]=some (.next [cK ps,C,.own ((acc++[p::c]).map tupI),cJ k,cK c]):=by
   unfold si HX;have hl:(acc.map tupI).length<1000000:=by rw[ae];omega
   simp only[aK,aM];rw[e1];simp only[ao,if_pos hl,aY,aX,map_append,aF,map_nil]
  obtain⟨x',ih⟩:=Kp (rc:=rc) (C:=C) hp cs (acc++[p::c]) (cK c) (λd hd=>hc d (ai _ hd)) (by rw[aQ];simp;omega)
  refine⟨x',?_⟩;simp only[aF,gp,aY,aX];unfold kF at ih ⊢;rw[e2];simp only;rw[ih];simp
def OZ (ps:cp) (k:Nat) (h:k<ps.length):uO (ps.map D.int) (some ((k:Int)+1)) none=(ps.drop (k+1)).map D.int:=by
 unfold uO;have e1:HT.i8 (ps.map D.int).length 0 (some ((k:Int)+1))=k+1:=by
  unfold HT.i8;simp only[ae];split<;>omega
 have e2:HT.i8 (ps.map D.int).length (ps.map D.int).length none=ps.length:=by simp[HT.i8]
 rw[e1,e2,take_of_length_le (by simp),map_drop]
theorem v7:∀(n:Nat) (lo:Int),dD lo n=(List.range n).map λ(k:Nat)=>lo+(k:Int)
 |0,_=>rfl
 |n+1,lo=>by
  rw[range_succ_eq_map,aF,aV];show lo::dD (lo+1) n=_;rw[v7 n (lo+1)];simp only[Int.ofNat_zero,Int.add_zero,List.cons.injEq];refine⟨by simp,bR λk _=>?_⟩
  simp only[Function.comp];omega
theorem Gu {rc:cc}{ps:cp}{c:Nat}(hz:ps.length<=12):∀(ks:List Nat) (acc:cn) (x3 x4:Sl),
  (∀k∈ks,k<ps.length/\rc [tupI (ps.drop (k+1)),.int (c:Int)]=some (.tup ((comb c (ps.drop (k+1))).map tupI)))->acc.length+ks.length*4096<1000000->
  ∃x3' x4',gp 3 (kG rc) (ks.map λ(k:Nat)=>D.int (k:Int)) [cK ps,cJ ((c:Int)+1),.own (acc.map tupI),x3,x4]=
   some (.next [cK ps,cJ ((c:Int)+1),.own ((acc++ks.flatMap (Ai c ps)).map tupI),x3',x4'])
 |[],acc,x3,x4,_,_=>⟨x3,x4,by simp[gp]⟩
 |k::ks,acc,x3,x4,h,ha=>by
  obtain⟨hk,hr⟩:=h k af;simp only[ay]at ha;have hp:ps[k]? =some ps[k]:=ah hk;have hat:mE ps (k:Int)=some ps[k]:=by rw[LW.qf ps k hk,hp]
  have hm:(comb c (ps.drop (k+1))).length<=4096:=by
   refine aD (tL c _) ?_;have:(ps.drop (k+1)).length<=12:=by rw[length_drop];omega
   exact aD (Nat.pow_le_pow_right (by omega) this) (by decide)
  have et:Ai c ps k=(comb c (ps.drop (k+1))).map (ps[k]:: ·):=by unfold Ai;rw[hp]
  obtain⟨x',e⟩:=Kp (rc:=rc) (C:=cJ ((c:Int)+1)) hat (comb c (ps.drop (k+1))) acc x4 (λd hd=>by
   have h1:=(nt c _ d hd).1;have h2:c<=(ps.drop (k+1)).length:=by
    rcases Nat.lt_or_ge (ps.drop (k+1)).length c with z|z
    ·rw[nu c _ z]at hd;cases hd
    ·exact z
   rw[length_drop]at h2;omega) (by omega)
  have e7:sj rc [cK ps,cJ ((c:Int)+1),.own (acc.map tupI),cJ (k:Int),x4]=some (.next [cK ps,cJ ((c:Int)+1),.own ((acc++Ai c ps k).map tupI),cJ (k:Int),x']):=by
   have i1:D7 (df 0) (uP (dw kZ (df 3) (dC (.int 1)))) Mp [cK ps,cJ ((c:Int)+1),.own (acc.map tupI),cJ (k:Int),x4]=some (tupI (ps.drop (k+1))):=by
    show some (D.tup (uO (ps.map D.int) (some ((k:Int)+1)) none))=_;rw[OZ ps k hk];rfl
   have i2:dw rN (df 1) (dC (.int 1)) [cK ps,cJ ((c:Int)+1),.own (acc.map tupI),cJ (k:Int),x4]=some (.int (c:Int)):=by
    show some (D.int ((c:Int)+1-1))=_
    congr 2;omega
   have i3:iT (cU rc (cN (D7 (df 0) (uP (dw kZ (df 3) (dC (.int 1)))) Mp) (cN (dw rN (df 1) (dC (.int 1))) cT))) [cK ps,cJ ((c:Int)+1),.own (acc.map tupI),cJ (k:Int),x4]=some ((comb c (ps.drop (k+1))).map tupI):=by
    unfold iT;rw[de (Kn i1 (rf i2)),hr]
   unfold sj kz;rw[i3];show gp 4 (kF rc) _ _=_;rw[e,et]
  obtain⟨y3,y4,ih⟩:=Gu (rc:=rc) hz ks (acc++Ai c ps k) (cJ (k:Int)) x' (λj hj=>h j (ai _ hj)) (by rw[aQ,et,ae];omega)
  refine⟨y3,y4,?_⟩;simp only[aF,gp,aY,aX];unfold kG at ih ⊢;rw[e7];simp only;rw[ih];simp[append_assoc]
theorem xu:∀(n c:Nat) (ps:cp),c<n->ps.length<=12->ft n [tupI ps,.int (c:Int)]=some (.tup ((nY c ps).map tupI))
 |0,c,ps,h,_=>by omega
 |n+1,c,ps,h,hz=>by
  unfold ft;refine LW.dU rfl ?_;show nv (ft n) [cK ps,cJ (c:Int),.no,.no,.no]=_;have q2:qB (dw W5 (df 1) (cU hX (cN (df 0) cT))) [cK ps,cJ (c:Int),.no,.no,.no]=some (decide (ps.length<=c)):=by
   have:cU hX (cN (df 0) cT) [cK ps,cJ (c:Int),.no,.no,.no]=some (.int (ps.length:Int)):=by
    show some (D.int ((ps.map D.int).length:Int))=_;rw[ae]
   refine eN ((dM rfl this).trans ?_);show some (D.bl (decide ((ps.length:Int)<=(c:Int))))=_
   congr 2
   exact decide_eq_decide.mpr (by omega)
  unfold nv;by_cases h1:ps.length<=c
  ·have e2:lY (ft n) [cK ps,cJ (c:Int),.no,.no,.no]=some (.ret (.tup [tupI ps])):=by
    unfold lY;rw[kY (by rw[q2,aR h1])]
    rfl
   rw[f6 e2];unfold nY;rw[if_pos h1];rfl
  ·have e2:lY (ft n) [cK ps,cJ (c:Int),.no,.no,.no]=some (.next [cK ps,cJ (c:Int),.no,.no,.no]):=by
    unfold lY;rw[hV (by rw[q2,aH h1])]
    rfl
   rw[LW.cS e2,Ah (by omega)]
   cases c with
   |zero=>cases ps<;>rfl
   |succ c=>
    have e4:sg (ft n) [cK ps,cJ ((c+1:Nat):Int),.no,.no,.no]=some (.next [cK ps,cJ ((c:Int)+1),.no,.no,.no]):=by
     unfold sg;have:qB (dw nS (df 1) (dC (.int 0))) [cK ps,cJ ((c+1:Nat):Int),.no,.no,.no]=some false:=by
      refine eN ((dM rfl rfl).trans ?_);show nS (.int ((c+1:Nat):Int)) (.int 0)=_;have:jJ (.int ((c+1:Nat):Int)) (.int 0)=false:=by
       simp[jJ];omega
      unfold nS;rw[this];rfl
     rw[hV this];rfl
    have e5:ya (ft n) [cK ps,cJ ((c:Int)+1),.no,.no,.no]=some (.next [cK ps,cJ ((c:Int)+1),.own (([]:cn).map tupI),.no,.no]):=rfl;rw[LW.cS e4,LW.cS e5];obtain⟨x3,x4,e⟩:=Gu (rc:=ft n) (ps:=ps) (c:=c) hz (List.range (ps.length-c)) [] .no .no (λk hk=>by
     have:=mem_range.mp hk;refine⟨by omega,?_⟩
     rw[xu n c (ps.drop (k+1)) (by omega) (by rw[length_drop];omega),Ah (by rw[length_drop];omega)]) (by simp;omega)
    have it:wG (cN (dw kZ (dw rN (cU hX (cN (df 0) cT)) (df 1)) (dC (.int 1))) cT) [cK ps,cJ ((c:Int)+1),.own (([]:cn).map tupI),.no,.no]=some ((List.range (ps.length-c)).map λ(k:Nat)=>D.int (k:Int)):=by
     have:cN (dw kZ (dw rN (cU hX (cN (df 0) cT)) (df 1)) (dC (.int 1))) cT [cK ps,cJ ((c:Int)+1),.own (([]:cn).map tupI),.no,.no]=some [.int ((ps.length:Int)-((c:Int)+1)+1)]:=by
      show some [D.int (((ps.map D.int).length:Int)-((c:Int)+1)+1)]=_;rw[ae]
     unfold wG;rw[this];show(if _ then some ((dD 0 ((ps.length:Int)-((c:Int)+1)+1).toNat).map D.int)else none)=_
     rw[if_pos ⟨by omega,by omega⟩,show((ps.length:Int)-((c:Int)+1)+1).toNat=ps.length-c by omega,v7,aV]
     congr 1
     refine bR λk _=>?_
     simp
    have e8:sk (ft n) [cK ps,cJ ((c:Int)+1),.own (([]:cn).map tupI),.no,.no]=some (.next [cK ps,cJ ((c:Int)+1),.own ((comb (c+1) ps).map tupI),x3,x4]):=by
     unfold sk kz;rw[it];show gp 3 (kG (ft n)) _ _=_;rw[e,nil_append,CY]
    rw[LW.cS e8];rfl
def RL (hm0:0<=many) (hm:many<=12) (hl:m.length+y.length<64):jP [.tup [.int many,L],tupI m,tupI y]=some (tupI (dS many m y)):=by
 refine LW.dU rfl ?_;show kH [.dat (.tup [.int many,L]),cK m,cK y,.no,.no]=_;have hf:=pe many m y;have e1:qV [.dat (.tup [.int many,L]),cK m,cK y,.no,.no]=some (.next [.dat (.tup [.int many,L]),cK m,cK y,cK (m++y),.no]):=gr ((dM rfl rfl).trans (o9 hl));have key:j5 4 (qB (dw vq (df 4) (df 3))) (cW 4) [.dat (.tup [.int many,L]),cK m,cK y,cK (m++y),.no] ((dD 0 many.toNat).map D.int)=some ((((dD 0 many.toNat).map D.int).filter λd=> !decide (intOf d∈m++y)).map id):=by
  refine LW.mJ _ ?_ ?_
  ·intro d hd;obtain⟨i,_,rfl⟩:=mem_map.mp hd;exact eN ((dM rfl rfl).trans (r9 i (m++y)))
  ·intro d hd _;simp[cW]
 rw[sd (λi=> !decide (i∈m++y)),map_id]at key
 have it:wG (cN (dw gK (df 0) (dC (.int 0))) cT) [.dat (.tup [.int many,L]),cK m,cK y,cK (m++y),.no]=some ((dD 0 many.toNat).map D.int):=by
  have:cN (dw gK (df 0) (dC (.int 0))) cT [.dat (.tup [.int many,L]),cK m,cK y,cK (m++y),.no]=some [.int many]:=rfl;unfold wG;rw[this];exact if_pos ⟨by omega,by omega⟩
 unfold kH;rw[LW.cS e1];refine fC ((ir (ds:=(dS many m y).map D.int) ?_).trans rfl);have hlen:((dD 0 many.toNat).map D.int).length<1000000:=by rw[ae,eF];omega
 unfold ei;rw[it];simp only[ao,if_pos hlen];exact key
end PC
namespace PW
open DL
def YW:D->eM:=λd=>GP.OU d
end PW
namespace PW
open DL GP PC
open LW (eC fL)
open L2 (mE E6)
def Au:bY:=
  (eh (VI (qB (dw nS (df 0) (dC (.int 0)))) (dC (.int 1)) (dC (.int 0))))
def uk:bY:=
  Au
def gT:cc:=gz 1 1 uk
def um:bY:=
  (eh (cU i7 (cN (dL (ei (iT (cW 0)) 2 (qB (dw vq (df 2) (df 1))) (cW 2))) cT)))
def mL:bY:=
  um
def kc:cc:=gz 3 2 mL
def rh:bY:=
  (eh (cU Io (cN (dL (ei (iS (cW 1)) 2 lS (DQ (dw rP (df 2) (df 0)) (cU jD (cN (cW 0) (cN (cW 2) cT)))))) cT)))
def kK:bY:=
  rh
def jQ:cc:=gz 3 2 kK
def Av:bY:=
  (eh (cU By (cN (dL (ei (iL (df 1)) 2 lS (cU jm (cN (cW 0) (cN (cW 2) cT))))) cT)))
def tM:bY:=
  Av
def sr:cc:=gz 3 2 tM
def v8:bY:=
  (Eh 1 (cW 3))
def gF:bY:=
  v8
def n8:bY:=
  (kz 3 (iT (cW 2)) gF)
def fQ:bY:=
  n8
def kL:bY:=
  (kz 2 (iT (cW 0)) fQ)
def n9:bY:=
  (eh (cU i7 (cN (dL (xl 1)) cT)))
def gG:bY:=
  (dH kL
  n9)
def lu:bY:=
  (yP 1 gG)
def gL:cc:=gz 4 1 lu
def su:bY:=
  (gQ 3 (ei (iS (cW 0)) 5 (lR (qB (cU jm (cN (cW 2) (cN (cW 5) cT))))) (cU kc (cN (cW 5) (cN (cW 1) cT)))))
def ny:bY:=
  (gQ 4 (vU (df 3)))
def kM:bY:=
  (eh (cU i7 (cN (dL (ei (iL (df 4)) 5 (lR (qB (cU jQ (cN (cW 5) (cN (cW 4) cT))))) (cW 5))) cT)))
def lH:bY:=
  (dH su
  (hO 3 (dH ny
  (hO 4 kM))))
def eT:cc:=gz 6 3 lH
def lz (G:D):bY:=
  (i6 3 (cU (ft 5) (cN (cU gL (cN (cW 1) cT)) (cN (cU eZ (cN (oZ G 0) (cN (cW 2) cT))) cT))))
def xv (G:D):bY:=
  (eh (cW 3))
def lA (G:D):bY:=
  (kW (qB (dw nS (df 2) (dC (.int 0)))) (xv G) fW)
def pq (G:D):bY:=
  (gQ 4 (ei (iT (cW 1)) 5 (qB (dw JR (cU hX (cN (df 5) cT)) (cU eZ (cN (oZ G 0) (cN (dC (.int 0)) cT))))) (cW 5)))
def lB (G:D):bY:=
  (eh (cU i7 (cN (dL (ei (iT (cW 3)) 6 (qB (cU sr (cN (cW 6) (cN (cW 4) cT)))) (cW 6))) cT)))
def iU (G:D):bY:=
  (dH (lz G)
  (dH (lA G)
  (dH (pq G)
  (hO 4 (lB G)))))
def iu:cc:=qU 7 3 iU
def qt (G:D) (dJ:cc):bY:=
  (i6 3 (cU FK (cN (dL (ei (iT (cW 1)) 6 lS (cU hX (cN (df 6) cT)))) cT)))
def Es (G:D) (dJ:cc):bY:=
  (eh (dC (.int 0)))
def kN (G:D) (dJ:cc):bY:=
  (kW (pQ (qB (dw nS (df 2) (dC (.int 0)))) (qB (dw JR (df 3) (cU eZ (cN (oZ G 0) (cN (dC (.int 0)) cT)))))) (Es G dJ) fW)
def qu (G:D) (dJ:cc):bY:=
  (i6 5 (cU so (cN (fV cT) (cN (fV cT) (cN (cW 2) (cN (cW 4) cT))))))
def Et (G:D) (dJ:cc):bY:=
  (eh (cW 2))
def v9 (G:D) (dJ:cc):bY:=
  (kW (qB (dw nS (oz 0 G dJ (cN (cU eT (cN (cW 1) (cN (dw gK (df 5) (dC (.int 0))) (cN (dw gK (df 5) (dC (.int 1))) cT)))) (cN (cU gT (cN (cW 2) cT)) cT))) (df 2))) (Et G dJ) fW)
def gx (G:D) (dJ:cc):bY:=
  (dH (qu G dJ)
  (v9 G dJ))
def qv (G:D) (dJ:cc):bY:=
  (kz 4 (iT (oz 0 G iu (cN (cW 1) (cN (cW 2) cT)))) (gx G dJ))
def wa (G:D) (dJ:cc):bY:=
  (eh (cU gT (cN (cW 2) cT)))
def ke (G:D) (dJ:cc):bY:=
  (dH (qt G dJ)
  (dH (kN G dJ)
  (dH (qv G dJ)
  (wa G dJ))))
def BN (G:D) (eJ:cc):bY:=
  (eh (dC (.int 1)))
def lI (G:D) (eJ:cc):bY:=
  (kW (qB (dw nS (cU hX (cN (df 1) cT)) (dC (.int 0)))) (BN G eJ) fW)
def BO (G:D) (eJ:cc):bY:=
  (eh (dC (.int 0)))
def jR (G:D) (eJ:cc):bY:=
  (kW (qB (dw uN (fV cT) (df 1))) (BO G eJ) fW)
def oG (G:D) (eJ:cc):bY:=
  (lV (YW G) 0 (fV (cN (cW 1) (cN (cW 2) cT))) (oz 0 G eJ (cN (cW 1) (cN (cW 2) cT))))
def oH (G:D) (eJ:cc):bY:=
  (yK 0 [] (fV (cN (cW 1) (cN (cW 2) cT))) (oG G eJ))
def uq (G:D) (eJ:cc):bY:=
  (eh (vD (YW G) 0 (fV (cN (cW 1) (cN (cW 2) cT)))))
def jF (G:D) (eJ:cc):bY:=
  (dH (lI G eJ)
  (dH (jR G eJ)
  (dH (oH G eJ)
  (uq G eJ))))
mutual
noncomputable def nz:Nat->cc
 |0=>λ_=>none
 |n+1=>qU 7 3 (λG=>ke G (iC n))
noncomputable def iC:Nat->cc
 |0=>λ_=>none
 |n+1=>qU 3 3 (λG=>jF G (nz n))
end
def ur (G:D):bY:=
  (eh (oz 0 G (iC 24) (cN (cU eT (cN (dw gK (dw gK (oZ G 0) (dC (.int 0))) (dC (.int 1))) (cN (cW 1) (cN (cW 2) cT)))) (cN (cW 3) cT))))
def kO (G:D):bY:=
  (ur G)
def oh:cc:=qU 4 4 kO
def rj:bY:=
  (eh (vH oh (cW 0) (cN (cW 1) (cN (cW 2) (cN (cW 3) cT)))))
def kP:bY:=
  rj
def iX:cc:=gz 4 4 kP
def Aw:bY:=
  (eh (cU iX (cN (cW 0) (cN (fV cT) (cN (fV cT) (cN (dw gK (df 0) (dC (.int 1))) cT))))))
def tN:bY:=
  Aw
def pA:cc:=gz 1 1 tN
end PW
namespace PC
open DL GP
open L2 (mE E6)
def gj (h:f (δ.set j (.dat d))=some (.next δ')):gp j f (d::ds) δ=gp j f ds δ':=by simp only[gp,h]
def wb (h:f (δ.set j (.dat d))=some (.ret r)):gp j f (d::ds) δ=some (.ret r):=by simp only[gp,h]
def gU (h:i δ=some ds) (h2:gp j f ds δ=r):kz j i f δ=r:=by
 unfold kz;rw[h];exact h2
theorem fH {α:Type}{j:Nat}{t:cb}{f:bZ}{δ:gh}{φ ψ:α->D}{p:α->Bool}:∀(l:List α),(∀a∈l,t (δ.set j (.dat (φ a)))=some (p a))->(∀a∈l,p a=true->f (δ.set j (.dat (φ a)))=some (ψ a))->j5 j t f δ (l.map φ)=some ((l.filter p).map ψ)
 |[],_,_=>rfl
 |a::r,h1,h2=>by
  have ih:=fH r (λb hb=>h1 b (ai _ hb)) λb hb=>h2 b (ai _ hb)
  show j5 j t f δ (φ a::r.map φ)=_;unfold j5;rw[h1 a af,bq];cases hp:p a with
  |true=>
   simp only[if_true];rw[h2 a af hp,ih];rfl
  |false=>simpa using ih
def eW (h:i δ=some ds) (hl:ds.length<1000000) (h2:j5 j t f δ ds=r):ei i j t f δ=r:=by
 unfold ei;rw[h];simp only[ao,if_pos hl];exact h2
def iz {i:Nat}{f:bX}{δ:gh}{ds:cw}(h:f δ=some ds):gQ i f δ=some (.next (δ.set i (.own ds))):=by
 unfold gQ;rw[h];rfl
def Ax (h:eV x<=30):rP x x=some (.bl false):=by
 unfold rP;rw[if_pos h,vo];rfl
def Ay (h1:f δ=some false) (h2:g δ=r):Cr f g δ=r:=by
 unfold Cr;rw[h1];exact h2
def Jg (h1:f δ=some true) (h2:g δ=r):pQ f g δ=r:=by
 unfold pQ;rw[h1];exact h2
def O0 (h1:f δ=some false):pQ f g δ=some false:=by
 unfold pQ;rw[h1]
def wc (a b:cp):rP (tupI a) (tupI b)=some (.bl (!decide (a=b))):=by
 unfold rP;rw[if_pos (by rw[LW.Gf];omega),LW.Ab]
def lJ (a b:Int):nS (.int a) (.int b)=some (.bl (decide (a=b))):=by
 have:nS (.int a) (.int b)=some (.bl (a==b)):=rfl;rw[this]
 congr 2
def O1 (a:cp) (L:cn):uN (tupI a) (.tup (L.map tupI))=some (.bl (decide (a∈L))):=by
 show(if jO (L.map tupI)<=30 then some (D.bl (memD (tupI a) (L.map tupI)))else none)=_
 have:=LW.mS L;rw[if_pos (by omega),LW.xm]
end PC
namespace PW
open DL GP PC
open LW (eC fL)
open L2 (mE E6)
open ST (kD zX)
def Kq (hw:w=0\/w=1):gT [.int w]=some (.int (1-w)):=by
 refine LW.dU rfl ?_;rcases hw with rfl|rfl<;>rfl
def Gv (hl:l.length<1000000):kc [tupI l,tupI m]=some (tupI (se m l)):=by
 refine LW.dU rfl ?_;show mL [cK l,cK m,.no]=_;unfold mL um;refine fC ((ir (ds:=(se m l).map D.int) ?_).trans rfl);exact eW (ds:=l.map D.int) rfl (by simpa using hl) (fH l (λi _=>eN ((dM rfl rfl).trans (r9 i m))) λi _ _=>rfl)
def wd (hf:f δ=some (.bl a)) (hg:g δ=some (.bl b)):DQ f g δ=some (.bl (a&&b)):=by
 unfold DQ;rw[hf];cases a
 ·rfl
 ·simpa using hg
def BP (hS:S=.tup (L.map tupI)\/S=.lst (L.map tupI)) (hn:L.length<1000000) (hl:∀o∈L,o.length<1000000):jQ [tupI l,S]=some (.bl (OQ l L)):=by
 refine LW.dU rfl ?_;show kK [cK l,.dat S,.no]=_;unfold kK rh OQ;have it:iS (cW 1) [cK l,.dat S,.no]=some (L.map tupI):=by rcases hS with rfl|rfl<;>rfl
 refine fC ((ir (ds:=L.map λo=>D.bl ((!decide (o=l))&&fY l o)) ?_).trans (Aq L _))
 exact eW it (by simpa using hn) (iR L λo ho=>wd ((dM rfl rfl).trans (wc o l)) ((de rfl).trans (xt (hl o ho))))
def O2 {c:cp}{L:cn}(hn:L.length<1000000) (hl:∀o∈L,o.length<1000000):sr [tupI c,.lst (L.map tupI)]=some (.bl (L.all λl=>jl c l)):=by
 refine LW.dU rfl ?_;show tM [cK c,.dat (.lst (L.map tupI)),.no]=_;unfold tM Av;refine fC ((ir (ds:=L.map λo=>D.bl (jl c o)) ?_).trans (LW.o8 L _))
 exact eW (ds:=L.map tupI) rfl (by simpa using hn) (iR L λo ho=>(de rfl).trans (As (hl o ho)))
theorem Az {α:Type} [BEq α] [LawfulBEq α]:∀(n:Nat) (l:List α),l.length<=n->l.eraseDups.length<=l.length
 |_,[],_=>by simp
 |0,_::_,h=>by simp at h
 |n+1,a::l,h=>by
  rw[eraseDups_cons,ay,ay];have h1:=aW (λb=> !b==a) l
  have h2:=Az n (l.filter λb=> !b==a) (aD h1 (by simpa using h))
  omega
def Eu (hS:S=.tup (L.map tupI)\/S=.lst (L.map tupI)) (hn:L.length<=18) (hl:∀o∈L,o.length<1000000):eT [S,tupI m,tupI y]=some (.tup ((fA L m y).map tupI)):=by
 refine LW.dU rfl ?_;show lH [.dat S,cK m,cK y,.no,.no,.no]=_;have it:iS (cW 0) [.dat S,cK m,cK y,.no,.no,.no]=some (L.map tupI):=by rcases hS with rfl|rfl<;>rfl
 have k1:ei (iS (cW 0)) 5 (lR (qB (cU jm (cN (cW 2) (cN (cW 5) cT))))) (cU kc (cN (cW 5) (cN (cW 1) cT))) [.dat S,cK m,cK y,.no,.no,.no]=some ((fZ L m y).map tupI):=by
  unfold fZ;rw[aV];exact eW it (by rw[ae];omega) (fH L (λl pM=>n5 (eN ((de rfl).trans (As (hl l pM))))) λl pM _=>(de rfl).trans (Gv (hl l pM)))
 have e1:su [.dat S,cK m,cK y,.no,.no,.no]=some (.next [.dat S,cK m,cK y,.own ((fZ L m y).map tupI),.no,.no]):=iz k1;have VC:(fZ L m y).length<=18:=by unfold fZ;rw[ae];exact aD (aW _ _) hn
 have hnl:∀o∈fZ L m y,o.length<1000000:=λo ho=>by
  obtain⟨l,pM,_,rfl⟩:=eS.mp ho;exact Nat.lt_of_le_of_lt (aW _ _) (hl l pM)
 have hul:∀o∈fi (fZ L m y).eraseDups,o.length<1000000:=λo ho=>hnl o (Kj.mp ho)
 have hun:(fi (fZ L m y).eraseDups).length<1000000:=by
  rw[(eY _).length_eq];exact Nat.lt_of_le_of_lt (Az _ _ (au _)) (by omega)
 have k2:vU (df 3) [.dat S,cK m,cK y,.dat (.lst ((fZ L m y).map tupI)),.no,.no]=some ((fi (fZ L m y).eraseDups).map tupI):=by
  show(if((fZ L m y).map tupI).length<=18 then(jZ ((fZ L m y).map tupI)).map _ else none)=_
  rw[if_pos (by rw[ae];exact VC),mY];rfl
 have e2:ny [.dat S,cK m,cK y,.dat (.lst ((fZ L m y).map tupI)),.no,.no]=some (.next [.dat S,cK m,cK y,.dat (.lst ((fZ L m y).map tupI)),.own ((fi (fZ L m y).eraseDups).map tupI),.no]):=iz k2;unfold lH;rw[LW.cS e1];show(dH ny (hO 4 kM)) [.dat S,cK m,cK y,.dat (.lst ((fZ L m y).map tupI)),.no,.no]=_;rw[LW.cS e2];show kM [.dat S,cK m,cK y,.dat (.lst ((fZ L m y).map tupI)),.dat (.lst ((fi (fZ L m y).eraseDups).map tupI)),.no]=_;unfold kM;refine fC ((ir (ds:=(fA L m y).map tupI) ?_).trans rfl);unfold fA LO;exact eW (ds:=(fi (fZ L m y).eraseDups).map tupI) rfl (by rw[ae];exact hun) (fH _ (λl pM=>n5 (eN ((de rfl).trans (BP (.inr rfl) hun hul)))) λl _ _=>rfl)
def yw (kvs:List (Int×Int)) (L:cn):List (Int×Int):=L.foldl (λk l=>l.foldl o6 k) kvs
def fc (L:cn):cp:=(fi (kD (yw [] L))).map λns=>ns.getD 1 0
def O3 (kvs:List (Int×Int)) (p:Int):(o6 kvs p).map (·.1)=if p∈kvs.map (·.1)then kvs.map (·.1)else kvs.map (·.1)++[p]:=by
 have ha:(kvs.any λkv=>decide (kv.1=p))=decide (p∈kvs.map (·.1)):=by
  rw[Bool.eq_iff_iff];simp[bN]
 unfold o6;rw[ha];by_cases h:p∈kvs.map (·.1)
 ·rw[if_pos (aR h),if_pos h,aV];refine bR λkv _=>?_
  simp only[Function.comp_apply];split<;>rfl
 ·rw[if_neg (by rw[aH h];simp),if_neg h,map_append];rfl
def Kr (kvs:List (Int×Int)) (p:Int):(o6 kvs p).length<=kvs.length+1:=by
 unfold o6;split
 ·rw[ae];omega
 ·simp
theorem De:∀(l:cp) (kvs:List (Int×Int)),(kvs.map (·.1)).Nodup->((l.foldl o6 kvs).map (·.1)).Nodup/\∀p,p∈(l.foldl o6 kvs).map (·.1)↔p∈kvs.map (·.1)\/p∈l
 |[],kvs,h=>⟨h,λp=>by simp⟩
 |q::l,kvs,h=>by
  have e:=O3 kvs q;have hn:((o6 kvs q).map (·.1)).Nodup:=by
   rw[e];split
   ·exact h
   ·rename_i hq;rw[nodup_append];exact⟨h,by simp,λa ha b hb=>by simp at hb;subst hb;intro z;subst z;exact hq ha⟩
  obtain⟨h1,h2⟩:=De l (o6 kvs q) hn;refine⟨h1,λp=>(h2 p).trans ?_⟩
  rw[e];by_cases hq:q∈kvs.map (·.1)
  ·rw[if_pos hq,mem_cons];constructor
   ·rintro(z|z)
    ·exact .inl z
    ·exact .inr (.inr z)
   ·rintro(z|rfl|z)
    ·exact .inl z
    ·exact .inl hq
    ·exact .inr z
  ·rw[if_neg hq];simp only[mem_append,mem_cons,bH,or_false];constructor
   ·rintro((z|z)|z)
    ·exact .inl z
    ·exact .inr (.inl z)
    ·exact .inr (.inr z)
   ·rintro(z|z|z)
    ·exact .inl (.inl z)
    ·exact .inl (.inr z)
    ·exact .inr z
theorem AA:∀(L:cn) (kvs:List (Int×Int)),(kvs.map (·.1)).Nodup->((yw kvs L).map (·.1)).Nodup/\∀p,p∈(yw kvs L).map (·.1)↔p∈kvs.map (·.1)\/∃l∈L,p∈l
 |[],kvs,h=>⟨h,λp=>by simp[yw]⟩
 |l::L,kvs,h=>by
  obtain⟨h1,h2⟩:=De l kvs h;obtain⟨h3,h4⟩:=AA L (l.foldl o6 kvs) h1;refine⟨h3,λp=>(h4 p).trans ?_⟩
  rw[h2];constructor
  ·rintro((z|z)|⟨k,hk,z⟩)
   ·exact .inl z
   ·exact .inr ⟨l,af,z⟩
   ·exact .inr ⟨k,ai _ hk,z⟩
  ·rintro(z|⟨k,hk,z⟩)
   ·exact .inl (.inl z)
   ·rcases mem_cons.mp hk with rfl|hk
    ·exact .inl (.inr z)
    ·exact .inr ⟨k,hk,z⟩
def xw (L:cn):(fc L).Perm ((yw [] L).map (·.1)):=by
 unfold fc;refine((eY _).map _).trans ?_;unfold kD;rw[aV];exact List.Perm.refl _
def qw (L:cn):(fc L).Nodup:=(xw L).nodup_iff.mpr (AA L [] (by simp)).1
def iV (L:cn) (p:Int):p∈fc L↔∃l∈L,p∈l:=by
 rw[(xw L).mem_iff,(AA L [] (by simp)).2]
 simp
def we (h9:many<=9) (h:∀l∈L,∀p∈l,0<=p/\p<many):(fc L).length<=9:=by
 have r:eR (sortI (fc L)):=LW.mR (qw L);have:=pf (many:=many) r λp hp=>by
  obtain⟨l,hl,LA⟩:=(iV L p).mp (eD.mp hp);exact h l hl p LA
 rw[(sortI_perm _).length_eq]at this;omega
theorem Gw:∀(l:cp) (kvs:List (Int×Int)) (x3:Sl),kvs.length+l.length<=1000->(∀ks,x2≠.memo ks)->(∀ks,x3≠.memo ks)->∃y3,(∀ks,y3≠.memo ks)/\
  gp 3 gF (l.map D.int) [.dat Ls,.memo [mf kvs],x2,x3]=some (.next [.dat Ls,.memo [mf (l.foldl o6 kvs)],x2,y3])
 |[],kvs,x3,_,_,h3=>⟨x3,h3,rfl⟩
 |p::l,kvs,x3,hk,h2,h3=>by
  simp only[ay]at hk;have nm:rW [.dat Ls,.no,x2,cJ p]=true:=by
   cases x2 with
   |memo ks=>exact absurd rfl (h2 ks)
   |_=>rfl
  have e:gF [.dat Ls,.memo [mf kvs],x2,cJ p]=some (.next [.dat Ls,.memo [mf (o6 kvs p)],x2,cJ p]):=by
   show(Ee (mf kvs)).bind _=_;rw[Ef];show(if kvs.length<1000/\rW [.dat Ls,.no,x2,cJ p]=true then _ else _)=_
   rw[if_pos ⟨by omega,nm⟩]
   rfl
  have:=Kr kvs p;obtain⟨y3,hy,ih⟩:=Gw (Ls:=Ls) (x2:=x2) l (o6 kvs p) (cJ p) (by omega) h2 (λks z=>by cases z)
  refine⟨y3,hy,?_⟩;rw[aF,gj (j:=3) (f:=gF) (d:=.int p) (δ:=[.dat Ls,.memo [mf kvs],x2,x3]) e,ih];rfl
theorem Df:∀(l:cp) (kvs:List (Int×Int)),(l.foldl o6 kvs).length<=kvs.length+l.length
 |[],_=>by simp
 |p::l,kvs=>by
  have:=Kr kvs p;have:=Df l (o6 kvs p);simp only[foldl_cons,ay];omega
theorem Gx:∀(L:cn) (kvs:List (Int×Int)) (x2 x3:Sl),kvs.length+(L.map (·.length)).sum<=1000->(∀ks,x3≠.memo ks)->∃y2 y3,
  gp 2 fQ (L.map tupI) [.dat Ls,.memo [mf kvs],x2,x3]=some (.next [.dat Ls,.memo [mf (yw kvs L)],y2,y3])
 |[],kvs,x2,x3,_,_=>⟨x2,x3,rfl⟩
 |l::L,kvs,x2,x3,hk,h3=>by
  simp only[aF,sum_cons]at hk;obtain⟨y3,hy,e⟩:=Gw (Ls:=Ls) (x2:=cK l) l kvs x3 (by omega) (λks z=>by cases z) h3
  have e2:fQ [.dat Ls,.memo [mf kvs],cK l,x3]=some (.next [.dat Ls,.memo [mf (l.foldl o6 kvs)],cK l,y3]):=by
   unfold fQ n8;exact gU (ds:=l.map D.int) rfl e
  have:=Df l kvs;obtain⟨z2,z3,ih⟩:=Gx (Ls:=Ls) L (l.foldl o6 kvs) (cK l) y3 (by omega) hy
  refine⟨z2,z3,?_⟩;rw[aF,gj (j:=2) (f:=fQ) (d:=tupI l) (δ:=[.dat Ls,.memo [mf kvs],x2,x3]) e2,ih];rfl
def O4 {L:cn}{many:Int}(h9:many<=9) (h:∀l∈L,∀p∈l,0<=p/\p<many) (hs:(L.map (·.length)).sum<=1000) (jX:∃l∈L,l≠[]):gL [.tup (L.map tupI)]=some (tupI (fc L)):=by
 refine LW.dU rfl ?_;show lu [.dat (.tup (L.map tupI)),.no,.no,.no]=_;obtain⟨y2,y3,e⟩:=Gx (Ls:=.tup (L.map tupI)) L [] .no .no (by simpa using hs) (λks z=>by cases z)
 have e3:kL [.dat (.tup (L.map tupI)),.memo [mf []],.no,.no]=some (.next [.dat (.tup (L.map tupI)),.memo [mf (yw [] L)],y2,y3]):=by
  unfold kL;exact gU (ds:=L.map tupI) rfl e
 have hl9:=we h9 h;have fP:(yw [] L).length=(fc L).length:=by rw[(xw L).length_eq,ae]
 have h1:1<=(yw [] L).length:=by
  rw[fP];obtain⟨l,hl,La⟩:=jX;cases l with
  |nil=>exact absurd rfl La
  |cons p r=>
   have:=(iV L p).mpr ⟨_,hl,af⟩;exact length_pos_of_mem this
 have e4:gG [.dat (.tup (L.map tupI)),.memo [mf []],.no,.no]=some (.ret (tupI (fc L))):=by
  unfold gG;rw[LW.cS e3];unfold n9;refine fC ((ir (ds:=(fc L).map D.int) ?_).trans rfl);show(Ee (mf (yw [] L))).bind _=_;rw[Ef];show(if 1<=(yw [] L).length/\(yw [] L).length<64 then _ else _)=_
  rw[if_pos ⟨h1,by omega⟩]
  unfold fc;rw[aV];rfl
 show(if noOwn [.dat (.tup (L.map tupI)),.no,.no,.no]=true/\1<4 then(gG [.dat (.tup (L.map tupI)),.memo [mf []],.no,.no]).bind (NM 1)else none)=_
 rw[if_pos ⟨rfl,by decide⟩,e4]
 rfl
end PW
namespace PW
open DL GP PC
open LW (eC fL)
open L2 (mE E6)
def dG (G:Gm) (f:Int):D:=jk G.many G.ls f G.b G.g
def tR (hl:ds.length+1=np) (h:fb G (startM n np 0 ds)=some (.ret d)):qU n np fb (G::ds)=some d:=by
 show(if ds.length+1=np/\0<np then _ else _)=_
 rw[if_pos ⟨hl,by omega⟩,h]
structure xx (G:Gm):Prop where
 ok:G.Ok
 Ms:G.ls.length<=18
 rise:∀l∈G.ls,eR l
structure SL (G:Gm) (L:cn):Prop where
 s:Va G L
 lo:X6 G L
 rise:∀l∈L,eR l
 Ms:L.length<=18
 nine:∀l∈L,l.length<=9
 sum:(L.map (·.length)).sum<=1000
theorem O5:∀(L:cn),(∀l∈L,l.length<=k)->(L.map (·.length)).sum<=L.length*k
 |[],_=>by simp
 |l::L,h=>by
  have:=O5 L λx hx=>h x (ai _ hx)
  have:=h l af;simp only[aF,sum_cons,ay,Nat.add_mul,Nat.one_mul];omega
def xx.lo (h:xx G):X6 G G.ls:=⟨h.ok.li,h.ok.ll⟩
def xx.sl (h:xx G) (s:Va G L):SL G L:=by
 obtain⟨m,y,p,rfl⟩:=s;have r:=mU (m:=m) (y:=y) h.rise;have lo:=OS (m:=m) (y:=y) h.lo;have n:(fA G.ls m y).length<=18:=by
  unfold fA LO;refine aD (aW _ _) ?_;rw[(eY _).length_eq];refine aD (Az _ _ (au _)) ?_;unfold fZ;rw[ae];exact aD (aW _ _) h.Ms
 have nine:∀l∈fA G.ls m y,l.length<=9:=λl hl=>by
  have:=pf (r l hl) (lo.li l hl);have:=h.ok.m9;omega
 have:=O5 _ nine;exact⟨⟨m,y,p,rfl⟩,lo,r,n,nine,by omega⟩
def jn (G:Gm) (L:cn) (w:Int):cn:=
 if w=0 then nY G.b.toNat (fc L)else(nY G.g.toNat (fc L)).filter λc=>(L.filter λl=>decide ((l.length:Int)<=G.b)).all λl=>jl c l
section
variable {G:Gm}{L:cn}{f w:Int}
def RM (hG:G.Ok) (sl:SL G L) (jX:∃l∈L,l≠[]) (hw:w=0\/w=1):iu [dG G f,.tup (L.map tupI),.int w]=some (.tup ((jn G L w).map tupI)):=by
 have b1:=hG.b1;have b3:=hG.b3;have g1:=hG.g1;have g3:=hG.g3;have Ms:=sl.Ms;refine tR rfl ?_;show iU (dG G f) [.memo [],.dat (.tup (L.map tupI)),cJ w,.no,.no,.no,.no]=_;have hu:=we hG.m9 sl.lo.li;have ea:∀v:Int,(v=0\/v=1)->eZ [dG G f,.int v]=some (.int (((if v=0 then G.b else G.g).toNat:Nat):Int)):=λv hv=>by
  rw[show dG G f=jk G.many G.ls f G.b G.g from rfl,X9 hv]
  congr 2
  rcases hv with rfl|rfl<;>simp<;>omega
 have e1:lz (dG G f) [.memo [],.dat (.tup (L.map tupI)),cJ w,.no,.no,.no,.no]=some (.next [.memo [],.dat (.tup (L.map tupI)),cJ w,.dat (.tup ((nY (if w=0 then G.b else G.g).toNat (fc L)).map tupI)),.no,.no,.no]):=by
  have k1:cU gL (cN (cW 1) cT) [.memo [],.dat (.tup (L.map tupI)),cJ w,.no,.no,.no,.no]=some (tupI (fc L)):=(de rfl).trans (O4 hG.m9 sl.lo.li sl.sum jX);have k2:cU eZ (cN (oZ (dG G f) 0) (cN (cW 2) cT)) [.memo [],.dat (.tup (L.map tupI)),cJ w,.no,.no,.no,.no]=some (.int (((if w=0 then G.b else G.g).toNat:Nat):Int)):=(de rfl).trans (ea w hw)
  unfold lz;rw[gr ((de (Kn k1 (rf k2))).trans (xu 5 _ _ (by split<;>omega) (by omega)))]
  rfl
 unfold iU;rw[LW.cS e1];have aaG:∀k:Nat,(nY k (fc L)).length<1000000:=λk=>by
  have h1:=OP (c:=k) (ps:=fc L);have h2:2^(fc L).length<=2^9:=Nat.pow_le_pow_right (by decide) hu
  have:(2:Nat)^9=512:=by decide
  omega
 rcases hw with rfl|rfl
 ·have e3:lA (dG G f) [.memo [],.dat (.tup (L.map tupI)),cJ 0,.dat (.tup ((nY (if(0:Int)=0 then G.b else G.g).toNat (fc L)).map tupI)),.no,.no,.no]=some (.ret (.tup ((jn G L 0).map tupI))):=rfl
  rw[f6 e3]
 ·have e3:lA (dG G f) [.memo [],.dat (.tup (L.map tupI)),cJ 1,.dat (.tup ((nY (if(1:Int)=0 then G.b else G.g).toNat (fc L)).map tupI)),.no,.no,.no]=some (.next [.memo [],.dat (.tup (L.map tupI)),cJ 1,.dat (.tup ((nY (if(1:Int)=0 then G.b else G.g).toNat (fc L)).map tupI)),.no,.no,.no]):=rfl
  rw[LW.cS e3];have k4:ei (iT (cW 1)) 5 (qB (dw JR (cU hX (cN (df 5) cT)) (cU eZ (cN (oZ (dG G f) 0) (cN (dC (.int 0)) cT))))) (cW 5) [.memo [],.dat (.tup (L.map tupI)),cJ 1,.dat (.tup ((nY (if(1:Int)=0 then G.b else G.g).toNat (fc L)).map tupI)),.no,.no,.no]=some ((L.filter λl=>decide ((l.length:Int)<=G.b)).map tupI):=by
   refine eW (ds:=L.map tupI) rfl (by rw[ae];omega) (fH L (λl _=>?_) λl _ _=>rfl)
   have kl:cU hX (cN (df 5) cT) [.memo [],.dat (.tup (L.map tupI)),cJ 1,.dat (.tup ((nY (if(1:Int)=0 then G.b else G.g).toNat (fc L)).map tupI)),.no,cK l,.no]=some (.int (l.length:Int)):=by
    show some (D.int ((l.map D.int).length:Int))=_;rw[ae]
   have ka:cU eZ (cN (oZ (dG G f) 0) (cN (dC (.int 0)) cT)) [.memo [],.dat (.tup (L.map tupI)),cJ 1,.dat (.tup ((nY (if(1:Int)=0 then G.b else G.g).toNat (fc L)).map tupI)),.no,cK l,.no]=some (.int G.b):=by
    refine(de rfl).trans ((ea 0 (.inl rfl)).trans ?_)
    congr 2
    simp;omega
   exact eN ((dM (o:=JR) kl ka).trans rfl)
  have e4:pq (dG G f) [.memo [],.dat (.tup (L.map tupI)),cJ 1,.dat (.tup ((nY (if(1:Int)=0 then G.b else G.g).toNat (fc L)).map tupI)),.no,.no,.no]=some (.next [.memo [],.dat (.tup (L.map tupI)),cJ 1,.dat (.tup ((nY (if(1:Int)=0 then G.b else G.g).toNat (fc L)).map tupI)),.own ((L.filter λl=>decide ((l.length:Int)<=G.b)).map tupI),.no,.no]):=iz k4
  rw[LW.cS e4];show lB (dG G f) [.memo [],.dat (.tup (L.map tupI)),cJ 1,.dat (.tup ((nY (if(1:Int)=0 then G.b else G.g).toNat (fc L)).map tupI)),.dat (.lst ((L.filter λl=>decide ((l.length:Int)<=G.b)).map tupI)),.no,.no]=_
  unfold lB;refine fC ((ir (ds:=(jn G L 1).map tupI) ?_).trans rfl);have hf:(L.filter λl=>decide ((l.length:Int)<=G.b)).length<1000000:=Nat.lt_of_le_of_lt (aW _ _) (by omega)
  refine eW (ds:=(nY (if(1:Int)=0 then G.b else G.g).toNat (fc L)).map tupI) rfl (by rw[ae];exact aaG _) ?_
  exact fH _ (λc _=>eN ((de rfl).trans (O2 hf λo ho=>by have:=sl.nine o (mem_filter.mp ho).1;omega))) λc _ _=>rfl
def jS (L:cn) (w:Int) (c:cp):cn:=if w=0 then fA L (sortI c) []else fA L [] (sortI c)
def LP (h:c∈jn G L w):∃k,(k=G.b.toNat\/k=G.g.toNat)/\c∈nY k (fc L):=by
 unfold jn at h;split at h
 ·exact⟨_,.inl rfl,h⟩
 ·exact⟨_,.inr rfl,(mem_filter.mp h).1⟩
def Gy (hG:G.Ok) (sl:SL G L) (jX:∃l∈L,l≠[]) (h:c∈jn G L w):c.Nodup/\(∀p∈c,p∈fc L)/\c.length<=4/\c≠[]:=by
 have b1:=hG.b1;have b3:=hG.b3;have g1:=hG.g1;have g3:=hG.g3;obtain⟨k,hk,hc⟩:=LP h;obtain⟨h1,h2,h3⟩:=RF hc;refine⟨LN hG sl.lo (iV L) (qw L) hc,h1,by omega,λz=>?_⟩
 subst z;rcases h3 with z|z
 ·simp at z;omega
 ·obtain⟨l,hl,La⟩:=jX;cases l with
  |nil=>exact La rfl
  |cons p r=>
   have:=z p ((iV L p).mpr ⟨_,hl,af⟩);cases this
def O6 (hF:xx G) (sl:SL G L) (hc:∀p∈c,p∈fc L) (hn:c.Nodup):Va G (jS L w c):=by
 obtain⟨m,y,p,e⟩:=sl.s;have wF:∀q∈c,(0<=q/\q<G.many)/\q∉m/\q∉y:=λq hq=>by
  obtain⟨l,hl,hql⟩:=(iV L q).mp (hc q hq);refine⟨sl.lo.li l hl q hql,?_⟩;rw[e]at hl;obtain⟨k,hk,U9,rfl⟩:=eS.mp (fB.mp hl).1;obtain⟨h1,h2⟩:=dY.mp hql;exact⟨h2,U9 q h1⟩
 have rs:eR (sortI c):=LW.mR hn;unfold jS;split
 ·refine⟨sortI (m++sortI c),y,⟨lr p.rm rs λq hq=>(wF q (eD.mp hq)).2.1,p.ry,λq hq=>?_,p.iy,λq hq=>?_⟩,?_⟩
  ·rcases mem_append.mp (eD.mp hq)with z|z
   ·exact p.im q z
   ·exact(wF q (eD.mp z)).1
  ·rcases mem_append.mp (eD.mp hq)with z|z
   ·exact p.dj q z
   ·exact(wF q (eD.mp z)).2.2
  ·rw[e];exact Dc hF.rise (λq=>by rw[eD,mem_append]) (λq=>by simp) (λq hq=>by cases hq)
 ·refine⟨m,sortI (y++sortI c),⟨p.rm,lr p.ry rs λq hq=>(wF q (eD.mp hq)).2.2,p.im,λq hq=>?_,λq hq z=>?_⟩,?_⟩
  ·rcases mem_append.mp (eD.mp hq)with z|z
   ·exact p.iy q z
   ·exact(wF q (eD.mp z)).1
  ·rcases mem_append.mp (eD.mp z)with z|z
   ·exact p.dj q hq z
   ·exact(wF q (eD.mp z)).2.1 hq
  ·rw[e];exact Dc hF.rise (λq=>by simp) (λq=>by rw[eD,mem_append]) (λq hq=>(wF q (eD.mp hq)).2.1)
def Jh (sl:SL G L) (hc:∀p∈c,p∈fc L) (jX:c≠[]):(fc (jS L w c)).length<(fc L).length:=by
 have sub:∀p∈fc (jS L w c),p∈fc L/\p∉c:=λp hp=>by
  obtain⟨l,hl,mn⟩:=(iV _ p).mp hp;unfold jS at hl;split at hl
  ·obtain⟨k,hk,_,rfl⟩:=eS.mp (fB.mp hl).1;obtain⟨h1,h2⟩:=dY.mp mn;exact⟨(iV _ p).mpr ⟨k,hk,h1⟩,λz=>h2 (eD.mpr z)⟩
  ·obtain⟨k,hk,U9,rfl⟩:=eS.mp (fB.mp hl).1;obtain⟨h1,h2⟩:=dY.mp mn;exact⟨(iV _ p).mpr ⟨k,hk,h1⟩,λz=>U9 p h1 (eD.mpr z)⟩
 obtain⟨q,r,rfl⟩:∃q r,c=q::r:=by
  cases c with
  |nil=>exact absurd rfl jX
  |cons q r=>exact⟨q,r,rfl⟩
 have ra:eR (sortI (fc (jS L w (q::r)))):=LW.mR (qw _);have rb:eR (sortI (fc L)):=LW.mR (qw _);have:=Gn ra rb (λp hp=>eD.mpr (sub p (eD.mp hp)).1) λz=>by
  have h1:q∈sortI (fc (jS L w (q::r))):=by rw[z];exact eD.mpr (hc q af)
  exact(sub q (eD.mp h1)).2 af
 rwa [(sortI_perm _).length_eq,(sortI_perm _).length_eq]at this
end
def Ji (h:ns≠[]):FK [.lst (ns.map D.int)]=some (.int (jf ns)):=by
 show(intsOf (ns.map D.int)).bind _=_;rw[jc];cases ns with
 |nil=>exact absurd rfl h
 |cons a r=>rfl
section
variable {G:Gm}{L:cn}{f w:Int}
def held_eq (c:cp) (hw:w=0\/w=1):fA L (lj [] [] w c).1 (lj [] [] w c).2=jS L w c:=by
 rcases hw with rfl|rfl<;>rfl
def Ve (sl:SL G L) (hw:w=0\/w=1) (hc:c.length<=4) (hv:v=0\/v=1) (hr:rc [dG G f,.tup ((jS L w c).map tupI),.int (1-w)]=some (.int v)):∃y5,
  gx (dG G f) rc [.memo [],.dat (.tup (L.map tupI)),cJ w,x3,cK c,x5,x6]=(if v=w then some (.ret (.int w))else some (.next [.memo [],.dat (.tup (L.map tupI)),cJ w,x3,cK c,y5,x6])):=by
 have Ms:=sl.Ms;have e4:qu (dG G f) rc [.memo [],.dat (.tup (L.map tupI)),cJ w,x3,cK c,x5,x6]=some (.next [.memo [],.dat (.tup (L.map tupI)),cJ w,x3,cK c,.dat (.tup [tupI (lj [] [] w c).1,tupI (lj [] [] w c).2]),x6]):=by
  unfold qu;rw[gr ((de rfl).trans (OY (m:=[]) (y:=[]) (c:=c) (w:=w) (by simp;omega) (by simp;omega)))]
  rfl
 refine⟨.dat (.tup [tupI (lj [] [] w c).1,tupI (lj [] [] w c).2]),?_⟩;unfold gx;rw[LW.cS e4];have ko:cU eT (cN (cW 1) (cN (dw gK (df 5) (dC (.int 0))) (cN (dw gK (df 5) (dC (.int 1))) cT))) [.memo [],.dat (.tup (L.map tupI)),cJ w,x3,cK c,.dat (.tup [tupI (lj [] [] w c).1,tupI (lj [] [] w c).2]),x6]=some (.tup ((jS L w c).map tupI)):=by
  rw[<-held_eq c hw];exact(de rfl).trans (Eu (.inl rfl) Ms sl.lo.ll)
 have kh:cU gT (cN (cW 2) cT) [.memo [],.dat (.tup (L.map tupI)),cJ w,x3,cK c,.dat (.tup [tupI (lj [] [] w c).1,tupI (lj [] [] w c).2]),x6]=some (.int (1-w)):=(de rfl).trans (Kq hw);have km:oz 0 (dG G f) rc (cN (cU eT (cN (cW 1) (cN (dw gK (df 5) (dC (.int 0))) (cN (dw gK (df 5) (dC (.int 1))) cT)))) (cN (cU gT (cN (cW 2) cT)) cT)) [.memo [],.dat (.tup (L.map tupI)),cJ w,x3,cK c,.dat (.tup [tupI (lj [] [] w c).1,tupI (lj [] [] w c).2]),x6]=some (.int v):=by
  show(cN _ _ _).bind _=_;rw[Kn ko (rf kh)];exact hr
 have kq:=eN ((dM (o:=nS) (g:=df 2) (y:=.int w) km rfl).trans (lJ v w));unfold v9;by_cases e:v=w
 ·rw[kY (by rw[kq,aR e]),if_pos e]
  rfl
 ·rw[hV (by rw[kq,aH e]),if_neg e]
  rfl
theorem O7 (sl:SL G L) (hw:w=0\/w=1) (val:cp->Int):∀(cs:cn) (x4 x5:Sl),(∀c∈cs,c.length<=4)->(∀c∈cs,val c=0\/val c=1)->(∀c∈cs,rc [dG G f,.tup ((jS L w c).map tupI),.int (1-w)]=some (.int (val c)))->∃y4 y5,
  gp 4 (gx (dG G f) rc) (cs.map tupI) [.memo [],.dat (.tup (L.map tupI)),cJ w,x3,x4,x5,x6]=(if(cs.any λc=>val c==w)=true then some (.ret (.int w))else some (.next [.memo [],.dat (.tup (L.map tupI)),cJ w,x3,y4,y5,x6]))
 |[],x4,x5,_,_,_=>⟨x4,x5,rfl⟩
 |c::cs,x4,x5,h4,h01,hr=>by
  obtain⟨z5,e⟩:=Ve (f:=f) sl hw (h4 c af) (rc:=rc) (x3:=x3) (x5:=x5) (x6:=x6) (h01 c af) (hr c af);obtain⟨y4,y5,ih⟩:=O7 sl hw (rc:=rc) (x3:=x3) (x6:=x6) val cs (cK c) z5 (λa h=>h4 a (ai _ h)) (λa h=>h01 a (ai _ h)) (λa h=>hr a (ai _ h))
  refine⟨y4,y5,?_⟩;rw[aF,bF];by_cases hv:val c=w
  ·rw[if_pos hv]at e;rw[wb (j:=4) (f:=gx (dG G f) rc) (d:=tupI c) (δ:=[.memo [],.dat (.tup (L.map tupI)),cJ w,x3,x4,x5,x6]) e,if_pos (by simp[hv])]
  ·rw[if_neg hv]at e;rw[gj (j:=4) (f:=gx (dG G f) rc) (d:=tupI c) (δ:=[.memo [],.dat (.tup (L.map tupI)),cJ w,x3,x4,x5,x6]) e,ih];have:(val c==w)=false:=by simpa using hv
   rw[this,Bool.false_or]
theorem Yb:∀(n:Nat) (L:cn) (w:Int),(w=0\/w=1)->vF n L w=0\/vF n L w=1
 |0,_,_,_=>.inr rfl
 |n+1,L,w,hw=>by
  unfold vF;split
  ·exact .inr rfl
  ·split
   ·exact .inl rfl
   ·split
    ·exact .inl rfl
    ·split<;>omega
def Dg (b1:G.b=1) (g1:G.g=1) (jX:∃l∈L,l≠[]) (hw:w=0\/w=1) {c:cp}:c∈jn G L w↔∃x,c=[x]/\oA L w x=true:=by
 have hc:∀c:cp,c∈nY 1 (fc L)↔∃x,c=[x]/\∃l∈L,x∈l:=λc=>by
  have e:nY 1 (fc L)=(fc L).map λp=>[p]:=by
   unfold nY
   match h:fc L with
   |[]=>
    obtain⟨l,hl,La⟩:=jX;cases l with
    |nil=>exact absurd rfl La
    |cons p r=>
     have:=(iV L p).mpr ⟨_,hl,af⟩;rw[h]at this;cases this
   |[p]=>rfl
   |p::q::r=>rw[if_neg (by simp),vX]
  rw[e,mem_map];exact⟨λ⟨x,hx,e⟩=>⟨x,e.symm,(iV L x).mp hx⟩,λ⟨x,e,hx⟩=>⟨x,(iV L x).mpr hx,e.symm⟩⟩
 have t1:∀x,(L.any λl=>decide (x∈l))=true↔∃l∈L,x∈l:=λx=>by
  rw[bN];simp
 unfold jn;rw[b1,g1];rcases hw with rfl|rfl
 ·rw[if_pos rfl,show(1:Int).toNat=1 from rfl,hc]
  refine exists_congr λx=>and_congr_right λ_=>?_
  unfold oA;rw[<-t1];simp
 ·rw[if_neg (by decide),show(1:Int).toNat=1 from rfl,mem_filter,hc]
  have sp:∀x,((L.filter λl=>decide ((l.length:Int)<=1)).all λl=>jl [x] l)=L.all λl=>decide (1<l.length)||decide (x∈l):=λx=>by
   rw[Bool.eq_iff_iff,all_eq_true,all_eq_true];constructor
   ·intro h l hl;by_cases h1:1<l.length
    ·simp[h1]
    ·have:=h l (mem_filter.mpr ⟨hl,aR (by omega)⟩)
     unfold jl at this;obtain⟨q,hq,VM⟩:=bN.mp this;have:q=x:=by simpa using VM
     subst this;simp[hq]
   ·intro h l hl;obtain⟨UW,La⟩:=mem_filter.mp hl;have hl3:=bJ La;have:=h l UW;rw[aH (show ¬ 1<l.length by omega),Bool.false_or]at this
    exact bN.mpr ⟨x,bJ this,by simp⟩
  constructor
  ·rintro⟨⟨x,rfl,hx⟩,h⟩
   refine⟨x,rfl,?_⟩;unfold oA;rw[(t1 x).mpr hx,<-sp x,h];simp
  ·rintro⟨x,rfl,h⟩
   unfold oA at h;rw[Bool.and_eq_true,t1,<-sp x]at h;exact⟨⟨x,rfl,h.1⟩,by simpa using h.2⟩
def Gz (x:Int):jS L w [x]=vY L w x:=by
 have:sortI [x]=[x]:=perm_singleton.mp (sortI_perm [x]);unfold jS vY;rw[this]
def RN (hF:xx G) (b1:G.b=1) (g1:G.g=1) (sl:SL G L) (h1:L≠[]) (h2:[]∉L) (hw:w=0\/w=1) (hq:¬ (w=0/\(L.any λl=>decide (l.length<=1))=true)):vF 12 L w=if((jn G L w).any λc=>vF 12 (jS L w c) (1-w)==w)=true then w else 1-w:=by
 have jX:∃l∈L,l≠[]:=by
  cases L with
  |nil=>exact absurd rfl h1
  |cons l r=>exact⟨l,af,λz=>h2 (by rw[<-z];exact af)⟩
 have m9:=we hF.ok.m9 sl.lo.li;have st:∀x,(∃l∈L,x∈l)->vF 12 (vY L w x) (1-w)=vF 11 (vY L w x) (1-w):=λx _=>
  Km 11 _ _ (fc L) (λf hf p hp=>(iV L p).mpr (Ep hf hp).1) (by omega)
 have key:((jn G L w).any λc=>vF 12 (jS L w c) (1-w)==w)=L.flatten.any λx=>oA L w x&&vF 11 (vY L w x) (1-w)==w:=by
  rw[Bool.eq_iff_iff,bN,bN];constructor
  ·rintro⟨c,hc,e⟩
   obtain⟨x,rfl,ht⟩:=(Dg b1 g1 jX hw).mp hc;have hx:∃l∈L,x∈l:=by
    unfold oA at ht;rw[Bool.and_eq_true,bN]at ht;obtain⟨l,hl,q⟩:=ht.1;exact⟨l,hl,bJ q⟩
   rw[Gz,st x hx]at e;exact⟨x,List.mem_flatten.mpr hx,by rw[ht,e];rfl⟩
  ·rintro⟨x,hx,e⟩
   rw[Bool.and_eq_true]at e;exact⟨[x],(Dg b1 g1 jX hw).mpr ⟨x,rfl,e.1⟩,by rw[Gz,st x (List.mem_flatten.mp hx)];exact e.2⟩
 rw[key]
 conv=>lhs;unfold vF
 rw[if_neg h1,if_neg h2,if_neg hq]
def Jj (hF:xx G) (gb:G.b=1) (gg:G.g=1) (sl:SL G L) (h1:L≠[]) (h2:[]∉L) (hw:w=0\/w=1) (hr:∀c∈jn G L w,rc [dG G f,.tup ((jS L w c).map tupI),.int (1-w)]=some (.int (vF 12 (jS L w c) (1-w)))):ke (dG G f) rc [.memo [],.dat (.tup (L.map tupI)),cJ w,.no,.no,.no,.no]=some (.ret (.int (vF 12 L w))):=by
 have hG:=hF.ok;have b1:=hG.b1;have Ms:=sl.Ms;have jX:∃l∈L,l≠[]:=by
  cases L with
  |nil=>exact absurd rfl h1
  |cons l r=>exact⟨l,af,λz=>h2 (by rw[<-z];exact af)⟩
 have e1:qt (dG G f) rc [.memo [],.dat (.tup (L.map tupI)),cJ w,.no,.no,.no,.no]=some (.next [.memo [],.dat (.tup (L.map tupI)),cJ w,cJ (jf (L.map λl=>(l.length:Int))),.no,.no,.no]):=by
  have k:ei (iT (cW 1)) 6 lS (cU hX (cN (df 6) cT)) [.memo [],.dat (.tup (L.map tupI)),cJ w,.no,.no,.no,.no]=some ((L.map λl=>(l.length:Int)).map D.int):=by
   rw[aV];refine eW (ds:=L.map tupI) rfl (by rw[ae];omega) (iR L λl _=>?_)
   show some (D.int ((l.map D.int).length:Int))=_;rw[ae];rfl
  have kl:cU FK (cN (dL (ei (iT (cW 1)) 6 lS (cU hX (cN (df 6) cT)))) cT) [.memo [],.dat (.tup (L.map tupI)),cJ w,.no,.no,.no,.no]=some (.int (jf (L.map λl=>(l.length:Int)))):=(ir k).trans (Ji (by simpa using h1))
  unfold qt;rw[gr kl];rfl
 unfold ke;rw[LW.cS e1];have ka:cU eZ (cN (oZ (dG G f) 0) (cN (dC (.int 0)) cT)) [.memo [],.dat (.tup (L.map tupI)),cJ w,cJ (jf (L.map λl=>(l.length:Int))),.no,.no,.no]=some (.int G.b):=
  (de rfl).trans ((show eZ [jk G.many G.ls f G.b G.g,.int 0]=_ from X9 (.inl rfl)).trans rfl)
 have q1:qB (dw nS (df 2) (dC (.int 0))) [.memo [],.dat (.tup (L.map tupI)),cJ w,cJ (jf (L.map λl=>(l.length:Int))),.no,.no,.no]=some (decide (w=0)):=eN ((dM rfl rfl).trans (lJ w 0))
 have q2:qB (dw JR (df 3) (cU eZ (cN (oZ (dG G f) 0) (cN (dC (.int 0)) cT)))) [.memo [],.dat (.tup (L.map tupI)),cJ w,cJ (jf (L.map λl=>(l.length:Int))),.no,.no,.no]=some (decide (jf (L.map λl=>(l.length:Int))<=G.b)):=eN ((dM (o:=JR) rfl ka).trans rfl)
 obtain⟨m1,m2⟩:=rY (L.map λl=>(l.length:Int)) (by simpa using h1)
 by_cases hq:w=0/\jf (L.map λl=>(l.length:Int))<=G.b
 ·obtain⟨rfl,hb⟩:=hq;have e3:kN (dG G f) rc [.memo [],.dat (.tup (L.map tupI)),cJ 0,cJ (jf (L.map λl=>(l.length:Int))),.no,.no,.no]=some (.ret (.int 0)):=by
   unfold kN;rw[kY (Jg (q1.trans (by simp)) (q2.trans (by rw[aR hb])))]
   rfl
  rw[f6 e3];obtain⟨l,hl,e⟩:=mem_map.mp m1;have:vF 12 L 0=0:=by
   unfold vF;rw[if_neg h1,if_neg h2,if_pos ⟨rfl,bN.mpr ⟨l,hl,aR (by omega)⟩⟩]
  rw[this]
 ·have e3:kN (dG G f) rc [.memo [],.dat (.tup (L.map tupI)),cJ w,cJ (jf (L.map λl=>(l.length:Int))),.no,.no,.no]=some (.next [.memo [],.dat (.tup (L.map tupI)),cJ w,cJ (jf (L.map λl=>(l.length:Int))),.no,.no,.no]):=by
   unfold kN;rw[hV (by
    by_cases h0:w=0
    ·exact Jg (q1.trans (by rw[aR h0])) (q2.trans (by rw[aH λz=>hq ⟨h0,z⟩]))
    ·exact O0 (q1.trans (by rw[aH h0])))]
   rfl
  rw[LW.cS e3];have kt:iT (oz 0 (dG G f) iu (cN (cW 1) (cN (cW 2) cT))) [.memo [],.dat (.tup (L.map tupI)),cJ w,cJ (jf (L.map λl=>(l.length:Int))),.no,.no,.no]=some ((jn G L w).map tupI):=by
   have:oz 0 (dG G f) iu (cN (cW 1) (cN (cW 2) cT)) [.memo [],.dat (.tup (L.map tupI)),cJ w,cJ (jf (L.map λl=>(l.length:Int))),.no,.no,.no]=some (.tup ((jn G L w).map tupI)):=RM (f:=f) hG sl jX hw
   unfold iT;rw[this]
  have wok:∀c∈jn G L w,vF 12 (jS L w c) (1-w)=0\/vF 12 (jS L w c) (1-w)=1:=λc hc=>by
   exact Yb _ _ _ (by omega)
  obtain⟨y4,y5,e⟩:=O7 (f:=f) sl hw (rc:=rc) (x3:=cJ (jf (L.map λl=>(l.length:Int)))) (x6:=.no) (λc=>vF 12 (jS L w c) (1-w)) (jn G L w) .no .no (λc hc=>(Gy hG sl jX hc).2.2.1) wok hr
  have e7:=(show qv (dG G f) rc [.memo [],.dat (.tup (L.map tupI)),cJ w,cJ (jf (L.map λl=>(l.length:Int))),.no,.no,.no]=gp 4 (gx (dG G f) rc) ((jn G L w).map tupI) [.memo [],.dat (.tup (L.map tupI)),cJ w,cJ (jf (L.map λl=>(l.length:Int))),.no,.no,.no] by
   unfold qv;exact gU kt rfl).trans e
  rw[RN hF gb gg sl h1 h2 hw λz=>hq ⟨z.1,by
   obtain⟨l,hl,h⟩:=bN.mp z.2;have:=m2 _ (mem_map.mpr ⟨l,hl,rfl⟩);have:=bJ h;omega⟩]
  by_cases ha:((jn G L w).any λc=>vF 12 (jS L w c) (1-w)==w)=true
  ·rw[if_pos ha]at e7 ⊢;rw[f6 e7]
  ·rw[if_neg ha]at e7 ⊢;rw[LW.cS e7];unfold wa;exact fC ((de rfl).trans (Kq hw))
end
section
variable {G:Gm}{L:cn}{f w:Int}
def O8:vF 12 [] w=1:=rfl
def LQ (h:[]∈L):vF 12 L w=0:=by
 unfold vF;rw[if_neg (λz=>by subst z;cases h),if_pos h]
def GA (hF:xx G) (sl:SL G L) (hw:w=0\/w=1) (hr:L≠[]->[]∉L->rc [dG G f,.tup (L.map tupI),.int w]=some (.int (vF 12 L w))):jF (dG G f) rc [.memo [],.dat (.tup (L.map tupI)),cJ w]=some (.ret (.int (vF 12 L w))):=by
 have hG:=hF.ok;unfold jF;have q2:qB (dw nS (cU hX (cN (df 1) cT)) (dC (.int 0))) [.memo [],.dat (.tup (L.map tupI)),cJ w]=some (decide (((L.length:Nat):Int)=0)):=by
  have k:cU hX (cN (df 1) cT) [.memo [],.dat (.tup (L.map tupI)),cJ w]=some (.int ((L.length:Nat):Int)):=by
   show some (D.int ((L.map tupI).length:Int))=_;rw[ae]
  exact eN ((dM (o:=nS) (g:=dC (.int 0)) (y:=.int 0) k rfl).trans (lJ _ 0))
 by_cases h1:L=[]
 ·subst h1;have e2:lI (dG G f) rc [.memo [],.dat (.tup (([]:cn).map tupI)),cJ w]=some (.ret (.int 1)):=rfl;rw[f6 e2,O8]
 ·have e2:lI (dG G f) rc [.memo [],.dat (.tup (L.map tupI)),cJ w]=some (.next [.memo [],.dat (.tup (L.map tupI)),cJ w]):=by
   unfold lI;rw[hV (q2.trans (by
    rw[aH];intro z;apply h1
    exact eq_nil_of_length_eq_zero (by omega)))]
   rfl
  rw[LW.cS e2];have q4:qB (dw uN (fV cT) (df 1)) [.memo [],.dat (.tup (L.map tupI)),cJ w]=some (decide ([]∈L)):=eN ((dM (o:=uN) (x:=tupI []) (y:=.tup (L.map tupI)) rfl rfl).trans (O1 [] L));by_cases h2:[]∈L
  ·have e4:jR (dG G f) rc [.memo [],.dat (.tup (L.map tupI)),cJ w]=some (.ret (.int 0)):=by
    unfold jR;rw[kY (q4.trans (by rw[aR h2]))]
    rfl
   rw[f6 e4,LQ h2]
  ·have e4:jR (dG G f) rc [.memo [],.dat (.tup (L.map tupI)),cJ w]=some (.next [.memo [],.dat (.tup (L.map tupI)),cJ w]):=by
    unfold jR;rw[hV (q4.trans (by rw[aH h2]))]
    rfl
   rw[LW.cS e4];have hM:YW (dG G f)=Kl G:=Ja f;have k:∀ks,fV (cN (cW 1) (cN (cW 2) cT)) [.memo ks,.dat (.tup (L.map tupI)),cJ w]=some (xp L w):=λks=>rfl
   have Yc:=hr h1 h2;have km:oz 0 (dG G f) rc (cN (cW 1) (cN (cW 2) cT)) [.memo [],.dat (.tup (L.map tupI)),cJ w]=some (.int (vF 12 L w)):=Yc;have e5:oG (dG G f) rc [.memo [],.dat (.tup (L.map tupI)),cJ w]=some (.next [.memo [xp L w],.dat (.tup (L.map tupI)),cJ w]):=by
    unfold oG lV;rw[k,km,hM];exact if_pos (OT hG sl.s hw)
   have ko:=Eo L w;have e6:oH (dG G f) rc [.memo [],.dat (.tup (L.map tupI)),cJ w]=some (.next [.memo [xp L w],.dat (.tup (L.map tupI)),cJ w]):=by
    unfold oH yK;rw[k,e5];refine if_pos ⟨ko.1,ko.2,rfl,λi s hs=>?_⟩
    match i,hs with
    |0,hs=>exact .inr (.inl hs)
    |1,hs=>exact .inr (.inl hs)
    |2,hs=>exact .inr (.inl hs)
    |(i+3),hs=>cases hs
   rw[LW.cS e6];unfold uq;refine fC ?_;unfold vD;rw[k,hM];exact(if_pos ⟨ko.1,ko.2,br.mpr rfl⟩).trans (OT hG sl.s hw)
theorem yb (hF:xx G) (gb:G.b=1) (gg:G.g=1):∀(n:Nat),(∀L w,Va G L->(w=0\/w=1)->L≠[]->[]∉L->2*(fc L).length+2<=n->nz n [dG G f,.tup (L.map tupI),.int w]=some (.int (vF 12 L w)))/\
  (∀L w,Va G L->(w=0\/w=1)->2*(fc L).length+3<=n->iC n [dG G f,.tup (L.map tupI),.int w]=some (.int (vF 12 L w)))
 |0=>⟨λ_ _ _ _ _ _ h=>by omega,λ_ _ _ _ h=>by omega⟩
 |n+1=>by
  obtain⟨ih1,ih2⟩:=yb hF gb gg n;refine⟨λL w s hw h1 h2 hn=>?_,λL w s hw hn=>?_⟩
  ·have sl:=hF.sl s;have jX:∃l∈L,l≠[]:=by
    cases L with
    |nil=>exact absurd rfl h1
    |cons l r=>exact⟨l,af,λz=>h2 (by rw[<-z];exact af)⟩
   unfold nz;refine tR rfl ?_;show ke (dG G f) (iC n) [.memo [],.dat (.tup (L.map tupI)),cJ w,.no,.no,.no,.no]=_;refine Jj hF gb gg sl h1 h2 hw λc hc=>?_
   have co:=Gy hF.ok sl jX hc;have fw:=Jh (w:=w) sl co.2.1 co.2.2.2;exact ih2 _ _ (O6 hF sl co.2.1 co.1) (by omega) (by omega)
  ·have sl:=hF.sl s;unfold iC;refine tR rfl ?_;show jF (dG G f) (nz n) [.memo [],.dat (.tup (L.map tupI)),cJ w]=_;exact GA hF sl hw λh1 h2=>ih1 L w s hw h1 h2 (by omega)
def GB (hF:xx G) (gb:G.b=1) (gg:G.g=1) (p:nr G.many m y) (hw:w=0\/w=1):oh [dG G f,tupI m,tupI y,.int w]=some (.int (vF 12 (fA G.ls m y) w)):=by
 have hG:=hF.ok;have s:Va G (fA G.ls m y):=⟨m,y,p,rfl⟩;have sl:=hF.sl s;have hu:=we hG.m9 sl.lo.li;refine tR rfl ?_;show kO (dG G f) [.memo [],cK m,cK y,cJ w]=_;have ko:cU eT (cN (dw gK (dw gK (oZ (dG G f) 0) (dC (.int 0))) (dC (.int 1))) (cN (cW 1) (cN (cW 2) cT))) [.memo [],cK m,cK y,cJ w]=some (.tup ((fA G.ls m y).map tupI)):=(de rfl).trans (Eu (.inl rfl) hF.Ms hG.ll);unfold kO ur;refine fC ?_;show(cN _ _ _).bind _=_;rw[Kn ko rfl];show iC 24 [dG G f,.tup ((fA G.ls m y).map tupI),.int w]=_;exact(yb (f:=f) hF gb gg 24).2 _ w s hw (by omega)
def BQ (hF:xx G) (gb:G.b=1) (gg:G.g=1) {m y:cp}(p:nr G.many m y) (hw:w=0\/w=1):iX [dG G f,tupI m,tupI y,.int w]=some (.int (vF 12 (fA G.ls m y) w)):=by
 refine LW.dU rfl ?_;show kP [.dat (dG G f),cK m,cK y,cJ w]=_;unfold kP rj;exact fC (GB hF gb gg p hw)
def Dh (hF:xx G) (gb:G.b=1) (gg:G.g=1) (hf:f=0\/f=1):pA [dG G f]=some (.int (vF 12 (fA G.ls [] []) f)):=by
 refine LW.dU rfl ?_;show tN [.dat (dG G f)]=_;unfold tN Aw;exact fC ((de (F:=iX) (ds:=[dG G f,tupI [],tupI [],.int f]) rfl).trans (BQ hF gb gg (Ki _) hf))
end
end PW
namespace ST
section
variable {prog:cC}{w:cD}{s:cA}
def Yd (prog:cC) (w:cD) (s:cA) (ns:cp) (h':Heap):Prop:=(∃o es ep t,h'.get? s.heap.objs.size=some o/\o.ExactSet/\o.data=.set es ep t/\t.fits es.size=true/\es.size=(firstMet (λi=>ns.getD i 0) ns.length).length)/\∀b o,b<s.heap.objs.size->s.heap.get? b=some o->h'.get? b=some o
end
end ST
namespace DL
open L2
def Ks (f:bZ):bZ:=λδ=>((f δ).bind D5).map λb=>.bl (!b)
section
variable [Mem] {X:Cx}{a:cH}{f:bZ}{pos:Pos}
def RO (ha:WO X a f):WD X (.UnaryOp .Not a pos) (Ks f):=⟨by
 have ha:=ha.go;intro cM s σ H Q I ⟨C,δ,d,x,q,k⟩;unfold Ks at q;cases hf:f δ with
 |none=>rw[hf]at q;cases q
 |some d0=>
  rw[hf]at q;cases ht:D5 d0 with
  |none=>simp[ht]at q
  |some b=>
   simp[ht]at q;subst q;refine UnaryOp_ (g7 (ha cM s σ H (λv H1=>∃C1,Ev C H C1 H1/\Qv X.K v H1 b) I ⟨C,δ,d0,x,hf,λv C1 H1 ev i=>⟨C1,ev,JX ev.s i ht⟩⟩) λv s1 ⟨y,H1,I1,r1,C1,ev,tv⟩=>?_)
   refine not_of (g7 (MO cM s1 σ H1 y v (λc H2=>c=b/\∃C2,Ev C H C2 H2) I1 r1 ⟨b,tv,rfl,C1,ev⟩) λc s2 ⟨H2,I2,e2,C2,ev2⟩=>?_)
   subst e2;exact⟨.bl (!c),H2,I2,rfl,k _ C2 H2 ev2 (.bl _)⟩⟩
end
end DL
namespace DL
noncomputable def xy:D->Option Nat
 |.tup l=>some l.length
 |_=>none
def lZ:D->Nat->cc
 |b,_,[]=>some b
 |b,n,d::r=>(xy d).bind λm=>if m<n then lZ d m r else lZ b n r
def wg:D->Option D
 |.tup (d::r)=>if r.length<60 then(xy d).bind λn=>lZ d n r else none
 |_=>none
def yR (f:bZ):bZ:=λδ=>(f δ).bind wg
def wj (f:bZ):bZ:=λδ=>match f δ with
 |some (.tup ds)=>if ds.length<60 then(intsOf ds).map λns=>match ns with|[]=>.eU|_=>.int (jf ns)else none
 |_=>none
noncomputable def GC (f:bZ) (g:bX):bZ:=λδ=>match f δ,g δ with
 |some (.int i),some [.int n]=>some (.bl (!decide (0<=i/\i<n)))
 |_,_=>none
def nA (f:bZ):bZ:=λδ=>match f δ with
 |some (.lst ds)=>(intsOf ds).bind λns=>if ns.length<=18 then some (.int ns.eraseDups.length)else none
 |_=>none
def gH:cw->Option (cw)
 |[.tup ds]=>if ds.length<64 then(jZ ds).bind λnss=>if nss.all (λns=> !ns.isEmpty)=true then some ((fi nss).map tupI)else none else none
 |_=>none
open Classical in
def Di (M:eM) (i:Nat) (q:cb) (fk:bZ) (fb fr:bY):bY:=λδ=>match q δ with
 |some true=>match fb δ with|some (.ret d)=>some (.ret d)|_=>none
 |some false=>match δ[i]?,fk δ with
  |some (.memo _),some (.tup ds)=>if ow (.tup ds)=true/\eV (.tup ds)<=4/\(M.W (.tup ds)=none\/∃d,fb δ=some (.ret d)/\fr δ=some (.ret d))then fr δ else none
  |_,_=>none
 |none=>none
end DL
namespace DL
open L2
section
variable {X:Cx}{a:cG}{M:eM}{C0 H0:Hp}{e k o:cH}{body rest:List cI}{pos aaH aaI:Pos}{i:Nat}
def O9 (hu:X.A.units+64<cLine) (hq:@WQ (fm a M) X e fq) (hk:@WD (fm a M) X k fk) (ho:PE X o (lQ i)) (hb:@wH (fm a M) X C0 H0 body fb) (hr:@wH (fm a M) X C0 H0 rest fr) (hm:behindInMarks .In o=false:=by first|exact yZ _|rfl):@wH (fm a M) X C0 H0 (.If (.BoolOp .Or [e,.Compare k [.In] [o] pos] aaH) body [] aaI::rest) (Di M i fq fk fb fr):=by
 letI:=fm a M
 have hq:=hq.go;have hk:=hk.go;have hb:=hb.go;have hr:=hr.go;exact⟨λB=>by
  letI:=fm a M
  refine(va (MD (R9 hq (MA (yB (Lq (a:=a) (M:=M) hu) hk ho hm))).pt (hb B) Dz) (hr B)).imp λDn σ H ⟨C,δ,r,gd,q,fin⟩=>?_
  unfold Di at q;split at q
  ·rename_i hf;split at q
   ·rename_i d hd;cases q;exact⟨C,δ,true,gd.x,hf,λC1 H1 e1=>yp (yp ⟨C1,δ,.ret d,gd.Bv e1,hd,fin⟩)⟩
   ·cases q
  ·rename_i hf;refine⟨C,δ,false,gd.x,hf,λC1 H1 e1=>Br ?_⟩
   split at q
   ·rename_i ks ds hi Rb;split at q
    ·rename_i hc;obtain⟨c1,c2,c3⟩:=hc;refine⟨C1,δ,.tup ds,(gd.Bv e1).x,Rb,λv C2 H2 e2 i2=>?_⟩
     have g2:=(gd.Bv e1).Bv e2;obtain⟨a',h1,h2,⟨xs,m⟩,h4⟩:=g2.x.mem i ks hi;cases h1;refine⟨.ref a,h2,C2,ds,xs,e2.s,i2,c1,c2,rfl,m,_,rfl,?_⟩;cases hs:atKey xs (.tup ds)with
     |some pv=>
      obtain⟨_,v',d',r',i',w⟩:=m.ent _ (CI hs);rcases c3 with z|⟨d,z1,z2⟩
      ·rw[z]at w;cases w
      ·rw[z2]at q;cases q;exact yp ⟨C2,δ,.ret d,g2,z1,fin⟩
     |none=>exact Br ⟨C2,δ,r,g2,q,fin⟩
    ·cases q
   ·cases q
  ·cases q⟩
end
section
variable {X:Cx}{a b:cH}{p pos gP:Pos}
def LR (i n:Int):(Builtin.Range.rangePlace? 0 n 1 i).isSome=decide (0<=i/\i<n):=by
 unfold Builtin.Range.rangePlace?;by_cases h1:0<=i<;>by_cases h2:i<n<;>simp[h1,h2,Int.emod_one]
def RP:tX X (compareOp .NotIn) (λx y H Q=>∃i r n,x=.int i/\y=.ref r/\H r=some (.Ml 0 n)/\Q (.bl (!decide (0<=i/\i<n))) H):=by
 intro cM s σ H x y v u Q I rx ry h;obtain⟨i,r,n,rfl,rfl,hr,q⟩:=h;obtain⟨ti,rfl⟩:=rx;cases ry;obtain⟨t1,t2,t3,e⟩:=I.gk r _ hr;have hT:s.TypeIs (.ref r) "range":=⟨_,e,rfl⟩;show wpAny _ _ (do return .bool (!(<-contains (.ref r) (.int i ti)))) (EP X cM σ Q) X.xe s
 refine aa ?_;unfold contains;try with_reducible refine bj ?_
 refine aa (wpAny_specialOf hT PySem.F.slot_range_contains.lookup ?_);show wpAny _ _ (if(some (Value.builtin "range.__contains__")==some Value.none)=true then _ else _) _ X.xe s
 rw[if_neg (by rw[beq_builtin_none];exact aZ)]
 refine aa (wpAny_callSpecialUnlessNone?_slot (name:=Str.ofString "__contains__") hT PySem.F.slot_range_contains
  (bL PySem.F.slot_range_contains hT PySem.F.entry_range_contains ?_ (PySem.F.args_range_contains_2 _ _)))
 show wpAny _ _ (rule "range.contains.reckoned">>=λ_=>Builtin.Range.rangeFields (.ref r)>>=λx=>ret (.bool (Builtin.Range.rangePlace? x.1 x.2.1 x.2.2 i).isSome)) _ _ s
 refine aa (wpAny_rule ?_);refine aa ?_;unfold Builtin.Range.rangeFields;refine aa (wpAny_field e rfl rfl (aa (aj (aa (wpAny_field e rfl rfl (aa (aj (aa (wpAny_field e rfl rfl (aa (aj (aj ?_))))))))))));rw[LR];exact aj ⟨_,rfl,bP (aj ⟨.bl _,H,I.tok _,rfl,q⟩)⟩
def RQ [Mem] (hg:Gl X "range") (hm:X.mg "range"=none) (ha:WO X a f) (hb:Hq X [b] g) (hs:starEach [b] X.env=[(false,eval b X.env)]:=by exact fS rfl) (hk:behindInMarks .NotIn (.Call (.Name "range" p) [b] [] gP)=false:=by first|exact yZ _|rfl):WQ X (.Compare a [.NotIn] [.Call (.Name "range" p) [b] [] gP] pos) (qB (GC f g)):=
 ⟨(yB RP ha.go (Cy hg hm hb.go hs) hk).imp λσ H Q ⟨C,δ,d,x,q,k⟩=>by
  unfold qB GC at q;split at q
  ·rename_i b0 hq;split at hq
   ·rename_i i n hf hgf;cases hq;cases q;refine⟨C,δ,.int i,x,hf,λv C1 H1 e1 i1=>⟨C1,δ,[.int n],x.ev e1,hgf,λvs C2 H2 e2 i2=>?_⟩⟩
    cases i2 with
    |cons j1 j2=>
     cases j2;cases j1;refine⟨n,rfl,λt ht=>?_⟩
     have e3:=Ev.gm (o:=HO.Ml 0 n) e2.s ht;exact⟨i,t,n,(i1.ev (e2.trans e3)).int,rfl,dh,_,rfl,k _ _ ((e1.trans e2).trans e3)⟩
   ·cases hq
  ·cases q⟩
end
end DL
namespace ST
section
variable {prog:cC}{w:cD}{A:cE}{E:cf}{s:cA}
def Jk (hh:A.handled=none) (hl:s.heap.IsList l items) (hi:IntsAre items.toList ns) (hb:items.size+1<scanBound) (h:∀h' tk,Yd prog w s ns h'->Q (.done (.ret .none)) {s with heap:=h',toks:=tk}):wpAny (model prog w) A (Builtin.«set.__init__» ⟨[.ref s.heap.objs.size,.ref l],[]⟩) Q E {s with heap:=s.heap.push (dX led)}:=by
 have hn:items.size=ns.length:=by have:=hi.length;simpa using this
 obtain⟨⟨aac,Oq,XQ,IH⟩,XR,wF,nl,XS⟩:=hl;simp only at wF XS;subst wF XS;have hS:(s.heap.push (dX led)).get? s.heap.objs.size=some (dX led):=az _ rfl;have hT:Shared.TypeIs {s with heap:=s.heap.push (dX led)} (.ref s.heap.objs.size) "set":=⟨_,hS,rfl⟩
 have UU:(s.heap.push (dX led)).get? l=some {cls:=.type "list",dict:=Oq,data:=.seq items nl,slots:=IH}:=ag _ XR;have aad:=PySem.F.sub_list_set;have aae:=PySem.F.sub_list_frozenset;have jX:(Value.type "list"==Value.type "dict")=false:=by decide
 have UW:(s.heap.push (dX led)).IsList l items:=⟨_,UU,rfl,nl,rfl⟩;unfold Builtin.«set.__init__» noKeywords Builtin.Frozenset.updateFrom;generalize hPI:pyIter=PI
 wp_walk
 subst hPI;refine wpAny_pyIter_list UW ?_;refine aa (wpAny_runValue ?_);have XT:l<s.heap.objs.size:=aB XR;have UX:(s.heap.push (dX led)).objs.size=s.heap.objs.size+1:=Heap.size_push ..;have Ot:l≠(s.heap.push (dX led)).objs.size:=by rw[UX];exact aE (Nat.lt_succ_of_lt XT)
 have VP:s.heap.objs.size∉[(s.heap.push (dX led)).objs.size,l]:=by
  rw[UX];simp only[mem_cons,bH,or_false,not_or];exact⟨aE (Nat.lt_succ_self _),bw XT⟩
 have hgS:((s.heap.push (dX led)).push {cls:=.type "list_iterator",data:=.fields #[.ref l,.int 0 0]}).get? s.heap.objs.size=some (dX led):=ag _ hS;have W:=(Walks.list (prog:=prog) (w:=w) (A:=A.in1) hh (s.heap.push (dX led)).objs.size l Ot items).toS;refine codeAny_set_update_loopS W s.heap.objs.size VP (λi=>ns.getD i 0) (λi v hv=>hi.int_at i v (by rw[Array.getElem?_toList];exact hv)) hb (items.size-0) 0 _ (by omega) (bK _) ⟨⟨_,az _ rfl,rfl,rfl⟩,UW.push _⟩ (SetOf_congr ((setObjOf_fresh (knd:=intKind prog w) led).setOf hgS (by unfold scanBound;omega)) (λ_=>rfl) rfl) (λs' hm Rt=>?_)
 obtain⟨h',g',d',rE,TN⟩:=s';have eg:g'=s.gens:=hm.gens;have ed:d'=s.drawn:=hm.drawn;have eo:TN=s.os:=hm.os;subst eg ed eo;show wpAny _ _ _ _ _ _;refine aj ?_;show wpAny _ _ (ret Value.none) _ _ _;refine aj (h h' rE ⟨?_,λb o hb e=>?_⟩)
 ·rw[hn]at Rt;obtain⟨o,es,ep,t,ho,hex,hd,_,_,_,hf,en⟩:=Rt;exact⟨o,es,ep,t,ho,hex,hd,hf,en⟩
 ·have hb1:b≠s.heap.objs.size:=aE hb;have UG:b≠(s.heap.push (dX led)).objs.size:=by rw[UX];exact aE (Nat.lt_succ_of_lt hb)
  exact hm.heap b o (by simp only[mem_cons,bH,or_false,not_or];exact⟨hb1,UG⟩) (ag _ (ag _ e))
end
end ST
namespace DL
open L2
theorem Kt (val:Nat->Int):∀i,(firstMet val i).Nodup/\∀x,x∈firstMet val i↔∃j,j<i/\val j=x
 |0=>⟨by rw[firstMet_zero];exact nodup_nil,λx=>by rw[firstMet_zero];simp⟩
 |i+1=>by
  obtain⟨h1,h2⟩:=Kt val i;have ha:(firstMet val i).any (λy=>y==val i)=true↔val i∈firstMet val i:=by
   rw[bN];exact⟨λ⟨y,hy,e⟩=>by rw[<-(beq_iff_eq.mp e)];exact hy,λh=>⟨_,h,by simp⟩⟩
  rw[firstMet_succ];have hs:step_dedup (firstMet val i) (val i)=if val i∈firstMet val i then firstMet val i else firstMet val i++[val i]:=by
   unfold step_dedup;by_cases hm:val i∈firstMet val i
   ·rw[if_pos hm];simp[hm]
   ·rw[if_neg hm];simp[hm]
  rw[hs];split
  ·rename_i hm;refine⟨h1,λx=>(h2 x).trans ⟨λ⟨j,hj,e⟩=>⟨j,by omega,e⟩,λ⟨j,hj,e⟩=>?_⟩⟩
   rcases Nat.lt_or_ge j i with z|z
   ·exact⟨j,z,e⟩
   ·have:j=i:=by omega
    subst this;subst e;exact(h2 _).mp hm
  ·rename_i hm;refine⟨nodup_append.mpr ⟨h1,by simp,λa ha b hb z=>by simp at hb;subst hb;subst z;exact hm ha⟩,λx=>?_⟩
   rw[mem_append,br,h2];constructor
   ·rintro(⟨j,hj,e⟩|e)
    ·exact⟨j,by omega,e⟩
    ·exact⟨i,by omega,e.symm⟩
   ·rintro⟨j,hj,e⟩
    rcases Nat.lt_or_ge j i with z|z
    ·exact .inl ⟨j,z,e⟩
    ·have:j=i:=by omega
     subst this;exact .inr e.symm
theorem Ku:∀(n:Nat) (l:cp),l.length<=n->l.eraseDups.Nodup
 |_,[],_=>by simp
 |0,_::_,h=>by simp at h
 |n+1,a::l,h=>by
  rw[eraseDups_cons,nodup_cons];refine⟨λz=>?_,Ku n _ (aD (aW _ _) (by simpa using h))⟩
  have:=(mem_filter.mp (mem_eraseDups.mp z)).2;simp at this
def Kv (ns:cp):(firstMet (λi=>ns.getD i 0) ns.length).length=ns.eraseDups.length:=by
 obtain⟨h1,h2⟩:=Kt (λi=>ns.getD i 0) ns.length
 have h3:∀x,x∈firstMet (λi=>ns.getD i 0) ns.length↔x∈ns.eraseDups:=λx=>by
  rw[h2,mem_eraseDups,mem_iff_getElem];constructor
  ·rintro⟨j,hj,e⟩
   exact⟨j,hj,by simpa [ak,ah hj]using e⟩
  ·rintro⟨j,hj,e⟩
   exact⟨j,hj,by simpa [ak,ah hj]using e⟩
 exact Nat.le_antisymm (bV h1 λx hx=>(h3 x).mp hx) (bV (Ku _ ns (au _)) λx hx=>(h3 x).mpr hx)
section
variable [Mem] {X:Cx}{a e:cH}{f:bZ}{p p2 pos gP:Pos}
def AB (hc:X.calm=true) (hu:X.A.units+64<cLine) (hg1:Gl X "len") (Lg:X.mg "len"=none) (hg2:Gl X "set") (Cp:X.mg "set"=none) (ha:WO X e f)
  (Qk:starEach [.Call (.Name "set" p2) [e] [] gP] X.env=(false,eval (.Call (.Name "set" p2) [e] [] gP) X.env)::starEach [] X.env:=by exact fS rfl) (K0:cL e [] X.env:=by exact fS rfl):
  WD X (.Call (.Name "len" p) [.Call (.Name "set" p2) [e] [] gP] [] pos) (nA f):=⟨by
 have ha:=ha.go;intro cM s σ H Q I ⟨C,δ,d,x,q,k⟩;unfold nA at q;split at q
 case h_2=>cases q
 rename_i es0 hf;cases hn:intsOf es0 with
 |none=>rw[hn]at q;cases q
 |some ns=>
  rw[hn]at q;simp only[ao]at q;split at q
  case isFalse=>cases q
  rename_i YT;cases q;have ee:=jz hn;subst ee;refine wpAny_Call_Name_kw (kr I hg1 Lg iG ?_);refine PyProof.Rows.callWith_builtin1 ?_ Qk rfl;rw[Qk];show wpAny _ _ (spliced ((false,eval (.Call (.Name "set" p2) [e] [] gP) X.env)::backTo pos (starEach [] X.env))) _ _ s;refine Calls.spliced_cons ?_;refine wpAny_Call_Name_kw (kr I hg2 Cp PyProof.Rows.boot_set ?_);refine PyProof.Rows.callWith_type1 (g7 ((jy ha rK K0) gP cM s σ H (λvs H1=>∃v C1,vs=[v]/\Ev C H C1 H1/\pL C1 H1 v (.lst (ns.map D.int))) I ⟨C,δ,_,x,hf,λv C1 H1 ev iv=>⟨v,C1,rfl,ev,iv⟩⟩) λus s1 ⟨vs,H1,I1,r1,v,C1,e1,ev,iv⟩=>?_) K0 rfl
  subst e1;obtain⟨u,rfl,ru⟩:=r1.one;obtain⟨a,xs,rfl,hq,l⟩:=iv.list (K:=X.K) ev.s;cases ru;obtain⟨dE,rv,pl,hz⟩:=I1.list hq;have ex:=l.lE;subst ex;have hi:IntsAre dE ns:=intsAre_of rv;have hl:dE.length=ns.length:=hi.length;have hb:dE.toArray.size+1<scanBound:=by rw[aq,hl];unfold scanBound;omega
  refine ST.ue (Mk:=ST.Yd X.prog X.w s1 ns) (λhQ=>ST.Jk (A:=X.A.in1.in1) (show X.A.in1.in1.handled=none from I1.ok.hd hc) pl.isList (by simpa using hi) hb hQ) λh' tk ⟨⟨o,es,ep,t,ho,hex,hd,hf2,en⟩,keep⟩=>?_
  have I2:Inv X cM σ H1 {s1 with heap:=h',toks:=tk}:=I1.kept (t':=tk) λb o eo=>keep b o (aB eo) eo
  refine Calls.spliced_nil ?_;rw[Kv]at en;have afm:ns.eraseDups.length<=ns.length:=by rw[<-Kv];exact firstMet_length_le _ _
  refine call_len_set ho hex hd hf2 (by rw[en];omega) ?_
  rw[en];exact⟨.int (ns.eraseDups.length:Nat),H1,I2.tok _,⟨_,rfl⟩,k _ C1 H1 ev (.int _)⟩⟩
end
end DL
namespace L2
open PySem.W
section
variable {prog:cC}{w:cD}{A:cE}{E:cf}{s:cA}{h₀:Heap}{L:cG}{m:cg}{news:cj}{vs:cx}
def Pa (F:Fr h₀ L s.heap m) (N:News h₀ L s.heap news) (ht:IsTup s.heap t vs.toArray) (h2:2<=vs.length) (xS:vs.length<64) (h:∀D e1 h',Fr h₀ L h' m->News h₀ L h' ((D,seqObj "list" #[] e1)::news)->(∀q∈news,q.1<D)->
   wpAny (model prog w) A.in1.in1 (keyKind' vs.toArray) (λκ s'=>(kas_sort vs.length).kasWp (kas_ask prog w A.in1.in1 κ vs) (λp Ff=>KasFin h₀ L m D e1 (p.toList.map λi=>vs.getD i Value.none) (λs3=>Q (.ref D) s3) Ff) s') (λ_ _=>False) {s with heap:=h'}):wpAny (model prog w) A (call (.builtin "sorted") [.ref t]) Q E s:=by
 refine Calls.call_function_entry kind_sorted plain_sorted entry_sorted (args_sorted1 _) ?_;unfold Builtin.«sorted»;refine aa (m:=checkCount "sorted" 1 1 _) (aj ?_);refine aa (rX ht ?_ (by rw[bu];omega))
 have z1:((s.heap.push (seqObj "list" #[] 0)).update s.heap.objs.size (Obj.mapSeq (·++vs.toArray))).objs.size=s.heap.objs.size+1:=by rw[Heap.size_update,size_push']
 have keep:∀b o,s.heap.get? b=some o->((s.heap.push (seqObj "list" #[] 0)).update s.heap.objs.size (Obj.mapSeq (·++vs.toArray))).get? b=some o:=λb o q=>by
  have fP:b<s.heap.objs.size:=aB q;rw[Heap.get?_update_ne _ _ _ _ (aE fP),Heap.get?_push_ne _ _ _ (aE fP)];exact q
 generalize (s.heap.push (seqObj "list" #[] 0)).update s.heap.objs.size (Obj.mapSeq (·++vs.toArray))=g at z1 keep ⊢
 have hg:s.heap.objs.size<g.objs.size:=by omega
 refine aa (wpAny_newList ?_ (by rw[bu];omega))
 have E9:(g.push (seqObj "list" vs.toArray 0)).get? g.objs.size=some (seqObj "list" vs.toArray 0):=az _ rfl;have oY:∀b o,s.heap.get? b=some o->(g.push (seqObj "list" vs.toArray 0)).get? b=some o:=λb o q=>ag _ (keep b o q)
 have hL:L<s.heap.objs.size:=F.ns.lt;refine aa (bj (bL slot_list_sort ⟨_,E9,rfl⟩ entry_list_sort ?body (args_list_sort _)))
 case body=>
  refine kat_list_sort (s:={s with heap:=g.push (seqObj "list" vs.toArray 0)}) (F.kept oY) (N.grown oY) E9 (bw (bG hL hg)) (Heap.get?_none_of_le (aD F.above (bg (bG hL hg))))
   (λp hp=>aE (bG (aB (N p hp).1) hg)) h2 xS λe1 h' F' N'=>?_
  refine bO (h _ e1 h' F' N' (λq hq=>bG (aB (N q hq).1) hg)) (λκ s' hk=>?_) λ_ _ x=>x
  rw[kat_ask_eq rfl]at hk ⊢;exact kas_wp_mono hk λp Ff rB=>rB.mono λs3 hq=>⟨_,rfl,aj ⟨_,rfl,hq⟩⟩
end
section
variable {X:Cx}
def BR (hu:X.A.units+64<cLine):i9 X (.builtin "sorted") (λxs H Q=>∃(p:cG) (vs:List V) (nss:cn),xs=[.ref p]/\mB X.K H p vs/\DV X.K H vs nss/\vs.length<64/\(∀ns∈nss,ns≠[])/\
  ∀(l:cG) (ix:List Nat),H l=none->ix.Perm (List.range vs.length)->(ix.map λi=>nss.getD i []).Pairwise (λa b=>HT.lexLt b a=false)->Q (.ref l) (upd H l (.lst (ix.map λi=>vs.getD i .eU)))):=by
 intro cM s σ H xs us Q I r h;obtain⟨p,vs,nss,rfl,hq,ht,xS,jX,q⟩:=h;obtain⟨u,rfl,rx⟩:=vals1 r;cases rx;obtain⟨dE,rv,pl,hz⟩:=I.tuple hq;have hl:=rv.length;by_cases h2:vs.length<2
 ·refine zy I rv (λq z=>rX pl q z) (by omega) λl hl=>?_
  have pw:∀l:cn,l.length<2->l.Pairwise λa b=>HT.lexLt b a=false:=λl hl=>by
   match l,hl with
   |[],_=>exact List.Pairwise.nil
   |[a],_=>exact pairwise_singleton _ _
  have:=q l (List.range vs.length) hl (List.Perm.refl _) (pw _ (by rw[ae,length_range];exact h2))
  rw[DL.gB]at this;exact this
 ·refine Fy hu (RR:=IntsAre) I rv ht (by omega) xS (λF N h=>Pa F N pl (by omega) (by omega) h) (λv l hl ⟨a,e1,e2⟩=>⟨a,_,e1,e2,λts r=>?_⟩) (λh' ts ND l l' R bb _ b7 c7 hR=>nT _ _ l l' 0 _ (by simpa using b7) (by simpa using c7) (.inr trivial) ?_ hR) q
  ·have b:=intsAre_of r;refine⟨b,?_⟩;cases b with
   |nil=>exact absurd rfl (jX _ hl)
   |cons i t b=>exact⟨i,t,_,rfl⟩
  ·rw[aq,aq,b7.length,c7.length];by_cases h:l.length<l'.length
   ·rw[if_pos h];exact aR h
   ·rw[if_neg h];exact aH h
end
end L2
namespace DL
open L2
def tT [Mem] (hu:X.A.units+64<cLine):Ct X (.builtin "sorted") gH:=by
 refine⟨_,BR hu,?_⟩;intro C H vs ds d Q s i q k;unfold gH at q;split at q
 case h_2=>cases q
 rename_i es;split at q
 case isFalse=>cases q
 rename_i xS;obtain⟨v,rfl,j⟩:=i.one;obtain⟨p,xs,rfl,hq,l,_⟩:=j.tup (K:=X.K) s;cases hn:jZ es with
 |none=>rw[hn]at q;cases q
 |some nss=>
  rw[hn]at q;simp only[ao]at q;split at q
  case isFalse=>cases q
  rename_i wM;cases q;have ee:=tH hn;subst ee;have lv:=l.length;rw[ae]at lv xS;refine⟨p,xs,nss,rfl,hq,l.DY s,by omega,λns M7=>?_,λt ix ht pm pw=>?_⟩
  ·have:=all_eq_true.mp wM ns M7;intro z;subst z;simp at this
  ·have lt:∀i∈ix,i<(nss.map tupI).length:=λi hi=>by
    have:=pm.mem_iff.mp hi;rw[mem_range]at this;rw[ae];omega
   have lt':∀i∈ix,i<nss.length:=λi hi=>by have:=lt i hi;rwa [ae]at this
   have e:(ix.map λi=>nss.getD i [])=fi nss:=by
    refine gw (λa b h1 h2=>HT.gR h2 h1) ?_ pw (rR nss)
    have e1:(ix.map λi=>nss.getD i []).Perm ((List.range nss.length).map λi=>nss.getD i []):=List.Perm.map _ (by rw[<-lv];exact pm)
    rw[gB]at e1;exact e1.trans (eY nss).symm
   have ll:=l.places ix lt;rw[vy tupI nss [] .eU ix lt',e]at ll;exact k t _ C _ (.gm s ht) ht (s.free ht) dh ll
end DL
namespace L2
open PySem.W
section
variable {prog:cC}{w:cD}{A:cE}{E:cf}{s:cA}{I S ax:cG}{items:Array cy}{base:Heap}{key:Nat->Int}{R:Result->cA->Prop}{kv:cy}{kw:List (Str×cy)}
def jo (key:Nat->Int) (i m:Nat):Prop:=∀j,j<=m->key i<=key j/\(j<i->key i<key j)
noncomputable abbrev Ye (v:cy) (k:Int) (t:Tok) (c:Nat):Obj:={cls:=.type "list",data:=.seq #[v,.int k t] c}
noncomputable def Vf (kv:cy) (S:cG) (old:cx) (v:cy) (jp:cy->Sem PySem.Fin):Sem PySem.Fin:=match kv with
 |.none=>pure v>>=jp
 |_=>tryCatch (holding [v] (call kv [v])) (λe=>do
  updateSeq S λ_=>#[]
  letGo ([v]++old.reverse) [e]
  throw e)>>=jp
abbrev S6 (prog:cC) (w:cD) (A:cE) (s:cA) (items:Array cy) (base:Heap) (key:Nat->Int) (kv:cy):Prop:=
 ∀(S:cG) (old:cx) (jp:cy->Sem PySem.Fin) (i:Nat) (v:cy) (h:Heap) (tk:Nat) (Q:PySem.Fin->cA->Prop) (E:cf),items[i]? =some v->(∀b o,base.get? b=some o->h.get? b=some o)->(∀t rE,wpAny (model prog w) A (jp (.int (key i) t)) Q E {s with heap:=h,toks:=rE})->wpAny (model prog w) A (Vf kv S old v jp) Q E {s with heap:=h,toks:=tk}
theorem Pc (hh:A.handled=none) (hI:base.get? I=none) (hS:base.get? S=none) (Vg:S≠I) (Vh:base.IsTuple ax items) (turn:S6 prog w A.in1 s items base key kv)
  (hR:∀i v h' rE,items[i]? =some v->jo key i (items.size-1)->(∀b o,base.get? b=some o->h'.get? b=some o)->R (.ok (.ret v)) {s with heap:=h',toks:=rE}):
  ∀(r j i:Nat) (h:Heap) (tk:Nat) (vb:cy) (tb:Tok) (c:Nat),items.size-(j+1)=r->j+1<=items.size->(∀b o,base.get? b=some o->h.get? b=some o)->h.get? S=some (Ye vb (key i) tb c)->h.IsTupleIter I ax (j+1)->
   items[i]? =some vb->i<=j->jo key i j->codeAny (model prog w) A (.builtin "min.loop" ⟨[.ref I,kv,.ref S],kw⟩) R {s with heap:=h,toks:=tk}:=by
 have GD:(toString "min"++toString ".loop":String)="min.loop":=by decide
 have jX:ax≠I:=λz=>by
  obtain⟨o,ho,_⟩:=Vh;rw[z,hI]at ho;cases ho
 have W:=Walks.tuple (prog:=prog) (w:=w) (A:=A.in1) hh I ax jX items;have Yg:∀{h:Heap},(∀b o,base.get? b=some o->h.get? b=some o)->h.IsTuple ax items:=λk=>let ⟨o,ho,r⟩:=Vh;⟨o,k _ _ ho,r⟩
 have step:∀{h h':Heap},(∀b o,base.get? b=some o->h.get? b=some o)->(∀b o,b∉[I]->h.get? b=some o->h'.get? b=some o)->∀b o,base.get? b=some o->h'.get? b=some o:=λk k' b o e=>k' b o (λz=>by rw[br.mp z,hI]at e;cases e) (k b o e)
 have S7:∀{h h':Heap},(∀b o,base.get? b=some o->h.get? b=some o)->Heap.SameBut S h h'->∀b o,base.get? b=some o->h'.get? b=some o:=λk sb b o e=>(sb.2 b (λz=>by rw[z,hS]at e;cases e)).trans (k b o e)
 intro r;induction r with
 |zero=>
  intro j i h tk vb tb c hr hj kp hB hit hvb Fs Kw;have wI:j+1=items.size:=by omega
  refine codeAny_builtin PySem.F.entry_min_loop ?_;rw[bW PySem.F.plain_min_loop _];show wpAny _ A.in1 (seqItems? (.ref S)>>=_) _ _ _;refine aa (wpAny_seqItems hB rfl ?_);show wpAny _ A.in1 (tryCatch (pyNext (.ref I)) _>>=_) _ _ _;refine aa (wpAny_tryCatch (W.done _ _ _ ⟨by rw[<-wI];exact hit,Yg kp⟩ λh' rE rB=>?_))
  have SW:=rB S _ (by simpa using Vg) hB
  show wpAny _ A.in1 (updateSeq S (λ_=>#[])>>=_) _ _ _
  refine aa (wpAny_updateSeq SW rfl (aa (wpAny_letGo (aj ?_))));exact hR i vb _ _ hvb (λj' Ie=>Kw j' (by omega)) (S7 (step kp rB) (Heap.SameBut.update h' S (Obj.mapSeq λ_=>(#[]:Array cy))))
 |succ r ih=>
  intro j i h tk vb tb c hr hj kp hB hit hvb Fs Kw;refine codeAny_builtin PySem.F.entry_min_loop ?_;rw[bW PySem.F.plain_min_loop _];show wpAny _ A.in1 (seqItems? (.ref S)>>=_) _ _ _;refine aa (wpAny_seqItems hB rfl ?_);show wpAny _ A.in1 (tryCatch (pyNext (.ref I)) _>>=_) _ _ _;refine aa (wpAny_tryCatch (W.item (j+1) _ _ _ (by omega) ⟨hit,Yg kp⟩ λv h' rE hP LB rB=>?_))
  have hv:items[j+1]? =some v:=hP;have kp':=step kp rB;have SW:=rB S _ (by simpa using Vg) hB
  show wpAny _ A.in1 (Vf kv S [vb,.int (key i) tb] v _) _ _ _;refine turn _ _ _ (j+1) v h' rE _ _ hv kp' λt2 VR=>?_
  show wpAny _ A.in1 (tryCatch (holding [v,.int (key (j+1)) t2] (richCompare .Lt (.int (key (j+1)) t2) (.int (key i) tb)>>=_)) _>>=_) _ _ _;refine aa (wpAny_tryCatch (bj (aa (CmpOf.ints_lt (prog:=prog) (w:=w) (A:=A.in1) (P:=λi v=>∃t,v=.int (key i) t) key (λi v h=>h) (j+1) i _ _ _ _ _ ⟨t2,rfl⟩ ⟨tb,rfl⟩ ?_))))
  refine aa (bj (bP (aa (wpAny_letGo (aj ?_)))));by_cases lt:key (j+1)<key i
  ·simp only[lt,decide_true,if_true];refine aa (wpAny_updateSeq SW rfl (aa (wpAny_letGo ?_)));rw[GD];have sb:=Heap.SameBut.update h' S (Obj.mapSeq λ_=>#[v,.int (key (j+1)) t2])
   refine aj ⟨plainId_quiet PySem.F.plain_min_loop _,ih (j+1) (j+1) _ _ v t2 _ (by omega) (by omega) (S7 kp' sb) (get?_update_seq SW λ_=>#[v,.int (key (j+1)) t2]) ?_ hv (au _) λj' Ie=>?_⟩
   ·obtain⟨oI,ho,r1⟩:=LB.1;exact⟨oI,(sb.2 I Vg.symm).trans ho,r1⟩
   ·rcases Nat.lt_or_ge j' (j+1)with z|z
    ·have:=(Kw j' (by omega)).1
     exact⟨by omega,λ_=>by omega⟩
    ·have:j'=j+1:=by omega
     subst this;exact⟨Int.le_refl _,λz=>absurd z (Nat.lt_irrefl _)⟩
  ·simp only[lt,decide_false,aI,bD];refine aa (wpAny_letGo ?_);rw[GD];refine aj ⟨plainId_quiet PySem.F.plain_min_loop _,ih (j+1) i _ _ vb tb c (by omega) (by omega) kp' SW LB.1 hvb (by omega) λj' Ie=>?_⟩
   rcases Nat.lt_or_ge j' (j+1)with z|z
   ·exact Kw j' (by omega)
   ·have:j'=j+1:=by omega
    subst this;exact⟨by omega,λz=>by omega⟩
theorem yc {ko dO:Option cy}{Q:cf}(ha:argsOk "min" ⟨[.ref ax],Yt⟩) (hb:Builtin.Builtins.bindParams "min" ["key","default"] 0 ⟨[],Yt⟩=pure [ko,dO]) (hh:A.handled=none) (Vh:s.heap.IsTuple ax items) (turn:S6 prog w A.in1 s items s.heap key (ko.getD .none)) (h0:items.size=0->∃d,dO=some d/\∀h' rE,(∀b o,s.heap.get? b=some o->h'.get? b=some o)->Q d {s with heap:=h',toks:=rE}) (hQ:∀i v h' rE,items[i]? =some v->jo key i (items.size-1)->(∀b o,s.heap.get? b=some o->h'.get? b=some o)->Q v {s with heap:=h',toks:=rE}):wpAny (model prog w) A (call (.builtin "min") [.ref ax] Yt) Q E s:=by
 have GD:(toString "min"++toString ".loop":String)="min.loop":=by decide
 refine kmb_tree PySem.F.kind_min PySem.F.plain_min PySem.F.entry_min ha ?_;show wpAny _ A.in1 (Builtin.Builtins.bindParams "min" ["key","default"] 0 ⟨[],Yt⟩>>=_) _ _ s;refine aa (wpAny_of_eq hb ?_);refine aa (aj (aa (wpAny_pyIter_tuple Vh ?_)));refine aa (wpAny_newList ?_ (bK _));rw[GD];generalize Yh:({cls:=.type "tuple_iterator",data:=.fields #[.ref ax,.int 0 0]}:Obj)=oI;have hof:oI.isFreed=false:=by rw[<-Yh];rfl
 have hSz:(s.heap.push oI).objs.size=s.heap.objs.size+1:=Heap.size_push ..;have hI:s.heap.get? s.heap.objs.size=none:=Heap.get?_none_of_le (au _);have hS:s.heap.get? (s.heap.push oI).objs.size=none:=Heap.get?_none_of_le (by rw[hSz];exact Nat.le_succ _)
 have Vg:(s.heap.push oI).objs.size≠s.heap.objs.size:=by rw[hSz];exact bw (Nat.lt_succ_self _)
 have gI:((s.heap.push oI).push {cls:=.type "list",data:=.seq ([]:cx).toArray}).get? s.heap.objs.size=some oI:=ag _ (az _ hof);have gS:((s.heap.push oI).push {cls:=.type "list",data:=.seq ([]:cx).toArray}).get? (s.heap.push oI).objs.size=some {cls:=.type "list",data:=.seq ([]:cx).toArray}:=az _ rfl;have k0:∀b o,s.heap.get? b=some o->((s.heap.push oI).push {cls:=.type "list",data:=.seq ([]:cx).toArray}).get? b=some o:=λb o e=>ag _ (ag _ e)
 have axI:ax≠s.heap.objs.size:=λz=>by
  obtain⟨o,ho,_⟩:=Vh;rw[z,hI]at ho;cases ho
 have Yg:∀{h:Heap},(∀b o,s.heap.get? b=some o->h.get? b=some o)->h.IsTuple ax items:=λk=>let ⟨o,ho,r⟩:=Vh;⟨o,k _ _ ho,r⟩
 have W:=Walks.tuple (prog:=prog) (w:=w) (A:=A.in1) hh s.heap.objs.size ax axI items;subst Yh;refine aj ⟨plainId_quiet PySem.F.plain_min_loop _,codeAny_builtin PySem.F.entry_min_loop ?_⟩;rw[bW PySem.F.plain_min_loop _];show wpAny _ A.in1 (seqItems? (.ref _)>>=_) _ _ _;refine aa (wpAny_seqItems gS rfl ?_);show wpAny _ A.in1 (tryCatch (pyNext (.ref s.heap.objs.size)) _>>=_) _ _ _;have back:∀{h':Heap},(∀b o,b∉[s.heap.objs.size]->((s.heap.push {cls:=.type "tuple_iterator",data:=.fields #[.ref ax,.int 0 0]}).push {cls:=.type "list",data:=.seq ([]:cx).toArray}).get? b=some o->h'.get? b=some o)->∀b o,s.heap.get? b=some o->h'.get? b=some o:=λrB b o e=>rB b o (λz=>by rw[br.mp z,hI]at e;cases e) (k0 b o e)
 rcases Nat.eq_zero_or_pos items.size with z|jX
 ·obtain⟨d,rfl,h1⟩:=h0 z;refine aa (wpAny_tryCatch (W.done _ _ _ ⟨⟨_,gI,rfl,by rw[z];rfl⟩,Yg k0⟩ λh' rE rB=>?_))
  show wpAny _ A.in1 (rule _>>=λ_=>ret d) _ _ _
  exact aa (wpAny_rule (aj (h1 _ _ (back rB))))
 ·refine aa (wpAny_tryCatch (W.item 0 _ _ _ jX ⟨⟨_,gI,rfl,rfl⟩,Yg k0⟩ λv h' rE hP LB rB=>?_))
  have hv:items[0]? =some v:=hP;have k1:=back rB;have hB:=rB _ _ (by simpa using Vg) gS
  generalize hSn:(s.heap.push {cls:=.type "tuple_iterator",data:=.fields #[.ref ax,.int 0 0]}).objs.size=S at *;show wpAny _ A.in1 (Vf (ko.getD .none) S [] v _) _ _ _;refine turn _ _ _ 0 v h' rE _ _ hv k1 λt2 VR=>?_
  show wpAny _ A.in1 (updateSeq S (λ_=>#[v,.int (key 0) t2])>>=_) _ _ _
  refine aa (wpAny_updateSeq hB rfl ?_);rw[GD];have sb:=Heap.SameBut.update h' S (Obj.mapSeq λ_=>#[v,.int (key 0) t2])
  refine aj ⟨plainId_quiet PySem.F.plain_min_loop _,Pc hh hI hS Vg Vh turn hQ _ 0 0 _ _ v t2 _ rfl jX (λb o e=>(sb.2 b (λz=>by rw[z,hS]at e;cases e)).trans (k1 b o e)) (get?_update_seq hB λ_=>#[v,.int (key 0) t2]) ?_ hv (au _) λj' Ie=>?_⟩
  ·obtain⟨oI,ho,r1⟩:=LB.1;exact⟨oI,(sb.2 _ Vg.symm).trans ho,r1⟩
  ·have:j'=0:=by omega
   subst this;exact⟨Int.le_refl _,λz=>absurd z (Nat.lt_irrefl _)⟩
end
def min_def (a v:cy):argsOk "min" ⟨[a],[(Str.ofString "default",v)]⟩:=by unfold argsOk;kernel_rfl
end L2
namespace DL
open L2
section
variable {X:Cx}{e:cH}{p pos pk kp:Pos}{ck:Nat}{f:bZ}
def LS [Mem] (hc:X.calm=true) (hu:X.A.units+64<cLine) (hg:Gl X "min") (hm:X.mg "min"=none) (ha:WO X e f)
  (he:backTo pos (starEach [e] X.env)=(false,eval e X.env)::backTo pos (starEach [] X.env):=by rfl):
  WD X (.Call (.Name "min" p) [e] [⟨some "default",.Constant .none ck pk,kp⟩] pos) (wj f):=⟨by
 have ha:=ha.go;intro cM s σ H Q I ⟨C,δ,d,x,q,k⟩;unfold wj at q;split at q
 case h_2=>cases q
 rename_i ds hf;split at q
 case isFalse=>cases q
 rename_i YX;cases hn:intsOf ds with
 |none=>rw[hn]at q;cases q
 |some ns=>
  rw[hn]at q;have ee:=jz hn;subst ee;rw[ae]at YX;refine wpAny_Call_Name_kw (kr I hg hm zu ?_);refine callWith_kw ?_ he (by rw[he];rfl) rfl rfl
  rw[he];refine Calls.spliced_cons (g7 (ha cM s σ H (λv H'=>∃C',Ev C H C' H'/\pL C' H' v (tupI ns)) I ⟨C,δ,_,x,hf,λv C' H' ev i=>⟨C',ev,i⟩⟩) λu s1 ⟨v1,H1,I1,r1,C1,Mr,i1⟩=>?_)
  refine Calls.spliced_nil ?_;refine kws_cons (g7 (Mz (X:=X) (pos:=pk) cM s1 σ H1 (λv H'=>v=.eU/\H'=H1) I1 ⟨rfl,rfl⟩) λu2 s2 ⟨v2,H2,I2,r2,e1,e2⟩=>kws_nil ?_)
  subst e1 e2;cases r2;obtain⟨pa,xs,rfl,hq,l,yX⟩:=i1.tup (K:=X.K) Mr.s;cases r1;have lx:=l.lE;subst lx;obtain⟨dE,rv,pl,hz⟩:=I2.tuple hq;have hi:IntsAre dE ns:=intsAre_of rv;have hl:dE.length=ns.length:=hi.length;refine yc (items:=dE.toArray) (key:=λi=>ns.getD i 0) (min_def _ _) rfl (I2.ok.hd hc) pl (λS old jp i v h tk Q' E' hv kp hQ=>?_) (λhz'=>⟨_,rfl,λh' rE kp=>?_⟩) λi v h' rE hv hF kp=>?_
  ·obtain⟨t,rfl⟩:=hi.int_at i v (by simpa using hv)
   exact aa (aj (hQ t tk))
  ·have:ns=[]:=length_eq_zero_iff.mp (by rw[<-hl];simpa using hz')
   subst this;cases q;exact⟨.eU,_,I2.kept (t':=rE) kp,rfl,k _ C1 _ Mr .eU⟩
  ·have JI:dE[i]? =some v:=by simpa using hv
   have fP:i<ns.length:=by rw[<-hl];exact(List.getElem?_eq_some_iff.mp JI).1
   obtain⟨t,rfl⟩:=hi.int_at i v (by simpa using hv)
   cases ns with
   |nil=>simp at fP
   |cons a r=>
    cases q;obtain⟨m1,m2⟩:=rY (a::r) (by simp)
    have g1:(a::r).getD i 0=(a::r)[i]:=by rw[ak,ah fP];rfl
    have l1:=m2 _ (getElem_mem fP);obtain⟨j,hj,ej⟩:=getElem_of_mem m1;have l2:=(hF j (by rw[aq,hl];exact Nat.le_sub_one_of_lt hj)).1
    have g2:(a::r).getD j 0=(a::r)[j]:=by rw[ak,ah hj];rfl
    simp only[g1,g2,ej]at l2;have e3:(a::r).getD i 0=jf (a::r):=by rw[g1];omega
    exact⟨.int (jf (a::r)),_,I2.kept (t':=rE) kp,⟨t,by rw[e3]⟩,k _ C1 _ Mr (.int _)⟩⟩
end
def RS (d:D):Nat:=(xy d).getD 0
def BS (ds:cw) (i:Nat):Int:=(RS (ds.getD i .eU):Int)
def GF {d:D}{n:Nat}(h:xy d=some n):∃l,d=.tup l/\n=l.length:=by
 unfold xy at h;split at h
 ·cases h;exact⟨_,rfl,rfl⟩
 ·cases h
theorem sv:∀(r:cw) (j i n:Nat) (b:D),ds.drop (j+1)=r->ds[i]? =some b->xy b=some n->i<=j->j<ds.length->jo (BS ds) i j->lZ b n r=some d->
  (∃i',ds[i']? =some d/\jo (BS ds) i' (ds.length-1))/\∀x∈r,∃l,x=.tup l
 |[],j,i,n,b,hr,hb,hn,Fs,hj,hf,q=>by
  have e:lZ b n []=some b:=by unfold lZ;rfl
  rw[e]at q;cases q;have:ds.length<=j+1:=drop_eq_nil_iff.mp hr;exact⟨⟨i,hb,by rw[show ds.length-1=j by omega];exact hf⟩,λx hx=>by cases hx⟩
 |x::r,j,i,n,b,hr,hb,hn,Fs,hj,hf,q=>by
  have fP:j+1<ds.length:=by
   rcases Nat.lt_or_ge (j+1) ds.length with z|z
   ·exact z
   ·rw[drop_eq_nil_of_le z]at hr;cases hr
  rw[drop_eq_getElem_cons fP]at hr;injection hr with h1 h2
  have hx:ds[j+1]? =some x:=by rw[ah fP,h1]
  have kb:BS ds i=(n:Int):=by
   unfold BS RS;rw[ak,hb];show(((xy b).getD 0:Nat):Int)=_;rw[hn];rfl
  unfold lZ at q;cases hm:xy x with
  |none=>rw[hm]at q;cases q
  |some m=>
   rw[hm]at q;simp only[ao]at q;have kx:BS ds (j+1)=(m:Int):=by
    unfold BS RS;rw[ak,hx];show(((xy x).getD 0:Nat):Int)=_;rw[hm];rfl
   have tx:∃l,x=.tup l:=let ⟨l,e,_⟩:=GF hm;⟨l,e⟩;split at q
   ·rename_i lt;obtain⟨a1,a2⟩:=sv r (j+1) (j+1) m x h2 hx hm (au _) fP (λj' Ie=>by
     rcases Nat.lt_or_ge j' (j+1)with z|z
     ·have:=(hf j' (by omega)).1
      exact⟨by omega,λ_=>by omega⟩
     ·have:j'=j+1:=by omega
      subst this;exact⟨Int.le_refl _,λz=>absurd z (Nat.lt_irrefl _)⟩) q
    exact⟨a1,λy hy=>(mem_cons.mp hy).elim (λe=>by rw[e];exact tx) (a2 y)⟩
   ·rename_i lt;obtain⟨a1,a2⟩:=sv r (j+1) i n b h2 hb hn (by omega) fP (λj' Ie=>by
     rcases Nat.lt_or_ge j' (j+1)with z|z
     ·exact hf j' (by omega)
     ·have:j'=j+1:=by omega
      subst this;exact⟨by omega,λz=>by omega⟩) q
    exact⟨a1,λy hy=>(mem_cons.mp hy).elim (λe=>by rw[e];exact tx) (a2 y)⟩
def Jl (hi:i<=m) (DX:i'<=m) (h:jo key i m) (h':jo key i' m):i=i':=by
 have a:=h i' DX;have b:=h' i hi;rcases Nat.lt_trichotomy i i' with z|z|z
 ·have:=b.2 z;omega
 ·exact z
 ·have:=a.2 z;omega
def Jm (q:wg (.tup ds)=some d):0<ds.length/\(∀x∈ds,∃l,x=.tup l)/\ds.length<64/\∀i,i<ds.length->jo (BS ds) i (ds.length-1)->ds[i]? =some d:=by
 unfold wg at q;split at q
 ·rename_i b r e;cases e;split at q
  case isFalse=>cases q
  rename_i YX;cases hn:xy b with
  |none=>rw[hn]at q;cases q
  |some n=>
   rw[hn]at q;simp only[ao]at q;obtain⟨⟨i',e1,e2⟩,a2⟩:=sv (ds:=b::r) r 0 0 n b rfl rfl hn (au _) (by simp) (λj' Ie=>by
    have:j'=0:=by omega
    subst this;exact⟨Int.le_refl _,λz=>absurd z (Nat.lt_irrefl _)⟩) q
   refine⟨by simp,λx hx=>?_,by simp;omega,λi hi hf=>?_⟩
   ·rcases mem_cons.mp hx with rfl|hx
    ·obtain⟨l,e,_⟩:=GF hn;exact⟨l,e⟩
    ·exact a2 x hx
   ·have DX:i'<(b::r).length:=(List.getElem?_eq_some_iff.mp e1).1;rw[Jl (by omega) (by omega) hf e2]
    exact e1
 ·cases q
section
variable {X:Cx}{e:cH}{p pos pk kp:Pos}{f:bZ}
def LU [Mem] (hc:X.calm=true) (hu:X.A.units+64<cLine) (hg:Gl X "min") (hm:X.mg "min"=none) (ZQ:Gl X "len") (NJ:X.mg "len"=none) (ha:WO X e f)
  (he:backTo pos (starEach [e] X.env)=(false,eval e X.env)::backTo pos (starEach [] X.env):=by rfl):
  WD X (.Call (.Name "min" p) [e] [⟨some "key",.Name "len" pk,kp⟩] pos) (yR f):=⟨by
 have ha:=ha.go;intro cM s σ H Q I ⟨C,δ,d,x,q,k⟩;unfold yR at q;cases hf:f δ with
 |none=>rw[hf]at q;cases q
 |some d0=>
  rw[hf]at q;simp only[ao]at q;obtain⟨ds,rfl⟩:∃ds,d0=.tup ds:=by
   unfold wg at q;split at q
   ·exact⟨_,rfl⟩
   ·cases q
  obtain⟨n0,aaM,n64,hfl⟩:=Jm q;refine wpAny_Call_Name_kw (kr I hg hm zu ?_);refine callWith_kw ?_ he (by rw[he];rfl) rfl rfl
  rw[he];refine Calls.spliced_cons (g7 (ha cM s σ H (λv H'=>∃C',Ev C H C' H'/\pL C' H' v (.tup ds)) I ⟨C,δ,.tup ds,x,hf,λv C' H' ev i=>⟨C',ev,i⟩⟩) λu s1 ⟨v1,H1,I1,r1,C1,Mr,i1⟩=>?_)
  refine Calls.spliced_nil ?_;refine kws_cons (kr I1 ZQ NJ iG (kws_nil ?_));obtain⟨pa,xs,rfl,hq,l,yX⟩:=i1.tup (K:=X.K) Mr.s;cases r1;obtain⟨dE,rv,pl,hz⟩:=I1.tuple hq;have lx:=rv.length;have ld:=l.length;have itemAt:∀(i:Nat) (v:cy),dE.toArray[i]? =some v->∃(w:V) (a:cG) (zs:cx) (es:cw),xs[i]? =some w/\ds[i]? =some (.tup es)/\RelV w v/\v=.ref a/\IsTup s1.heap a zs.toArray/\zs.length=es.length/\zs.length<=sizeLine:=λi v hv=>by
   have JI:dE[i]? =some v:=by simpa using hv
   have hi:i<dE.length:=(List.getElem?_eq_some_iff.mp JI).1;obtain⟨w,hw⟩:∃w,xs[i]? =some w:=⟨_,ah (by omega)⟩
   obtain⟨u',e1,e2⟩:=rv.get hw;rw[JI]at e1;cases e1;obtain⟨di,e3,e4⟩:=l.get' hw;obtain⟨es,rfl⟩:=aaM di (bh e3);cases e4 with
   |@tup a ws _ ha lw=>
    cases e2;obtain⟨zs,rz,pz,zz⟩:=I1.tuple (mB.of (K:=X.K) (Mr.s _ _ ha));exact⟨_,a,zs,es,hw,e3,rfl,rfl,pz,by rw[<-rz.length,lw.length],by rw[<-rz.length];exact zz⟩
  refine yc (items:=dE.toArray) (key:=BS ds) (kmb_min_key _ _) rfl (I1.ok.hd hc) pl (λS old jp i v h tk Q' E' hv kp hQ=>aa (wpAny_tryCatch (bj ?_))) (λz=>absurd z (by rw[aq];omega)) λi v h' rE hv hF kp=>?_
  ·obtain⟨w,a,zs,es,e1,e2,e3,rfl,e5,e6,e7⟩:=itemAt i v hv;have ek:BS ds i=(zs.toArray.size:Int):=by
    unfold BS RS;rw[ak,e2];show((es.length:Nat):Int)=_;rw[aq,e6]
   have pz:IsTup h a zs.toArray:=let ⟨o,ho,r⟩:=e5;⟨o,kp _ _ ho,r⟩;rw[ek]at hQ;exact len_tuple (s:={s1 with heap:=h,toks:=tk}) pz (by rw[aq];rw[bu]at e7;omega) (hQ _ _)
  ·obtain⟨w,a,zs,es,e1,e2,e3,rfl,e5,e6,e7⟩:=itemAt i v hv;have hi:i<ds.length:=(List.getElem?_eq_some_iff.mp e2).1;have hz':dE.toArray.size-1=ds.length-1:=by rw[aq];omega
   rw[hz']at hF;have hd:=hfl i hi hF;rw[e2]at hd;cases hd;obtain⟨d2,g1,g2⟩:=l.get' e1;rw[e2]at g1;cases g1;exact⟨w,H1,I1.kept (t':=rE) kp,e3,k w C1 H1 Mr g2⟩⟩
end
structure qx (K:W.Frag) (x:Str) (st:cI):Prop where
 ex:∃f fd,W.nsIn K mainGlobals x=some (some (.ref f))/\jW K x x st f fd
structure VS (K:W.Frag) (C:cG) (g k x q:Str) (st:cI):Prop where
 ex:∃f fd,jW K x q st f fd/\Meth K C x f/\x≠g/\x≠k
section
variable {K:W.Frag}{C:cG}{x q gn kn:Str}{st:cI}{f:cG}{fd:cB}{oc:cy}{od an:cq}{sl:cu}{kV doc pm fD ct:cy}
def Vi (a:W.nsIn K mainGlobals x=some (some (.ref f))) (l:K.lookup f=some ⟨oc,od,.func (W.fnOf x x (ky st) (fO st) (cY st) .none kV doc pm an fD ct),sl⟩) (c:W.codeIn K fD x=true) (k:W.keepIn K (.ref f)=true):qx K x st:=⟨⟨f,_,a,M5 l c k⟩⟩
def Vj (a:W.findIn K (.ref C) x=some (some (.ref f))) (i:W.isFn K (.ref f)=true) (l:K.lookup f=some ⟨oc,od,.func (W.fnOf x q (ky st) (fO st) (cY st) .none kV doc pm an fD ct),sl⟩) (c:W.codeIn K fD q=true) (k:W.keepIn K (.ref f)=true) (n:x≠gn/\x≠kn):VS K C gn kn x q st:=⟨⟨f,_,M5 l c k,⟨a,i,k⟩,n⟩⟩
def qx.get (p:qx K x st) (X:K.In h) (G:h.Ns mainGlobals mg):∃f fd,mg x=some (.ref f)/\jW K x x st f fd/\∀{c P:cG},W.tabIn K x=some (c,P)->fd.code=.ref c:=
 let ⟨f,fd,a,F⟩:=p.ex;⟨f,fd,aO X G a,F,λt=>let ⟨_,_,_,_,_,_,_,_,_,_,l,_⟩:=F.ex;OM a l t⟩
def sy (F:jW K x q st f fd) (h:∀kV doc pm an fD ct u,bindArgs (W.fnOf x q (ky st) (fO st) (cY st) .none kV doc pm an fD ct) ⟨[u],[]⟩=pure [(a,u)]:=by intros;rfl):Binds K fd [a] []:=F.binds λ_ _ _ _ _ _ us hl=>match us,hl with|[_],_=>h ..
def iA (F:jW K x q st f fd) (h:∀kV doc pm an fD ct u v,bindArgs (W.fnOf x q (ky st) (fO st) (cY st) .none kV doc pm an fD ct) ⟨[u,v],[]⟩=pure [(a,u),(b,v)]:=by intros;rfl):Binds K fd [a,b] []:=F.binds λ_ _ _ _ _ _ us hl=>match us,hl with|[_,_],_=>h ..
def oJ (F:jW K x q st f fd) (h:∀kV doc pm an fD ct u v w,bindArgs (W.fnOf x q (ky st) (fO st) (cY st) .none kV doc pm an fD ct) ⟨[u,v,w],[]⟩=pure [(a,u),(b,v),(c,w)]:=by intros;rfl):Binds K fd [a,b,c] []:=F.binds λ_ _ _ _ _ _ us hl=>match us,hl with|[_,_,_],_=>h ..
def uX (F:jW K x q st f fd) (h:∀kV doc pm an fD ct u v w z,bindArgs (W.fnOf x q (ky st) (fO st) (cY st) .none kV doc pm an fD ct) ⟨[u,v,w,z],[]⟩=pure [(a,u),(b,v),(c,w),(d,z)]:=by intros;rfl):Binds K fd [a,b,c,d] []:=F.binds λ_ _ _ _ _ _ us hl=>match us,hl with|[_,_,_,_],_=>h ..
def Vk {a b c d e:Str}(F:jW K x q st f fd) (h:∀kV doc pm an fD ct u v w z y,bindArgs (W.fnOf x q (ky st) (fO st) (cY st) .none kV doc pm an fD ct) ⟨[u,v,w,z,y],[]⟩=pure [(a,u),(b,v),(c,w),(d,z),(e,y)]:=by intros;rfl):Binds K fd [a,b,c,d,e] []:=F.binds λ_ _ _ _ _ _ us hl=>match us,hl with|[_,_,_,_,_],_=>h ..
end
end DL
namespace GP
open DL
noncomputable def sel:Nat->List (cn)->List (cn)
 |0,_=>[[]]
 |_+1,[]=>[]
 |k+1,s::r=>(s.flatMap λo=>(sel k r).map (o:: ·))++sel (k+1) r
noncomputable def GG (p:cp->Bool) (S:List (cn)):cn:=S.filterMap λs=>s.find? p
theorem Kx (p:cp->Bool):∀S,GG p S∈sel (GG p S).length S
 |[]=>by simp[GG,sel]
 |s::r=>by
  have ih:=Kx p r;unfold GG at ih ⊢;rw[filterMap_cons];cases h:s.find? p with
  |none=>
   show _∈sel _ (s::r);cases q:(r.filterMap λs=>s.find? p)with
   |nil=>simp[sel]
   |cons a b=>
    rw[q]at ih;exact mem_append.mpr (.inr ih)
  |some o=>exact mem_append.mpr (.inl (mem_flatMap.mpr ⟨o,mem_of_find?_eq_some h,mem_map.mpr ⟨_,ih,rfl⟩⟩))
theorem Ky (p:cp->Bool):∀S,(GG p S).Sublist S.flatten
 |[]=>nil_sublist _
 |s::r=>by
  have ih:=Ky p r;unfold GG at ih ⊢;rw[filterMap_cons,flatten_cons];cases h:s.find? p with
  |none=>exact ih.trans (sublist_append_right _ _)
  |some o=>exact(singleton_sublist.mpr (mem_of_find?_eq_some h)).append ih
noncomputable def M8 (n:Nat) (v:List Nat):List Nat:=v.zipWith (·+·) (0::v.map (n*·))
def Vl:List (cn)->List Nat
 |[]=>[1,0,0,0,0,0,0]
 |s::r=>M8 s.length (Vl r)
theorem GH:∀S:List (cn),(List.range 7).map (λk=>(sel k S).length)=Vl S
 |[]=>rfl
 |s::r=>by
  have ih:=GH r;show _=M8 s.length (Vl r);rw[<-ih];have z:∀S,sel 0 S=[[]]:=λS=>by cases S<;>rfl
  have e:∀k,(sel (k+1) (s::r)).length=(sel (k+1) r).length+s.length*(sel k r).length:=λk=>by
   simp only[sel,aQ,length_flatMap,ae];rw[map_const',sum_replicate_nat];omega
  simp[List.range,List.range.loop,M8,e,z]
noncomputable def slots:List (cn):=[[[0,1,2],[0,1,2,3]],[[0,1,3],[0,1,3,5]],[[0,1,4],[0,1,3,4]],[[0,1,5],[0,1,2,5]],[[0,2,3],[0,2,3,5]],[[0,2,4],[0,1,2,4]],[[0,2,5],[0,2,4,5]],[[0,3,4],[0,2,3,4]],[[0,3,5],[0,3,4,5]],[[0,4,5],[0,1,4,5]],[[1,2,3],[1,2,3,4]],[[1,2,4],[1,2,4,5]],[[1,2,5],[1,2,3,5]],[[1,3,4],[1,3,4,5]],[[1,3,5]],[[1,4,5]],[[2,3,4],[2,3,4,5]],[[2,3,5]],[[2,4,5]],[[3,4,5]],[[0,1]],[[0,2]],[[0,3]],[[0,4]],[[0,5]],[[1,2]],[[1,3]],[[1,4]],[[1,5]],[[2,3]],[[2,4]],[[2,5]],[[3,4]],[[3,5]],[[4,5]]]
def Pd:List (cn):=(List.range 7).flatMap λk=>sel k slots
def Pe:Pd.length=15177996:=by
 unfold Pd;rw[length_flatMap,GH]
 decide
structure HK (L:cn):Prop where
 rise:∀l∈L,eR l
 S8:∀l∈L,∀p∈l,0<=p/\p<6
 four:∀l∈L,l.length<=4
 lex:L.Pairwise λa b=>HT.lexLt a b=true
 Lp:∀l∈L,∀k∈L,(∀p∈k,p∈l)->k=l
 vR:L.length<=6
def wm (L:cn):Prop:=∀l∈L,2<=l.length
def GI (L:cn):cn:=GG (λl=>decide (l∈L)) slots
def LV:∀l∈comb 2 (dD 0 6)++comb 3 (dD 0 6)++comb 4 (dD 0 6),∃s∈slots,l∈s:=by decide +kernel
def Jn:∀s∈slots,∀a∈s,∀b∈s,(∀p∈a,p∈b)\/(∀p∈b,p∈a):=by decide +kernel
def Pf:slots.flatten.Nodup:=by decide +kernel
def HK.slot (h:HK L) (g:wm L) (hl:l∈L):∃s∈slots,l∈s:=by
 refine LV l ?_;have h2:=g l hl;have h4:=h.four l hl;have sb:l.Sublist (dD 0 6):=Gp (h.rise l hl) (ji _ _) λx hx=>(LW.g8 6 0 x).mpr (by have:=h.S8 l hl x hx;omega)
 rcases(by omega:l.length=2\/l.length=3\/l.length=4)with q|q|q
 ·exact mem_append.mpr (.inl (mem_append.mpr (.inl (mT 2 _ _ sb q))))
 ·exact mem_append.mpr (.inl (mem_append.mpr (.inr (mT 3 _ _ sb q))))
 ·exact mem_append.mpr (.inr (mT 4 _ _ sb q))
def AD (h:HK L) (g:wm L) (l:cp):l∈GI L↔l∈L:=by
 unfold GI GG;rw[mem_filterMap];constructor
 ·rintro⟨s,hs,e⟩
  simpa using find?_some e
 ·intro hl;obtain⟨s,hs,ls⟩:=h.slot g hl;refine⟨s,hs,?_⟩;cases q:s.find? λl=>decide (l∈L)with
  |none=>exact absurd (find?_eq_none.mp q l ls) (by simpa using hl)
  |some k=>
   have hk:k∈L:=by simpa using find?_some q
   rcases Jn s hs k (mem_of_find?_eq_some q) l ls with z|z
   ·rw[h.Lp l hl k hk z]
   ·rw[h.Lp k hk l hl z]
def Ew (h:HK L) (g:wm L):GI L∈Pd:=by
 unfold Pd;refine mem_flatMap.mpr ⟨(GI L).length,?_,Kx _ _⟩;have nd:(GI L).Nodup:=Pf.sublist (Ky _ _);have:=bV nd (λl hl=>(AD h g l).mp hl)
 have:=h.vR;rw[mem_range];omega
def Pg (h:HK L) (g:wm L) (h':HK Kf) (g':wm Kf) (e:GI L=GI Kf):L=Kf:=
 En h.lex h'.lex λa=>by rw[<-AD h g,<-AD h' g',e]
def Ph {α:Type} [BEq α] [LawfulBEq α] {l:List α}{a b:α}(ha:a∈l) (hb:b∈l) (e:l.idxOf a=l.idxOf b):a=b:=by
 have h1:=getElem_idxOf (idxOf_lt_length_iff.mpr ha);have h2:=getElem_idxOf (idxOf_lt_length_iff.mpr hb);rw[<-h1,<-h2];simp only[e]
def S9 (L:cn):ow (.tup (L.map tupI))=true/\eV (.tup (L.map tupI))<=4:=by
 have:=Eo L 0;unfold xp at this;constructor
 ·have:=this.1;simp only[ow,nV,Bool.and_eq_true]at this ⊢;exact this.1
 ·have:=this.2;simp only[eV,jO]at this ⊢;omega
def jq:eM:=mkM (λL:cn=>HK L/\wm L/\¬ OV L) (λL=>.tup (L.map tupI)) (λ_=>.bl true) (λL=>Pd.idxOf (GI L)) 15177996 (by decide)
 (λL h=>by rw[<-Pe];exact idxOf_lt_length_iff.mpr (Ew h.1 h.2.1))
 (λL K h h' e=>by rw[Pg h.1 h.2.1 h'.1 h'.2.1 (Ph (Ew h.1 h.2.1) (Ew h'.1 h'.2.1) e)])
 S9
def Vm (h:HK L) (g:wm L) (n:¬ OV L):jq.W (.tup (L.map tupI))=some (.bl true):=Kk (ok:=λL=>HK L/\wm L/\¬ OV L) (k:=λL=>.tup (L.map tupI)) (v:=λ_=>.bl true) (p:=L) ⟨h,g,n⟩ λ_ _=>rfl
def Vn (n:OV L):jq.W (.tup (L.map tupI))=none:=if_neg λ⟨p,z,e⟩=>z.2.2 (Ak (D.tup.inj e)▸n)
def HK.open {L:cn}(hr:∀l∈L,eR l) (hd:∀l∈L,∀p∈l,0<=p/\p<6) (h4:∀l∈L,l.length<=4) (h6:L.length<=6) (m y:cp):HK (fA L m y)where
 rise:=mU hr
 S8:=λl hl p hp=>by
  obtain⟨k,hk,_,rfl⟩:=eS.mp (fB.mp hl).1;exact hd k hk p (dY.mp hp).1
 four:=λl hl=>by
  obtain⟨k,hk,_,rfl⟩:=eS.mp (fB.mp hl).1;exact aD (aW _ _) (h4 k hk)
 lex:=Aj L m y
 Lp:=λl hl k hk s=>(fB.mp hl).2 k (fB.mp hk).1 s
 vR:=by
  unfold fA LO;refine aD (aW _ _) ?_;rw[(eY _).length_eq];refine aD (yQ _ _ (au _)) ?_;unfold fZ;rw[ae];exact aD (aW _ _) h6
def HK.rest (h:HK L) (c:cp):HK (nZ L c):=
 HK.open (λl hl=>h.rise l (mem_filter.mp hl).1) (λl hl=>h.S8 l (mem_filter.mp hl).1) (λl hl=>h.four l (mem_filter.mp hl).1) (aD (aW _ _) h.vR) c []
end GP
namespace K6
open DL GP PW
def Ql:cw->eM:=λ_=>jq
end K6
namespace K6
open DL GP PC PW
open LW (eC fL)
open L2 (mE E6)
def uu:bY:=
  (eh (cU By (cN (dL (ei (wG (cN (dw rN (cU hX (cN (df 0) cT)) (dC (.int 1))) cT)) 1 lS (dw Lm (dw gK (df 0) (df 1)) (dw gK (df 0) (dw kZ (df 1) (dC (.int 1))))))) cT)))
def mM:bY:=
  uu
def jr:cc:=gz 2 1 mM
def GJ:bY:=
  (eh (dC (.bl false)))
def sA:bY:=
  (kW (Cr (lR (qB (w5 "tuple" (df 0)))) (qB (dw nS (cU hX (cN (df 0) cT)) (dC (.int 0))))) GJ fW)
def yd:bY:=
  (eh (DQ (cU By (cN (dL (ei (iT (cW 0)) 2 lS (cU lX (cN (cW 2) (cN (dC (.int 0)) (cN (dw rN (df 1) (dC (.int 1))) cT)))))) cT)) (cU jr (cN (cW 0) cT))))
def qz:bY:=
  (dH sA
  yd)
def pB:cc:=gz 3 2 qz
def ye:bY:=
  (eh (DQ (cU pB (cN (cW 0) (cN (cW 1) cT))) (dw nS (cU hX (cN (df 0) cT)) (dC (.int 2)))))
def qA:bY:=
  ye
def mV:cc:=gz 2 2 qA
def uv:bY:=
  (gQ 1 (dw wZ (dL (ei (iT (cW 0)) 2 lS (dw gK (df 2) (dC (.int 0))))) (dL (ei (iT (cW 0)) 2 lS (dw gK (df 2) (dC (.int 1)))))))
def uw:bY:=
  (eh (dw nS (nA (df 1)) (cU hX (cN (df 1) cT))))
def mN:bY:=
  (dH uv
  (hO 1 uw))
def l4:cc:=gz 3 1 mN
def wo:bY:=
  (eh (cU Io (cN (dL (ei (iT (cW 1)) 2 lS (cU jD (cN (cW 0) (cN (cW 2) cT))))) cT)))
def oi:bY:=
  wo
def nB:cc:=gz 3 2 oi
def sC:bY:=
  (eh (cU By (cN (dL (ei (iT (cW 0)) 2 lS (cU nB (cN (cW 2) (cN (cW 1) cT))))) cT)))
def lK:bY:=
  sC
def gW:cc:=gz 3 2 lK
def pC:bY:=
  (i6 2 (cW 1))
def pD:bY:=
  (i6 4 (cU i7 (cN (dL (ei (iT (cW 2)) 5 (qB (dw rP (df 5) (df 3))) (cW 5))) cT)))
def xA:bY:=
  (i6 2 (cW 4))
def pE:bY:=
  (kW (qB (cU gW (cN (cW 0) (cN (cW 4) cT)))) xA fW)
def gX:bY:=
  (dH pD
  pE)
def pF:bY:=
  (kz 3 (iT (cW 1)) gX)
def xB:bY:=
  (eh (cW 2))
def jV:bY:=
  (dH pC
  (dH pF
  xB))
def js:cc:=gz 6 2 jV
def BU (M:eM) (dt:cc):bY:=
  (eh (fV cT))
def lL (M:eM) (dt:cc):bY:=
  (kW (qB (dw nS (cU hX (cN (df 0) cT)) (dC (.int 0)))) (BU M dt) fW)
def ux (M:eM) (dt:cc):bY:=
  (i6 2 (yR (df 0)))
def uy (M:eM) (dt:cc):bY:=
  (eh (dC .eU))
def uz (M:eM) (dt:cc):bY:=
  (gQ 4 (ei (iT (cW 0)) 6 (lR (qB (cU jD (cN (cW 6) (cN (cW 3) cT))))) (cW 6)))
def uA (M:eM) (dt:cc):bY:=
  (i6 5 (zJ 1 Ql dt M (cN (cU eT (cN (cW 4) (cN (cW 3) (cN (fV cT) cT)))) cT)))
def BV (M:eM) (dt:cc):bY:=
  (eh (dw lh (fV (cN (cW 3) cT)) (df 5)))
def oK (M:eM) (dt:cc):bY:=
  (kW (qB (dw HZ (df 5) (dC .eU))) (BV M dt) fW)
def f7 (M:eM) (dt:cc):bY:=
  (dH (uz M dt)
  (hO 4 (dH (uA M dt)
  (oK M dt))))
def lM (M:eM) (dt:cc):bY:=
  (kz 3 (iT (cU (ft 5) (cN (cW 2) (cN (dC (.int 2)) cT)))) (f7 M dt))
def nC (M:eM) (dt:cc):bY:=
  (lV M 1 (cW 0) (dC (.bl true)))
def AE (M:eM) (dt:cc):bY:=
  (eh (dC .eU))
def iB (M:eM) (dt:cc):bY:=
  (dH (lM M dt)
  (dH (nC M dt)
  (AE M dt)))
def jG (M:eM) (dt:cc):bY:=
  (dH (lL M dt)
  (dH (ux M dt)
  (Di M 1 (qB (dw Lm (cU hX (cN (df 2) cT)) (dC (.int 2)))) (cW 0) (uy M dt) (iB M dt))))
def iD:Nat->cc
 |0=>λ_=>none
 |n+1=>CJ 7 2 1 Ql (λM=>jG M (iD n))
def yf:bY:=
  (i6 1 (cU (iD 8) (cN (cU eT (cN (dw gK (df 0) (dC (.int 1))) (cN (fV cT) (cN (fV cT) cT)))) cT)))
def GK:bY:=
  (eh (dC .eU))
def sD:bY:=
  (kW (qB (dw YF (df 1) (dC .eU))) GK fW)
def yg:bY:=
  (eh (cU js (cN (dw gK (df 0) (dC (.int 1))) (cN (cU i7 (cN (dL (eP gH (cN (df 1) cT))) cT)) cT))))
def qC:bY:=
  (dH yf
  (dH sD
  yg))
def kf:cc:=gz 2 1 qC
def AF:bY:=
  (eh (dC (.bl false)))
def sE:bY:=
  (kW (lR (qB (w5 "tuple" (df 1)))) AF fW)
def AG:bY:=
  (eh (dC (.bl false)))
def kQ:bY:=
  (kW (lR (qB (cU By (cN (dL (ei (iT (cW 1)) 2 lS (cU mV (cN (cW 2) (cN (dw gK (df 0) (dC (.int 0))) cT))))) cT)))) AG fW)
def sF:bY:=
  (eh (DQ (cU jr (cN (cW 1) cT)) (DQ (cU l4 (cN (cW 1) cT)) (cU gW (cN (dw gK (df 0) (dC (.int 1))) (cN (cW 1) cT))))))
def lN:bY:=
  (dH sE
  (dH kQ
  sF))
def gu:cc:=gz 3 2 lN
def GL:bY:=
  (eh (VI (qB (dw nS (df 1) (dw gK (df 2) (dC (.int 0))))) (dw gK (df 2) (dC (.int 1))) (dw gK (df 2) (dC (.int 0)))))
def sG:bY:=
  (kW (qB (dw uN (df 1) (df 2))) GL fW)
def gY:bY:=
  sG
def sH:bY:=
  (kz 2 (iT (cW 0)) gY)
def GN:bY:=
  (eh (dC .eU))
def qD:bY:=
  (dH sH
  GN)
def lC:cc:=gz 3 2 qD
def Dj:bY:=
  (i6 5 (cU jP (cN (cW 0) (cN (cW 2) (cN (cW 3) cT)))))
def Dk:bY:=
  (i6 6 (cU lC (cN (cW 1) (cN (cW 4) cT))))
def LX:bY:=
  (eh (cW 6))
def tU:bY:=
  (kW (qB (dw uN (df 6) (df 5))) LX fW)
def Dl:bY:=
  (eh (wj (df 5)))
def wq:bY:=
  (dH Dj
  (dH Dk
  (dH tU
  Dl)))
def qE:cc:=gz 7 5 wq
def sI:bY:=
  (eh (dw rP (dL (ei (iT (cW 1)) 2 (pQ (qB (dw uN (dw gK (df 2) (dC (.int 0))) (df 0))) (qB (dw uN (dw gK (df 2) (dC (.int 1))) (df 0)))) (cW 2))) (dL (rO cT))))
def lO:bY:=
  sI
def jH:cc:=gz 3 2 lO
def t6:bY:=
  (eh (dC (.bl false)))
def mv:bY:=
  (kW (lR (qB (w5 "tuple" (df 1)))) t6 fW)
def mw:bY:=
  (gQ 2 (rO cT))
def t7:bY:=
  (eh (dC (.bl false)))
def ie:bY:=
  (kW (Cr (lR (qB (w5 "tuple" (df 3)))) (qB (dw rP (cU hX (cN (df 3) cT)) (dC (.int 2))))) t7 fW)
def t8:bY:=
  (eh (dC (.bl false)))
def ig:bY:=
  (kW (qT (dL (ei (iT (cW 3)) 4 (Cr (qB (w5 "bool" (df 4))) (qB (GC (df 4) (cN (dw gK (df 0) (dC (.int 0))) cT)))) (cW 4)))) t8 fW)
def t9:bY:=
  (eh (dC (.bl false)))
def ij:bY:=
  (kW (qB (dw W5 (dw gK (df 3) (dC (.int 0))) (dw gK (df 3) (dC (.int 1))))) t9 fW)
def l6:bY:=
  (gQ 2 (dw wZ (df 2) (dL (eP zr (cN (df 3) cT)))))
def fI:bY:=
  (dH ie
  (dH ig
  (dH ij
  (dH l6
  (hO 2 fW)))))
def jt:bY:=
  (kz 3 (iT (cW 1)) fI)
def sJ:bY:=
  (eh (dC (.bl false)))
def f9:bY:=
  (kW (Cr (qB (dw rP (dL (eP zr (cN (df 1) cT))) (dL (eP gH (cN (df 1) cT))))) (qB (dw rP (nA (df 2)) (cU hX (cN (df 2) cT))))) sJ fW)
def ju:bY:=
  (eh (dw nS (dL (ei (iT (dw gK (df 0) (dC (.int 1)))) 5 (lR (qB (cU jH (cN (cW 5) (cN (cW 1) cT))))) (cW 5))) (dL (rO cT))))
def iK:bY:=
  (dH mv
  (dH mw
  (hO 2 (dH jt
  (dH f9
  ju)))))
def eB:cc:=gz 6 2 iK
def Ex (dW:cc):bY:=
  (eh (dL (rO (cN (fV cT) cT))))
def Ey (dW:cc):bY:=
  (kW (qB (dw Lm (cU hX (cN (df 0) cT)) (dC (.int 2)))) (Ex dW) fW)
def Ez (dW:cc):bY:=
  (i6 1 (cU dW (cN (dL (Ib (df 0) (uP (dC (.int 1))) Mp)) cT)))
def EA (dW:cc):bY:=
  (gQ 3 (dw wZ (dL (Ib (df 0) (uP (dC (.int 1))) (uP (df 2)))) (dL (Ib (df 0) (uP (dw kZ (df 2) (dC (.int 1)))) Mp))))
def EB (dW:cc):bY:=
  (gQ 1 (dw wZ (df 1) (dL (ei (iL (cU dW (cN (cW 3) cT))) 4 lS (dw lh (fV (cN (fV (cN (dw gK (df 0) (dC (.int 0))) (cN (dw gK (df 0) (df 2)) cT))) cT)) (df 4))))))
def uB (dW:cc):bY:=
  (dH (EA dW)
  (hO 3 (dH (EB dW)
  (hO 1 fW))))
def EC (dW:cc):bY:=
  (kz 2 (ZI (cN (dC (.int 1)) (cN (cU hX (cN (df 0) cT)) cT))) (uB dW))
def ED (dW:cc):bY:=
  (eh (cW 1))
def sL (dW:cc):bY:=
  (dH (Ey dW)
  (dH (Ez dW)
  (dH (EC dW)
  (ED dW))))
def nD:Nat->cc
 |0=>λ_=>none
 |n+1=>gz 5 1 (sL (nD n))
def uC (dk:cc):bY:=
  (i6 4 (fV (cN (cW 0) (cN (dC (.int 0)) (cN (dC (.int 1)) (cN (dC (.int 1)) cT))))))
def BW (dk:cc):bY:=
  (eh (dC (.bl false)))
def oM (dk:cc):bY:=
  (kW (qB (dw nS (cU j9 (cN (cW 4) (cN (cW 2) (cN (cW 3) cT)))) (dC (.int 0)))) (BW dk) fW)
def uD (dk:cc):bY:=
  (i6 6 (cU i7 (cN (dL (eP iP (cN (dw lh (df 2) (df 5)) cT))) cT)))
def uE (dk:cc):bY:=
  (i6 7 (cU qE (cN (cW 0) (cN (cW 1) (cN (cW 6) (cN (cW 3) (cN (dw gK (df 5) (dC (.int 0))) cT)))))))
def uF (dk:cc):bY:=
  (i6 8 (cW 3))
def BX (dk:cc):bY:=
  (i6 8 (cU i7 (cN (dL (eP iP (cN (dw lh (df 3) (fV (cN (cW 7) cT))) cT))) cT)))
def oN (dk:cc):bY:=
  (kW (qB (dw HZ (df 7) (dC .eU))) (BX dk) fW)
def BY (dk:cc):bY:=
  (eh (dC (.bl false)))
def nE (dk:cc):bY:=
  (kW (lR (qB (cU dk (cN (cW 0) (cN (cW 1) (cN (cW 6) (cN (cW 8) cT))))))) (BY dk) fW)
def sM (dk:cc):bY:=
  (kW (qB (dw rP (df 5) (fV cT))) (dH (uD dk)
  (dH (uE dk)
  (dH (uF dk)
  (dH (oN dk)
  (nE dk))))) fW)
def jv (dk:cc):bY:=
  (sM dk)
def sN (dk:cc):bY:=
  (kz 5 (iL (cU g9 (cN (cW 4) (cN (cW 2) (cN (cW 3) (cN (dC (.int 0)) cT)))))) (jv dk))
def AH (dk:cc):bY:=
  (eh (dC (.bl true)))
def kR (dk:cc):bY:=
  (dH (uC dk)
  (dH (oM dk)
  (dH (sN dk)
  (AH dk))))
def gc:Nat->cc
 |0=>λ_=>none
 |n+1=>gz 9 4 (kR (gc n))
def Kz:bY:=
  (i6 2 (cU fL (cN (cW 1) (cN (dC (.int 1)) (cN (dC (.int 6)) (cN (dC (.int 6)) cT))))))
def KA:bY:=
  (i6 3 (cU (nD 8) (cN (dL (wG (cN (dw gK (df 2) (dC (.int 0))) cT))) cT)))
def EE:bY:=
  (gQ 4 (ei (iL (df 3)) 17 (qB (cU eB (cN (cW 2) (cN (cU i7 (cN (dL (eP gH (cN (df 17) cT))) cT)) cT)))) (cW 17)))
def EF:bY:=
  (i6 5 (cU kf (cN (cW 2) cT)))
def RT:bY:=
  (eh (dC (.bl false)))
def wt:bY:=
  (kW (qB (dw rP (dw YF (df 5) (dC .eU)) (Ks (df 4)))) RT fW)
def RU:bY:=
  (eh (dC (.bl false)))
def EG:bY:=
  (kW (Cr (qB (dw HZ (cU gu (cN (cW 2) (cN (cW 5) cT))) (dC (.bl true)))) (lR (qB (cU eB (cN (cW 2) (cN (cW 5) cT)))))) RU fW)
def RV:bY:=
  (eh (dC (.bl false)))
def GO:bY:=
  (kW (qB (cU eB (cN (cW 2) (cN (cU i7 (cN (dL (ei (iT (cW 5)) 17 (qB (dw rP (df 17) (df 6))) (cW 17))) cT)) cT)))) RV fW)
def sO:bY:=
  GO
def GQ:bY:=
  (kz 6 (iT (cW 5)) sO)
def Pj:bY:=
  (eh (dC (.bl false)))
def AI:bY:=
  (kW (pQ (qB (dw Lm (dw gK (df 2) (dC (.int 0))) (dC (.int 6)))) (lR (qB (cU (gc 7) (cN (cW 2) (cN (cW 5) (cN (fV cT) (cN (fV cT) cT)))))))) Pj fW)
def Pk:bY:=
  (eh (dC (.bl false)))
def AJ:bY:=
  (kW (Cr (qB (dw rP (cU pA (cN (fV (cN (cW 2) (cN (dC (.int 0)) (cN (dC (.int 1)) (cN (dC (.int 1)) cT))))) cT)) (dC (.int 1)))) (qB (dw rP (cU pA (cN (fV (cN (cW 2) (cN (dC (.int 1)) (cN (dC (.int 1)) (cN (dC (.int 1)) cT))))) cT)) (dC (.int 1))))) Pk fW)
def AK:bY:=
  (kW (qB (dw HZ (df 5) (dC .eU))) (dH EG
  (dH GQ
  (dH AI
  AJ))) fW)
def GR:bY:=
  (i6 7 (dw gK (df 3) (cU eC (cN (cW 1) (cN (dC (.int 9901)) (cN (cU hX (cN (df 3) cT)) cT))))))
def AL:bY:=
  (gQ 8 (rO (cN (cU i7 (cN (dL (eP gH (cN (df 7) cT))) cT)) (cN (D7 (df 7) (uP (dC (.int 1))) Mp) (cN (JZ (df 7)) (cN (dw lh (df 7) (D7 (df 7) Mp (uP (dC (.int 1))))) (cN (dL (eP zr (cN (df 7) cT))) cT)))))))
def GS:bY:=
  (i6 10 (cU gu (cN (cW 2) (cN (cW 9) cT))))
def Pl:bY:=
  (eh (dC (.bl false)))
def GU:bY:=
  (kW (Cr (lR (qB (w5 "bool" (df 10)))) (qB (dw rP (df 10) (cU eB (cN (cW 2) (cN (cW 9) cT)))))) Pl fW)
def sP:bY:=
  (dH GS
  GU)
def GV:bY:=
  (kz 9 (iL (dL (dw wZ (df 8) (dL (rO (cN (dC .eU) (cN (fV (cN (fV (cN (dC (.int 0)) cT)) cT)) (cN (fV (cN (fV (cN (dC (.int 1)) (cN (dC (.int 0)) cT))) cT)) cT)))))))) sP)
def GW:bY:=
  (gQ 12 (ei (iT (cW 7)) 6 (qB (dw uN (df 11) (df 6))) (dw rN (dw kZ (dw gK (df 6) (dC (.int 0))) (dw gK (df 6) (dC (.int 1)))) (df 11))))
def Pn:bY:=
  (eh (dC (.bl false)))
def AM:bY:=
  (kW (qB (dw rP (cU lC (cN (cW 7) (cN (cW 11) cT))) (dw gK (dL (dw wZ (df 12) (dL (rO (cN (dC .eU) cT))))) (dC (.int 0))))) Pn fW)
def GX:bY:=
  (gQ 13 (ei (wG (cN (dw gK (df 2) (dC (.int 0))) cT)) 17 (qB (dw rP (df 17) (df 11))) (cW 17)))
def GY:bY:=
  (i6 14 (cU i7 (cN (dL (ei (iL (df 13)) 17 (qB (dw nS (cU eC (cN (dw kZ (df 1) (df 17)) (cN (dC (.int 9887)) (cN (dC (.int 2)) cT)))) (dC (.int 0)))) (cW 17))) cT)))
def GZ:bY:=
  (gQ 15 (ei (iL (df 13)) 17 (qB (dw vq (df 17) (df 14))) (cW 17)))
def G0:bY:=
  (gQ 16 (dw wZ (dL (dw wZ (dL (ei (iL (df 12)) 17 (qB (dw uN (df 17) (df 15))) (cW 17))) (df 15))) (dL (rO (cN (dC .eU) cT)))))
def Po:bY:=
  (eh (dC (.bl false)))
def AN:bY:=
  (kW (qB (dw rP (cU qE (cN (cW 2) (cN (cW 7) (cN (fV (cN (cW 11) cT)) (cN (cW 14) (cN (cW 11) cT)))))) (dw gK (df 16) (dC (.int 0))))) Po fW)
def sQ:bY:=
  (dH GW
  (hO 12 (dH AM
  (dH GX
  (hO 13 (dH GY
  (dH GZ
  (hO 15 (dH G0
  (hO 16 AN))))))))))
def Pp:bY:=
  (kz 11 (wG (cN (dw gK (df 2) (dC (.int 0))) cT)) sQ)
def sR:bY:=
  (dH Kz
  (dH KA
  (dH EE
  (hO 4 (dH EF
  (dH wt
  (dH AK
  (dH GR
  (dH AL
  (hO 8 (dH GV
  Pp)))))))))))
def G1:bY:=
  (kz 1 (iL (dL (Ib (df 0) Mp (uP (dC (.int 2)))))) sR)
def Pq:bY:=
  (eh (dC (.bl true)))
def EH:bY:=
  (dH G1
  Pq)
def KC:cc:=gz 18 1 EH
def jw (h:wU i δ=δ'):hO i f δ=f δ':=by
 unfold hO;rw[h]
def AO (hf:f δ=some x) (hg:g δ=some xs):cN f g δ=some (x::xs):=by
 unfold cN;rw[hf,hg];rfl
def wu (hf:f δ=some (.lst a)) (hg:g δ=some (.lst b)) (h:a.length+b.length<=1000000):dw wZ f g δ=some (a++b):=by
 unfold dw;rw[hf,hg];exact if_pos h
def wx (h:f δ=some ds):dL f δ=some (.lst ds):=by
 unfold dL;rw[h];rfl
def KD (l:cp):xy (tupI l)=some l.length:=by
 show some (l.map D.int).length=_;rw[ae]
theorem xC:∀(L:cn) (b:cp),∃l,l∈b::L/\(∀k∈b::L,l.length<=k.length)/\lZ (tupI b) b.length (L.map tupI)=some (tupI l)
 |[],b=>⟨b,af,(λk hk=>by rw[br]at hk;subst hk;exact au _),rfl⟩
 |c::L,b=>by
  show ∃l,_/\_/\(xy (tupI c)).bind _=_;rw[KD];simp only[ao];split
  ·obtain⟨l,hl,h2,e⟩:=xC L c;refine⟨l,ai _ hl,λk hk=>?_,e⟩
   have:=h2 c af;rcases mem_cons.mp hk with rfl|hk
   ·omega
   ·exact h2 k hk
  ·obtain⟨l,hl,h2,e⟩:=xC L b;refine⟨l,?_,λk hk=>?_,e⟩
   ·rcases mem_cons.mp hl with rfl|hl
    ·exact af
    ·exact ai _ (ai _ hl)
   ·have:=h2 b af;rcases mem_cons.mp hk with rfl|hk
    ·exact this
    ·rcases mem_cons.mp hk with rfl|hk
     ·omega
     ·exact h2 k (ai _ hk)
def RW (h:L≠[]) (h6:L.length<=6):∃l∈L,(∀k∈L,l.length<=k.length)/\wg (.tup (L.map tupI))=some (tupI l):=by
 cases L with
 |nil=>exact absurd rfl h
 |cons b L=>
  obtain⟨l,hl,h2,e⟩:=xC L b;refine⟨l,hl,h2,?_⟩;show(if(L.map tupI).length<60 then(xy (tupI b)).bind _ else none)=_
  rw[if_pos (by rw[ae];simp at h6;omega),KD]
  exact e
def LY (L:cn):hX [.tup (L.map tupI)]=some (.int (L.length:Int)):=by
 show some (D.int ((L.map tupI).length:Int))=_;rw[ae]
def tV (l:cp):hX [tupI l]=some (.int (l.length:Int)):=by
 show some (D.int ((l.map D.int).length:Int))=_;rw[ae]
def Res (d:D) (L:cn):Prop:=(∃P,d=.tup (P.map tupI)/\Mt P/\xr L P/\YV L P/\P.length<=L.length)\/(d=.eU/\¬ OV L)
def Pr (hi:δ[i]? =some (.memo ks)) (hf:f δ=some ds):zJ i Ql g jq f δ=g ds:=by
 unfold zJ;rw[hi,hf];simp[Ql]
section
variable {rc:cc}{L:cn}{l:cp}
theorem KG (h:HK L) (hl:l∈L) (h2:2<=l.length) (hr:∀c∈nY 2 l,∃d,rc [.tup ((nZ L c).map tupI)]=some d/\Res d (nZ L c)):∀(cs:cn),(∀c∈cs,c∈nY 2 l)->∀(x3 x4 x5:Sl),
  (∃d,gp 3 (f7 jq rc) (cs.map tupI) [.dat (.tup (L.map tupI)),.memo [],cK l,x3,x4,x5,.no]=some (.ret d)/\Res d L/\d≠.eU)\/
  (∃y3 y4 y5,gp 3 (f7 jq rc) (cs.map tupI) [.dat (.tup (L.map tupI)),.memo [],cK l,x3,x4,x5,.no]=some (.next [.dat (.tup (L.map tupI)),.memo [],cK l,y3,y4,y5,.no])/\∀c∈cs,¬ OV (nZ L c))
 |[],_,x3,x4,x5=>.inr ⟨x3,x4,x5,rfl,λc hc=>by cases hc⟩
 |c::cs,hs,x3,x4,x5=>by
  have hc:=hs c af;obtain⟨d,ed,rd⟩:=hr c hc;have vf:=Jb (h.rise l hl) h2 hc;have e5:uz jq rc [.dat (.tup (L.map tupI)),.memo [],cK l,cK c,x4,x5,.no]=some (.next [.dat (.tup (L.map tupI)),.memo [],cK l,cK c,.own ((L.filter λl=> !fY l c).map tupI),x5,.no]):=by
   refine iz ?_;exact eW (ds:=L.map tupI) rfl (by rw[ae];have:=h.vR;omega) (fH L (λk _=>n5 (eN ((de rfl).trans (xt (by omega))))) λk _ _=>rfl)
  have e6:uA jq rc [.dat (.tup (L.map tupI)),.memo [],cK l,cK c,.dat (.lst ((L.filter λl=> !fY l c).map tupI)),x5,.no]=some (.next [.dat (.tup (L.map tupI)),.memo [],cK l,cK c,.dat (.lst ((L.filter λl=> !fY l c).map tupI)),.dat d,.no]):=by
   refine(gr ((Pr (ks:=[]) rfl (rf ?_)).trans ed)).trans rfl;refine(de rfl).trans (Eu (L:=L.filter λl=> !fY l c) (m:=c) (y:=[]) (.inr rfl) ?_ ?_)
   ·exact aD (aW _ _) (by have:=h.vR;omega)
   ·intro o ho;have:=h.four o (mem_filter.mp ho).1;omega
  have eb:f7 jq rc [.dat (.tup (L.map tupI)),.memo [],cK l,cK c,x4,x5,.no]=oK jq rc [.dat (.tup (L.map tupI)),.memo [],cK l,cK c,.dat (.lst ((L.filter λl=> !fY l c).map tupI)),.dat d,.no]:=by
   unfold f7;rw[LW.cS e5,jw (δ':=[.dat (.tup (L.map tupI)),.memo [],cK l,cK c,.dat (.lst ((L.filter λl=> !fY l c).map tupI)),x5,.no]) rfl,LW.cS e6]
  rcases rd with⟨P,rfl,hP,cv,iL,pl⟩|⟨rfl,na⟩
  ·refine .inl ⟨.tup ((c::P).map tupI),?_,?_,by simp⟩
   ·rw[aF];refine wb (j:=3) (δ:=[.dat (.tup (L.map tupI)),.memo [],cK l,x3,x4,x5,.no]) (eb.trans ?_);unfold oK;refine(kY (show _=some true from rfl)).trans ?_
    refine fC ((dM (o:=lh) (x:=.tup [tupI c]) (y:=.tup (P.map tupI)) rfl rfl).trans ?_);show(if _ then _ else _)=_
    rw[if_pos (by rw[ae];have:=h.vR;have:=Ao hl vf.2.2;simp;omega)]
    rfl
   ·obtain⟨m1,m2,m3⟩:=RI h.rise hl h2 hc hP cv iL;refine .inl ⟨c::P,rfl,m1,m2,m3,?_⟩;have:=Ao hl vf.2.2;simp;omega
  ·have nx:gp 3 (f7 jq rc) ((c::cs).map tupI) [.dat (.tup (L.map tupI)),.memo [],cK l,x3,x4,x5,.no]=gp 3 (f7 jq rc) (cs.map tupI) [.dat (.tup (L.map tupI)),.memo [],cK l,cK c,.dat (.lst ((L.filter λl=> !fY l c).map tupI)),.dat .eU,.no]:=by
    rw[aF];exact gj (j:=3) (δ:=[.dat (.tup (L.map tupI)),.memo [],cK l,x3,x4,x5,.no]) (eb.trans rfl)
   rw[nx];rcases KG h hl h2 hr cs (λc hc=>hs c (ai _ hc)) (cK c) (.dat (.lst ((L.filter λl=> !fY l c).map tupI))) (.dat .eU)with z|⟨y3,y4,y5,z,zn⟩
   ·exact .inl z
   ·refine .inr ⟨y3,y4,y5,z,λe he=>?_⟩
    rcases mem_cons.mp he with rfl|he
    ·exact na
    ·exact zn e he
def RX (h:HK L) (hr:∀k∈L,2<=k.length->∀c∈nY 2 k,∃d,rc [.tup ((nZ L c).map tupI)]=some d/\Res d (nZ L c)):
  ∃d,jG jq rc [.dat (.tup (L.map tupI)),.memo [],.no,.no,.no,.no,.no]=some (.ret d)/\Res d L:=by
 let s1:cp->gh:=λl=>[.dat (.tup (L.map tupI)),.memo [],cK l,.no,.no,.no,.no]
 let s0:gh:=[.dat (.tup (L.map tupI)),.memo [],.no,.no,.no,.no,.no]
 have ql:qB (dw nS (cU hX (cN (df 0) cT)) (dC (.int 0))) s0=some (decide (L.length=0)):=by
  refine eN ((dM (y:=.int 0) ((de rfl).trans (LY L)) rfl).trans ((lJ _ _).trans ?_))
  congr 2
  exact decide_eq_decide.mpr (by omega)
 unfold jG;by_cases h0:L=[]
 ·refine⟨.tup [],?_,.inl ⟨[],rfl,Mt.nil,(λk hk=>by subst h0;cases hk),(λc hc=>by cases hc),by simp⟩⟩
  refine f6 ?_;unfold lL;rw[kY (ql.trans (by rw[h0];rfl))]
  rfl
 ·have e2:lL jq rc s0=some (.next s0):=by
   unfold lL;rw[hV (ql.trans (by rw[aH λz=>h0 (length_eq_zero_iff.mp z)]))]
   rfl
  obtain⟨l,hl,hm,em⟩:=RW h0 h.vR;have e3:ux jq rc s0=some (.next (s1 l)):=
   gr (show yR (df 0) s0=some (tupI l)from em)
  rw[LW.cS e2,LW.cS e3];have q2:qB (dw Lm (cU hX (cN (df 2) cT)) (dC (.int 2))) (s1 l)=some (decide (l.length<2)):=by
   refine eN ((dM (o:=Lm) (y:=.int 2) ((de rfl).trans (tV l)) rfl).trans ?_);show some (D.bl (decide ((l.length:Int)<2)))=_
   congr 2
   exact decide_eq_decide.mpr (by omega)
  by_cases hs:l.length<2
  ·refine⟨.eU,?_,.inr ⟨rfl,λ⟨P,hP,cv⟩=>?_⟩⟩
   ·unfold Di;rw[q2,aR hs];rfl
   ·obtain⟨c,hc,IG⟩:=cv l hl;have:=bV (iJ (hP.rise c hc)) IG;have:=hP.two c hc;omega
  ·have g:wm L:=λk hk=>by have:=hm k hk;omega
   have it:iT (cU (ft 5) (cN (cW 2) (cN (dC (.int 2)) cT))) (s1 l)=some ((nY 2 l).map tupI):=by
    have:cU (ft 5) (cN (cW 2) (cN (dC (.int 2)) cT)) (s1 l)=some (.tup ((nY 2 l).map tupI)):=(de rfl).trans (xu 5 2 l (by decide) (by have:=h.four l hl;omega))
    unfold iT;rw[this]
   have key:=S9 L;have fin:∀d,iB jq rc (s1 l)=some (.ret d)->(jq.W (.tup (L.map tupI))=none\/d=.eU)->Di jq 1 (qB (dw Lm (cU hX (cN (df 2) cT)) (dC (.int 2)))) (cW 0) (uy jq rc) (iB jq rc) (s1 l)=some (.ret d):=λd hd hw=>by
    unfold Di;rw[q2,aH hs];refine Eq.trans (if_pos ⟨key.1,key.2,?_⟩) hd;rcases hw with hw|rfl
    ·exact .inl hw
    ·exact .inr ⟨.eU,rfl,hd⟩
   rcases KG h hl (by omega) (hr l hl (by omega)) (nY 2 l) (λc hc=>hc) .no .no .no with⟨d,ed,rd,nd⟩|⟨y3,y4,y5,ez,na⟩
   ·refine⟨d,fin d ?_ ?_,rd⟩
    ·unfold iB;refine f6 ?_;unfold lM;exact gU it ed
    ·rcases rd with⟨P,_,hP,cv,_⟩|⟨rfl,_⟩
     ·exact .inl (Vn ⟨P,hP,cv⟩)
     ·exact .inr rfl
   ·have nab:¬ OV L:=λha=>by
     obtain⟨c,hc,hb⟩:=OW h.rise hl ha;exact na c hc hb
    refine⟨.eU,fin .eU ?_ (.inr rfl),.inr ⟨rfl,nab⟩⟩;unfold iB;have e9:lM jq rc (s1 l)=some (.next [.dat (.tup (L.map tupI)),.memo [],cK l,y3,y4,y5,.no]):=by
     unfold lM;exact gU it ez
    have U8:nC jq rc [.dat (.tup (L.map tupI)),.memo [],cK l,y3,y4,y5,.no]=some (.next [.dat (.tup (L.map tupI)),.memo [.tup (L.map tupI)],cK l,y3,y4,y5,.no]):=by
     unfold nC lV;exact if_pos (Vm h g nab)
    rw[LW.cS e9,LW.cS U8];rfl
end
theorem yh:∀(n:Nat) (L:cn),HK L->L.length<n->∃d,iD n [.tup (L.map tupI)]=some d/\Res d L
 |0,L,_,h=>by omega
 |n+1,L,h,hn=>by
  obtain⟨d,e,r⟩:=RX (rc:=iD n) h (λk hk h2 c hc=>yh n (nZ L c) (h.rest c) (by have:=Ao hk (Jb (h.rise k hk) h2 hc).2.2;omega))
  refine⟨d,?_,r⟩;unfold iD CJ;rw[if_pos ⟨rfl,by decide⟩]
  show(match jG jq (iD n) [.dat (.tup (L.map tupI)),.memo [],.no,.no,.no,.no,.no]with|some (.ret d)=>some d|some (.next _)=>some .eU|_=>none)=_
  rw[e]
end K6
namespace K6
open DL GP PC PW
open LW (eC fL jj)
open L2 (mE E6)
def hasB (l:cp) (P:cn):Bool:=P.any λc=>fY l c
def iE (L P:cn):Bool:=L.all λl=>hasB l P
def jT:iE L P=true↔xr L P:=by
 unfold iE hasB xr;rw[all_eq_true];refine forall_congr' λl=>forall_congr' λhl=>?_
 rw[bN];exact⟨λ⟨c,h1,h2⟩=>⟨c,h1,qm.mp h2⟩,λ⟨c,h1,h2⟩=>⟨c,h1,qm.mpr h2⟩⟩
def Jo (hn:P.length<1000) (h2:∀c∈P,c.length<=2):nB [tupI l,.tup (P.map tupI)]=some (.bl (hasB l P)):=by
 refine LW.dU rfl ?_;show oi [cK l,.dat (.tup (P.map tupI)),.no]=_;unfold oi wo;exact fC ((ir (eW rfl (by rw[ae];omega) (iR P λc hc=>(de rfl).trans (xt (by have:=h2 c hc;omega))))).trans (Aq P _))
def Pu (hL:L.length<1000) (hn:P.length<1000) (h2:∀c∈P,c.length<=2):gW [.tup (L.map tupI),.tup (P.map tupI)]=some (.bl (iE L P)):=by
 refine LW.dU rfl ?_;show lK [.dat (.tup (L.map tupI)),.dat (.tup (P.map tupI)),.no]=_;unfold lK sC;exact fC ((ir (eW rfl (by rw[ae];omega) (iR L λl _=>(de rfl).trans (Jo hn h2)))).trans (LW.o8 L _))
noncomputable def less (k:cn) (c:cp):cn:=k.filter λo=> !decide (o=c)
def rk (L:cn):cn->cn->cn
 |[],k=>k
 |c::cs,k=>rk L cs (if iE L (less k c)=true then less k c else k)
theorem AQ (L:cn):∀cs k,(rk L cs k).Sublist k
 |[],k=>List.Sublist.refl _
 |c::cs,k=>by
  unfold rk;refine(AQ L cs _).trans ?_;split
  ·exact filter_sublist
  ·exact List.Sublist.refl _
theorem Dm {L:cn}:∀cs k,iE L k=true->iE L (rk L cs k)=true
 |[],k,h=>h
 |c::cs,k,h=>by
  unfold rk;refine Dm cs _ ?_;split
  ·assumption
  ·exact h
def LZ (s:∀c∈P,c∈Q) (h:iE L P=true):iE L Q=true:=
 jT.mpr λl hl=>let ⟨c,h1,h2⟩:=jT.mp h l hl;⟨c,s c h1,h2⟩
theorem AR:∀cs k,∀c∈cs,c∈rk L cs k->iE L (less (rk L cs k) c)=false
 |e::cs,k,c,hc,hk=>by
  unfold rk at hk ⊢;rcases mem_cons.mp hc with rfl|hc
  ·have sb:=AQ L cs (if iE L (less k c)=true then less k c else k)
   cases hb:iE L (less k c)with
   |true=>
    rw[hb,if_pos rfl]at hk sb;have:=(mem_filter.mp (sb.subset hk)).2;simp at this
   |false=>
    rw[hb,if_neg (by simp)]at hk sb
    rw[if_neg (by simp)]
    cases q:iE L (less (rk L cs k) c)with
    |false=>rfl
    |true=>
     have:=LZ (Q:=less k c) (λo ho=>by
      obtain⟨h1,h2⟩:=mem_filter.mp ho;exact mem_filter.mpr ⟨sb.subset h1,h2⟩) q
     rw[hb]at this;cases this
  ·exact AR cs _ c hc hk
theorem Pw {L P:cn}(hL:L.length<1000):∀(cs k:cn) (x3 x4:Sl),k.length<1000->(∀c∈k,c.length<=2)->∃y3 y4,
  gp 3 gX (cs.map tupI) [.dat (.tup (L.map tupI)),.dat (.tup (P.map tupI)),.dat (.tup (k.map tupI)),x3,x4,.no]=some (.next [.dat (.tup (L.map tupI)),.dat (.tup (P.map tupI)),.dat (.tup ((rk L cs k).map tupI)),y3,y4,.no])
 |[],k,x3,x4,_,_=>⟨x3,x4,rfl⟩
 |c::cs,k,x3,x4,hk,h2=>by
  have fl:(less k c).length<=k.length:=aW _ _;have f2:∀o∈less k c,o.length<=2:=λo ho=>h2 o (mem_filter.mp ho).1
  have e2:pD [.dat (.tup (L.map tupI)),.dat (.tup (P.map tupI)),.dat (.tup (k.map tupI)),cK c,x4,.no]=some (.next [.dat (.tup (L.map tupI)),.dat (.tup (P.map tupI)),.dat (.tup (k.map tupI)),cK c,.dat (.tup ((less k c).map tupI)),.no]):=
   gr ((ir (eW rfl (by rw[ae];omega) (fH (ψ:=tupI) k (λo _=>eN ((dM rfl rfl).trans (wc o c))) λo _ _=>rfl))).trans rfl)
  have q:qB (cU gW (cN (cW 0) (cN (cW 4) cT))) [.dat (.tup (L.map tupI)),.dat (.tup (P.map tupI)),.dat (.tup (k.map tupI)),cK c,.dat (.tup ((less k c).map tupI)),.no]=some (iE L (less k c)):=
   eN ((de rfl).trans (Pu hL (by omega) f2))
  have eb:gX [.dat (.tup (L.map tupI)),.dat (.tup (P.map tupI)),.dat (.tup (k.map tupI)),cK c,x4,.no]=some (.next [.dat (.tup (L.map tupI)),.dat (.tup (P.map tupI)),.dat (.tup ((if iE L (less k c)=true then less k c else k).map tupI)),cK c,.dat (.tup ((less k c).map tupI)),.no]):=by
   unfold gX;rw[LW.cS e2];unfold pE;cases hb:iE L (less k c)with
   |true=>rw[kY (q.trans (by rw[hb]))];rfl
   |false=>rw[hV (q.trans (by rw[hb]))];rfl
  obtain⟨y3,y4,ih⟩:=Pw hL cs (if iE L (less k c)=true then less k c else k) (cK c) (.dat (.tup ((less k c).map tupI))) (by split<;>omega) (by split<;>assumption)
  refine⟨y3,y4,?_⟩;rw[aF];exact(gj (j:=3) (δ:=[.dat (.tup (L.map tupI)),.dat (.tup (P.map tupI)),.dat (.tup (k.map tupI)),x3,x4,.no]) eb).trans ih
def Px (hL:L.length<1000) (hP:P.length<1000) (h2:∀c∈P,c.length<=2):js [.tup (L.map tupI),.tup (P.map tupI)]=some (.tup ((rk L P P).map tupI)):=by
 refine LW.dU rfl ?_;show jV [.dat (.tup (L.map tupI)),.dat (.tup (P.map tupI)),.no,.no,.no,.no]=_;obtain⟨y3,y4,e⟩:=Pw (P:=P) hL P P .no .no hP h2;have e1:pC [.dat (.tup (L.map tupI)),.dat (.tup (P.map tupI)),.no,.no,.no,.no]=some (.next [.dat (.tup (L.map tupI)),.dat (.tup (P.map tupI)),.dat (.tup (P.map tupI)),.no,.no,.no]):=rfl;unfold jV;rw[LW.cS e1,LW.cS (f:=pF) (gU rfl e)];rfl
def Mt.perm (h:Mt P) (p:P.Perm Q):Mt Q:=
 ⟨λc hc=>h.rise c (p.mem_iff.mpr hc),λc hc=>h.two c (p.mem_iff.mpr hc),λc hc d hd=>h.dj c (p.mem_iff.mpr hc) d (p.mem_iff.mpr hd),p.nodup_iff.mp h.nd⟩
def AS (h:P.length<64) (h2:∀c∈P,c≠[]):gH [.tup (P.map tupI)]=some ((fi P).map tupI):=by
 show(if(P.map tupI).length<64 then(jZ (P.map tupI)).bind _ else none)=_
 rw[if_pos (by rw[ae];exact h),mY]
 refine if_pos ?_;rw[all_eq_true];intro c hc;have:=h2 c hc;cases c with
 |nil=>exact absurd rfl this
 |cons a r=>rfl
structure Jp (L P:cn):Prop where
 mt:Mt P
 lex:P.Pairwise λa b=>HT.lexLt a b=true
 YY:xr L P
 inl:YV L P
 least:∀c∈P,¬ xr L (less P c)
 vR:P.length<=6
def Ta (h:f∈fA L [] []):∃l∈L,∀x,x∈f↔x∈l:=by
 obtain⟨l,hl,_,rfl⟩:=eS.mp (fB.mp h).1;exact⟨l,hl,λx=>by rw[dY];simp⟩
def Vo (hr:∀l∈L,eR l):xr (fA L [] []) P↔xr L P:=by
 constructor
 ·intro h l hl;obtain⟨k,hk,hs⟩:=qo (m:=[]) (y:=[]) hr _ (se [] l) (au _) (eS.mpr ⟨l,hl,(λp _ h=>by cases h),rfl⟩)
  obtain⟨c,hc,h2⟩:=h k hk;exact⟨c,hc,λx hx=>(dY.mp (hs x (h2 x hx))).1⟩
 ·intro h f hf;obtain⟨l,hl,e⟩:=Ta hf;obtain⟨c,hc,h2⟩:=h l hl;exact⟨c,hc,λx hx=>(e x).mpr (h2 x hx)⟩
def L0 (hr:∀l∈L,eR l) (hd:∀l∈L,∀p∈l,0<=p/\p<6) (h4:∀l∈L,l.length<=4) (h6:L.length<=6):(∃P,kf [LW.dF many L]=some (.tup (P.map tupI))/\Jp L P)\/(kf [LW.dF many L]=some .eU/\¬ OV L):=by
 have hk:=HK.open hr hd h4 h6 [] [];obtain⟨d,ed,rd⟩:=yh 8 _ hk (by have:=hk.vR;omega)
 have e1:yf [.dat (LW.dF many L),.no]=some (.next [.dat (LW.dF many L),.dat d]):=by
  refine gr ((de (rf ?_)).trans ed);exact(de rfl).trans (Eu (L:=L) (m:=[]) (y:=[]) (.inl rfl) (by omega) (λo ho=>by have:=h4 o ho;omega))
 have run:∀r,(dH sD yg) [.dat (LW.dF many L),.dat d]=some (.ret r)->kf [LW.dF many L]=some r:=λr h=>by
  refine LW.dU rfl ?_;show qC [.dat (LW.dF many L),.no]=_;unfold qC;rw[LW.cS e1];exact h
 rcases rd with⟨P,rfl,mt,cv,iL,pl⟩|⟨rfl,na⟩
 ·have p6:P.length<=6:=aD pl hk.vR;have ps:=eY P;have sl:(fi P).length<=6:=by rw[ps.length_eq];exact p6
  have ms:=Mt.perm mt ps.symm;have sb:=AQ L (fi P) (fi P);have hv:iE L (fi P)=true:=jT.mpr λl hl=>let ⟨c,h1,h2⟩:=(Vo hr).mp cv l hl;⟨c,ps.mem_iff.mpr h1,h2⟩
  refine .inl ⟨rk L (fi P) (fi P),run _ ?_,ms.sub sb,List.Pairwise.sublist sb (LW.nj mt.nd),jT.mp (Dm _ _ hv),λc hc=>?_,λc hc z=>?_,aD sb.length_le sl⟩
  ·have e3:sD [.dat (LW.dF many L),.dat (.tup (P.map tupI))]=some (.next [.dat (LW.dF many L),.dat (.tup (P.map tupI))]):=rfl;rw[LW.cS e3];refine fC ?_;have es:eP gH (cN (df 1) cT) [.dat (LW.dF many L),.dat (.tup (P.map tupI))]=some ((fi P).map tupI):=by
    show gH [.tup (P.map tupI)]=_;exact AS (by omega) (λc hc z=>by have:=mt.two c hc;subst z;cases this)
   have ea:cN (dw gK (df 0) (dC (.int 1))) (cN (cU i7 (cN (dL (eP gH (cN (df 1) cT))) cT)) cT) [.dat (LW.dF many L),.dat (.tup (P.map tupI))]=some [.tup (L.map tupI),.tup ((fi P).map tupI)]:=by
    exact AO rfl (rf ((ir (F:=i7) es).trans rfl))
   exact(de ea).trans (Px (by omega) (by omega) (λc hc=>by rw[ms.two c hc];exact au _))
  ·obtain⟨f,hf,h2⟩:=iL c (ps.mem_iff.mp (sb.subset hc));obtain⟨l,hl,e⟩:=Ta hf;exact⟨l,hl,λx hx=>(e x).mp (h2 x hx)⟩
  ·have:=AR (fi P) (fi P) c (sb.subset hc) hc;rw[jT.mpr z]at this;cases this
 ·refine .inr ⟨run _ rfl,λ⟨P,hP,cv⟩=>na ⟨P,hP,(Vo hr).mpr cv⟩⟩
def G2 {α:Type}(f:α->D) (lt:α->α->Bool) (fP:∀a b,Lm (f a) (f b)=some (.bl (lt a b))) (l:List α) (hl:l.length<1000):jr [.tup (l.map f)]=some (.bl (jj lt l)):=by
 refine LW.dU rfl ?_;show mM [.dat (.tup (l.map f)),.no]=_;have it:wG (cN (dw rN (cU hX (cN (df 0) cT)) (dC (.int 1))) cT) [.dat (.tup (l.map f)),.no]=some ((dD 0 ((l.length:Int)-1).toNat).map D.int):=by
  unfold wG;have:cN (dw rN (cU hX (cN (df 0) cT)) (dC (.int 1))) cT [.dat (.tup (l.map f)),.no]=some [.int ((l.length:Int)-1)]:=by
   show some [D.int (((l.map f).length:Int)-1)]=_;rw[ae]
  rw[this];exact if_pos ⟨by omega,by omega⟩
 unfold mM uu;refine fC ((ir (eW it (by rw[ae,eF];omega) (iR (ψ:=λk=>D.bl (match l[k.toNat]?,l[k.toNat+1]? with|some a,some b=>lt a b|_,_=>false)) _ λk hk=>?_))).trans ((LW.o8 _ _).trans ?_))
 ·have rB:=(LW.g8 _ _ _).mp hk;obtain⟨n,rfl⟩:∃n:Nat,k=(n:Int):=⟨k.toNat,by omega⟩
  have h1:n<l.length:=by omega
  have h2:n+1<l.length:=by omega
  have e1:mE (l.map f) (n:Int)=some (f l[n]):=by rw[LW.qf _ _ (by simpa using h1)];simp[h1]
  have e2:mE (l.map f) ((n:Int)+1)=some (f l[n+1]):=by
   have:=LW.qf (l.map f) (n+1) (by simpa using h2)
   rw[show((n:Int)+1)=((n+1:Nat):Int) by omega,this];simp[h2]
  refine(dM (o:=Lm) (x:=f l[n]) (y:=f l[n+1]) ?_ ?_).trans ?_
  ·exact(dM (o:=gK) (x:=.tup (l.map f)) (y:=.int n) rfl rfl).trans e1
  ·exact(dM (o:=gK) (x:=.tup (l.map f)) (y:=.int (n+1)) rfl rfl).trans e2
  ·rw[fP];simp[h1,h2]
 ·congr 2
  rw[Bool.eq_iff_iff,LW.IX,LW.uU];constructor
  ·intro h k hk;have:=h k (by omega)
   simpa [hk,(by omega:k<l.length)]using this
  ·intro h k hk;have ID:k+1<l.length:=by omega
   have:=h k ID
   simpa [ID,(by omega:k<l.length)]using this
def Py (a b:cp):Lm (tupI a) (tupI b)=some (.bl (HT.lexLt a b)):=by
 show(intsOf (a.map D.int)).bind _=_;rw[jc];show(intsOf (b.map D.int)).map _=_;rw[jc];rfl
noncomputable def iZ (many:Int):cp->Bool
 |[a,b]=>decide ((0<=a/\a<many)/\(0<=b/\b<many)/\a<b)
 |_=>false
def Tc (many:Int) (c:cp):Bool:=(c.all λi=>decide (0<=i)&&decide (i<=many-1))&&jj (λa b=>decide (a<b)) c
def L1 (hc:c.length<1000):pB [tupI c,.int many]=some (.bl (!c.isEmpty&&Tc many c)):=by
 refine LW.dU rfl ?_;show qz [cK c,cJ many,.no]=_;cases c with
 |nil=>rfl
 |cons a r=>
  have e1:sA [cK (a::r),cJ many,.no]=some (.next [cK (a::r),cJ many,.no]):=by
   have q:qB (dw nS (cU hX (cN (df 0) cT)) (dC (.int 0))) [cK (a::r),cJ many,.no]=some false:=
    eN ((dM (y:=.int 0) ((de rfl).trans (tV (a::r))) rfl).trans ((lJ _ _).trans (by rw[aH (by simp;omega)])))
   unfold sA;rw[hV (Ay rfl q)];rfl
  unfold qz;rw[LW.cS e1];unfold yd;refine fC ((wd (a:=(a::r).all λi=>decide (0<=i)&&decide (i<=many-1)) (b:=jj (λa b=>decide (a<b)) (a::r)) ?_ ?_).trans rfl)
  ·exact(ir (eW (ds:=(a::r).map D.int) rfl (by rw[ae];omega) (iR (ψ:=λi=>D.bl (decide (0<=i)&&decide (i<=many-1))) (a::r) λi _=>(de rfl).trans (RK i 0 (many-1))))).trans (LW.o8 _ _)
  ·exact(de rfl).trans (G2 D.int (λa b=>decide (a<b)) (λ_ _=>rfl) (a::r) hc)
def L3 (hc:c.length<1000):mV [tupI c,.int many]=some (.bl (iZ many c)):=by
 refine LW.dU rfl ?_;show qA [cK c,cJ many]=_;unfold qA ye;refine fC ((wd ((de rfl).trans (L1 hc)) ((dM (y:=.int 2) ((de rfl).trans (tV c)) rfl).trans (lJ _ _))).trans ?_)
 congr 2
 match c with
 |[]=>rfl
 |[a]=>show(_&&decide (((1:Nat):Int)=2))=false;simp
 |[a,b]=>
  rw[Bool.eq_iff_iff];simp only[Tc,iZ,jj,all_cons,all_nil,isEmpty_cons,Bool.not_false,Bool.true_and,Bool.and_true,Bool.and_eq_true,decide_eq_true_eq,ay,length_nil];omega
 |a::b::d::r=>
  show(_&&decide (((a::b::d::r).length:Int)=2))=false;rw[aH (by simp only[ay];omega),Bool.and_false]
def nF (h:iZ many c=true):∃a b,c=[a,b]/\(0<=a/\a<many)/\(0<=b/\b<many)/\a<b:=by
 unfold iZ at h;split at h
 ·rename_i a b;exact⟨a,b,rfl,bJ h⟩
 ·cases h
def wy {l:cp}:l.eraseDups.length=l.length↔l.Nodup:=by
 constructor
 ·intro h;have gen:∀(n:Nat) (l:cp),l.length<=n->l.eraseDups.length=l.length->l.Nodup:=by
   intro n;induction n with
   |zero=>intro l h _;have:l=[]:=length_eq_zero_iff.mp (by omega);subst this;exact nodup_nil
   |succ n ih=>
    intro l hl e;cases l with
    |nil=>exact nodup_nil
    |cons a r=>
     rw[eraseDups_cons,ay,ay]at e;simp only[ay]at hl;have h1:=aW (λb=> !b==a) r
     have h2:=yQ _ (r.filter λb=> !b==a) (au _)
     have h3:(r.filter λb=> !b==a)=r:=filter_eq_self.mpr (length_filter_eq_length_iff.mp (by omega))
     rw[h3]at e;refine nodup_cons.mpr ⟨λha=>?_,ih r (by omega) (by omega)⟩
     rw[<-h3]at ha;have:=(mem_filter.mp ha).2;simp at this
  exact gen _ l (au _) h
 ·intro h;have:∀l:cp,l.Nodup->l.eraseDups=l:=by
   intro l;induction l with
   |nil=>intro _;rfl
   |cons a r ih=>
    intro hn;obtain⟨h1,h2⟩:=nodup_cons.mp hn;rw[eraseDups_cons,filter_eq_self.mpr (λb hb=>by simp;intro z;subst z;exact h1 hb),ih h2]
  rw[this l h]
def Dp {f:bZ}{δ:gh}{l:cp}(h:f δ=some (.lst (l.map D.int))) (YT:l.length<=18):nA f δ=some (.int (l.eraseDups.length:Int)):=by
 unfold nA;rw[h];show(intsOf (l.map D.int)).bind _=_;rw[jc];exact if_pos YT
def G3 {P:cn}(h2:∀c∈P,c.length=2):P.flatten.length=2*P.length:=by
 induction P with
 |nil=>rfl
 |cons c P ih=>
  rw[flatten_cons,aQ,ih λd hd=>h2 d (ai _ hd),h2 c af,ay]
  omega
def L4 {P:cn}(h2:∀c∈P,c.length=2):(P.map (λc=>c.getD 0 0)++P.map λc=>c.getD 1 0).Perm P.flatten:=by
 induction P with
 |nil=>exact List.Perm.refl _
 |cons c P ih=>
  have ih:=ih λd hd=>h2 d (ai _ hd)
  match c,h2 c af with
  |[a,b],_=>
   show(a::(P.map (λc=>c.getD 0 0)++b::P.map λc=>c.getD 1 0)).Perm (a::b::P.flatten)
   exact(perm_middle.trans (ih.cons b)).cons a
def RY {P:cn}(h2:∀c∈P,c.length=2) (h9:P.length<=9):l4 [.tup (P.map tupI)]=some (.bl (decide P.flatten.Nodup)):=by
 refine LW.dU rfl ?_;show mN [.dat (.tup (P.map tupI)),.no,.no]=_;have hp:=L4 h2;have hl:(P.map (λc=>c.getD 0 0)++P.map λc=>c.getD 1 0).length<=18:=by rw[hp.length_eq,G3 h2];omega
 have ix:∀(k:Nat) (kk:Int),kk=(k:Int)->k<2->ei (iT (cW 0)) 2 lS (dw gK (df 2) (dC (.int kk))) [.dat (.tup (P.map tupI)),.no,.no]=some ((P.map λc=>c.getD k 0).map D.int):=by
  intro k kk ek hk;subst ek;rw[aV];refine eW rfl (by rw[ae];omega) (iR P λc hc=>?_)
  have h2c:=h2 c hc;refine(dM (o:=gK) (x:=tupI c) (y:=.int k) rfl rfl).trans ?_;show mE (c.map D.int) (k:Int)=_;rw[LW.qf _ _ (by rw[ae];omega),av,ah (by omega)]
  simp[List.getD,ah (show k<c.length by omega)]
 have e1:uv [.dat (.tup (P.map tupI)),.no,.no]=some (.next [.dat (.tup (P.map tupI)),.own ((P.map (λc=>c.getD 0 0)++P.map λc=>c.getD 1 0).map D.int),.no]):=by
  refine iz ?_;rw[map_append];exact wu (wx (ix 0 0 rfl (by omega))) (wx (ix 1 1 rfl (by omega))) (by rw[ae,ae,ae,ae];omega)
 unfold mN;rw[LW.cS e1,jw (δ':=[.dat (.tup (P.map tupI)),.dat (.lst ((P.map (λc=>c.getD 0 0)++P.map λc=>c.getD 1 0).map D.int)),.no]) rfl]
 unfold uw;refine fC ((dM (Dp rfl hl) (y:=.int ((P.map (λc=>c.getD 0 0)++P.map λc=>c.getD 1 0).length:Int)) ?_).trans ((lJ _ _).trans ?_))
 ·show some (D.int (((P.map (λc=>c.getD 0 0)++P.map λc=>c.getD 1 0).map D.int).length:Int))=_
  rw[ae]
 ·congr 2
  refine decide_eq_decide.mpr ?_;rw[<-hp.nodup_iff,<-wy];omega
def l7 (many:Int) (L P:cn):Bool:=P.all (iZ many)&&(jj HT.lexLt P&&(decide P.flatten.Nodup&&iE L P))
section
variable {many:Int}{L P:cn}(hL:L.length<1000) (h9:P.length<=9) (hc:∀c∈P,c.length<=2)
include hL h9 hc
theorem wz:gu [LW.dF many L,.tup (P.map tupI)]=some (.bl (l7 many L P)):=by
 refine LW.dU rfl ?_;show lN [.dat (LW.dF many L),.dat (.tup (P.map tupI)),.no]=_;have e2:sE [.dat (LW.dF many L),.dat (.tup (P.map tupI)),.no]=some (.next [.dat (LW.dF many L),.dat (.tup (P.map tupI)),.no]):=rfl;have q:lR (qB (cU By (cN (dL (ei (iT (cW 1)) 2 lS (cU mV (cN (cW 2) (cN (dw gK (df 0) (dC (.int 0))) cT))))) cT))) [.dat (LW.dF many L),.dat (.tup (P.map tupI)),.no]=some (!P.all (iZ many)):=
  n5 (eN ((ir (eW rfl (by rw[ae];omega) (iR P λc h=>(de rfl).trans (L3 (by have:=hc c h;omega))))).trans (LW.o8 P _)))
 unfold lN;rw[LW.cS e2];cases hq:P.all (iZ many)with
 |false=>
  refine(f6 (d:=.bl false) ?_).trans ?_
  ·unfold kQ;rw[kY (q.trans (by rw[hq];rfl))]
   rfl
  ·unfold l7;rw[hq];rfl
 |true=>
  have e4:kQ [.dat (LW.dF many L),.dat (.tup (P.map tupI)),.no]=some (.next [.dat (LW.dF many L),.dat (.tup (P.map tupI)),.no]):=by
   unfold kQ;rw[hV (q.trans (by rw[hq];rfl))]
   rfl
  rw[LW.cS e4];have h2:∀c∈P,c.length=2:=λc h=>by
   obtain⟨a,b,rfl,_⟩:=nF (all_eq_true.mp hq c h);rfl
  unfold sF l7;rw[hq,Bool.true_and];exact fC (wd ((de rfl).trans (G2 tupI HT.lexLt Py P (by omega))) (wd ((de rfl).trans (RY h2 h9)) ((de rfl).trans (Pu hL (by omega) hc))))
end
theorem xD:∀(a b:cn),jY (a.map tupI) (b.map tupI)=decide (a=b)
 |[],[]=>by unfold jY;simp
 |[],_::_=>by unfold jY;simp
 |_::_,[]=>by unfold jY;simp
 |x::a,y::b=>by
  show jY (tupI x::a.map tupI) (tupI y::b.map tupI)=_;unfold jY;rw[xD a b,LW.Ab];by_cases h1:x=y<;>by_cases h2:a=b<;>simp[h1,h2]
def Pz (a b:cn):nS (.lst (a.map tupI)) (.lst (b.map tupI))=some (.bl (decide (a=b))):=by
 have:=LW.mS a;have e:jJ (.lst (a.map tupI)) (.lst (b.map tupI))=decide (a=b):=by unfold jJ;exact xD a b
 unfold nS;rw[if_pos (by unfold eV;omega),e]
def G4 (a b:cn):rP (.lst (a.map tupI)) (.lst (b.map tupI))=some (.bl (!decide (a=b))):=by
 have:=LW.mS a;have e:jJ (.lst (a.map tupI)) (.lst (b.map tupI))=decide (a=b):=by unfold jJ;exact xD a b
 unfold rP;rw[if_pos (by unfold eV;omega),e]
def EI (a b:Int):rP (.int a) (.int b)=some (.bl (!decide (a=b))):=by
 have:rP (.int a) (.int b)=some (.bl (!(a==b))):=rfl;rw[this]
 congr 2
def any_filter {α:Type}(p:α->Bool) (l:List α):(!decide (l.filter p=[]))=l.any p:=by
 induction l with
 |nil=>rfl
 |cons a r ih=>
  rw[bq,bF];cases p a with
  |true=>simp
  |false=>simpa using ih
def RZ (hn:P.length<1000) (h2:∀c∈P,c.length=2):jH [tupI l,.tup (P.map tupI)]=some (.bl (hasB l P)):=by
 refine LW.dU rfl ?_;show lO [cK l,.dat (.tup (P.map tupI)),.no]=_;unfold lO sI;have ec:ei (iT (cW 1)) 2 (pQ (qB (dw uN (dw gK (df 2) (dC (.int 0))) (df 0))) (qB (dw uN (dw gK (df 2) (dC (.int 1))) (df 0)))) (cW 2) [cK l,.dat (.tup (P.map tupI)),.no]=some ((P.filter λc=>fY l c).map tupI):=by
  refine eW rfl (by rw[ae];omega) (fH (ψ:=tupI) P (λc hc=>?_) λc _ _=>rfl)
  match c,h2 c hc with
  |[a,b],_=>
   have q1:=eN ((dM (o:=uN) (f:=dw gK (df 2) (dC (.int 0))) (g:=df 0) (δ:=[cK l,.dat (.tup (P.map tupI)),cK [a,b]]) (x:=.int a) (y:=tupI l) rfl rfl).trans (nX a l));have q2:=eN ((dM (o:=uN) (f:=dw gK (df 2) (dC (.int 1))) (g:=df 0) (δ:=[cK l,.dat (.tup (P.map tupI)),cK [a,b]]) (x:=.int b) (y:=tupI l) rfl rfl).trans (nX b l));have e:fY l [a,b]=(decide (a∈l)&&decide (b∈l)):=by
    unfold fY;simp
   rw[e];show pQ _ _ [cK l,.dat (.tup (P.map tupI)),cK [a,b]]=_;unfold pQ;rw[q1];cases decide (a∈l)with
   |false=>rfl
   |true=>rw[Bool.true_and];exact q2
 refine fC ((dM (o:=rP) (wx ec) (y:=.lst (List.map tupI [])) rfl).trans ((G4 _ _).trans ?_))
 congr 2
 exact any_filter _ _
section
variable {many:Int}{L:cn}{T:D}
def R1 {c:cp}{pts:cp}{x3:Sl}(hp:pts.length<1000):fI [.dat (LW.dF many L),.dat T,.dat (.lst (pts.map D.int)),cK c,.no,.no]=
  if iZ many c=true then some (.next [.dat (LW.dF many L),.dat T,.dat (.lst ((pts++c).map D.int)),cK c,.no,.no])else some (.ret (.bl false)):=by
 let st:cp->gh:=λc=>[.dat (LW.dF many L),.dat T,.dat (.lst (pts.map D.int)),cK c,.no,.no]
 have q5:Cr (lR (qB (w5 "tuple" (df 3)))) (qB (dw rP (cU hX (cN (df 3) cT)) (dC (.int 2)))) [.dat (LW.dF many L),.dat T,.dat (.lst (pts.map D.int)),cK c,.no,.no]=some (!decide (c.length=2)):=by
  refine Ay rfl (eN ((dM (y:=.int 2) ((de rfl).trans (tV c)) rfl).trans ((EI _ _).trans ?_)))
  congr 3
  exact decide_eq_decide.mpr (by omega)
 unfold fI;by_cases h2:c.length=2
 ·match c,h2 with
  |[a,b],_=>
   have e5:ie (st [a,b])=some (.next (st [a,b])):=by
    unfold ie;rw[hV (q5.trans rfl)];rfl
   rw[LW.cS e5];have ec:ei (iT (cW 3)) 4 (Cr (qB (w5 "bool" (df 4))) (qB (GC (df 4) (cN (dw gK (df 0) (dC (.int 0))) cT)))) (cW 4) (st [a,b])=some (([a,b].filter λi=> !decide (0<=i/\i<many)).map D.int):=
    eW (ds:=[a,b].map D.int) rfl (by show 2<1000000;decide) (fH (ψ:=D.int) [a,b] (λi _=>Ay rfl (eN rfl)) λi _ _=>rfl)
   have q7:qT (dL (ei (iT (cW 3)) 4 (Cr (qB (w5 "bool" (df 4))) (qB (GC (df 4) (cN (dw gK (df 0) (dC (.int 0))) cT)))) (cW 4))) (st [a,b])=some (!decide ((0<=a/\a<many)/\(0<=b/\b<many))):=by
    unfold qT;rw[wx ec];show some (!(([a,b].filter λi=> !decide (0<=i/\i<many)).map D.int).isEmpty)=_
    by_cases h1:0<=a/\a<many<;>by_cases h3:0<=b/\b<many<;>simp[filter,h1,h3]
   by_cases hr:(0<=a/\a<many)/\(0<=b/\b<many)
   ·have e7:ig (st [a,b])=some (.next (st [a,b])):=by
     unfold ig;rw[hV (q7.trans (by rw[aR hr];rfl))]
     rfl
    rw[LW.cS e7];have q9:qB (dw W5 (dw gK (df 3) (dC (.int 0))) (dw gK (df 3) (dC (.int 1)))) (st [a,b])=some (decide (b<=a)):=rfl;by_cases fP:a<b
    ·have e9:ij (st [a,b])=some (.next (st [a,b])):=by
      unfold ij;rw[hV (q9.trans (by rw[aH (by omega)]))]
      rfl
     have U8:l6 (st [a,b])=some (.next [.dat (LW.dF many L),.dat T,.own ((pts++[a,b]).map D.int),cK [a,b],.no,.no]):=by
      refine iz ?_;rw[map_append];exact wu rfl rfl (by rw[ae];show _+2<=_;omega)
     rw[LW.cS e9,LW.cS U8,if_pos (by unfold iZ;exact aR ⟨hr.1,hr.2,fP⟩)]
     rfl
    ·rw[if_neg (by unfold iZ;simp only[decide_eq_true_eq];omega)]
     refine f6 ?_;unfold ij;rw[kY (q9.trans (by rw[aR (by omega)]))]
     rfl
   ·rw[if_neg (by unfold iZ;simp only[decide_eq_true_eq];omega)]
    refine f6 ?_;unfold ig;rw[kY (q7.trans (by rw[aH hr];rfl))]
    rfl
 ·rw[if_neg]
  ·refine f6 ?_;unfold ie;rw[kY (q5.trans (by rw[aH h2];rfl))]
   rfl
  ·intro z;obtain⟨a,b,rfl,_⟩:=nF z;exact h2 rfl
theorem KH:∀(P:cn) (pts:cp) (x3:Sl),pts.length+2*P.length<1000->
  (P.all (iZ many)=true->∃y3,gp 3 fI (P.map tupI) [.dat (LW.dF many L),.dat T,.dat (.lst (pts.map D.int)),x3,.no,.no]=some (.next [.dat (LW.dF many L),.dat T,.dat (.lst ((pts++P.flatten).map D.int)),y3,.no,.no]))/\
  (P.all (iZ many)=false->gp 3 fI (P.map tupI) [.dat (LW.dF many L),.dat T,.dat (.lst (pts.map D.int)),x3,.no,.no]=some (.ret (.bl false)))
 |[],pts,x3,_=>⟨λ_=>⟨x3,by rw[flatten_nil,bB];rfl⟩,λh=>by cases h⟩
 |c::P,pts,x3,h=>by
  simp only[ay]at h;have st:=R1 (many:=many) (L:=L) (T:=T) (c:=c) (pts:=pts) (x3:=x3) (by omega)
  rw[aF,all_cons];cases hq:iZ many c with
  |false=>
   rw[hq,if_neg (by simp)]at st
   refine⟨(λz=>by cases z),λ_=>wb (j:=3) (δ:=[.dat (LW.dF many L),.dat T,.dat (.lst (pts.map D.int)),x3,.no,.no]) st⟩
  |true=>
   rw[hq,if_pos rfl]at st;have cl:c.length=2:=by obtain⟨a,b,rfl,_⟩:=nF hq;rfl
   obtain⟨i1,i2⟩:=KH P (pts++c) (cK c) (by rw[aQ];omega)
   rw[flatten_cons,<-append_assoc,gj (j:=3) (δ:=[.dat (LW.dF many L),.dat T,.dat (.lst (pts.map D.int)),x3,.no,.no]) st,Bool.true_and];exact⟨i1,i2⟩
end
theorem xE:∀{l:cn},jj HT.lexLt l=true->l.Pairwise λa b=>HT.lexLt a b=true
 |[],_=>List.Pairwise.nil
 |[a],_=>pairwise_singleton _ _
 |a::b::r,h=>by
  have h':(HT.lexLt a b&&jj HT.lexLt (b::r))=true:=h;rw[Bool.and_eq_true]at h';have ih:=xE h'.2;refine pairwise_cons.mpr ⟨λc hc=>?_,ih⟩
  rcases mem_cons.mp hc with rfl|hc
  ·exact h'.1
  ·exact HT.j6 h'.1 ((pairwise_cons.mp ih).1 c hc)
theorem PH:∀{P:cn}{c d:cp}{x:Int},P.Pairwise (λc d=>∀x∈c,∀y∈d,x≠y)->c∈P->d∈P->x∈c->x∈d->c=d
 |e::P,c,d,x,h,hc,hd,h1,h2=>by
  obtain⟨a,b⟩:=pairwise_cons.mp h;rcases mem_cons.mp hc with q1|q1
  ·rcases mem_cons.mp hd with q2|q2
   ·exact q1.trans q2.symm
   ·exact absurd rfl (a d q2 x (q1▸h1) x h2)
  ·rcases mem_cons.mp hd with q2|q2
   ·exact absurd rfl (a c q1 x (q2▸h2) x h1)
   ·exact PH b q1 q2 h1 h2
def KJ (hq:P.all (iZ many)=true) (hn:P.flatten.Nodup):Mt P:=by
 have q:∀c∈P,eR c/\c.length=2:=λc hc=>by
  obtain⟨a,b,rfl,_,_,h⟩:=nF (all_eq_true.mp hq c hc);exact⟨by simp[eR];exact h,rfl⟩
 obtain⟨h1,h2⟩:=pairwise_flatten.mp hn;refine⟨λc hc=>(q c hc).1,λc hc=>(q c hc).2,λc hc d hd x hx hy=>?_,?_⟩
 ·exact PH h2 hc hd hx hy
 ·refine h2.imp_of_mem λ{c d} hc _ h z=>?_
  subst z
  match c,(q c hc).2 with
  |a::_,_=>exact h a af a af rfl
def lr (h:P.Nodup):jj HT.lexLt P=decide (P=fi P):=by
 rw[Bool.eq_iff_iff,decide_eq_true_eq];constructor
 ·intro z;exact En (xE z) (LW.nj h) λa=>(eY P).mem_iff.symm
 ·intro z;rw[z];exact LW.j0 (LW.nj h)
section
variable {many:Int}{L P:cn}(hL:L.length<1000) (h9:P.length<=9)
include hL h9
theorem G5:eB [LW.dF many L,.tup (P.map tupI)]=some (.bl (l7 many L P)):=by
 let st:Sl->gh:=λy=>[.dat (LW.dF many L),.dat (.tup (P.map tupI)),.dat (.lst (P.flatten.map D.int)),y,.no,.no]
 refine LW.dU rfl ?_;show iK [.dat (LW.dF many L),.dat (.tup (P.map tupI)),.no,.no,.no,.no]=_;have e2:mv [.dat (LW.dF many L),.dat (.tup (P.map tupI)),.no,.no,.no,.no]=some (.next [.dat (LW.dF many L),.dat (.tup (P.map tupI)),.no,.no,.no,.no]):=rfl;have e3:mw [.dat (LW.dF many L),.dat (.tup (P.map tupI)),.no,.no,.no,.no]=some (.next [.dat (LW.dF many L),.dat (.tup (P.map tupI)),.own [],.no,.no,.no]):=rfl;unfold iK;rw[LW.cS e2,LW.cS e3,jw (δ':=[.dat (LW.dF many L),.dat (.tup (P.map tupI)),.dat (.lst []),.no,.no,.no]) rfl];obtain⟨i1,i2⟩:=KH (many:=many) (L:=L) (T:=.tup (P.map tupI)) P [] .no (by simp;omega)
 cases hq:P.all (iZ many)with
 |false=>
  unfold l7;rw[hq];exact f6 (f:=jt) (gU rfl (i2 hq))
 |true=>
  obtain⟨y3,i⟩:=i1 hq;rw[nil_append]at i;have h2:∀c∈P,c.length=2:=λc h=>by
   obtain⟨a,b,rfl,_⟩:=nF (all_eq_true.mp hq c h);rfl
  have fl:=G3 h2;rw[LW.cS (f:=jt) (δ:=[.dat (LW.dF many L),.dat (.tup (P.map tupI)),.dat (.lst []),.no,.no,.no]) (gU rfl i)];have es:eP gH (cN (df 1) cT) (st y3)=some ((fi P).map tupI):=by
   show gH [.tup (P.map tupI)]=_;exact AS (by omega) (λc hc z=>by have:=h2 c hc;subst z;cases this)
  have q1:qB (dw rP (dL (eP zr (cN (df 1) cT))) (dL (eP gH (cN (df 1) cT)))) (st y3)=some (!decide (P=fi P)):=
   eN ((dM (x:=.lst (P.map tupI)) rfl (wx es)).trans (G4 _ _))
  have q2:qB (dw rP (nA (df 2)) (cU hX (cN (df 2) cT))) (st y3)=some (!decide P.flatten.Nodup):=by
   refine eN ((dM (Dp (l:=P.flatten) rfl (by omega)) (y:=.int (P.flatten.length:Int)) ?_).trans ((EI _ _).trans ?_))
   ·show some (D.int ((P.flatten.map D.int).length:Int))=_;rw[ae]
   ·congr 3
    refine decide_eq_decide.mpr ?_;rw[<-wy];omega
  have fin:jj HT.lexLt P=true->P.flatten.Nodup->ju (st y3)=some (.ret (.bl (l7 many L P))):=λhr hn=>by
   have ec:ei (iT (dw gK (df 0) (dC (.int 1)))) 5 (lR (qB (cU jH (cN (cW 5) (cN (cW 1) cT))))) (cW 5) (st y3)=some ((L.filter λl=> !hasB l P).map tupI):=
    eW (ds:=L.map tupI) rfl (by rw[ae];omega) (fH (ψ:=tupI) L (λl _=>n5 (eN ((de rfl).trans (RZ (by omega) h2)))) λl _ _=>rfl)
   unfold ju;refine fC ((dM (o:=nS) (wx ec) (y:=.lst (List.map tupI [])) rfl).trans ((Pz _ _).trans ?_))
   congr 2
   unfold l7;rw[hq,hr,aR hn,Bool.true_and,Bool.true_and,Bool.true_and];have:=any_filter (λl=> !hasB l P) L
   unfold iE;rw[Bool.eq_iff_iff,all_eq_true,decide_eq_true_eq,filter_eq_nil_iff];refine forall_congr' λl=>forall_congr' λ_=>?_
   cases hasB l P<;>simp
  by_cases hn:P.flatten.Nodup
  ·have mt:=KJ hq hn;have rs:=lr mt.nd;cases hr:jj HT.lexLt P with
   |true=>
    have e13:f9 (st y3)=some (.next (st y3)):=by
     unfold f9;rw[hV (Ay (q1.trans (by rw[<-rs,hr];rfl)) (q2.trans (by rw[aR hn];rfl)))]
     rfl
    rw[LW.cS e13];exact fin hr hn
   |false=>
    unfold l7;rw[hq,hr];refine f6 ?_;unfold f9;rw[kY (by unfold Cr;rw[q1,<-rs,hr];rfl)]
    rfl
  ·have z:l7 many L P=false:=by
    unfold l7;rw[aH hn];simp
   rw[z];refine f6 ?_;unfold f9;rw[kY (by unfold Cr;rw[q1,q2,aH hn];cases (!decide (P=fi P))<;>rfl)]
   rfl
end
def L5 (h:l7 many L P=true):(∀c∈P,iZ many c=true)/\Mt P/\xr L P:=by
 unfold l7 at h;simp only[Bool.and_eq_true,decide_eq_true_eq]at h;exact⟨all_eq_true.mp h.1,KJ h.1 h.2.2.1,jT.mp h.2.2.2⟩
def R3 (h:Mt P):P.flatten.Nodup:=by
 refine pairwise_flatten.mpr ⟨λc hc=>iJ (h.rise c hc),h.nd.imp_of_mem λ{c d} hc hd ne x hx y hy z=>?_⟩
 subst z;exact ne (h.dj c hc d hd x hx hy)
def PJ (q:∀c∈P,iZ many c=true) (h:Mt P) (lex:P.Pairwise λa b=>HT.lexLt a b=true):l7 many L P=iE L P:=by
 unfold l7;rw[all_eq_true.mpr q,LW.j0 lex,aR (R3 h)];rfl
noncomputable def other (c:cp) (p:Int):Int:=if p=c.getD 0 0 then c.getD 1 0 else c.getD 0 0
def rn (P:cn) (p:Int):Option Int:=(P.find? λc=>decide (p∈c)).map λc=>other c p
noncomputable def nH:Option Int->D
 |none=>.eU
 |some i=>.int i
theorem PK:∀(P:cn) (x2:Sl),(∀c∈P,c.length=2)->
  (rn P p=none->∃y,gp 2 gY (P.map tupI) [.dat T,cJ p,x2]=some (.next [.dat T,cJ p,y]))/\
  (∀q,rn P p=some q->gp 2 gY (P.map tupI) [.dat T,cJ p,x2]=some (.ret (.int q)))
 |[],x2,_=>⟨λ_=>⟨x2,rfl⟩,λq h=>by cases h⟩
 |c::P,x2,h2=>by
  obtain⟨i1,i2⟩:=PK (T:=T) (p:=p) P (cK c) λd hd=>h2 d (ai _ hd)
  have q:qB (dw uN (df 1) (df 2)) [.dat T,cJ p,cK c]=some (decide (p∈c)):=eN ((dM rfl rfl).trans (nX p c));rw[aF];unfold rn;rw[find?_cons];cases hp:decide (p∈c)with
  |true=>
   refine⟨(λz=>by cases z),λr hr=>?_⟩
   cases hr;refine wb (j:=2) (δ:=[.dat T,cJ p,x2]) (show gY [.dat T,cJ p,cK c]=_ from ?_)
   unfold gY sG;rw[kY (q.trans (by rw[hp]))]
   match c,h2 c af with
   |[a,b],_=>
    refine fC ?_;have q2:qB (dw nS (df 1) (dw gK (df 2) (dC (.int 0)))) [.dat T,cJ p,cK [a,b]]=some (decide (p=a)):=eN ((dM (x:=.int p) (y:=.int a) rfl rfl).trans (lJ _ _));unfold VI;rw[q2];show _=some (D.int (if p=a then b else a))
    by_cases e:p=a
    ·rw[aR e,if_pos e];rfl
    ·rw[aH e,if_neg e];rfl
  |false=>
   have nx:gY [.dat T,cJ p,cK c]=some (.next [.dat T,cJ p,cK c]):=by
    unfold gY sG;rw[hV (q.trans (by rw[hp]))]
    rfl
   rw[gj (j:=2) (δ:=[.dat T,cJ p,x2]) nx];exact⟨i1,i2⟩
def Dq (h2:∀c∈P,c.length=2):lC [.tup (P.map tupI),.int p]=some (nH (rn P p)):=by
 refine LW.dU rfl ?_;show qD [.dat (.tup (P.map tupI)),cJ p,.no]=_;obtain⟨i1,i2⟩:=PK (T:=.tup (P.map tupI)) (p:=p) P .no h2;unfold qD;cases h:rn P p with
 |none=>
  obtain⟨y,i⟩:=i1 h;rw[LW.cS (f:=sH) (δ:=[.dat (.tup (P.map tupI)),cJ p,.no]) (gU rfl i)];rfl
 |some q=>exact f6 (f:=sH) (gU rfl (i2 q h))
def rep (many:Int) (P:cn) (m y:cp) (p:Int):Option Int:=match rn P p with
 |some q=>if q∈dS many m y then some q else(dS many m y).head?
 |none=>(dS many m y).head?
def PL (h:eR l):∀a r,l=a::r->jf l=a:=λa r e=>by
 subst e;obtain⟨h1,h2⟩:=rY (a::r) (by simp)
 have:=h2 a af;rcases mem_cons.mp h1 with z|z
 ·exact z
 ·have:=(pairwise_cons.mp h).1 _ z;omega
def L6 (h:f δ=some (tupI l)) (YX:l.length<60) (r:eR l):wj f δ=some (nH l.head?):=by
 unfold wj;rw[h];show(if(l.map D.int).length<60 then(intsOf (l.map D.int)).map _ else none)=_
 rw[if_pos (by rw[ae];exact YX),jc]
 cases l with
 |nil=>rfl
 |cons a t=>
  show some (D.int (jf (a::t)))=_;rw[PL r a t rfl];rfl
def Vp (o:Option Int) (l:cp):uN (nH o) (tupI l)=some (.bl (match o with|some q=>decide (q∈l)|none=>false)):=by
 cases o with
 |some q=>exact nX q l
 |none=>
  show(if jO (l.map D.int)<=30 then some (D.bl (memD .eU (l.map D.int)))else none)=_
  rw[if_pos (by rw[LW.o7];omega)]
  congr 2
  unfold memD;rw[any_map];refine any_eq_false.mpr λi _=>?_
  show ¬ (jJ (.int i) .eU=true);unfold jJ;simp
def KL (hm0:0<=many) (hm:many<=12) (hl:m.length+y.length<64) (h2:∀c∈P,c.length=2):qE [LW.dF many L,.tup (P.map tupI),tupI m,tupI y,.int p]=some (nH (rep many P m y p)):=by
 let st:List Sl->gh:=λr=>.dat (LW.dF many L)::.dat (.tup (P.map tupI))::cK m::cK y::cJ p::r
 refine LW.dU rfl ?_;show wq (st [.no,.no])=_;have fl:=pe many m y;have fr:eR (dS many m y):=qi many m y;have e1:Dj (st [.no,.no])=some (.next (st [cK (dS many m y),.no])):=
  gr ((de rfl).trans (RL hm0 hm hl))
 have e2:Dk (st [cK (dS many m y),.no])=some (.next (st [cK (dS many m y),.dat (nH (rn P p))])):=
  gr ((de rfl).trans (Dq h2))
 have q:qB (dw uN (df 6) (df 5)) (st [cK (dS many m y),.dat (nH (rn P p))])=some (match rn P p with|some q=>decide (q∈dS many m y)|none=>false):=eN ((dM rfl rfl).trans (Vp _ _))
 have R4:Dl (st [cK (dS many m y),.dat (nH (rn P p))])=some (.ret (nH (dS many m y).head?)):=fC (L6 rfl (by omega) fr)
 have no:(match rn P p with|some q=>decide (q∈dS many m y)|none=>false)=false->tU (st [cK (dS many m y),.dat (nH (rn P p))])=some (.next (st [cK (dS many m y),.dat (nH (rn P p))])):=λz=>by
  unfold tU;rw[hV (q.trans (by rw[z]))]
  rfl
 unfold wq rep;rw[LW.cS e1,LW.cS e2];cases h:rn P p with
 |none=>
  rw[h]at no R4;rw[LW.cS (no rfl)];exact R4
 |some r=>
  rw[h]at no R4 q;by_cases hr:r∈dS many m y
  ·simp only[if_pos hr];refine f6 ?_;unfold tU;rw[kY (q.trans (by simp[hr]))]
   rfl
  ·simp only[if_neg hr];rw[LW.cS (no (by simp[hr]))]
   exact R4
noncomputable def PM (P:cn):List (Int×Int):=P.map λc=>(c.getD 0 0,c.getD 1 0)
def EJ (h2:∀c∈P,c.length=2):a∈PM P↔[a.1,a.2]∈P:=by
 unfold PM;rw[mem_map];constructor
 ·rintro⟨c,hc,rfl⟩
  match c,h2 c hc with
  |[a,b],_=>exact hc
 ·intro h;exact⟨_,h,rfl⟩
def KN (q:∀c∈P,iZ G.many c=true) (mt:Mt P) (cv:xr G.ls P):IY G (PM P):=by
 have ex:∀a∈PM P,[a.1,a.2]∈P/\(0<=a.1/\a.1<G.many)/\(0<=a.2/\a.2<G.many)/\a.1<a.2:=λa ha=>by
  have hm:=(EJ mt.two).mp ha;obtain⟨x,y,e,h⟩:=nF (q _ hm);cases e;exact⟨hm,h⟩
 refine⟨λa ha=>⟨(ex a ha).2.1,(ex a ha).2.2.1⟩,λa ha=>by have:=(ex a ha).2.2.2;omega,λa ha b hb x h1 h2=>?_,λl hl=>?_⟩
 ·have:=mt.dj _ (ex a ha).1 _ (ex b hb).1 x (by simpa using h1) (by simpa using h2)
  injection this with e1 e2
  injection e2 with e2 _
  exact Prod.ext e1 e2
 ·obtain⟨c,hc,hs⟩:=cv l hl
  match c,mt.two c hc with
  |[a,b],_=>exact⟨(a,b),(EJ mt.two).mpr hc,hs a (by simp),hs b (by simp)⟩
def Vq (mt:Mt P) (h:[a,b]∈P):rn P a=some b/\rn P b=some a:=by
 have lt:a<b:=by have:=mt.rise _ h;simpa [eR]using this
 have key:∀x,x∈[a,b]->rn P x=some (other [a,b] x):=λx hx=>by
  unfold rn;cases q:P.find? λc=>decide (x∈c)with
  |none=>exact absurd (aR hx) (find?_eq_none.mp q _ h)
  |some c=>
   have:=mt.dj c (mem_of_find?_eq_some q) _ h x (by simpa using find?_some q) hx
   subst this;rfl
 refine⟨(key a (by simp)).trans ?_,(key b (by simp)).trans ?_⟩
 ·show some (if a=a then b else a)=_
  rw[if_pos rfl]
 ·show some (if b=a then b else a)=_
  rw[if_neg (by omega)]
def PN {many:Int}{P:cn}{m y:cp}{p r:Int}(h:rep many P m y p=some r):r∈dS many m y:=by
 unfold rep at h;split at h
 ·split at h
  ·cases h;assumption
  ·exact mem_of_head? h
 ·exact mem_of_head? h
section
variable {G:Gm}{P:cn}(hG:G.Ok) (b1:G.b=1) (g1:G.g=1) (q:∀c∈P,iZ G.many c=true) (mt:Mt P) (cv:xr G.ls P)
include hG b1 g1 q mt cv
theorem PR {m y:cp}{x:Int}(p:nr G.many m y) (k:Kept (PM P) m y) (hx:x∈dS G.many m y) {r:cp}(hr:r=match rep G.many P (sortI (m++[x])) y x with|some a=>sortI (y++[a])|none=>y):
  nr G.many (sortI (m++[x])) r/\Kept (PM P) (sortI (m++[x])) r/\(dS G.many (sortI (m++[x])) r).length<(dS G.many m y).length:=by
 have fx:=gi.mp hx;have hf:1<=(dS G.many m y).length:=by
  cases h:dS G.many m y with
  |nil=>rw[h]at hx;cases hx
  |cons a t=>simp
 have hc:[x]∈G.qj m y 0:=lq.mpr ⟨by unfold CW;rw[if_pos rfl,b1];simp;omega,pairwise_singleton _ _,λz hz=>by rw[br]at hz;subst hz;exact hx⟩
 have p1:=OO p hc;have f1:=Gj p hc;rw[X5]at p1 f1;have f1:(dS G.many (sortI (m++[x])) y).length+1<=(dS G.many m y).length:=f1;have hP:=KN q mt cv;have kb:vW (PM P) (sortI (m++[x])) y x:=k.put hP fx.2.2;have hm:∀z,z∈sortI (m++[x])↔z∈m\/z=x:=λz=>by simp[eD]
 have part:∀a∈PM P,∀u v,(u=a.1/\v=a.2\/u=a.2/\v=a.1)->rn P u=some v:=λa ha u v h=>by
  have:=Vq mt ((EJ mt.two).mp ha);rcases h with⟨rfl,rfl⟩|⟨rfl,rfl⟩
  ·exact this.1
  ·exact this.2
 have rg:=hP.Ml;cases AU:rep G.many P (sortI (m++[x])) y x with
 |none=>
  rw[AU]at hr;subst hr;refine⟨p1,?_,by omega⟩
  have e0:∀v,rn P x=some v->v∈dS G.many (sortI (m++[x])) r->False:=λv hv hfv=>by
   unfold rep at AU;rw[hv]at AU;simp only[if_pos hfv]at AU;cases AU
  intro a ha;refine⟨λz=>?_,λz=>?_⟩
  ·rcases(kb a ha).1 z with u|⟨u,v⟩
   ·exact u
   ·exact bT λw=>e0 a.2 (part a ha x a.2 (.inl ⟨u.symm,rfl⟩)) (gi.mpr ⟨(rg a ha).2,v,w⟩)
  ·rcases(kb a ha).2 z with u|⟨u,v⟩
   ·exact u
   ·exact bT λw=>e0 a.1 (part a ha x a.1 (.inr ⟨u.symm,rfl⟩)) (gi.mpr ⟨(rg a ha).1,v,w⟩)
 |some s=>
  rw[AU]at hr;subst hr;have hs:=PN AU;have hfs:1<=(dS G.many (sortI (m++[x])) y).length:=by
   cases h:dS G.many (sortI (m++[x])) y with
   |nil=>rw[h]at hs;cases hs
   |cons a t=>simp
  have vf:[s]∈G.qj (sortI (m++[x])) y 1:=lq.mpr ⟨by unfold CW;rw[if_neg (by omega),g1];simp<;>omega,pairwise_singleton _ _,λz hz=>by rw[br]at hz;subst hz;exact hs⟩
  have p2:=OO p1 vf;have f2:=Gj p1 vf;rw[aaE]at p2 f2;have f2:(dS G.many (sortI (m++[x])) (sortI (y++[s]))).length+1<=(dS G.many (sortI (m++[x])) y).length:=f2;refine⟨p2,?_,(by show(dS G.many (sortI (m++[x])) (sortI (y++[s]))).length<_;omega)⟩
  have hy:∀z,z∈sortI (y++[s])↔z∈y\/z=s:=λz=>by simp[eD]
  have e0:∀v,rn P x=some v->v∈dS G.many (sortI (m++[x])) y->v=s:=λv hv hfv=>by
   unfold rep at AU;rw[hv]at AU;simp only[if_pos hfv]at AU;cases AU;rfl
  intro a ha;refine⟨λz=>(hy _).mpr ?_,λz=>(hy _).mpr ?_⟩
  ·rcases(kb a ha).1 z with u|⟨u,v⟩
   ·exact .inl u
   ·by_cases w:a.2∈y
    ·exact .inl w
    ·exact .inr (e0 a.2 (part a ha x a.2 (.inl ⟨u.symm,rfl⟩)) (gi.mpr ⟨(rg a ha).2,v,w⟩))
  ·rcases(kb a ha).2 z with u|⟨u,v⟩
   ·exact .inl u
   ·by_cases w:a.1∈y
    ·exact .inl w
    ·exact .inr (e0 a.1 (part a ha x a.1 (.inr ⟨u.symm,rfl⟩)) (gi.mpr ⟨(rg a ha).1,v,w⟩))
end
def G6 (hf:f δ=some (tupI a)) (hg:g δ=some (tupI b)) (h:a.length+b.length<64):cU i7 (cN (dL (eP iP (cN (dw lh f g) cT))) cT) δ=some (tupI (sortI (a++b))):=by
 have e:eP iP (cN (dw lh f g) cT) δ=some ((sortI (a++b)).map D.int):=by
  unfold eP;rw[rf ((dM hf hg).trans (o9 h))];exact qg (by rw[aQ];exact h)
 exact(ir (F:=i7) e).trans rfl
def Vr:qh many 1 1 m y 0=if dS many m y=[]then[[]]else(dS many m y).map λp=>[p]:=by
 rw[IZ (by simp)]
 show nY 1 _=_;unfold nY
 match dS many m y with
 |[]=>rfl
 |[p]=>rfl
 |p::q::r=>rw[if_neg (by simp),if_neg (by simp),vX]
def L7 {many:Int}{m y:cp}(hm0:0<=many) (hm:many<=12) (hl:m.length+y.length<64):g9 [jk many ls 0 1 1,tupI m,tupI y,.int 0]=some (.lst ((qh many 1 1 m y 0).map tupI)):=by
 refine LW.dU rfl ?_
 let st:List Sl->gh:=λr=>.dat (jk many ls 0 1 1)::cK m::cK y::cJ 0::r
 show kJ (st [.no,.no,.no,.no,.no,.no])=_;have fl:=pe many m y;have e1:qW (st [.no,.no,.no,.no,.no,.no])=some (.next (st [.own ((dS many m y).map D.int),.no,.no,.no,.no,.no])):=by
  refine iz (eW (ds:=(dD 0 many.toNat).map D.int) ?_ (by rw[ae,eF];omega) (fH (ψ:=D.int) _ (λi _=>eN ((dM rfl ((dM rfl rfl).trans (o9 hl))).trans (r9 i (m++y)))) λi _ _=>rfl))
  exact if_pos ⟨by omega,by omega⟩
 rw[Vr];generalize dS many m y=F at e1 fl;have e2:qX (st [.dat (.lst (F.map D.int)),.no,.no,.no,.no,.no])=some (.next (st [.dat (.lst (F.map D.int)),.own [tupI []],.no,.no,.no,.no])):=rfl;have e7:∃z5 r,mi (st [.dat (.lst (F.map D.int)),.dat (.lst [tupI []]),.no,.no,.no,.no])=some (.next (st (.dat (.lst (F.map D.int))::z5::r)))/\z5=.dat (.lst ((if F=[]then[[]]else F.map λp=>[p]).map tupI)):=by
  cases F with
  |nil=>exact⟨_,_,rfl,rfl⟩
  |cons p F=>
   have it:wG (cN (cU zt (cN (dw gK (df 0) (dw kZ (dC (.int 2)) (df 3))) (cN (cU hX (cN (df 4) cT)) cT))) cT) (st [.dat (.lst ((p::F).map D.int)),.dat (.lst [tupI []]),.no,.no,.no,.no])=some [.int 0]:=by
    have:cU zt (cN (dw gK (df 0) (dw kZ (dC (.int 2)) (df 3))) (cN (cU hX (cN (df 4) cT)) cT)) (st [.dat (.lst ((p::F).map D.int)),.dat (.lst [tupI []]),.no,.no,.no,.no])=some (.int 1):=by
     show some (D.int (if(((p::F).map D.int).length:Int)<1 then(((p::F).map D.int).length:Int)else 1))=_
     rw[if_neg (by rw[ae,ay];omega)]
    unfold wG;rw[rf this];rfl
   have e4:mh (st [.dat (.lst ((p::F).map D.int)),.dat (.lst [tupI []]),cJ 0,.own [],cK [],.no])=some (.next (st [.dat (.lst ((p::F).map D.int)),.dat (.lst [tupI []]),cJ 0,.own ((p::F).map λp=>tupI [p]),cK [],.no])):=by
    have ec:ei (iL (df 4)) 9 (Cr (qB (dw nS (df 8) (fV cT))) (qB (dw QU (df 9) (dw gK (df 8) (Q0 (dC (.int 1))))))) (dw lh (df 8) (fV (cN (cW 9) cT))) (st [.dat (.lst ((p::F).map D.int)),.dat (.lst [tupI []]),cJ 0,.own [],cK [],.no])=some ((p::F).map λp=>tupI [p]):=by
     refine eW (ds:=(p::F).map D.int) rfl (by rw[ae];omega) ((fH (p:=λ_=>true) (ψ:=λp=>tupI [p]) (p::F) (λi _=>rfl) λi _ _=>rfl).trans ?_)
     rw[filter_eq_self.mpr λ_ _=>rfl]
    unfold mh Ra;show(ei _ _ _ _ _).bind _=_;rw[ec];exact if_pos (by rw[ae];simp at fl ⊢;omega)
   refine⟨.dat (.lst ((p::F).map λp=>tupI [p])),[cJ 0,.dat (.lst ((p::F).map λp=>tupI [p])),cK [],.no],?_,by rw[if_neg (by simp),aV];rfl⟩
   unfold mi;refine gU it ((gj (j:=6) (δ:=st [.dat (.lst ((p::F).map D.int)),.dat (.lst [tupI []]),.no,.no,.no,.no]) (δ':=st [.dat (.lst ((p::F).map D.int)),.dat (.lst ((p::F).map λp=>tupI [p])),cJ 0,.dat (.lst ((p::F).map λp=>tupI [p])),cK [],.no]) ?_).trans rfl)
   show jE (st [.dat (.lst ((p::F).map D.int)),.dat (.lst [tupI []]),cJ 0,.no,.no,.no])=_;unfold jE;have e3:qY (st [.dat (.lst ((p::F).map D.int)),.dat (.lst [tupI []]),cJ 0,.no,.no,.no])=some (.next (st [.dat (.lst ((p::F).map D.int)),.dat (.lst [tupI []]),cJ 0,.own [],.no,.no])):=rfl;rw[LW.cS e3,LW.cS (f:=qZ) (gU rfl ((gj (j:=8) (d:=tupI []) (δ:=st [.dat (.lst ((p::F).map D.int)),.dat (.lst [tupI []]),cJ 0,.own [],.no,.no]) e4).trans rfl))];rfl
 obtain⟨z5,r,e7,rfl⟩:=e7;unfold kJ;rw[LW.cS e1,jw (δ':=st [.dat (.lst (F.map D.int)),.no,.no,.no,.no,.no]) rfl,LW.cS e2,jw (δ':=st [.dat (.lst (F.map D.int)),.dat (.lst [tupI []]),.no,.no,.no,.no]) rfl,LW.cS e7];rfl
section
variable {G:Gm}{P:cn}(hG:G.Ok) (b1:G.b=1) (g1:G.g=1) (q:∀c∈P,iZ G.many c=true) (mt:Mt P) (cv:xr G.ls P)
def S4 (G:Gm) (P:cn) (m y:cp) (r:List Sl):gh:=.dat (LW.dF G.many G.ls)::.dat (.tup (P.map tupI))::cK m::cK y::.dat (jk G.many G.ls 0 1 1)::r
include hG b1 g1 q mt cv
theorem Ds {m y:cp}{rc:cc}(p:nr G.many m y) (k:Kept (PM P) m y)
  (ih:∀m' y',nr G.many m' y'->Kept (PM P) m' y'->(dS G.many m' y').length<(dS G.many m y).length->rc [LW.dF G.many G.ls,.tup (P.map tupI),tupI m',tupI y']=some (.bl true)):
  ∀cs:cn,(∀c∈cs,c∈G.qj m y 0)->∀x5 x6 x7 x8:Sl,∃y5 y6 y7 y8,gp 5 (jv rc) (cs.map tupI) (S4 G P m y [x5,x6,x7,x8])=some (.next (S4 G P m y [y5,y6,y7,y8]))
 |[],_,x5,x6,x7,x8=>⟨x5,x6,x7,x8,rfl⟩
 |c::cs,Qd,x5,x6,x7,x8=>by
  have hc:=Qd c af;have cm:=lq.mp hc;have m9:=hG.m9;have lm:m.length<=9:=aD (pf (many:=G.many) p.rm p.im) (by omega)
  have ly:y.length<=9:=aD (pf (many:=G.many) p.ry p.iy) (by omega)
  have nxt:∃z6 z7 z8,jv rc (S4 G P m y [cK c,x6,x7,x8])=some (.next (S4 G P m y [cK c,z6,z7,z8])):=by
   have Yi:qB (dw rP (df 5) (fV cT)) (S4 G P m y [cK c,x6,x7,x8])=some (!decide (c=[])):=eN ((dM (x:=tupI c) (y:=tupI []) rfl rfl).trans (wc _ _));unfold jv sM;have cl:=LL hG hc;rw[if_pos rfl,b1]at cl
   match c,cm,cl,Yi with
   |[],_,_,Yi=>
    refine⟨x6,x7,x8,?_⟩;rw[hV (Yi.trans rfl)];rfl
   |[x],cm,_,Yi=>
    have hx:=cm.2.2 x (by simp)
    rw[kY (Yi.trans rfl)];obtain⟨p',k',f'⟩:=PR hG b1 g1 q mt cv p k hx (r:=match rep G.many P (sortI (m++[x])) y x with|some a=>sortI (y++[a])|none=>y) rfl
    have ll:(sortI (m++[x])).length<=10:=by rw[(sortI_perm _).length_eq];simp;omega
    have e4:uD rc (S4 G P m y [cK [x],x6,x7,x8])=some (.next (S4 G P m y [cK [x],cK (sortI (m++[x])),x7,x8])):=
     gr (G6 (a:=m) (b:=[x]) rfl rfl (by simp;omega))
    have e5:uE rc (S4 G P m y [cK [x],cK (sortI (m++[x])),x7,x8])=some (.next (S4 G P m y [cK [x],cK (sortI (m++[x])),.dat (nH (rep G.many P (sortI (m++[x])) y x)),x8])):=
     gr ((de rfl).trans (KL (L:=G.ls) (P:=P) hG.m0 (by omega) (by omega) mt.two))
    have e6:uF rc (S4 G P m y [cK [x],cK (sortI (m++[x])),.dat (nH (rep G.many P (sortI (m++[x])) y x)),x8])=some (.next (S4 G P m y [cK [x],cK (sortI (m++[x])),.dat (nH (rep G.many P (sortI (m++[x])) y x)),cK y])):=rfl;have e8:oN rc (S4 G P m y [cK [x],cK (sortI (m++[x])),.dat (nH (rep G.many P (sortI (m++[x])) y x)),cK y])=some (.next (S4 G P m y [cK [x],cK (sortI (m++[x])),.dat (nH (rep G.many P (sortI (m++[x])) y x)),cK (match rep G.many P (sortI (m++[x])) y x with|some a=>sortI (y++[a])|none=>y)])):=by
     unfold oN;cases rep G.many P (sortI (m++[x])) y x with
     |none=>rfl
     |some a=>
      refine(kY (show _=some true from rfl)).trans ?_
      exact gr (G6 (a:=y) (b:=[a]) rfl rfl (by simp;omega))
    have U8:nE rc (S4 G P m y [cK [x],cK (sortI (m++[x])),.dat (nH (rep G.many P (sortI (m++[x])) y x)),cK (match rep G.many P (sortI (m++[x])) y x with|some a=>sortI (y++[a])|none=>y)])=some (.next (S4 G P m y [cK [x],cK (sortI (m++[x])),.dat (nH (rep G.many P (sortI (m++[x])) y x)),cK (match rep G.many P (sortI (m++[x])) y x with|some a=>sortI (y++[a])|none=>y)])):=by
     unfold nE;rw[hV (n5 (eN ((de rfl).trans (ih _ _ p' k' f'))))];rfl
    exact⟨_,_,_,by rw[LW.cS e4,LW.cS e5,LW.cS e6,LW.cS e8,U8]⟩
   |_::_::_,_,cl,_=>simp at cl
  obtain⟨z6,z7,z8,e⟩:=nxt;obtain⟨y5,y6,y7,y8,i⟩:=Ds p k ih cs (λd hd=>Qd d (ai _ hd)) (cK c) z6 z7 z8
  refine⟨y5,y6,y7,y8,?_⟩;rw[aF];exact(gj (j:=5) (δ:=S4 G P m y [x5,x6,x7,x8]) e).trans i
theorem PU:∀(n:Nat) (m y:cp),nr G.many m y->Kept (PM P) m y->(dS G.many m y).length<n->gc n [LW.dF G.many G.ls,.tup (P.map tupI),tupI m,tupI y]=some (.bl true)
 |0,m,y,_,_,h=>by omega
 |n+1,m,y,p,k,h=>by
  have m9:=hG.m9;have lm:m.length<=9:=aD (pf (many:=G.many) p.rm p.im) (by omega)
  have ly:y.length<=9:=aD (pf (many:=G.many) p.ry p.iy) (by omega)
  unfold gc;refine LW.dU rfl ?_;show kR (gc n) [.dat (LW.dF G.many G.ls),.dat (.tup (P.map tupI)),cK m,cK y,.no,.no,.no,.no,.no]=_;have e1:uC (gc n) [.dat (LW.dF G.many G.ls),.dat (.tup (P.map tupI)),cK m,cK y,.no,.no,.no,.no,.no]=some (.next (S4 G P m y [.no,.no,.no,.no])):=rfl;have e3:oM (gc n) (S4 G P m y [.no,.no,.no,.no])=some (.next (S4 G P m y [.no,.no,.no,.no])):=by
   unfold oM;have no0:=(k.but 0).open p (KN q mt cv);have:qB (dw nS (cU j9 (cN (cW 4) (cN (cW 2) (cN (cW 3) cT)))) (dC (.int 0))) (S4 G P m y [.no,.no,.no,.no])=some false:=by
    refine eN ((dM (y:=.int 0) ((de rfl).trans (Vd (ls:=G.ls) (m:=m) (y:=y) hG.ll)) rfl).trans ?_);have no0:¬ CU G.ls m y=some 0:=no0;cases hv:CU G.ls m y with
    |none=>rfl
    |some i=>
     refine(lJ i 0).trans ?_;rw[aH λz=>no0 (by rw[hv,z])]
   rw[hV this];rfl
  have it:iL (cU g9 (cN (cW 4) (cN (cW 2) (cN (cW 3) (cN (dC (.int 0)) cT))))) (S4 G P m y [.no,.no,.no,.no])=some ((G.qj m y 0).map tupI):=by
   have:cU g9 (cN (cW 4) (cN (cW 2) (cN (cW 3) (cN (dC (.int 0)) cT)))) (S4 G P m y [.no,.no,.no,.no])=some (.lst ((G.qj m y 0).map tupI)):=by
    refine(de rfl).trans ((L7 (ls:=G.ls) hG.m0 (by omega) (by omega)).trans ?_)
    unfold Gm.qj;rw[b1,g1]
   unfold iL;rw[this]
  obtain⟨y5,y6,y7,y8,i⟩:=Ds hG b1 g1 q mt cv (rc:=gc n) p k (λm' y' p' k' h'=>PU n m' y' p' k' (by omega)) (G.qj m y 0) (λc h=>h) .no .no .no .no
  unfold kR;rw[LW.cS e1,LW.cS e3,LW.cS (f:=sN _) (gU it i)];rfl
end
noncomputable def PV:Nat->cp->List (cn)
 |0,_=>[[]]
 |_+1,[]=>[[]]
 |n+1,p::r=>PV n r++r.flatMap λb=>(PV n (r.filter λx=> !decide (x=b))).map ([p,b]:: ·)
def iM (n:Nat):List (cn):=PV 8 (dD 0 n)
def dP (P:cn):D:=.tup (P.map tupI)
def six (h1:1<=n) (h6:n<=6):n=1\/n=2\/n=3\/n=4\/n=5\/n=6:=by omega
def Yj {n:Nat}(h1:1<=n) (h6:n<=6):nD 8 [.lst ((dD 0 n).map D.int)]=some (.lst ((iM n).map dP)):=by
 rcases six h1 h6 with rfl|rfl|rfl|rfl|rfl|rfl<;>kernel_rfl!
def PX (h1:1<=n) (h6:n<=6):∀P∈iM n,l7 (n:Int) [] P=true:=by
 rcases six h1 h6 with rfl|rfl|rfl|rfl|rfl|rfl<;>decide +kernel
def xF (h1:1<=n) (h6:n<=6):1<=(iM n).length/\(iM n).length<=76/\∀P∈iM n,P.length<=3:=by
 rcases six h1 h6 with rfl|rfl|rfl|rfl|rfl|rfl<;>decide +kernel
theorem EK:∀(n:Nat) (s:cp) (P:cn),s.length<=n->eR s->Mt P->P.Pairwise (λa b=>HT.lexLt a b=true)->(∀c∈P,∀x∈c,x∈s)->P∈PV n s
 |n,[],P,_,_,mt,_,h=>by
  have:P=[]:=by
   cases P with
   |nil=>rfl
   |cons c Q=>
    obtain⟨a,b,rfl,_⟩:=uW (mt.rise c af) (mt.two c af);exact absurd (h _ af a af) (by simp)
  subst this;cases n<;>simp[PV]
 |0,_::_,_,hl,_,_,_,_=>by simp at hl
 |n+1,p::r,P,hl,rs,mt,lx,h=>by
  simp only[ay]at hl;obtain⟨r1,r2⟩:=pairwise_cons.mp rs;refine mem_append.mpr ?_;by_cases hp:∃c∈P,p∈c
  ·right;obtain⟨c,hc,pc⟩:=hp;obtain⟨a,b,rfl,ab⟩:=uW (mt.rise c hc) (mt.two c hc);have low:∀c∈P,∀x∈c,p<=x:=λc hc x hx=>by
    rcases mem_cons.mp (h c hc x hx)with e|e
    ·omega
    ·have:=r1 x e;omega
   have ea:a=p:=by
    have:=low _ hc a (by simp)
    rcases mem_cons.mp pc with e|e
    ·omega
    ·rw[br]at e;omega
   subst ea;cases P with
   |nil=>cases hc
   |cons d Q=>
    have ed:d=[a,b]:=by
     rcases mem_cons.mp hc with e|e
     ·exact e.symm
     ·have lt:=(pairwise_cons.mp lx).1 _ e;obtain⟨a',b',rfl,_⟩:=uW (mt.rise d af) (mt.two d af);have:=low _ af a' (by simp)
      by_cases q:a'=a
      ·exact mt.dj _ af _ hc a (by simp[q]) (by simp)
      ·rw[HT.jb,if_neg q]at lt;have:=bJ lt;omega
    subst ed;have mq:=mt.sub (sublist_cons_self [a,b] Q);have nq:=(nodup_cons.mp mt.nd).1;have S1:∀c∈Q,∀x∈c,x∉[a,b]:=λc hq x hx hx'=>by
     have:=mt.dj _ af c (ai _ hq) x hx' hx;subst this;exact nq hq
    have hb:b∈r:=by
     rcases mem_cons.mp (h _ af b (by simp))with e|e
     ·omega
     ·exact e
    refine mem_flatMap.mpr ⟨b,hb,mem_map.mpr ⟨Q,?_,rfl⟩⟩;refine EK n _ Q (aD (aW _ _) (by omega)) (List.Pairwise.filter _ r2) mq (pairwise_cons.mp lx).2 λc hq x hx=>?_
    have fx:=S1 c hq x hx;simp only[mem_cons,bH,or_false,not_or]at fx;rcases mem_cons.mp (h c (ai _ hq) x hx)with e|e
    ·exact absurd e fx.1
    ·exact mem_filter.mpr ⟨e,by simp[fx.2]⟩
  ·left;refine EK n r P (by omega) r2 mt lx λc hc x hx=>?_
   rcases mem_cons.mp (h c hc x hx)with e|e
   ·subst e;exact absurd ⟨c,hc,hx⟩ hp
   ·exact e
structure EP (many:Int) (P:cn):Prop where
 q:∀c∈P,iZ many c=true
 mt:Mt P
 lex:P.Pairwise λa b=>HT.lexLt a b=true
 ZM:fi P=P
 vR:P.length<=6
theorem EP.two (h:EP many P):∀c∈P,c.length<=2:=λc hc=>by rw[h.mt.two c hc];exact au _
def PY (q:∀c∈P,iZ many c=true) (mt:Mt P) (lex:P.Pairwise λa b=>HT.lexLt a b=true) (h6:P.length<=6):EP many P:=
 ⟨q,mt,lex,(bJ ((lr mt.nd).symm.trans (LW.j0 lex))).symm,h6⟩
structure Dr (many:Int) (n:Nat) (ls:cn):Prop where
 hn:(n:Int)=many
 n1:1<=n
 n6:n<=6
 rise:∀l∈ls,eR l
 S8:∀l∈ls,∀p∈l,0<=p/\p<many
 four:∀l∈ls,l.length<=4
 vR:ls.length<=6
section
variable {many c:Int}{n:Nat}{ls:cn} (dr:Dr many n ls)
include dr
theorem AV {P:cn}(h:P∈iM n):EP many P:=by
 have o:=PX dr.n1 dr.n6 P h;rw[dr.hn]at o;obtain⟨h1,h2,_⟩:=L5 o;unfold l7 at o;simp only[Bool.and_eq_true]at o;exact PY h1 h2 (xE o.2.1) (by have:=(xF dr.n1 dr.n6).2.2 P h;omega)
theorem EP.have {P:cn}(h:EP many P):l7 many ls P=iE ls P:=PJ h.q h.mt h.lex
theorem EP.is {P:cn}(h:EP many P):gu [LW.dF many ls,dP P]=some (.bl (iE ls P)):=by
 rw[<-EP.have dr h];exact wz (by have:=dr.vR;omega) (by have:=h.vR;omega) h.two
theorem EP.law {P:cn}(h:EP many P):eB [LW.dF many ls,dP P]=some (.bl (iE ls P)):=by
 rw[<-EP.have dr h];exact G5 (by have:=dr.vR;omega) (by have:=h.vR;omega)
theorem L8 {P:cn}(h:EP many P):P∈iM n:=by
 have:=dr.n6;refine EK 8 _ P (by rw[eF];omega) (ji _ _) h.mt h.lex λc hc x hx=>?_
 obtain⟨a,b,rfl,h1,h2,_⟩:=nF (h.q c hc);have:=dr.hn;refine(LW.g8 n 0 x).mpr ?_;rcases mem_cons.mp hx with rfl|hx
 ·omega
 ·rw[br]at hx;omega
theorem yS {P:cn}(h:Jp ls P):EP many P:=by
 refine PY (λc hc=>?_) h.mt h.lex h.vR
 obtain⟨a,b,rfl,ab⟩:=uW (h.mt.rise c hc) (h.mt.two c hc);obtain⟨l,hl,hs⟩:=h.inl _ hc;have h1:=dr.S8 l hl a (hs a (by simp))
 have h2:=dr.S8 l hl b (hs b (by simp))
 unfold iZ;exact aR ⟨h1,h2,ab⟩
end
def SE (S:Sl) (c many:Int) (n:Nat) (ls:cn) (r:List Sl):gh:=S::cJ c::.dat (LW.dF many ls)::.dat (.lst ((iM n).map dP))::r
def nJ (n:Nat) (ls:cn):List (cn):=(iM n).filter λP=>iE ls P
def AW (hi:df i δ=some (dP P)) (h:EP many P):cU i7 (cN (dL (eP gH (cN (df i) cT))) cT) δ=some (dP P):=by
 have e:eP gH (cN (df i) cT) δ=some ((fi P).map tupI):=by
  unfold eP;rw[rf hi];exact AS (by have:=h.vR;omega) (λc hc z=>by have:=h.mt.two c hc;subst z;cases this)
 rw[h.ZM]at e;exact(ir (F:=i7) e).trans rfl
section
variable {many c:Int}{n:Nat}{ls:cn}{S:Sl}(dr:Dr many n ls) {x4 x5 x6 x7 x8 x9 x10 x11 x12 x13 x14 x15 x16 x17:Sl}
include dr
theorem l3:EE (SE S c many n ls [x4,x5,x6,x7,x8,x9,x10,x11,x12,x13,x14,x15,x16,x17])=some (.next (SE S c many n ls [.own ((nJ n ls).map dP),x5,x6,x7,x8,x9,x10,x11,x12,x13,x14,x15,x16,x17])):=by
 refine iz (eW (ds:=(iM n).map dP) rfl (by rw[ae];have:=(xF dr.n1 dr.n6).2.1;omega) (fH (ψ:=dP) _ (λP hP=>?_) λP _ _=>rfl))
 have ep:=AV dr hP;exact eN ((de (AO rfl (rf (AW (P:=P) rfl ep)))).trans (EP.law dr ep))
theorem good_none (h:¬ OV ls):nJ n ls=[]:=filter_eq_nil_iff.mpr λP hP z=>h ⟨P,(AV dr hP).mt,jT.mp z⟩
theorem L9 {P:cn}(h:Jp ls P):nJ n ls≠[]:=λz=>by
 have:=filter_eq_nil_iff.mp z P (L8 dr (yS dr h));exact this (jT.mpr h.YY)
theorem Vs:xx ⟨many,ls,1,1⟩:=by
 have:=dr.n6;have:=dr.vR;have:=dr.hn;exact⟨⟨by show 0<=many;omega,by show many<=9;omega,dr.S8,λl hl=>by have:=dr.four l hl;omega,by show(1:Int)<=1;omega,by show(1:Int)<=4;omega,by show(1:Int)<=1;omega,by show(1:Int)<=4;omega⟩,by show ls.length<=18;omega,dr.rise⟩
theorem l8 {P:cn}(h:Jp ls P):EG (SE S c many n ls [x4,.dat (dP P),x6,x7,x8,x9,x10,x11,x12,x13,x14,x15,x16,x17])=some (.next (SE S c many n ls [x4,.dat (dP P),x6,x7,x8,x9,x10,x11,x12,x13,x14,x15,x16,x17])):=by
 have ep:=yS dr h;have hv:=jT.mpr h.YY;unfold EG;rw[hV (Ay (eN ((dM (o:=HZ) (y:=.bl true) ((de rfl).trans (EP.is dr ep)) rfl).trans (by rw[hv];rfl))) (n5 (b:=true) (eN ((de rfl).trans ((EP.law dr ep).trans (by rw[hv]))))))]
 rfl
theorem l11 {P:cn}(h:Jp ls P):∀(cs:cn),(∀k∈cs,k∈P)->∀x6:Sl,∃y6,gp 6 sO (cs.map tupI) (SE S c many n ls [x4,.dat (dP P),x6,x7,x8,x9,x10,x11,x12,x13,x14,x15,x16,x17])=some (.next (SE S c many n ls [x4,.dat (dP P),y6,x7,x8,x9,x10,x11,x12,x13,x14,x15,x16,x17]))
 |[],_,x6=>⟨x6,rfl⟩
 |k::cs,hs,x6=>by
  have ep:=yS dr h;have sb:(less P k).Sublist P:=filter_sublist;have el:EP many (less P k):=PY (λc hc=>ep.q c (sb.subset hc)) (ep.mt.sub sb) (List.Pairwise.sublist sb ep.lex) (aD sb.length_le ep.vR)
  have hv:iE ls (less P k)=false:=by
   cases q:iE ls (less P k)with
   |false=>rfl
   |true=>exact absurd (jT.mp q) (h.least k (hs k af))
  have e:sO (SE S c many n ls [x4,.dat (dP P),cK k,x7,x8,x9,x10,x11,x12,x13,x14,x15,x16,x17])=some (.next (SE S c many n ls [x4,.dat (dP P),cK k,x7,x8,x9,x10,x11,x12,x13,x14,x15,x16,x17])):=by
   unfold sO GO;have ec:ei (iT (cW 5)) 17 (qB (dw rP (df 17) (df 6))) (cW 17) (SE S c many n ls [x4,.dat (dP P),cK k,x7,x8,x9,x10,x11,x12,x13,x14,x15,x16,x17])=some ((less P k).map tupI):=
    eW (ds:=P.map tupI) rfl (by rw[ae];have:=ep.vR;omega) (fH (ψ:=tupI) P (λo _=>eN ((dM rfl rfl).trans (wc o k))) λo _ _=>rfl)
   rw[hV (eN ((de (AO rfl (rf ((ir (F:=i7) ec).trans rfl)))).trans ((EP.law dr el).trans (by rw[hv]))))]
   rfl
  obtain⟨y6,ih⟩:=l11 h cs (λd hd=>hs d (ai _ hd)) (cK k)
  refine⟨y6,?_⟩;rw[aF];exact(gj (j:=6) (δ:=SE S c many n ls [x4,.dat (dP P),x6,x7,x8,x9,x10,x11,x12,x13,x14,x15,x16,x17]) e).trans ih
theorem l13 {P:cn}(h:Jp ls P):AI (SE S c many n ls [x4,.dat (dP P),x6,x7,x8,x9,x10,x11,x12,x13,x14,x15,x16,x17])=some (.next (SE S c many n ls [x4,.dat (dP P),x6,x7,x8,x9,x10,x11,x12,x13,x14,x15,x16,x17])):=by
 have ep:=yS dr h;have es:many<6->gc 7 [LW.dF many ls,dP P,tupI [],tupI []]=some (.bl true):=λh6=>PU (G:=⟨many,ls,1,1⟩) (Vs dr).ok rfl rfl ep.q ep.mt h.YY 7 [] [] (Ki _) (λa _=>⟨(λz=>by cases z),λz=>by cases z⟩) (by have:=pe many [] [];show(dS many [] []).length<7;omega)
 have q1:qB (dw Lm (dw gK (df 2) (dC (.int 0))) (dC (.int 6))) (SE S c many n ls [x4,.dat (dP P),x6,x7,x8,x9,x10,x11,x12,x13,x14,x15,x16,x17])=some (decide (many<6)):=rfl;unfold AI;by_cases h6:many<6
 ·rw[hV (Jg (q1.trans (by rw[aR h6])) (n5 (b:=true) (eN ((de rfl).trans (es h6)))))]
  rfl
 ·rw[hV (O0 (q1.trans (by rw[aH h6])))]
  rfl
theorem l15 {P:cn}(h:Jp ls P):AJ (SE S c many n ls [x4,.dat (dP P),x6,x7,x8,x9,x10,x11,x12,x13,x14,x15,x16,x17])=some (.next (SE S c many n ls [x4,.dat (dP P),x6,x7,x8,x9,x10,x11,x12,x13,x14,x15,x16,x17])):=by
 have cv:=(Vo dr.rise).mpr h.YY;have e0:=Dh (f:=0) (Vs dr) rfl rfl (.inl rfl);have e1:=Dh (f:=1) (Vs dr) rfl rfl (.inr rfl);rw[(vZ h.mt 12 _ (mU dr.rise)).1 cv]at e0;rw[OX h.mt cv (mU dr.rise) 11]at e1;unfold AJ;rw[hV (Ay (eN ((dM (o:=rP) (y:=.int 1) ((de (ds:=[dG ⟨many,ls,1,1⟩ 0]) rfl).trans e0) rfl).trans rfl)) (eN ((dM (o:=rP) (y:=.int 1) ((de (ds:=[dG ⟨many,ls,1,1⟩ 1]) rfl).trans e1) rfl).trans rfl)))];rfl
theorem Yk:∃y4 y5 y6,(dH EE (hO 4 (dH EF (dH wt AK)))) (SE S c many n ls [x4,x5,x6,x7,x8,x9,x10,x11,x12,x13,x14,x15,x16,x17])=some (.next (SE S c many n ls [y4,y5,y6,x7,x8,x9,x10,x11,x12,x13,x14,x15,x16,x17])):=by
 have d6:∀l∈ls,∀p∈l,0<=p/\p<6:=λl hl p hp=>by have:=dr.S8 l hl p hp;have:=dr.hn;have:=dr.n6;omega
 have e4:∀d,kf [LW.dF many ls]=some d->EF (SE S c many n ls [.dat (.lst ((nJ n ls).map dP)),x5,x6,x7,x8,x9,x10,x11,x12,x13,x14,x15,x16,x17])=some (.next (SE S c many n ls [.dat (.lst ((nJ n ls).map dP)),.dat d,x6,x7,x8,x9,x10,x11,x12,x13,x14,x15,x16,x17])):=λd hd=>gr ((de rfl).trans hd)
 rw[LW.cS (l3 dr),jw (δ':=SE S c many n ls [.dat (.lst ((nJ n ls).map dP)),x5,x6,x7,x8,x9,x10,x11,x12,x13,x14,x15,x16,x17]) rfl];rcases L0 (many:=many) dr.rise d6 dr.four dr.vR with⟨P,hP,best⟩|⟨hP,na⟩
 ·obtain⟨y6,e11⟩:=l11 (S:=S) (c:=c) (x4:=.dat (.lst ((nJ n ls).map dP))) (x7:=x7) (x8:=x8) (x9:=x9) (x10:=x10) (x11:=x11) (x12:=x12) (x13:=x13) (x14:=x14) (x15:=x15) (x16:=x16) (x17:=x17) dr best P (λk h=>h) x6
  refine⟨.dat (.lst ((nJ n ls).map dP)),.dat (dP P),y6,?_⟩;rw[LW.cS (e4 _ hP)];have e6:wt (SE S c many n ls [.dat (.lst ((nJ n ls).map dP)),.dat (dP P),x6,x7,x8,x9,x10,x11,x12,x13,x14,x15,x16,x17])=some (.next (SE S c many n ls [.dat (.lst ((nJ n ls).map dP)),.dat (dP P),x6,x7,x8,x9,x10,x11,x12,x13,x14,x15,x16,x17])):=by
   have en:Ks (df 4) (SE S c many n ls [.dat (.lst ((nJ n ls).map dP)),.dat (dP P),x6,x7,x8,x9,x10,x11,x12,x13,x14,x15,x16,x17])=some (.bl false):=by
    show some (D.bl (!(!((nJ n ls).map dP).isEmpty)))=_;have:=L9 dr best;cases q:nJ n ls with
    |nil=>exact absurd q this
    |cons a r=>rfl
   unfold wt;rw[hV (eN ((dM (o:=rP) (x:=.bl false) rfl en).trans rfl))];rfl
  rw[LW.cS (show wt (SE S c many n ls [.dat (.lst ((nJ n ls).map dP)),.dat (.tup (P.map tupI)),x6,x7,x8,x9,x10,x11,x12,x13,x14,x15,x16,x17])=_ from e6)]
  unfold AK;refine(kY (show _=some true from rfl)).trans ?_
  rw[LW.cS (l8 dr best),LW.cS (f:=GQ) (gU rfl e11),LW.cS (l13 dr best)];exact l15 dr best
 ·refine⟨.dat (.lst ((nJ n ls).map dP)),.dat .eU,x6,?_⟩;rw[LW.cS (e4 _ hP),good_none dr na];rfl
end
def Vt (b:Bool):rP (.bl b) (.bl b)=some (.bl false):=Ax (by simp[eV])
def aaQ (ds:cw):uO ds (some 1) none=ds.drop 1:=by
 cases ds with
 |nil=>rfl
 |cons a r=>
  show((a::r).drop (min 1 (r.length+1))).take (r.length+1-min 1 (r.length+1))=r;rw[Nat.min_eq_left (by omega)]
  show r.take (r.length+1-1)=r;rw[Nat.add_sub_cancel];exact take_of_length_le (au _)
def aaR (ds:cw):uO ds none (some 1)=ds.take 1:=by
 cases ds with
 |nil=>rfl
 |cons a r=>
  show((a::r).drop 0).take (min 1 (r.length+1)-0)=_;rw[Nat.min_eq_left (by omega)]
  rfl
theorem G7:∀{P:cn},Mt P->(P.filter λk=>decide (p∈k))=(P.find? λk=>decide (p∈k)).toList
 |[],_=>rfl
 |k::P,mt=>by
  rw[bq,find?_cons];cases h:decide (p∈k)with
  |false=>simpa using G7 (mt.sub (sublist_cons_self k P))
  |true=>
   have:(P.filter λk=>decide (p∈k))=[]:=filter_eq_nil_iff.mpr λd hd z=>by
    have:=mt.dj k af d (ai _ hd) p (bJ h) (bJ z);subst this;exact(nodup_cons.mp mt.nd).1 hd
   simp[this]
def oj (P:cn):cw:=[dP P,dP (P.drop 1),dP P.reverse,dP (P++P.take 1),.lst (P.map tupI)]
def SF (S:Sl) (c many:Int) (n:Nat) (ls P:cn) (x4 x5 x6:Sl) (r:List Sl):gh:=SE S c many n ls (x4::x5::x6::.dat (dP P)::r)
section
variable {many c:Int}{n:Nat}{ls P:cn}{S:Sl}(dr:Dr many n ls) {x4 x5 x6 x7 x8 x9 x10 x11 x12 x13 x14 x15 x16 x17:Sl}
include dr
theorem l17:∃P∈iM n,GR (SE S c many n ls [x4,x5,x6,x7,x8,x9,x10,x11,x12,x13,x14,x15,x16,x17])=some (.next (SF S c many n ls P x4 x5 x6 [x8,x9,x10,x11,x12,x13,x14,x15,x16,x17])):=by
 have el:=xF dr.n1 dr.n6;have hp:(0:Int)<((iM n).length:Int):=by omega
 have m0:=LW.vM (c:=c) (p:=9901) hp;have m1:=LW.vN (c:=c) (p:=9901) hp;obtain⟨k,hk⟩:∃k:Nat,LW.lW c 9901 ((iM n).length:Int)=(k:Int):=⟨_,(Int.toNat_of_nonneg m0).symm⟩;have ID:k<(iM n).length:=by omega
 refine⟨(iM n)[k],getElem_mem ID,gr ?_⟩;have e1:cU eC (cN (cW 1) (cN (dC (.int 9901)) (cN (cU hX (cN (df 3) cT)) cT))) (SE S c many n ls [x4,x5,x6,x7,x8,x9,x10,x11,x12,x13,x14,x15,x16,x17])=some (.int (k:Int)):=by
  refine(de (ds:=[.int c,.int 9901,.int ((iM n).length:Int)]) ?_).trans ?_
  ·show some [D.int c,.int 9901,.int (((iM n).map dP).length:Int)]=_;rw[ae]
  ·rw[S5 (by omega) hp,hk]
 refine(dM (o:=gK) (x:=.lst ((iM n).map dP)) rfl e1).trans ?_;show mE ((iM n).map dP) (k:Int)=_;rw[LW.qf _ _ (by rw[ae];exact ID),av,ah ID]
 rfl
theorem l18 (ep:EP many P):AL (SF S c many n ls P x4 x5 x6 [x8,x9,x10,x11,x12,x13,x14,x15,x16,x17])=some (.next (SF S c many n ls P x4 x5 x6 [.own (oj P),x9,x10,x11,x12,x13,x14,x15,x16,x17])):=by
 have c1:D7 (df 7) (uP (dC (.int 1))) Mp (SF S c many n ls P x4 x5 x6 [x8,x9,x10,x11,x12,x13,x14,x15,x16,x17])=some (dP (P.drop 1)):=by
  show some (D.tup (uO (P.map tupI) (some 1) none))=_;rw[aaQ,<-map_drop];rfl
 have c2:JZ (df 7) (SF S c many n ls P x4 x5 x6 [x8,x9,x10,x11,x12,x13,x14,x15,x16,x17])=some (dP P.reverse):=by
  show some (D.tup (P.map tupI).reverse)=_;rw[<-map_reverse];rfl
 have c3:dw lh (df 7) (D7 (df 7) Mp (uP (dC (.int 1)))) (SF S c many n ls P x4 x5 x6 [x8,x9,x10,x11,x12,x13,x14,x15,x16,x17])=some (dP (P++P.take 1)):=by
  refine(dM (o:=lh) (x:=dP P) (y:=dP (P.take 1)) rfl ?_).trans ?_
  ·show some (D.tup (uO (P.map tupI) none (some 1)))=_;rw[aaR,<-map_take];rfl
  ·have:=ep.vR;show(if(P.map tupI).length+((P.take 1).map tupI).length<=1000000 then some (D.tup (P.map tupI++(P.take 1).map tupI))else none)=_
   rw[if_pos (by rw[ae,ae,bI];omega),<-map_append];rfl
 have c5:cN (dL (eP zr (cN (df 7) cT))) cT (SF S c many n ls P x4 x5 x6 [x8,x9,x10,x11,x12,x13,x14,x15,x16,x17])=some [.lst (P.map tupI)]:=rfl;have c6:=AO (AW (i:=7) (P:=P) (δ:=SF S c many n ls P x4 x5 x6 [x8,x9,x10,x11,x12,x13,x14,x15,x16,x17]) rfl ep) (AO c1 (AO c2 (AO c3 c5)));unfold AL;refine iz ?_;unfold rO;rw[c6];rfl
theorem PZ:∀(ts:cw),(∀t∈ts,∃b,gu [LW.dF many ls,t]=some (.bl b)/\eB [LW.dF many ls,t]=some (.bl b))->∀x9 x10:Sl,∃y9 y10,
  gp 9 sP ts (SF S c many n ls P x4 x5 x6 [x8,x9,x10,x11,x12,x13,x14,x15,x16,x17])=some (.next (SF S c many n ls P x4 x5 x6 [x8,y9,y10,x11,x12,x13,x14,x15,x16,x17]))
 |[],_,x9,x10=>⟨x9,x10,rfl⟩
 |t::ts,h,x9,x10=>by
  obtain⟨b,h1,h2⟩:=h t af;obtain⟨y9,y10,ih⟩:=PZ ts (λu hu=>h u (ai _ hu)) (.dat t) (.dat (.bl b))
  refine⟨y9,y10,(gj (j:=9) (δ:=SF S c many n ls P x4 x5 x6 [x8,x9,x10,x11,x12,x13,x14,x15,x16,x17]) (δ':=SF S c many n ls P x4 x5 x6 [x8,.dat t,.dat (.bl b),x11,x12,x13,x14,x15,x16,x17]) ?_).trans ih⟩;show sP (SF S c many n ls P x4 x5 x6 [x8,.dat t,x10,x11,x12,x13,x14,x15,x16,x17])=_;have e1:GS (SF S c many n ls P x4 x5 x6 [x8,.dat t,x10,x11,x12,x13,x14,x15,x16,x17])=some (.next (SF S c many n ls P x4 x5 x6 [x8,.dat t,.dat (.bl b),x11,x12,x13,x14,x15,x16,x17])):=gr ((de rfl).trans h1);unfold sP;rw[LW.cS e1];unfold GU;rw[hV (Ay rfl (eN ((dM (x:=.bl b) rfl ((de rfl).trans h2)).trans (Vt b))))];rfl
theorem agree {Q:cn}(h9:Q.length<=9) (h2:∀k∈Q,k.length<=2):∃b,gu [LW.dF many ls,dP Q]=some (.bl b)/\eB [LW.dF many ls,dP Q]=some (.bl b):=
 ⟨_,wz (by have:=dr.vR;omega) h9 h2,G5 (by have:=dr.vR;omega) h9⟩
theorem l22 (ep:EP many P):∃y9 y10,GV (SF S c many n ls P x4 x5 x6 [.dat (.lst (oj P)),x9,x10,x11,x12,x13,x14,x15,x16,x17])=some (.next (SF S c many n ls P x4 x5 x6 [.dat (.lst (oj P)),y9,y10,x11,x12,x13,x14,x15,x16,x17])):=by
 have:=ep.vR;have two:=ep.two;obtain⟨y9,y10,e⟩:=PZ (S:=S) (c:=c) (P:=P) (x4:=x4) (x5:=x5) (x6:=x6) (x8:=.dat (.lst (oj P))) (x11:=x11) (x12:=x12) (x13:=x13) (x14:=x14) (x15:=x15) (x16:=x16) (x17:=x17) dr (oj P++[.eU,dP [[0]],dP [[1,0]]]) (λt ht=>by
  simp only[oj,cons_append,nil_append,mem_cons,bH,or_false]at ht;rcases ht with rfl|rfl|rfl|rfl|rfl|rfl|rfl|rfl
  ·exact agree dr (by omega) two
  ·exact agree dr (by rw[length_drop];omega) λk hk=>two k (mem_of_mem_drop hk)
  ·exact agree dr (by rw[length_reverse];omega) λk hk=>two k (mem_reverse.mp hk)
  ·exact agree dr (by rw[aQ,bI];omega) λk hk=>by
    rcases mem_append.mp hk with z|z
    ·exact two k z
    ·exact two k (mem_of_mem_take z)
  ·exact⟨false,rfl,rfl⟩
  ·exact⟨false,rfl,rfl⟩
  ·exact agree dr (by decide) (by decide)
  ·exact agree dr (by decide) (by decide)) x9 x10
 exact⟨y9,y10,gU rfl e⟩
theorem Ma {p:Int}(ep:EP many P) (hp:p∈dD 0 n):∃y12 y13 y14 y15 y16,sQ (SF S c many n ls P x4 x5 x6 [x8,x9,x10,cJ p,x12,x13,x14,x15,x16,x17])=some (.next (SF S c many n ls P x4 x5 x6 [x8,x9,x10,cJ p,y12,y13,y14,y15,y16,x17])):=by
 let st:List Sl->gh:=λr=>SF S c many n ls P x4 x5 x6 (x8::x9::x10::cJ p::r)
 let du:=(rn P p).toList.map D.int
 let U:Sl:=.dat (.lst du)
 let ot:=((dD 0 n).filter λi=> !decide (i=p)).map D.int
 let O:Sl:=.dat (.lst ot)
 have mt:=ep.mt;have p6:=ep.vR;have n6:=dr.n6;have hn:=dr.hn;have afz:((rn P p).toList).length<=1:=by cases rn P p<;>simp
 have upl:(dD 0 n).length=n:=eF _ _;have e23:GW (st [x12,x13,x14,x15,x16,x17])=some (.next (st [.own du,x13,x14,x15,x16,x17])):=by
  refine iz ?_;have ed:du=(P.filter λk=>decide (p∈k)).map λk=>D.int (other k p):=by
   show(rn P p).toList.map D.int=_;rw[G7 mt];unfold rn;cases P.find? λk=>decide (p∈k)<;>rfl
  rw[ed];refine eW (ds:=P.map tupI) rfl (by rw[ae];omega) (fH P (λk _=>eN ((dM rfl rfl).trans (nX p k))) λk hk X8=>?_)
  have X8:=bJ X8
  match k,mt.two k hk with
  |[a,b],_=>
   show some (D.int (a+b-p))=some (D.int (if p=a then b else a))
   congr 2
   rcases mem_cons.mp X8 with e|e
   ·rw[if_pos e];omega
   ·rw[br]at e;split<;>omega
 have hd0:∀l:cp,∀r:cw,mE (l.map D.int++r) 0=some (match l with|[]=>r.getD 0 .eU|a::_=>.int a)\/(l=[]/\r=[]):=λl r=>by
  cases l with
  |nil=>
   cases r with
   |nil=>exact .inr ⟨rfl,rfl⟩
   |cons a t=>left;show mE (a::t) ((0:Nat):Int)=_;rw[LW.qf _ _ (by simp)];rfl
  |cons a t=>left;show mE (.int a::(t.map D.int++r)) ((0:Nat):Int)=_;rw[LW.qf _ _ (by simp)];rfl
 have e25:AM (st [U,x13,x14,x15,x16,x17])=some (.next (st [U,x13,x14,x15,x16,x17])):=by
  have ea:dw gK (dL (dw wZ (df 12) (dL (rO (cN (dC .eU) cT))))) (dC (.int 0)) (st [U,x13,x14,x15,x16,x17])=some (nH (rn P p)):=by
   refine(dM (o:=gK) (y:=.int 0) (wx (wu (b:=[.eU]) rfl rfl (by rw[ae];simp;omega))) rfl).trans ?_
   show mE ((rn P p).toList.map D.int++[.eU]) 0=_;rcases hd0 (rn P p).toList [.eU]with e|⟨_,e⟩
   ·rw[e];cases rn P p<;>rfl
   ·cases e
  unfold AM;rw[hV (eN ((dM ((de rfl).trans (Dq mt.two)) ea).trans (Ax (by cases rn P p<;>simp[nH,eV]))))]
  rfl
 have e26:GX (st [U,x13,x14,x15,x16,x17])=some (.next (st [U,.own ot,x14,x15,x16,x17])):=by
  refine iz (eW (ds:=(dD 0 n).map D.int) ?_ (by rw[ae];omega) (fH (ψ:=D.int) _ (λi _=>eN ((dM rfl rfl).trans (EI i p))) λi _ _=>rfl))
  have:many.toNat=n:=by omega
  show(if many<1000000/\-1000000<many then some ((dD 0 many.toNat).map D.int)else none)=_
  rw[if_pos ⟨by omega,by omega⟩,this]
 have e27:GY (st [U,O,x14,x15,x16,x17])=some (.next (st [U,O,cK (((dD 0 n).filter λi=> !decide (i=p)).filter λi=>decide (LW.lW (c+i) 9887 2=0)),x15,x16,x17])):=by
  refine gr ((ir (F:=i7) (eW (ds:=((dD 0 n).filter λi=> !decide (i=p)).map D.int) rfl ?_ (fH (ψ:=D.int) _ (λi _=>eN ((dM (y:=.int 0) ((de rfl).trans (S5 (by omega) (by omega))) rfl).trans (lJ _ _))) λi _ _=>rfl))).trans rfl)
  rw[ae];have:=aW (λi=> !decide (i=p)) (dD 0 n)
  omega
 generalize hY:(((dD 0 n).filter λi=> !decide (i=p)).filter λi=>decide (LW.lW (c+i) 9887 2=0))=Y at e27
 have hYl:Y.length<=6:=by
  rw[<-hY];have:=aW (λi=> !decide (i=p)) (dD 0 n)
  have:=aW (λi=>decide (LW.lW (c+i) 9887 2=0)) ((dD 0 n).filter λi=> !decide (i=p))
  omega
 have JD:dS many [p] Y=((dD 0 n).filter λi=> !decide (i=p)).filter λi=> !decide (i∈Y):=by
  unfold dS;rw[filter_filter,show many.toNat=n by omega]
  refine filter_congr λi _=>?_
  by_cases h1:i=p<;>by_cases h2:i∈Y<;>simp[h1,h2]
 let fr:=(dS many [p] Y).map D.int
 let F:Sl:=.dat (.lst fr)
 let wi:=(((rn P p).toList.filter λi=>decide (i∈dS many [p] Y)).map D.int++(dS many [p] Y).map D.int)++[.eU]
 let W:Sl:=.dat (.lst wi)
 have e28:GZ (st [U,O,cK Y,x15,x16,x17])=some (.next (st [U,O,cK Y,.own fr,x16,x17])):=by
  rw[show fr=(((dD 0 n).filter λi=> !decide (i=p)).filter λi=> !decide (i∈Y)).map D.int from congrArg _ JD]
  refine iz (eW (ds:=((dD 0 n).filter λi=> !decide (i=p)).map D.int) rfl ?_ (fH (ψ:=D.int) _ (λi _=>eN ((dM rfl rfl).trans (r9 i Y))) λi _ _=>rfl))
  rw[ae];have:=aW (λi=> !decide (i=p)) (dD 0 n)
  omega
 have fl:=pe many [p] Y;have e29:G0 (st [U,O,cK Y,F,x16,x17])=some (.next (st [U,O,cK Y,F,.own wi,x17])):=by
  have fl2:=aW (λi=>decide (i∈dS many [p] Y)) (rn P p).toList
  refine iz (wu (wx (wu (wx (eW (ds:=(rn P p).toList.map D.int) rfl (by rw[ae];omega) (fH (ψ:=D.int) _ (λi _=>eN ((dM rfl rfl).trans ?_)) λi _ _=>rfl))) rfl ?_)) rfl ?_)
  ·show uN (.int i) (.lst ((dS many [p] Y).map D.int))=_;exact nX i (dS many [p] Y)
  ·rw[ae,ae];omega
  ·rw[aQ,ae,ae];simp;omega
 have e31:AN (st [U,O,cK Y,F,W,x17])=some (.next (st [U,O,cK Y,F,W,x17])):=by
  have er:=KL (many:=many) (L:=ls) (P:=P) (m:=[p]) (y:=Y) (p:=p) (by omega) (by omega) (by simp;omega) mt.two
  have ew:mE ((((rn P p).toList.filter λi=>decide (i∈dS many [p] Y)).map D.int++(dS many [p] Y).map D.int)++[.eU]) 0=some (nH (rep many P [p] Y p)):=by
   rw[<-map_append];rcases hd0 (((rn P p).toList.filter λi=>decide (i∈dS many [p] Y))++dS many [p] Y) [.eU]with e|⟨_,e⟩
   ·rw[e];unfold rep;cases rn P p with
    |none=>cases dS many [p] Y<;>rfl
    |some q=>
     by_cases hq:q∈dS many [p] Y
     ·simp[hq,nH]
     ·simp only[Option.toList_some,bq,aH hq,filter_nil,if_neg hq];cases dS many [p] Y<;>rfl
   ·cases e
  unfold AN;have ew:gK (.lst ((((rn P p).toList.filter λi=>decide (i∈dS many [p] Y)).map D.int++(dS many [p] Y).map D.int)++[.eU])) (.int 0)=some (nH (rep many P [p] Y p)):=ew
  rw[hV (eN ((dM ((de rfl).trans er) ((dM (o:=gK) (f:=df 16) (g:=dC (.int 0)) rfl rfl).trans ew)).trans (Ax (by cases rep many P [p] Y p<;>simp[nH,eV]))))]
  rfl
 refine⟨U,O,cK Y,F,W,?_⟩;unfold sQ;rw[LW.cS e23,jw (δ':=st [U,x13,x14,x15,x16,x17]) rfl,LW.cS e25,LW.cS e26];rw[jw (δ':=st [U,O,x14,x15,x16,x17]) rfl,LW.cS e27,LW.cS e28];rw[jw (δ':=st [U,O,cK Y,F,x16,x17]) rfl,LW.cS e29,jw (i:=16) rfl];exact e31
theorem KO (ep:EP many P):∀(ps:cp),(∀p∈ps,p∈dD 0 n)->∀x11 x12 x13 x14 x15 x16:Sl,∃δ,gp 11 sQ (ps.map D.int) (SF S c many n ls P x4 x5 x6 [x8,x9,x10,x11,x12,x13,x14,x15,x16,x17])=some (.next δ)/\∃r:List Sl,δ=S::cJ c::r/\r.length=16
 |[],_,x11,x12,x13,x14,x15,x16=>⟨_,rfl,_,rfl,rfl⟩
 |p::ps,h,x11,x12,x13,x14,x15,x16=>by
  obtain⟨y12,y13,y14,y15,y16,e⟩:=Ma (S:=S) (c:=c) (x4:=x4) (x5:=x5) (x6:=x6) (x8:=x8) (x9:=x9) (x10:=x10) (x12:=x12) (x13:=x13) (x14:=x14) (x15:=x15) (x16:=x16) (x17:=x17) dr ep (h p af);obtain⟨δ,ih,hr⟩:=KO ep ps (λq hq=>h q (ai _ hq)) (cJ p) y12 y13 y14 y15 y16
  exact⟨δ,(gj (j:=11) (δ:=SF S c many n ls P x4 x5 x6 [x8,x9,x10,x11,x12,x13,x14,x15,x16,x17]) e).trans ih,hr⟩
end
def P0 (c:Int) (S:Sl) (r:List Sl) (hr:r.length=16):∃r':List Sl,r'.length=16/\sR (S::cJ c::r)=some (.next (S::cJ c::r')):=by
 obtain⟨x2,x3,x4,x5,x6,x7,x8,x9,x10,x11,x12,x13,x14,x15,x16,x17,rfl⟩:∃x2 x3 x4 x5 x6 x7 x8 x9 x10 x11 x12 x13 x14 x15 x16 x17,r=[x2,x3,x4,x5,x6,x7,x8,x9,x10,x11,x12,x13,x14,x15,x16,x17]:=by
  match r,hr with
  |[x2,x3,x4,x5,x6,x7,x8,x9,x10,x11,x12,x13,x14,x15,x16,x17],_=>exact⟨x2,x3,x4,x5,x6,x7,x8,x9,x10,x11,x12,x13,x14,x15,x16,x17,rfl⟩
 obtain⟨many,ls,ef,ok⟩:=LW.RD (c:=c) (least:=1) (most:=6) (lines:=6) (by omega) (by omega) (by omega) (by omega) (by omega)
 have lo:=ok.lo;have hi:=ok.hi;have dr:Dr many many.toNat ls:=⟨by omega,by omega,by omega,λl hl=>(ok.line l hl).rise,λl hl=>(ok.line l hl).inn,λl hl=>(ok.line l hl).four,by have:=ok.num;omega⟩
 have e1:Kz [S,cJ c,x2,x3,x4,x5,x6,x7,x8,x9,x10,x11,x12,x13,x14,x15,x16,x17]=some (.next [S,cJ c,.dat (LW.dF many ls),x3,x4,x5,x6,x7,x8,x9,x10,x11,x12,x13,x14,x15,x16,x17]):=gr ((de rfl).trans ef);have it:∀δ:gh,dw gK (df 2) (dC (.int 0)) δ=some (.int many)->wG (cN (dw gK (df 2) (dC (.int 0))) cT) δ=some ((dD 0 many.toNat).map D.int):=λδ h=>by
  unfold wG;rw[rf h];exact if_pos ⟨by omega,by omega⟩
 have e2:KA [S,cJ c,.dat (LW.dF many ls),x3,x4,x5,x6,x7,x8,x9,x10,x11,x12,x13,x14,x15,x16,x17]=some (.next (SE S c many many.toNat ls [x4,x5,x6,x7,x8,x9,x10,x11,x12,x13,x14,x15,x16,x17])):=
  gr ((ir (it _ rfl)).trans (Yj dr.n1 dr.n6))
 obtain⟨y4,y5,y6,ea⟩:=Yk (S:=S) (c:=c) (x4:=x4) (x5:=x5) (x6:=x6) (x7:=x7) (x8:=x8) (x9:=x9) (x10:=x10) (x11:=x11) (x12:=x12) (x13:=x13) (x14:=x14) (x15:=x15) (x16:=x16) (x17:=x17) dr;obtain⟨P,hP,e17⟩:=l17 (S:=S) (c:=c) (x4:=y4) (x5:=y5) (x6:=y6) (x7:=x7) (x8:=x8) (x9:=x9) (x10:=x10) (x11:=x11) (x12:=x12) (x13:=x13) (x14:=x14) (x15:=x15) (x16:=x16) (x17:=x17) dr;have ep:=AV dr hP;obtain⟨y9,y10,e22⟩:=l22 (S:=S) (c:=c) (x4:=y4) (x5:=y5) (x6:=y6) (x9:=x9) (x10:=x10) (x11:=x11) (x12:=x12) (x13:=x13) (x14:=x14) (x15:=x15) (x16:=x16) (x17:=x17) dr ep;obtain⟨δ,e32,r',rfl,Yc⟩:=KO (S:=S) (c:=c) (x4:=y4) (x5:=y5) (x6:=y6) (x8:=.dat (.lst (oj P))) (x9:=y9) (x10:=y10) (x17:=x17) dr ep (dD 0 many.toNat) (λp h=>h) x11 x12 x13 x14 x15 x16
 refine⟨r',Yc,?_⟩;have sq:∀f g h k l m:bY,∀δ δ',(dH f (hO 4 (dH g (dH h k)))) δ=some (.next δ')->(dH f (hO 4 (dH g (dH h (dH k m))))) δ=m δ':=λf g h k l m δ δ' e=>by
  have bs:∀(a b:bY) δ δ',dH a b δ=some (.next δ')->∃δ1,a δ=some (.next δ1)/\b δ1=some (.next δ'):=λa b δ δ' e=>by
   unfold dH at e;split at e
   ·exact⟨_,by assumption,e⟩
   ·rename_i q1;exact absurd e (λz=>q1 _ z)
  obtain⟨d1,a1,e⟩:=bs _ _ _ _ e;unfold hO at e;obtain⟨d2,a2,e⟩:=bs _ _ _ _ e;obtain⟨d3,a3,e⟩:=bs _ _ _ _ e;rw[LW.cS a1];unfold hO;rw[LW.cS a2,LW.cS a3,LW.cS e]
 unfold sR;rw[LW.cS e1,LW.cS e2,sq _ _ _ _ fW _ _ _ ea,LW.cS e17,LW.cS (l18 dr ep),jw (δ':=SF S c many many.toNat ls P y4 y5 y6 [.dat (.lst (oj P)),x9,x10,x11,x12,x13,x14,x15,x16,x17]) rfl,LW.cS e22];exact gU (it _ rfl) e32
theorem G8 (S:Sl):∀(cs:cp) (x1:Sl) (r:List Sl),r.length=16->∃δ,gp 1 sR (cs.map D.int) (S::x1::r)=some (.next δ)
 |[],x1,r,_=>⟨_,rfl⟩
 |c::cs,x1,r,hr=>by
  obtain⟨r',Yc,e⟩:=P0 c S r hr;obtain⟨δ,ih⟩:=G8 S cs (cJ c) r' Yc;exact⟨δ,(gj (j:=1) (δ:=S::x1::r) e).trans ih⟩
def R5 (ns:cp) (_:ns.length<=63):KC [.lst (ns.map D.int)]=some (.bl true):=by
 refine LW.dU rfl ?_;show EH (.dat (.lst (ns.map D.int))::.no::replicate 16 .no)=_;have aaS:uO (ns.map D.int) none (some 2)=(ns.take 2).map D.int:=by
  show((ns.map D.int).drop 0).take (min 2 (ns.map D.int).length-0)=_;rw[drop_zero,Nat.sub_zero,map_take];rcases Nat.le_total 2 (ns.map D.int).length with q|q
  ·rw[Nat.min_eq_left q]
  ·rw[Nat.min_eq_right q,take_of_length_le (au _),take_of_length_le q]
 obtain⟨δ,e⟩:=G8 (.dat (.lst (ns.map D.int))) (ns.take 2) .no (replicate 16 .no) (by simp)
 have e33:G1 (.dat (.lst (ns.map D.int))::.no::replicate 16 .no)=some (.next δ):=by
  have it:iL (dL (Ib (df 0) Mp (uP (dC (.int 2))))) (.dat (.lst (ns.map D.int))::.no::replicate 16 .no)=some (uO (ns.map D.int) none (some 2)):=rfl;rw[aaS]at it;exact gU it e
 unfold EH;rw[LW.cS e33];rfl
end K6
namespace K6
open L2 DL LW PC PW
noncomputable def top (i:Nat):cI:=PySem.Challenge.pw_fieldclaim_k06_whole_pairs.main.body.getD i (.Pass ⟨0,0,0,0⟩)
abbrev qF:cI:=top 2
def EL:dA ["thing","least","most"] ["thing","least","most"] (cY qF):={}
abbrev qG:cI:=top 4
def wA:dA ["parts","k"] ["parts"] (cY qG):={}
abbrev uY:cI:=top 3
def AX:dA ["thing","many","part"] ["thing","many"] (cY uY):={}
abbrev uZ:cI:=top 12
def AY:dA ["points","line","point"] ["points","line"] (cY uZ):={}
abbrev sS:cI:=top 13
def yi:dA ["points","line","point"] ["points","line"] (cY sS):={}
abbrev qH:cI:=top 9
def EM:dA ["game","whose"] ["game","whose"] (cY qH):={}
abbrev oO:cI:=top 10
def BZ:dA ["hand"] ["hand"] (cY oO):={}
abbrev u0:cI:=top 14
def qI:dA ["points","count","told","k","rest"] ["points","count"] (cY u0):={}
abbrev nL:cI:=top 11
def nM:dA ["field","mine","yours","taken","point"] ["field","mine","yours"] (cY nL):={}
abbrev xG:cI:=top 8
def Mb:dA ["mine","yours","whose","claim"] ["mine","yours","whose","claim"] (cY xG):={}
abbrev qJ:cI:=top 20
def wB:dA ["line","mine","point"] ["line","mine"] (cY qJ):={}
abbrev nN:cI:=top 21
def sT:dA ["line","lines","other"] ["line","lines"] (cY nN):={}
abbrev xH:cI:=top 22
def Dt:dA ["points","lines","line"] ["points","lines"] (cY xH):={}
abbrev lD:cI:=top 23
def jI:dA ["lines","uses","line","point"] ["lines"] (cY lD):={}
abbrev oP:cI:=top 19
def lP:dA ["lines","mine","yours","needed","unlike","line"] ["lines","mine","yours"] (cY oP):={}
abbrev mj:cI:=inClass (top 18) 5
def iW:dA ["self","lines","whose","tried","pressing","line","claim"] ["self","lines","whose"] (cY mj):={}
abbrev sU:cI:=inClass (top 18) 4
def l9:dA ["self","lines","whose","shortest","claim","held","line"] ["self","lines","whose"] (cY sU):={}
abbrev qK:cI:=inClass (top 18) 3
def EN:dA ["self","lines","whose"] ["self","lines","whose"] (cY qK):={}
abbrev qL:cI:=inClass (top 18) 1
def EO:dA ["self","mine","yours","whose"] ["self","mine","yours","whose"] (cY qL):={}
abbrev nO:cI:=top 17
def AZ:dA ["game","mine","yours","whose"] ["game","mine","yours","whose"] (cY nO):={}
abbrev xI:cI:=top 16
def Mc:dA ["game"] ["game"] (cY xI):={}
abbrev u3:cI:=top 29
def Jq:dA ["thing","many"] ["thing","many"] (cY u3):={}
abbrev qM:cI:=top 30
def mO:dA ["pairs","points","pair"] ["pairs"] (cY qM):={}
abbrev sV:cI:=top 32
def yj:dA ["line","pairs","pair"] ["line","pairs"] (cY sV):={}
abbrev oQ:cI:=top 31
def uG:dA ["lines","pairs","line"] ["lines","pairs"] (cY oQ):={}
abbrev ml:cI:=top 34
def gM:dA ["lines","pairs","kept","pair","others","other"] ["lines","pairs"] (cY ml):={}
abbrev qN:cI:=top 33
def kT:dA ["lines","hopeless","shortest","pair","left","others","line"] ["lines","hopeless"] (cY qN):={}
abbrev u4:cI:=top 25
def Ba:dA ["field","pairs"] ["field"] (cY u4):={}
abbrev oR:cI:=top 26
def uH:dA ["field","thing","part"] ["field","thing"] (cY oR):={}
abbrev u5:cI:=top 27
def Bb:dA ["pairs","point","pair"] ["pairs","point"] (cY u5):={}
abbrev Bc:cI:=top 28
def Bd:dA ["field","pairs","mine","yours","point","free","other"] ["field","pairs","mine","yours","point"] (cY Bc):={}
abbrev sW:cI:=top 37
def G9:dA ["_law_cell_here","_law_prime","_law_many"] ["_law_cell_here","_law_prime","_law_many"] (cY sW):={}
abbrev oS:cI:=top 38
def gy:dA ["_law_cell_here","_law_least","_law_most","_law_lines","_law_many","_law_found","_law_k","_law_size","_law_left","_law_line","_law_n"] ["_law_cell_here","_law_least","_law_most","_law_lines"] (cY oS):={}
abbrev qO:cI:=top 41
def kU:dA ["_law_game_here","_law_mine","_law_yours","_law_line","_law_point"] ["_law_game_here","_law_mine","_law_yours"] (cY qO):={}
abbrev nQ:cI:=top 42
def gf:dA ["_law_game_here","_law_mine","_law_yours","_law_whose","_law_some","_law_found","_law_turn","_law_more","_law_claim","_law_point"] ["_law_game_here","_law_mine","_law_yours","_law_whose"] (cY nQ):={}
abbrev oT:cI:=top 44
def uI:dA ["_law_line","_law_pairs","_law_pair"] ["_law_line","_law_pairs"] (cY oT):={}
abbrev j3:cI:=top 45
def fR:dA ["_law_field_here","_law_thing","_law_points","_law_pair","_law_one","_law_line"] ["_law_field_here","_law_thing"] (cY j3):={}
abbrev sX:cI:=top 46
def kj:dA ["_law_points","_law_found","_law_k","_law_rest","_law_more"] ["_law_points"] (cY sX):={}
abbrev qP:cI:=top 47
def iN:dA ["_law_field_here","_law_pairs","_law_mine","_law_yours","_law_game_here","_law_claim","_law_left","_law_answer","_law_right"] ["_law_field_here","_law_pairs","_law_mine","_law_yours"] (cY qP):={}
abbrev Jr:cI:=top 48
def hJ:dA ["_law_script","_law_cell_here","_law_field_here","_law_every","_law_some","_law_found","_law_pair","_law_pairs","_law_things","_law_thing","_law_told","_law_point","_law_due","_law_others","_law_yours","_law_left","_law_wish","_law_one"] ["_law_script"] (cY Jr):={}
structure Bt (mg:cg):Prop where
 all:mg "all"=none
 any:mg "any"=none
 bool:mg "bool"=none
 int:mg "int"=none
 isinstance:mg "isinstance"=none
 len:mg "len"=none
 list:mg "list"=none
 min:mg "min"=none
 range:mg "range"=none
 set:mg "set"=none
 sorted:mg "sorted"=none
 tuple:mg "tuple"=none
 eK:∃t,mg "BUILDER"=some (.int 0 t)
 tW:∃t,mg "GUARD"=some (.int 1 t)
abbrev sY:cI:=inClass (top 18) 0
def Ha:dA ["self","game"] ["self","game"] (cY sY):={}
abbrev dQ (Cs:cG):OC:=⟨Cs,"game","known",YW⟩
section
variable {P:cC}{w:cD}{K:W.Frag}{mg:cg}{base:Heap}
def ER (F:jW K "is_number" "is_number" qF f fd) (M0:Bt mg):eO P w K mg base iY (1) f fd ["thing","least","most"] (nR lX):=by
 refine fy F EL (λm fD A outer s H E hr C0 H0=>?_)
 have hu:=hr.units;unfold mK;exact(cV (fE (BB.pt (pY (jK (ik (rV Q3 Us (cP 0) (by rfl) M0.isinstance (by rfl) M0.int))) (mG (ik (rV zv DS (cP 0) (by rfl) M0.isinstance (by rfl) M0.bool))))) (cX (dv jd)) dR)
  (cX (dv (NI QV QV (cP 1) (cP 0) (cP 2)))))
def ES (F:jW K "is_rising" "is_rising" qG f fd) (M0:Bt mg):eO P w K mg base iY (1) f fd ["parts"] (nR jr):=by
 refine fy F wA (λm fD A outer s H E hr C0 H0=>?_)
 have hu:=hr.units;unfold mM;exact(cX (dv (eA (Cw rfl) (by rfl) M0.all w4 (da (WD.o (WF.d (jA 1 rfl ⟨rfl,rfl,rfl,wA.nd⟩ (rA.weak (iI (by rfl) M0.range (cO (uQ (WD.o (eA lU (by rfl) M0.len iG (da (cP 0) dq))) (WD.o cZ)) cR))) (λ_ _ _ _ _=>(pX (JU hu) (WD.o (dZ (cP 0) (cP 1) (λ_ _=>rfl))) (WD.o (dZ (cP 0) (WD.o (kB (cP 1) (WD.o cZ))) (λ_ _=>rfl)))))))) dq))))
def Js (F:jW K "is_line" "is_line" uY f fd) (M0:Bt mg) (Hb:gZ P w K mg base 1 "is_number" lX) (sZ:gZ P w K mg base 1 "is_rising" jr):eO P w K mg base iY (2) f fd ["thing","many"] (nR pB):=by
 refine fy F AX (λm fD A outer s H E hr C0 H0=>?_)
 have hu:=hr.units;unfold qz;exact(cV (fE (BB.pt (pY (jK (ik (rV kit_tuple eX (cP 0) (by rfl) M0.isinstance (by rfl) M0.tuple))) (mG (dI (rq hu) (WD.o (eA lU (by rfl) M0.len iG (da (cP 0) dq))) (WD.o cZ))))) (cX (dv jd)) dR)
  (cX (dv (zE (eA (Cw rfl) (by rfl) M0.all w4 (da (WD.o (WF.d (jA 2 rfl ⟨rfl,rfl,rfl,AX.nd⟩ (rA.weak (eG (cQ 0))) (λ_ _ _ _ _=>(dc Hb hr (by rfl) (cO (cQ 2) (cO cZ (cO (uQ (cP 1) (WD.o cZ)) cR)))))))) dq)) (D3 (dc sZ hr (by rfl) (cO (cQ 0) cR)))))))
def Jt (F:jW K "has_all" "has_all" uZ f fd) (M0:Bt mg):eO P w K mg base iY (1) f fd ["points","line"] (nR jD):=by
 refine fy F AY (λm fD A outer s H E hr C0 H0=>?_)
 have hu:=hr.units;unfold Ap;exact(cX (dv (eA (Cw rfl) (by rfl) M0.all w4 (da (WD.o (WF.d (jA 2 rfl ⟨rfl,rfl,rfl,AY.nd⟩ (rA.weak (eG (cQ 1))) (λ_ _ _ _ _=>(pX (Bw hu) (cP 2) (cP 0)))))) dq))))
def Hc (F:jW K "has_some" "has_some" sS f fd) (M0:Bt mg):eO P w K mg base iY (1) f fd ["points","line"] (nR jm):=by
 refine fy F yi (λm fD A outer s H E hr C0 H0=>?_)
 have hu:=hr.units;unfold xZ;exact(cX (dv (eA (NV rfl) (by rfl) M0.any Im (da (WD.o (WF.d (jA 2 rfl ⟨rfl,rfl,rfl,yi.nd⟩ (rA.weak (eG (cQ 1))) (λ_ _ _ _ _=>(pX (Bw hu) (cP 2) (cP 0)))))) dq))))
def ET (F:jW K "at_a_time" "at_a_time" qH f fd) (M0:Bt mg):eO P w K mg base iY (1) f fd ["game","whose"] (nR eZ):=by
 obtain⟨pG,eK⟩:=M0.eK;refine fy F EM (λm fD A outer s H E hr C0 H0=>?_)
 have hu:=hr.units;unfold v3;exact(cX (dv (zF (dI (rq hu) (cP 1) (WD.o (jU (by rfl) eK))) (dZ (cP 0) (WD.o cZ) (λ_ _=>rfl)) (dZ (cP 0) (WD.o cZ) (λ_ _=>rfl)))))
def B0 (F:jW K "other_hand" "other_hand" oO f fd) (M0:Bt mg):eO P w K mg base iY (1) f fd ["hand"] (nR gT):=by
 obtain⟨pG,eK⟩:=M0.eK;obtain⟨R6,tW⟩:=M0.tW;refine fy F BZ (λm fD A outer s H E hr C0 H0=>?_)
 have hu:=hr.units;unfold uk;exact(cX (dv (zF (dI (rq hu) (cP 0) (WD.o (jU (by rfl) eK))) (jU (by rfl) tW) (jU (by rfl) eK))))
def Ju (F:jW K "choices" "choices" u0 f fd) (M0:Bt mg) (pH:gZ P w K mg base (0+n) "choices" dN):eO P w K mg base iY (0+n+1) f fd ["points","count"] (nR (gz 5 2 (nv dN))):=by
 refine fy F qI (λm fD A outer s H E hr C0 H0=>?_)
 have hu:=hr.units;unfold nv;exact(cV (fE (dI (W6) (cP 1) (WD.o (eA lU (by rfl) M0.len iG (da (cP 0) dq)))) (cX (dv (eL (cO (cQ 0) cR)))) dR)
  (cV (fE (dI (rq hu) (cP 1) (WD.o cZ)) (cX (dv (eL (cO (eL cR) cR)))) dR)
  (cV (iH 2 qI.nd (ma cR))
  (cV (ip (f:=(kG dN)) bz rfl (iI (by rfl) M0.range (cO (kB (WD.o (uQ (WD.o (eA lU (by rfl) M0.len iG (da (cP 0) dq))) (cP 1))) (WD.o cZ)) cR)) (fU (i:=3) qI.nd rfl) (cX (ip (f:=(kF dN)) bz rfl (eG (dc pH hr (by rfl) (cO (Ik (cP 0) (rS (WD.o (kB (cP 3) (WD.o cZ)))) CG) (cO (uQ (cP 1) (WD.o cZ)) cR)))) (fU (i:=4) qI.nd rfl) (cX (NK (pv 2) (kC (WD.o (eL (cO (dZ (cP 0) (cP 3) (λ_ _=>rfl)) cR))) (cP 4)))))))
  (cX (dv (ff gq (by rfl) M0.tuple eX (da (cP 2) dq))))))))
def Be (F:jW K "free_points" "free_points" nL f fd) (M0:Bt mg):eO P w K mg base iY (1) f fd ["field","mine","yours"] (nR jP):=by
 refine fy F nM (λm fD A outer s H E hr C0 H0=>?_)
 have hu:=hr.units;unfold kH;exact(cV (fN 3 nM.nd (kC (cP 1) (cP 2)))
  (cX (dv (ff gq (by rfl) M0.tuple eX (da (WD.o (WF.d (fM 4 rfl ⟨rfl,rfl,rfl,nM.nd⟩ (rA.weak (iI (by rfl) M0.range (cO (dZ (cP 0) (WD.o cZ) (λ_ _=>rfl)) cR))) (λ_ _ _ _ _=>(dI (tG hu) (cP 4) (cP 3))) (λ_ _ _ _ _=>(cQ 4))))) dq)))))
def Md (F:jW K "behind" "behind" xG f fd) (M0:Bt mg):eO P w K mg base iY (1) f fd ["mine","yours","whose","claim"] (nR so):=by
 obtain⟨pG,eK⟩:=M0.eK;refine fy F Mb (λm fD A outer s H E hr C0 H0=>?_)
 have hu:=hr.units;unfold Dd;exact(cV (fE (dI (rq hu) (cP 2) (WD.o (jU (by rfl) eK))) (cX (dv (eL (cO (ff gq (by rfl) M0.tuple eX (da (WD.o (WF.d (je (tJ hu) (by rfl) M0.sorted gA (da (WD.o (kC (cP 0) (cP 3))) dq)))) dq)) (cO (cQ 1) cR))))) dR)
  (cX (dv (eL (cO (cQ 0) (cO (ff gq (by rfl) M0.tuple eX (da (WD.o (WF.d (je (tJ hu) (by rfl) M0.sorted gA (da (WD.o (kC (cP 1) (cP 3))) dq)))) dq)) cR))))))
def EU (F:jW K "free_part" "free_part" qJ f fd) (M0:Bt mg):eO P w K mg base iY (1) f fd ["line","mine"] (nR kc):=by
 refine fy F wB (λm fD A outer s H E hr C0 H0=>?_)
 have hu:=hr.units;unfold mL;exact(cX (dv (ff gq (by rfl) M0.tuple eX (da (WD.o (WF.d (fM 2 rfl ⟨rfl,rfl,rfl,wB.nd⟩ (rA.weak (eG (cQ 0))) (λ_ _ _ _ _=>(dI (tG hu) (cP 2) (cP 1))) (λ_ _ _ _ _=>(cQ 2))))) dq))))
def Bf (F:jW K "has_another" "has_another" nN f fd) (M0:Bt mg) (pJ:gZ P w K mg base 1 "has_all" jD):eO P w K mg base iY (2) f fd ["line","lines"] (nR jQ):=by
 refine fy F sT (λm fD A outer s H E hr C0 H0=>?_)
 have hu:=hr.units;unfold kK;exact(cX (dv (eA (NV rfl) (by rfl) M0.any Im (da (WD.o (WF.d (jA 2 rfl ⟨rfl,rfl,rfl,sT.nd⟩ (rA.weak (J0 (cQ 1))) (λ_ _ _ _ _=>(zE (pX (uM hu) (cP 2) (cP 0)) (D3 (dc pJ hr (by rfl) (cO (cQ 0) (cO (cQ 2) cR))))))))) dq))))
def Me (F:jW K "spoils" "spoils" xH f fd) (M0:Bt mg) (u6:gZ P w K mg base 1 "has_some" jm):eO P w K mg base iY (2) f fd ["points","lines"] (nR sr):=by
 refine fy F Dt (λm fD A outer s H E hr C0 H0=>?_)
 have hu:=hr.units;unfold tM;exact(cX (dv (eA (Cw rfl) (by rfl) M0.all w4 (da (WD.o (WF.d (jA 2 rfl ⟨rfl,rfl,rfl,Dt.nd⟩ (pZ (cP 1)) (λ_ _ _ _ _=>(dc u6 hr (by rfl) (cO (cQ 0) (cO (cQ 2) cR))))))) dq))))
def xJ (F:jW K "points_by_use" "points_by_use" lD f fd) (M0:Bt mg) (ht:W.tabIn K "points_by_use"=some (ct,Pt)) (yX:fd.code=.ref ct):eO P w K mg base iY (1) f fd ["lines"] (nR gL):=by
 refine RB F jI (λA outer s H E hr C0 H0=>?_)
 letI:=Mem.keep
 have j7:=hr.ten;have hu:=hr.units;unfold lu;exact(IT 1 jI.nd (λa C1 H1 hn=>by letI:=fX a;unfold gG;exact(cV (ip (f:=fQ) bz rfl (eG (cQ 0)) (fU (i:=2) jI.nd rfl) (cX (ip (f:=gF) bz rfl (eG (cQ 2)) (fU (i:=3) jI.nd rfl) (cX (LK hn hu (pv 1) (cQ 3) (pv 1) (cQ 3))))))
  (cX (dv (ff gq (by rfl) M0.tuple eX (da (WD.o (WF.d (Gb (x:="points_by_use") rfl hu j7 (by rfl) M0.sorted rfl rfl (by first|exact af|simp[yk]) ht (show(Str.ofString "points_by_use"++Str.ofString ".<locals>.")++Str.ofString "<lambda>"=Str.ofString "points_by_use.<locals>.<lambda>" by decide +kernel) yX (pv 1)))) dq)))))))
def B1 (F:jW K "open_lines" "open_lines" oP f fd) (M0:Bt mg) (Hd:gZ P w K mg base 2 "free_part" kc) (B2:gZ P w K mg base 2 "has_another" jQ) (u6:gZ P w K mg base 2 "has_some" jm):eO P w K mg base iY (3) f fd ["lines","mine","yours"] (nR eT):=by
 refine fy F lP (λm fD A outer s H E hr C0 H0=>?_)
 have hu:=hr.units;unfold lH;exact(cV (jB 3 5 rfl ⟨rfl,rfl,rfl,lP.nd⟩ (rA.weak (J0 (cQ 0))) (λ_ _ _ _ _=>(jK (ik (dc u6 hr (by rfl) (cO (cQ 2) (cO (cQ 5) cR)))))) (λ_ _ _ _ _=>(dc Hd hr (by rfl) (cO (cQ 5) (cO (cQ 1) cR)))))
  (fJ 3 (cV (iH 4 lP.nd (IV rfl hu (by rfl) M0.sorted (by rfl) M0.set (cP 3)))
  (fJ 4 (cX (dv (ff gq (by rfl) M0.tuple eX (da (WD.o (WF.d (fM 5 rfl ⟨rfl,rfl,rfl,lP.nd⟩ (pZ (cP 4)) (λ_ _ _ _ _=>(jK (ik (dc B2 hr (by rfl) (cO (cQ 5) (cO (cQ 4) cR)))))) (λ_ _ _ _ _=>(cQ 5))))) dq))))))))
def yx (F:jW K "worth_trying" "Search.worth_trying" mj f fd) (M0:Bt mg) (Z:rC K (dQ Cs)) (oq:gZ P w K mg base 6 "at_a_time" eZ) (pH:gZ P w K mg base 6 "choices" (ft 5)) (yy:gZ P w K mg base 6 "points_by_use" gL) (P1:gZ P w K mg base 6 "spoils" sr):eO P w K mg base iY (7) f fd ["self","lines","whose"] (NW (dQ Cs) (qU 7 3 iU)):=by
 obtain⟨pG,eK⟩:=M0.eK;refine yM (dQ Cs) F iW (λA G fD Ar outer s H E hr C0 H0=>?_)
 letI:=eQ (dQ Cs) A G
 have hu:=hr.units;unfold iU;exact(cV (fN 3 iW.nd (dc pH hr (by rfl) (cO (dc yy hr (by rfl) (cO (cQ 1) cR)) (cO (dc oq hr (by rfl) (cO (yL (Y:=dQ Cs) Z (pv 0)) (cO (cQ 2) cR))) cR))))
  (cV (fE (dI (rq hu) (cP 2) (WD.o (jU (by rfl) eK))) (cX (dv (cQ 3))) dR)
  (cV (iH 4 iW.nd (fM 5 rfl ⟨rfl,rfl,rfl,iW.nd⟩ (rA.weak (eG (cQ 1))) (λ_ _ _ _ _=>(dI (QV) (WD.o (eA lU (by rfl) M0.len iG (da (cP 5) dq))) (WD.o (dc oq hr (by rfl) (cO (yL (Y:=dQ Cs) Z (pv 0)) (cO (jU (by rfl) eK) cR)))))) (λ_ _ _ _ _=>(cQ 5))))
  (fJ 4 (cX (dv (ff gq (by rfl) M0.tuple eX (da (WD.o (WF.d (fM 6 rfl ⟨rfl,rfl,rfl,iW.nd⟩ (rA.weak (eG (cQ 3))) (λ_ _ _ _ _=>(ik (dc P1 hr (by rfl) (cO (cQ 6) (cO (cQ 4) cR))))) (λ_ _ _ _ _=>(cQ 6))))) dq))))))))
def He (F:jW K "searched" "Search.searched" sU f fd) (M0:Bt mg) (Z:rC K (dQ Cs)) (oq:gZ P w K mg base (7+n) "at_a_time" eZ) (P2:gZ P w K mg base (7+n) "behind" so) (iO:gZ P w K mg base (7+n) "open_lines" eT) (wC:gZ P w K mg base (7+n) "other_hand" gT) (tj:nW P w K mg base (7+n) (dQ Cs) "winner_of" dJ) (Bg:nW P w K mg base (7+n) (dQ Cs) "worth_trying" iu):eO P w K mg base iY (7+n+1) f fd ["self","lines","whose"] (NW (dQ Cs) (qU 7 3 (λG=>ke G dJ))):=by
 obtain⟨pG,eK⟩:=M0.eK;refine yM (dQ Cs) F l9 (λA G fD Ar outer s H E hr C0 H0=>?_)
 letI:=eQ (dQ Cs) A G
 have hu:=hr.units;unfold ke;exact(cV (fN 3 l9.nd (eA (UK rfl) (by rfl) M0.min zu (da (WD.o (WF.d (jA 6 rfl ⟨rfl,rfl,rfl,l9.nd⟩ (rA.weak (eG (cQ 1))) (λ_ _ _ _ _=>(eA lU (by rfl) M0.len iG (da (cP 6) dq)))))) dq)))
  (cV (fE (BB.pt (vA (dI (rq hu) (cP 2) (WD.o (jU (by rfl) eK))) (vz (dI (QV) (cP 3) (WD.o (dc oq hr (by rfl) (cO (yL (Y:=dQ Cs) Z (pv 0)) (cO (jU (by rfl) eK) cR)))))))) (cX (dv (jU (by rfl) eK))) dR)
  (cV (ip (f:=(gx G dJ)) bz rfl (eG (vI Z Bg hr (pv 0) (cO (cQ 1) (cO (cQ 2) cR)))) (fU (i:=4) l9.nd rfl) (cV (fN 5 l9.nd (dc P2 hr (by rfl) (cO (eL cR) (cO (eL cR) (cO (cQ 2) (cO (cQ 4) cR))))))
  (cX (fE (dI (rq hu) (WD.o (vI Z tj hr (pv 0) (cO (dc iO hr (by rfl) (cO (cQ 1) (cO (dZ (cP 5) (WD.o cZ) (λ_ _=>rfl)) (cO (dZ (cP 5) (WD.o cZ) (λ_ _=>rfl)) cR)))) (cO (dc wC hr (by rfl) (cO (cQ 2) cR)) cR)))) (cP 2)) (cX (dv (cQ 2))) dR))))
  (cX (dv (dc wC hr (by rfl) (cO (cQ 2) cR)))))))
def EV (F:jW K "winner_of" "Search.winner_of" qK f fd) (M0:Bt mg) (Z:rC K (dQ Cs)) (Jv:nW P w K mg base (7+n) (dQ Cs) "searched" eJ):eO P w K mg base iY (7+n+1) f fd ["self","lines","whose"] (NW (dQ Cs) (qU 3 3 (λG=>jF G eJ))):=by
 obtain⟨pG,eK⟩:=M0.eK;obtain⟨R6,tW⟩:=M0.tW;refine yM (dQ Cs) F EN (λA G fD Ar outer s H E hr C0 H0=>?_)
 letI:=eQ (dQ Cs) A G
 have hu:=hr.units;unfold jF;exact(cV (fE (dI (rq hu) (WD.o (eA lU (by rfl) M0.len iG (da (cP 1) dq))) (WD.o cZ)) (cX (dv (jU (by rfl) tW))) dR)
  (cV (fE (dI (Bw hu) (WD.o (eL cR)) (cP 1)) (cX (dv (jU (by rfl) eK))) dR)
  (cV (NZ [] hu Z (eL (cO (cQ 1) (cO (cQ 2) cR))) (pv 0) (cX (Lv hu Z (vI Z Jv hr (pv 0) (cO (cQ 1) (cO (cQ 2) cR))) (pv 0) (eL (cO (cQ 1) (cO (cQ 2) cR))))))
  (cX (dv (Lu hu Z (pv 0) (eL (cO (cQ 1) (cO (cQ 2) cR))) (λ_ _=>rfl)))))))
def EW (F:jW K "winner_at" "Search.winner_at" qL f fd) (M0:Bt mg) (Z:rC K (dQ Cs)) (iO:gZ P w K mg base 32 "open_lines" eT) (tj:nW P w K mg base 32 (dQ Cs) "winner_of" (iC 24)):eO P w K mg base iY (33) f fd ["self","mine","yours","whose"] (NW (dQ Cs) (qU 4 4 kO)):=by
 refine yM (dQ Cs) F EO (λA G fD Ar outer s H E hr C0 H0=>?_)
 letI:=eQ (dQ Cs) A G
 have hu:=hr.units;unfold kO;exact(cX (dv (vI Z tj hr (pv 0) (cO (dc iO hr (by rfl) (cO (dZ (WD.o (dZ (WD.o (yL (Y:=dQ Cs) Z (pv 0))) (WD.o cZ) (λ_ _=>rfl))) (WD.o cZ) (λ_ _=>rfl)) (cO (cQ 1) (cO (cQ 2) cR)))) (cO (cQ 3) cR)))))
def Bh (F:jW K "winner_from" "winner_from" nO f fd) (M0:Bt mg) (Z:rC K (dQ Cs)) (P4:xh P w K mg base 32 (dQ Cs) "Search") (Hf:nW P w K mg base 33 (dQ Cs) "winner_at" oh):eO P w K mg base iY (34) f fd ["game","mine","yours","whose"] (nR iX):=by
 refine NU F AZ (λfD A outer s H E hr C0 H0=>?_)
 letI:=Mem.keep
 have hu:=hr.units;unfold kP;exact(cX (dv (Iu Z Hf hr (ZV Z P4 hr (by rfl) (cQ 0)) (cO (cQ 1) (cO (cQ 2) (cO (cQ 3) cR))))))
def Mg (F:jW K "winner" "winner" xI f fd) (M0:Bt mg) (B3:gZ P w K mg base 34 "winner_from" iX):eO P w K mg base iY (35) f fd ["game"] (nR pA):=by
 refine fy F Mc (λm fD A outer s H E hr C0 H0=>?_)
 have hu:=hr.units;unfold tN;exact(cX (dv (dc B3 hr (by rfl) (cO (cQ 0) (cO (eL cR) (cO (eL cR) (cO (dZ (cP 0) (WD.o cZ) (λ_ _=>rfl)) cR)))))))
def Jw (F:jW K "is_pair" "is_pair" u3 f fd) (M0:Bt mg) (Mh:gZ P w K mg base 2 "is_line" pB):eO P w K mg base iY (3) f fd ["thing","many"] (nR mV):=by
 refine fy F Jq (λm fD A outer s H E hr C0 H0=>?_)
 have hu:=hr.units;unfold qA;exact(cX (dv (zE (dc Mh hr (by rfl) (cO (cQ 0) (cO (cQ 1) cR))) (D3 (pX (rq hu) (WD.o (eA lU (by rfl) M0.len iG (da (cP 0) dq))) (WD.o cZ))))))
def EX (F:jW K "are_apart" "are_apart" qM f fd) (M0:Bt mg):eO P w K mg base iY (1) f fd ["pairs"] (nR l4):=by
 refine fy F mO (λm fD A outer s H E hr C0 H0=>?_)
 have hu:=hr.units;unfold mN;exact(cV (iH 1 mO.nd (nU (WD.o (WF.d (jA 2 rfl ⟨rfl,rfl,rfl,mO.nd⟩ (rA.weak (eG (cQ 0))) (λ_ _ _ _ _=>(dZ (cP 2) (WD.o cZ) (λ_ _=>rfl)))))) (WD.o (WF.d (jA 2 rfl ⟨rfl,rfl,rfl,mO.nd⟩ (rA.weak (eG (cQ 0))) (λ_ _ _ _ _=>(dZ (cP 2) (WD.o cZ) (λ_ _=>rfl))))))))
  (fJ 1 (cX (dv (pX (rq hu) (WD.o (AB rfl hu (by rfl) M0.len (by rfl) M0.set (cP 1))) (WD.o (eA lU (by rfl) M0.len iG (da (cP 1) dq))))))))
def Hg (F:jW K "has_pair" "has_pair" sV f fd) (M0:Bt mg) (pJ:gZ P w K mg base 1 "has_all" jD):eO P w K mg base iY (2) f fd ["line","pairs"] (nR nB):=by
 refine fy F yj (λm fD A outer s H E hr C0 H0=>?_)
 have hu:=hr.units;unfold oi;exact(cX (dv (eA (NV rfl) (by rfl) M0.any Im (da (WD.o (WF.d (jA 2 rfl ⟨rfl,rfl,rfl,yj.nd⟩ (rA.weak (eG (cQ 1))) (λ_ _ _ _ _=>(dc pJ hr (by rfl) (cO (cQ 0) (cO (cQ 2) cR))))))) dq))))
def B4 (F:jW K "have_pairs" "have_pairs" oQ f fd) (M0:Bt mg) (Jx:gZ P w K mg base 2 "has_pair" nB):eO P w K mg base iY (3) f fd ["lines","pairs"] (nR gW):=by
 refine fy F uG (λm fD A outer s H E hr C0 H0=>?_)
 have hu:=hr.units;unfold lK;exact(cX (dv (eA (Cw rfl) (by rfl) M0.all w4 (da (WD.o (WF.d (jA 2 rfl ⟨rfl,rfl,rfl,uG.nd⟩ (rA.weak (eG (cQ 0))) (λ_ _ _ _ _=>(dc Jx hr (by rfl) (cO (cQ 2) (cO (cQ 1) cR))))))) dq))))
def yz (F:jW K "needed_pairs" "needed_pairs" ml f fd) (M0:Bt mg) (qQ:gZ P w K mg base 3 "have_pairs" gW):eO P w K mg base iY (4) f fd ["lines","pairs"] (nR js):=by
 refine fy F gM (λm fD A outer s H E hr C0 H0=>?_)
 have hu:=hr.units;unfold jV;exact(cV (fN 2 gM.nd (cQ 1))
  (cV (ip (f:=gX) bz rfl (eG (cQ 1)) (fU (i:=3) gM.nd rfl) (cV (fN 4 gM.nd (ff gq (by rfl) M0.tuple eX (da (WD.o (WF.d (fM 5 rfl ⟨rfl,rfl,rfl,gM.nd⟩ (rA.weak (eG (cQ 2))) (λ_ _ _ _ _=>(dI (uM hu) (cP 5) (cP 3))) (λ_ _ _ _ _=>(cQ 5))))) dq)))
  (cX (fE (ik (dc qQ hr (by rfl) (cO (cQ 0) (cO (cQ 4) cR)))) (cX (fN 2 gM.nd (cQ 4))) dR))))
  (cX (dv (cQ 2)))))
def EY (F:jW K "pairs_for" "pairs_for" qN f fd) (M0:Bt mg) (pH:gZ P w K mg base (6+n) "choices" (ft 5)) (pJ:gZ P w K mg base (6+n) "has_all" jD) (iO:gZ P w K mg base (6+n) "open_lines" eT) (tm:FG P w K mg base (6+n) "pairs_for" 1 Ql dt):eO P w K mg base iY (6+n+1) f fd ["lines","hopeless"] (VN 1 Ql (CJ 7 2 1 Ql (λM=>jG M dt))):=by
 refine Rc 1 Ql F kT (λa M fD A outer s H E hr C0 H0=>?_)
 letI:=fm a M
 have hu:=hr.units;unfold jG;exact(cV (fE (dI (rq hu) (WD.o (eA lU (by rfl) M0.len iG (da (cP 0) dq))) (WD.o cZ)) (cX (dv (eL cR))) dR)
  (cV (fN 2 kT.nd (LU rfl hu (by rfl) M0.min (by rfl) M0.len (cP 0)))
  (O9 hu (dI (JU hu) (WD.o (eA lU (by rfl) M0.len iG (da (cP 2) dq))) (WD.o cZ)) (cQ 0) (pv 1) (cX (dv lb)) (by unfold iB;exact(cV (ip (f:=(f7 M dt)) bz rfl (eG (dc pH hr (by rfl) (cO (cQ 2) (cO cZ cR)))) (fU (i:=3) kT.nd rfl) (cV (jB 4 6 rfl ⟨rfl,rfl,rfl,kT.nd⟩ (rA.weak (eG (cQ 0))) (λ_ _ _ _ _=>(jK (ik (dc pJ hr (by rfl) (cO (cQ 6) (cO (cQ 3) cR)))))) (λ_ _ _ _ _=>(cQ 6)))
  (fJ 4 (cV (fN 5 kT.nd (NS tm hr (by rfl) (NP (dc iO hr (by rfl) (cO (cQ 4) (cO (cQ 3) (cO (eL cR) cR)))) (NO (pv 1) cR))))
  (cX (fE (dI (yH) (cP 5) (WD.o lb)) (cX (dv (kC (WD.o (eL (cO (cQ 3) cR))) (cP 5)))) dR))))))
  (cV (Il hu jd (pv 1) (cQ 0))
  (cX (dv lb))))))))
def Jy (F:jW K "pairing" "pairing" u4 f fd) (M0:Bt mg) (Bi:gZ P w K mg base 15 "needed_pairs" js) (iO:gZ P w K mg base 15 "open_lines" eT) (tm:FG P w K mg base 15 "pairs_for" 1 Ql (iD 8)):eO P w K mg base iY (16) f fd ["field"] (nR kf):=by
 refine NU F Ba (λfD A outer s H E hr C0 H0=>?_)
 letI:=Mem.keep
 have hu:=hr.units;unfold qC;exact(cV (fN 1 Ba.nd (NT tm hr (by rfl) (NR (dc iO hr (by rfl) (cO (dZ (cP 0) (WD.o cZ) (λ_ _=>rfl)) (cO (eL cR) (cO (eL cR) cR)))) (NQ cR))))
  (cV (fE (dI (Xa) (cP 1) (WD.o lb)) (cX (dv lb)) dR)
  (cX (dv (dc Bi hr (by rfl) (cO (dZ (cP 0) (WD.o cZ) (λ_ _=>rfl)) (cO (ff gq (by rfl) M0.tuple eX (da (WD.o (WF.d (je (tT hu) (by rfl) M0.sorted gA (da (cP 1) dq)))) dq)) cR)))))))
def B5 (F:jW K "is_pairing" "is_pairing" oR f fd) (M0:Bt mg) (Hh:gZ P w K mg base 3 "are_apart" l4) (qQ:gZ P w K mg base 3 "have_pairs" gW) (Mi:gZ P w K mg base 3 "is_pair" mV) (sZ:gZ P w K mg base 3 "is_rising" jr):eO P w K mg base iY (4) f fd ["field","thing"] (nR gu):=by
 refine fy F uH (λm fD A outer s H E hr C0 H0=>?_)
 have hu:=hr.units;unfold lN;exact(cV (fE (jK (ik (rV kit_tuple eX (cP 1) (by rfl) M0.isinstance (by rfl) M0.tuple))) (cX (dv jd)) dR)
  (cV (fE (jK (ik (eA (Cw rfl) (by rfl) M0.all w4 (da (WD.o (WF.d (jA 2 rfl ⟨rfl,rfl,rfl,uH.nd⟩ (rA.weak (eG (cQ 1))) (λ_ _ _ _ _=>(dc Mi hr (by rfl) (cO (cQ 2) (cO (dZ (cP 0) (WD.o cZ) (λ_ _=>rfl)) cR))))))) dq)))) (cX (dv jd)) dR)
  (cX (dv (zE (dc sZ hr (by rfl) (cO (cQ 1) cR)) (zE (dc Hh hr (by rfl) (cO (cQ 1) cR)) (D3 (dc qQ hr (by rfl) (cO (dZ (cP 0) (WD.o cZ) (λ_ _=>rfl)) (cO (cQ 1) cR))))))))))
def Jz (F:jW K "partner" "partner" u5 f fd) (M0:Bt mg):eO P w K mg base iY (1) f fd ["pairs","point"] (nR lC):=by
 refine fy F Bb (λm fD A outer s H E hr C0 H0=>?_)
 have hu:=hr.units;unfold qD;exact(cV (ip (f:=gY) bz rfl (eG (cQ 0)) (fU (i:=2) Bb.nd rfl) (cX (fE (dI (Bw hu) (cP 1) (cP 2)) (cX (dv (zF (dI (rq hu) (cP 1) (WD.o (dZ (cP 2) (WD.o cZ) (λ_ _=>rfl)))) (dZ (cP 2) (WD.o cZ) (λ_ _=>rfl)) (dZ (cP 2) (WD.o cZ) (λ_ _=>rfl))))) dR)))
  (cX (dv lb)))
def P5 (F:jW K "reply" "reply" Bc f fd) (M0:Bt mg) (B6:gZ P w K mg base 1 "free_points" jP) (xK:gZ P w K mg base 1 "partner" lC):eO P w K mg base iY (2) f fd ["field","pairs","mine","yours","point"] (nR qE):=by
 refine fy F Bd (λm fD A outer s H E hr C0 H0=>?_)
 have hu:=hr.units;unfold wq;exact(cV (fN 5 Bd.nd (dc B6 hr (by rfl) (cO (cQ 0) (cO (cQ 2) (cO (cQ 3) cR)))))
  (cV (fN 6 Bd.nd (dc xK hr (by rfl) (cO (cQ 1) (cO (cQ 4) cR))))
  (cV (fE (dI (Bw hu) (cP 6) (cP 5)) (cX (dv (cQ 6))) dR)
  (cX (dv (LS rfl hu (by rfl) M0.min (cP 5)))))))
def Hi (F:jW K "_law_mix" "_law_mix" sW f fd) (M0:Bt mg):eO P w K mg base iY (1) f fd ["_law_cell_here","_law_prime","_law_many"] (nR eC):=by
 refine fy F G9 (λm fD A outer s H E hr C0 H0=>?_)
 have hu:=hr.units;unfold rZ;exact(cX (dv (Ih (WD.o (Ih (WD.o (D2 (cP 0) (WD.o cZ))) (cP 1))) (cP 2))))
def B7 (F:jW K "_law_field" "_law_field" oS f fd) (M0:Bt mg) (j4:gZ P w K mg base 1 "_law_mix" eC):eO P w K mg base iY (2) f fd ["_law_cell_here","_law_least","_law_most","_law_lines"] (nR fL):=by
 refine fy F gy (λm fD A outer s H E hr C0 H0=>?_)
 have hu:=hr.units;unfold lF;exact(cV (fN 4 gy.nd (kB (cP 1) (WD.o (dc j4 hr (by rfl) (cO (cQ 0) (cO cZ (cO (kB (WD.o (uQ (cP 2) (cP 1))) (WD.o cZ)) cR)))))))
  (cV (iH 5 gy.nd (ma cR))
  (cV (ip (f:=iQ) bz rfl (iI (by rfl) M0.range (cO (dc j4 hr (by rfl) (cO (cQ 0) (cO cZ (cO (kB (cP 3) (WD.o cZ)) cR)))) cR)) (fU (i:=6) gy.nd rfl) (cV (fN 7 gy.nd (kB (WD.o cZ) (WD.o (dc j4 hr (by rfl) (cO (kB (cP 0) (WD.o (D2 (WD.o cZ) (cP 6)))) (cO cZ (cO (eA (Nz rfl) (by rfl) M0.min zu (da (WD.o cZ) (da (cP 4) dq))) cR)))))))
  (cV (fE (BB.pt (vA (dI (Ul) (WD.o (Ih (cP 0) (WD.o cZ))) (WD.o cZ)) (vA (dI (rq hu) (cP 7) (WD.o cZ)) (vz (dI (Ul) (cP 4) (WD.o cZ)))))) (cX (fN 7 gy.nd cZ)) dR)
  (cV (iH 8 gy.nd (vB rfl (by rfl) M0.list (by rfl) M0.range (cO (cQ 4) cR)))
  (cV (Q6 9 10 8 rfl (by decide) ⟨rfl,rfl,rfl,gy.nd⟩ (iI (by rfl) M0.range (cO (cQ 7) cR)) (λ_ _ _ _ _=>pv 8) (λ_ _ _ _ _=>(dc j4 hr (by rfl) (cO (kB (WD.o (kB (cP 0) (WD.o (D2 (WD.o cZ) (cP 6))))) (WD.o (D2 (WD.o cZ) (cP 10)))) (cO cZ (cO (uQ (cP 4) (cP 10)) cR))))))
  (fJ 9 (cX (fE (dI (tG hu) (WD.o (ff gq (by rfl) M0.tuple eX (da (WD.o (WF.d (je (zD hu) (by rfl) M0.sorted gA (da (cP 9) dq)))) dq))) (cP 5)) (cX (NK (pv 5) (ff gq (by rfl) M0.tuple eX (da (WD.o (WF.d (je (zD hu) (by rfl) M0.sorted gA (da (cP 9) dq)))) dq)))) dR))))))))
  (cX (dv (eL (cO (cQ 4) (cO (ff gq (by rfl) M0.tuple eX (da (WD.o (WF.d (je (zD hu) (by rfl) M0.sorted gA (da (cP 5) dq)))) dq)) cR))))))))
def EZ (F:jW K "_law_over" "_law_over" qO f fd) (M0:Bt mg):eO P w K mg base iY (1) f fd ["_law_game_here","_law_mine","_law_yours"] (nR j9):=by
 refine fy F kU (λm fD A outer s H E hr C0 H0=>?_)
 have hu:=hr.units;unfold kI;exact(cV (ip (f:=gD) bz rfl (eG (dZ (WD.o (dZ (cP 0) (WD.o cZ) (λ_ _=>rfl))) (WD.o cZ) (λ_ _=>rfl))) (fU (i:=3) kU.nd rfl) (cX (fE (jK (zM (WD.o (WF.d (fM 4 rfl ⟨rfl,rfl,rfl,kU.nd⟩ (rA.weak (eG (cQ 3))) (λ_ _ _ _ _=>(dI (tG hu) (cP 4) (cP 1))) (λ_ _ _ _ _=>(cQ 4))))))) (cX (dv cZ)) dR)))
  (cV (ip (f:=gE) bz rfl (eG (dZ (WD.o (dZ (cP 0) (WD.o cZ) (λ_ _=>rfl))) (WD.o cZ) (λ_ _=>rfl))) (fU (i:=3) kU.nd rfl) (cX (fE (jK (zM (WD.o (WF.d (fM 4 rfl ⟨rfl,rfl,rfl,kU.nd⟩ (rA.weak (eG (cQ 3))) (λ_ _ _ _ _=>(dI (Bw hu) (cP 4) (cP 2))) (λ_ _ _ _ _=>(cQ 4))))))) (cX (dv lb)) dR)))
  (cX (dv cZ))))
def Bj (F:jW K "_law_claims" "_law_claims" nQ f fd) (M0:Bt mg):eO P w K mg base iY (1) f fd ["_law_game_here","_law_mine","_law_yours","_law_whose"] (nR g9):=by
 refine fy F gf (λm fD A outer s H E hr C0 H0=>?_)
 have hu:=hr.units;unfold kJ;exact(cV (jB 4 9 rfl ⟨rfl,rfl,rfl,gf.nd⟩ (rA.weak (iI (by rfl) M0.range (cO (dZ (WD.o (dZ (cP 0) (WD.o cZ) (λ_ _=>rfl))) (WD.o cZ) (λ_ _=>rfl)) cR))) (λ_ _ _ _ _=>(dI (tG hu) (cP 9) (WD.o (kC (cP 1) (cP 2))))) (λ_ _ _ _ _=>(cQ 9)))
  (fJ 4 (cV (iH 5 gf.nd (ma (cO (eL cR) cR)))
  (fJ 5 (cV (ip (f:=jE) bz rfl (iI (by rfl) M0.range (cO (eA (Nz rfl) (by rfl) M0.min zu (da (WD.o (dZ (cP 0) (WD.o (kB (WD.o cZ) (cP 3))) (λ_ _=>rfl))) (da (WD.o (eA lU (by rfl) M0.len iG (da (cP 4) dq))) dq))) cR)) (fU (i:=6) gf.nd rfl) (cV (iH 7 gf.nd (ma cR))
  (cV (ip (f:=pj) bz rfl (rT (cQ 5)) (fU (i:=8) gf.nd rfl) (cX (UE (pv 7) (fM 9 rfl ⟨rfl,rfl,rfl,gf.nd⟩ (pZ (cP 4)) (λ_ _ _ _ _=>(BB.pt (pY (dI (rq hu) (cP 8) (WD.o (eL cR))) (mG (dI (Ul) (cP 9) (WD.o (dZ (cP 8) (WD.o (Uy (WD.o cZ))) (λ_ _=>rfl)))))))) (λ_ _ _ _ _=>(kC (cP 8) (WD.o (eL (cO (cQ 9) cR)))))))))
  (fJ 7 (cX (fN 5 gf.nd (cQ 7)))))))
  (cX (dv (cQ 5))))))))
def B8 (F:jW K "_law_holds" "_law_holds" oT f fd) (M0:Bt mg):eO P w K mg base iY (1) f fd ["_law_line","_law_pairs"] (nR jH):=by
 refine fy F uI (λm fD A outer s H E hr C0 H0=>?_)
 have hu:=hr.units;unfold lO;exact(cX (dv (pX (uM hu) (WD.o (WF.d (fM 2 rfl ⟨rfl,rfl,rfl,uI.nd⟩ (rA.weak (eG (cQ 1))) (λ_ _ _ _ _=>(BB.pt (vA (dI (Bw hu) (WD.o (dZ (cP 2) (WD.o cZ) (λ_ _=>rfl))) (cP 0)) (vz (dI (Bw hu) (WD.o (dZ (cP 2) (WD.o cZ) (λ_ _=>rfl))) (cP 0)))))) (λ_ _ _ _ _=>(cQ 2))))) (WD.o (WF.d (ma cR))))))
def u7 (F:jW K "_law_is_pairing" "_law_is_pairing" j3 f fd) (M0:Bt mg) (E1:gZ P w K mg base 1 "_law_holds" jH):eO P w K mg base iY (2) f fd ["_law_field_here","_law_thing"] (nR eB):=by
 refine fy F fR (λm fD A outer s H E hr C0 H0=>?_)
 have hu:=hr.units;unfold iK;exact(cV (fE (jK (ik (rV kit_tuple eX (cP 1) (by rfl) M0.isinstance (by rfl) M0.tuple))) (cX (dv jd)) dR)
  (cV (iH 2 fR.nd (ma cR))
  (fJ 2 (cV (ip (f:=fI) bz rfl (eG (cQ 1)) (fU (i:=3) fR.nd rfl) (cV (fE (BB.pt (pY (jK (ik (rV kit_tuple eX (cP 3) (by rfl) M0.isinstance (by rfl) M0.tuple))) (mG (dI (uM hu) (WD.o (eA lU (by rfl) M0.len iG (da (cP 3) dq))) (WD.o cZ))))) (cX (dv jd)) dR)
  (cV (fE (zM (WD.o (WF.d (fM 4 rfl ⟨rfl,rfl,rfl,fR.nd⟩ (rA.weak (eG (cQ 3))) (λ_ _ _ _ _=>(BB.pt (pY (ik (rV zv DS (cP 4) (by rfl) M0.isinstance (by rfl) M0.bool)) (mG (RQ (by rfl) M0.range (cP 4) (cO (dZ (cP 0) (WD.o cZ) (λ_ _=>rfl)) cR)))))) (λ_ _ _ _ _=>(cQ 4)))))) (cX (dv jd)) dR)
  (cV (fE (dI (W6) (WD.o (dZ (cP 3) (WD.o cZ) (λ_ _=>rfl))) (WD.o (dZ (cP 3) (WD.o cZ) (λ_ _=>rfl)))) (cX (dv jd)) dR)
  (cV (iH 2 fR.nd (nU (cP 2) (WD.o (WF.d (xf Ia (by rfl) M0.list yI (da (cP 3) dq))))))
  (fJ 2 dR))))))
  (cV (fE (BB.pt (pY (dI (uM hu) (WD.o (WF.d (xf Ia (by rfl) M0.list yI (da (cP 1) dq)))) (WD.o (WF.d (je (tT hu) (by rfl) M0.sorted gA (da (cP 1) dq))))) (mG (dI (uM hu) (WD.o (AB rfl hu (by rfl) M0.len (by rfl) M0.set (cP 2))) (WD.o (eA lU (by rfl) M0.len iG (da (cP 2) dq))))))) (cX (dv jd)) dR)
  (cX (dv (pX (rq hu) (WD.o (WF.d (fM 5 rfl ⟨rfl,rfl,rfl,fR.nd⟩ (rA.weak (eG (dZ (cP 0) (WD.o cZ) (λ_ _=>rfl)))) (λ_ _ _ _ _=>(jK (ik (dc E1 hr (by rfl) (cO (cQ 5) (cO (cQ 1) cR)))))) (λ_ _ _ _ _=>(cQ 5))))) (WD.o (WF.d (ma cR)))))))))))
def Hj (F:jW K "_law_all" "_law_all" sX f fd) (M0:Bt mg) (qR:gZ P w K mg base (0+n) "_law_all" dW):eO P w K mg base iY (0+n+1) f fd ["_law_points"] (nR (gz 5 1 (sL dW))):=by
 refine fy F kj (λm fD A outer s H E hr C0 H0=>?_)
 have hu:=hr.units;unfold sL;exact(cV (fE (dI (JU hu) (WD.o (eA lU (by rfl) M0.len iG (da (cP 0) dq))) (WD.o cZ)) (cX (dv (WF.d (ma (cO (eL cR) cR))))) dR)
  (cV (fN 1 kj.nd (dc qR hr (by rfl) (cO (WF.d (D4 (cP 0) (rS (WD.o cZ)) CG)) cR)))
  (cV (ip (f:=(uB dW)) bz rfl (Ii (by rfl) M0.range (cO cZ (cO (eA lU (by rfl) M0.len iG (da (cP 0) dq)) cR))) (fU (i:=2) kj.nd rfl) (cV (iH 3 kj.nd (nU (WD.o (WF.d (D4 (cP 0) (rS (WD.o cZ)) (rS (cP 2))))) (WD.o (WF.d (D4 (cP 0) (rS (WD.o (kB (cP 2) (WD.o cZ)))) CG)))))
  (fJ 3 (cV (iH 1 kj.nd (nU (cP 1) (WD.o (WF.d (jA 4 rfl ⟨rfl,rfl,rfl,kj.nd⟩ (rA.weak (rT (dc qR hr (by rfl) (cO (cQ 3) cR)))) (λ_ _ _ _ _=>(kC (WD.o (eL (cO (eL (cO (dZ (cP 0) (WD.o cZ) (λ_ _=>rfl)) (cO (dZ (cP 0) (cP 2) (λ_ _=>rfl)) cR))) cR))) (cP 4))))))))
  (fJ 1 dR)))))
  (cX (dv (cQ 1))))))
def E2 (F:jW K "_law_safe" "_law_safe" qP f fd) (M0:Bt mg) (B9:gZ P w K mg base (2+n) "_law_claims" g9) (Hk:gZ P w K mg base (2+n) "_law_over" j9) (tu:gZ P w K mg base (2+n) "_law_safe" dk) (E3:gZ P w K mg base (2+n) "reply" qE):eO P w K mg base iY (2+n+1) f fd ["_law_field_here","_law_pairs","_law_mine","_law_yours"] (nR (gz 9 4 (kR dk))):=by
 refine fy F iN (λm fD A outer s H E hr C0 H0=>?_)
 have hu:=hr.units;unfold kR;exact(cV (fN 4 iN.nd (eL (cO (cQ 0) (cO cZ (cO cZ (cO cZ cR))))))
  (cV (fE (dI (rq hu) (WD.o (dc Hk hr (by rfl) (cO (cQ 4) (cO (cQ 2) (cO (cQ 3) cR))))) (WD.o cZ)) (cX (dv jd)) dR)
  (cV (ip (f:=(jv dk)) bz rfl (rT (dc B9 hr (by rfl) (cO (cQ 4) (cO (cQ 2) (cO (cQ 3) (cO cZ cR)))))) (fU (i:=5) iN.nd rfl) (cX (fE (dI (uM hu) (cP 5) (WD.o (eL cR))) (cV (fN 6 iN.nd (ff gq (by rfl) M0.tuple eX (da (WD.o (WF.d (je (tJ hu) (by rfl) M0.sorted gA (da (WD.o (kC (cP 2) (cP 5))) dq)))) dq)))
  (cV (fN 7 iN.nd (dc E3 hr (by rfl) (cO (cQ 0) (cO (cQ 1) (cO (cQ 6) (cO (cQ 3) (cO (dZ (cP 5) (WD.o cZ) (λ_ _=>rfl)) cR)))))))
  (cV (fN 8 iN.nd (cQ 3))
  (cV (fE (dI (yH) (cP 7) (WD.o lb)) (cX (fN 8 iN.nd (ff gq (by rfl) M0.tuple eX (da (WD.o (WF.d (je (tJ hu) (by rfl) M0.sorted gA (da (WD.o (kC (cP 3) (WD.o (eL (cO (cQ 7) cR))))) dq)))) dq)))) dR)
  (cX (fE (jK (ik (dc tu hr (by rfl) (cO (cQ 0) (cO (cQ 1) (cO (cQ 6) (cO (cQ 8) cR))))))) (cX (dv jd)) dR)))))) dR)))
  (cX (dv jd)))))
def Vu (F:jW K "law" "law" Jr f fd) (M0:Bt mg) (qR:gZ P w K mg base 35 "_law_all" (nD 8)) (E4:gZ P w K mg base 35 "_law_field" fL) (i0:gZ P w K mg base 35 "_law_is_pairing" eB) (j4:gZ P w K mg base 35 "_law_mix" eC) (tu:gZ P w K mg base 35 "_law_safe" (gc 7)) (wD:gZ P w K mg base 35 "is_pairing" gu) (Mj:gZ P w K mg base 35 "pairing" kf) (xK:gZ P w K mg base 35 "partner" lC) (E3:gZ P w K mg base 35 "reply" qE) (Hl:gZ P w K mg base 35 "winner" pA):eO P w K mg base iY (36) f fd ["_law_script"] (nR KC):=by
 refine fy F hJ (λm fD A outer s H E hr C0 H0=>?_)
 have hu:=hr.units;unfold EH;exact(cV (ip (f:=sR) bz rfl (rT (WF.d (D4 (cP 0) CG (rS (WD.o cZ))))) (fU (i:=1) hJ.nd rfl) (cV (fN 2 hJ.nd (dc E4 hr (by rfl) (cO (cQ 1) (cO cZ (cO cZ (cO cZ cR))))))
  (cV (fN 3 hJ.nd (dc qR hr (by rfl) (cO (WF.d (vB rfl (by rfl) M0.list (by rfl) M0.range (cO (dZ (cP 2) (WD.o cZ) (λ_ _=>rfl)) cR))) cR)))
  (cV (jB 4 17 rfl ⟨rfl,rfl,rfl,hJ.nd⟩ (pZ (cP 3)) (λ_ _ _ _ _=>(ik (dc i0 hr (by rfl) (cO (cQ 2) (cO (ff gq (by rfl) M0.tuple eX (da (WD.o (WF.d (je (tT hu) (by rfl) M0.sorted gA (da (cP 17) dq)))) dq)) cR))))) (λ_ _ _ _ _=>(cQ 17)))
  (fJ 4 (cV (fN 5 hJ.nd (dc Mj hr (by rfl) (cO (cQ 2) cR)))
  (cV (fE (dI (uM hu) (WD.o (pX (Xa) (cP 5) (WD.o lb))) (WD.o (RO (cP 4)))) (cX (dv jd)) dR)
  (cV (fE (dI (yH) (cP 5) (WD.o lb)) (cV (fE (BB.pt (pY (dI (yH) (WD.o (dc wD hr (by rfl) (cO (cQ 2) (cO (cQ 5) cR)))) (WD.o jd)) (mG (jK (ik (dc i0 hr (by rfl) (cO (cQ 2) (cO (cQ 5) cR)))))))) (cX (dv jd)) dR)
  (cV (ip (f:=sO) bz rfl (eG (cQ 5)) (fU (i:=6) hJ.nd rfl) (cX (fE (ik (dc i0 hr (by rfl) (cO (cQ 2) (cO (ff gq (by rfl) M0.tuple eX (da (WD.o (WF.d (fM 17 rfl ⟨rfl,rfl,rfl,hJ.nd⟩ (rA.weak (eG (cQ 5))) (λ_ _ _ _ _=>(dI (uM hu) (cP 17) (cP 6))) (λ_ _ _ _ _=>(cQ 17))))) dq)) cR)))) (cX (dv jd)) dR)))
  (cV (fE (BB.pt (vA (dI (JU hu) (WD.o (dZ (cP 2) (WD.o cZ) (λ_ _=>rfl))) (WD.o cZ)) (vz (jK (ik (dc tu hr (by rfl) (cO (cQ 2) (cO (cQ 5) (cO (eL cR) (cO (eL cR) cR)))))))))) (cX (dv jd)) dR)
  (cX (fE (BB.pt (pY (dI (uM hu) (WD.o (dc Hl hr (by rfl) (cO (eL (cO (cQ 2) (cO cZ (cO cZ (cO cZ cR))))) cR))) (WD.o cZ)) (mG (dI (uM hu) (WD.o (dc Hl hr (by rfl) (cO (eL (cO (cQ 2) (cO cZ (cO cZ (cO cZ cR))))) cR))) (WD.o cZ))))) (cX (dv jd)) dR))))) dR)
  (cV (fN 7 hJ.nd (dZ (cP 3) (WD.o (dc j4 hr (by rfl) (cO (cQ 1) (cO cZ (cO (eA lU (by rfl) M0.len iG (da (cP 3) dq)) cR))))) (λ_ _=>rfl)))
  (cV (iH 8 hJ.nd (ma (cO (ff gq (by rfl) M0.tuple eX (da (WD.o (WF.d (je (tT hu) (by rfl) M0.sorted gA (da (cP 7) dq)))) dq)) (cO (Ik (cP 7) (rS (WD.o cZ)) CG) (cO (Rj (cP 7)) (cO (kC (cP 7) (WD.o (Ik (cP 7) CG (rS (WD.o cZ))))) (cO (WF.d (xf Ia (by rfl) M0.list yI (da (cP 7) dq))) cR)))))))
  (fJ 8 (cV (ip (f:=sP) bz rfl (rT (WF.d (nU (cP 8) (WD.o (WF.d (ma (cO lb (cO (eL (cO (eL (cO cZ cR)) cR)) (cO (eL (cO (eL (cO cZ (cO cZ cR))) cR)) cR))))))))) (fU (i:=9) hJ.nd rfl) (cV (fN 10 hJ.nd (dc wD hr (by rfl) (cO (cQ 2) (cO (cQ 9) cR))))
  (cX (fE (BB.pt (pY (jK (ik (rV zv DS (cP 10) (by rfl) M0.isinstance (by rfl) M0.bool))) (mG (dI (uM hu) (cP 10) (WD.o (dc i0 hr (by rfl) (cO (cQ 2) (cO (cQ 9) cR)))))))) (cX (dv jd)) dR))))
  (cX (ip (f:=sQ) bz rfl (iI (by rfl) M0.range (cO (dZ (cP 2) (WD.o cZ) (λ_ _=>rfl)) cR)) (fU (i:=11) hJ.nd rfl) (cV (jB 12 6 rfl ⟨rfl,rfl,rfl,hJ.nd⟩ (rA.weak (eG (cQ 7))) (λ_ _ _ _ _=>(dI (Bw hu) (cP 11) (cP 6))) (λ_ _ _ _ _=>(uQ (WD.o (kB (WD.o (dZ (cP 6) (WD.o cZ) (λ_ _=>rfl))) (WD.o (dZ (cP 6) (WD.o cZ) (λ_ _=>rfl))))) (cP 11))))
  (fJ 12 (cV (fE (dI (uM hu) (WD.o (dc xK hr (by rfl) (cO (cQ 7) (cO (cQ 11) cR)))) (WD.o (dZ (WD.o (WF.d (nU (cP 12) (WD.o (WF.d (ma (cO lb cR))))))) (WD.o cZ) (λ_ _=>rfl)))) (cX (dv jd)) dR)
  (cV (jB 13 17 rfl ⟨rfl,rfl,rfl,hJ.nd⟩ (rA.weak (iI (by rfl) M0.range (cO (dZ (cP 2) (WD.o cZ) (λ_ _=>rfl)) cR))) (λ_ _ _ _ _=>(dI (uM hu) (cP 17) (cP 11))) (λ_ _ _ _ _=>(cQ 17)))
  (fJ 13 (cV (fN 14 hJ.nd (ff gq (by rfl) M0.tuple eX (da (WD.o (WF.d (fM 17 rfl ⟨rfl,rfl,rfl,hJ.nd⟩ (pZ (cP 13)) (λ_ _ _ _ _=>(dI (rq hu) (WD.o (dc j4 hr (by rfl) (cO (kB (cP 1) (cP 17)) (cO cZ (cO cZ cR))))) (WD.o cZ))) (λ_ _ _ _ _=>(cQ 17))))) dq)))
  (cV (iH 15 hJ.nd (fM 17 rfl ⟨rfl,rfl,rfl,hJ.nd⟩ (pZ (cP 13)) (λ_ _ _ _ _=>(dI (tG hu) (cP 17) (cP 14))) (λ_ _ _ _ _=>(cQ 17))))
  (fJ 15 (cV (iH 16 hJ.nd (nU (WD.o (WF.d (nU (WD.o (WF.d (fM 17 rfl ⟨rfl,rfl,rfl,hJ.nd⟩ (pZ (cP 12)) (λ_ _ _ _ _=>(dI (Bw hu) (cP 17) (cP 15))) (λ_ _ _ _ _=>(cQ 17))))) (cP 15)))) (WD.o (WF.d (ma (cO lb cR))))))
  (fJ 16 (cX (fE (dI (uM hu) (WD.o (dc E3 hr (by rfl) (cO (cQ 2) (cO (cQ 7) (cO (eL (cO (cQ 11) cR)) (cO (cQ 14) (cO (cQ 11) cR))))))) (WD.o (dZ (cP 16) (WD.o cZ) (λ_ _=>rfl)))) (cX (dv jd)) dR))))))))))))))))))))))))))
  (cX (dv jd)))
def Hm (F:jW K "__init__" "Search.__init__" sY f fd) (Z:rC K (dQ Cs)):eO P w K mg base iY 1 f fd ["self","game"] (Iq (dQ Cs)):=Rg (dQ Cs) F Ha rfl (λfD Ar outer s H E=>NY Z (pv 0) (pv 1) (pv 0) rfl rfl)
end
def all_mk {P:cC}{w:cD}{K:W.Frag}{h:Heap}{mg:cg}(X:K.In h) (G:h.Ns mainGlobals mg) (hfa:mg "law"=some (.ref fa))
  {Cs:cG}(aC:W.nsIn K mainGlobals "Search"=some (some (.ref Cs)))
  (pgC:W.plainGet K Cs Str.empty=true)
  (hdC:W.hasDictIn K Cs=true)
  (poC:W.plainOver K Cs=true)
  (saC:W.findIn K (.ref Cs) "__setattr__"=some (some (.builtin "object.__setattr__")))
  (mkC:W.makesIn K Cs=true)
  (kcC:W.keepIn K (.ref Cs)=true)
  (nGC:W.findIn K (.ref Cs) "game"=some none)
  (nKC:W.findIn K (.ref Cs) "known"=some none)
  (pI:VS K Cs "game" "known" "__init__" "Search.__init__" sY)
  (p0:qx K "is_number" qF)
  (p1:qx K "is_rising" qG)
  (p2:qx K "is_line" uY)
  (p3:qx K "has_all" uZ)
  (p4:qx K "has_some" sS)
  (p5:qx K "at_a_time" qH)
  (p6:qx K "other_hand" oO)
  (p7:qx K "choices" u0)
  (p8:qx K "free_points" nL)
  (p9:qx K "behind" xG)
  (p10:qx K "free_part" qJ)
  (p11:qx K "has_another" nN)
  (p12:qx K "spoils" xH)
  (p13:qx K "points_by_use" lD)
  (p14:qx K "open_lines" oP)
  (p15:VS K Cs "game" "known" "worth_trying" "Search.worth_trying" mj)
  (p16:VS K Cs "game" "known" "searched" "Search.searched" sU)
  (p17:VS K Cs "game" "known" "winner_of" "Search.winner_of" qK)
  (p18:VS K Cs "game" "known" "winner_at" "Search.winner_at" qL)
  (p19:qx K "winner_from" nO)
  (p20:qx K "winner" xI)
  (p21:qx K "is_pair" u3)
  (p22:qx K "are_apart" qM)
  (p23:qx K "has_pair" sV)
  (p24:qx K "have_pairs" oQ)
  (p25:qx K "needed_pairs" ml)
  (p26:qx K "pairs_for" qN)
  (p27:qx K "pairing" u4)
  (p28:qx K "is_pairing" oR)
  (p29:qx K "partner" u5)
  (p30:qx K "reply" Bc)
  (p31:qx K "_law_mix" sW)
  (p32:qx K "_law_field" oS)
  (p33:qx K "_law_over" qO)
  (p34:qx K "_law_claims" nQ)
  (p35:qx K "_law_holds" oT)
  (p36:qx K "_law_is_pairing" j3)
  (p37:qx K "_law_all" sX)
  (p38:qx K "_law_safe" qP)
  (p39:qx K "law" Jr)
  (z0:W.nsIn K mainGlobals "all"=some none)
  (z1:W.nsIn K mainGlobals "any"=some none)
  (z2:W.nsIn K mainGlobals "bool"=some none)
  (z3:W.nsIn K mainGlobals "int"=some none)
  (z4:W.nsIn K mainGlobals "isinstance"=some none)
  (z5:W.nsIn K mainGlobals "len"=some none)
  (z6:W.nsIn K mainGlobals "list"=some none)
  (z7:W.nsIn K mainGlobals "min"=some none)
  (z8:W.nsIn K mainGlobals "range"=some none)
  (z9:W.nsIn K mainGlobals "set"=some none)
  (z10:W.nsIn K mainGlobals "sorted"=some none)
  (z11:W.nsIn K mainGlobals "tuple"=some none)
  {t0:Tok}(y0:W.nsIn K mainGlobals "BUILDER"=some (some (.int 0 t0)))
  {t1:Tok}(y1:W.nsIn K mainGlobals "GUARD"=some (some (.int 1 t1)))
  (tq:(W.tabIn K "points_by_use").isSome=true)
  :∃fd:cB,(∀(s:cA) (v:cy),BindsTo s fd ⟨[v],[]⟩ [("_law_script",v)])/\∀base:Heap,K.In base->base.Ns mainGlobals mg->eO P w K mg base iY 65 fa fd ["_law_script"] (nR KC):=by
 obtain⟨_,_,FI,mI,nI⟩:=pI.ex;obtain⟨_,_,A0,F0,T0⟩:=p0.get X G;obtain⟨_,_,A1,F1,T1⟩:=p1.get X G;obtain⟨_,_,A2,F2,T2⟩:=p2.get X G;obtain⟨_,_,A3,F3,T3⟩:=p3.get X G;obtain⟨_,_,A4,F4,T4⟩:=p4.get X G;obtain⟨_,_,A5,F5,T5⟩:=p5.get X G;obtain⟨_,_,A6,F6,T6⟩:=p6.get X G;obtain⟨_,_,A7,F7,T7⟩:=p7.get X G;obtain⟨_,_,A8,F8,T8⟩:=p8.get X G;obtain⟨_,_,A9,F9,T9⟩:=p9.get X G;obtain⟨_,_,A10,F10,T10⟩:=p10.get X G;obtain⟨_,_,A11,F11,T11⟩:=p11.get X G;obtain⟨_,_,A12,F12,T12⟩:=p12.get X G;obtain⟨_,_,A13,F13,T13⟩:=p13.get X G;obtain⟨_,_,A14,F14,T14⟩:=p14.get X G;obtain⟨_,_,F15,m15,n15⟩:=p15.ex;obtain⟨_,_,F16,m16,n16⟩:=p16.ex;obtain⟨_,_,F17,m17,n17⟩:=p17.ex;obtain⟨_,_,F18,m18,Ms⟩:=p18.ex;obtain⟨_,_,A19,F19,T19⟩:=p19.get X G;obtain⟨_,_,A20,F20,T20⟩:=p20.get X G;obtain⟨_,_,A21,F21,T21⟩:=p21.get X G;obtain⟨_,_,A22,F22,T22⟩:=p22.get X G;obtain⟨_,_,A23,F23,T23⟩:=p23.get X G;obtain⟨_,_,A24,F24,T24⟩:=p24.get X G;obtain⟨_,_,A25,F25,T25⟩:=p25.get X G;obtain⟨_,_,A26,Yl,T26⟩:=p26.get X G;obtain⟨_,_,A27,F27,T27⟩:=p27.get X G;obtain⟨_,_,A28,F28,T28⟩:=p28.get X G;obtain⟨_,_,A29,F29,T29⟩:=p29.get X G;obtain⟨_,_,A30,F30,T30⟩:=p30.get X G;obtain⟨_,_,A31,F31,T31⟩:=p31.get X G;obtain⟨_,_,A32,F32,T32⟩:=p32.get X G;obtain⟨_,_,A33,F33,T33⟩:=p33.get X G;obtain⟨_,_,A34,F34,T34⟩:=p34.get X G;obtain⟨_,_,A35,F35,T35⟩:=p35.get X G;obtain⟨_,_,A36,F36,T36⟩:=p36.get X G;obtain⟨_,_,A37,Ym,T37⟩:=p37.get X G;obtain⟨_,_,A38,Yn,T38⟩:=p38.get X G;obtain⟨_,abh,A39,F39,T39⟩:=p39.get X G;cases hfa.symm.trans A39;have M0:Bt mg:=⟨bE X G z0,bE X G z1,bE X G z2,bE X G z3,bE X G z4,bE X G z5,bE X G z6,bE X G z7,bE X G z8,bE X G z9,bE X G z10,bE X G z11,⟨_,aO X G y0⟩,⟨_,aO X G y1⟩⟩;refine⟨abh,λs v=>(by obtain⟨_,_,_,_,_,_,_,_,_,e,_⟩:=id F39.ex;rw[e];exact .of_eq rfl),λbase _ _=>?_⟩
 have Z:rC K (dQ Cs):=⟨⟨pgC,hdC,poC,saC⟩,nGC,nKC⟩;have P6:xh P w K mg base 1 (dQ Cs) "Search":=⟨_,_,_,Hm FI Z,⟨mkC,mI.at_,mI.fn,kcC⟩,aO X G aC,iA FI,(show Str.ofString "known"≠Str.ofString "game" by decide +kernel)⟩
 obtain⟨⟨ctq,Ptq⟩,htq⟩:=Option.isSome_iff_exists.mp tq;have hcq:=T13 htq;have C0:gZ P w K mg base 1 "is_number" lX:=⟨_,_,_,ER F0 M0,A0,F0.kp,oJ F0⟩;have C1:gZ P w K mg base 1 "is_rising" jr:=⟨_,_,_,ES F1 M0,A1,F1.kp,sy F1⟩;have C2:gZ P w K mg base 2 "is_line" pB:=⟨_,_,_,Js F2 M0 C0.mono C1.mono,A2,F2.kp,iA F2⟩;have C3:gZ P w K mg base 1 "has_all" jD:=⟨_,_,_,Jt F3 M0,A3,F3.kp,iA F3⟩;have C4:gZ P w K mg base 1 "has_some" jm:=⟨_,_,_,Hc F4 M0,A4,F4.kp,iA F4⟩;have C5:gZ P w K mg base 1 "at_a_time" eZ:=⟨_,_,_,ET F5 M0,A5,F5.kp,iA F5⟩;have C6:gZ P w K mg base 1 "other_hand" gT:=⟨_,_,_,B0 F6 M0,A6,F6.kp,sy F6⟩;have CR:∀n:Nat,(gZ P w K mg base (1+n) "choices" (ft n)):=by
  intro n;induction n with
  |zero=>exact⟨_,_,_,D8,A7,F7.kp,iA F7⟩
  |succ n ih=>
   exact⟨_,_,_,(Ju (n:=1+n) F7 M0 ih.mono).mono (by omega),A7,F7.kp,iA F7⟩
 have C7:=(CR 5);clear CR;have C8:gZ P w K mg base 1 "free_points" jP:=⟨_,_,_,Be F8 M0,A8,F8.kp,oJ F8⟩;have C9:gZ P w K mg base 1 "behind" so:=⟨_,_,_,Md F9 M0,A9,F9.kp,uX F9⟩;have C10:gZ P w K mg base 1 "free_part" kc:=⟨_,_,_,EU F10 M0,A10,F10.kp,iA F10⟩;have C11:gZ P w K mg base 2 "has_another" jQ:=⟨_,_,_,Bf F11 M0 C3.mono,A11,F11.kp,iA F11⟩;have C12:gZ P w K mg base 2 "spoils" sr:=⟨_,_,_,Me F12 M0 C4.mono,A12,F12.kp,iA F12⟩;have C13:gZ P w K mg base 1 "points_by_use" gL:=⟨_,_,_,xJ F13 M0 htq hcq,A13,F13.kp,sy F13⟩;have YZ:gZ P w K mg base 3 "open_lines" eT:=⟨_,_,_,B1 F14 M0 C10.mono C11.mono C4.mono,A14,F14.kp,oJ F14⟩;have C15:nW P w K mg base 7 (dQ Cs) "worth_trying" iu:=⟨_,_,_,yx F15 M0 Z C5.mono C7.mono C13.mono C12.mono,m15,oJ F15,n15⟩;have CR:∀n:Nat,(nW P w K mg base (8+n) (dQ Cs) "searched" (nz n))/\(nW P w K mg base (8+n) (dQ Cs) "winner_of" (iC n)):=by
  intro n;induction n with
  |zero=>exact⟨⟨_,_,_,FJ,m16,oJ F16,n16⟩,⟨_,_,_,FJ,m17,oJ F17,n17⟩⟩
  |succ n ih=>
   exact⟨⟨_,_,_,(He (n:=1+n) F16 M0 Z C5.mono C9.mono YZ.mono C6.mono ih.2.mono C15.mono).mono (by omega),m16,oJ F16,n16⟩,⟨_,_,_,(EV (n:=1+n) F17 M0 Z ih.1.mono).mono (by omega),m17,oJ F17,n17⟩⟩
 have C16:=(CR 24).1;have C17:=(CR 24).2;clear CR;have C18:nW P w K mg base 33 (dQ Cs) "winner_at" oh:=⟨_,_,_,EW F18 M0 Z YZ.mono C17.mono,m18,uX F18,Ms⟩;have C19:gZ P w K mg base 34 "winner_from" iX:=⟨_,_,_,Bh F19 M0 Z P6.mono C18.mono,A19,F19.kp,uX F19⟩;have C20:gZ P w K mg base 35 "winner" pA:=⟨_,_,_,Mg F20 M0 C19.mono,A20,F20.kp,sy F20⟩;have C21:gZ P w K mg base 3 "is_pair" mV:=⟨_,_,_,Jw F21 M0 C2.mono,A21,F21.kp,iA F21⟩;have C22:gZ P w K mg base 1 "are_apart" l4:=⟨_,_,_,EX F22 M0,A22,F22.kp,sy F22⟩;have C23:gZ P w K mg base 2 "has_pair" nB:=⟨_,_,_,Hg F23 M0 C3.mono,A23,F23.kp,iA F23⟩;have C24:gZ P w K mg base 3 "have_pairs" gW:=⟨_,_,_,B4 F24 M0 C23.mono,A24,F24.kp,iA F24⟩;have C25:gZ P w K mg base 4 "needed_pairs" js:=⟨_,_,_,yz F25 M0 C24.mono,A25,F25.kp,iA F25⟩;have CR:∀n:Nat,(FG P w K mg base (7+n) "pairs_for" 1 Ql (iD n)):=by
  intro n;induction n with
  |zero=>exact⟨_,_,_,NN,A26,Yl.kp,iA Yl⟩
  |succ n ih=>
   exact⟨_,_,_,(EY (n:=1+n) Yl M0 C7.mono C3.mono YZ.mono ih.mono).mono (by omega),A26,Yl.kp,iA Yl⟩
 have C26:=(CR 8);clear CR;have C27:gZ P w K mg base 16 "pairing" kf:=⟨_,_,_,Jy F27 M0 C25.mono YZ.mono C26.mono,A27,F27.kp,sy F27⟩;have C28:gZ P w K mg base 4 "is_pairing" gu:=⟨_,_,_,B5 F28 M0 C22.mono C24.mono C21.mono C1.mono,A28,F28.kp,iA F28⟩;have C29:gZ P w K mg base 1 "partner" lC:=⟨_,_,_,Jz F29 M0,A29,F29.kp,iA F29⟩;have C30:gZ P w K mg base 2 "reply" qE:=⟨_,_,_,P5 F30 M0 C8.mono C29.mono,A30,F30.kp,Vk F30⟩;have C31:gZ P w K mg base 1 "_law_mix" eC:=⟨_,_,_,Hi F31 M0,A31,F31.kp,oJ F31⟩;have C32:gZ P w K mg base 2 "_law_field" fL:=⟨_,_,_,B7 F32 M0 C31.mono,A32,F32.kp,uX F32⟩;have C33:gZ P w K mg base 1 "_law_over" j9:=⟨_,_,_,EZ F33 M0,A33,F33.kp,oJ F33⟩;have C34:gZ P w K mg base 1 "_law_claims" g9:=⟨_,_,_,Bj F34 M0,A34,F34.kp,uX F34⟩;have C35:gZ P w K mg base 1 "_law_holds" jH:=⟨_,_,_,B8 F35 M0,A35,F35.kp,iA F35⟩;have C36:gZ P w K mg base 2 "_law_is_pairing" eB:=⟨_,_,_,u7 F36 M0 C35.mono,A36,F36.kp,iA F36⟩;have CR:∀n:Nat,(gZ P w K mg base (1+n) "_law_all" (nD n)):=by
  intro n;induction n with
  |zero=>exact⟨_,_,_,D8,A37,Ym.kp,sy Ym⟩
  |succ n ih=>
   exact⟨_,_,_,(Hj (n:=1+n) Ym M0 ih.mono).mono (by omega),A37,Ym.kp,sy Ym⟩
 have C37:=(CR 8);clear CR;have CR:∀n:Nat,(gZ P w K mg base (3+n) "_law_safe" (gc n)):=by
  intro n;induction n with
  |zero=>exact⟨_,_,_,D8,A38,Yn.kp,uX Yn⟩
  |succ n ih=>
   exact⟨_,_,_,(E2 (n:=1+n) Yn M0 C34.mono C33.mono ih.mono C30.mono).mono (by omega),A38,Yn.kp,uX Yn⟩
 have C38:=(CR 7);clear CR;exact(Vu F39 M0 C37.mono C32.mono C36.mono C31.mono C38.mono C28.mono C27.mono C29.mono C30.mono C20.mono).mono (by decide)
end K6
def K6.view:PySem.Program:={PySem.Challenge.pw_fieldclaim_k06_whole_pairs with main:={PySem.Challenge.pw_fieldclaim_k06_whole_pairs.main with body:=[K6.top 0,K6.top 2,K6.top 3,K6.top 4,K6.top 6,K6.top 7,K6.top 8,K6.top 9,K6.top 10,K6.top 11,K6.top 12,K6.top 13,K6.top 14,K6.top 16,K6.top 17,K6.top 18,K6.top 19,K6.top 20,K6.top 21,K6.top 22,K6.top 23,K6.top 25,K6.top 26,K6.top 27,K6.top 28,K6.top 29,K6.top 30,K6.top 31,K6.top 32,K6.top 33,K6.top 34,K6.top 36,K6.top 37,K6.top 38,K6.top 39,K6.top 40,K6.top 41,K6.top 42,K6.top 43,K6.top 44,K6.top 45,K6.top 46,K6.top 47,K6.top 48]}}
open PySem.W
local macro_rules|`(tactic|o_head $H)=>do let hl:=Lean.mkIdent `hl;let hw:=Lean.mkIdent `hw;let hc:=Lean.mkIdent `hc;`(tactic|(refine holds_open (q:=K6.view) (loose:=[]) (Xt:=λs=>xlAt K6.view [] s&&recOk (RowW.records (OpenRow.toRowW (OpenLaw.row PySem.Challenge.rw_fieldclaim_k06_whole_pairs))) s) (XP:=XL K6.view []) (Yf:=Hook.obs $H) (Ya:=Hook.val $H) (YP:=Hook.says $H) (N:=3100) ?$hl (Hook.of $H) (Hook.keeps $H) (λs e=>xl_of s (Bool.and_eq_true_iff.mp e).1) XL.keeps (by rfl) (by rfl) (by rfl) (λs e=>recFacts_of (Bool.and_eq_true_iff.mp e).2) (by rfl) (by first|assumption|decide +kernel) (by decide +kernel) ⟨rfl,rfl,rfl,rfl,rfl,by decide +kernel⟩ ?$hw ?$hc;(case $hl:ident=>intro w;kernel_rfl)))
set_option maxRecDepth 100000 in
set_option maxHeartbeats 0 in
theorem PySem.Challenge.cw_fieldclaim_k06_whole_pairs_holds : PySem.Challenge.rw_fieldclaim_k06_whole_pairs.Holds := by
 w_on;o_law;k_head;(case hw=>w_witness2)
 k_fill
 refine DL.Xg (l:=PySem.Challenge.rw_fieldclaim_k06_whole_pairs) (x:="_law_script") (g:=K6.KC) rfl rfl (λw h Y=>by first|exact PySem.W.kIn_of Y|exact PySem.W.km_in_of Y) K6.R5 ?R ?F
 case R=>intro t ht;simp only[L2.yk,br]at ht;subst ht;kernel_rfl
 case F=>
  intro w mg fa h KX G WK;refine⟨?z,?t,?r⟩
  case z=>kernel_rfl
  case t=>kernel_rfl
  case r=>
   refine' K6.all_mk KX G WK ?_ ?_ ?_ ?_ ?_ ?_ ?_ ?_ ?_ ?_ ?_ ?_ ?_ ?_ ?_ ?_ ?_ ?_ ?_ ?_ ?_ ?_ ?_ ?_ ?_ ?_ ?_ ?_ ?_ ?_ ?_ ?_ ?_ ?_ ?_ ?_ ?_ ?_ ?_ ?_ ?_ ?_ ?_ ?_ ?_ ?_ ?_ ?_ ?_ ?_ ?_ ?_ ?_ ?_ ?_ ?_ ?_ ?_ ?_ ?_ ?_ ?_ ?_ ?_ ?_
   all_goals first|(refine' DL.Vi ?a ?l ?c ?k;(case a=>k_is);(case l=>k_is);(case c=>k_is);case k=>k_is)|(refine' DL.Vj ?a ?i ?l ?c ?k ?n;(case a=>k_is);(case i=>k_is);(case l=>k_is);(case c=>k_is);(case k=>k_is);case n=>decide +kernel)|k_is|kernel_rfl|skip
