import PyProof.Rows.All
import KE.KDictList
import KE.KIsAll
import KE.KLam
import KE.KMinBuiltin
import KE.KNestM
import KE.KRevSl
import KE.KSortTup
import PyProof.ZipIter
import PyProof.FactsAll.range_1
import PySem.Challenge.RW_fieldclaim_k05_whole_trees
abbrev PySem.Shared.dN (s:PySem.Shared):Nat:=s.heap.objs.size
abbrev jH (P:PySem.Program) (w:PySem.World) (A:PySem.Around) {α:Type}(t:PySem.Sem α) (Q:α->PySem.Shared->Prop) (E:PySem.Value->PySem.Shared->Prop) (s:PySem.Shared):Prop:=PySem.wpAny (PySem.model P w) A t Q E s
abbrev AD (x:PySem.Str):Prop:=(x==("__debug__":PySem.Str))=false
abbrev A4 (p:PySem.Pos) (es:List PySem.Expr) (e:PySem.Env):Prop:=(PySem.backTo p (PySem.starEach es e)).any (·.1)=false
set_option Elab.async false
set_option linter.all false
set_option maxRecDepth 100000
set_option maxHeartbeats 4000000
def aa:=@PySem.wpAny_bind
def ae.{jJ,Od}:=@List.length_map.{jJ,Od}
def af.{jJ}:=@List.mem_cons_self.{jJ}
def ag:=@PySem.Heap.get?_push_of_some
def ah.{jJ}:=@List.getElem?_eq_getElem.{jJ}
def aj.{jJ}:=@List.mem_cons_of_mem.{jJ}
def ak:=@PySem.wpAny_pure
def ao.{jJ}:=@List.getD_eq_getElem?_getD.{jJ}
def aq.{jJ,Od}:=@Option.bind_some.{jJ,Od}
def au.{u}:=@List.size_toArray.{u}
def av:=@Nat.le_refl
def aw.{jJ,Od}:=@List.getElem?_map.{jJ,Od}
def ay:=@Nat.lt_of_lt_of_le
def az.{u}:=@List.length_cons.{u}
def aB:=@PySem.Heap.get?_push_size
def aD:=@PySem.Heap.lt_size
def aE:=@Nat.le_trans
def aF:=@Nat.ne_of_lt
def aG.{u,v}:=@List.map_cons.{u,v}
def aH.{jJ}:=@List.getElem?_set_ne.{jJ}
def aI:=@decide_eq_false
def aJ:=@Bool.false_eq_true
def aK.{jJ}:=@List.getElem?_append_left.{jJ}
def aL.{jJ}:=@List.getElem?_cons_succ.{jJ}
def aM.{u}:=@List.mem_append_right.{u}
def aN.{jJ}:=@List.getElem?_cons_zero.{jJ}
def aO.{jJ}:=@Array.length_toList.{jJ}
def aP:=@PySem.W.mg_of
def aQ.{jJ}:=@List.getElem?_append_right.{jJ}
def aR.{u}:=@List.length_append.{u}
def aS:=@decide_eq_true
def aT.{u}:=@Option.some.inj.{u}
def aU.{jJ}:=@Array.getD_eq_getD_getElem?.{jJ}
def aV.{jJ}:=@Array.getElem?_eq_getElem.{jJ}
def aW.{jJ,Od,u_3}:=@List.map_map.{jJ,Od,u_3}
def aX.{jJ}:=@List.length_filter_le.{jJ}
def aY.{jJ}:=@List.set_cons_zero.{jJ}
def aZ.{jJ}:=@List.set_cons_succ.{jJ}
def bc:=@Bool.false_ne_true
def bf.{jJ}:=@List.getElem?_set_self.{jJ}
def bg.{jJ}:=@List.getElem?_replicate.{jJ}
def bh:=@Nat.le_of_lt
def bj.{jJ}:=@List.mem_of_getElem?.{jJ}
def bo:=@PySem.wpAny_holding
def bp.{jJ}:=@List.getElem?_of_mem.{jJ}
def bq.{u,jJ}:=@List.lookup_cons.{u,jJ}
def bu.{jJ}:=@List.filter_cons.{jJ}
def bw.{jJ}:=@List.mem_singleton.{jJ}
def bx:=@PySem.sizeLine_eq
def bz:=@Nat.ne_of_gt
def bA:=@PySem.Heap.get?_update_other
def bB:=@PySem.PassesOwn.never
def bC.{jJ,Od}:=@Option.map_some.{jJ,Od}
def bD.{u}:=@List.append_nil.{u}
def bE.{u}:=@List.mem_append_left.{u}
def bF.{jJ}:=@if_false.{jJ}
def bG:=@PySem.W.mg_none_of
def bH.{jJ}:=@List.any_cons.{jJ}
def bI:=@Nat.lt_trans
def bJ.{jJ}:=@List.not_mem_nil.{jJ}
def bK.{jJ}:=@List.length_take.{jJ}
def bL:=@of_decide_eq_true
def bM:=@Nat.zero_le
def bN:=@PySem.wpAny_call_entry
def bO.{jJ}:=@beq_self_eq_true.{jJ}
def bP.{jJ}:=@List.any_eq_true.{jJ}
def bQ:=@PySem.wpAny_mono
def bR:=@PySem.wpAny_truthy_bool
def bS:=@PySem.wpAny_newObj_type
def bT.{jJ,Od}:=@List.map_congr_left.{jJ,Od}
def bU:=@Bool.not_true
def bV:=@Classical.byContradiction
def bW:=@PySem.W.kia_one
def bX.{jJ}:=@List.Nodup.length_le_of_subset.{jJ}
def bY:=@PySem.Around.under_plainId
abbrev cp:=List (List Int)
abbrev cq:=List Int
abbrev cj:=PySem.Value->PySem.Shared->Prop
abbrev cm:=PySem.Str->Option PySem.Value
abbrev cn:=List (PySem.Addr×PySem.Obj)
abbrev cu:=Option PySem.Addr
abbrev cv:=Array (Option PySem.Value)
abbrev cx:=List PySem.Value
abbrev cy:=PySem.Value
abbrev cz:=PySem.Shared
abbrev cA:=PySem.FuncData
abbrev cB:=PySem.Program
abbrev cC:=PySem.World
abbrev cD:=PySem.Around
abbrev cE:=PySem.SetTable
abbrev cF:=PySem.Addr
abbrev cG:=PySem.Expr
abbrev cH:=PySem.Stmt
noncomputable section
open List hiding Mem all and any any_congr cons contains count get iter length lex_asymm map nil or range replace set sum tail take zip
open PySem PySem.Spec PyProof.Rows
namespace L2
noncomputable def vD:List (Str×Pos×Str):=[(Str.ofString "points_by_use",⟨103,34,103,69⟩,Str.ofString "points_by_use.<locals>.<lambda>"),(Str.ofString "chosen_claim",⟨124,4,126,80⟩,Str.ofString "chosen_claim.<locals>.left_behind")]
end L2
namespace L2
noncomputable abbrev Key:=Sum Int Str
noncomputable def D8:Key->cy->Bool
 |.inl k,v=>Value.isInt k v
 |.inr x,v=>Value.isStrOf x v
noncomputable def aaT (w:cC):Key->Int
 |.inl k=>hashInt k
 |.inr x=>hashStr w x
theorem hV:∀{k:Key}{v:cy},D8 k v=true->(∃i t,k=Sum.inl i/\v=Value.int i t)\/(∃x t,k=Sum.inr x/\v=Value.str x t)
 |.inl i,v,h=>by
  obtain⟨t,e⟩:=Value.isInt_shape (k:=i) (v:=v) h;exact .inl ⟨i,t,rfl,e⟩
 |.inr x,v,h=>by
  obtain⟨t,e⟩:=Value.isStrOf_shape (x:=x) (v:=v) h;exact .inr ⟨x,t,rfl,e⟩
def MF (i:Int) (t:Tok):D8 (.inl i) (.int i t)=true:=by simp[D8,Value.isInt]
def MG (x:Str) (t:Tok):D8 (.inr x) (.str x t)=true:=by simp[D8,Value.isStrOf]
def Vb (a b:Int):decide ((Sum.inl a:Key)=Sum.inl b)=(a==b):=by
 by_cases e:a=b
 .subst e;simp
 .have h:¬ (Sum.inl a:Key)=Sum.inl b:=λq=>e (Sum.inl.inj q)
  rw[aI h];exact(beq_eq_false_iff_ne.mpr e).symm
def Vc (a b:Str):decide ((Sum.inr a:Key)=Sum.inr b)=decide (a=b):=by
 by_cases e:a=b
 .subst e;simp
 .have h:¬ (Sum.inr a:Key)=Sum.inr b:=λq=>e (Sum.inr.inj q)
  rw[aI h,aI e]
def Vd (a:Int) (b:Str):decide ((Sum.inl a:Key)=Sum.inr b)=false:=aI (λq=>nomatch q)
def Ve (a:Str) (b:Int):decide ((Sum.inr a:Key)=Sum.inl b)=false:=aI (λq=>nomatch q)
def gE (γ:cB) (w:cC):PySem.KeyKind γ w Key where
 is:=D8
 hash:=aaT w
 inj:=λv a b ha hb=>by
  rcases hV ha with⟨i,t,rfl,rfl⟩|⟨x,t,rfl,rfl⟩
  .rcases hV hb with⟨j,u,rfl,e⟩|⟨y,u,rfl,e⟩
   .injection e with e1 _;rw[e1]
   .exact nomatch e
  .rcases hV hb with⟨j,u,rfl,e⟩|⟨y,u,rfl,e⟩
   .exact nomatch e
   .injection e with e1 _;rw[e1]
 byValue:=λk v h=>by
  rcases hV h with⟨i,t,rfl,rfl⟩|⟨x,t,rfl,rfl⟩<;>rfl
 pyHash:=λhv h=>by
  rcases hV hv with⟨i,t,rfl,rfl⟩|⟨x,t,rfl,rfl⟩
  .exact wpAny_pyHash_int h
  .exact wpAny_pyHash_str h
 eqBool:=λhu hv h=>by
  rcases hV hu with⟨i,t,rfl,rfl⟩|⟨x,t,rfl,rfl⟩
  .rcases hV hv with⟨j,u,rfl,rfl⟩|⟨y,u,rfl,rfl⟩
   .rw[Vb]at h;exact wpAny_eqBool_int h
   .rw[Vd]at h;exact SeqAt.EqAt.int_str i t y u _ _ _ _ h
  .rcases hV hv with⟨j,u,rfl,rfl⟩|⟨y,u,rfl,rfl⟩
   .rw[Ve]at h;exact SeqAt.EqAt.str_int x t j u _ _ _ _ h
   .rw[Vc]at h;exact wpAny_eqBool_str h
 «strs»:=λk x t v h=>by
  rcases hV h with⟨i,u,rfl,e⟩|⟨y,u,rfl,e⟩
  .exact nomatch e
  .injection e with e1 _
   subst e1;cases v<;>rfl
def GO (γ:cB) (w:cC) (i:Int) (t:Tok):(gE γ w).is (.inl i) (.int i t)=true:=MF i t
def GQ (γ:cB) (w:cC) (x:Str) (t:Tok):(gE γ w).is (.inr x) (.str x t)=true:=MG x t
inductive V where
 |eZ|bl (b:Bool)|int (i:Int)|str (x:Str)|Xe (b:Array UInt8)|Vf (b:UInt64)|ref (a:cF)|ty (n:String)
 deriving DecidableEq
def ι:V->cy->Prop
 |.eZ,u=>u=Value.none
 |.bl b,u=>u=Value.bool b
 |.int i,u=>∃t,u=Value.int i t
 |.str x,u=>∃t,u=Value.str x t
 |.Xe b,u=>∃t,u=Value.bytes b t
 |.Vf b,u=>∃t,u=Value.float b t
 |.ref a,u=>u=Value.ref a
 |.ty n,u=>u=Value.type n
abbrev θ:List V->cx->Prop:=Paired ι
theorem θ.length (r:θ xs us):xs.length=us.length:=Paired.length r
theorem θ.get:∀{xs:List V}{us:cx}{i:Nat}{x:V},θ xs us->xs[i]? =some x->∃u,us[i]? =some u/\ι x u
 |_,_,_,_,.nil,e=>by simp at e
 |_,_,0,_,.cons r _,e=>by simp at e;subst e;exact⟨_,rfl,r⟩
 |_,_,i+1,x,.cons _ t,e=>by
  obtain⟨u,h1,h2⟩:=θ.get (i:=i) (x:=x) t (by simpa using e)
  exact⟨u,by simpa using h1,h2⟩
theorem θ.append:∀{xs ys:List V}{us ws:cx},θ xs us->θ ys ws->θ (xs++ys) (us++ws)
 |_,_,_,_,.nil,s=>s
 |_,_,_,_,.cons r t,s=>.cons r (θ.append t s)
theorem θ.take:∀{xs:List V}{us:cx}(n:Nat),θ xs us->θ (xs.take n) (us.take n)
 |_,_,0,_=>.nil
 |_,_,_+1,.nil=>.nil
 |_,_,n+1,.cons r t=>.cons r (θ.take n t)
theorem θ.drop:∀{xs:List V}{us:cx}(n:Nat),θ xs us->θ (xs.drop n) (us.drop n)
 |_,_,0,r=>r
 |_,_,_+1,.nil=>.nil
 |_,_,n+1,.cons _ t=>θ.drop n t
def uc:Option V->Option cy->Prop
 |some v,some u=>ι v u
 |none,none=>True
 |_,_=>False
def KV {κ:Type}:List (κ×V)->List (κ×cy)->Prop:=Paired λ(p:κ×V) (q:κ×cy)=>p.1=q.1/\ι p.2 q.2
noncomputable def kV:Key->V
 |.inl i=>.int i
 |.inr x=>.str x
inductive HO where
 |l (xs:List V)
 |t (xs:List V)
 |dK (ζ:List (Key×V))|dT (ζ:List (List Key×V))
 |set (S:Int->Bool) (n:Nat)
 |ins (C dx:cF) (fs:List (Str×V))
 |o (x:cF)
 |xd (fs:List (Str×V))
 |met (f x:cF)
 |Uk (lo hi:Int)
 |zW (o:Obj) (u:HO)
 |Jk (ps:Array cy)
 |ext (φ:Heap->Prop)
noncomputable abbrev Hp:=cF->Option HO
noncomputable def ν (H:Hp) (a:cF) (o:HO):Hp:=λb=>if b=a then some o else H b
def dk:ν H a o a=some o:=by unfold ν;rw[if_pos rfl]
def de (h:b≠a):ν H a o b=H b:=by unfold ν;rw[if_neg h]
def XI {H:Hp}(h:H a=some o) (h':H b=some u) (d:o≠u):a≠b:=by
 intro e;subst e;rw[h]at h';exact d (aT h')
def dw {H:Hp}{o:HO}(h:H a=some o) (h':H b=none):a≠b:=by
 intro e;subst e;rw[h]at h';cases h'
noncomputable def Dj (pos:Pos) (qual:Str):Array cy:=#[.int pos.line 0,.int pos.col 0,.str qual 0]
def D9 (H:Hp) (h:Heap) (a:cF) (ps:Array cy):Prop:=
 ∃qs:Array cy,h.get? a=some {cls:=.none,data:=.fields qs}/\TriplesOk qs.toList/\∃pos qual more,ps=Dj pos qual++more/\
  (codeAmong pos qs.toList=none\/∃c oc vs t,codeAmong pos qs.toList=some (.ref c)/\H c=some (.zW oc (.o 0))/\oc.data=.fields vs/\vs[1]? =some (.str qual t))
def MH (K:W.Frag) (mg:cm) (Zc:Heap) (H:Hp):Prop:=∀x c Pt pos qual,(x,pos,qual)∈vD->W.tabIn K x=some (c,Pt)->(∃more,H Pt=some (.Jk (Dj pos qual++more)))/\W.CodeHd Zc c Pt/\Zc.BuiltinsAt mg Pt
section
variable (P:cB) (w:cC)
def iz (H:Hp) (h:Heap) (a:cF):HO->Prop
 |.l xs=>xs.length<=sizeLine/\∃(dE:cx) (n:Nat),θ xs dE/\h.get? a=some {cls:=.type "list",data:=.seq dE.toArray n}
 |.t xs=>xs.length<=sizeLine/\∃dE:cx,θ xs dE/\IsTup h a dE.toArray
 |.dK ζ=>ζ.length<=sizeLine/\(a==sysModules)=false/\∃vs,KV ζ vs/\h.DictOf (gE P w) a vs
 |.dT ζ=>ζ.length<=sizeLine/\(a==sysModules)=false/\∃xs:List (List Key×cF×cy),
   Paired (λ(p:List Key×V) (q:List Key×cF×cy)=>p.1=q.1/\H q.2.1=some (.t (p.1.map kV))/\ι p.2 q.2.2) ζ xs/\
   ∃o es ep,h.get? a=some o/\o.ExactDict/\o.data=.dict es ep/\es.toList=xs.map (entryOfKey (tupleKind (gE P w)))/\(xs.map (·.1)).Nodup
 |.set S n=>h.SetOf (intKind P w) a S n
 |.ins C dx fs=>H dx=some (.o a)/\fs.length<=1000/\dx≠a/\h.get? a=some (W.instObj C dx)/\
   ∃mA,h.Ns1 dx mA/\(∀f,uc (fs.lookup f) (mA f))/\PySem.Within mA (fs.map (·.1))
 |.o _=>∃o,h.get? a=some o
 |.xd fs=>∃mA,h.Ns1 a mA/\∀f,uc (fs.lookup f) (mA f)
 |.Uk lo hi=>∃t u v,h.get? a=some {cls:=.type "range",data:=.fields #[.int lo t,.int hi u,.int 1 v]}
 |.zW o u=>h.get? a=some o/\iz H h a u
 |.Jk ps=>D9 H h a ps
 |.met f x=>h.get? a=some (W.methodObj (.ref f) (.ref x))
 |.ext φ=>φ h/\(∃o,h.get? a=some o)/\∀h1 h2:Heap,φ h1->(∀o,h1.get? a=some o->h2.get? a=some o)->φ h2
def vE (H:Hp) (h:Heap):Prop:=∀a o,H a=some o->iz P w H h a o
end
section
variable {a:cF}{o:HO}
theorem iz.lt (x:iz P w H h a o):a<h.objs.size:=by
 cases o with
 |l xs=>obtain⟨_,_,_,_,e⟩:=x;exact aD e
 |t xs=>obtain⟨_,_,_,p⟩:=x;exact p.lt
 |dK ζ=>obtain⟨_,_,_,_,o,_,_,e,_⟩:=x;exact aD e
 |dT ζ=>obtain⟨_,_,_,_,o,_,_,e,_⟩:=x;exact aD e
 |set S n=>obtain⟨o,_,_,_,e,_⟩:=x;exact aD e
 |ins C dx fs=>obtain⟨_,_,_,e,_⟩:=x;exact aD e
 |o y=>obtain⟨_,e⟩:=x;exact aD e
 |xd fs=>obtain⟨_,⟨_,_,_,e,_⟩,_⟩:=x;exact aD e
 |Uk lo hi=>obtain⟨_,_,_,e⟩:=x;exact aD e
 |zW ob u=>obtain⟨e,_⟩:=x;exact aD e
 |Jk ps=>obtain⟨_,e,_⟩:=(show D9 H h a ps from x);exact aD e
 |met f y=>exact aD (show h.get? a=some _ from x)
 |ext φ=>obtain⟨_,⟨_,e⟩,_⟩:=x;exact aD e
theorem Paired.Vg {F G:α->β->Prop}:∀{l₁:List α}{l₂:List β},Paired F l₁ l₂->(∀a b,F a b->G a b)->Paired G l₁ l₂
 |_,_,.nil,_=>.nil
 |_,_,.cons r t,f=>.cons (f _ _ r) (Paired.Vg t f)
def iz.E5 (x:iz P w H h a o) (k:∀b u,(b=a\/H b=some (.o a))->h.get? b=some u->h'.get? b=some u)
  (ho:∀b,H b=some (.o a)->H' b=some (.o a)) (ht:∀b xs,H b=some (.t xs)->H' b=some (.t xs)) (hz:∀b ob u,H b=some (.zW ob u)->H' b=some (.zW ob u):=by intro b ob u q;first|exact q|exact(de (dw q (by assumption))).trans q):iz P w H' h' a o:=by
 induction o with
 |l xs=>obtain⟨z,dE,n,r,e⟩:=x;exact⟨z,dE,n,r,k _ _ (.inl rfl) e⟩
 |t xs=>obtain⟨z,dE,r,ob,e,c⟩:=x;exact⟨z,dE,r,ob,k _ _ (.inl rfl) e,c⟩
 |dK ζ=>obtain⟨z,y,vs,r,ob,es,ep,e,c⟩:=x;exact⟨z,y,vs,r,ob,es,ep,k _ _ (.inl rfl) e,c⟩
 |dT ζ=>
  obtain⟨z,y,xs,r,ob,es,ep,e,c⟩:=x;exact⟨z,y,xs,Paired.Vg r λp q z=>⟨z.1,ht _ _ z.2.1,z.2.2⟩,ob,es,ep,k _ _ (.inl rfl) e,c⟩
 |set S n=>obtain⟨ob,es,ep,t,e,c⟩:=x;exact⟨ob,es,ep,t,k _ _ (.inl rfl) e,c⟩
 |ins C dx fs=>
  obtain⟨d,z,ne,e,mA,⟨od,es,ep,e2,c⟩,r⟩:=x;exact⟨ho _ d,z,ne,k _ _ (.inl rfl) e,mA,⟨od,es,ep,k _ _ (.inr d) e2,c⟩,r⟩
 |o y=>obtain⟨ob,e⟩:=x;exact⟨ob,k _ _ (.inl rfl) e⟩
 |xd fs=>obtain⟨mA,⟨od,es,ep,e,c⟩,r⟩:=x;exact⟨mA,⟨od,es,ep,k _ _ (.inl rfl) e,c⟩,r⟩
 |Uk lo hi=>obtain⟨t,u,v,e⟩:=x;exact⟨t,u,v,k _ _ (.inl rfl) e⟩
 |zW ob u ih=>obtain⟨e,q⟩:=x;exact⟨k _ _ (.inl rfl) e,ih q⟩
 |Jk ps=>
  obtain⟨qs,e,tr,pos,qual,more,eq,r⟩:=(show D9 H h a ps from x)
  exact⟨qs,k _ _ (.inl rfl) e,tr,pos,qual,more,eq,r.imp id λ⟨c,oc,vs,tt,q1,q2,q3⟩=>⟨c,oc,vs,tt,q1,hz _ _ _ q2,q3⟩⟩
 |met f y=>
  have e:h.get? a=some (W.methodObj (.ref f) (.ref y)):=x;show h'.get? a=some (W.methodObj (.ref f) (.ref y));exact k a _ (.inl rfl) e
 |ext φ=>obtain⟨p,⟨o,e⟩,st⟩:=x;exact⟨st _ _ p λo q=>k _ _ (.inl rfl) q,⟨o,k _ _ (.inl rfl) e⟩,st⟩
theorem vE.lt (x:vE P w H h) (e:H a=some o):a<h.objs.size:=(x a o e).lt
def vE.fresh (x:vE P w H h) (e:h.objs.size<=a):H a=none:=by
 cases q:H a with
 |none=>rfl
 |some u=>exact absurd (ay (x.lt q) e) (Nat.lt_irrefl _)
def vE.kept (x:vE P w H h) (k:∀b u,h.get? b=some u->h'.get? b=some u):vE P w H h':=λa o e=>
 (x a o e).E5 (λb u _ q=>k b u q) (λ_ q=>q) λ_ _ q=>q
def vE.laid (x:vE P w H h) (k:∀b u,h.get? b=some u->h'.get? b=some u) (hp:h.objs.size<=a) (new:iz P w (ν H a o) h' a o):vE P w (ν H a o) h':=λb u e=>by
 have hn:=x.fresh hp;by_cases hb:b=a
 .subst hb;rw[dk]at e;cases e;exact new
 .rw[de hb]at e;exact(x b u e).E5 (λc v _ q=>k c v q) (λc q=>by rw[de (dw q hn)];exact q) λc xs q=>by rw[de (dw q hn)];exact q
end
def Rd (H:Hp) (a:cF) (u:HO):Prop:=H a=some u\/∃o,H a=some (.zW o u)
def Rd.ok {w:cC}{H:Hp}{h:Heap}{a:cF}{u:HO}(r:Rd H a u) (x:vE P w H h):iz P w H h a u:=by
 rcases r with r|⟨o,r⟩
 .exact x a u r
 .obtain⟨_,q⟩:=x a _ r;exact q
def XJ:Option HO->Prop
 |some (.l _)=>True
 |some (.dK _)=>True
 |some (.dT _)=>True
 |some (.set _ _)=>True
 |some (.ins _ _ _)=>True
 |some (.ext _)=>True
 |_=>False
def vE.write (ok:vE P w H h) (mu:XJ (H x)) (he:e=x\/H e=some (.o x)) (k:∀b u,b≠e->h.get? b=some u->h'.get? b=some u) (Xf:∃u,h'.get? e=some u)
  (new:iz P w (ν H x o') h' x o'):vE P w (ν H x o') h':=λb u q=>by
 have XM:∀c y,H c=some (.o y)->c≠x:=λc y r z=>by subst z;rw[r]at mu;exact mu
 have aaU:∀c xs,H c=some (.t xs)->c≠x:=λc xs r z=>by subst z;rw[r]at mu;exact mu
 by_cases hb:b=x
 .subst hb;rw[dk]at q;cases q;exact new
 .rw[de hb]at q;by_cases Vh:b=e
  .have q':H b=some (.o x):=by
    rcases he with z|z
    .exact absurd (Vh.trans z) hb
    .rw[Vh];exact z
   rw[q]at q';cases q';obtain⟨v,hv⟩:=Xf;exact⟨v,by rw[Vh];exact hv⟩
  .refine(ok b u q).E5 (λc v hc r=>k c v ?_ r) (λc r=>by rw[de (XM c b r)];exact r) (λc xs r=>by rw[de (aaU c xs r)];exact r) λc ob' u' r=>(de (λz=>by subst z;rw[r]at mu;exact mu)).trans r
   rcases hc with rfl|hc
   .exact Vh
   .rintro rfl
    rcases he with z|z
    .exact XM c b hc z
    .rw[hc]at z;cases z;exact hb rfl
structure Un (fs ex:List cF) (H H':Hp) (h h':Heap):Prop where
 keep:∀b o,h.get? b=some o->H b=none->b∉fs->b∉ex->h'.get? b=some o
 slot:∀b o,h.get? b=some o->H b=none->b∈fs->b∉ex->∃sl,h'.get? b=some {o with slots:=sl}
 free:∀b o,h.get? b=some o->H b=none->b∉ex->H' b=none
 there:∀b o,h.get? b=some o->b∉ex->∃o',h'.get? b=some o'
 GR:∀b xs,H b=some (.t xs)->H' b=some (.t xs)
 E6:∀b o u,H b=some (.zW o u)->H' b=some (.zW o u)
 Dk:∀b ps,H b=some (.Jk ps)->∃more,H' b=some (.Jk (ps++more))
section
variable {fs ex:List cF}{H:Hp}{h h':Heap}{a:cF}{o:HO}
def Un.any (u:Un fs ex H H1 h h1) (q:h.get? b=some ob) (n:H b=none) (hx:b∉ex):∃sl,h1.get? b=some {ob with slots:=sl}:=by
 by_cases hb:b∈fs
 .exact u.slot b ob q n hb hx
 .exact⟨ob.slots,u.keep b ob q n hb hx⟩
def Un.kept (k:∀b u,h.get? b=some u->h'.get? b=some u):Un fs ex H H h h':=
 ⟨λb ob q _ _ _=>k b ob q,λb ob q _ _ _=>⟨ob.slots,k b ob q⟩,λ_ _ _ n _=>n,λb ob q _=>⟨ob,k b ob q⟩,λ_ _ q=>q,λ_ _ _ q=>q,λ_ ps q=>⟨#[],by rw[q];simp⟩⟩
def Un.refl:Un fs ex H H h h:=Un.kept λ_ _ q=>q
def Un.laid (k:∀b u,h.get? b=some u->h'.get? b=some u) (hp:h.objs.size<=a) (hn:H a=none):Un fs ex H (ν H a o) h h' where
 keep:=λb u q _ _ _=>k b u q
 slot:=λb u q _ _ _=>⟨u.slots,k b u q⟩
 free:=λb u q n _=>by rw[de (aF (ay (aD q) hp))];exact n
 there:=λb u q _=>⟨u,k b u q⟩
 GR:=λb xs q=>by rw[de (dw q hn)];exact q
 E6:=λb u xs q=>by rw[de (dw q hn)];exact q
 Dk:=λb ps q=>⟨#[],by rw[de (dw q hn),q];simp⟩
def Un.write (mu:XJ (H x)) (he:e=x\/H e=some (.o x)) (k:∀b u,b≠e->h.get? b=some u->h'.get? b=some u) (Xf:∃u,h'.get? e=some u):Un fs ex H (ν H x o) h h':=by
 have hx:∀b,H b=none->b≠x:=λb n z=>by subst z;rw[n]at mu;exact mu
 have hb:∀b,H b=none->b≠e:=λb n z=>by
  subst z;rcases he with r|r
  .exact hx b n r
  .rw[n]at r;cases r
 have hm:∀b u,H b=some u->¬ XJ (some u)->b≠x:=λb u q nm z=>by subst z;rw[q]at mu;exact nm mu
 refine⟨λb u q n _ _=>k b u (hb b n) q,λb u q n _ _=>⟨u.slots,k b u (hb b n) q⟩,λb u q n _=>by rw[de (hx b n)];exact n,λb u q _=>?_,
  λb xs q=>by rw[de (hm b _ q λz=>z)];exact q,λb u xs q=>by rw[de (hm b _ q λz=>z)];exact q,λb ps q=>⟨#[],by rw[de (hm b _ q λz=>z),q];simp⟩⟩
 by_cases Vh:b=e
 .subst Vh;exact Xf
 .exact⟨u,k b u Vh q⟩
end
noncomputable def Z5 (h:Heap) (H:Hp):List cF:=(List.range h.objs.size).filter λa=>(H a).isSome
def Dl (h:Heap) (H:Hp):Heap:=W.hideAll h (Z5 h H)
def MI (h:Heap) (H:Hp):(Dl h H).objs.size=h.objs.size:=W.hideAll_size _ _
def Oe {h:Heap}{H:Hp}{o:Obj}(e:h.get? b=some o) (n:H b=none):(Dl h H).get? b=some o:=
 W.hideAll_get _ e λhm=>by
  have q:(H b).isSome=true:=(mem_filter.mp hm).2;rw[n]at q;simp at q
def RZ (e:(Dl h H).get? b=some o):h.get? b=some o/\H b=none:=by
 have e':h.get? b=some o:=W.of_hideAll (Z5 h H) e;refine⟨e',?_⟩;cases q:H b with
 |none=>rfl
 |some x=>
  have hm:b∈Z5 h H:=mem_filter.mpr ⟨mem_range.mpr (aD e'),by simp[q]⟩
  have z:(Dl h H).get? b=none:=W.hideAll_none (Z5 h H) hm;rw[z]at e;cases e
noncomputable def va (g h:Heap) (L:cF):cn:=(List.range h.objs.size).filterMap λa=>if a=L\/(g.get? a).isSome=true then none else(h.get? a).map λo=>(a,o)
def zX (h1:a≠L) (h2:g.get? a=none) (h3:h.get? a=some o):(a,o)∈va g h L:=
 mem_filterMap.mpr ⟨a,mem_range.mpr (aD h3),by simp[h1,h2,h3]⟩
def Bg (hp:p∈va g h L):p.1≠L/\g.get? p.1=none/\h.get? p.1=some p.2:=by
 obtain⟨b,_,e⟩:=mem_filterMap.mp hp;split at e
 .cases e
 .rename_i hn;cases q:h.get? b with
  |none=>rw[q]at e;simp at e
  |some u=>
   rw[q]at e;simp only[bC,Option.some.injEq]at e;subst e;refine⟨λz=>hn (.inl z),?_,q⟩
   show g.get? b=none;cases r:g.get? b with
   |none=>rfl
   |some v=>exact(hn (.inr (by simp[r]))).elim
def GS {L:cF}:News g L h (va g h L):=λp hp=>let ⟨a,b,c⟩:=Bg hp;⟨c,a,b⟩
structure Mod (K:W.Frag) (mg:cm) (Zc:Heap):Prop where
 Xg:K.In Zc
 glob:Zc.Ns mainGlobals mg
 blt:∃mb,Zc.Ns builtinsNs mb/\∀x:Str,x≠"__name__"->mb x=bootBuiltins x
 nolimit:Zc.NoLimit
structure Cx where
 γ:cB
 w:cC
 K:W.Frag
 mg:cm
 Zc:Heap
 A:cD
 N:List Str
 s₀:cz
 H₀:Hp
 e:Env
 ε:List Env
 stack:List Env
 ex:List cF
 fn:Str->Bool
 calm:Bool
 pn:cn
 xe:cj
abbrev Cx.mO (X:Cx) {α:Type}(t:Sem α) (Q:α->cz->Prop) (E:cj) (s:cz):Prop:=wpAny (model X.γ X.w) X.A t Q E s
noncomputable def Dm (l:List Env):List cF:=l.filterMap (·.frame)
abbrev Cx.fs (X:Cx):List cF:=Dm X.ε
def Vi (sc:Scope) (x:Str):Prop:=sc.names.lookup x=some .local\/sc.names.lookup x=some .cell\/sc.names.lookup x=some .free
def Loc (sc:Scope) (x:Str):Prop:=sc.names.lookup x=some .local\/sc.names.lookup x=some .cell
def Look (env:Env) (h:Heap) (m:cm) (x:Str) (u:cy):Prop:=
 (env.kindOf x=some .local/\m x=some u)\/((env.kindOf x=some .cell\/env.kindOf x=some .free)/\∃c,env.cells.lookup x=some c/\h.IsCell c (some u))
structure Cx.Ok (X:Cx):Prop where
 mod:Mod X.K X.mg X.Zc
 kind:X.e.scope.kind=.function
 glob:X.e.globals=mainGlobals
 blt:X.e.builtins=builtinsNs
 above:X.s₀.dN<=X.e.locals
 inj:∀x y c,X.e.cells.lookup x=some c->X.e.cells.lookup y=some c->x=y
 has:∀x,(X.e.kindOf x=some .cell\/X.e.kindOf x=some .free)->∃c,X.e.cells.lookup x=some c
 Xh:∀x c,X.fn x=true->X.e.cells.lookup x=some c->X.s₀.dN<=c
 hd:X.calm=true->X.A.handled=none
 frames:X.A.frames=some X.stack
 XN:X.stack=X.ε\/(X.stack=X.e::X.ε/\X.e.frame=some X.e.locals)
 exf:∀b∈X.ex,b≠X.e.locals/\∀x c,X.e.cells.lookup x=some c->c≠b
 bs:∀b o,X.Zc.get? b=some o->X.s₀.heap.get? b=some o/\X.H₀ b=none
 NZ:X.Zc.objs.size<=X.s₀.dN
 Of:∀b o,X.Zc.get? b=some o->b∉X.ex
 R1:∀b∈X.ex,b∉X.fs
 ud:X.s₀.heap.FunFrames X.Zc X.ε
 RO:∀b∈X.fs,X.H₀ b=none
 tb:MH X.K X.mg X.Zc X.H₀
structure η (X:Cx) (cL:cn) (O:List (Option V)) (H:Hp) (s:cz):Prop where
 ok:X.Ok
 os:s.os=X.s₀.os
 bare:AllBare s.gens
 Zc:Un X.fs X.ex X.H₀ H X.s₀.heap s.heap
 loc:∃m,s.heap.Ns X.e.locals m/\∀(i:Nat) (x:Str) (v:V),X.N[i]? =some x->O[i]? =some (some v)->Vi X.e.scope x->∃u,ι v u/\Look X.e s.heap m x u
 cell:∀x c,X.e.cells.lookup x=some c->∃v,s.heap.IsCell c v
 free:H X.e.locals=none
 tG:∀x c,X.e.cells.lookup x=some c->H c=none
 pin:∀p∈X.pn++cL,s.heap.get? p.1=some p.2/\H p.1=none/\p.1≠X.e.locals/\p.1∉X.fs/\∀v,p.2.data≠.cell v
 fU:vE X.γ X.w H s.heap
 len:O.length=X.N.length
section
variable {X:Cx}
theorem Cx.Ok.aaV (ok:X.Ok) (e:X.Zc.get? b=some o):b∉X.fs:=λhb=>by
 have:=(ok.ud.mem hb).1;rw[e]at this;cases this
theorem η.bs (I:η X cL O H s):∀b o,X.Zc.get? b=some o->s.heap.get? b=some o/\H b=none:=λb o e=>
 ⟨I.Zc.keep b o (I.ok.bs b o e).1 (I.ok.bs b o e).2 (I.ok.aaV e) (I.ok.Of b o e),I.Zc.free b o (I.ok.bs b o e).1 (I.ok.bs b o e).2 (I.ok.Of b o e)⟩
theorem η.bk (I:η X cL O H s):∀b o,X.Zc.get? b=some o->s.heap.get? b=some o:=λb o e=>(I.bs b o e).1
theorem η.mod (I:η X cL O H s):Mod X.K X.mg X.Zc:=I.ok.mod
theorem η.AE (I:η X cL O H s):X.K.In s.heap:=I.ok.mod.Xg.keeps I.bk
theorem η.nolimit (I:η X cL O H s):s.heap.NoLimit:=I.ok.mod.nolimit.keeps I.bk
theorem η.fr (I:η X cL O H s):∃m,Fr X.Zc X.e.locals s.heap m:=
 let ⟨m,hn,_⟩:=I.loc
 ⟨m,hn,I.bk,aE I.ok.NZ I.ok.above⟩
theorem η.lt (I:η X cL O H s):X.e.locals<s.dN:=let ⟨_,hn,_⟩:=I.loc;hn.lt
theorem η.sz (I:η X cL O H s):X.s₀.dN<=s.dN:=aE I.ok.above (bh I.lt)
theorem η.aaW (I:η X cL O H s) (h:s.dN<=a):a∉X.fs:=λhb=>by
 obtain⟨_,o,ho,_⟩:=I.ok.ud.mem hb;exact absurd (ay (aD ho) (aE I.sz h)) (Nat.lt_irrefl _)
theorem η.Ul (I:η X cL O H s):∀x c,X.e.cells.lookup x=some c->c≠X.e.locals:=λx c e z=>by
 obtain⟨v,o,ho,hd⟩:=I.cell x c e;obtain⟨m,⟨o',es,ep,vF,Um,_⟩,_⟩:=I.loc;rw[z,vF]at ho;cases ho;rw[Um]at hd;cases hd
theorem η.ud (I:η X cL O H s):s.heap.FunFrames X.Zc X.ε:=by
 have all:∀(l:List Env),(∀b∈Dm l,b∈X.fs)->X.s₀.heap.FunFrames X.Zc l->s.heap.FunFrames X.Zc l:=by
  intro l;induction l with
  |nil=>intro _ _;trivial
  |cons env r ih=>
   intro hs hl;obtain⟨hk,⟨L,o,hf,hn,ho,hd⟩,hr⟩:=hl;have hL:L∈X.fs:=hs L (by unfold Dm;rw[filterMap_cons,hf];exact af)
   obtain⟨sl,e⟩:=I.Zc.slot L o ho (I.ok.RO L hL) hL λz=>I.ok.R1 L z hL
   exact⟨hk,⟨L,_,hf,hn,e,hd⟩,ih (λb hb=>hs b (by unfold Dm;rw[filterMap_cons,hf];exact aj _ hb)) hr⟩
 exact all X.ε (λ_ hb=>hb) I.ok.ud
theorem η.stack (I:η X cL O H s):s.heap.FunFrames X.Zc X.stack:=by
 rcases I.ok.XN with e|⟨e,hf⟩
 .rw[e];exact I.ud
 .rw[e];obtain⟨m,hn,_⟩:=I.loc;refine .cons (by rw[I.ok.kind];decide) hf hn ?_ I.ud
  exact Heap.get?_none_of_le (aE I.ok.NZ I.ok.above)
theorem η.yO (I:η X cL O H s):∀b∈Dm X.stack,b∈X.e.locals::X.fs:=λb hb=>by
 rcases I.ok.XN with e|⟨e,hf⟩
 .rw[e]at hb;exact aj _ hb
 .rw[e]at hb;unfold Dm at hb;rw[filterMap_cons,hf]at hb;exact hb
theorem η.La (I:η X cL O H s):∀b∈Dm X.stack,H b=none:=λb hb=>by
 rcases mem_cons.mp (I.yO b hb)with e|hb
 .rw[e];exact I.free
 .obtain⟨_,o,ho,_⟩:=I.ok.ud.mem hb;exact I.Zc.free b o ho (I.ok.RO b hb) λz=>I.ok.R1 b z hb
theorem η.step {t':Nat}{d':Drawn}{ch:List cF}(I:η X cL O H s) (RP:∀b∈ch,(b∈X.ex\/X.s₀.dN<=b)/\b≠X.e.locals/\(∀x c,X.e.cells.lookup x=some c->c≠b)/\∀p∈X.pn++cL,p.1≠b) (keep:∀b o,b≠X.e.locals->b∉X.fs->b∉ch->s.heap.get? b=some o->H b=none->h'.get? b=some o) (slot:∀b o,b≠X.e.locals->b∈X.fs->b∉ch->s.heap.get? b=some o->H b=none->∃sl,h'.get? b=some {o with slots:=sl}) (free:∀b o,b∉ch->s.heap.get? b=some o->H b=none->H' b=none) (there:∀b o,b∉ch->s.heap.get? b=some o->∃o',h'.get? b=some o') (GR:∀b xs,H b=some (.t xs)->H' b=some (.t xs)) (E6:∀b o u,H b=some (.zW o u)->H' b=some (.zW o u)) (Dk:∀b ps,H b=some (.Jk ps)->∃more,H' b=some (.Jk (ps++more))) (ns:∀m,s.heap.Ns X.e.locals m->h'.Ns X.e.locals m) (fU:vE X.γ X.w H' h') (hg:AllBare g'):η X cL O H' {s with heap:=h',gens:=g',drawn:=d',toks:=t'}:=by
 have neL:∀b o,X.s₀.heap.get? b=some o->b≠X.e.locals:=λb o e=>aF (ay (aD e) I.ok.above)
 have Z6:∀b o,X.s₀.heap.get? b=some o->b∉X.ex->b∉ch:=λb o e hx hb=>by
  rcases(RP b hb).1 with z|z
  .exact hx z
  .exact absurd (ay (aD e) z) (Nat.lt_irrefl _)
 have cellK:∀x c,X.e.cells.lookup x=some c->∀v,s.heap.IsCell c v->h'.IsCell c v:=λx c e v ⟨o,ho,hd⟩=>by
  have XO:c∉ch:=λz=>(RP c z).2.2.1 x c e rfl
  by_cases hc:c∈X.fs
  .obtain⟨sl,q⟩:=slot c o (I.Ul x c e) hc XO ho (I.tG x c e);exact⟨_,q,hd⟩
  .exact⟨o,keep c o (I.Ul x c e) hc XO ho (I.tG x c e),hd⟩
 refine⟨I.ok,I.os,hg,⟨λb o e n hb hx=>?_,λb o e n hb hx=>?_,λb o e n hx=>?_,λb o e hx=>?_,λb xs e=>GR b xs (I.Zc.GR b xs e),λb o xs e=>E6 b o xs (I.Zc.E6 b o xs e),λb ps e=>?_⟩,?_,λx c e=>?_,?_,λx c e=>?_,λp hp=>?_,fU,I.len⟩
 .exact keep b o (neL b o e) hb (Z6 b o e hx) (I.Zc.keep b o e n hb hx) (I.Zc.free b o e n hx)
 .obtain⟨sl,e1⟩:=I.Zc.slot b o e n hb hx;obtain⟨sl',e2⟩:=slot b _ (neL b o e) hb (Z6 b o e hx) e1 (I.Zc.free b o e n hx);exact⟨sl',e2⟩
 .obtain⟨o',e1⟩:=I.Zc.there b o e hx;exact free b o' (Z6 b o e hx) e1 (I.Zc.free b o e n hx)
 .obtain⟨o',e1⟩:=I.Zc.there b o e hx;exact there b o' (Z6 b o e hx) e1
 .obtain⟨m1,e1⟩:=I.Zc.Dk b ps e;obtain⟨m2,e2⟩:=Dk b _ e1;exact⟨m1++m2,by rw[e2,Array.append_assoc]⟩
 .obtain⟨m,hn,hl⟩:=I.loc;refine⟨m,ns m hn,λi x v e1 e2 e3=>?_⟩
  obtain⟨u,r,l⟩:=hl i x v e1 e2 e3;refine⟨u,r,?_⟩;rcases l with l|⟨k,c,e,z⟩
  .exact .inl l
  .exact .inr ⟨k,c,e,cellK x c e _ z⟩
 .obtain⟨v,z⟩:=I.cell x c e;exact⟨v,cellK x c e v z⟩
 .obtain⟨m,⟨o,_,_,ho,_⟩,_⟩:=I.loc;exact free _ o (λz=>(RP _ z).2.1 rfl) ho I.free
 .obtain⟨v,o,ho,hd⟩:=I.cell x c e;exact free c o (λz=>(RP c z).2.2.1 x c e rfl) ho (I.tG x c e)
 .obtain⟨e,n,ne,nf,d⟩:=I.pin p hp;have XO:p.1∉ch:=λz=>(RP p.1 z).2.2.2 p hp rfl
  exact⟨keep p.1 p.2 ne nf XO e n,free p.1 p.2 XO e n,ne,nf,d⟩
theorem η.un (I:η X cL O H s) (u:Un X.fs [] H H' s.heap h') (fU:vE X.γ X.w H' h'):η X cL O H' {s with heap:=h',toks:=t'}:=by
 obtain⟨m,⟨o,es,ep,ho,r⟩,_⟩:=id I.loc;obtain⟨sl,hL⟩:=u.any ho I.free (by simp)
 exact I.step (g':=s.gens) (d':=s.drawn) (ch:=[]) (λ_ z=>nomatch z) (λb o _ hb _ e n=>u.keep b o e n hb (by simp)) (λb o _ hb _ e n=>u.slot b o e n hb (by simp)) (λb o _ e n=>u.free b o e n (by simp)) (λb o _ e=>u.there b o e (by simp)) u.GR u.E6 u.Dk (λm' hm=>by
  obtain⟨o',Lb,XQ,vF,r'⟩:=hm;rw[ho]at vF;cases vF;exact⟨_,Lb,XQ,hL,r'⟩) fU I.bare
theorem η.call (I:η X cL O H s) (u:Un (Dm X.stack) ch H H' s.heap h') (fU:vE X.γ X.w H' h') (hg:AllBare g') (RP:∀b∈ch,(b∈X.ex\/X.s₀.dN<=b)/\b≠X.e.locals/\(∀x c,X.e.cells.lookup x=some c->c≠b)/\∀p∈X.pn++cL,p.1≠b):η X cL O H' {s with heap:=h',gens:=g',drawn:=d',toks:=t'}:=by
 obtain⟨m,⟨o,es,ep,ho,r⟩,_⟩:=id I.loc;obtain⟨sl,hL⟩:=u.any ho I.free λz=>(RP _ z).2.1 rfl
 exact I.step (ch:=ch) RP (λb o hL hb hc e n=>u.keep b o e n (λz=>(mem_cons.mp (I.yO b z)).elim hL hb) hc) (λb o _ _ hc e n=>u.any e n hc) (λb o hc e n=>u.free b o e n hc) (λb o hc e=>u.there b o e hc) u.GR u.E6 u.Dk (λm' hm=>by
  obtain⟨o',Lb,XQ,vF,r'⟩:=hm;rw[ho]at vF;cases vF;exact⟨_,Lb,XQ,hL,r'⟩) fU hg
theorem η.turned (I:η X cL O H s) (k:∀b o,b≠it->s.heap.get? b=some o->h'.get? b=some o) (hn:H it=none) (hL:it≠X.e.locals) (h1:it∈X.ex\/X.s₀.dN<=it) (h2:∀x c,X.e.cells.lookup x=some c->c≠it) (h3:∀p∈X.pn++cL,p.1≠it):η X cL O H {s with heap:=h',toks:=t'}:=by
 have XR:∀b u,H b=some u->b≠it:=λb u e z=>by rw[z,hn]at e;cases e
 refine I.step (g':=s.gens) (d':=s.drawn) (ch:=[it]) (λb hb=>?_) (λb o _ _ hc e _=>k b o (λz=>hc (by simp[z])) e) (λb o _ _ hc e _=>⟨o.slots,k b o (λz=>hc (by simp[z])) e⟩) (λ_ _ _ _ n=>n)
  (λb o hc e=>⟨o,k b o (λz=>hc (by simp[z])) e⟩) (λ_ _ e=>e) (λ_ _ _ e=>e) (λb ps e=>⟨#[],by rw[e];simp⟩) (λm hm=>?_) (λb u e=>?_) I.bare
 .have e:b=it:=by simpa using hb
  subst e;exact⟨h1,hL,h2,h3⟩
 .obtain⟨o,es,ep,ho,r⟩:=hm;exact⟨o,es,ep,k _ o (Ne.symm hL) ho,r⟩
 .refine(I.fU b u e).E5 (λc v hc q=>k c v ?_ q) (λ_ q=>q) λ_ _ q=>q
  rcases hc with z|z
  .rw[z];exact XR b u e
  .exact XR c _ z
theorem η.tok (I:η X cL O H s) (t:Nat):η X cL O H {s with toks:=t}:=I.un (h':=s.heap) (t':=t) Un.refl I.fU
theorem η.kept (I:η X cL O H s) (k:∀b u,s.heap.get? b=some u->h'.get? b=some u):η X cL O H {s with heap:=h',toks:=t'}:=I.un (Un.kept k) (I.fU.kept k)
theorem η.laid (I:η X cL O H s) (k:∀b u,s.heap.get? b=some u->h'.get? b=some u) (hp:s.dN<=a) (new:iz X.γ X.w (ν H a o) h' a o):η X cL O (ν H a o) {s with heap:=h',toks:=t'}:=I.un (Un.laid k hp (I.fU.fresh hp)) (I.fU.laid k hp new)
theorem η.write (I:η X cL O H s) (mu:XJ (H x)) (he:e=x\/H e=some (.o x)) (k:∀b u,b≠e->s.heap.get? b=some u->h'.get? b=some u) (Xf:∃u,h'.get? e=some u) (new:iz X.γ X.w (ν H x o) h' x o):η X cL O (ν H x o) {s with heap:=h',toks:=t'}:=I.un (Un.write mu he k Xf) (I.fU.write mu he k Xf new)
theorem η.weak (I:η X cL O H s) (hl:σ'.length=O.length) (w:∀(i:Nat) v,σ'[i]? =some (some v)->O[i]? =some (some v)):η X cL σ' H s:=
 ⟨I.ok,I.os,I.bare,I.Zc,let ⟨m,hn,lq⟩:=I.loc;⟨m,hn,λi x v e1 e2 e3=>lq i x v e1 (w i v e2) e3⟩,I.cell,I.free,I.tG,I.pin,I.fU,hl.trans I.len⟩
theorem η.rJ (I:η X cL O H s) (h:∀p∈Lc,s.heap.get? p.1=some p.2/\H p.1=none/\p.1≠X.e.locals/\p.1∉X.fs/\∀v,p.2.data≠.cell v):η X Lc O H s:=
 ⟨I.ok,I.os,I.bare,I.Zc,I.loc,I.cell,I.free,I.tG,λp hp=>(mem_append.mp hp).elim (λz=>I.pin p (bE _ z)) (h p),I.fU,I.len⟩
theorem Bh {N:List Str}(hN:N.Nodup) {i j:Nat}(a:N[i]? =some x) (b:N[j]? =some x):i=j:=by
 obtain⟨h1,e1⟩:=List.getElem?_eq_some_iff.mp a;obtain⟨h2,e2⟩:=List.getElem?_eq_some_iff.mp b;exact(getElem_inj hN).mp (e1.trans e2.symm)
theorem Ea (I:η X cL O H s) (hN:X.N.Nodup) (hi:X.N[i]? =some x) (hx:Loc X.e.scope x) (r:ι v u) (h:∀s',η X cL (O.set i (some v)) H s'->(∃a,Heap.SameBut a s.heap s'.heap/\(a=X.e.locals\/X.e.cells.lookup x=some a))->Q () s') (hf:X.fn x=true\/X.e.scope.names.lookup x=some .local:=by first|exact .inl rfl|exact .inr rfl|assumption):wpAny M A (storeName X.e x u) Q E s:=by
 obtain⟨m,hn,hl⟩:=id I.loc;have aaX:(X.e.scope.kind==.class||(X.e.scope.kind==.module&&X.e.locals !=X.e.globals))=false:=by rw[I.ok.kind];rfl
 have hiσ:i<O.length:=by rw[I.len];exact(List.getElem?_eq_some_iff.mp hi).1
 have Ul:=I.Ul;have tracked:∀{a:cF}{h':Heap},(∃o,s.heap.get? a=some o/\H a=none)->Heap.SameBut a s.heap h'->vE X.γ X.w H h':=λ{a h'} ha hs b ob e=>by
  obtain⟨_,_,Uo⟩:=ha;refine(I.fU b ob e).E5 (λc w' hc q=>(hs.2 c ?_).trans q) (λ_ q=>q) λ_ _ q=>q
  rintro rfl
  rcases hc with rfl|hc
  .rw[Uo]at e;cases e
  .rw[Uo]at hc;cases hc
 rcases hx with hk|hk
 .refine wpAny_storeName_local hk hn (λh' E7 hs=>?_) aaX
  obtain⟨oL,_,_,R3,_⟩:=id hn;refine h _ ⟨I.ok,I.os,I.bare,⟨λb o e n hb hx=>?_,λb o e n hb hx=>?_,I.Zc.free,λb o e hx=>?_,I.Zc.GR,I.Zc.E6,I.Zc.Dk⟩,⟨_,E7,λj y v' e1 e2 e3=>?_⟩,λy c e=>?_,I.free,I.tG,λp hp=>?_,tracked ⟨oL,R3,I.free⟩ hs,by simpa using I.len⟩ ⟨_,hs,.inl rfl⟩
  .exact(hs.2 b (aF (ay (aD e) I.ok.above))).trans (I.Zc.keep b o e n hb hx)
  .obtain⟨sl,e1⟩:=I.Zc.slot b o e n hb hx;exact⟨sl,(hs.2 b (aF (ay (aD e) I.ok.above))).trans e1⟩
  .obtain⟨o',e1⟩:=I.Zc.there b o e hx;exact⟨o',(hs.2 b (aF (ay (aD e) I.ok.above))).trans e1⟩
  .by_cases hj:j=i
   .subst hj;rw[hi]at e1;cases e1;rw[bf hiσ]at e2;cases e2;exact⟨u,r,.inl ⟨hk,by simp⟩⟩
   .rw[aH (Ne.symm hj)]at e2;obtain⟨u',r',q⟩:=hl j y v' e1 e2 e3;refine⟨u',r',?_⟩;rcases q with⟨k,e⟩|⟨k,c,e,z⟩
    .refine .inl ⟨k,?_⟩;have:y≠x:=λe=>hj (Bh hN e1 (e▸hi))
     simp[this,e]
    .exact .inr ⟨k,c,e,z.sameBut hs (Ul y c e)⟩
  .obtain⟨w',z⟩:=I.cell y c e;exact⟨w',z.sameBut hs (Ul y c e)⟩
  .obtain⟨e,n,ne,nf,d⟩:=I.pin p hp;exact⟨(hs.2 p.1 ne).trans e,n,ne,nf,d⟩
 .have MJ:X.fn x=true:=by
   rcases hf with z|z
   .exact z
   .rw[z]at hk;cases hk
  obtain⟨c,hc⟩:=I.ok.has x (.inl hk);obtain⟨w',z⟩:=I.cell x c hc;refine wpAny_storeName_cell I.ok.kind hk hc z (λh' tZ hs=>?_)
  obtain⟨oc,Xi,aaY⟩:=id z;refine h {s with heap:=h'} ⟨I.ok,I.os,I.bare,⟨λb o e n hb hx=>?_,λb o e n hb hx=>?_,I.Zc.free,λb o e hx=>?_,I.Zc.GR,I.Zc.E6,I.Zc.Dk⟩,⟨m,hn.sameBut hs (Ne.symm (Ul x c hc)),λj y v' e1 e2 e3=>?_⟩,λy c' e=>?_,I.free,I.tG,λp hp=>?_,tracked ⟨oc,Xi,I.tG x c hc⟩ hs,by simpa using I.len⟩ ⟨c,hs,.inr hc⟩
  .exact(hs.2 b (aF (ay (aD e) (I.ok.Xh x c MJ hc)))).trans (I.Zc.keep b o e n hb hx)
  .obtain⟨sl,e1⟩:=I.Zc.slot b o e n hb hx;exact⟨sl,(hs.2 b (aF (ay (aD e) (I.ok.Xh x c MJ hc)))).trans e1⟩
  .obtain⟨o',e1⟩:=I.Zc.there b o e hx;exact⟨o',(hs.2 b (aF (ay (aD e) (I.ok.Xh x c MJ hc)))).trans e1⟩
  .by_cases hj:j=i
   .subst hj;rw[hi]at e1;cases e1;rw[bf hiσ]at e2;cases e2;exact⟨u,r,.inr ⟨.inl hk,c,hc,tZ⟩⟩
   .rw[aH (Ne.symm hj)]at e2;obtain⟨u',r',q⟩:=hl j y v' e1 e2 e3;refine⟨u',r',?_⟩;rcases q with q|⟨k,c',e,z'⟩
    .exact .inl q
    .refine .inr ⟨k,c',e,z'.sameBut hs ?_⟩
     rintro rfl
     exact hj (Bh hN e1 (I.ok.inj _ _ _ e hc▸hi))
  .by_cases N0:c'=c
   .subst N0;exact⟨_,tZ⟩
   .obtain⟨w2,z2⟩:=I.cell y c' e;exact⟨w2,z2.sameBut hs N0⟩
  .obtain⟨e,n,ne,nf,d⟩:=I.pin p hp;refine⟨(hs.2 p.1 ?_).trans e,n,ne,nf,d⟩;intro q;rw[q,Xi]at e;have q':oc=p.2:=aT e;exact d w' (by rw[<-q'];exact aaY)
theorem xh (I:η X cL O H s) (hN:X.N.Nodup) (hi:X.N[i]? =some x) (hx:Loc X.e.scope x) (r:ι v u) (h:∀s',η X cL (O.set i (some v)) H s'->Q () s') (hf:X.fn x=true\/X.e.scope.names.lookup x=some .local:=by first|exact .inl rfl|exact .inr rfl|assumption):wpAny M A (storeName X.e x u) Q E s:=
 Ea I hN hi hx r (λs' I' _=>h s' I') hf
theorem η.XS {ch:List cF}(I:η X cL O H s) (ho:s'.os=s.os) (u:Un (Dm X.stack) ch H H' s.heap s'.heap) (fU:vE X.γ X.w H' s'.heap) (hg:AllBare s'.gens) (RP:∀b∈ch,(b∈X.ex\/X.s₀.dN<=b)/\b≠X.e.locals/\(∀x c,X.e.cells.lookup x=some c->c≠b)/\∀p∈X.pn++cL,p.1≠b):η X cL O H' s':=by
 obtain⟨h',g',d',t',o'⟩:=s';have e:o'=s.os:=ho;subst e;exact I.call (g':=g') (t':=t') (d':=d') u fU hg RP
end
abbrev XK:=cy->cu->Hp->Prop
abbrev St:=List (Option V)
abbrev VK:=V->Hp->Prop
abbrev TE:=St->Hp->VK->Prop
abbrev TT:=St->Hp->(Bool->Hp->Prop)->Prop
abbrev TA:=St->Hp->(List V->Hp->Prop)->Prop
structure Ends where
 nx:St->Hp->Prop
 rt:VK
 bk:St->Hp->Prop:=λ_ _=>False
 ct:St->Hp->Prop:=λ_ _=>False
abbrev TS:=Ends->St->Hp->Prop
def EP (X:Cx) (cL:cn) (O:St) (Q:VK) (u:cy) (s':cz):Prop:=∃v H',η X cL O H' s'/\ι v u/\Q v H'
def TP (X:Cx) (cL:cn) (O:St) (Q:Bool->Hp->Prop) (b:Bool) (s':cz):Prop:=∃H',η X cL O H' s'/\Q b H'
def AP (X:Cx) (cL:cn) (O:St) (Q:List V->Hp->Prop) (us:cx) (s':cz):Prop:=∃vs H',η X cL O H' s'/\θ vs us/\Q vs H'
def SP (X:Cx) (cL:cn) (D:Ends) (f:Flow) (s':cz):Prop:=
 match f with
 |.next=>∃σ' H',η X cL σ' H' s'/\D.nx σ' H'
 |.brk=>∃σ' H',η X cL σ' H' s'/\D.bk σ' H'
 |.cont=>∃σ' H',η X cL σ' H' s'/\D.ct σ' H'
 |.ret u=>∃v σ' H',η X cL σ' H' s'/\ι v u/\D.rt v H'
def PE (X:Cx) (e:cG) (t:TE):Prop:=
 ∀(cL:cn) (s:cz) (O:St) (H:Hp) (Q:VK),η X cL O H s->t O H Q->X.mO (eval e X.e) (EP X cL O Q) X.xe s
def PT (X:Cx) (e:cG) (t:TT):Prop:=
 ∀(cL:cn) (s:cz) (O:St) (H:Hp) (Q:Bool->Hp->Prop),η X cL O H s->t O H Q->X.mO (isTrue e X.e (eval e X.e)) (TP X cL O Q) X.xe s
def PW (X:Cx) (e:cG) (t:TT):Prop:=
 ∀(whole:Sem cy) (cL:cn) (s:cz) (O:St) (H:Hp) (Q:Bool->Hp->Prop),η X cL O H s->t O H Q->X.mO (isTrue e X.e whole) (TP X cL O Q) X.xe s
def PW.pt (h:PW X e t):PT X e t:=h _
def PA (X:Cx) (es:List cG) (t:TA):Prop:=
 ∀(pos:Pos) (cL:cn) (s:cz) (O:St) (H:Hp) (Q:List V->Hp->Prop),η X cL O H s->t O H Q->X.mO (spliced (backTo pos (starEach es X.e))) (AP X cL O Q) X.xe s
def PS (X:Cx) (st:cH) (t:TS):Prop:=
 ∀(cL:cn) (s:cz) (O:St) (H:Hp) (D:Ends),η X cL O H s->t D O H->X.mO (exec st X.e) (SP X cL D) X.xe s
def Df (X:Cx) (st:List cH) (t:TS):Prop:=
 ∀(cL:cn) (s:cz) (O:St) (H:Hp) (D:Ends),η X cL O H s->t D O H->X.mO (execs st X.e) (SP X cL D) X.xe s
def xc (h:wpAny M A t Q E s) (hQ:∀a s,Q a s->Q' a s):wpAny M A t Q' E s:=bQ h hQ λ_ _ x=>x
def pH {X:Cx}{cL:cn}{O:St}{Q:VK}{u:Sem cy}{Q':cj}{M:Model}{A:cD}{E:cj}{s:cz}(h:wpAny M A u (EP X cL O Q) E s) (hQ:∀a s x H,η X cL O H s->ι x a->Q x H->Q' a s):wpAny M A u Q' E s:=xc h λ_ _ ⟨_,_,i,r,q⟩=>hQ _ _ _ _ i r q
def N1 {X:Cx}{cL:cn}{O:St}{Q:List V->Hp->Prop}{u:Sem (cx)}{Q':cx->cz->Prop}{M:Model}{A:cD}{E:cj}{s:cz}(h:wpAny M A u (AP X cL O Q) E s) (hQ:∀a s x H,η X cL O H s->θ x a->Q x H->Q' a s):wpAny M A u Q' E s:=xc h λ_ _ ⟨_,_,i,r,q⟩=>hQ _ _ _ _ i r q
def Xj {X:Cx}{cL:cn}{O:St}{Q:Bool->Hp->Prop}{u:Sem Bool}{Q':Bool->cz->Prop}{M:Model}{A:cD}{E:cj}{s:cz}(h:wpAny M A u (TP X cL O Q) E s) (hQ:∀a s H,η X cL O H s->Q a H->Q' a s):wpAny M A u Q' E s:=xc h λ_ _ ⟨_,i,q⟩=>hQ _ _ _ i q
section
variable {X:Cx}
def lu (i:Nat):TE:=λO H Q=>∃v,O[i]? =some (some v)/\Q v H
def tC (v:V):TE:=λ_ H Q=>Q v H
def E8 (hN:X.N[i]? =some x) (hv:Vi X.e.scope x) (hd:AD x:=by decide) (vG:(x==("__classdict__":Str))=false:=by decide):PE X (.Name x pos) (lu i):=by
 intro cL s O H Q I h;obtain⟨v,e,h⟩:=h;obtain⟨m,hn,hl⟩:=I.loc;obtain⟨u,r,l⟩:=hl i x v hN e hv;have fin:EP X cL O Q u s:=⟨v,H,I,r,h⟩;rcases l with⟨hk,hm⟩|⟨hk,c,hc,Eb⟩
 .exact wpAny_Name (wpAny_loadName_local I.ok.kind hk hn hm fin) hd
 .rcases hk with hk|hk
  .exact wpAny_Name (wpAny_loadName_cell I.ok.kind hk hc Eb fin) hd
  .exact wpAny_Name (wpAny_loadName_free I.ok.kind hk hc Eb fin vG) hd
def Bi {i j pos}:PE X (.Constant (.int i) j pos) (tC (.int i)):=λ_ _ _ H _ I h=>wpAny_Constant_int ⟨.int i,H,I.tok _,⟨_,rfl⟩,h⟩
def XT {b j pos}:PE X (.Constant (.bool b) j pos) (tC (.bl b)):=λ_ _ _ H _ I h=>Constant_bool ⟨.bl b,H,I,rfl,h⟩
def Vj {j pos}:PE X (.Constant .none j pos) (tC .eZ):=λ_ _ _ H _ I h=>Constant_none ⟨.eZ,H,I,rfl,h⟩
def Vk {x j pos}:PE X (.Constant (.str x) j pos) (tC (.str x)):=λ_ _ _ H _ I h=>Calls.Constant_str ⟨.str x,H,I.tok _,⟨_,rfl⟩,h⟩
def Gl (X:Cx) (x:Str):Prop:=X.e.kindOf x=some .globalImplicit
def E9 (I:η X cL O H s) (hg:Gl X x) (hm:X.mg x=some u) (h:Q u s) (hd:AD x:=by decide):X.mO (eval (.Name x pos) X.e) Q E s:=
 Calls.Name_function_global I.ok.kind hg (Calls.loadGlobal_global (by rw[I.ok.glob];exact I.mod.glob.keeps I.bk) hm h) hd
def oi (I:η X cL O H s) (hg:Gl X x) (hm:X.mg x=none) (hv:bootBuiltins x=some u) (h:Q u s) (hn:x≠"__name__":=by decide) (hd:AD x:=by decide):X.mO (eval (.Name x pos) X.e) Q E s:=by
 obtain⟨mb,h1,h2⟩:=I.mod.blt;exact Calls.Name_function_global I.ok.kind hg (Calls.loadGlobal_builtin (by rw[I.ok.glob];exact I.mod.glob.keeps I.bk) hm (by rw[I.ok.blt];exact h1.keeps I.bk) ((h2 x hn).trans hv) h) hd
def R4 (hg:Gl X x) (hm:X.mg x=some u) (r:ι v u) (hd:AD x:=by decide):PE X (.Name x pos) (tC v):=
 λ_ _ _ H _ I h=>E9 I hg hm ⟨v,H,I,r,h⟩ hd
def R5 (hg:Gl X x) (hm:X.mg x=none) (hv:bootBuiltins x=some u) (r:ι v u) (hn:x≠"__name__":=by decide) (hd:AD x:=by decide):PE X (.Name x pos) (tC v):=
 λ_ _ _ H _ I h=>oi I hg hm hv ⟨v,H,I,r,h⟩ hn hd
variable {a b:cG}{ta tb:TE}
def PC (X:Cx) (op:CmpOp) (a b:cG) (t:TE):Prop:=
 ∀(cL:cn) (s:cz) (O:St) (H:Hp) (Q:VK),η X cL O H s->t O H Q->
  X.mO (eval a X.e) (λv s₁=>X.mO (eval b X.e) (λu s₂=>X.mO (compareOp op v u) (EP X cL O Q) X.xe s₂) X.xe s₁) X.xe s
def tB (t:TE):TT:=λO H Q=>t O H λx H1=>∃c,x=.bl c/\Q c H1
def Vl (h:PE X e t) (he:∀whole,isTrue e X.e whole=(do let v <-whole;standAt e.pos;holding [v] (truthy v)):=by intro _;rfl):PT X e (tB t):=by
 intro cL s O H Q I hw;refine isTrue_plain (pH (h cL s O H _ I hw) λv s1 x H1 I1 r1 q1=>?_) (he _)
 obtain⟨d,rfl,q⟩:=q1;cases r1;exact bR ⟨H1,I1,q⟩
def XU (t u:TT):TT:=λO H Q=>t O H λc H1=>if c=true then u O H1 Q else Q false H1
def tOr (t u:TT):TT:=λO H Q=>t O H λc H1=>if c=true then Q true H1 else u O H1 Q
def aaZ (t:TT):TT:=λO H Q=>t O H λc H1=>Q (!c) H1
def Vm (ha:PT X a tA):PW X (.BoolOp .Or [a] pos) tA:=by
 intro wh cL s O H Q I h;refine isTrue_or (xc (ha cL s O H Q I h) λc s1 e=>?_)
 cases c with
 |false=>exact isTrue_or_nil e
 |true=>exact e
def Vn (ha:PT X a tA) (hb:PW X (.BoolOp .And (b::rest) pos) Z7):PW X (.BoolOp .And (a::b::rest) pos) (XU tA Z7):=by
 intro wh cL s O H Q I h;refine isTrue_and (Xj (ha cL s O H _ I h) λc s1 H1 I1 q1=>?_)
 cases c with
 |true=>exact hb wh cL s1 O H1 Q I1 q1
 |false=>exact⟨H1,I1,q1⟩
def XW (ha:PT X a tA) (hb:PW X (.BoolOp .Or (b::rest) pos) Z7):PW X (.BoolOp .Or (a::b::rest) pos) (tOr tA Z7):=by
 intro wh cL s O H Q I h;refine isTrue_or (Xj (ha cL s O H _ I h) λc s1 H1 I1 q1=>?_)
 cases c with
 |true=>exact⟨H1,I1,q1⟩
 |false=>exact hb wh cL s1 O H1 Q I1 q1
def Vo (ha:PT X a tA):PT X (.UnaryOp .Not a pos) (aaZ tA):=by
 intro cL s O H Q I h;exact isTrue_not (ha cL s O H (λc H1=>Q (!c) H1) I h)
def XX (ta tb:TE):TE:=λO H Q=>ta O H λx H1=>∃c,x=.bl c/\if c=true then tb O H1 Q else Q (.bl false) H1
def Vp (ha:PE X a ta) (hb:PE X (.BoolOp .And (b::rest) pos) tb):PE X (.BoolOp .And (a::b::rest) pos) (XX ta tb):=by
 intro cL s O H Q I h;refine BoolOp_and (pH (ha cL s O H _ I h) λv s1 x H1 I1 r1 q1=>?_)
 obtain⟨c,rfl,q1⟩:=q1;cases r1;refine bR ?_;cases c with
 |true=>exact hb cL s1 O H1 Q I1 q1
 |false=>exact⟨.bl false,H1,I1,rfl,q1⟩
def tIf (t:TT) (ta tb:TE):TE:=λO H Q=>t O H λc H1=>if c=true then ta O H1 Q else tb O H1 Q
def Og (hc:PT X c tA) (ha:PE X a ta) (hb:PE X b tb):PE X (.IfExp c a b pos) (tIf tA ta tb):=by
 intro cL s O H Q I h;refine wpAny_IfExp (Xj (hc cL s O H _ I h) λd s1 H1 I1 q1=>?_)
 cases d with
 |true=>exact ha cL s1 O H1 Q I1 q1
 |false=>exact hb cL s1 O H1 Q I1 q1
end
def ua (K:W.Frag) (H:Hp) (a:cF) (xs:List V):Prop:=
 Rd H a (.l xs)\/
  ∃(o:Obj) (dE:Array cy) (n:Nat),K.lookup a=some o/\o.cls=.type "list"/\o.dict=none/\o.data=.seq dE n/\dE.size<=sizeLine/\θ xs dE.toList
def lr (K:W.Frag) (H:Hp) (a:cF) (xs:List V):Prop:=
 Rd H a (.t xs)\/
  ∃(o:Obj) (dE:Array cy) (n:Nat),K.lookup a=some o/\o.cls=.type "tuple"/\o.data=.seq dE n/\dE.size<=sizeLine/\θ xs dE.toList
noncomputable def aa0:cy->Option V
 |.none=>some .eZ
 |.bool b=>some (.bl b)
 |.int i _=>some (.int i)
 |.str x _=>some (.str x)
 |.bytes b _=>some (.Xe b)
 |.float b _=>some (.Vf b)
 |.ref a=>some (.ref a)
 |.type n=>some (.ty n)
 |_=>none
def ι.abs (r:ι x u):aa0 u=some x:=by
 cases x with
 |eZ=>cases r;rfl
 |bl _=>cases r;rfl
 |int _=>obtain⟨t,rfl⟩:=r;rfl
 |str _=>obtain⟨t,rfl⟩:=r;rfl
 |Xe _=>obtain⟨t,rfl⟩:=r;rfl
 |Vf _=>obtain⟨t,rfl⟩:=r;rfl
 |ref _=>cases r;rfl
 |ty _=>cases r;rfl
def ι.inj (r:ι x u) (q:ι y u):x=y:=aT (r.abs.symm.trans q.abs)
theorem θ.inj:∀{xs ys:List V}{us:cx},θ xs us->θ ys us->xs=ys
 |_,_,_,.nil,q=>by cases q;rfl
 |_,_,_,.cons r t,q=>by cases q with|cons r' t'=>rw[r.inj r',θ.inj t t']
def ua.of {K:W.Frag}(h:H a=some (.l xs)):ua K H a xs:=.inl (.inl h)
def lr.of {K:W.Frag}(h:H a=some (.t xs)):lr K H a xs:=.inl (.inl h)
def η.list (I:η X cL O H s) (h:ua X.K H a xs):∃dE:cx,θ xs dE/\PlainL s.heap a dE.toArray/\xs.length<=sizeLine:=by
 rcases h with h|⟨o,dE,n,hk,hc,hd,hs,hz,r⟩
 .obtain⟨z,dE,n,r,e⟩:=h.ok I.fU;exact⟨dE,r,⟨_,n,e,rfl,rfl,rfl⟩,z⟩
 .refine⟨dE.toList,r,⟨o,n,I.AE a o hk,hc,hd,by simpa using hs⟩,?_⟩
  have e:=r.length;simp only[aO]at e;omega
def η.tuple (I:η X cL O H s) (h:lr X.K H a xs):∃dE:cx,θ xs dE/\IsTup s.heap a dE.toArray/\xs.length<=sizeLine:=by
 rcases h with h|⟨o,dE,n,hk,hc,hs,hz,r⟩
 .obtain⟨z,dE,r,p⟩:=h.ok I.fU;exact⟨dE,r,p,z⟩
 .refine⟨dE.toList,r,⟨o,I.AE a o hk,hc,n,by simpa using hs⟩,?_⟩
  have e:=r.length;simp only[aO]at e;omega
def η.GU (I:η X cL O H s) (h:ua X.K H a xs) (h':ua X.K H a ys):xs=ys:=by
 obtain⟨dE,r,⟨o,n,e,_,_,d⟩,_⟩:=I.list h;obtain⟨its',r',⟨o',n',e',_,_,d'⟩,_⟩:=I.list h';rw[e]at e';cases e';rw[d]at d';injection d' with d1 _
 have:dE=its':=by simpa using congrArg Array.toList d1
 subst this;exact r.inj r'
def η.yP (I:η X cL O H s) (h:lr X.K H a xs) (h':lr X.K H a ys):xs=ys:=by
 obtain⟨dE,r,⟨o,e,_,n,d⟩,_⟩:=I.tuple h;obtain⟨its',r',⟨o',e',_,n',d'⟩,_⟩:=I.tuple h';rw[e]at e';cases e';rw[d]at d';injection d' with d1 _
 have:dE=its':=by simpa using congrArg Array.toList d1
 subst this;exact r.inj r'
noncomputable abbrev Cx.Dp (X:Cx) (E:cj):Cx:={X with xe:=E}
abbrev Cx.GJ (X:Cx):Cx:=X.Dp λ_ _=>False
theorem Cx.Ok.Dp {X:Cx}(ok:X.Ok) (E:cj):(X.Dp E).Ok:=
 ⟨ok.mod,ok.kind,ok.glob,ok.blt,ok.above,ok.inj,ok.has,ok.Xh,ok.hd,ok.frames,ok.XN,ok.exf,ok.bs,ok.NZ,ok.Of,ok.R1,ok.ud,ok.RO,ok.tb⟩
def Cx.Ok.ue {X:Cx}(ok:(X.Dp E).Ok):X.Ok:=
 ⟨ok.mod,ok.kind,ok.glob,ok.blt,ok.above,ok.inj,ok.has,ok.Xh,ok.hd,ok.frames,ok.XN,ok.exf,ok.bs,ok.NZ,ok.Of,ok.R1,ok.ud,ok.RO,ok.tb⟩
theorem η.Dp (I:η X cL O H s) (E:cj):η (X.Dp E) cL O H s:=⟨I.ok.Dp E,I.os,I.bare,I.Zc,I.loc,I.cell,I.free,I.tG,I.pin,I.fU,I.len⟩
theorem η.ue (I:η (X.Dp E) cL O H s):η X cL O H s:=⟨I.ok.ue,I.os,I.bare,I.Zc,I.loc,I.cell,I.free,I.tG,I.pin,I.fU,I.len⟩
theorem SP.ue (h:SP (X.Dp E) cL D f s'):SP X cL D f s':=by
 cases f with
 |next=>obtain⟨σ',H',I,q⟩:=h;exact⟨σ',H',I.ue,q⟩
 |brk=>obtain⟨σ',H',I,q⟩:=h;exact⟨σ',H',I.ue,q⟩
 |cont=>obtain⟨σ',H',I,q⟩:=h;exact⟨σ',H',I.ue,q⟩
 |ret u=>obtain⟨v,σ',H',I,r,q⟩:=h;exact⟨v,σ',H',I.ue,r,q⟩
theorem Df.GJ {st:List cH}(h:Df X.GJ st t):Df X st t:=λcL s O H D I hw=>
 bQ (h cL s O H D (I.Dp _) hw) (λ_ _ q=>q.ue) λ_ _ z=>False.elim z
section
variable {st:cH}{t u:TS}{te:TE}
def XY:TS:=λD O H=>D.nx O H
def aa1 (t u:TS):TS:=λD O H=>t {D with nx:=u D} O H
def Fb:Df X [] XY:=λ_ _ O H _ I h=>wpAny_execs_nil ⟨O,H,I,h⟩
def xi (h1:PS X st t) (h2:Df X rest u):Df X (st::rest) (aa1 t u):=by
 intro cL s O H D I h;refine wpAny_execs_cons (xc (h1 cL s O H {D with nx:=u D} I h) λf s1 q=>?_)
 cases f with
 |next=>
  obtain⟨σ',H',I',q⟩:=q;exact h2 cL s1 σ' H' D I' q
 |ret v=>exact q
 |brk=>exact q
 |cont=>exact q
def Ld (h1:PS X st t):Df X [st] t:=by
 intro cL s O H D I h;refine wpAny_execs_cons (xc (h1 cL s O H D I h) λf s1 q=>?_)
 cases f with
 |next=>exact wpAny_execs_nil q
 |ret v=>exact q
 |brk=>exact q
 |cont=>exact q
def η.quiet (I:η X cL O H s):interactive X.e=false:=by simp[interactive,I.ok.kind]
def XZ (te:TE):TS:=λD O H=>te O H λ_ H1=>D.nx O H1
def Le (he:PE X e te) (hs:swapsWith e none pos.line X.e=pure false:=by rfl):PS X (.Expr e pos) (XZ te):=by
 intro cL s O H D I h;exact wpAny_Expr_any (pH (he cL s O H _ I h) λv s1 x H1 I1 r1 q1=>⟨O,H1,I1,q1⟩) I.quiet hs
def aa2 (te:TE):TS:=λD O H=>te O H D.rt
def Vq (he:PE X e te):PS X (.Return (some e) pos) (aa2 te):=by
 intro cL s O H D I h;exact wpAny_Return_some (pH (he cL s O H _ I h) λv s1 x H1 I1 r1 q1=>⟨x,O,H1,I1,r1,q1⟩)
def aa3 (c:TT) (t u:TS):TS:=λD O H=>c O H λb H1=>if b=true then t D O H1 else u D O H1
def Oh (hc:PT X c tc) (ha:Df X a t) (hb:Df X b u):PS X (.If c a b pos) (aa3 tc t u):=by
 intro cL s O H D I h;refine wpAny_If (Xj (hc cL s O H _ I h) λd s1 H1 I1 q1=>?_)
 cases d with
 |true=>exact ha cL s1 O H1 D I1 q1
 |false=>exact hb cL s1 O H1 D I1 q1
end
abbrev TG:=V->St->Hp->(St->Hp->Prop)->Prop
abbrev Vr:=List V->St->Hp->(St->Hp->Prop)->Prop
def PG (X:Cx) (target:cG) (t:TG):Prop:=
 ∀(cL:cn) (s:cz) (O:St) (H:Hp) (v:V) (u:cy) (Q:St->Hp->Prop),η X cL O H s->ι v u->t v O H Q->
  X.mO (assign target X.e u) (λ_ s'=>∃σ' H',η X cL σ' H' s'/\Q σ' H') X.xe s
def Vs (X:Cx) (ts:List cG) (t:Vr):Prop:=
 ∀(cL:cn) (s:cz) (O:St) (H:Hp) (vs:List V) (us:cx) (Q:St->Hp->Prop),η X cL O H s->θ vs us->t vs O H Q->
  X.mO (assignInOrder ((assignEach ts X.e).map (·.2)) us) (λ_ s'=>∃σ' H',η X cL σ' H' s'/\Q σ' H') X.xe s
abbrev Vt:=V->V->V->Hp->(Hp->Prop)->Prop
def X0 (X:Cx) (t:Vt):Prop:=
 ∀(cL:cn) (s:cz) (O:St) (H:Hp) (o i v:V) (ov iv u:cy) (Q:Hp->Prop),η X cL O H s->ι o ov->ι i iv->ι v u->t o i v H Q->
  X.mO (setItem ov iv u) (λ_ s'=>∃H',η X cL O H' s'/\Q H') X.xe s
def GV (i:Nat):TG:=λv O H Q=>Q (O.set i (some v)) H
def fx {i:Nat}(hN:X.N.Nodup) (hi:X.N[i]? =some x) (hx:Loc X.e.scope x:=by first|exact Or.inl rfl|exact Or.inr rfl) (hf:X.fn x=true\/X.e.scope.names.lookup x=some .local:=by first|exact .inl rfl|exact .inr rfl|assumption):PG X (.Name x pos) (GV i):=by
 intro cL s O H v u Q I r h;exact wpAny_assign_Name (xh I hN hi hx r (λs' I'=>⟨_,H,I',h⟩) hf)
noncomputable def X1:Vr:=λvs O H Q=>vs=[]/\Q O H
noncomputable def Up (t:TG) (u:Vr):Vr:=λvs O H Q=>∃v r,vs=v::r/\t v O H λσ' H'=>u r σ' H' Q
def xj:Vs X [] X1:=by
 intro cL s O H vs us Q I r h;obtain⟨e,h⟩:=h;subst e;cases r;exact assignInOrder_nil ⟨O,H,I,h⟩
def j4 (h1:PG X e t) (h2:Vs X es u) (hs:(assignEach (e::es) X.e).map (·.2)=assign e X.e::(assignEach es X.e).map (·.2):=by rfl):Vs X (e::es) (Up t u):=by
 intro cL s O H vs us Q I r h;obtain⟨v,vr,e1,h⟩:=h;subst e1;cases r with
 |cons r rr=>
  rw[hs];refine assignInOrder_cons (xc (h1 cL s O H _ _ _ I r h) λ_ s1 ⟨σ1,H1,I1,q1⟩=>?_)
  exact h2 cL s1 σ1 H1 _ _ Q I1 rr q1
def nA (K:W.Frag) (n:Nat) (t:Vr):TG:=λv O H Q=>∃a xs,v=.ref a/\lr K H a xs/\xs.length=n/\t xs O H Q
def Oi {k:Nat}{t:Vr}{n:Nat}(hc:X.calm=true) (h:Vs X es t) (hn:(assignEach es X.e).length=n:=by rfl) (uf:(assignEach es X.e).findIdx? (·.1)=none:=by rfl):PG X (.Tuple es k pos) (nA X.K n t):=by
 intro cL s O H v u Q I r hw;obtain⟨a,xs,e1,hq,hl,hw⟩:=hw;subst e1;cases r;obtain⟨dE,rv,ht,hz⟩:=I.tuple hq;refine assign_Tuple_tuple (I.ok.hd hc) ht (by simp[hn,<-hl,rv.length]) uf λh' hx=>?_
 have I1:η X cL O H {s with heap:=h'}:=I.kept (t':=s.toks) λb o e=>hx b o (aF (aD e)) e
 exact h cL _ O H xs _ Q I1 (by simpa using rv) hw
def aa4 (to ti:TE) (t:Vt):TG:=λv O H Q=>to O H λo H1=>ti O H1 λi H2=>t o i v H2 λH3=>Q O H3
def Oj (ho:PE X o to) (hi:PE X i ti) (hs:X0 X t) (ha:∀v,assign (.Subscript o i pos) X.e v=(do
   let ov <-holding [v] (eval o X.e)
   let iv <-holding [v,ov] (eval i X.e)
   standAt pos
   holding [v,ov,iv] (setItem ov iv v)
   release [v,ov,iv] []):=by intro _;rfl):PG X (.Subscript o i pos) (aa4 to ti t):=by
 intro cL s O H v u Q I r h;rw[ha];refine aa (bo (pH (ho cL s O H _ I h) λov s1 x H1 I1 r1 q1=>?_))
 refine aa (bo (pH (hi cL s1 O H1 _ I1 q1) λiv s2 y H2 I2 r2 q2=>?_))
 refine aa (wpAny_standAt (aa (bo (xc (hs cL s2 O H2 x y v ov iv u _ I2 r1 r2 r q2) λ_ s3 ⟨H3,I3,q3⟩=>?_))))
 exact wpAny_release ⟨O,H3,I3,q3⟩
def X2 (te:TE) (g:TG):TS:=λD O H=>te O H λx H1=>g x O H1 D.nx
def Jl (he:PE X e te) (hg:PG X tg g) (hs:swapsWithSole [tg] e pos.line X.e=pure false:=by rfl) (hw:swappedStores [tg] e X.e=pure none:=by rfl) (h1:(assignEach [tg] X.e).map (·.2)=[assign tg X.e]:=by rfl):PS X (.Assign [tg] e pos) (X2 te g):=by
 intro cL s O H D I h;refine wpAny_Assign_stores (pH (he cL s O H _ I h) λv s1 x H1 I1 r1 q1=>?_) hs hw
 rw[h1];exact xc (hg cL s1 O H1 x v _ I1 r1 q1) λ_ s2 q=>q
def Fc {i:Nat}{x:Str}{te:TE}{pos':Pos}(hN:X.N.Nodup) (hi:X.N[i]? =some x) (hx:Loc X.e.scope x) (he:PE X e te) (hs:swapsWith e (some (.Name x pos')) pos.line X.e=pure false:=by rfl) (hf:X.fn x=true\/X.e.scope.names.lookup x=some .local:=by first|exact .inl rfl|exact .inr rfl|assumption):PS X (.Assign [.Name x pos'] e pos) (X2 te (GV i)):=by
 intro cL s O H D I h;refine wpAny_Assign_Name (pH (he cL s O H _ I h) λv s1 y H1 I1 r1 q1=>?_) hs
 exact xh I1 hN hi hx r1 (λs2 I2=>⟨_,H1,I2,q1⟩) hf
def Vu (c:TT) (tb:TS):TS:=λD O H=>∃W:Nat->St->Hp->Prop,(∃m,W m O H)/\∀m O H,W m O H->
 c O H λb H1=>if b=true then ∃N:St->Hp->Prop,(∀σ' H',N σ' H'->∃m',m'<m/\W m' σ' H')/\tb {D with nx:=N,ct:=N,bk:=D.nx} O H1 else D.nx O H1
def Ol {c:cG}{tc:TT}{tb:TS}(hp:PassesOwn (model X.γ X.w) X.A X.e X.xe) (hc:PT X c tc) (hb:Df X body tb):PS X (.While c body [] pos) (Vu tc tb):=by
 intro cL s O H D I h;obtain⟨W,⟨m0,w0⟩,turn⟩:=h;refine wpAny_While (codeAny_whileLoop (λn s'=>∃σ' H',η X cL σ' H' s'/\W n σ' H') ?_ m0 ⟨O,H,I,w0⟩)
 rintro n s1 ⟨σ1,H1,I1,w1⟩
 refine wpAny_passesOwn hp (Xj (hc cL s1 σ1 H1 _ I1 (turn n σ1 H1 w1)) λb s2 H2 I2 q2=>?_)
 cases b with
 |true=>
  obtain⟨N,hN,q2⟩:=q2;rw[if_pos rfl];refine wpAny_passesOwn hp (xc (hb cL s2 σ1 H2 _ I2 q2) λf s3 q3=>?_)
  cases f with
  |next=>
   obtain⟨σ3,H3,I3,n3⟩:=q3;obtain⟨m',hm,w3⟩:=hN σ3 H3 n3;exact⟨m',hm,σ3,H3,I3,w3⟩
  |cont=>
   obtain⟨σ3,H3,I3,n3⟩:=q3;obtain⟨m',hm,w3⟩:=hN σ3 H3 n3;exact⟨m',hm,σ3,H3,I3,w3⟩
  |brk=>exact q3
  |ret v=>exact q3
 |false=>
  rw[if_neg bc];exact wpAny_execs_nil ⟨σ1,H2,I2,q2⟩
structure It where
 go:Nat->Hp->Prop
 R6:Nat->Hp->V->Hp->Prop
 stop:Nat->Hp->Prop
def yQ (X:Cx) (cL:cn) (H:Hp) (b:cF):Prop:=
 H b=none/\b≠X.e.locals/\b∉X.fs/\(b∈X.ex\/X.s₀.dN<=b)/\(∀x c,X.e.cells.lookup x=some c->c≠b)/\∀p∈X.pn++cL,p.1≠b
def η.Jm (I:η X cL O H s) (hb:s.dN<=b) (hn:H' b=none):yQ X cL H' b:=by
 refine⟨hn,bz (ay I.lt hb),I.aaW hb,.inr (aE I.sz hb),λx c e z=>?_,λp hp z=>?_⟩
 .obtain⟨v,q⟩:=I.cell x c e;exact absurd (ay q.lt (by rw[z];exact hb)) (Nat.lt_irrefl _)
 .exact absurd (ay (aD (I.pin p hp).1) (by rw[z];exact hb)) (Nat.lt_irrefl _)
structure Turn (P:cB) (w:cC) (K:W.Frag) (tg:cG) (J:It) (fp:List cF) (it:cF) (tn:Nat->Heap->Prop):Prop where
 mem:it∈fp
 obj:∀i h,tn i h->∀b∈fp,∃o,h.get? b=some o/\∀v,o.data≠.cell v
 keep:∀i h h',tn i h->(∀b∈fp,∀o,h.get? b=some o->h'.get? b=some o)->tn i h'
 item:∀(X:Cx),X.γ=P->X.w=w->X.K=K->X.calm=true->∀(i:Nat) (cL:cn) (s:cz) (O:St) (H:Hp) (E:cj),η X cL O H s->(∀b∈fp,yQ X cL H b)->tn i s.heap->J.go i H->
  wpAny (model P w) X.A (pyNext (.ref it)) (λr s1=>∃u,r=some u/\
   wpAny (model P w) X.A (letOwnedTupleGo tg (.ref it) u) (λ_ s2=>∃x H',η X cL O H' s2/\ι x u/\J.R6 i H x H'/\tn (i+1) s2.heap/\∀b∈fp,H' b=none) E s1) E s
 done:∀(X:Cx),X.γ=P->X.w=w->X.K=K->X.calm=true->∀(i:Nat) (cL:cn) (s:cz) (O:St) (H:Hp) (E:cj),η X cL O H s->(∀b∈fp,yQ X cL H b)->tn i s.heap->J.stop i H->
  wpAny (model P w) X.A (pyNext (.ref it)) (λr s1=>r=none/\η X cL O H s1) E s
 self:∀(A:cD) (i:Nat) (s:cz) (Q:cj) (E:cj),tn i s.heap->Q (.ref it) s->jH P w A (pyIter (.ref it)) Q E s
abbrev TI:=St->Hp->(It->Hp->Prop)->Prop
def PIE (X:Cx) (cL:cn) (O:St) (tg:cG) (R:It->Hp->Prop) (Z8:cy) (s2:cz):Prop:=
 ∃(it:cF) (fp:List cF) (tn:Nat->Heap->Prop) (J:It) (H':Hp),Z8=.ref it/\η X cL O H' s2/\Turn X.γ X.w X.K tg J fp it tn/\tn 0 s2.heap/\(∀b∈fp,yQ X cL H' b)/\R J H'
def PI (X:Cx) (tg iter:cG) (wi:TI):Prop:=
 ∀(cL:cn) (s:cz) (O:St) (H:Hp) (R:It->Hp->Prop),η X cL O H s->wi O H R->
  X.mO (eval iter X.e) (λv s1=>X.mO (pyIter v) (PIE X cL O tg R) X.xe s1) X.xe s
def Om (ho:s.heap.get? it=some o) (hc:o.cls=.type n) (hd:o.data=.fields vs) (hn:["enumerate","zip","dict_itemiterator","dict_reverseitemiterator","odict_iterator","itertools.zip_longest","itertools.pairwise"].contains n=false) (hQ:Q () s):wpAny M A (letOwnedTupleGo tg (.ref it) u) Q E s:=by
 unfold letOwnedTupleGo;cases tg<;>first
  |exact ak hQ
  |(cases u<;>first
    |exact ak hQ
    |(refine aa (wpAny_load ho ?_)
      rw[hc,hd];show wpAny M A (if(["enumerate","zip","dict_itemiterator","dict_reverseitemiterator","odict_iterator","itertools.zip_longest","itertools.pairwise"].contains n&&vs[0]? ==some (rawInt _))=true then _ else _) Q E s
      rw[if_neg (by intro h;rw[hn,Bool.false_and]at h;cases h)]
      exact ak hQ))
noncomputable def Itl (K:W.Frag) (a:cF):It:=
 ⟨λi H=>∃xs x,ua K H a xs/\xs[i]? =some x,λi H x H'=>H'=H/\∀xs,ua K H a xs->xs[i]? =some x,λi H=>∃xs,ua K H a xs/\xs.length<=i⟩
noncomputable def Itt (K:W.Frag) (a:cF):It:=
 ⟨λi H=>∃xs x,lr K H a xs/\xs[i]? =some x,λi H x H'=>H'=H/\∀xs,lr K H a xs->xs[i]? =some x,λi H=>∃xs,lr K H a xs/\xs.length<=i⟩
noncomputable def Z9 (lo:Int) (n:Nat):It:=⟨λi _=>i<n,λi H x H'=>H'=H/\x=.int (lo+i),λi _=>n<=i⟩
def MK {P:cB}{w:cC}{K:W.Frag}{tg:cG}(a it:cF):Turn P w K tg (Itl K a) [it] it (λi h=>h.IsListIter it a i)where
 mem:=by simp
 obj:=λi h st b hb=>by
  have e:b=it:=by simpa using hb
  subst e;obtain⟨o,e,c,d⟩:=st;exact⟨o,e,λv z=>by rw[d]at z;cases z⟩
 keep:=λi h h' st k=>st.at λo e=>k it (by simp) o e
 item:=by
  intro X hP hw hK hc i cL s O H E I hf st hg;subst hP hw hK;obtain⟨xs,x,hq,hx⟩:=hg;obtain⟨dE,rv,p,hz⟩:=I.list hq;obtain⟨u,hu,ru⟩:=rv.get hx;obtain⟨f0,f1,f2,f3,f4,f5⟩:=hf it (by simp)
  refine wpAny_pyNext_list_item st p.isList (x:=u) (by simpa using hu) λh' Uq sb=>?_
  have I1:η X cL O H {s with heap:=h'}:=I.turned (t':=s.toks) (λb o hb e=>(sb.2 b hb).trans e) f0 f1 f3 f4 f5
  obtain⟨o,e,c,d⟩:=id Uq;exact⟨u,rfl,Om (s:={s with heap:=h'}) e c d (by decide) ⟨x,H,I1,ru,⟨rfl,λys hy=>by rw[I.GU hy hq];exact hx⟩,Uq,λb hb=>(hf b hb).1⟩⟩
 done:=by
  intro X hP hw hK hc i cL s O H E I hf st hg;subst hP hw hK;obtain⟨xs,hq,hx⟩:=hg;obtain⟨dE,rv,p,hz⟩:=I.list hq;obtain⟨f0,f1,f2,f3,f4,f5⟩:=hf it (by simp)
  have hl:=rv.length;exact wpAny_pyNext_list_end (I.ok.hd hc) st p.isList (by simp;omega) λh' eb=>⟨rfl,I.turned (t':=s.toks) (λb o hb e=>eb b o hb e) f0 f1 f3 f4 f5⟩
 self:=λ_ _ _ _ _ st h=>wpAny_pyIter_listiter st h
def Jn {P:cB}{w:cC}{K:W.Frag}{tg:cG}(a it:cF):Turn P w K tg (Itt K a) [it] it (λi h=>h.IsTupleIter it a i)where
 mem:=by simp
 obj:=λi h st b hb=>by
  have e:b=it:=by simpa using hb
  subst e;obtain⟨o,e,c,d⟩:=st;exact⟨o,e,λv z=>by rw[d]at z;cases z⟩
 keep:=λi h h' st k=>st.at λo e=>k it (by simp) o e
 item:=by
  intro X hP hw hK hc i cL s O H E I hf st hg;subst hP hw hK;obtain⟨xs,x,hq,hx⟩:=hg;obtain⟨dE,rv,p,hz⟩:=I.tuple hq;obtain⟨u,hu,ru⟩:=rv.get hx;obtain⟨f0,f1,f2,f3,f4,f5⟩:=hf it (by simp)
  refine wpAny_pyNext_tuple_item st (show s.heap.IsTuple a dE.toArray from p) (x:=u) (by simpa using hu) λh' Uq sb=>?_
  have I1:η X cL O H {s with heap:=h'}:=I.turned (t':=s.toks) (λb o hb e=>(sb.2 b hb).trans e) f0 f1 f3 f4 f5
  obtain⟨o,e,c,d⟩:=id Uq;exact⟨u,rfl,Om (s:={s with heap:=h'}) e c d (by decide) ⟨x,H,I1,ru,⟨rfl,λys hy=>by rw[I.yP hy hq];exact hx⟩,Uq,λb hb=>(hf b hb).1⟩⟩
 done:=by
  intro X hP hw hK hc i cL s O H E I hf st hg;subst hP hw hK;obtain⟨xs,hq,hx⟩:=hg;obtain⟨dE,rv,p,hz⟩:=I.tuple hq;obtain⟨f0,f1,f2,f3,f4,f5⟩:=hf it (by simp)
  have hl:=rv.length;exact wpAny_pyNext_tuple_end (I.ok.hd hc) st (show s.heap.IsTuple a dE.toArray from p) (by simp;omega) λh' eb=>⟨rfl,I.turned (t':=s.toks) (λb o hb e=>eb b o hb e) f0 f1 f3 f4 f5⟩
 self:=λ_ _ _ _ _ st h=>wpAny_pyIter_tupleiter st h
def Jo {P:cB}{w:cC}{K:PySem.W.Frag}{tg:cG}(it:cF) (lo:Int) (n:Nat):Turn P w K tg (Z9 lo n) [it] it (λi h=>IsRangeIter h it (lo+(i:Nat)*1) ((n:Int)-(i:Nat)) 1)where
 mem:=by simp
 obj:=λi h st b hb=>by
  have e:b=it:=by simpa using hb
  subst e;exact⟨_,st,λv z=>by
   have z':Data.fields _=Data.cell v:=z;cases z'⟩
 keep:=λi h h' st k=>k it (by simp) _ st
 item:=by
  intro X hP hw hK hc i cL s O H E I hf st hg;subst hP hw hK;obtain⟨f0,f1,f2,f3,f4,f5⟩:=hf it (by simp)
  have W:=Walks.range (prog:=X.γ) (w:=X.w) (I.ok.hd hc) it lo 1 n;refine W.item i s _ _ hg st λv h' tk hv Uq kk=>?_
  obtain⟨t,rfl⟩:=hv;have I1:η X cL O H {s with heap:=h',toks:=tk}:=I.turned (λb o hb e=>kk b o (by simpa using hb) e) f0 f1 f3 f4 f5
  refine⟨_,rfl,Om (s:={s with heap:=h',toks:=tk}) (n:="range_iterator") Uq rfl rfl (by decide) ⟨.int (lo+i),H,I1,⟨t,?_⟩,⟨rfl,rfl⟩,Uq,λb hb=>(hf b hb).1⟩⟩
  rw[Int.mul_one]
 done:=by
  intro X hP hw hK hc i cL s O H E I hf st hg;subst hP hw hK;obtain⟨f0,f1,f2,f3,f4,f5⟩:=hf it (by simp)
  exact wpAny_pyNext_range_end (I.ok.hd hc) st (by have:n<=i:=hg;omega) λh' eb=>⟨rfl,I.turned (t':=s.toks) (λb o hb e=>eb b o hb e) f0 f1 f3 f4 f5⟩
 self:=λ_ _ _ _ _ st h=>wpAny_pyIter_rangeiter st h
def X3 (K:W.Frag) (tl:TE):TI:=λO H R=>tl O H λx H1=>∃a,x=.ref a/\(∃xs,ua K H1 a xs)/\R (Itl K a) H1
def aa7 (K:W.Frag) (tl:TE):TI:=λO H R=>tl O H λx H1=>∃a,x=.ref a/\(∃xs,lr K H1 a xs)/\R (Itt K a) H1
def Lf (hl:PE X l tl):PI X tg l (X3 X.K tl):=by
 intro cL s O H R I h;refine pH (hl cL s O H _ I h) λv s1 x H1 I1 r1 q1=>?_
 obtain⟨a,e,⟨xs,hq⟩,q⟩:=q1;subst e;cases r1;obtain⟨dE,rv,p,hz⟩:=I1.list hq;refine wpAny_pyIter_list p.isList ?_;refine⟨s1.dN,[s1.dN],_,_,H1,rfl,I1.kept (t':=s1.toks) λb o e=>ag _ e,MK a _,⟨_,aB _ rfl,rfl,rfl⟩,λb hb=>?_,q⟩
 have e:b=s1.dN:=by simpa using hb
 subst e;exact I1.Jm (av _) (I1.fU.fresh (av _))
def Vv (hl:PE X l tl):PI X tg l (aa7 X.K tl):=by
 intro cL s O H R I h;refine pH (hl cL s O H _ I h) λv s1 x H1 I1 r1 q1=>?_
 obtain⟨a,e,⟨xs,hq⟩,q⟩:=q1;subst e;cases r1;obtain⟨dE,rv,p,hz⟩:=I1.tuple hq;refine wpAny_pyIter_tuple (show s1.heap.IsTuple a dE.toArray from p) ?_
 refine⟨s1.dN,[s1.dN],_,_,H1,rfl,I1.kept (t':=s1.toks) λb o e=>ag _ e,Jn a _,⟨_,aB _ rfl,rfl,rfl⟩,λb hb=>?_,q⟩
 have e:b=s1.dN:=by simpa using hb
 subst e;exact I1.Jm (av _) (I1.fU.fresh (av _))
def Oo {lo hi:Int}(I:η X cL O H s) (h1: -(2^62)<=lo) (h2:lo<2^62) (h3: -(2^62)<=hi) (h4:hi<2^62) (q:R (Z9 lo (hi-lo).toNat) H):X.mO (pyIter (.ref s.dN)) (PIE X cL O tg R) E {s with heap:=s.heap.push {cls:=.type "range",data:=.fields #[.int lo t,.int hi u,.int 1 v]},toks:=tk}:=by
 refine wpAny_pyIter_range (IsRange.new ..) (small_one h1 h2 h3 h4) ?_;have I1:η X cL O H {s with heap:=s.heap.push {cls:=.type "range",data:=.fields #[.int lo t,.int hi u,.int 1 v]},toks:=tk}:=I.kept λb o e=>ag _ e
 refine⟨(s.heap.push {cls:=.type "range",data:=.fields #[.int lo t,.int hi u,.int 1 v]}).objs.size,[(s.heap.push {cls:=.type "range",data:=.fields #[.int lo t,.int hi u,.int 1 v]}).objs.size],_,_,H,rfl,
  I1.kept (t':=tk) λb o e=>ag _ e,Jo _ lo (hi-lo).toNat,?_,λb hb=>?_,q⟩
 .have e1:lo+((0:Nat):Int)*1=lo:=by simp
  have e2:(((hi-lo).toNat:Nat):Int)-((0:Nat):Int)=Builtin.Range.rangeSize lo hi 1:=by rw[rangeSize_one];split<;>omega
  show IsRangeIter _ _ (lo+((0:Nat):Int)*1) ((((hi-lo).toNat:Nat):Int)-((0:Nat):Int)) 1;rw[e1,e2];exact aB _ rfl
 .have e:b=(s.heap.push {cls:=.type "range",data:=.fields #[.int lo t,.int hi u,.int 1 v]}).objs.size:=by simpa using hb
  subst e;exact I1.Jm (av _) (I1.fU.fresh (av _))
def X4 (ta:TA):TI:=λO H R=>ta O H λvs H1=>∃j:Int,vs=[.int j]/\-(2^62)<=j/\j<2^62/\R (Z9 0 j.toNat) H1
def ML (hg:Gl X "range") (hm:X.mg "range"=none) (ha:PA X [a] ta) (hs:starEach [a] X.e=[(false,eval a X.e)]:=by rfl):PI X tg (.Call (.Name "range" p) [a] [] pos) (X4 ta):=by
 intro cL s O H R I h;refine Call_ (oi I hg hm boot_range (PyProof.Rows.callWith_type1 (N1 (ha pos cL s O H _ I h) λus s1 vs H1 I1 r1 q1=>?_) hs rfl))
 obtain⟨j,e,q1,q2,q⟩:=q1;subst e;cases r1 with
 |cons r rr=>
  cases rr;obtain⟨t,rfl⟩:=r;exact call_range_1 (Oo I1 (by omega) (by omega) q1 q2 (by simpa using q))
def aa8 (wi:TI) (g:TG) (tb:TS):TS:=λD O H=>wi O H λJ H1=>∃W:Nat->Nat->St->Hp->Prop,(∃m,W 0 m O H1)/\∀i m O H,W i m O H->
 (J.stop i H/\D.nx O H)\/(J.go i H/\∃N:St->Hp->Prop,(∀σ' H',N σ' H'->∃m',m'<m/\W (i+1) m' σ' H')/\∀x H',J.R6 i H x H'->g x O H' λσ2 H2=>tb {D with nx:=N,ct:=N,bk:=D.nx} σ2 H2)
noncomputable def Bj (fp:List cF) (h:Heap):cn:=fp.filterMap λb=>(h.get? b).map λo=>(b,o)
def rK (hb:b∈fp) (e:h.get? b=some o):(b,o)∈Bj fp h:=mem_filterMap.mpr ⟨b,hb,by rw[e];rfl⟩
def MM (hp:p∈Bj fp h):p.1∈fp/\h.get? p.1=some p.2:=by
 obtain⟨b,hb,e⟩:=mem_filterMap.mp hp;cases q:h.get? b with
 |none=>rw[q]at e;cases e
 |some o=>
  rw[q]at e;have e':(b,o)=p:=aT e;subst e';exact⟨hb,q⟩
def η.pinned (I:η X cL O H s) (hf:∀b∈fp,yQ X cL H b) (ho:∀b∈fp,∃o,s.heap.get? b=some o/\∀v,o.data≠.cell v):η X (cL++Bj fp s.heap) O H s:=
 I.rJ λp hp=>(mem_append.mp hp).elim (λz=>I.pin p (aM _ z)) λz=>by
  obtain⟨hb,e⟩:=MM z;obtain⟨f0,f1,f2,_⟩:=hf p.1 hb;obtain⟨o,e',d⟩:=ho p.1 hb;rw[e]at e';cases e';exact⟨e,f0,f1,f2,d⟩
def η.xk (I:η X (cL++pl) O H s):η X cL O H s:=I.rJ λp hp=>I.pin p (aM _ (bE _ hp))
def Oq (hp:PassesOwn (model X.γ X.w) X.A X.e X.xe) (hc:X.calm=true) (hi:PI X tg iter wi) (hg:PG X tg g) (hb:Df X body tb) (hs:∀x,foldedSetIterable iter X.e x=pure x:=by intro _;rfl):PS X (.For tg iter body [] pos) (aa8 wi g tb):=by
 intro cL s O H D I h;refine wpAny_For (xc (hi cL s O H _ I h) λv s1 h1=>xc h1 λZ8 s2 h2=>?_) hs
 obtain⟨it,fp,tn,J,H2,e,I2,T,RQ,f2,W,⟨m0,w0⟩,turn⟩:=h2;subst e;have Jp:∀{H':Hp},(∀b∈fp,H' b=none)->∀b∈fp,yQ X cL H' b:=λhn b hb=>⟨hn b hb,(f2 b hb).2⟩
 refine codeAny_forLoop_any (λn s'=>∃i σ' H',η X cL σ' H' s'/\tn i s'.heap/\(∀b∈fp,H' b=none)/\W i n σ' H') ?_ m0 ⟨0,O,H2,I2,RQ,λb hb=>(f2 b hb).1,w0⟩
 rintro n s3 ⟨i,σ3,H3,I3,X5,X6,w3⟩
 rcases turn i n σ3 H3 w3 with⟨stop,qn⟩|⟨go,N,hN,step⟩
 .refine wpAny_passesOwn hp (xc (T.done X rfl rfl rfl hc i cL s3 σ3 H3 X.xe I3 (Jp X6) X5 stop) λr s4 ⟨hr,I4⟩=>?_)
  subst hr;exact wpAny_execs_nil ⟨σ3,H3,I4,qn⟩
 .refine wpAny_passesOwn hp (xc (T.item X rfl rfl rfl hc i cL s3 σ3 H3 X.xe I3 (Jp X6) X5 go) λr s4 ⟨u,hr,h4⟩=>?_)
  subst hr;refine wpAny_passesOwn hp (xc h4 λ_ s5 ⟨x,H5,I5,r5,y5,Vw,fr5⟩=>?_)
  have I5':=I5.pinned (Jp fr5) (T.obj _ _ Vw);refine wpAny_passesOwn hp (xc (hg _ s5 σ3 H5 x u _ I5' r5 (step x H5 y5)) λ_ s6 ⟨σ6,H6,I6,q6⟩=>?_)
  refine wpAny_passesOwn hp (xc (hb _ s6 σ6 H6 _ I6 q6) λf s7 q7=>?_)
  have again:∀{σ7:St}{H7:Hp},η X (cL++Bj fp s5.heap) σ7 H7 s7->N σ7 H7->∃m,m<n/\∃i σ' H',η X cL σ' H' s7/\tn i s7.heap/\(∀b∈fp,H' b=none)/\W i m σ' H':=λ{σ7 H7} I7 n7=>by
   obtain⟨m',hm,w7⟩:=hN σ7 H7 n7;refine⟨m',hm,i+1,σ7,H7,I7.xk,T.keep _ _ _ Vw λb hb o e=>(I7.pin (b,o) (aM _ (aM _ (rK hb e)))).1,λb hb=>?_,w7⟩
   obtain⟨o,e,d⟩:=T.obj _ _ Vw b hb;exact(I7.pin (b,o) (aM _ (aM _ (rK hb e)))).2.1
  cases f with
  |next=>obtain⟨σ7,H7,I7,n7⟩:=q7;exact again I7 n7
  |cont=>obtain⟨σ7,H7,I7,n7⟩:=q7;exact again I7 n7
  |brk=>obtain⟨σ7,H7,I7,q7⟩:=q7;exact⟨σ7,H7,I7.xk,q7⟩
  |ret v=>obtain⟨x7,σ7,H7,I7,r7,q7⟩:=q7;exact⟨x7,σ7,H7,I7.xk,r7,q7⟩
abbrev R2:=V->V->Hp->VK->Prop
def xl (X:Cx) (f:cy->cy->Sem cy) (r:R2):Prop:=
 ∀(cL:cn) (s:cz) (O:St) (H:Hp) (x y:V) (v u:cy) (Q:VK),η X cL O H s->ι x v->ι y u->r x y H Q->
  X.mO (f v u) (EP X cL O Q) X.xe s
def UnR (X:Cx) (f:cy->Sem cy) (r:V->Hp->VK->Prop):Prop:=
 ∀(cL:cn) (s:cz) (O:St) (H:Hp) (x:V) (v:cy) (Q:VK),η X cL O H s->ι x v->r x H Q->
  X.mO (f v) (EP X cL O Q) X.xe s
def jT (X:Cx) (f:cy) (r:List V->Hp->VK->Prop):Prop:=
 ∀(cL:cn) (s:cz) (O:St) (H:Hp) (xs:List V) (us:cx) (Q:VK),η X cL O H s->θ xs us->r xs H Q->
  X.mO (call f us) (EP X cL O Q) X.xe s
def abc (X:Cx) (r:V->Hp->(Bool->Hp->Prop)->Prop):Prop:=
 ∀(cL:cn) (s:cz) (O:St) (H:Hp) (x:V) (v:cy) (Q:Bool->Hp->Prop),η X cL O H s->ι x v->r x H Q->
  X.mO (truthy v) (TP X cL O Q) X.xe s
def X7 (r:R2) (ta tb:TE):TE:=λO H Q=>ta O H λx H1=>tb O H1 λy H2=>r x y H2 Q
def tUn (r:V->Hp->VK->Prop) (ta:TE):TE:=λO H Q=>ta O H λx H1=>r x H1 Q
noncomputable def rI (C:Int->Int->Prop) (g:Int->Int->V):R2:=λx y H Q=>∃i j,x=.int i/\y=.int j/\C i j/\Q (g i j) H
noncomputable def R7 (g:Int->Int->V):R2:=λx y H Q=>∃i j,x=.int i/\y=.int j/\Q (g i j) H
def rU (g:Int->V):V->Hp->VK->Prop:=λx H Q=>∃i,x=.int i/\Q (g i) H
def Vx (ha:PE X a ta) (hb:PE X b tb) {R:V->V->Hp->Prop}(I:η X cL O H s) (h:ta O H λx H1=>tb O H1 λy H2=>R x y H2) {f:cy->cy->Sem cy}(hf:∀v u s2 x y H2,η X cL O H2 s2->ι x v->ι y u->R x y H2->X.mO (f v u) Q X.xe s2):X.mO (eval a X.e) (λv s₁=>X.mO (eval b X.e) (λu s₂=>X.mO (f v u) Q X.xe s₂) X.xe s₁) X.xe s:=by
 refine pH (ha cL s O H _ I h) λv s1 x H1 I1 r1 q1=>?_
 refine pH (hb cL s1 O H1 _ I1 q1) λu s2 y H2 I2 r2 q2=>?_
 exact hf v u s2 x y H2 I2 r1 r2 q2
def Ur (ho:xl X (binaryOp op) r) (ha:PE X a ta) (hb:PE X b tb):PE X (.BinOp a op b pos) (X7 r ta tb):=by
 intro cL s O H Q I h;exact wpAny_BinOp (Vx ha hb I h λv u s2 x y H2 I2 rx ry q=>ho cL s2 O H2 x y v u Q I2 rx ry q)
def Us (ho:UnR X (unaryOp op) r) (ha:PE X a ta):PE X (.UnaryOp op a pos) (tUn r ta):=by
 intro cL s O H Q I h;exact UnaryOp_ (pH (ha cL s O H _ I h) λv s1 x H1 I1 r1 q1=>ho cL s1 O H1 x v Q I1 r1 q1)
def opI {g:Int->Int->Int}(rule:∀(i j:Int) (t u:Tok) (s:cz) (Q:cj) (E:cj),C i j->Q (.int (g i j) s.toks) {s with toks:=s.toks+1}->X.mO (f (.int i t) (.int j u)) Q E s):xl X f (rI C λi j=>.int (g i j)):=by
 intro cL s O H x y v u Q I rx ry h;obtain⟨i,j,rfl,rfl,hc,q⟩:=h;obtain⟨t,rfl⟩:=rx;obtain⟨t',rfl⟩:=ry;exact rule i j t t' s _ _ hc ⟨.int (g i j),H,I.tok _,⟨_,rfl⟩,q⟩
def X8 {g:Int->Int->Int}(rule:∀(i j:Int) (t u:Tok) (s:cz) (Q:cj) (E:cj),Q (.int (g i j) s.toks) {s with toks:=s.toks+1}->X.mO (f (.int i t) (.int j u)) Q E s):xl X f (R7 λi j=>.int (g i j)):=by
 intro cL s O H x y v u Q I rx ry h;obtain⟨i,j,rfl,rfl,q⟩:=h;obtain⟨t,rfl⟩:=rx;obtain⟨t',rfl⟩:=ry;exact rule i j t t' s _ _ ⟨.int (g i j),H,I.tok _,⟨_,rfl⟩,q⟩
def R8 {g:Int->Int->Bool}(rule:∀(i j:Int) (t u:Tok) (s:cz) (Q:cj) (E:cj),Q (.bool (g i j)) s->X.mO (f (.int i t) (.int j u)) Q E s):xl X f (R7 λi j=>.bl (g i j)):=by
 intro cL s O H x y v u Q I rx ry h;obtain⟨i,j,rfl,rfl,q⟩:=h;obtain⟨t,rfl⟩:=rx;obtain⟨t',rfl⟩:=ry;exact rule i j t t' s _ _ ⟨.bl (g i j),H,I,rfl,q⟩
def X9 (i j:Int):Prop:=0<j/\j<1073741824
def R9 (i j:Int):Prop:=(-(2^64)<i/\i<2^64)\/(-(2^64)<j/\j<2^64)
def R9.ok (h:R9 i j):IntMulOk i j:=by
 rcases h with⟨h1,h2⟩|⟨h1,h2⟩
 .exact .of_left (intBits_le_64 h1 h2)
 .exact .of_right (intBits_le_64 h1 h2)
def Ot:xl X (binaryOp .Add) (R7 λi j=>.int (i+j)):=X8 λ_ _ _ _ _ _ _ q=>add_int q
def Vy:xl X (binaryOp .Sub) (R7 λi j=>.int (i-j)):=X8 λ_ _ _ _ _ _ _ q=>sub_int q
def Vz:xl X (binaryOp .Mult) (rI R9 λi j=>.int (i*j)):=opI λ_ _ _ _ _ _ _ hc q=>mul_int q hc.ok
def Sa:xl X (binaryOp .FloorDiv) (rI X9 λi j=>.int (i/j)):=opI λi j _ _ _ _ _ hc q=>by
 have h1:(0:Int)<j:=hc.1;have h2:j<1073741824:=hc.2;exact floordiv_int (by omega) (by rw[Int.fdiv_eq_ediv_of_nonneg i (by omega)];exact q) (.inl (PyProof.noPylong_small (by omega)))
def VA:xl X (binaryOp .Mod) (rI (λ_ j=>0<j) λi j=>.int (i%j)):=opI λi j _ _ _ _ _ hc q=>by
 have h1:(0:Int)<j:=hc;exact mod_int' (by omega) (by rw[Int.fmod_eq_emod_of_nonneg i (by omega)];exact q)
def unI {g:Int->Int}(rule:∀(i:Int) (t:Tok) (s:cz) (Q:cj) (E:cj),Q (.int (g i) s.toks) {s with toks:=s.toks+1}->X.mO (f (.int i t)) Q E s):UnR X f (rU λi=>.int (g i)):=by
 intro cL s O H x v Q I rx h;obtain⟨i,rfl,q⟩:=h;obtain⟨t,rfl⟩:=rx;exact rule i t s _ _ ⟨.int (g i),H,I.tok _,⟨_,rfl⟩,q⟩
def Ou:UnR X (unaryOp .USub) (rU λi=>.int (-i)):=unI λ_ _ _ _ _ q=>neg_int q
section
variable {b c:cG}{ta tb tc:TE}
def Ov (I:η X cL O H s) (q:Q (.bl k) H) (e:k=k'):EP X cL O Q (.bool k') s:=by
 subst e;exact⟨.bl k,H,I,rfl,q⟩
def Yb:xl X (compareOp .Lt) (R7 λi j=>.bl (decide (i<j))):=R8 λ_ _ _ _ _ _ _ q=>lt_int q
def Yc:xl X (compareOp .LtE) (R7 λi j=>.bl (decide (i<=j))):=R8 λ_ _ _ _ _ _ _ q=>le_int q
def Yd:xl X (compareOp .Gt) (R7 λi j=>.bl (decide (j<i))):=R8 λ_ _ _ _ _ _ _ q=>gt_int q
def Ye:xl X (compareOp .GtE) (R7 λi j=>.bl (decide (j<=i))):=R8 λ_ _ _ _ _ _ _ q=>ge_int q
def VB:xl X (compareOp .Is) (λx y H Q=>y=.eZ/\Q (.bl (decide (x=.eZ))) H):=by
 intro cL s O H x y v u Q I rx ry h;obtain⟨rfl,q⟩:=h;cases ry;refine is_none_gen (Ov I q ?_);cases x<;>first
  |(cases rx;rfl)
  |(obtain⟨t,rfl⟩:=rx;rfl)
def Sb:xl X (compareOp .IsNot) (λx y H Q=>y=.eZ/\Q (.bl (!decide (x=.eZ))) H):=by
 intro cL s O H x y v u Q I rx ry h;obtain⟨rfl,q⟩:=h;cases ry;refine isnot_none_gen (Ov I q ?_);cases x<;>first
  |(cases rx;rfl)
  |(obtain⟨t,rfl⟩:=rx;rfl)
def xl.or (h:xl X f r) (h':xl X f r'):xl X f (λx y H Q=>r x y H Q\/r' x y H Q):=by
 intro cL s O H x y v u Q I rx ry q;rcases q with q|q
 .exact h cL s O H x y v u Q I rx ry q
 .exact h' cL s O H x y v u Q I rx ry q
theorem Bk (b:cG) (h:op≠.In:=by decide) (h2:op≠.NotIn:=by decide):behindInMarks op b=false:=by
 have e1:(op==CmpOp.In)=false:=by cases op<;>first|rfl|exact absurd rfl h
 have e2:(op==CmpOp.NotIn)=false:=by cases op<;>first|rfl|exact absurd rfl h2
 cases b<;>simp[behindInMarks,e1,e2]
def Sd (ho:xl X (compareOp op) r) (ha:PE X a ta) (hb:PE X b tb) (hm:behindInMarks op b=false):PE X (.Compare a [op] [b] pos) (X7 r ta tb):=by
 intro cL s O H Q I h;exact wpAny_Compare1 (Vx ha hb I h λv u s2 x y H2 I2 rx ry q=>ho cL s2 O H2 x y v u Q I2 rx ry q) hm
def Yg (t:TE):TT:=λO H Q=>t O H λx H'=>∃k,x=.bl k/\Q k H'
def Fd (ho:xl X (compareOp op) r) (ha:PE X a ta) (hb:PE X b tb) (hm:behindInMarks op b=false):PT X (.Compare a [op] [b] pos) (Yg (X7 r ta tb)):=by
 intro cL s O H Q I h;refine wpAny_isTrue_Compare1 (pH (ha cL s O H _ I h) λv s1 x H1 I1 r1 q1=>pH (hb cL s1 O H1 _ I1 q1) λu s2 y H2 I2 r2 q2=>
  pH (ho cL s2 O H2 x y v u _ I2 r1 r2 q2) λc s3 z H3 I3 r3 ⟨k,e,q3⟩=>?_) hm
 subst e;cases r3;exact bR ⟨H3,I3,q3⟩
def Ox (r r':R2) (ta tb tc:TE):TE:=λO H Q=>ta O H λx H1=>tb O H1 λy H2=>r x y H2 λz H3=>∃k,z=.bl k/\
 (if k=true then tc O H3 λw' H4=>r' y w' H4 Q else Q (.bl false) H3)
def Oy (ho:xl X (compareOp op) r) (vF:xl X (compareOp Xk) r') (ha:PE X a ta) (hb:PE X b tb) (hc:PE X c tc) (hm:lastMarks [op,Xk] [b,c]=false:=by with_unfolding_all rfl):PE X (.Compare a [op,Xk] [b,c] pos) (Ox r r' ta tb tc):=by
 intro cL s O H Q I h;refine Compare_chain (pH (ha cL s O H _ I h) λv s1 x H1 I1 r1 q1=>chain_link (pH (hb cL s1 O H1 _ I1 q1) λu s2 y H2 I2 r2 q2=>
  pH (ho cL s2 O H2 x y v u _ I2 r1 r2 q2) λd s3 z H3 I3 r3 ⟨k,e,q3⟩=>?_)) hm
 subst e;cases r3;refine bR ?_;cases k with
 |false=>exact ite_ff ⟨.bl false,H3,I3,rfl,q3⟩
 |true=>exact ite_tt (chain_last (pH (hc cL s3 O H3 _ I3 q3) λw' s4 z' H4 I4 r4 q4=>vF cL s4 O H4 y z' u w' Q I4 r2 r4 q4))
def VC (K:W.Frag) (x:V) (H:Hp) (k:Bool):Prop:=
 match x with
 |.eZ=>k=false
 |.bl b=>k=b
 |.int i=>k=(i !=0)
 |.str y=>y.length<=sizeLine/\k=((y.length:Int)!=0)
 |.Xe y=>y.size<=sizeLine/\k=((y.size:Int)!=0)
 |.ref p=>(∃xs,ua K H p xs/\k= !xs.isEmpty)\/(∃xs,lr K H p xs/\k= !xs.isEmpty)\/∃ζ,H p=some (.dK ζ)/\k= !ζ.isEmpty
 |_=>False
def Jq (r:KV ζ vs):(!vs.isEmpty)= !ζ.isEmpty:=by
 cases r<;>rfl
def Bl (r:θ xs dE):(!dE.toArray.isEmpty)= !xs.isEmpty:=by
 cases r<;>simp
def yR:(sizeLine:Nat)<2^63:=by rw[bx];decide
def VD:abc X (λx H Q=>∃k,VC X.K x H k/\Q k H):=by
 intro cL s O H x v Q I rx h;obtain⟨k,e,q⟩:=h;have hl:=yR;have hs:sizeLine=16777216:=bx;cases x with
 |eZ=>
  cases rx;have e':k=false:=e;subst e';exact truthy_none ⟨H,I,q⟩
 |bl b=>
  cases rx;have e':k=b:=e;subst e';exact bR ⟨H,I,q⟩
 |int i=>
  obtain⟨t,rfl⟩:=rx;have e':k=(i !=0):=e;subst e';exact PySem.P.truthy_int ⟨H,I,q⟩
 |str y=>
  obtain⟨t,rfl⟩:=rx;obtain⟨hy,e'⟩:y.length<=sizeLine/\k=((y.length:Int)!=0):=e;subst e';exact PySem.P.truthy_str (by omega) ⟨H,I.tok _,q⟩
 |Xe y=>
  obtain⟨t,rfl⟩:=rx;obtain⟨hy,e'⟩:y.size<=sizeLine/\k=((y.size:Int)!=0):=e;subst e';exact W.truthy_bytes (by omega) ⟨H,I.tok _,q⟩
 |ref p=>
  cases rx;have e':(∃xs,ua X.K H p xs/\k= !xs.isEmpty)\/(∃xs,lr X.K H p xs/\k= !xs.isEmpty)\/∃ζ,H p=some (.dK ζ)/\k= !ζ.isEmpty:=e;rcases e' with⟨xs,hx,e'⟩|⟨xs,hx,e'⟩|⟨ζ,hx,e'⟩
  .subst e';obtain⟨dE,r,pl,hz⟩:=I.list hx;have π:=r.length;exact wpAny_truthy_list pl.isList (by simp only[au];omega) ⟨H,I.tok _,by rw[Bl r];exact q⟩
  .subst e';obtain⟨dE,r,pl,hz⟩:=I.tuple hx;have π:=r.length;exact truthy_tuple pl (by simp only[au];omega) ⟨H,I.tok _,by rw[Bl r];exact q⟩
  .subst e';obtain⟨hz,hS,vs,r,m⟩:ζ.length<=sizeLine/\(p==sysModules)=false/\∃vs,KV ζ vs/\s.heap.DictOf (gE X.γ X.w) p vs:=I.fU p _ hx;have π:ζ.length=vs.length:=Paired.length r;exact wpAny_truthy_dict hS m (by omega) ⟨H,I.tok _,by rw[Jq r];exact q⟩
 |_=>exact(show False from e).elim
def Oz (ha:PE X a ta) (he:∀whole,isTrue a X.e whole=(do let v <-whole;standAt a.pos;holding [v] (truthy v))):
  PT X a (λO H Q=>ta O H λx H'=>∃k,VC X.K x H' k/\Q k H'):=by
 intro cL s O H Q I h;exact isTrue_plain (pH (ha cL s O H _ I h) λv s1 x H1 I1 r1 q1=>VD cL s1 O H1 x v Q I1 r1 q1) (he _)
def vals1 (r:θ [x] us):∃u,us=[u]/\ι x u:=by
 cases r with
 |cons r1 r2=>cases r2;exact⟨_,rfl,r1⟩
def vals2 (r:θ [x,y] us):∃u w',us=[u,w']/\ι x u/\ι y w':=by
 cases r with
 |cons r1 r2=>
  cases r2 with
  |cons r3 r4=>cases r4;exact⟨_,_,rfl,r1,r3⟩
def MN (hc:X.calm=true):jT X (.builtin "min") (λxs H Q=>∃i j,xs=[.int i,.int j]/\Q (.int (if j<i then j else i)) H):=by
 intro cL s O H xs us Q I r h;obtain⟨i,j,rfl,q⟩:=h;obtain⟨u,w',rfl,⟨t,rfl⟩,⟨t',rfl⟩⟩:=vals2 r;refine min_two_ints (I.ok.hd hc) λh' tk k=>⟨_,H,I.kept k,?_,q⟩
 by_cases hj:j<i
 .rw[if_pos hj,if_pos hj];exact⟨_,rfl⟩
 .rw[if_neg hj,if_neg hj];exact⟨_,rfl⟩
def MO:jT X (.type "int") (λxs H Q=>(∃i,xs=[.int i]/\Q (.int i) H)\/∃k,xs=[.bl k]/\Q (.int (if k then 1 else 0)) H):=by
 intro cL s O H xs us Q I r h;rcases h with⟨i,rfl,q⟩|⟨k,rfl,q⟩
 .obtain⟨u,rfl,t,rfl⟩:=vals1 r;exact call_int_int ⟨.int i,H,I,⟨_,rfl⟩,q⟩
 .obtain⟨u,rfl,r1⟩:=vals1 r;cases r1;exact call_int_bool ⟨.int (if k then 1 else 0),H,I.tok _,⟨_,rfl⟩,q⟩
end
structure Jr (h:Heap) (x dx C:cF) (mA:cm):Prop where
 obj:h.get? x=some (W.instObj C dx)
 ns:h.Ns1 dx mA
 ne:dx≠x
def MP {h:Heap}(n:h.Ns1 dx mA):∃od,h.get? dx=some od/\∀name,W.lookIn name od=some (mA name):=by
 obtain⟨o,es,ep,ho,hd,hk,_,hm⟩:=n;refine⟨o,ho,λname=>?_⟩
 have e:=hm name;unfold nsFind findBy at e;rw[<-Array.find?_toList]at e;unfold W.lookIn;rw[hd];dsimp only;split
 .rename_i y q;rw[q]at e;exact congrArg some e
 .rename_i q;rw[q]at e;have a:es.toList.any (·.refKey)=false:=by
   rw[any_eq_false];intro y hy;obtain⟨z,t,Js⟩:=hk y (Array.mem_toList_iff.mp hy);simp[DictEntry.refKey,Js]
  have a':¬ es.toList.any (·.refKey)=true:=by rw[a];exact bc
  rw[if_neg a'];exact congrArg some e
def Jr.look (I:Jr h x dx C mA):∃od,W.InstAt h x (W.instObj C dx) C (some od)/\∀name,W.lookIn name od=some (mA name):=
 let ⟨od,ho,hl⟩:=MP I.ns
 ⟨od,⟨I.obj,rfl,rfl,ho⟩,hl⟩
section
variable {γ:cB}{w:cC}{A:cD}{E:cj}{s:cz}{K:W.Frag}{x dx C f:cF}{mA:cm}{name:Str}{v:cy}
def get_map (X:K.In s.heap) (I:Jr s.heap x dx C mA) (hg:W.plainGet K C name=true) (hh:W.hasDictIn K C=true) (ha:W.findIn K (.ref C) name=some none) (hv:mA name=some v) (OA:W.handedIn v=true) (h:Q v {s with toks:=s.toks+1}):jH γ w A (getAttr (.ref x) name expr) Q E s:=by
 obtain⟨od,J,hl⟩:=I.look;exact W.get_value X J (W.plainGet_of hg).1 (W.findObj_own hh ha rfl (by rw[hl,hv])) OA h
def OB (X:K.In s.heap) (I:Jr s.heap x dx C mA) (hg:W.plainGet K C name=true) (hf:W.findIn K (.ref C) name=some (some (.ref f))) (ht:W.isFn K (.ref f)=true) (hv:mA name=none) (h:Q (.ref f,[.ref x]) s):jH γ w A (getMethod (.ref x) name pl) Q E s:=by
 obtain⟨od,J,hl⟩:=I.look;exact W.method_fn X J (W.plainGet_of hg).1 (W.plainGet_of hg).2 hf (beq_iff_eq.mp ht) (by show(W.lookIn name od).map (·.isSome)=some false;rw[hl,hv];rfl) h
def Se (X:K.In s.heap) (I:Jr s.heap x dx C mA) (hs:W.findIn K (.ref C) "__setattr__"=some (some (.builtin "object.__setattr__"))) (hp:W.plainOver K C=true) (ht:W.takerIn K C name=some none) (hh:W.hasDictIn K C=true) (hw:PySem.Within mA ns) (hsz:ns.length<=sizeLine) (h:∀h',Jr h' x dx C (λy=>if y=name then some v else mA y)->Heap.SameBut dx s.heap h'->Q () {s with heap:=h',toks:=s.toks+2}):jH γ w A (setAttr (.ref x) name v) Q E s:=by
 obtain⟨od,J,hl⟩:=I.look;refine W.set_plain X J hs (W.osa_open (s:={s with toks:=s.toks+1}) (r:=none) X J hp ht λb=>?_)
 obtain⟨cd,hc,Um⟩:=W.any_some hh;have hx:s.heap.get? x=some ⟨.ref C,some dx,.plain,#[]⟩:=I.obj;refine aa (ak (aa (aa (wpAny_loadPart hx (aa (W.Looks.here (s:={s with toks:=s.toks+1}) (W.looks_clsIn X hc) ?_))))))
 rw[Um];refine ak (a:=some dx) (aa (ak (aa ?_)));refine wpAny_nsSet1 (s:={s with toks:=s.toks+1}) I.ns λh' Xl Yh=>?_
 obtain⟨oD,esD,epD,hoD,hdD,hcD⟩:=Xl.count (PySem.Within.cons name v hw);refine aa (wpAny_lookBehind hoD (by rw[hdD];exact pastItsLine_dict (aE hcD (by rw[az];omega))) ?_)
 exact ak (h _ ⟨(Yh.2 _ (Ne.symm I.ne)).trans I.obj,Xl,I.ne⟩ Yh)
def OD (X:K.In s.heap) (hm:W.makesIn K C=true) (hi:W.findIn K (.ref C) "__init__"=some (some (.ref f))) (hf:W.typeIn K (.ref f)=some (.type "function")) (h:codeAny (model γ w) (A.under (.builtin "type.__call__" ⟨.ref C::vs,kw⟩)) (.call (.ref f) ⟨.ref (s.dN+1)::vs,kw⟩) (W.InitBack (s.dN+1) R)
   {s with heap:=(s.heap.push W.emptyDict).push (W.instObj C s.dN)}):codeAny (model γ w) A (.call (.ref C) ⟨vs,kw⟩) R s:=by
 obtain⟨hh,g,d,t,os⟩:=s;exact W.make_core (W.makes_of X hm) (W.looks_findIn X hi) (λself=>W.bind_fn X self hf) (.inl rfl) h
end
noncomputable def rL (f:Str) (v:V):List (Str×V)->List (Str×V)
 |[]=>[(f,v)]
 |(g,x)::r=>if g=f then(g,v)::r else(g,x)::rL f v r
theorem jt (f g:Str) (v:V):∀fs:List (Str×V),(rL f v fs).lookup g=if g=f then some v else fs.lookup g
 |[]=>by
  show List.lookup g [(f,v)]=_;by_cases h:g=f
  .have hb:(g==f)=true:=beq_iff_eq.mpr h;simp only[List.lookup,hb,if_pos h]
  .have hb:(g==f)=false:=beq_eq_false_iff_ne.mpr h;simp only[List.lookup,hb,if_neg h]
 |(k,x)::r=>by
  have ih:=jt f g v r;rw[show rL f v ((k,x)::r)=(if k=f then(k,v)::r else(k,x)::rL f v r)from rfl]
  by_cases hk:k=f
  .rw[if_pos hk];by_cases h:g=k
   .have hb:(g==k)=true:=beq_iff_eq.mpr h;simp only[List.lookup,hb,if_pos (h.trans hk)]
   .have hb:(g==k)=false:=beq_eq_false_iff_ne.mpr h;simp only[List.lookup,hb,if_neg (λe:g=f=>h (e.trans hk.symm))]
  .rw[if_neg hk];by_cases h:g=k
   .have hb:(g==k)=true:=beq_iff_eq.mpr h;simp only[List.lookup,hb,if_neg (λe:g=f=>hk (h.symm.trans e))]
   .have hb:(g==k)=false:=beq_eq_false_iff_ne.mpr h;simp only[List.lookup,hb];exact ih
theorem yS (f:Str) (v:V):∀fs:List (Str×V),f∈(rL f v fs).map (·.1)/\∀g,g∈fs.map (·.1)->g∈(rL f v fs).map (·.1)
 |[]=>⟨by simp[rL],λg h=>by simp at h⟩
 |(k,x)::r=>by
  obtain⟨i1,i2⟩:=yS f v r;rw[show rL f v ((k,x)::r)=(if k=f then(k,v)::r else(k,x)::rL f v r)from rfl]
  by_cases hk:k=f
  .rw[if_pos hk];subst hk;exact⟨by simp,λg h=>by simpa using h⟩
  .rw[if_neg hk];refine⟨?_,λg h=>?_⟩
   .rw[aG];exact aj _ i1
   .rw[aG]at h ⊢;rcases mem_cons.mp h with e|e
    .exact mem_cons.mpr (.inl e)
    .exact aj _ (i2 g e)
theorem zY (f:Str) (v:V):∀fs:List (Str×V),(rL f v fs).length<=fs.length+1
 |[]=>by simp[rL]
 |(k,x)::r=>by
  have ih:=zY f v r;rw[show rL f v ((k,x)::r)=(if k=f then(k,v)::r else(k,x)::rL f v r)from rfl]
  by_cases hk:k=f
  .rw[if_pos hk,az,az];omega
  .rw[if_neg hk,az,az];omega
def uc.some_of (r:uc (some v) o):∃u,o=some u/\ι v u:=by
 cases o with
 |none=>exact(show False from r).elim
 |some u=>exact⟨u,rfl,r⟩
def uc.none_of (r:uc none o):o=none:=by
 cases o with
 |none=>rfl
 |some u=>exact(show False from r).elim
def MQ (r:ι v u):W.handedIn u=true:=by
 cases v with
 |eZ=>cases (show u=Value.none from r);rfl
 |bl b=>cases (show u=Value.bool b from r);rfl
 |int i=>obtain⟨t,e⟩:=(show ∃t,u=Value.int i t from r);cases e;rfl
 |str x=>obtain⟨t,e⟩:=(show ∃t,u=Value.str x t from r);cases e;rfl
 |Xe b=>obtain⟨t,e⟩:=(show ∃t,u=Value.bytes b t from r);cases e;rfl
 |Vf b=>obtain⟨t,e⟩:=(show ∃t,u=Value.float b t from r);cases e;rfl
 |ref a=>cases (show u=Value.ref a from r);rfl
 |ty n=>cases (show u=Value.type n from r);rfl
theorem nB (fU:vE P w H h) (e:H a=some (.ins C dx fs)):∃mA,Jr h a dx C mA/\(∀f,uc (fs.lookup f) (mA f))/\PySem.Within mA (fs.map (·.1))/\fs.length<=1000/\H dx=some (.o a):=by
 obtain⟨d,z,ne,ob,mA,n,r,q⟩:=(show iz P w H h a (.ins C dx fs)from fU a _ e)
 exact⟨mA,⟨ob,n,ne⟩,r,q,z,d⟩
structure RS (K:W.Frag) (C:cF):Prop where
 pg:W.plainGet K C Str.empty=true
 hd:W.hasDictIn K C=true
 po:W.plainOver K C=true
 sa:W.findIn K (.ref C) "__setattr__"=some (some (.builtin "object.__setattr__"))
def RS.get {K:W.Frag}(c:RS K C) (f:Str):W.plainGet K C f=true:=c.pg
def ug (K:W.Frag) (C:cF) (f:Str):Prop:=W.findIn K (.ref C) f=some none
def ug.Yi {K:W.Frag}(n:ug K C f):W.takerIn K C f=some none:=by
 unfold W.takerIn;rw[show W.findIn K (.ref C) f=some none from n]
 rfl
structure Meth (K:W.Frag) (C:cF) (m:Str) (f:cF):Prop where
 at_:W.findIn K (.ref C) m=some (some (.ref f))
 fn:W.isFn K (.ref f)=true
 kp:W.keepIn K (.ref f)=true
theorem Jt (I:η X cL O H s) (e:H a=some (.ins C dx fs)) (c:RS X.K C) (n:ug X.K C f) (l:fs.lookup f=some v) (h:∀u s',η X cL O H s'->ι v u->Q u s'):wpAny (model X.γ X.w) A (getAttr (.ref a) f b) Q E s:=by
 obtain⟨mA,O_,r,_,_,_⟩:=nB I.fU e;obtain⟨u,hu,ru⟩:=uc.some_of (v:=v) (o:=mA f) (by rw[<-l];exact r f)
 exact get_map I.AE O_ (c.get f) c.hd n hu (MQ ru) (h u _ (I.tok _) ru)
theorem Ju (I:η X cL O H s) (e:H a=some (.ins C dx fs)) (c:RS X.K C) (k:Meth X.K C m g) (l:fs.lookup m=none) (h:Q (.ref g,[.ref a]) s):wpAny (model X.γ X.w) A (getMethod (.ref a) m pl) Q E s:=by
 obtain⟨mA,O_,r,_,_,_⟩:=nB I.fU e;have hn:mA m=none:=uc.none_of (by rw[<-l];exact r m)
 exact OB I.AE O_ (c.get m) k.at_ k.fn hn h
theorem Jv (I:η X cL O H s) (e:H a=some (.ins C dx fs)) (c:RS X.K C) (n:ug X.K C f) (hl:fs.length<1000) (ry:ι y u) (h:∀s',η X cL O (ν H a (.ins C dx (rL f y fs))) s'->Q () s'):wpAny (model X.γ X.w) A (setAttr (.ref a) f u) Q E s:=by
 obtain⟨mA,O_,r,wi,_,ho⟩:=nB I.fU e;have hz:(fs.map (·.1)).length<=sizeLine:=by rw[ae,bx];omega
 refine Se I.AE O_ c.sa c.po n.Yi c.hd wi hz λh' O' sb=>h _ ?_
 have hd:∃o,h'.get? dx=some o:=let ⟨o,_,_,e',_⟩:=O'.ns;⟨o,e'⟩;refine I.write (x:=a) (e:=dx) (by rw[e];exact True.intro) (.inr ho) (λb q hb z=>(sb.2 b hb).trans z) hd ?_
 refine⟨by rw[de O_.ne];exact ho,?_,O_.ne,O'.obj,_,O'.ns,λg=>?_,λg hg=>?_⟩
 .have:=zY f y fs;omega
 .show uc ((rL f y fs).lookup g) (if g=f then some u else mA g)
  rw[jt];by_cases q:g=f
  .rw[if_pos q,if_pos q];exact ry
  .rw[if_neg q,if_neg q];exact r g
 .by_cases q:g=f
  .rw[q];exact(yS f y fs).1
  .refine(yS f y fs).2 g (wi g λz=>hg ?_)
   show(if g=f then some u else mA g)=none
   rw[if_neg q];exact z
theorem η.made (I:η X cL O H s):η X cL O (ν (ν H s.dN (.o (s.dN+1))) (s.dN+1) (.ins C s.dN []))
  {s with heap:=(s.heap.push W.emptyDict).push (W.instObj C s.dN)}:=by
 have e1:(s.heap.push W.emptyDict).get? s.dN=some W.emptyDict:=aB s.heap rfl;have e2:((s.heap.push W.emptyDict).push (W.instObj C s.dN)).get? (s.dN+1)=some (W.instObj C s.dN):=by
  have:=aB (s.heap.push W.emptyDict) (o:=W.instObj C s.dN) rfl
  rwa [Heap.size_push]at this
 have e3:(s.heap.push W.emptyDict).Ns s.dN (λ_=>none):=⟨W.emptyDict,#[],_,e1,rfl,(λe he=>absurd he (by simp)),λ_=>rfl⟩
 have I1:=I.laid (a:=s.dN) (o:=.o (s.dN+1)) (h':=s.heap.push W.emptyDict) (t':=s.toks) (λb u q=>ag _ q) (av _) ⟨_,e1⟩
 refine I1.laid (a:=s.dN+1) (o:=.ins C s.dN []) (t':=s.toks) (λb u q=>ag _ q) (Nat.le_of_eq (Heap.size_push _ _)) ?_
 have ne:s.dN≠s.dN+1:=aF (Nat.lt_succ_self _);refine⟨by rw[de ne,dk],bM _,ne,e2,λ_=>none,(Heap.Ns1.of_empty e3).at λo q=>ag _ q,λ_=>True.intro,λy hy=>absurd rfl hy⟩
theorem Sf {w:cC}{env:Env}{e:cG}{f:Str}{pos:Pos}{s:cz}{Q:cj}(hb:attributeBase e f env (eval e env)=eval e env) (h:jH γ w A (eval e env) (λo s₁=>jH γ w A (getAttr o f true) Q E s₁) E s):jH γ w A (eval (.Attribute e f pos) env) Q E s:=
 Attribute_any_ h (by rw[arm_eval_Attribute,hb])
def Yj (K:W.Frag) (ta:TE) (f:Str):TE:=λO H Q=>ta O H λx H1=>∃a C dx fs v,x=.ref a/\H1 a=some (.ins C dx fs)/\RS K C/\ug K C f/\fs.lookup f=some v/\Q v H1
def abe (K:W.Frag) (ta tv:TE) (f:Str):TS:=λD O H=>tv O H λy H1=>ta O H1 λx H2=>∃a C dx fs,x=.ref a/\H2 a=some (.ins C dx fs)/\RS K C/\ug K C f/\fs.length<1000/\
 D.nx O (ν H2 a (.ins C dx (rL f y fs)))
def Fe (he:PE X e ta) (hb:attributeBase e f X.e (eval e X.e)=eval e X.e):PE X (.Attribute e f pos) (Yj X.K ta f):=by
 intro cL s O H Q I h;refine Sf hb (pH (he cL s O H _ I h) λu s1 x H1 I1 rx ⟨a,C,dx,fs,v,ex,ea,c,n,l,q⟩=>?_)
 subst ex;obtain rfl:u=Value.ref a:=rx;exact Jt I1 ea c n l λu' s2 I2 ru=>⟨v,H1,I2,ru,q⟩
def OE (ha:PE X o ta) (hv:PE X value tv) (hs:swapsWith value (some (.Attribute o f pos')) pos.line X.e=pure false):PS X (.Assign [.Attribute o f pos'] value pos) (abe X.K ta tv f):=by
 intro cL s O H D I h;refine plainObj_wpAny_Assign_Attribute (pH (hv cL s O H _ I h) λu s1 y H1 I1 ry q=>pH (ha cL s1 O H1 _ I1 q) λov s2 x H2 I2 rx ⟨a,C,dx,fs,ex,ea,c,n,l,q2⟩=>?_) hs
 subst ex;obtain rfl:ov=Value.ref a:=rx;exact Jv I2 ea c n l ry λs3 I3=>⟨O,_,I3,q2⟩
section
variable {H:Hp}
inductive xm (K:W.Frag) (H:Hp):V->cy->Prop where
 |eZ:xm K H .eZ (.type "NoneType")
 |bl (x:Bool):xm K H (.bl x) (.type "bool")
 |int (i:Int):xm K H (.int i) (.type "int")
 |str (x:Str):xm K H (.str x) (.type "str")
 |Vf (x:UInt64):xm K H (.Vf x) (.type "float")
 |l {a:cF}{xs:List V}(e:H a=some (.l xs)):xm K H (.ref a) (.type "list")
 |zW {a:cF}{o:Obj}{xs:List V}(e:H a=some (.zW o (.l xs))):xm K H (.ref a) (.type "list")
 |t {a:cF}{xs:List V}(e:H a=some (.t xs)):xm K H (.ref a) (.type "tuple")
 |dK {a:cF}{ζ:List (Key×V)}(e:H a=some (.dK ζ)):xm K H (.ref a) (.type "dict")
 |dT {a:cF}{ζ:List (List Key×V)}(e:H a=some (.dT ζ)):xm K H (.ref a) (.type "dict")
 |ins {a C dx:cF}{fs:List (Str×V)}(e:H a=some (.ins C dx fs)) (cl:RS K C) (ha:W.findIn K (.ref C) "__class__"=some (some (.builtin "object.__class__")))
   (hn:W.specialIn K (.builtin "object.__class__") "__get__"=some (some (.builtin "getset_descriptor.__get__"))) (htk:W.takesIn K (.builtin "object.__class__")=some true)
   (hm:W.mroIn K C (.type "object")=some true):xm K H (.ref a) (.ref C)
def MR (I:η X cL O H s) (rx:ι x u) (ty:xm X.K H x t) (e:W.kitOne X.K t c=some b) (h:∀tk,Q (.bool b) {s with toks:=tk}):wpAny (model X.γ X.w) A (call (.builtin "isinstance") [u,c]) Q E s:=by
 cases ty with
 |eZ=>cases (show u=Value.none from rx);exact bW W.kitx_none I.AE True.intro e (λz=>nomatch z) h
 |bl y=>cases (show u=Value.bool y from rx);exact bW W.kitx_bool I.AE True.intro e (λz=>nomatch z) h
 |int i=>obtain⟨t,q⟩:=(show ∃t,u=Value.int i t from rx);cases q;exact bW W.kitx_int I.AE True.intro e (λz=>nomatch z) h
 |str y=>obtain⟨t,q⟩:=(show ∃t,u=Value.str y t from rx);cases q;exact bW W.kitx_str I.AE True.intro e (λz=>nomatch z) h
 |Vf y=>obtain⟨t,q⟩:=(show ∃t,u=Value.float y t from rx);cases q;exact bW W.kitx_float I.AE True.intro e (λz=>nomatch z) h
 |@l a xs ea=>
  cases (show u=Value.ref a from rx)
  obtain⟨_,_,n,_,h1⟩:=(show iz X.γ X.w H s.heap a (.l xs)from I.fU a _ ea)
  exact bW W.kitx_list I.AE ⟨_,h1,rfl⟩ e (λz=>nomatch z) h
 |@zW a ob xs ea=>
  cases (show u=Value.ref a from rx)
  obtain⟨_,_,_,n,_,h1⟩:=(show iz X.γ X.w H s.heap a (.zW ob (.l xs))from I.fU a _ ea)
  exact bW W.kitx_list I.AE ⟨_,h1,rfl⟩ e (λz=>nomatch z) h
 |@t a xs ea=>
  cases (show u=Value.ref a from rx)
  obtain⟨_,_,_,p⟩:=(show iz X.γ X.w H s.heap a (.t xs)from I.fU a _ ea)
  obtain⟨o,h1,h2,_⟩:=p;exact bW W.kitx_tuple I.AE ⟨o,h1,h2⟩ e (λz=>nomatch z) h
 |@dK a ζ ea=>
  cases (show u=Value.ref a from rx)
  obtain⟨_,_,vs,_,p⟩:=(show iz X.γ X.w H s.heap a (.dK ζ)from I.fU a _ ea)
  obtain⟨o,es,ep,h1,h2,_⟩:=p;exact bW W.kitx_dict I.AE ⟨o,h1,h2.1⟩ e (λz=>nomatch z) h
 |@dT a ζ ea=>
  cases (show u=Value.ref a from rx)
  obtain⟨_,_,xs,_,o,es,ep,h1,h2,_⟩:=(show iz X.γ X.w H s.heap a (.dT ζ)from I.fU a _ ea)
  exact bW W.kitx_dict I.AE ⟨o,h1,h2.1⟩ e (λz=>nomatch z) h
 |@ins a C dx fs ea cl ha hn htk hm=>
  cases (show u=Value.ref a from rx)
  obtain⟨mA,O_,_⟩:=nB I.fU ea;obtain⟨od,J,_⟩:=O_.look;exact bW (W.kitx_own (cl.get _) cl.hd ha hn htk hm) I.AE J e (λz=>nomatch z) h
end
structure gc (k:Nat) (A:cD):Prop where
 hd:A.handled=none
 dp:A.depth+3*k+5<recursionLimit
 un:A.units+16*k+200<cLine
 gd:A.guards=some []
def gc.mono (r:gc k A) (h:j<=k):gc j A:=⟨r.hd,by have:=r.dp;omega,by have:=r.un;omega,r.gd⟩
theorem gc.deeper (r:gc (k+1) A) (env:Env):gc k (A.deeper env):=
 ⟨r.hd,by have:=r.dp;show A.depth+1+3*k+5<_;omega,by have:=r.un;show A.units+3+16*k+200<_;omega,r.gd⟩
theorem gc.in1 {A:cD}(r:gc (k+1) A):gc k A.in1:=
 ⟨r.hd,by have:=r.dp;show A.depth+3*k+5<_;omega,by have:=r.un;show A.units+1+16*k+200<_;omega,r.gd⟩
def Jw {A:cD}:(A.under (.builtin "type.__call__" ⟨.ref C::us,kw⟩)).depth=A.depth+1:=by
 first|rfl|simp[Around.under,Code.weight,Code.isCreation,Code.isGuard,Code.isCaller,Code.frames,Code.isFrame,guardIds]
def Jx {A:cD}:(A.under (.builtin "type.__call__" ⟨.ref C::us,kw⟩)).units=A.units+1:=by
 first|rfl|simp[Around.under,Code.cUnits,Code.frames,Code.isFrame]
def GW {A:cD}{C:cF}{us:cx}:(A.under (.builtin "type.__call__" ⟨.ref C::us,kw⟩)).guards=A.guards:=by
 cases A with|mk hd d fr gs u=>cases gs<;>rfl
def gc.make (r:gc (k+1) A) (C:cF) (us:cx) (kw:List (Str×cy)):gc k (A.under (.builtin "type.__call__" ⟨.ref C::us,kw⟩)):=
 ⟨r.hd,by have:=r.dp;rw[Jw];omega,by have:=r.un;rw[Jx];omega,GW.trans r.gd⟩
theorem gc.depth (r:gc k A):A.depth<recursionLimit:=by have:=r.dp;omega
theorem gc.units {k:Nat}(r:gc k A):A.units+64<cLine:=by have:=r.un;omega
def abf:TA:=λ_ H Q=>Q [] H
def Yk (ta:TE) (tr:TA):TA:=λO H Q=>ta O H λx H1=>tr O H1 λxs H2=>Q (x::xs) H2
section
variable {e:cG}{t:TA}{pos:Pos}
def wq:PA X [] abf:=λ_ _ _ _ H Q I h=>Calls.spliced_nil ⟨[],H,I,.nil,h⟩
def kr (ha:PE X e te) (hr:PA X es t) (hs:starEach (e::es) X.e=(false,eval e X.e)::starEach es X.e:=by rfl):PA X (e::es) (Yk te t):=by
 intro pos cL s O H Q I h;rw[hs];show wpAny _ _ (spliced ((false,eval e X.e)::backTo pos (starEach es X.e))) _ _ s;refine Calls.spliced_cons (pH (ha cL s O H _ I h) λu s1 x H1 I1 r1 q1=>?_)
 exact N1 (hr pos cL s1 O H1 _ I1 q1) λus s2 xs H2 I2 r2 q2=>⟨x::xs,H2,I2,.cons r1 r2,q2⟩
def abg (t:TA):TE:=λO H Q=>t O H λxs H1=>xs.length<=sizeLine/\∀p,H1 p=none->Q (.ref p) (ν H1 p (.t xs))
def abh (t:TA):TE:=λO H Q=>t O H λxs H1=>xs.length<=sizeLine/\∀p,H1 p=none->Q (.ref p) (ν H1 p (.l xs))
def VE {x1} (h:PA X es t):PE X (.Tuple es x1 pos) (abg t):=by
 intro cL s O H Q I hq;refine wpAny_Tuple_spliced (N1 (h pos cL s O H _ I hq) λus s1 xs H1 I1 r ⟨z,q⟩=>⟨by rw[<-r.length];exact z,?_⟩)
 have hf:H1 s1.dN=none:=I1.fU.fresh (av _);refine⟨.ref s1.dN,ν H1 s1.dN (.t xs),I1.laid (t':=s1.toks) (λb u e=>ag _ e) (av _) ?_,rfl,q _ hf⟩
 exact⟨z,us,r,⟨_,aB _ rfl,rfl,_,rfl⟩⟩
def VF (h:PA X es t):PE X (.List es pos) (abh t):=by
 intro cL s O H Q I hq;refine wpAny_List_spliced (N1 (h pos cL s O H _ I hq) λus s1 xs H1 I1 r ⟨z,q⟩=>⟨by rw[<-r.length];exact z,?_⟩)
 have hf:H1 s1.dN=none:=I1.fU.fresh (av _);refine⟨.ref s1.dN,ν H1 s1.dN (.l xs),I1.laid (t':=s1.toks) (λb u e=>ag _ e) (av _) ?_,rfl,q _ hf⟩
 exact⟨z,us,0,r,aB _ rfl⟩
end
abbrev Sp:=List V->Hp->VK->XK->Prop
abbrev Sg:=List Env->Hp->cz->XK->cj
structure AF (P:cB) (w:cC) (K:W.Frag) (mg:cm) (Zc:Heap) (A:cD) (ε:List Env) (s:cz) (H:Hp):Prop where
 frames:A.frames=some ε
 mod:Mod K mg Zc
 bs:∀b o,Zc.get? b=some o->s.heap.get? b=some o/\H b=none
 NZ:Zc.objs.size<=s.dN
 ud:s.heap.FunFrames Zc ε
 RO:∀b∈Dm ε,H b=none
 fU:vE P w H s.heap
 bare:AllBare s.gens
 tb:MH K mg Zc H
def MH.un {K:W.Frag}(t:MH K mg Zc H) (u:Un fs ex H H' h h'):MH K mg Zc H':=λx c Pt pos qual hm ht=>by
 obtain⟨⟨m1,e1⟩,hr⟩:=t x c Pt pos qual hm ht;obtain⟨m2,e2⟩:=u.Dk Pt _ e1;exact⟨⟨m1++m2,by rw[e2,Array.append_assoc]⟩,hr⟩
def CE (ε:List Env) (P:cB) (w:cC) (H:Hp) (s:cz) (Q:VK) (u:cy) (s':cz):Prop:=
 ∃v H',s'.os=s.os/\AllBare s'.gens/\Un (Dm ε) [] H H' s.heap s'.heap/\vE P w H' s'.heap/\ι v u/\Q v H'
def CR (CX:Sg) (ε:List Env) (P:cB) (w:cC) (H:Hp) (s:cz) (Q:VK) (E:XK) (r:Result) (s':cz):Prop:=
 match r with
 |.ok (.ret u)=>CE ε P w H s Q u s'
 |.ok _=>False
 |.error e=>CX ε H s E e s'
structure gK (P:cB) (w:cC) (K:W.Frag) (mg:cm) (Zc:Heap) (CX:Sg) (k:Nat) (f:cF) (fd:cA) (ps:List Str) (sp:Sp):Prop where
 len:∀vs H Q E,sp vs H Q E->vs.length=ps.length
 run:∀(A:cD) (ε:List Env) (s:cz) (H:Hp) (args:Args) (us:cx) (vs:List V) (Q:VK) (E:XK),gc k A->AF P w K mg Zc A ε s H->BindsTo s fd args (ps.zip us)->θ vs us->sp vs H Q E->
  codeAny (model P w) A (.call (.ref f) args) (CR CX ε P w H s Q E) s
theorem gK.mono {K:W.Frag}(F:gK P w K mg Zc CX j f fd ps sp) (h:j<=k):gK P w K mg Zc CX k f fd ps sp:=⟨F.len,λA ε s H args us vs Q E hr=>F.run A ε s H args us vs Q E (hr.mono h)⟩
def gK.imp {K:W.Frag}(F:gK P w K mg Zc CX k f fd ps sp) (h:∀vs H Q E,sp' vs H Q E->sp vs H Q E):gK P w K mg Zc CX k f fd ps sp':=
 ⟨λvs H Q E q=>F.len vs H Q E (h _ _ _ _ q),λA ε s H args us vs Q E hr he hb hv hs=>F.run A ε s H args us vs Q E hr he hb hv (h _ _ _ _ hs)⟩
def AF.make {P:cB}{w:cC}{K:W.Frag}{Zc:Heap}{A:cD}{ε:List Env}{s:cz}{H:Hp}(e:AF P w K mg Zc A ε s H) (C:cF) (us:cx) (kw:List (Str×cy)):AF P w K mg Zc (A.under (.builtin "type.__call__" ⟨.ref C::us,kw⟩)) ε s H:=⟨by first|exact e.frames|(simpa [Around.under,Code.envs,Code.isFrame,pushEnvs]using e.frames),e.mod,e.bs,e.NZ,e.ud,e.RO,e.fU,e.bare,e.tb⟩
theorem AF.in1 {P:cB}{w:cC}{K:W.Frag}{Zc:Heap}{A:cD}{ε:List Env}{s:cz}{H:Hp}(e:AF P w K mg Zc A ε s H):AF P w K mg Zc A.in1 ε s H:=⟨e.frames,e.mod,e.bs,e.NZ,e.ud,e.RO,e.fU,e.bare,e.tb⟩
def η.Sh (I:η X cL O H s):AF X.γ X.w X.K X.mg X.Zc X.A X.stack s H:=
 ⟨I.ok.frames,I.ok.mod,I.bs,aE I.ok.NZ I.sz,I.stack,I.La,I.fU,I.bare,I.ok.tb.un I.Zc⟩
def η.after {u:cy}(I:η X cL O H s) (h:CE X.stack X.γ X.w H s Q u s'):EP X cL O Q u s':=by
 obtain⟨v,H',os,bare,un,fU,r,q⟩:=h;obtain⟨hh,g,d,t,Yl⟩:=s';obtain rfl:Yl=s.os:=os;exact⟨v,H',I.call (h':=hh) (g':=g) (d':=d) (t':=t) (ch:=[]) un fU bare (λb z=>absurd z (by simp)),r,q⟩
def Ut (sp:Sp) (Ff:List V) (E:XK) (t:TA):TE:=λO H Q=>t O H λvs H1=>sp (vs++Ff) H1 Q E
def Ym (C:cF) (m:Str) (sp:Sp) (Ff:List V) (E:XK) (ta:TE) (t:TA):TE:=λO H Q=>ta O H λx H1=>∃a dx fs,x=.ref a/\H1 a=some (.ins C dx fs)/\fs.lookup m=none/\
 t O H1 λvs H2=>sp (x::(vs++Ff)) H2 Q E
def Yn (C:cF) (sp:Sp) (Ff:List V) (E:XK) (t:TA):TE:=λO H Q=>t O H λvs H1=>∀x dx,H1 x=none->H1 dx=none->dx≠x->
 sp (.ref x::(vs++Ff)) (ν (ν H1 dx (.o x)) x (.ins C dx [])) (λv H2=>v=.eZ/\Q (.ref x) H2) E
def Binds (K:W.Frag) (fd:cA) (ps:List Str) (ds:cx):Prop:=
 ∀(s:cz) (us:cx),K.In s.heap->(us++ds).length=ps.length->BindsTo s fd ⟨us,[]⟩ (ps.zip (us++ds))
def Binds.all {K:W.Frag}{ps:List Str}(h:∀us:cx,us.length=ps.length->bindArgs fd ⟨us,[]⟩=pure (ps.zip us)):Binds K fd ps []:=λs us _ hl=>by
 rw[bD]at hl ⊢;exact .of_eq (h us hl)
def Passes (CX:Sg) (X:Cx) (E:XK):Prop:=∀(cL:cn) (O:St) (H:Hp) (s:cz) (e:cy) (s':cz),η X cL O H s->CX X.stack H s E e s'->X.xe e s'
section
variable {f C:cF}{x:Str}{e:cG}{es:List cG}
def OF (F:gK X.γ X.w X.K X.mg X.Zc CX k f fd ps sp) (hr:gc k X.A) (hb:Binds X.K fd ps ds) (hd:θ Ff ds) (hx:Passes CX X E) (I:η X cL O H s) (r:θ vs us) (h:sp (vs++Ff) H Q E):X.mO (call (.ref f) us) (EP X cL O Q) X.xe s:=by
 have r2:θ (vs++Ff) (us++ds):=r.append hd;have hl:(us++ds).length=ps.length:=by rw[<-r2.length];exact F.len _ _ _ _ h
 refine wpAny_call (codeAny_mono (F.run X.A X.stack s H ⟨us,[]⟩ (us++ds) (vs++Ff) Q E hr I.Sh (hb s us I.AE hl) r2 h) λr s' hq=>?_)
 cases r with
 |error e=>exact hx cL O H s e s' I hq
 |ok fl=>
  cases fl with
  |ret u=>exact I.after hq
  |next=>exact False.elim hq
  |brk=>exact False.elim hq
  |cont=>exact False.elim hq
abbrev _root_.cK (e:PySem.Expr) (es:List PySem.Expr) (v:PySem.Env):Prop:=PySem.starEach (e::es) v=(false,PySem.eval e v)::PySem.starEach es v
def A5 (F:gK X.γ X.w X.K X.mg X.Zc CX k f fd ps sp) (hr:gc k X.A) (hg:Gl X x) (hm:X.mg x=some (.ref f)) (hk:W.keepIn X.K (.ref f)=true) (hb:Binds X.K fd ps ds) (hd:θ Ff ds) (hx:Passes CX X E)
  (ha:PA X (e::es) t) (yT:AD x:=by decide) (he:cK e es X.e:=by rfl) (oj:A4 pos es X.e:=by rfl):
  PE X (.Call (.Name x p) (e::es) [] pos) (Ut sp Ff E t):=by
 intro cL s O H Q I h;refine wpAny_Call_Name_kw (E9 I hg hm ?_ yT);refine W.callWith_K (h₀:=X.Zc) I.ok.mod.Xg hk (N1 (ha pos cL s O H _ I h) λus s1 vs H1 I1 r q=>⟨I1.AE,?_⟩) he oj
 exact OF F hr hb hd hx I1 r q
def Si (he:PE X o ta) (c:RS X.K C) (hm:Meth X.K C m f) (F:gK X.γ X.w X.K X.mg X.Zc CX k f fd ps sp) (hr:gc k X.A) (hb:Binds X.K fd ps ds) (hd:θ Ff ds) (hx:Passes CX X E) (ha:PA X (e::es) t) (uf:cK e es X.e:=by rfl) (oj:A4 pos es X.e:=by rfl) (ht:eval (.Call (.Attribute o m apos) (e::es) [] pos) X.e=(do
   let ov <-eval o X.e
   standAt apos.atName
   let (f,first) <-holding [ov] (getMethod ov m pl)
   callWith pos f first (backTo pos (starEach (e::es) X.e)) (backToKw pos (keywordEach [] X.e))):=by rfl):PE X (.Call (.Attribute o m apos) (e::es) [] pos) (Ym C m sp Ff E ta t):=by
 intro cL s O H Q I h;refine W.methodCall_KW (pl:=pl) (pH (he cL s O H _ I h) λu s1 x H1 I1 rx ⟨a,dx,fs,ex,ea,l,q⟩=>?_) ht
 subst ex;obtain rfl:u=Value.ref a:=rx;refine Ju I1 ea c hm l ?_;refine W.callWith_K (first:=[.ref a]) (h₀:=X.Zc) I.ok.mod.Xg hm.kp (N1 (ha pos cL s1 O H1 _ I1 q) λus s2 vs H2 I2 r q2=>⟨I2.AE,?_⟩) uf oj
 exact OF (us:=.ref a::us) (vs:=.ref a::vs) F hr hb hd hx I2 (.cons rfl r) q2
structure Mk (K:W.Frag) (C f:cF):Prop where
 makes:W.makesIn K C=true
 init:W.findIn K (.ref C) "__init__"=some (some (.ref f))
 fn:W.isFn K (.ref f)=true
 kp:W.keepIn K (.ref C)=true
def OG {O:St}{H:Hp}{s:cz}{Q:VK}{us:cx}{vs:List V}(M:Mk X.K C f) (F:gK X.γ X.w X.K X.mg X.Zc CX k f fd ps sp) (hr:gc (k+1) X.A) (hb:Binds X.K fd ps ds) (hd:θ Ff ds) (hx:Passes CX X E) (I:η X cL O H s) (r:θ vs us) (h:∀x dx,H x=none->H dx=none->dx≠x->sp (.ref x::(vs++Ff)) (ν (ν H dx (.o x)) x (.ins C dx [])) (λv H2=>v=.eZ/\Q (.ref x) H2) E):X.mO (call (.ref C) us) (EP X cL O Q) X.xe s:=by
 have hq:=h (s.dN+1) s.dN (I.fU.fresh (Nat.le_succ _)) (I.fU.fresh (av _)) (aF (Nat.lt_succ_self _));have I2:=η.made (C:=C) I;have r2:θ (V.ref (s.dN+1)::(vs++Ff)) (Value.ref (s.dN+1)::(us++ds)):=.cons rfl (r.append hd);have hl:(Value.ref (s.dN+1)::us++ds).length=ps.length:=by
  have e:=r2.length;rw[F.len _ _ _ _ hq]at e;exact e.symm
 refine wpAny_call (OD (f:=f) I.AE M.makes M.init (beq_iff_eq.mp M.fn) (codeAny_mono (F.run _ X.stack _ _ ⟨Value.ref (s.dN+1)::us,[]⟩ (Value.ref (s.dN+1)::(us++ds)) _ _ E (hr.make C us [])
  (I2.Sh.make C us []) (hb _ (Value.ref (s.dN+1)::us) I2.AE hl) r2 hq) λr s' Yo=>?_))
 cases r with
 |error e=>exact hx cL O _ _ e s' I2 Yo
 |ok fl=>
  cases fl with
  |ret u=>
   obtain⟨v,H',I3,rv,ev,q3⟩:=I2.after Yo;subst ev;exact⟨rv,⟨V.ref (s.dN+1),H',I3,rfl,q3⟩⟩
  |next=>exact False.elim Yo
  |brk=>exact False.elim Yo
  |cont=>exact False.elim Yo
def Sj (M:Mk X.K C f) (F:gK X.γ X.w X.K X.mg X.Zc CX k f fd ps sp) (hr:gc (k+1) X.A) (hg:Gl X x) (hm:X.mg x=some (.ref C)) (hb:Binds X.K fd ps ds) (hd:θ Ff ds) (hx:Passes CX X E)
  (ha:PA X (e::es) t) (yT:AD x:=by decide) (he:cK e es X.e:=by rfl) (oj:A4 pos es X.e:=by rfl):
  PE X (.Call (.Name x p) (e::es) [] pos) (Yn C sp Ff E t):=by
 intro cL s O H Q I h;refine wpAny_Call_Name_kw (E9 I hg hm ?_ yT);refine W.callWith_K (h₀:=X.Zc) I.ok.mod.Xg M.kp (N1 (ha pos cL s O H _ I h) λus s1 vs H1 I1 r q=>⟨I1.AE,?_⟩) he oj
 exact OG M F hr hb hd hx I1 r q
end
structure dF (N P:List Str) (sc:Scope):Prop where
 kind:sc.kind=.function:=by rfl
 co:sc.isCoroutine=false:=by rfl
 gen:sc.isGenerator=false:=by rfl
 nd:N.Nodup:=by decide +kernel
 pre:N.take P.length=P:=by rfl
 par:∀x∈P,sc.names.lookup x=some .local\/sc.names.lookup x=some .cell:=by decide +kernel
 VG:∀y∈sc.names,y.2≠.free:=by decide +kernel
theorem Ec {kindOf:Str->Option NameKind}:∀{binds:List (Str×cy)}{m:cm},(∀v,(x,v)∉binds)->bindL kindOf binds m x=m x
 |[],_,_=>rfl
 |(n,v)::r,m,h=>by
  unfold bindL;rw[Ec λw hw=>h w (aj _ hw)]
  split
  .have:x≠n:=by rintro rfl;exact h v af
   simp[this]
  .rfl
theorem Ed {kindOf:Str->Option NameKind}:∀{binds:List (Str×cy)}{m:cm},(∀v,(x,v)∉binds)->bindC kindOf binds m x=m x
 |[],_,_=>rfl
 |(n,v)::r,m,h=>by
  unfold bindC;rw[Ed λw hw=>h w (aj _ hw)]
  split
  .rfl
  .have:x≠n:=by rintro rfl;exact h v af
   simp[this]
theorem Ee {kindOf:Str->Option NameKind}:∀{P:List Str}{vs:cx}{i:Nat}{m:cm},P.Nodup->P[i]? =some x->vs[i]? =some v->kindOf x=some .local->
  bindL kindOf (P.zip vs) m x=some v
 |[],_,_,_,_,h,_,_=>by simp at h
 |_::_,[],_,_,_,_,h,_=>by simp at h
 |p::P,w::vs,0,m,nd,h1,h2,hk=>by
  simp at h1 h2;subst h1;subst h2;show bindL kindOf ((p,w)::P.zip vs) m p=_;unfold bindL;rw[Ec λv hv=>(nodup_cons.mp nd).1 (of_mem_zip hv).1,if_pos hk]
  simp
 |p::P,w::vs,i+1,m,nd,h1,h2,hk=>by
  show bindL kindOf ((p,w)::P.zip vs) m x=_;unfold bindL;exact Ee (i:=i) (nodup_cons.mp nd).2 (by simpa using h1) (by simpa using h2) hk
theorem Ef {kindOf:Str->Option NameKind}:∀{P:List Str}{vs:cx}{i:Nat}{m:cm},P.Nodup->P[i]? =some x->vs[i]? =some v->kindOf x≠some .local->
  bindC kindOf (P.zip vs) m x=some v
 |[],_,_,_,_,h,_,_=>by simp at h
 |_::_,[],_,_,_,_,h,_=>by simp at h
 |p::P,w::vs,0,m,nd,h1,h2,hk=>by
  simp at h1 h2;subst h1;subst h2;show bindC kindOf ((p,w)::P.zip vs) m p=_;unfold bindC;rw[Ed λv hv=>(nodup_cons.mp nd).1 (of_mem_zip hv).1,if_neg hk]
  simp
 |p::P,w::vs,i+1,m,nd,h1,h2,hk=>by
  show bindC kindOf ((p,w)::P.zip vs) m x=_;unfold bindC;exact Ef (i:=i) (nodup_cons.mp nd).2 (by simpa using h1) (by simpa using h2) hk
noncomputable def start (N:List Str) (vs:List V):St:=vs.map some++replicate (N.length-vs.length) none
noncomputable def t6 (CX:Sg) (P:cB) (w:cC) (K:W.Frag) (mg:cm) (Zc:Heap) (N:List Str) (qual:Str) (scope:Scope) (f:cF) (cd:cy) (A:cD) (ε:List Env) (s:cz) (H:Hp) (E:XK):Cx where
 γ:=P
 w:=w
 K:=K
 mg:=mg
 Zc:=Zc
 A:=A.deeper (envOfC qual scope s.dN f cd)
 N:=N
 s₀:=s
 H₀:=H
 e:=envOfC qual scope s.dN f cd
 ε:=ε
 stack:=envOfC qual scope s.dN f cd::ε
 ex:=[]
 calm:=true
 fn:=λ_=>true
 pn:=[]
 xe:=λe s'=>wpAny (model P w) (A.deeper (envOfC qual scope s.dN f cd)) (leaving (envOfC qual scope s.dN f cd) e) (λ_ OH=>CX ε H s E e OH) (λe' OH=>CX ε H s E e' OH) s'
def GX {sc:Scope}(h:sc.names.lookup x=some .cell):∃c,(cellsFrom n sc.names []).lookup x=some c:=by
 have q:=W.cellsFrom_some sc.names n [] (.inl h);exact Option.isSome_iff_exists.mp q
def MS {K:W.Frag}(S:dF N ps scope) (hd:A.handled=none) (e0:AF P w K mg Zc A ε s H) (hl:vs.length=ps.length) (r:θ vs us) (x:InCallC s s.dN (bindL (envOfC qual scope s.dN f cd).kindOf (ps.zip us) λ_=>none) (cellsFrom (s.dN+1) scope.names []) (bindC (envOfC qual scope s.dN f cd).kindOf (ps.zip us) λ_=>none) s1):η (t6 CX P w K mg Zc N qual scope f cd A ε s H E) [] (start N vs) H s1:=by
 have oj:ps.length<=N.length:=by have:=congrArg List.length S.pre;rw[bK]at this;omega
 obtain⟨h1,tk,rfl,hk⟩:=x.done;have Yp:∀b:cF,b∉(t6 CX P w K mg Zc N qual scope f cd A ε s H E).ex:=λb z=>absurd (show b∈([]:List cF)from z) (by simp)
 refine⟨⟨e0.mod,S.kind,rfl,rfl,av _,λy z c h1 h2=>?_,λy hy=>?_,λy c _ h=>?_,λ_=>hd,Around.frames_deeper e0.frames,.inr ⟨rfl,rfl⟩,λb z=>absurd z (Yp b),e0.bs,e0.NZ,λb _ _=>Yp b,λb z=>absurd z (Yp b),e0.ud,e0.RO,e0.tb⟩,
  rfl,e0.bare,Un.kept hk,⟨_,x.toInCall.ns,λi y v h1 h2 h3=>?_⟩,λy c h=>⟨_,x.cell y c h⟩,e0.fU.fresh (av _),λy c h=>?_,λp hp=>absurd (show p∈([]:cn)from hp) (by simp),e0.fU.kept hk,?_⟩
 .exact name_of_addr x.apart (PySem.mem_of_lookup h1) (PySem.mem_of_lookup h2)
 .have hy:scope.names.lookup y=some .cell\/scope.names.lookup y=some .free:=hy;rcases hy with hy|hy
  .exact GX hy
  .exact absurd rfl (S.VG _ (PySem.mem_of_lookup hy))
 .exact bh (x.above y c (PySem.mem_of_lookup h))
 .have hi:i<vs.length:=by
   unfold start at h2;by_cases hi:i<vs.length
   .exact hi
   .rw[aQ (by simpa using hi)]at h2
    rw[bg]at h2;split at h2<;>cases h2
  have ha:vs[i]? =some v:=by
   unfold start at h2;rw[aK (by simpa using hi),aw]at h2
   cases e:vs[i]? with
   |none=>rw[e]at h2;cases h2
   |some a=>rw[e]at h2;cases h2;rfl
  obtain⟨u,hu,rv⟩:=r.get ha;have hp:ps[i]? =some y:=by
   rw[<-S.pre,getElem?_take_of_lt (by omega)];exact h1
  have ndP:ps.Nodup:=by rw[<-S.pre];exact S.nd.sublist (take_sublist _ _)
  refine⟨u,rv,?_⟩;rcases S.par y (bj hp)with k|k
  .exact .inl ⟨k,Ee ndP hp hu k⟩
  .obtain⟨c,e⟩:=GX (n:=s.dN+1) k;refine .inr ⟨.inl k,c,e,?_⟩;have q:=x.cell y c e;rw[Ef ndP hp hu (by show scope.names.lookup y≠_;rw[k];decide)]at q
   exact q
 .exact e0.fU.fresh (bh (x.above y c (PySem.mem_of_lookup h)))
 .unfold start;show _=N.length;rw[aR,ae,length_replicate];omega
def OI {CX:Sg}{P:cB}{w:cC}{K:W.Frag}{mg:cm}{Zc:Heap}{k:Nat}{f:cF}{name qual:Str}{params:Arguments}{body:List cH}{scope:Scope}{dV kV doc pm fC ct oc:cy}{an od:cu}{N ps:List Str}{sp:Sp}(lk:K.lookup f=some ⟨oc,od,.func (W.fnOf name qual params body scope dV kV doc pm an fC ct),Uu⟩) (vG:W.codeIn K fC qual=true) (S:dF N ps scope) (len:∀vs H Q E,sp vs H Q E->vs.length=ps.length) (gO:∀(A:cD) (ε:List Env) (s:cz) (H:Hp) (vs:List V) (Q:VK) (E:XK),gc k (A.deeper (envOfC qual scope s.dN f fC))->sp vs H Q E->
   ∃t,Df (t6 CX P w K mg Zc N qual scope f fC A ε s H E) body t/\t {nx:=λ_ H'=>Q .eZ H',rt:=Q} (start N vs) H):gK P w K mg Zc CX (k+1) f (W.fnOf name qual params body scope dV kV doc pm an fC ct) ps sp:=by
 refine⟨len,λA ε s H args us vs Q E hr e0 hb r Lg=>?_⟩
 have hl:=len _ _ _ _ Lg;have KX:K.In s.heap:=e0.mod.Xg.keeps λb o e=>(e0.bs b o e).1
 have lim:s.heap.NoLimit:=e0.mod.nolimit.keeps λb o e=>(e0.bs b o e).1
 have Yq:∀y∈ps.zip us,scope.names.lookup y.1=some .local\/(scope.names.lookup y.1=some .cell/\((cellsFrom (s.dN+1) scope.names []).lookup y.1).isSome=true):=λ⟨n,v⟩ hy=>by
  rcases S.par n (of_mem_zip hy).1 with q|q
  .exact .inl q
  .exact .inr ⟨q,W.cellsFrom_some _ _ _ (.inl q)⟩
 refine codeAny_call_function hr.depth (KX _ _ lk) rfl S.co S.gen rfl (W.codeRec_of KX vG) (hb _ _ _ _ ?_);refine wpAny_newFunctionEnv_cells S.kind Yq λenv he s1 x=>?_
 subst he;refine⟨lim.keeps x.toInCall.keep,codeAny_func ?_⟩;obtain⟨t,ht,hq⟩:=gO A ε s H vs Q E (hr.deeper _) Lg;have I:η (t6 CX P w K mg Zc N qual scope f fC A ε s H E) [] (start N vs) H s1:=MS S hr.hd e0 hl r x;refine bQ (ht [] s1 (start N vs) H _ I hq) (λfl s' hs=>?_) λe s' hs=>hs
 have fin:∀{σ':St}{H':Hp}{v:V}{u:cy},η (t6 CX P w K mg Zc N qual scope f fC A ε s H E) [] σ' H' s'->ι v u->Q v H'->CE ε P w H s Q u s':=
  λ{σ' H' v u} J rv q=>⟨v,H',J.os,J.bare,J.Zc,J.fU,rv,q⟩
 cases fl with
 |ret u=>
  obtain⟨v,σ',H',J,rv,q⟩:=hs;exact fin J rv q
 |next=>
  obtain⟨σ',H',J,q⟩:=hs;exact fin (v:=V.eZ) (u:=Value.none) J rfl q
 |brk=>
  obtain⟨_,_,_,q⟩:=hs;exact False.elim q
 |cont=>
  obtain⟨_,_,_,q⟩:=hs;exact False.elim q
section
variable {X:Cx}{x:Str}{p pos:Pos}{e:cG}{es:List cG}{t:TA}{id:String}{r:List V->Hp->VK->Prop}
def tCB (r:List V->Hp->VK->Prop) (t:TA):TE:=λO H Q=>t O H λvs H1=>r vs H1 Q
def Bm (hc:jT X (.builtin id) r) (hg:Gl X x) (hm:X.mg x=none) (hv:bootBuiltins x=some (.builtin id)) (ha:PA X (e::es) t) (hn:x≠"__name__":=by decide) (yT:AD x:=by decide)
  (he:cK e es X.e:=by rfl) (oj:A4 pos es X.e:=by rfl):PE X (.Call (.Name x p) (e::es) [] pos) (tCB r t):=by
 intro cL s O H Q I h;refine wpAny_Call_Name_kw (oi I hg hm hv ?_ hn yT);exact PyProof.Rows.callWith_builtin1 (N1 (ha pos cL s O H _ I h) λus s1 vs H1 I1 r1 q1=>hc cL s1 O H1 vs us Q I1 r1 q1) he oj
def Eg (hc:jT X (.type T) r) (hg:Gl X x) (hm:X.mg x=none) (hv:bootBuiltins x=some (.type T)) (ha:PA X (e::es) t) (hn:x≠"__name__":=by decide) (yT:AD x:=by decide)
  (he:cK e es X.e:=by rfl) (oj:A4 pos es X.e:=by rfl):PE X (.Call (.Name x p) (e::es) [] pos) (tCB r t):=by
 intro cL s O H Q I h;refine wpAny_Call_Name_kw (oi I hg hm hv ?_ hn yT);exact PyProof.Rows.callWith_type1 (N1 (ha pos cL s O H _ I h) λus s1 vs H1 I1 r1 q1=>hc cL s1 O H1 vs us Q I1 r1 q1) he oj
end
end L2
namespace HT
noncomputable def lexLt:cq->cq->Bool
 |[],[]=>false
 |[],_::_=>true
 |_::_,[]=>false
 |x::xs,y::ys=>if x=y then lexLt xs ys else decide (x<y)
def kK (x y:Int) (xs ys:cq):lexLt (x::xs) (y::ys)=if x=y then lexLt xs ys else decide (x<y):=rfl
def Dq:lexLt [] []=false:=rfl
def uh (y:Int) (ys:cq):lexLt [] (y::ys)=true:=rfl
def ui (x:Int) (xs:cq):lexLt (x::xs) []=false:=rfl
def OJ (A:cD) (s:cz) (a:Int) (t:Tok) (c:Int) (u:Tok):∃e,SeqAt.EqAt A s (.int a t) (.int c u) e/\(e=true↔a=c):=
 ⟨(a==c),SeqAt.EqAt.int_int a t c u,by simp⟩
def OK (A:cD) (s:cz) (a:Int) (t:Tok) (c:Int) (u:Tok) (γ:cB) (w:cC) (E:cj) (Q:cj) (h:Q (.bool (decide (a<c))) s):
  jH γ w A (richCompare .Lt (.int a t) (.int c u)) Q E s:=
 (PyProof.Rows.lt_int h:jH γ w A (compareOp .Lt (.int a t) (.int c u)) Q E s)
section
open PySem.SeqAt
open PySem.AutoSeq1 (wpAny_loadPart')
open PySem.MeetsSeq PySem.MeetsSeq2 PySem.MeetsSeq3
def vR (l b:cF) (items iP:Array cy) (n n2:Nat) (dd RT:cu) (sl RU:cv) (ns ms:cq) (hi:IntsAre items.toList ns) (hj:IntsAre iP.toList ms):
  Meets (Builtin.«tuple.__lt__» ⟨[.ref l,.ref b],[]⟩)
   (λ_ R s=>s.heap.get? l=some {cls:=.type "tuple",dict:=dd,data:=.seq items n,slots:=sl}/\s.heap.get? b=some {cls:=.type "tuple",dict:=RT,data:=.seq iP n2,slots:=RU}/\
    R (.ok (.ret (.bool (lexLt ns ms)))) s):=
 .of_wp λγ w A R s h=>by
  obtain⟨hp,g,d,tk,os⟩:=s;obtain⟨hl,hb,h⟩:=h;have f2:=AutoSeq1.sub_tuple_tuple;have z1:items.size=ns.length:=by rw[<-hi.length];simp
  have z2:iP.size=ms.length:=by rw[<-hj.length];simp
  wp_walk using wpAny_loadPart' hl,wpAny_loadPart' hb,wpAny_forIn_list _ (λrest b s'=>b.1=none/\s'=⟨hp,g,d,tk,os⟩/\∃(vs ws:cx) (GK Xm:cq),rest=vs.zip ws/\
   IntsAre vs GK/\IntsAre ws Xm/\GK.length+iP.size=Xm.length+items.size/\R (.ok (.ret (.bool (lexLt GK Xm)))) ⟨hp,g,d,tk,os⟩) _
  case turn=>
   rintro⟨y,x⟩ rest b s' ⟨Sk,rfl,vs,ws,GK,Xm,hz,hvi,hwi,π,hR⟩
   cases hvi with
   |nil=>rw[zip_nil_left]at hz;cases hz
   |cons a t abj=>
    cases hwi with
    |nil=>rw[zip_nil_right]at hz;cases hz
    |cons c u abk=>
     rw[zip_cons_cons]at hz;injection hz with hyx GY
     injection hyx with hy hx
     subst hy hx;rw[kK]at hR;simp only[az]at π;obtain⟨e,he,Yr⟩:=OJ A.in1 ⟨hp,g,d,tk,os⟩ a t c u;refine aa (he γ w _ _ ?_);cases e with
     |true=>
      rw[if_pos (Yr.mp rfl)]at hR
      wp_walk
      exact⟨rfl,rfl,_,_,_,_,GY,abj,abk,by omega,hR⟩
     |false=>
      rw[if_neg (λq=>absurd (Yr.mpr q) bc)]at hR
      have hri:=OK A.in1 ⟨hp,g,d,tk,os⟩ a t c u γ w
      wp_walk using hri
      exact⟨_,rfl,by simpa using hR⟩
  case fin=>
   rintro⟨b1,b2⟩ s' ⟨Sk,rfl,vs,ws,GK,Xm,hz,hvi,hwi,π,hR⟩
   simp only at Sk;subst Sk;have hv:lexLt GK Xm=decide (items.size<iP.size):=by
    cases hvi with
    |nil=>
     cases hwi with
     |nil=>
      simp only[length_nil]at π;rw[Dq];exact(aI (by omega)).symm
     |cons c u hw=>
      simp only[length_nil,az]at π;rw[uh];exact(aS (by omega)).symm
    |cons a t hv=>
     cases hwi with
     |nil=>
      simp only[length_nil,az]at π;rw[ui];exact(aI (by omega)).symm
     |cons c u hw=>
      rw[zip_cons_cons]at hz;cases hz
   rw[hv]at hR
   wp_walk
   exact⟨_,rfl,by simpa [Builtin.Tuple.tupleCompareSizes]using hR⟩
  case h=>
   exact⟨rfl,rfl,items.toList,iP.toList,ns,ms,rfl,hi,hj,by omega,h⟩
end
def Bo (hl:IsTup s.heap l items) (hb:IsTup s.heap b iP) (hi:IntsAre items.toList ns) (hj:IntsAre iP.toList ms) (hu:A.units<cLine) (h:Q (.bool (lexLt ns ms)) s):jH γ w A (compareOp .Lt (.ref l) (.ref b)) Q E s:=by
 obtain⟨⟨cls,dd,data,sl⟩,ho,hc,n,hd⟩:=id hl;obtain⟨⟨VH,RT,data2,RU⟩,Bp,xn,n2,hd2⟩:=id hb;simp only at hc hd xn hd2;subst hc hd xn hd2;exact richCompare_meets_room (op:=.Lt) ⟨_,ho,rfl⟩ ⟨_,Bp,rfl⟩ PySem.F.slot_tuple_lt PySem.F.entry_tuple_lt (PySem.F.args_tuple_lt_2 _ _) (vR l b items iP n n2 dd RT sl RU ns ms hi hj)
  ⟨ho,Bp,show Value.bool (lexLt ns ms)≠Value.notImplemented/\Q (.bool (lexLt ns ms)) s from⟨(λx=>nomatch x),h⟩⟩ hu
def Sm (ht:IsTup s.heap t vs.toArray) (hb:IsTup s.heap b ws.toArray) (hv:vs≠[]) (h1:ws=[]->Q (.ref t) s) (h2:ws≠[]->Q (.ref s.dN) {s with heap:=s.heap.push {cls:=.type "tuple",data:=.seq (vs++ws).toArray}}) (hsz:vs.length+ws.length<=sizeLine):jH γ w A (binaryOp .Add (.ref t) (.ref b)) Q E s:=by
 obtain⟨⟨cls,dd,data,sl⟩,ho,hc,n,hd⟩:=id ht;obtain⟨⟨VH,RT,data2,RU⟩,Bp,xn,n2,hd2⟩:=id hb;simp only at hc hd xn hd2;subst hc hd xn hd2;have e:vs.toArray++ws.toArray=(vs++ws).toArray:=by simp
 by_cases hw:ws=[]
 .exact concat_meets ⟨_,ho,rfl⟩ ⟨_,Bp,rfl⟩ noFill_tuple_add seq_tuple_add PySem.F.slot_tuple_add PySem.F.entry_tuple_add (PySem.F.args_tuple_add_2 _ _)
   (tuple_addW1 t b vs.toArray ws.toArray n n2 dd RT sl RU (by simpa using hv) (by simp[hw])) ⟨ho,Bp,h1 hw⟩
 .refine concat_meets ⟨_,ho,rfl⟩ ⟨_,Bp,rfl⟩ noFill_tuple_add seq_tuple_add PySem.F.slot_tuple_add PySem.F.entry_tuple_add (PySem.F.args_tuple_add_2 _ _)
   (tuple_addW2 t b vs.toArray ws.toArray n n2 dd RT sl RU (by simpa using hv) (by simpa using hw) (by rw[au,au];exact hsz)) ⟨ho,Bp,?_⟩
  rw[e];exact h2 hw
noncomputable def i6 (n d:Nat):Option Int->Nat
 |none=>d
 |some v=>if v<0 then(v+(n:Int)).toNat else min v.toNat n
def Lh (n d k:Nat):i6 n d (some (k:Int))=min k n:=by
 show(if(k:Int)<0 then((k:Int)+(n:Int)).toNat else min (k:Int).toNat n)=min k n
 rw[if_neg (by omega),Int.toNat_natCast]
def VI (n d:Nat) (hd:d<=n) (o:Option Int):i6 n d o<=n:=by
 cases o with
 |none=>exact hd
 |some v=>
  show(if v<0 then(v+(n:Int)).toNat else min v.toNat n)<=n
  by_cases hv:v<0
  .rw[if_pos hv];omega
  .rw[if_neg hv];exact Nat.min_le_right _ _
def Li (v:Int) (n d:Nat):(if v<0 then max (v+(n:Int)) 0 else min v (n:Int))=((i6 n d (some v):Nat):Int):=by
 show(if v<0 then max (v+(n:Int)) 0 else min v (n:Int))=(((if v<0 then(v+(n:Int)).toNat else min v.toNat n):Nat):Int)
 by_cases hv:v<0
 .simp only[if_pos hv];omega
 .simp only[if_neg hv];omega
def Jy (lo hi:Option Int) (n:Nat):Builtin.Slice.sliceAdjust lo hi 1 (n:Int)=(((i6 n 0 lo:Nat):Int),((i6 n n hi:Nat):Int)):=by
 have h1:¬ ((1:Int)<0):=by omega
 unfold Builtin.Slice.sliceAdjust;simp only[h1,bF];refine Prod.ext ?_ ?_
 .cases lo with
  |none=>rfl
  |some v=>exact Li v n 0
 .cases hi with
  |none=>rfl
  |some v=>exact Li v n n
def Jz (i j:Nat):Builtin.Slice.slicePlaces (i:Int) (j:Int) 1=j-i:=by
 unfold Builtin.Slice.slicePlaces;have h1:(1:Int)>0:=by omega
 simp only[h1,if_true,Int.ediv_one];split<;>omega
def oq (p:IsPart v o) (h:Q o s):jH γ w A (Builtin.Slice.slicePartIndex v) Q E s:=by
 cases p with
 |none=>exact slicePart_none h
 |int i t=>exact slicePart_int h
def qG {sl:cF}{vl vu:cy}{lo hi:Option Int}{n:Nat}(hs:s.heap.IsSliceOf sl vl vu .none) (pl:IsPart vl lo) (pu:IsPart vu hi) (h:Q (((i6 n 0 lo:Nat):Int),1,i6 n n hi-i6 n 0 lo) s):jH γ w A (Builtin.Slice.sliceApplied (.ref sl) (pure (n:Int))) Q E s:=by
 obtain⟨os,MT,Uv,MU⟩:=id hs;unfold Builtin.Slice.sliceApplied Builtin.Slice.sliceFields;refine aa (aa (wpAny_field MT MU (x:=vl) rfl (aa (wpAny_field MT MU (x:=vu) rfl (aa (wpAny_field MT MU (x:=.none) rfl (ak ?_)))))));refine aa (slicePart_none ?_);show wpAny _ _ (if((1:Int)==0)=true then _ else _) _ _ s
 rw[if_neg (by decide)]
 refine aa (oq pl (aa (oq pu (aa (ak ?_)))));show wpAny _ _ (match Builtin.Slice.sliceAdjust lo hi 1 (n:Int)with|(lo,hi)=>pure (lo,(1:Int),Builtin.Slice.slicePlaces lo hi 1)) _ _ s
 rw[Jy lo hi n];show wpAny _ _ (pure (((i6 n 0 lo:Nat):Int),(1:Int),Builtin.Slice.slicePlaces ((i6 n 0 lo:Nat):Int) ((i6 n n hi:Nat):Int) 1)) _ _ s;rw[Jz];exact ak h
def OL (xs:Array cy) (i k:Nat):((List.range k).filterMap λ(m:Nat)=>xs[((i:Int)+(m:Int)*1).toNat]?).toArray=((xs.toList.drop i).take k).toArray:=by
 have e:(λ(m:Nat)=>xs[((i:Int)+(m:Int)*1).toNat]?)=λm=>xs[i+m]? :=by
  funext m
  have:((i:Int)+(m:Int)*1).toNat=i+m:=by omega
  rw[this]
 rw[e];have:=pick_run xs i k;rw[filterMap_map]at this;have e2:((λx=>xs[x]?)∘λx=>i+x)=λm=>xs[i+m]? :=rfl
 rw[e2]at this;rw[this]
def xo {t sl:cF}{items:Array cy}{vl vu:cy}{lo hi:Option Int}(ht:IsTup s.heap t items) (hs:s.heap.IsSliceOf sl vl vu .none) (pl:IsPart vl lo) (pu:IsPart vu hi) (hw:¬ (i6 items.size 0 lo=0/\i6 items.size items.size hi=items.size)) (h:Q (.ref s.dN) {s with heap:=s.heap.push {cls:=.type "tuple",data:=.seq ((items.toList.drop (i6 items.size 0 lo)).take (i6 items.size items.size hi-i6 items.size 0 lo)).toArray}}) (hsz:items.size<=sizeLine):jH γ w A (getItem (.ref t) (.ref sl)) Q E s:=by
 have xp:sizeOk (.seq ((items.toList.drop (i6 items.size 0 lo)).take (i6 items.size items.size hi-i6 items.size 0 lo)).toArray):=by
  show((items.toList.drop (i6 items.size 0 lo)).take (i6 items.size items.size hi-i6 items.size 0 lo)).toArray.size<=sizeLine;rw[au,bK,length_drop,aO];omega
 have hj:i6 items.size items.size hi<=items.size:=VI _ _ (av _) hi;obtain⟨os,MT,Uv,MU⟩:=id hs;have Ys:s.TypeIs (.ref sl) "slice":=⟨os,MT,Uv⟩;unfold getItem;try with_reducible refine bo ?_
 first|refine aa (ak ?_)|skip
 refine aa (wpAny_sequenceKey ht.typeIs (by decide) ?_)
 refine aa (wpAny_callSpecial?_slot (name:=Str.ofString "__getitem__") ht.typeIs PyProof.Rows.slot_tuple_getitem
  (bN PyProof.Rows.slot_tuple_getitem ht.typeIs entry_tuple_getitem ?_ (args_tuple_getitem _ _)))
 show wpAny _ _ (Builtin.Tuple.tupleItemsOf (.ref t)>>=_) _ _ s;refine aa (tupleItemsOf_ ht ?_);refine aa (wpAny_typeOf Ys ?_);rw[if_pos (by decide)]
 refine aa (qG hs pl pu ?_);have Yt:¬ ((((i6 items.size 0 lo:Nat):Int)==0&&(1:Int)==1&&(i6 items.size items.size hi-i6 items.size 0 lo)==items.size)=true):=by
  intro q;rw[Bool.and_eq_true,Bool.and_eq_true]at q;have q1:((i6 items.size 0 lo:Nat):Int)=0:=eq_of_beq q.1.1;have q2:i6 items.size items.size hi-i6 items.size 0 lo=items.size:=eq_of_beq q.2;exact hw ⟨by omega,by omega⟩
 show wpAny _ _ (if(((i6 items.size 0 lo:Nat):Int)==0&&(1:Int)==1&&(i6 items.size items.size hi-i6 items.size 0 lo)==items.size)=true then _ else _) _ _ s
 rw[if_neg Yt,OL]
 first
  |exact aa (m:=Builtin.Tuple.tupleExact _) (bS (ak ⟨_,rfl,ak h⟩) xp)
  |exact aa (m:=Builtin.Tuple.tupleExact _) (bS (aa (ak (ak ⟨_,rfl,ak h⟩))) xp)
  |exact aa (aa (m:=Builtin.Tuple.tupleExact _) (bS (ak (ak ⟨_,rfl,ak h⟩)) xp))
  |exact aa (aa (m:=Builtin.Tuple.tupleExact _) (bS (ak ⟨_,rfl,ak h⟩) xp))
end HT
namespace L2
abbrev TO:=St->Hp->(Option Int->Hp->Prop)->Prop
def PO (X:Cx) (e:Option cG) (t:TO):Prop:=
 ∀(cL:cn) (s:cz) (O:St) (H:Hp) (Q:Option Int->Hp->Prop),η X cL O H s->t O H Q->
  X.mO (evalPart e X.e) (λu s'=>∃o H',η X cL O H' s'/\IsPart u o/\Q o H') X.xe s
def Sn:TO:=λ_ H Q=>Q none H
def Yu (t:TE):TO:=λO H Q=>t O H λx H1=>∃i,x=.int i/\Q (some i) H1
def intsAre_of:∀{us:cx},θ (ns.map V.int) us->IntsAre us ns:=by
 induction ns with
 |nil=>intro us r;rw[map_nil]at r;cases r;exact .nil
 |cons n ns ih=>
  intro us r;rw[aG]at r;cases r with
  |cons r1 r2=>
   obtain⟨t,e⟩:=r1;subst e;exact .cons n t (ih r2)
section
variable {X:Cx}{e:cG}{te:TE}{lo hi:Option cG}{tl th:TO}{pos p2:Pos}
def Sq:PO X none Sn:=by
 intro cL s O H Q I h;rw[evalPart_none];exact ak ⟨none,H,I,.none,h⟩
def Sr (h:PE X e te):PO X (some e) (Yu te):=by
 intro cL s O H Q I hw;rw[evalPart_some];refine pH (h cL s O H _ I hw) λu s1 x H1 I1 r1 q1=>?_
 obtain⟨i,rfl,q⟩:=q1;obtain⟨t,rfl⟩:=r1;exact⟨some i,H1,I1,.int i t,q⟩
def Uw (X:Cx) (r:V->Option Int->Option Int->Hp->VK->Prop):Prop:=
 ∀(cL:cn) (s:cz) (O:St) (H:Hp) (x:V) (v vl vu:cy) (lo hi:Option Int) (sl:cF) (Q:VK),η X cL O H s->ι x v->s.heap.IsSliceOf sl vl vu .none->IsPart vl lo->IsPart vu hi->r x lo hi H Q->
  ∃T id,typeLookup (.type T) "__getitem__"=pure (some (.builtin id))/\s.TypeIs v T/\X.mO (getItem v (.ref sl)) (EP X cL O Q) X.xe s
def Uw.or (h:Uw X r) (h':Uw X r'):Uw X (λx lo hi H Q=>r x lo hi H Q\/r' x lo hi H Q):=by
 intro cL s O H x v vl vu lo hi sl Q I rx hs pl pu q;rcases q with q|q
 .exact h cL s O H x v vl vu lo hi sl Q I rx hs pl pu q
 .exact h' cL s O H x v vl vu lo hi sl Q I rx hs pl pu q
def tSl (r:V->Option Int->Option Int->Hp->VK->Prop) (te:TE) (tl th:TO):TE:=λO H Q=>te O H λx H1=>tl O H1 λl H2=>th O H2 λu H3=>r x l u H3 Q
def GZ (hr:Uw X r) (he:PE X e te) (hl:PO X lo tl) (hu:PO X hi th):PE X (.Subscript e (.Slice lo hi none p2) pos) (tSl r te tl th):=by
 intro cL s O H Q I h;refine Subscript_ (pH (he cL s O H _ I h) λv s1 x H1 I1 r1 q1=>?_)
 refine wpAny_Slice (xc (hl cL s1 O H1 _ I1 q1) λvl s2 ⟨l,H2,I2,pl,q2⟩=>xc (hu cL s2 O H2 _ I2 q2) λvu s3 ⟨u,H3,I3,pu,q3⟩=>?_)
 rw[evalPart_none];refine ak ?_;have I4:η X cL O H3 {s3 with heap:=s3.heap.push {cls:=.type "slice",data:=.fields #[vl,vu,.none]}}:=I3.kept (t':=s3.toks) λb ob q=>ag _ q
 obtain⟨T,id,hT,ht,hg⟩:=hr cL {s3 with heap:=s3.heap.push {cls:=.type "slice",data:=.fields #[vl,vu,.none]}} O H3 x v vl vu l u s3.dN Q I4 r1 (Heap.IsSliceOf.new ..) pl pu q3
 show X.mO (subscriptTail e (.Slice lo hi none p2) v (.ref s3.dN)) (EP X cL O Q) X.xe {s3 with heap:=s3.heap.push {cls:=.type "slice",data:=.fields #[vl,vu,.none]}}
 exact tail_any (ops:=[.ref s3.dN,v]) ht hT hg (by with_unfolding_all rfl)
def G0 (xs:List V) (lo hi:Option Int):List V:=(xs.drop (HT.i6 xs.length 0 lo)).take (HT.i6 xs.length xs.length hi-HT.i6 xs.length 0 lo)
def zZ (xs:List V) (lo hi:Option Int):(G0 xs lo hi).length<=xs.length:=by
 unfold G0;rw[bK,length_drop];omega
def abl (K:W.Frag):V->Option Int->Option Int->Hp->VK->Prop:=λx lo hi H Q=>∃a xs,x=.ref a/\lr K H a xs/\
 ¬ (HT.i6 xs.length 0 lo=0/\HT.i6 xs.length xs.length hi=xs.length)/\∀p,H p=none->Q (.ref p) (ν H p (.t (G0 xs lo hi)))
def VJ:Uw X (abl X.K):=by
 intro cL s O H x v vl vu lo hi sl Q I rx hs pl pu h;obtain⟨a,xs,rfl,hx,hw,q⟩:=h;cases rx;obtain⟨dE,r,ht,hz⟩:=I.tuple hx;have π:dE.toArray.size=xs.length:=by rw[au];exact r.length.symm
 refine⟨"tuple",_,PyProof.Rows.slot_tuple_getitem.lookup,ht.typeIs,?_⟩;refine HT.xo ht hs pl pu (by rw[π];exact hw) ?_ (by rw[π];exact hz)
 rw[π];refine⟨.ref s.dN,_,I.laid (t':=s.toks) (o:=.t (G0 xs lo hi)) (λb ob q=>ag _ q) (av _) ?_,rfl,q _ (I.fU.fresh (av _))⟩
 exact⟨aE (zZ xs lo hi) hz,_,(r.drop (HT.i6 xs.length 0 lo)).take (HT.i6 xs.length xs.length hi-HT.i6 xs.length 0 lo),IsTup.new _ _⟩
def abm (K:W.Frag):R2:=λx y H Q=>∃a b ns ms,x=.ref a/\y=.ref b/\lr K H a (ns.map V.int)/\lr K H b (ms.map V.int)/\Q (.bl (HT.lexLt ns ms)) H
def VL (hu:X.A.units<cLine):xl X (compareOp .Lt) (abm X.K):=by
 intro cL s O H x y v u Q I rx ry h;obtain⟨a,b,ns,ms,rfl,rfl,ha,hb,q⟩:=h;cases rx;cases ry;obtain⟨dE,r1,p1,_⟩:=I.tuple ha;obtain⟨qb,r2,p2,_⟩:=I.tuple hb;have i1:IntsAre dE.toArray.toList ns:=intsAre_of r1;have i2:IntsAre qb.toArray.toList ms:=intsAre_of r2;exact HT.Bo p1 p2 i1 i2 hu ⟨.bl (HT.lexLt ns ms),H,I,rfl,q⟩
def Ux (K:W.Frag):R2:=λx y H Q=>∃a b xs ys,x=.ref a/\y=.ref b/\lr K H a xs/\lr K H b ys/\xs≠[]/\xs.length+ys.length<=sizeLine/\
 (ys=[]->Q (.ref a) H)/\(ys≠[]->∀p,H p=none->Q (.ref p) (ν H p (.t (xs++ys))))
def θ.Fg {us:cx}(r:θ xs us):us=[]↔xs=[]:=by
 cases r with
 |nil=>simp
 |cons _ _=>simp
def Ss:xl X (binaryOp .Add) (Ux X.K):=by
 intro cL s O H x y v u Q I rx ry h;obtain⟨a,b,xs,ys,rfl,rfl,ha,hb,hx,hz,q1,q2⟩:=h;cases rx;cases ry;obtain⟨dE,r1,p1,_⟩:=I.tuple ha;obtain⟨qb,r2,p2,_⟩:=I.tuple hb;refine HT.Sm p1 p2 (λz=>hx (r1.Fg.mp z)) (λz=>⟨.ref a,H,I,rfl,q1 (r2.Fg.mp z)⟩) (λz=>?_) (by rw[<-r1.length,<-r2.length];exact hz)
 refine⟨.ref s.dN,_,I.laid (t':=s.toks) (o:=.t (xs++ys)) (λb ob q=>ag _ q) (av _) ?_,rfl,q2 (λw=>z (r2.Fg.mpr w)) _ (I.fU.fresh (av _))⟩
 exact⟨by rw[aR];exact hz,_,r1.append r2,IsTup.new _ _⟩
end
noncomputable def Eh (n:Nat) (i:Int):Option Nat:=if 0<=i then(if i<n then some i.toNat else none)else if -(n:Int)<=i then some (i+n).toNat else none
def nX {α:Type}(xs:List α) (i:Int):Option α:=(Eh xs.length i).bind λj=>xs[j]?
def Su (h:Eh n i=some j):seqIndex? i n=some j/\j<n/\-(n:Int)<=i/\i<n:=by
 unfold Eh at h;by_cases h0:0<=i
 .rw[if_pos h0]at h;by_cases h1:i<n
  .rw[if_pos h1]at h;have e:i.toNat=j:=aT h;exact⟨by rw[seqIndex_of h0 h1,e],by omega,by omega,h1⟩
  .rw[if_neg h1]at h;cases h
 .rw[if_neg h0]at h;by_cases h1: -(n:Int)<=i
  .rw[if_pos h1]at h;have e:(i+n).toNat=j:=aT h;exact⟨by rw[seqIndex_neg (by omega) h1,e],by omega,h1,by omega⟩
  .rw[if_neg h1]at h;cases h
def Fh (h:nX xs i=some v):∃j,seqIndex? i xs.length=some j/\xs[j]? =some v/\j<xs.length/\-(xs.length:Int)<=i/\i<xs.length:=by
 unfold nX at h;cases e:Eh xs.length i with
 |none=>rw[e]at h;cases h
 |some j=>
  rw[e]at h;obtain⟨h1,h2,h3,h4⟩:=Su e;exact⟨j,h1,h,h2,h3,h4⟩
def xq {xs:List α}{j:Nat}{v:α}(h:xs[j]? =some v):nX xs (j:Int)=some v:=by
 have hj:j<xs.length:=(List.getElem?_eq_some_iff.mp h).1;have e:Eh xs.length (j:Int)=some j:=by
  unfold Eh;rw[if_pos (by omega),if_pos (by omega)];simp
 unfold nX;rw[e];exact h
def vd (b:cG):Prop:=∀o i,subscripted b false o i=operate [o,i] (getItem o i)
def OM (X:Cx) (r:R2):Prop:=
 ∀(value slice:cG) (cL:cn) (s:cz) (O:St) (H:Hp) (x y:V) (v u:cy) (Q:VK),η X cL O H s->ι x v->ι y u->r x y H Q->
  subscripted slice false v u=operate [v,u] (getItem v u)->X.mO (subscriptTail value slice v u) (EP X cL O Q) X.xe s
def MtR (X:Cx) (id:String) (r:V->List V->Hp->VK->Prop):Prop:=
 ∀(cL:cn) (s:cz) (O:St) (H:Hp) (x:V) (xs:List V) (v:cy) (us:cx) (Q:VK),η X cL O H s->ι x v->θ xs us->r x xs H Q->
  X.mO (call (.builtin id) (v::us)) (EP X cL O Q) X.xe s
section
variable {X:Cx}{a b:cG}
def OM.or (h:OM X r) (h':OM X r'):OM X (λx y H Q=>r x y H Q\/r' x y H Q):=by
 intro value slice cL s O H x y v u Q I rx ry q hs;rcases q with q|q
 .exact h value slice cL s O H x y v u Q I rx ry q hs
 .exact h' value slice cL s O H x y v u Q I rx ry q hs
def ON (hr:OM X r) (ha:PE X a ta) (hb:PE X b tb) (hs:vd b):PE X (.Subscript a b pos) (X7 r ta tb):=by
 intro cL s O H Q I h;exact Subscript_ (Vx ha hb I h λv u s2 x y H2 I2 rx ry q=>hr a b cL s2 O H2 x y v u Q I2 rx ry q (hs _ _))
def Yv (K:W.Frag):R2:=λx y H Q=>∃p xs i v,x=.ref p/\y=.int i/\ua K H p xs/\nX xs i=some v/\Q v H
def Yw (K:W.Frag):R2:=λx y H Q=>∃p xs i v,x=.ref p/\y=.int i/\lr K H p xs/\nX xs i=some v/\Q v H
def Yx:R2:=λx y H Q=>∃z i c,x=.str z/\y=.int i/\z.length<=sizeLine/\nX z.cps.toList i=some c/\Q (.str ⟨#[c]⟩) H
def Sv:OM X (Yv X.K):=by
 intro value slice cL s O H x y v u Q I rx ry h hs;obtain⟨p,xs,i,z,rfl,rfl,hq,he,q⟩:=h;cases rx;obtain⟨t,rfl⟩:=ry;obtain⟨dE,r,pl,hz⟩:=I.list hq;obtain⟨j,h1,h2,h3,h4,h5⟩:=Fh he;obtain⟨w,ew,Sw⟩:=r.get h2;have hl:=r.length;have hn:=yR;have fin:EP X cL O Q w s:=⟨z,H,I,Sw,q⟩;by_cases h0:0<=i
 .have hj:i.toNat=j:=by
   rw[seqIndex_of h0 h5]at h1;exact aT h1
  exact item_listR pl.isList h0 (by omega) (by rw[hj];simpa using ew) fin hs
 .have hj:(i+(dE.toArray.size:Int)).toNat=j:=by
   rw[seqIndex_neg (by omega) h4]at h1
   rw[au,<-hl];exact aT h1
  exact subscriptTail_builtinR (x:=w) pl.isList.typeIs slot_list_getitem.lookup
   (wpAny_getItem_list_neg (Q:=λr s'=>r=w/\EP X cL O Q r s') pl.isList (by omega) (by rw[au]<;>omega) (by omega) (by rw[hj];simpa using ew) ⟨rfl,fin⟩) hs
def VM:OM X (Yw X.K):=by
 intro value slice cL s O H x y v u Q I rx ry h hs;obtain⟨p,xs,i,z,rfl,rfl,hq,he,q⟩:=h;cases rx;obtain⟨t,rfl⟩:=ry;obtain⟨dE,r,pl,hz⟩:=I.tuple hq;obtain⟨j,h1,h2,h3,h4,h5⟩:=Fh he;obtain⟨w,ew,Sw⟩:=r.get h2;have hl:=r.length;have hn:=yR;have fin:EP X cL O Q w s:=⟨z,H,I,Sw,q⟩;exact subscriptTail_builtinR (x:=w) pl.typeIs slot_tuple_getitem.lookup
  (getItem_tuple (j:=j) (Q:=λr s'=>r=w/\EP X cL O Q r s') pl (by omega) (by omega) (by rw[au,<-hl];exact h1) (by simpa using ew) ⟨rfl,fin⟩) hs
def VN:OM X Yx:=by
 intro value slice cL s O H x y v u Q I rx ry h hs;obtain⟨z,i,c,rfl,rfl,hz,he,q⟩:=h;obtain⟨t,rfl⟩:=rx;obtain⟨t',rfl⟩:=ry;obtain⟨j,h1,h2,h3,h4,h5⟩:=Fh he;have hl:z.cps.toList.length=z.length:=by simp[Str.length]
 rw[hl]at h1 h4 h5;have hn:=yR;exact tail_any (typeIs_str s z t) slot_str_getitem.lookup (getItem_str (c:=c) (by
  have e1:decide (i< -(2^63:Int))=false:=aI (by omega)
  have e2:decide (i ≥ 2^63)=false:=aI (by omega)
  rw[e1,e2,Bool.or_false]) (by rw[h1];simpa using h2) ⟨.str ⟨#[c]⟩,H,I.tok _,⟨_,rfl⟩,q⟩) hs
def rIx (K:W.Frag):R2:=λx y H Q=>Yv K x y H Q\/Yw K x y H Q\/Yx x y H Q
def VO:OM X (rIx X.K):=Sv.or (VM.or VN)
def Xn (i:Int) (hi:Option Int) (n d:Nat):(sliceBounds (some i) hi none n).1=((HT.i6 n d (some i):Nat):Int):=by
 simp only[sliceBounds,HT.i6,Option.getD_none,show(1:Int)>0 by decide,if_true]
 split<;>omega
def Fj (lo hi:Option Int) (n:Nat):(sliceBounds lo hi none n).1=((HT.i6 n 0 lo:Nat):Int)/\(sliceBounds lo hi none n).2.1=((HT.i6 n n hi:Nat):Int)/\(sliceBounds lo hi none n).2.2=1:=by
 refine⟨?_,?_,rfl⟩
 .cases lo with
  |none=>simp[sliceBounds,HT.i6]
  |some i=>exact Xn ..
 .cases hi with
  |none=>simp[sliceBounds,HT.i6]
  |some i=>exact Xn i none n n
def Dr (dE:cx) (lo hi:Option Int):slicePick dE.toArray lo hi none=((dE.drop (HT.i6 dE.length 0 lo)).take (HT.i6 dE.length dE.length hi-HT.i6 dE.length 0 lo)).toArray:=by
 obtain⟨h1,h2,h3⟩:=Fj lo hi dE.toArray.size;unfold slicePick;rw[h1,h2,h3];simp only[sliceRange_one,pick_run,au]<;>rfl
def abn (K:W.Frag):V->Option Int->Option Int->Hp->VK->Prop:=λx lo hi H Q=>∃a xs,x=.ref a/\ua K H a xs/\∀p,H p=none->Q (.ref p) (ν H p (.l (G0 xs lo hi)))
def Sy:Uw X (abn X.K):=by
 intro cL s O H x v vl vu lo hi sl Q I rx hs pl pu h;obtain⟨a,xs,rfl,hx,q⟩:=h;cases rx;obtain⟨dE,r,ht,hz⟩:=I.list hx;have π:=r.length;refine⟨"list",_,slot_list_getitem.lookup,ht.isList.typeIs,?_⟩;refine wpAny_getItem_list_slice ht.isList hs pl pu .none (by simp) ?_ (by rw[au]<;>omega)
 rw[Dr,<-π];refine⟨.ref s.dN,_,I.laid (t':=s.toks) (o:=.l (G0 xs lo hi)) (λb ob q=>ag _ q) (av _) ?_,rfl,q _ (I.fU.fresh (av _))⟩
 exact⟨aE (zZ xs lo hi) hz,_,0,(r.drop (HT.i6 xs.length 0 lo)).take (HT.i6 xs.length xs.length hi-HT.i6 xs.length 0 lo),aB _ rfl⟩
def Fl:jT X (.builtin "len") (λxs H Q=>∃p ys,xs=[.ref p]/\(ua X.K H p ys\/lr X.K H p ys)/\Q (.int ys.length) H):=by
 intro cL s O H xs us Q I r h;obtain⟨p,ys,rfl,hq,q⟩:=h;obtain⟨u,rfl,rx⟩:=vals1 r;cases rx;have hn:=yR;rcases hq with hq|hq
 .obtain⟨dE,r',pl,hz⟩:=I.list hq;have π:=r'.length;exact Calls.call_len_list pl.isList (by simp only[au]<;>omega) ⟨.int ys.length,H,I.tok _,⟨s.toks+1,by rw[au,π]⟩,q⟩
 .obtain⟨dE,r',pl,hz⟩:=I.tuple hq;have π:=r'.length;exact len_tuple pl (by simp only[au]<;>omega) ⟨.int ys.length,H,I.tok _,⟨s.toks+1,by rw[au,π]⟩,q⟩
def Fm:jT X (.builtin "len") (λxs H Q=>∃z,xs=[.str z]/\z.length<=sizeLine/\Q (.int z.length) H):=by
 intro cL s O H xs us Q I r h;obtain⟨z,rfl,hz,q⟩:=h;obtain⟨u,rfl,t,rfl⟩:=vals1 r;have hn:=yR;exact len_str (by omega) ⟨.int z.length,H,I.tok _,⟨_,rfl⟩,q⟩
def jT.or (h:jT X f r) (h':jT X f r'):jT X f (λxs H Q=>r xs H Q\/r' xs H Q):=by
 intro cL s O H xs us Q I rs q;rcases q with q|q
 .exact h cL s O H xs us Q I rs q
 .exact h' cL s O H xs us Q I rs q
def Ds:jT X (.type "tuple") (λxs H Q=>∃p ys,xs=[.ref p]/\((ua X.K H p ys/\∀l,H l=none->Q (.ref l) (ν H l (.t ys)))\/(lr X.K H p ys/\Q (.ref p) H))):=by
 intro cL s O H xs us Q I r h;obtain⟨p,ys,rfl,h⟩:=h;obtain⟨u,rfl,rx⟩:=vals1 r;cases rx;rcases h with⟨hq,q⟩|⟨hq,q⟩
 .obtain⟨dE,r',pl,hz⟩:=I.list hq;have π:=r'.length;refine call_tuple_list pl.isList (λh' kp=>?_) (by simp only[au]<;>omega)
  have I1:η X cL O H {s with heap:=h'}:=I.kept (t':=s.toks) kp
  have I2:η X cL O (ν H h'.objs.size (.t ys)) {s with heap:=h'.push {cls:=.type "tuple",data:=.seq dE.toArray}}:=
   I1.laid (t':=s.toks) (λb o e=>ag _ e) (av _) (show iz X.γ X.w _ _ _ (.t ys)from⟨hz,dE,r',IsTup.new _ _⟩)
  exact⟨.ref h'.objs.size,_,I2,rfl,q _ (I1.fU.fresh (av _))⟩
 .obtain⟨dE,r',pl,hz⟩:=I.tuple hq;exact call_tuple_same pl ⟨.ref p,H,I,rfl,q⟩
def tyV (K:W.Frag) (T:String) (x:V) (H:Hp):Prop:=match x with
 |.str _=>T="str"
 |.int _=>T="int"
 |.ref p=>(T="list"/\∃xs,ua K H p xs)\/(T="tuple"/\∃o,K.lookup p=some o/\o.cls=.type "tuple"/\o.dict=none)\/
   (T="dict"/\((∃ζ,H p=some (.dK ζ))\/∃ζ,H p=some (.dT ζ)))\/(T="set"/\∃S n,H p=some (.set S n))
 |_=>False
def VP (I:η X cL O H s) (r:ι x v) (ty:tyV X.K T x H):s.TypeIs v T/\∀a,v=.ref a->∃ob,s.heap.get? a=some ob/\ob.dict=none:=by
 cases x with
 |str z=>
  obtain⟨t,rfl⟩:=r;cases (show T="str" from ty)
  exact⟨typeIs_str s z t,λ_ e=>nomatch e⟩
 |int i=>
  obtain⟨t,rfl⟩:=r;cases (show T="int" from ty)
  exact⟨typeIs_int s i t,λ_ e=>nomatch e⟩
 |ref p=>
  cases r;rcases ty with⟨rfl,xs,hq⟩|⟨rfl,o,hk,hc,hd⟩|⟨rfl,hk⟩|⟨rfl,S,n,hk⟩
  .obtain⟨dE,_,pl,_⟩:=I.list hq;refine⟨pl.isList.typeIs,λa e=>?_⟩
   cases e;obtain⟨o,n,e,c,hd,_⟩:=pl;exact⟨o,e,hd⟩
  .refine⟨⟨o,I.AE p o hk,hc⟩,λa e=>?_⟩
   cases e;exact⟨o,I.AE _ o hk,hd⟩
  .have z:∃o,s.heap.get? p=some o/\o.ExactDict:=by
    rcases hk with⟨ζ,hk⟩|⟨ζ,hk⟩
    .obtain⟨_,_,_,_,o,_,_,e,ex,_⟩:=I.fU p _ hk;exact⟨o,e,ex⟩
    .obtain⟨_,_,_,_,o,_,_,e,ex,_⟩:=I.fU p _ hk;exact⟨o,e,ex⟩
   obtain⟨o,e,ex⟩:=z;refine⟨⟨o,e,ex.1⟩,λa e2=>?_⟩
   cases e2;exact⟨o,e,ex.2.1⟩
  .obtain⟨o,_,_,_,e,ex,_⟩:=I.fU p _ hk;refine⟨⟨o,e,ex.1⟩,λa e2=>?_⟩
   cases e2;exact⟨o,e,ex.2.1⟩
 |_=>exact False.elim ty
def tBM (K:W.Frag) (T:String) (r:V->List V->Hp->VK->Prop) (to:TE) (t:TA):TE:=λO H Q=>to O H λx H1=>tyV K T x H1/\t O H1 λxs H2=>r x xs H2 Q
variable {o e:cG}{es:List cG}{to:TE}{t:TA}{name:Str}{apos i7:Pos}{T id:String}{r:V->List V->Hp->VK->Prop}
def OO (pa:PlainAttrs T) (slot:Slot T name id) (hty:typeOf (.builtin id)=pure (.type "method_descriptor")) (hm:MtR X id r) (ho:PE X o to) (ha:PA X (e::es) t)
  (Bq:attributeBase o name X.e (eval o X.e)=eval o X.e:=by rfl)
  (JA:((backTo i7 (starEach (e::es) X.e)).all (λx=> !x.1)&&(backToKw i7 (keywordEach [] X.e)).all (λx=>x.1.isSome)
   &&decide ((e::es).length+([]:List Keyword).length+(if([]:List Keyword).isEmpty then 0 else 1)<30))=true:=by rfl)
  (Br:(apos.endLine==i7.line)=true:=by rfl) (hs:starEach (e::es) X.e=(false,eval e X.e)::starEach es X.e:=by rfl) (wt:A4 i7 es X.e:=by rfl):
  PE X (.Call (.Attribute o name apos) (e::es) [] i7) (tBM X.K T r to t):=by
 intro cL s O H Q I h;refine wpAny_Call_method_late Bq JA Br rfl (pH (ho cL s O H _ I h) λv s1 x H1 I1 r1 ⟨ty,q1⟩=>?_)
 obtain⟨h1,h2⟩:=VP I1 r1 ty;refine⟨T,id,pa,slot,hty,h1,h2,?_⟩;have hA:=ha i7 cL s1 O H1 _ I1 q1;rw[hs]at hA ⊢;refine Calls.callWith_builtin (by show(false||(backTo i7 (starEach es X.e)).any (·.1))=false;rw[wt]<;>rfl) (Calls.evalArgs_plain ?_)
 exact xc hA λus s2 ⟨vs,H2,I2,r2,q2⟩=>hm cL s2 O H2 x vs v us Q I2 r1 r2 q2
end
def MtM (X:Cx) (id:String) (r:V->List V->Hp->VK->Prop):Prop:=
 ∀(cL:cn) (s:cz) (O:St) (H:Hp) (x:V) (xs:List V) (v:cy) (us:cx) (Q:VK),η X cL O H s->ι x v->θ xs us->r x xs H Q->
  X.mO (call (.builtin id) (v::us)) (EP X cL O Q) X.xe s
def θ.one {x:V}{us:cx}(r:θ [x] us):∃u,us=[u]/\ι x u:=vals1 r
def θ.two {x y:V}{us:cx}(r:θ [x,y] us):∃u v,us=[u,v]/\ι x u/\ι y v:=vals2 r
theorem θ.eraseIdx:∀{xs:List V}{us:cx}(i:Nat),θ xs us->θ (xs.eraseIdx i) (us.eraseIdx i)
 |_,_,_,.nil=>.nil
 |_,_,0,.cons _ t=>t
 |_,_,i+1,.cons r t=>.cons r (θ.eraseIdx i t)
theorem qH {α:Type}:∀(l:List α) (i:Nat),(l.eraseIdx i).length<=l.length
 |[],_=>av _
 |_::_,0=>Nat.le_succ _
 |_::r,i+1=>Nat.succ_le_succ (qH r i)
def η.VQ {dE its':cx}(I:η X cL O H s) (hH:H l=some (.l xs)) (e:s.heap.get? l=some {cls:=.type "list",data:=.seq dE.toArray n}) (hf:f dE.toArray=its'.toArray) (hv:θ ys its') (hz:ys.length<=sizeLine):η X cL O (ν H l (.l ys)) {s with heap:=s.heap.update l (Obj.mapSeq f),toks:=t'}:=by
 have q:=PySem.IsL.update e f;rw[hf]at q;refine I.write (x:=l) (e:=l) (by rw[hH];exact trivial) (.inl rfl) (λb' u hb hu=>(bA s.heap (Obj.mapSeq f) (Ne.symm hb)).trans hu) ⟨_,q⟩ ?_
 exact⟨hz,its',_,hv,q⟩
def η.Sz (I:η X cL O H s) (hH:H l=some (.l xs)):xs.length<=sizeLine/\∃(dE:cx) (n:Nat),θ xs dE/\xs.length=dE.length/\s.heap.get? l=some {cls:=.type "list",data:=.seq dE.toArray n}:=by
 obtain⟨z,dE,n,r,e⟩:=I.fU l _ hH;exact⟨z,dE,n,r,r.length,e⟩
def OP (h:n<=sizeLine):Builtin.List.listTooLong n=false:=by
 unfold Builtin.List.listTooLong;exact aI (by omega)
def Lj:V->List V->Hp->VK->Prop:=λx vs H Q=>∃l xs y,x=.ref l/\vs=[y]/\H l=some (.l xs)/\xs.length<sizeLine/\Q .eZ (ν H l (.l (xs++[y])))
def Ei:MtM X "list.append" Lj:=by
 intro cL s O H x vs v us Q I rx rv h;obtain⟨l,xs,y,rfl,rfl,hH,hz,q⟩:=h;cases rx;obtain⟨u,rfl,ru⟩:=rv.one;obtain⟨z,dE,n,r,hl,e⟩:=I.Sz hH;refine call_meets F.slot_list_append ⟨_,e,rfl⟩ F.entry_list_append (F.args_list_append_2 _ _) (PySem.list_append l dE.toArray n u (by rw[au];omega)) ⟨e,?_⟩
 refine⟨.eZ,_,I.VQ (its':=dE++[u]) hH e (by simp) (r.append (.cons ru .nil)) ?_,rfl,q⟩
 rw[aR,length_singleton];omega
def SA:V->List V->Hp->VK->Prop:=λx vs H Q=>∃l b xs zs,x=.ref l/\vs=[.ref b]/\H l=some (.l xs)/\H b=some (.l zs)/\xs.length+zs.length<=sizeLine/\Q .eZ (ν H l (.l (xs++zs)))
def MV:MtM X "list.extend" SA:=by
 intro cL s O H x vs v us Q I rx rv h;obtain⟨l,b,xs,zs,rfl,rfl,hH,hB,hz,q⟩:=h;cases rx;obtain⟨u,rfl,ru⟩:=rv.one;cases ru;obtain⟨z,dE,n,r,hl,e⟩:=I.Sz hH;obtain⟨z2,qb,n2,r2,G1,e2⟩:=I.Sz hB;have hsz:dE.toArray.size+qb.toArray.size<=sizeLine:=by rw[au,au];omega
 have Yy:¬ (!dE.toArray.isEmpty&&Builtin.List.listTooLong (dE.toArray.size+qb.toArray.size))=true:=by
  rw[OP hsz,Bool.and_false];exact bc
 refine call_meets F.slot_list_extend ⟨_,e,rfl⟩ F.entry_list_extend (F.args_list_extend_2 _ _)
  (AutoSeq1.list_extend_list_list_0 l dE.toArray n b qb.toArray n2 Yy (by rw[au];omega) (by omega)) ⟨e,e2,?_⟩
 refine⟨.eZ,_,I.VQ (its':=dE++qb) hH e (by simp) (r.append r2) ?_,rfl,q⟩
 rw[aR];omega
def OQ:V->List V->Hp->VK->Prop:=λx vs H Q=>∃l xs i k y,x=.ref l/\vs=[.int i]/\H l=some (.l xs)/\-(2^63)<=i/\i<2^63/\seqIndex? i xs.length=some k/\xs[k]? =some y/\Q y (ν H l (.l (xs.eraseIdx k)))
def OR:MtM X "list.pop" OQ:=by
 intro cL s O H x vs v us Q I rx rv h;obtain⟨l,xs,i,k,y,rfl,rfl,hH,h1,h2,hk,hy,q⟩:=h;cases rx;obtain⟨u,rfl,ru⟩:=rv.one;obtain⟨t,rfl⟩:=ru;obtain⟨z,dE,n,r,hl,e⟩:=I.Sz hH;obtain⟨w,hw,Sw⟩:=r.get hy;refine call_meets F.slot_list_pop ⟨_,e,rfl⟩ F.entry_list_pop (F.args_list_pop_2 _ _)
  (MeetsSeq.list_pop_at l dE.toArray n i t k w (fitsIndex_both h1 h2) (by rw[au,<-hl];exact hk) (by rw[<-Array.getElem?_toList];exact hw) (by rw[au];omega)) ⟨e,?_⟩
 refine⟨y,_,I.VQ (its':=dE.eraseIdx k) hH e ?_ (r.eraseIdx k) ?_,Sw,q⟩
 .show dE.toArray.eraseIdxIfInBounds k=(dE.eraseIdx k).toArray;rw[eraseIdxIfInBounds_toArray]
 .have:=qH xs k;omega
end L2
namespace Att
open PySem.W PySem.Calls
def AG:∀(ns:cq) (vs:cx),WellAll P h vs (ns.map WData.int)->IntsAre vs ns:=by
 intro ns;induction ns with
 |nil=>
  intro vs w;rw[map_nil]at w;cases w;exact .nil
 |cons n ns ih=>
  intro vs w;rw[aG]at w;cases w with
  |cons a b=>
   cases a;exact .cons _ _ (ih _ b)
def MW {l:OpenLaw}(hn:l.most=some n) (SD:l.row.toRowW.claim.pre args=true) (hwl:WellAll P h vals args):∃a vs ns,vals=[Value.ref a]/\args=[WData.list (ns.map WData.int)]/\h.get? a=some {cls:=.type "list",data:=.seq vs.toArray}/\IntsAre vs ns/\ns.length<=n:=by
 have hsh:WShape.hasAll [] args [.list .int]=true:=(pre_splitW SD).1;have hc:l.pre.holds [] {args:=args}=true:=(pre_splitW SD).2;obtain⟨d,r,rfl,h1,h2⟩:=hasAllW_cons hsh;obtain rfl:=hasAllW_nil h2;obtain⟨xs,rfl,h3⟩:=hasW_list h1;obtain⟨ns,rfl⟩:=items_int h3;have π:ns.length<=n:=by
  unfold OpenLaw.pre at hc;have h4:(WTm.not (.lt (.lit (.int (n:Int))) (.len (.arg 0)))).holds [] {args:=[.list (ns.map .int)]}=true:=by
   have h4:=(holds_andW hc).1;rw[hn]at h4;exact h4
  have h5:=condW_of h4 (w_not (w_lt w_lit (w_len_list (w_arg rfl))));rw[ae]at h5;refine Nat.le_of_not_lt λq=>?_
  have q':(n:Int)<((ns.length:Nat):Int):=by omega
  first
   |(rw[aS q']at h5;exact absurd h5 (by decide))
   |(simp at h5;omega)
 cases hwl with
 |cons w1 w2=>
  cases w2;cases w1 with
  |list ho yU=>exact⟨_,_,ns,rfl,rfl,ho,AG ns _ yU,π⟩
def MX (l:OpenLaw) (args:List WData):l.row.toRowW.claim.post args (.bool true) args=true:=
 postW_of (r:=l.row.toRowW) (X:=(true==true))
  (show WShape.has [] (.bool true) .bool=true by first|rfl|decide|simp[WShape.has,WShape.arms,WShape.armsAll])
  (show(WTm.eq .res (.lit (.bool true))).value [] {args:=args,res:=some (.bool true),after:=args}=some (.bool (true==true))from w_eq_bool (w_res rfl) w_lit) rfl
def G2 {l:OpenLaw}{n:Nat}{q:cB}{loose:List Str}{YP:cC->Heap->Prop}{d:DefRec}(hn:l.most=some n) (Yz:d.params.defaults=[]) (call:∀(w:cC) (s₀ s₁:cz) (mg mb:cm) (fa:cF) (o:Obj) (pm cd doc:cy) (a:cF) (vs:cx) (ns:cq),
   Ground q loose [] XP w s₀ mg mb s₁.heap->YP w s₁.heap->
   s₁.heap.get? fa=some o->o.data=.func (docDef d.name d.params d.body d.scope pm cd doc)->s₁.heap.CodeRec cd d.name->mg d.name=some (.ref fa)->
   s₁.heap.get? a=some {cls:=.type "list",data:=.seq vs.toArray}->IntsAre vs ns->ns.length<=n->s₁.gens=#[]->
   codeAny (model l.prog w) callerA (.call (.ref fa) ⟨[.ref a],[]⟩) (λr s'=>r=.ok (.ret (.bool true))/\OldK s₁.heap s'.heap/\s'.os=s₁.os/\AllBare s'.gens) s₁):WalkO q loose XP YP l.row.toRowW d [] (λf vs=>PySem.call f vs):=by
 intro w s₀ s₁ mg mb G Y fa o pm cd doc dV kV ho hd vG hD YA hg args vals as SD aeT hrd hwl YB;obtain rfl:dV=.none:=Dflts.none hD Yz;obtain rfl:kV=.none:=Dflts.noKw hD;obtain⟨a,vs,ns,rfl,rfl,VR,hints,π⟩:=MW hn SD hwl;refine enter_call (codeAny_mono (call w s₀ s₁ mg mb fa o pm cd doc a vs ns G Y ho (fd_plain hd) vG YA VR hints π hg) λr s' hq=>?_)
 obtain⟨rfl,h2,h3,h4⟩:=hq;exact⟨.inl ⟨.bool true,.bool true,[],rfl,λ_=>rfl,.bool true,MX l _,λ_=>⟨List.Pairwise.nil,λ_ hm=>(nomatch hm)⟩⟩,h2,h3,h4⟩
end Att
namespace L2
theorem ve:∀{vs:cx}{ns:cq},IntsAre vs ns->θ (ns.map V.int) vs
 |_,_,.nil=>.nil
 |_,_,.cons n t h=>.cons ⟨t,rfl⟩ (ve h)
noncomputable def inClass (s:cH) (j:Nat):cH:=match s with
 |.ClassDef _ _ _ body _ _ _ _ _ _ _=>body.getD j (.Pass ⟨0,0,0,0⟩)
 |_=>.Pass ⟨0,0,0,0⟩
noncomputable def rM (s:cH):Arguments:=match s with
 |.FunctionDef _ a _ _ _ _ _ _ _ _=>a
 |_=>{posonlyargs:=[],args:=[],vararg:=none,kwonlyargs:=[],kw_defaults:=[],kwarg:=none,defaults:=[]}
noncomputable def gr (s:cH):List cH:=match s with
 |.FunctionDef _ _ b _ _ _ _ _ _ _=>b
 |_=>[]
noncomputable def cZ (s:cH):Scope:=match s with
 |.FunctionDef _ _ _ _ _ _ sc _ _ _=>sc
 |_=>{kind:=.function,names:=[],isGenerator:=false,isCoroutine:=false}
noncomputable abbrev nY:Sg:=λ_ _ _ _ _ _=>False
abbrev E0:XK:=λ_ _ _=>False
def Ej {X:Cx}:Passes nY X E0:=λ_ _ _ _ _ _ _ h=>h.elim
structure Bs (K:W.Frag) (x qual:Str) (st:cH) (f:cF) (fd:cA):Prop where
 ex:∃(oc:cy) (od:cu) (kV doc pm:cy) (an:cu) (fC ct:cy) (Uu:cv),
  fd=W.fnOf x qual (rM st) (gr st) (cZ st) .none kV doc pm an fC ct/\K.lookup f=some ⟨oc,od,.func fd,Uu⟩/\W.codeIn K fC qual=true
 kp:W.keepIn K (.ref f)=true
section
variable {P:cB}{w:cC}{K:W.Frag}{mg:cm}{Zc:Heap}
def Bs.ok {st:cH}(F:Bs K x qual st f fd) (S:dF N ps (cZ st)) (len:∀vs H Q E,sp vs H Q E->vs.length=ps.length) (gO:∀(fC:cy) (A:cD) (ε:List Env) (s:cz) (H:Hp) (vs:List V) (Q:VK) (E:XK),gc k (A.deeper (envOfC qual (cZ st) s.dN f fC))->sp vs H Q E->
   ∃t,Df (t6 nY P w K mg Zc N qual (cZ st) f fC A ε s H E).GJ (gr st) t/\t {nx:=λ_ H'=>Q .eZ H',rt:=Q} (start N vs) H):gK P w K mg Zc nY (k+1) f fd ps sp:=by
 obtain⟨oc,od,kV,doc,pm,an,fC,ct,Uu,rfl,lk,vG⟩:=F.ex;refine OI lk vG S len λA ε s H vs Q E hr Lg=>?_
 obtain⟨t,h,q⟩:=gO fC A ε s H vs Q E hr Lg;exact⟨t,h.GJ,q⟩
def Bs.binds {st:cH}(F:Bs K x qual st f fd) (h:∀(kV doc pm:cy) (an:cu) (fC ct:cy) (us:cx),us.length=ps.length->bindArgs (W.fnOf x qual (rM st) (gr st) (cZ st) .none kV doc pm an fC ct) ⟨us,[]⟩=pure (ps.zip us)):Binds K fd ps []:=by
 obtain⟨oc,od,kV,doc,pm,an,fC,ct,Uu,rfl,lk,vG⟩:=F.ex;exact .all (h kV doc pm an fC ct)
def OS {st:cH}{kV doc pm fC ct:cy}(l:K.lookup f=some ⟨oc,od,.func (W.fnOf x qual (rM st) (gr st) (cZ st) .none kV doc pm an fC ct),Uu⟩) (c:W.codeIn K fC qual=true) (k:W.keepIn K (.ref f)=true):Bs K x qual st f (W.fnOf x qual (rM st) (gr st) (cZ st) .none kV doc pm an fC ct):=⟨⟨oc,od,kV,doc,pm,an,fC,ct,Uu,rfl,l,c⟩,k⟩
end
def kX (h:n<=1000):n<sizeLine:=Nat.lt_of_le_of_lt h (by decide)
def pv (i:Nat) (hN:X.N[i]? =some x:=by rfl) (hv:Vi X.e.scope x:=by first|exact Or.inl rfl|exact Or.inr (Or.inl rfl)|exact Or.inr (Or.inr rfl)) (hd:AD x:=by decide) (vG:(x==("__classdict__":Str))=false:=by decide):PE X (.Name x pos) (lu i):=E8 hN hv hd vG
def Dt {A B:Prop}(h:B):if false=true then A else B:=by
 rw[if_neg bc];exact h
def Bu {A B:Prop}(h:A):if true=true then A else B:=by
 rw[if_pos rfl];exact h
def eA (H H':Hp):Prop:=∀b o,H b=some o->H' b=some o
def eA.refl (H:Hp):eA H H:=λ_ _ h=>h
def eA.trans (a:eA H H1) (b:eA H1 H2):eA H H2:=λc o h=>b c o (a c o h)
def eA.free (e:eA H H') (h:H' l=Option.none):H l=Option.none:=by
 cases q:H l with
 |none=>rfl
 |some o=>
  rw[e l o q]at h;cases h
def yV (K:W.Frag):List (cF×Array cy):=vD.filterMap λ(t:Str×Pos×Str)=>(W.tabIn K t.1).map λq=>(q.2,Dj t.2.1 t.2.2)
def SE {K:W.Frag}(h:(b,ps)∈yV K):∃x c pos qual,(x,pos,qual)∈vD/\W.tabIn K x=some (c,b)/\ps=Dj pos qual:=by
 obtain⟨⟨x,pos,qual⟩,hm,he⟩:=mem_filterMap.mp h;cases ht:W.tabIn K x with
 |none=>rw[show W.tabIn K (x,pos,qual).1=none from ht]at he;cases he
 |some q=>
  obtain⟨c,P⟩:=q;rw[show W.tabIn K (x,pos,qual).1=some (c,P)from ht]at he
  cases he;exact⟨x,c,pos,qual,hm,ht,rfl⟩
def OT {K:W.Frag}(hm:(x,pos,qual)∈vD) (ht:W.tabIn K x=some (c,b)):(b,Dj pos qual)∈yV K:=
 mem_filterMap.mpr ⟨(x,pos,qual),hm,by show(W.tabIn K x).map _=_;rw[ht];rfl⟩
theorem xr {α:Type}:∀{l:List (cF×α)}{b:cF}{v:α},(l.map (·.1)).Nodup->(b,v)∈l->l.lookup b=some v
 |[],_,_,_,h=>by cases h
 |(c,u)::r,b,v,nd,h=>by
  rw[aG,nodup_cons]at nd;rcases mem_cons.mp h with e|h
  .cases e;simp[bq]
  .have jI:b≠c:=λz=>nd.1 (by rw[<-z];exact mem_map_of_mem (f:=(·.1)) h)
   have hb:(b==c)=false:=by simpa using jI
   rw[bq,hb];exact xr nd.2 h
theorem Aa {α:Type}:∀{l:List (cF×α)}{b:cF}{v:α},l.lookup b=some v->(b,v)∈l
 |[],_,_,h=>by cases h
 |(c,u)::r,b,v,h=>by
  by_cases e:b=c
  .subst e;simp only[bq,bO,Option.some.injEq]at h;subst h;exact af
  .have hb:(b==c)=false:=by simpa using e
   simp only[bq,hb]at h;exact aj _ (Aa h)
def tabsOk (K:W.Frag):Bool:=W.noTabs K&&decide ((yV K).map (·.1)).Nodup
def MY {K:W.Frag}(KX:K.In s₁.heap) (OU:s₁.heap.Ns mainGlobals mg) (hb:s₁.heap.Ns builtinsNs mb) (YC:∀x:Str,x≠"__name__"->mb x=bootBuiltins x) (VS:s₁.heap.NoLimit) (hg:s₁.gens=#[]) (ha:s₁.heap.get? a=some {cls:=.type "list",data:=.seq vs.toArray}) (hi:IntsAre vs ns) (hl:ns.length<=sizeLine) (hr:gc k callerA) (hK0:tabsOk K=true) (hT:∀x c Pt pos qual,(x,pos,qual)∈vD->W.tabIn K x=some (c,Pt)->W.CodeHd s₁.heap c Pt/\s₁.heap.get? Pt=some (W.tabObj #[])) (hbm:∃bm ob,mg "__builtins__"=some (.ref bm)/\bm≠builtinsNs/\s₁.heap.get? bm=some ob/\ob.cls=.type "module"/\ob.dict=some builtinsNs/\ob.data=.plain) (F:∀Zc:Heap,K.In Zc->Zc.Ns mainGlobals mg->gK P w K mg Zc CX k fa fd [x] sp) (G3:∀(s:cz) (u:cy),BindsTo s fd ⟨[u],[]⟩ [(x,u)]) (Lg:∀H:Hp,ua K H a (ns.map V.int)->sp [.ref a] H (λv _=>v=.bl true) λ_ _ _=>False) (hCX:∀H e s',CX [] H s₁ (λ_ _ _=>False) e s'->False):codeAny (model P w) callerA (.call (.ref fa) ⟨[.ref a],[]⟩) (λr s'=>r=.ok (.ret (.bool true))/\OldK s₁.heap s'.heap/\s'.os=s₁.os/\AllBare s'.gens) s₁:=by
 have rv:=ve hi;have abu:=hi.length;obtain⟨hK1,hK2⟩:=Bool.and_eq_true_iff.mp hK0;have MZ:((yV K).map (·.1)).Nodup:=bL hK2
 have atT:∀{b:cF}{ps:Array cy},(yV K).lookup b=some ps->∃c pos qual,ps=Dj pos qual/\W.CodeHd s₁.heap c b/\s₁.heap.get? b=some (W.tabObj #[]):=λ{b ps} h=>by
  obtain⟨x,c,pos,qual,hm,ht,e⟩:=SE (Aa h);exact⟨c,pos,qual,e,hT x c b pos qual hm ht⟩
 have core:∀H0:Hp,(∀b u,H0 b=some u->b=a/\K.lookup a=none/\u=.zW {cls:=.type "list",data:=.seq vs.toArray} (.l (ns.map V.int)))->ua K H0 a (ns.map V.int)->
   codeAny (model P w) callerA (.call (.ref fa) ⟨[.ref a],[]⟩) (λr s'=>r=.ok (.ret (.bool true))/\OldK s₁.heap s'.heap/\s'.os=s₁.os/\AllBare s'.gens) s₁:=by
  intro H0 h0 hS0;have hex:∃H:Hp,(∀b u,H0 b=some u->H b=some u)/\(∀b ps,(yV K).lookup b=some ps->H b=some (.Jk ps))/\∀b u,H b=some u->(b=a/\K.lookup a=none/\u=.zW {cls:=.type "list",data:=.seq vs.toArray} (.l (ns.map V.int)))\/∃ps,(yV K).lookup b=some ps/\u=.Jk ps:=by
   refine⟨λb=>match(yV K).lookup b with|some ps=>some (HO.Jk ps)|none=>H0 b,λb u e=>?_,λb ps e=>?_,λb u e=>?_⟩
   .show(match(yV K).lookup b with|some ps=>some (HO.Jk ps)|none=>H0 b)=_
    cases q:(yV K).lookup b with
    |none=>exact e
    |some ps=>
     obtain⟨c,pos,qual,_,_,e2⟩:=atT q;obtain⟨rfl,_⟩:=h0 b u e;rw[ha]at e2;cases e2
   .show(match(yV K).lookup b with|some ps=>some (HO.Jk ps)|none=>H0 b)=_
    rw[e]
   .have e':(match(yV K).lookup b with|some ps=>some (HO.Jk ps)|none=>H0 b)=some u:=e
    cases q:(yV K).lookup b with
    |none=>
     rw[q]at e';exact .inl (h0 b u e')
    |some ps=>
     rw[q]at e';cases e';exact .inr ⟨ps,rfl,rfl⟩
  obtain⟨H,up,ut,uo⟩:=hex;have hS:ua K H a (ns.map V.int):=by
   rcases hS0 with h|h
   .rcases h with h|⟨o,h⟩
    .exact .inl (.inl (up _ _ h))
    .exact .inl (.inr ⟨o,up _ _ h⟩)
   .exact .inr h
  have fU:vE P w H s₁.heap:=λb u e=>by
   rcases uo b u e with⟨rfl,_,rfl⟩|⟨ps,q,rfl⟩
   .exact⟨ha,by rw[ae];exact hl,vs,_,rv,ha⟩
   .obtain⟨c,pos,qual,rfl,_,e2⟩:=atT q;exact⟨#[],e2,trivial,pos,qual,#[],by simp,.inl rfl⟩
  have A6:∀{b:cF}{o:Obj},s₁.heap.get? b=some o->H b=none->(Dl s₁.heap H).get? b=some o:=λe n=>Oe e n
  have Yp:∀{b:cF}{o:Obj}{es:Array DictEntry}{ep:Nat},s₁.heap.get? b=some o->o.data=.dict es ep->H b=none:=λ{b o es ep} e d=>by
   cases q:H b with
   |none=>rfl
   |some u=>
    rcases uo b u q with⟨rfl,_,_⟩|⟨ps,q2,_⟩
    .rw[ha]at e;cases e;have d':Data.seq vs.toArray _=Data.dict es ep:=d;cases d'
    .obtain⟨c,pos,qual,_,_,e2⟩:=atT q2;rw[e]at e2;cases e2;cases d
  have nsK:∀{b:cF}{m:cm},s₁.heap.Ns b m->(Dl s₁.heap H).Ns b m:=λ{b m} ⟨o,es,ep,e,d,r⟩=>⟨o,es,ep,A6 e (Yp e d),d,r⟩
  have hKb:K.In (Dl s₁.heap H):=λb o e=>A6 (KX b o e) (by
   cases q:H b with
   |none=>rfl
   |some u=>
    rcases uo b u q with⟨rfl,hk,_⟩|⟨ps,q2,_⟩
    .rw[hk]at e;cases e
    .obtain⟨c,pos,qual,_,_,e2⟩:=atT q2;rw[KX b o e]at e2;cases e2;have h2:=all_eq_true.mp hK1 (b,W.tabObj #[]) (W.mem_of_lookupK e);exact absurd (show false=true from h2) bc)
  have hM:Mod K mg (Dl s₁.heap H):=⟨hKb,nsK OU,⟨mb,nsK hb,YC⟩,let ⟨mc,h1,h2⟩:=VS;⟨mc,nsK h1,h2⟩⟩;have noB:∀{b:cF}{o:Obj}{T:String},s₁.heap.get? b=some o->o.cls=.type T->T≠"list"->H b=none:=λ{b o T} e d nl=>by
   cases q:H b with
   |none=>rfl
   |some u=>
    rcases uo b u q with⟨rfl,_,_⟩|⟨ps,q2,_⟩
    .rw[ha]at e;cases e;injection (show Value.type "list"=Value.type T from d)with d'
     exact absurd d'.symm nl
    .obtain⟨c,pos,qual,_,_,e2⟩:=atT q2;rw[e]at e2;cases e2;cases d
  have htb:MH K mg (Dl s₁.heap H) H:=λx c Pt pos qual hm ht=>by
   obtain⟨hC,hP⟩:=hT x c Pt pos qual hm ht;obtain⟨o,YD,file,tf,flags,tg,inF,text,tt,c1,c2,c3⟩:=hC;obtain⟨bm,ob,b1,b2,b3,b4,b5,b6⟩:=hbm;refine⟨⟨#[],by rw[ut Pt _ (xr MZ (OT hm ht))];simp⟩,⟨o,YD,file,tf,flags,tg,inF,text,tt,A6 c1 (noB c1 c2 (by decide)),c2,c3⟩,bm,ob,b1,b2,λz=>?_,λz=>?_,A6 b3 (noB b3 b4 (by decide)),b4,b5,b6⟩
   .obtain⟨og,es,ep,e,hd,_⟩:=OU;rw[z,e]at b3;cases b3;rw[hd]at b6;cases b6
   .rw[z,hP]at b3;cases b3;cases b4
  have e0:AF P w K mg (Dl s₁.heap H) callerA [] s₁ H:=⟨rfl,hM,λb o e=>RZ e,Nat.le_of_eq (MI _ _),trivial,λb hb=>absurd (show b∈([]:List cF)from hb) (by simp),fU,.of_eq hg,htb⟩
  refine codeAny_mono ((F _ hKb (nsK OU)).run callerA [] s₁ H ⟨[.ref a],[]⟩ [.ref a] [.ref a] _ _ hr e0 (G3 s₁ (.ref a)) (.cons rfl .nil) (Lg H hS)) λr s' h=>?_
  cases r with
  |error e=>exact(hCX H e s' h).elim
  |ok fl=>
   cases fl with
   |next=>exact False.elim h
   |brk=>exact False.elim h
   |cont=>exact False.elim h
   |ret u=>
    obtain⟨v,H',os,bare,un,YE,r',q⟩:=h;have q':v=.bl true:=q;subst q';obtain rfl:u=Value.bool true:=r';refine⟨rfl,⟨λb o e=>?_,λb o e=>un.there b o e (by simp)⟩,os,bare⟩
    cases q:H b with
    |none=>exact .inl (un.keep b o e q (by intro z;exact absurd (show b∈([]:List cF)from z) (by simp)) (by simp))
    |some u=>
     rcases uo b u q with⟨_,_,rfl⟩|⟨ps,q2,rfl⟩
     .have z2:=un.E6 b _ _ q;obtain⟨e1,_⟩:=fU b _ q;obtain⟨e2,_⟩:=YE b _ z2;rw[e]at e1;cases e1;exact .inl e2
     .obtain⟨c,pos,qual,_,hC,e2⟩:=atT q2;obtain⟨more,e3⟩:=un.Dk b _ q;obtain⟨qs,e4,_⟩:=(show D9 H' s'.heap b (ps++more)from YE b _ e3)
      rw[e]at e2;cases e2;exact .inr (.inl ⟨(hC.tab e).isCodeTable,rfl,#[],qs,rfl,by rw[e4];simp⟩)
 cases hk:K.lookup a with
 |some o=>
  have e:=KX a o hk;rw[ha]at e;cases e;exact core (λ_=>none) (λb u z=>by cases z) (.inr ⟨_,vs.toArray,_,hk,rfl,rfl,rfl,by rw[au,abu];exact hl,by simpa using rv⟩)
 |none=>
  refine core (λb=>if b=a then some (.zW {cls:=.type "list",data:=.seq vs.toArray} (.l (ns.map V.int)))else none) (λb u z=>?_) (.inl (.inr ⟨{cls:=.type "list",data:=.seq vs.toArray},if_pos rfl⟩))
  by_cases hb:b=a
  .have z':=(if_pos hb).symm.trans z;cases z';exact⟨hb,hk,rfl⟩
  .have z':=(if_neg hb).symm.trans z;cases z'
def SF {l:W.OpenLaw}{n k:Nat}{q:cB}{loose:List Str}{YP:cC->Heap->Prop}{d:DefRec}{K:Params->W.Frag}{CX:cC->Sg}{sp:cC->Sp}{x:Str}(hn:l.most=some n) (Xl:n<=sizeLine) (Yz:d.params.defaults=[]) (hr:gc k callerA) (hY:∀(w:cC) (h:Heap),YP w h->(K w.params).In h) (OV:∀t∈vD,((recsOf q).find? λe=>e.name==t.1).isSome=true) (F:∀(w:cC) (mg:cm) (fa:cF) (h:Heap),(K w.params).In h->h.Ns mainGlobals mg->mg d.name=some (.ref fa)->
   tabsOk (K w.params)=true/\∃fd:cA,(∀(s:cz) (u:cy),BindsTo s fd ⟨[u],[]⟩ [(x,u)])/\
    ∀Zc:Heap,(K w.params).In Zc->Zc.Ns mainGlobals mg->gK l.prog w (K w.params) mg Zc (CX w) k fa fd [x] (sp w)) (Lg:∀(w:cC) (H:Hp) (a:cF) (ns:cq),ns.length<=n->ua (K w.params) H a (ns.map V.int)->sp w [.ref a] H (λv _=>v=.bl true) λ_ _ _=>False) (hCX:∀(w:cC) (H:Hp) (s:cz) (e:cy) (s':cz),CX w [] H s (λ_ _ _=>False) e s'->False):W.WalkO q loose XP YP l.row.toRowW d [] (λf vs=>PySem.call f vs):=by
 refine Att.G2 hn Yz λw s₀ s₁ mg mb fa o pm cd doc a vs ns G Y ho hd vG YA VR hints π hg=>?_
 have KX:=hY w _ Y;obtain⟨hK0,fd,hb,hF⟩:=F w mg fa _ KX G.T.g YA;refine MY KX G.T.g G.T.b G.T.builtins G.T.nolimit hg VR hints (aE π Xl) hr hK0 (λx c Pt pos qual hm ht=>?_) (let ⟨bm,ob,b1,b2,b3,b4,b5,b6⟩:=G.T.bmain;⟨bm,ob,b1,b2,b3,b4,b5,b6⟩) hF hb (λH hS=>Lg w H a ns π hS) λH e s'=>hCX w H s₁ e s'
 obtain⟨d',Um⟩:=Option.isSome_iff_exists.mp (OV _ hm);exact W.tab_of G.T KX Um ht
end L2
def qI {α β:Type}{o:Option α}{f:α->Option β}{b:β}(h:o.bind f=some b):∃a,o=some a/\f a=some b:=Option.bind_eq_some_iff.mp h
def yN {α β:Type}{o:Option α}{f:α->β}{b:β}(h:o.map f=some b):∃a,o=some a/\f a=b:=Option.map_eq_some_iff.mp h
def nq {α:Type}{c:Prop}{_:Decidable c}{o:Option α}{b:α}(h:(if c then o else none)=some b):c/\o=some b:=by
 split at h
 .exact⟨‹_›,h⟩
 .cases h
namespace L2
theorem ot (env:Env):∀(names:List (Str×NameKind)) (x:Str),
  (names.map λ(n,k)=>if(k==NameKind.free&&env.scope.kind==.function&&env.kindOf n==some .cell)then(n,NameKind.cell)else(n,k)).lookup x=
   (names.lookup x).map λk=>if(k==NameKind.free&&env.scope.kind==.function&&env.kindOf x==some .cell)then NameKind.cell else k
 |[],_=>rfl
 |(n,k)::r,x=>by
  have ih:=ot env r x;rw[aG];show List.lookup x ((if(k==NameKind.free&&env.scope.kind==.function&&env.kindOf n==some .cell)=true then(n,NameKind.cell)else(n,k))::_)=_
  by_cases hx:x=n
  .subst hx;by_cases hc:(k==NameKind.free&&env.scope.kind==.function&&env.kindOf x==some .cell)=true
   .rw[if_pos hc];simp only[bq,bO,bC];rw[if_pos hc]
   .rw[if_neg hc];simp only[bq,bO,bC];rw[if_neg hc]
  .have hb:(x==n)=false:=by simpa using hx
   by_cases hc:(k==NameKind.free&&env.scope.kind==.function&&env.kindOf n==some .cell)=true
   .rw[if_pos hc];simp only[bq,hb];exact ih
   .rw[if_neg hc];simp only[bq,hb];exact ih
theorem mem_lookup {α:Type}:∀{l:List (Str×α)}{x:Str}{a:α},l.lookup x=some a->(x,a)∈l
 |[],_,_,h=>by cases h
 |(n,b)::r,x,a,h=>by
  by_cases hx:x=n
  .subst hx;simp only[bq,bO,Option.some.injEq]at h;subst h;exact af
  .have hb:(x==n)=false:=by simpa using hx
   simp only[bq,hb]at h;exact aj _ (mem_lookup h)
def Bv (h:∀y∈scope.names,y.2=.free->∃c,env.cells.lookup y.1=some c):∃cl,closureFor scope env=pure cl/\(∀x c,cl.lookup x=some c->env.cells.lookup x=some c/\(x,NameKind.free)∈scope.names)/\(∀x,(x,NameKind.free)∈scope.names->∃c,cl.lookup x=some c):=by
 have loop:∀(l:List (Str×NameKind)) (υ:List (Str×cF)) (f:Str×NameKind->List (Str×cF)->Sem (ForInStep (List (Str×cF)))),
   (∀n k a,f (n,k) a=if(k==NameKind.free)=true then(do let c <-cellOf env n;pure (ForInStep.yield ((n,c)::a)))else pure (ForInStep.yield a))->
   (∀y∈l,y.2=.free->∃c,env.cells.lookup y.1=some c)->
   ∃cl,forIn l υ f=pure cl/\(∀x c,cl.lookup x=some c->υ.lookup x=some c\/(env.cells.lookup x=some c/\(x,NameKind.free)∈l))/\(∀x,((x,NameKind.free)∈l\/∃c,υ.lookup x=some c)->∃c,cl.lookup x=some c):=by
  intro l;induction l with
  |nil=>intro υ f _ _;exact⟨υ,rfl,λx c e=>.inl e,λx e=>e.elim (λz=>nomatch z) id⟩
  |cons y r ih=>
   intro υ f hf hl;obtain⟨n,k⟩:=y;have hr:∀y∈r,y.2=.free->∃c,env.cells.lookup y.1=some c:=λy hy=>hl y (aj _ hy)
   rw[forIn_cons,hf];by_cases hk:k=.free
   .subst hk;obtain⟨c,hc⟩:=hl (n,.free) af rfl;have ec:cellOf env n=pure c:=by unfold cellOf;rw[hc]
    rw[if_pos (by rfl),ec]
    obtain⟨cl,e1,e2,e3⟩:=ih ((n,c)::υ) f hf hr;refine⟨cl,by simpa using e1,λx d hx=>?_,λx hx=>e3 x ?_⟩
    .rcases e2 x d hx with z|⟨z1,z2⟩
     .by_cases Xo:x=n
      .subst Xo;simp only[bq,bO,Option.some.injEq]at z;subst z;exact .inr ⟨hc,af⟩
      .have hb:(x==n)=false:=by simpa using Xo
       simp only[bq,hb]at z;exact .inl z
     .exact .inr ⟨z1,aj _ z2⟩
    .by_cases Xo:x=n
     .subst Xo;exact .inr ⟨c,by simp[bq]⟩
     .have hb:(x==n)=false:=by simpa using Xo
      rcases hx with z|⟨d,z⟩
      .rcases mem_cons.mp z with z|z
       .cases z;exact absurd rfl Xo
       .exact .inl z
      .exact .inr ⟨d,by simp only[bq,hb];exact z⟩
   .have hb:(k==NameKind.free)=false:=by simpa using hk
    rw[if_neg (by rw[hb];exact bc)]
    obtain⟨cl,e1,e2,e3⟩:=ih υ f hf hr;refine⟨cl,by simpa using e1,λx d hx=>(e2 x d hx).elim .inl λz=>.inr ⟨z.1,aj _ z.2⟩,λx hx=>e3 x ?_⟩
    rcases hx with z|z
    .rcases mem_cons.mp z with z|z
     .cases z;exact absurd rfl hk
     .exact .inl z
    .exact .inr z
 have ec:closureFor scope env=forIn scope.names ([]:List (Str×cF)) (λ(x:Str×NameKind) a=>if(x.2==NameKind.free)=true then(do let c <-cellOf env x.1;pure (ForInStep.yield ((x.1,c)::a)))else pure (ForInStep.yield a)):=by
  unfold closureFor;simp only[bind_pure]
 obtain⟨cl,e1,e2,e3⟩:=loop scope.names [] (λ(x:Str×NameKind) a=>if(x.2==NameKind.free)=true then(do let c <-cellOf env x.1;pure (ForInStep.yield ((x.1,c)::a)))else pure (ForInStep.yield a)) (λn k a=>rfl) h
 refine⟨cl,?_,λx c hx=>?_,λx hx=>e3 x (.inl hx)⟩
 .rw[ec,e1]
 .rcases e2 x c hx with z|z
  .simp at z
  .exact z
noncomputable def fm (X:Cx) (scope:Scope) (cl:List (Str×cF)) (C:cF) (s:cz) (H:Hp) (fp:List cF):Cx:=
 {X with s₀:=s,H₀:=H,e:=compEnvC scope cl C X.e,ε:=X.stack,ex:=fp,fn:=λ_=>false,pn:=[],xe:=λ_ _=>False}
noncomputable def rN (N:List Str) (ε names:List (Str×NameKind)) (xs:List Str):Bool:=
 names.all (λy=>(y.2!=.cell&&(y.2!=.local||xs.contains y.1|| !(N.contains y.1)))&&(y.2!=.local||names.lookup y.1==some .local)&&(y.2!=.free||((ε.lookup y.1==some .cell||ε.lookup y.1==some .free)&&names.lookup y.1==some .free)))&&xs.all λx=>names.lookup x==some .local
structure wu (X:Cx) (scope:Scope) (x:Str) (j:Nat):Prop where
 kind:scope.kind=.function
 ok:rN X.N X.e.scope.names scope.names [x]=true
 hj:X.N[j]? =some x
 nd:X.N.Nodup
abbrev OW (X:Cx) (scope:Scope):Prop:=∀y∈scope.names,y.2≠.cell/\(y.2=.local->scope.names.lookup y.1=some .local)/\(y.2=.free->(X.e.kindOf y.1=some .cell\/X.e.kindOf y.1=some .free)/\scope.names.lookup y.1=some .free)
section
variable {X:Cx}{scope:Scope}{xs:List Str}
def JB (h:rN X.N X.e.scope.names scope.names xs=true):OW X scope:=λy hy=>by
 unfold rN at h;have h1:=(all_eq_true.mp (Bool.and_eq_true_iff.mp h).1) y hy;have h2:=Bool.and_eq_true_iff.mp h1;have h3:=Bool.and_eq_true_iff.mp h2.1;have h0:=Bool.and_eq_true_iff.mp h3.1;refine⟨by simpa using h0.1,λe=>?_,λe=>?_⟩
 .have:=h3.2;rw[e]at this
  simpa using this
 .have:=h2.2;rw[e]at this;exact(by simpa using this:(X.e.scope.names.lookup y.1=some .cell\/X.e.scope.names.lookup y.1=some .free)/\scope.names.lookup y.1=some .free)
def SG (h:rN X.N X.e.scope.names scope.names xs=true) (hm:(y,NameKind.local)∈scope.names) {i:Nat}(e:X.N[i]? =some y):y∈xs:=by
 unfold rN at h;have h1:=(all_eq_true.mp (Bool.and_eq_true_iff.mp h).1) _ hm;have h2:=Bool.and_eq_true_iff.mp h1;have h3:=Bool.and_eq_true_iff.mp h2.1;have h0:=(Bool.and_eq_true_iff.mp h3.1).2;have hN:y∈X.N:=bj e;have hN':X.N.contains y=true:=by simpa using hN
 simp only[hN',bne_self_eq_false,Bool.false_or,bU,Bool.or_false]at h0
 simpa using h0
def Uy (h:rN X.N X.e.scope.names scope.names xs=true) {x:Str}(hx:x∈xs):scope.names.lookup x=some .local:=by
 unfold rN at h
 simpa using (all_eq_true.mp (Bool.and_eq_true_iff.mp h).2) x hx
end
def OX (X:Cx) (ifs:List cG) (t:TT):Prop:=
 ∀(cL:cn) (s:cz) (O:St) (H:Hp) (Q:Bool->Hp->Prop),η X cL O H s->t O H Q->
  X.mO (forIn ifs true λc r=>if r=true then do let ok <-isTrue c X.e (eval c X.e);pure (ForInStep.yield ok)else pure (ForInStep.yield r)) (TP X cL O Q) X.xe s
def YF:TT:=λ_ H Q=>Q true H
def G4:OX X [] YF:=λ_ _ _ H _ I h=>wpAny_tests_nil ⟨H,I,h⟩
def G5 {X:Cx}{t:TT}(h:PT X c t):OX X [c] t:=λcL s O H Q I q=>wpAny_tests_one (h cL s O H Q I q)
abbrev TZ:=St->V->Hp->(St->Hp->Prop)->Prop
def OY (wi:TI) (Z:TZ) (tt:TT) (te:TE):TE:=λO H Q=>wi O H λJ H1=>∀D,H1 D=none->∃W:Nat->Nat->List V->Hp->Prop,(∃m,W 0 m [] (ν H1 D (.l [])))/\
 ∀i m υ H,W i m υ H->(J.stop i H/\Q (.ref D) H)\/(J.go i H/\∀x H',J.R6 i H x H'->Z O x H' λσ' H'=>tt σ' H' λb H2=>
  if b=true then te σ' H2 λy H3=>H3 D=some (.l υ)/\υ.length<sizeLine/\∃m',m'<m/\W (i+1) m' (υ++[y]) (ν H3 D (.l (υ++[y])))else ∃m',m'<m/\W (i+1) m' υ H2)
abbrev OZ (wi:TI) (j:Nat) (tt:TT) (te:TE):TE:=OY wi (λO x H' k=>k (O.set j (some x)) H') tt te
structure O0 (X:Cx) (scope:Scope) (tg:cG) (Z:TZ):Prop where
 kind:scope.kind=.function
 all:OW X scope
 tgt:∀O:St,O.length=X.N.length->∃z:St,z.length=O.length/\(∀(i:Nat) y v,X.N[i]? =some y->z[i]? =some (some v)->O[i]? =some (some v)/\(y,NameKind.local)∉scope.names)/\
  ∀cl C s H fp,∃g,PG (fm X scope cl C s H fp) tg g/\∀x H' k,Z O x H' k->g x z H' λσ' H''=>(∀(k:Nat) v,z[k]? =some (some v)->σ'[k]? =some (some v))/\k σ' H''
theorem Fn {γ:cB}{w:cC}{A:cD}{s:cz}{elt target iter:cG}{ifs:List cG}{scope:Scope}{pos:Pos}{it υ:cy}{env:Env}(I:Nat->cz->Prop) (turn:∀n s,I n s->jH γ w A (pyNext it) (λr s₁=>match r with
   |none=>R (.ok .next) s₁
   |some v=>jH γ w A (letOwnedTupleGo target it v) (λ_ s₁=>jH γ w A (assign target env v) (λ_ s₂=>
     jH γ w A (forIn ifs true λc r=>if r=true then do let ok <-isTrue c env (eval c env);pure (ForInStep.yield ok)else pure (ForInStep.yield r)) (λok s₃=>
      if ok=true then jH γ w A (eval elt env) (λx s₄=>
       jH γ w A (call (.builtin "list.append") [υ,x]) (λ_ s₅=>∃m,m<n/\I m s₅) (λ_ _=>False) s₄) (λ_ _=>False) s₃
      else ∃m,m<n/\I m s₃) (λ_ _=>False) s₂) (λ_ _=>False) s₁) (λ_ _=>False) s₁) (λ_ _=>False) s) (n:Nat) (h:I n s):codeAny (model γ w) A (.compLoop (.ListComp elt [⟨target,iter,ifs,0⟩] scope pos) 0 it υ env) R s:=by
 refine codeAny_loop rfl I (λn s hI=>?_) n h
 show wpAny _ A ((compTurn (.ListComp elt [⟨target,iter,ifs,0⟩] scope pos) 0 it υ env).onRaise (λx=>do noteFrame x env;theTreesLotGoes x)) _ _ s
 refine wpAny_noted ?_;rw[compTurn_list];refine aa (wpAny_standAt (aa (bQ (turn n s hI) (λr s₁ h₁=>?_) λ_ _ h'=>h'.elim)))
 cases r with
 |none=>exact ak h₁
 |some v=>
  refine aa (bQ h₁ (λ_ s₁ h₁=>?_) λ_ _ h'=>h'.elim)
  refine aa (bQ h₁ (λ_ s₂ h₂=>aa (bQ h₂ (λok s₃ h₃=>?_) λ_ _ h'=>h'.elim)) λ_ _ h'=>h'.elim)
  cases ok with
  |false=>exact ak ⟨rfl,h₃⟩
  |true=>
   exact aa (aa (bQ h₃ (λx s₄ h₄=>aa (bQ h₄ (λ_ s₅ h₅=>ak (ak ⟨rfl,h₅⟩)) λ_ _ h'=>h'.elim)) λ_ _ h'=>h'.elim))
def Bw (hc:X.calm=true) (S:O0 X scope tg Z) (xf:closureFor scope X.e=pure cl) (Ek:∀y c,cl.lookup y=some c->X.e.cells.lookup y=some c/\(y,NameKind.free)∈scope.names) (O1:∀y,(y,NameKind.free)∈scope.names->∃c,cl.lookup y=some c) (ht:∀cl C s H fp,OX (fm X scope cl C s H fp) ifs tt) (he:∀cl C s H fp,PE (fm X scope cl C s H fp) elt te) {Q:VK}(I2:η X cL O H2 s₂) (T:Turn X.γ X.w X.K tg J fp it tn) (RQ:tn 0 s₂.heap) (f2:∀b∈fp,yQ X cL H2 b) (hR:∀D,H2 D=none->∃W:Nat->Nat->List V->Hp->Prop,(∃m,W 0 m [] (ν H2 D (.l [])))/\
   ∀i m υ H,W i m υ H->(J.stop i H/\Q (.ref D) H)\/(J.go i H/\∀x H',J.R6 i H x H'->Z O x H' λσ' H'=>tt σ' H' λb H2=>
    if b=true then te σ' H2 λy H3=>H3 D=some (.l υ)/\υ.length<sizeLine/\∃m',m'<m/\W (i+1) m' (υ++[y]) (ν H3 D (.l (υ++[y])))else ∃m',m'<m/\W (i+1) m' υ H2)) {RR:cy->cF->Result->cz->Prop}(hRR:∀D C s' H' m',s₂.heap.objs.size<=C->η X cL O H' s'->s'.heap.Ns C m'->H' C=none->Q (.ref D) H'->RR (.ref D) C (.ok .next) s'):X.mO (newList []) (λυ s₃=>X.mO (newFunctionEnv scope X.e.globals cl [] X.e.qual none .none (some X.e)) (λYG s₄=>
   codeAny (model X.γ X.w) X.A (.compStart (.ListComp elt [⟨tg,iter,ifs,0⟩] scope pos) 0 (.ref it) υ {YG with scope:=relabel scope X.e}) (RR υ YG.locals) s₄) E s₃) E s₂:=by
 have A1:=S.all;obtain⟨z,zl,z0,zg⟩:=S.tgt O I2.len;refine bS (wpAny_newFunctionEnv (λy hy=>(A1 y hy).1) (by intro y hy;simp at hy) (λh₁ SH O2=>?_) S.kind)
 dsimp only at SH O2 ⊢;generalize YH:s₂.heap.push {cls:=.type "list",dict:=none,data:=.seq ([]:cx).toArray}=G at SH O2 ⊢;have hC:G.objs.size=s₂.heap.objs.size+1:=by rw[<-YH,Heap.size_push]
 have hDC:s₂.heap.objs.size≠G.objs.size:=by rw[hC];exact aF (Nat.lt_succ_self _)
 have JC:s₂.heap.objs.size<=G.objs.size:=by rw[hC];exact Nat.le_succ _
 have below:∀b,b<s₂.heap.objs.size->b≠G.objs.size/\b≠s₂.heap.objs.size:=λb hb=>⟨by rw[hC];exact aF (Nat.lt_succ_of_lt hb),aF hb⟩
 have old:∀b o,s₂.heap.get? b=some o->h₁.get? b=some o:=λb o e=>O2.extBut b o (below b (aD e)).1 (ag _ (YH▸ag _ e))
 have vH:h₁.get? s₂.heap.objs.size=some {cls:=.type "list",data:=.seq ([]:cx).toArray 0}:=O2.extBut _ _ hDC (ag _ (YH▸aB _ rfl));generalize hCn:G.objs.size=C at SH O2 hC hDC JC below ⊢;generalize JD:s₂.heap.objs.size=D at vH hC hDC JC below ⊢;have hD2:H2 D=none:=by rw[<-JD];exact I2.fU.fresh (av _)
 have hC2:H2 C=none:=I2.fU.fresh (by rw[JD];exact JC)
 obtain⟨W,⟨m0,w0⟩,turn⟩:=hR D hD2;have O3:∀b∈fp,b<D:=λb hb=>by
  obtain⟨o,e,_⟩:=T.obj 0 _ RQ b hb;rw[<-JD];exact aD e
 have ok:(fm X scope cl C s₂ H2 fp).Ok:=by
  have o:=I2.ok;refine⟨o.mod,S.kind,o.glob,o.blt,by show s₂.heap.objs.size<=C;rw[JD];exact JC,λy z c e1 e2=>o.inj y z c (Ek y c e1).1 (Ek z c e2).1,λy hy=>?_,λy c z=>(by cases z),o.hd,o.frames,.inl rfl,λb hb=>⟨?_,λy c e=>(f2 b hb).2.2.2.2.1 y c (Ek y c e).1⟩,
   λb ob e=>I2.bs b ob e,aE o.NZ I2.sz,λb ob e hb=>?_,λb hb z=>?_,I2.stack,I2.La,I2.ok.tb.un I2.Zc⟩
  .have q:((relabel scope X.e).names.lookup y=some .cell\/(relabel scope X.e).names.lookup y=some .free):=hy;have e:=ot X.e scope.names y;have fr:scope.names.lookup y=some .free:=by
    cases k:scope.names.lookup y with
    |none=>
     rw[k]at e;have e':(relabel scope X.e).names.lookup y=none:=e;rw[e']at q;rcases q with q|q<;>cases q
    |some kk=>
     by_cases hk:kk=.free
     .rw[hk]
     .rw[k]at e;have hb:(kk==NameKind.free)=false:=by simpa using hk
      have e':(relabel scope X.e).names.lookup y=some kk:=by
       refine e.trans ?_;simp only[bC,hb,Bool.false_and,aJ,bF]
      rw[e']at q;have hm:(y,kk)∈scope.names:=mem_lookup k;rcases q with q|q
      .exact absurd (aT q) (A1 _ hm).1
      .exact absurd (aT q) hk
   exact O1 y (mem_lookup fr)
  .show b≠C;exact aF (ay (O3 b hb) JC)
  .rcases(f2 b hb).2.2.2.1 with z|z
   .exact o.Of b ob e z
   .exact absurd (ay (aD e) (aE o.NZ z)) (Nat.lt_irrefl _)
  .rcases mem_cons.mp (I2.yO b z)with z|z
   .exact(f2 b hb).2.1 z
   .exact(f2 b hb).2.2.1 z
 have YI:Un (Dm X.stack) fp H2 (ν H2 D (.l [])) s₂.heap h₁:=Un.laid old (by rw[JD];exact av _) hD2
 have SI:∀y c,cl.lookup y=some c->c<D:=λy c e=>by
  obtain⟨v,z⟩:=I2.cell y c (Ek y c e).1;rw[<-JD];exact z.lt
 have Jp:∀{H':Hp},(∀b∈fp,H' b=none)->∀b∈fp,yQ (fm X scope cl C s₂ H2 fp) [] H' b:=λhn b hb=>
  ⟨hn b hb,aF (ay (O3 b hb) JC),λz=>(mem_cons.mp (I2.yO b z)).elim (λq=>(f2 b hb).2.1 q) λq=>(f2 b hb).2.2.1 q,.inl hb,λy c e=>(f2 b hb).2.2.2.2.1 y c (Ek y c e).1,(λp hp=>nomatch hp)⟩
 have start:η (fm X scope cl C s₂ H2 fp) [] z (ν H2 D (.l [])) {s₂ with heap:=h₁,toks:=s₂.toks+([]:List (Str×cy)).length}:=by
  refine⟨ok,rfl,I2.bare,YI,⟨_,SH,λi y v e1 e2 e3=>?_⟩,λy c e=>?_,?_,λy c e=>?_,(λp hp=>nomatch hp),?_,?_⟩
  .obtain⟨m,hn,hl⟩:=I2.loc;obtain⟨e2,Yt⟩:=z0 i y v e1 e2
   .skip
    have e3':(relabel scope X.e).names.lookup y=some .local\/(relabel scope X.e).names.lookup y=some .cell\/(relabel scope X.e).names.lookup y=some .free:=e3;have er:=ot X.e scope.names y;have er':(relabel scope X.e).names.lookup y=(scope.names.lookup y).map λk=>if(k==NameKind.free&&X.e.scope.kind==.function&&X.e.kindOf y==some .cell)then NameKind.cell else k:=er
    cases k:scope.names.lookup y with
    |none=>
     rw[k]at er';have VT:(relabel scope X.e).names.lookup y=none:=er';rw[VT]at e3';rcases e3' with q|q|q<;>cases q
    |some kk=>
     have hm:(y,kk)∈scope.names:=mem_lookup k;obtain⟨a1,a2,a3⟩:=A1 _ hm;by_cases hk:kk=.free
     .subst hk;obtain⟨o1,_⟩:=a3 rfl;have abw:Vi X.e.scope y:=o1.elim (λz=>.inr (.inl z)) λz=>.inr (.inr z)
      obtain⟨u,r,l⟩:=hl i y v e1 e2 abw;obtain⟨c',tZ⟩:=O1 y hm;refine⟨u,r,.inr ⟨?_,c',tZ,?_⟩⟩
      .show(relabel scope X.e).names.lookup y=some .cell\/(relabel scope X.e).names.lookup y=some .free;rw[er',k];simp only[bC];split
       .exact .inl rfl
       .exact .inr rfl
      .rcases l with⟨l1,_⟩|⟨_,c,ec,z⟩
       .rcases o1 with o1|o1<;>(rw[l1]at o1;cases o1)
       .have ec2:=(Ek y c' tZ).1;rw[ec]at ec2;cases ec2;obtain⟨oc,ho,hd⟩:=z;exact⟨oc,old _ _ ho,hd⟩
     .have hb:(kk==NameKind.free)=false:=by simpa using hk
      have VT:(relabel scope X.e).names.lookup y=some kk:=by rw[er',k];simp only[bC,hb,Bool.false_and,aJ,bF]
      rw[VT]at e3';rcases e3' with q|q|q
      .
       cases q;exact absurd hm Yt
      .cases q;exact absurd rfl a1
      .cases q;exact absurd rfl hk
  .obtain⟨v,oc,ho,hd⟩:=I2.cell y c (Ek y c e).1;exact⟨v,oc,old _ _ ho,hd⟩
  .show ν H2 D (.l []) C=none;rw[de (Ne.symm hDC)];exact hC2
  .rw[de (aF (SI y c e))];exact I2.tG y c (Ek y c e).1
  .exact I2.fU.laid old (by rw[JD];exact av _) ⟨bM _,[],0,.nil,vH⟩
  .exact zl.trans I2.len
 have st1:tn 0 h₁:=T.keep _ _ _ RQ λb hb o e=>old b o e
 have fr1:∀b∈fp,ν H2 D (.l []) b=none:=λb hb=>by rw[de (aF (O3 b hb))];exact(f2 b hb).1
 obtain⟨g,pg,hg⟩:=zg cl C s₂ H2 fp;have loop:∀s₄:cz,s₄={s₂ with heap:=h₁,toks:=s₂.toks+([]:List (Str×cy)).length}->
   codeAny (model X.γ X.w) X.A (.compLoop (.ListComp elt [⟨tg,iter,ifs,0⟩] scope pos) 0 (.ref it) (.ref D) (compEnvC scope cl C X.e)) (RR (.ref D) C) s₄:=by
  rintro s₄ rfl
  refine Fn (λn s'=>∃i υ H',η (fm X scope cl C s₂ H2 fp) [] z H' s'/\tn i s'.heap/\(∀b∈fp,H' b=none)/\W i n υ H') ?_ m0 ⟨0,[],_,start,st1,fr1,w0⟩
  rintro n s3 ⟨i,υ,H3,I3,X5,X6,w3⟩
  rcases turn i n υ H3 w3 with⟨stop,qn⟩|⟨go,step⟩
  .refine xc (T.done (fm X scope cl C s₂ H2 fp) rfl rfl rfl hc i [] s3 _ H3 _ I3 (Jp X6) X5 stop) λr s4 ⟨hr,I4⟩=>?_
   subst hr;obtain⟨m',E7,_⟩:=I4.loc;exact hRR D C s4 H3 m' (by rw[JD];exact JC) (I2.XS (ch:=fp) I4.os I4.Zc I4.fU I4.bare λb hb=>⟨(f2 b hb).2.2.2.1,(f2 b hb).2.1,(f2 b hb).2.2.2.2.1,(f2 b hb).2.2.2.2.2⟩) E7 I4.free qn
  .refine xc (T.item (fm X scope cl C s₂ H2 fp) rfl rfl rfl hc i [] s3 _ H3 _ I3 (Jp X6) X5 go) λr s4 ⟨u,hr,h4⟩=>?_
   subst hr;refine xc h4 λ_ s5 ⟨y,H5,I5,r5,y5,Vw,fr5⟩=>?_
   have I5':=I5.pinned (Jp fr5) (T.obj _ _ Vw);refine xc (pg _ s5 _ H5 y u _ I5' r5 (hg y H5 _ (step y H5 y5))) λ_ s6 ⟨σ6,H6,I6,wk,q6⟩=>?_
   refine Xj (ht cl C s₂ H2 fp _ s6 _ H6 _ I6 q6) λb s7 H7 I7 q7=>?_
   have again:∀{H8:Hp}{s8:cz}{VU:List V},η (fm X scope cl C s₂ H2 fp) ([]++Bj fp s5.heap) σ6 H8 s8->(∃m',m'<n/\W (i+1) m' VU H8)->∃m,m<n/\∃i υ H',η (fm X scope cl C s₂ H2 fp) [] z H' s8/\tn i s8.heap/\(∀b∈fp,H' b=none)/\W i m υ H':=λ{H8 s8 VU} I8 ⟨m',hm,w8⟩=>by
    refine⟨m',hm,i+1,VU,H8,I8.xk.weak (zl.trans (I2.len.trans I8.len.symm)) wk,T.keep _ _ _ Vw λb hb o e=>(I8.pin (b,o) (aM _ (aM _ (rK hb e)))).1,λb hb=>?_,w8⟩
    .obtain⟨o,e,d⟩:=T.obj _ _ Vw b hb;exact(I8.pin (b,o) (aM _ (aM _ (rK hb e)))).2.1
   cases b with
   |false=>exact again I7 (by simpa using q7)
   |true=>
    simp only[if_true]at q7 ⊢;refine pH (he cl C s₂ H2 fp _ s7 _ H7 _ I7 q7) λv s8 z H8 I8 r8 ⟨hD8,hz8,q8⟩=>?_
    refine pH (Ei (X:=fm X scope cl C s₂ H2 fp) _ s8 _ H8 (.ref D) [z] (.ref D) [v] (λ_ H9=>∃m',m'<n/\W (i+1) m' (υ++[z]) H9) I8 rfl (.cons r8 .nil) ⟨D,υ,z,rfl,rfl,hD8,hz8,q8⟩) λ_ s9 _ H9 I9 _ q9=>?_
    exact again I9 q9
 exact codeAny_compStart_list (loop _ rfl) (T.self _ 0 _ _ _ st1 (loop _ rfl))
def By (I0:X.Ok) (S:OW X scope):∃cl,closureFor scope X.e=pure cl/\(∀y c,cl.lookup y=some c->X.e.cells.lookup y=some c/\(y,NameKind.free)∈scope.names)/\(∀y,(y,NameKind.free)∈scope.names->∃c,cl.lookup y=some c):=
 Bv λy hy e=>I0.has y.1 ((S y hy).2.2 e).1
def Lk (hc:X.calm=true) (S:O0 X scope tg Z) (hi:PI X tg iter wi) (ht:∀cl C s H fp,OX (fm X scope cl C s H fp) ifs tt) (he:∀cl C s H fp,PE (fm X scope cl C s H fp) elt te)
  (hs:∀v,foldedSetIterable iter X.e v=pure v:=by intro _;rfl):PE X (.ListComp elt [⟨tg,iter,ifs,0⟩] scope pos) (OY wi Z tt te):=by
 intro cL s O H Q I h;obtain⟨cl,xf,Ek,O1⟩:=By I.ok S.all;rw[eval_ListComp];refine wpAny_comprehension_free (use:=none) rfl hs xf S.kind (λy hy=>(S.all y hy).2.1) (xc (hi cL s O H _ I h) λv s1 h1=>xc h1 λZ8 s2 h2=>?_)
 obtain⟨it,fp,tn,J,H2,e,I2,T,RQ,f2,hR⟩:=h2;subst e;refine Bw hc S xf Ek O1 ht he I2 T RQ f2 hR (RR:=λυ C=>compPost (model X.γ X.w) X.A X.xe none (EP X cL O Q) υ C) ?_
 intro D C s' H' m' hC I' hn hf q;refine⟨m',hn,λh' Du=>⟨.ref D,H',?_,rfl,q⟩⟩
 exact I'.turned (t':=s'.toks) (it:=C) (λb o hb e=>(Du.2 b hb).trans e) hf (bz (ay I2.lt hC)) (.inr (aE I2.sz hC))
  (λy c e z=>by obtain⟨v,q⟩:=I2.cell y c e;exact absurd (ay q.lt (by rw[z];exact hC)) (Nat.lt_irrefl _)) λp hp z=>absurd (ay (aD (I2.pin p hp).1) (by rw[z];exact hC)) (Nat.lt_irrefl _)
def G6 (i:Nat) (t:TE):TS:=λDn O H=>t O H λv H1=>Dn.nx (O.set i (some v)) H1
def wu.G (S:wu X scope x j):O0 X scope (.Name x px) λO x H' k=>k (O.set j (some x)) H':=⟨S.kind,JB S.ok,λO hl=>by
 have hj:j<O.length:=by rw[hl];exact(List.getElem?_eq_some_iff.mp S.hj).1
 have zc:∀{i v},(O.set j none)[i]? =some (some v)->i≠j/\O[i]? =some (some v):=λ{i v} e=>by
  by_cases h:i=j
  .subst h;rw[bf hj]at e;cases e
  .rw[aH (Ne.symm h)]at e;exact⟨h,e⟩
 refine⟨O.set j none,length_set,λi y v e1 e2=>⟨(zc e2).2,λhm=>(zc e2).1 ?_⟩,λcl C s H fp=>⟨_,fx (X:=fm X scope cl C s H fp) S.nd S.hj (.inl (lookup_relabel_local (Uy S.ok (by simp)))) (.inr (lookup_relabel_local (Uy S.ok (by simp)))),λx H' k h=>⟨λi v e=>?_,?_⟩⟩⟩
 .have:=SG S.ok hm e1;simp at this;subst this;exact Bh S.nd e1 S.hj
 .rw[aH (Ne.symm (zc e).1)];exact e
 .rw[set_set];exact h⟩
def Bz (hc:X.calm=true) (S:wu X scope x j) (hi:PI X (.Name x px) iter wi) (ht:∀cl C s H fp,OX (fm X scope cl C s H fp) ifs tt) (he:∀cl C s H fp,PE (fm X scope cl C s H fp) elt te) (hN:X.N[i]? =some y) (hy:Loc X.e.scope y) (hf:X.fn y=true\/X.e.scope.names.lookup y=some .local) (YJ:swapsWith (.ListComp elt [⟨.Name x px,iter,ifs,0⟩] scope pos) (some (.Name y py)) Fp.line X.e=pure true) (hs:∀v,foldedSetIterable iter X.e v=pure v:=by intro _;rfl):PS X (.Assign [.Name y py] (.ListComp elt [⟨.Name x px,iter,ifs,0⟩] scope pos) Fp) (G6 i (OZ wi j tt te)):=by
 intro cL s O H Dn I h;obtain⟨cl,xf,Ek,O1⟩:=By I.ok (JB S.ok);rw[exec_Assign_Name_used _ _ _ _ YJ];refine aa (wpAny_standAt (aa ?_));show wpAny _ X.A (do let _ <-comprehension (.ListComp elt [⟨.Name x px,iter,ifs,0⟩] scope pos) scope X.e _ (newList []) false (eval iter X.e) (some (assign (.Name y py) X.e))) _ _ s
 refine aa (bQ (wpAny_comprehension_free (use:=some (assign (.Name y py) X.e)) (Q:=λ_ s'=>SP X cL Dn .next s') rfl hs xf S.kind (λy hy=>(JB S.ok y hy).2.1)
  (xc (hi cL s O H _ I h) λv s1 h1=>xc h1 λZ8 s2 h2=>?_)) (λ_ s' hq=>ak (ak hq)) λ_ _ e=>e)
 obtain⟨it,fp,tn,J,H2,e,I2,T,RQ,f2,hR⟩:=h2;subst e;refine Bw (Q:=λv H1=>Dn.nx (O.set i (some v)) H1) hc S.G xf Ek O1 ht he I2 T RQ f2 hR (RR:=λυ C=>compPost (model X.γ X.w) X.A X.xe (some (assign (.Name y py) X.e)) (λ_ s'=>SP X cL Dn .next s') υ C) ?_
 intro D C s' H' m' hC I' hn N3 q;show wpAny _ X.A (assign (.Name y py) X.e (.ref D)) _ _ _;have hLC:C≠X.e.locals:=bz (ay I2.lt hC);have hcC:∀y c,X.e.cells.lookup y=some c->c≠C:=λy c e z=>by obtain⟨v,q⟩:=I2.cell y c e;exact absurd (ay q.lt (by rw[z];exact hC)) (Nat.lt_irrefl _)
 refine wpAny_assign_Name (Ea (v:=.ref D) I' S.nd hN hy rfl (λs6 I6 hs6=>?_) hf)
 obtain⟨a,RV,ha⟩:=hs6;have hCa:C≠a:=ha.elim (λz=>by rw[z];exact hLC) λz w=>hcC _ _ z w.symm
 refine⟨m',hn.sameBut RV hCa,λh' Du=>⟨_,H',?_,q⟩⟩
 exact I6.turned (t':=s6.toks) (it:=C) (λb o hb e=>(Du.2 b hb).trans e) N3 hLC (.inr (aE I2.sz hC)) hcC λp hp z=>absurd (ay (aD (I2.pin p hp).1) (by rw[z];exact hC)) (Nat.lt_irrefl _)
end L2
namespace So
open PySem.W
noncomputable def ju {α:Type}(lt:Nat->Nat->Bool):KasT α->α
 |.ret a=>a
 |.ask i j k=>ju lt (k (lt i j))
theorem nZ (lt:Nat->Nat->Bool) (f:α->KasT β):∀t:KasT α,ju lt (t.bind f)=ju lt (f (ju lt t))
 |.ret _=>rfl
 |.ask i j k=>nZ lt f (k (lt i j))
section
variable (rank:Nat->Int)
noncomputable def kk (p:Array Nat) (i:Nat):Int:=rank (p.getD i 0)
def JE (p:Array Nat) (n:Nat):Prop:=∀i j,i<=j->j<n->kk rank p i<=kk rank p j
def Dec (p:Array Nat) (n:Nat):Prop:=∀i j,i<=j->j<n->kk rank p j<=kk rank p i
variable {rank}
theorem G7 (h:p[i]? =q[j]?):kk rank p i=kk rank q j:=by
 unfold kk;rw[aU,aU,h]
theorem JF (hj:j<=p.size) (k:Nat):kk rank (kas_rev p i j) k=if i<=k/\k<j then kk rank p (i+j-1-k)else kk rank p k:=by
 have e:=getElem?_mirror_all (xs:=p) (i:=i) hj k;unfold kas_rev;split
 .rename_i h;rw[if_pos h]at e;exact G7 e
 .rename_i h;rw[if_neg h]at e;exact G7 e
theorem yW (hj:j<=p.size) (he:∀k,i<=k->k<j->kk rank p k=kk rank p (j-1)) (k:Nat):kk rank (kas_rev p i j) k=kk rank p k:=by
 rw[JF hj];split
 .rw[he _ (by omega) (by omega),he k (by omega) (by omega)]
 .rfl
theorem j5 (p:Array Nat) (i j:Nat):(kas_rev p i j).Perm p:=mirror_perm _ _ _ _
theorem BA (p:Array Nat) (i j:Nat):(kas_rev p i j).size=p.size:=(j5 p i j).size_eq
theorem JE.snoc (h:JE rank p n) (h1:1<=n) (hx:kk rank p (n-1)<=kk rank p n):JE rank p (n+1):=λi j G8 hj=>by
 by_cases VV:j<n
 .exact h i j G8 VV
 .have e:j=n:=by omega
  subst e;by_cases hi:i=j
  .subst hi;exact Int.le_refl _
  .exact Int.le_trans (h i (j-1) (by omega) (by omega)) hx
theorem Dec.snoc (h:Dec rank p n) (h1:1<=n) (hx:kk rank p n<=kk rank p (n-1)):Dec rank p (n+1):=λi j G8 hj=>by
 by_cases VV:j<n
 .exact h i j G8 VV
 .have e:j=n:=by omega
  subst e;by_cases hi:i=j
  .subst hi;exact Int.le_refl _
  .exact Int.le_trans hx (h i (j-1) (by omega) (by omega))
theorem Dec.congr (h:Dec rank p n) (e:∀k,kk rank q k=kk rank p k):Dec rank q n:=λi j G8 hj=>by rw[e,e];exact h i j G8 hj
variable {lt:Nat->Nat->Bool} (fR:∀i j,lt i j=decide (rank i<rank j))
include fR
theorem O4 {p:Array Nat}(f n:Nat):ju lt (kas_asc p (f+1) n)=if rank (p.getD n 0)<rank (p.getD (n-1) 0)then n else ju lt (kas_asc p f (n+1)):=by
 show ju lt (if lt (p.getD n 0) (p.getD (n-1) 0)=true then KasT.ret n else kas_asc p f (n+1))=_
 rw[fR];by_cases c:rank (p.getD n 0)<rank (p.getD (n-1) 0)
 .rw[aS c,if_pos rfl,if_pos c];rfl
 .rw[aI c,if_neg bc,if_neg c]
theorem Fq {p:Array Nat}:∀(f n:Nat),1<=n->JE rank p n->let m:=ju lt (kas_asc p f n);n<=m/\m<=n+f/\JE rank p m/\(m=n+f\/kk rank p m<kk rank p (m-1))
 |0,n,h1,h=>⟨av _,av _,h,.inl rfl⟩
 |f+1,n,h1,h=>by
  dsimp only;rw[O4 fR];by_cases c:rank (p.getD n 0)<rank (p.getD (n-1) 0)
  .rw[if_pos c];exact⟨av _,by omega,h,.inr c⟩
  .rw[if_neg c];have ih:=Fq f (n+1) (by omega) (h.snoc h1 (by show rank _<=rank _;omega))
   dsimp only at ih;obtain⟨a,b,c',d⟩:=ih;exact⟨by omega,by omega,c',d.elim (λz=>.inl (by omega)) .inr⟩
theorem M1 (f:Nat) (p:Array Nat) (n q:Nat):ju lt (kas_desc (f+1) p n q)=if rank (p.getD n 0)<rank (p.getD (n-1) 0)then(if q>0 then ju lt (kas_desc f (kas_rev p (n-(q+1)) n) (n+1) 0)else ju lt (kas_desc f p (n+1) 0))
  else if rank (p.getD (n-1) 0)<rank (p.getD n 0)then(p,n,q)else ju lt (kas_desc f p (n+1) (q+1)):=by
 show ju lt (if lt (p.getD n 0) (p.getD (n-1) 0)=true then(if q>0 then kas_desc f (kas_rev p (n-(q+1)) n) (n+1) 0 else kas_desc f p (n+1) 0)
  else .ask (p.getD (n-1) 0) (p.getD n 0) λd=>if d=true then .ret (p,n,q)else kas_desc f p (n+1) (q+1))=_
 rw[fR];by_cases c:rank (p.getD n 0)<rank (p.getD (n-1) 0)
 .rw[aS c,if_pos rfl,if_pos c];split<;>rfl
 .rw[aI c,if_neg bc,if_neg c];show ju lt (if lt (p.getD (n-1) 0) (p.getD n 0)=true then KasT.ret (p,n,q)else kas_desc f p (n+1) (q+1))=_
  rw[fR];by_cases c2:rank (p.getD (n-1) 0)<rank (p.getD n 0)
  .rw[aS c2,if_pos rfl,if_pos c2];rfl
  .rw[aI c2,if_neg bc,if_neg c2]
theorem xt:∀(f:Nat) (p:Array Nat) (n q:Nat),1<=n->n+f<=p.size->Dec rank p n->q+1<=n->(∀i,n-(q+1)<=i->i<n->kk rank p i=kk rank p (n-1))->
  let r:=ju lt (kas_desc f p n q);r.1.Perm p/\n<=r.2.1/\r.2.1<=n+f/\Dec rank r.1 r.2.1/\r.2.2+1<=r.2.1/\(∀i,r.2.1-(r.2.2+1)<=i->i<r.2.1->kk rank r.1 i=kk rank r.1 (r.2.1-1))
 |0,p,n,q,h1,hz,h,hq,he=>⟨Array.Perm.refl _,av _,av _,h,hq,he⟩
 |f+1,p,n,q,h1,hz,h,hq,he=>by
  dsimp only;rw[M1 fR];by_cases c:rank (p.getD n 0)<rank (p.getD (n-1) 0)
  .rw[if_pos c];have hx:kk rank p n<=kk rank p (n-1):=Int.le_of_lt c;by_cases hq0:q>0
   .rw[if_pos hq0];have es:=yW (rank:=rank) (p:=p) (i:=n-(q+1)) (j:=n) (by omega) he
    have ih:=xt f (kas_rev p (n-(q+1)) n) (n+1) 0 (by omega) (by rw[BA];omega) ((h.snoc h1 hx).congr es) (by omega) (λi a b=>by rw[show i=n+1-1 by omega])
    dsimp only at ih;obtain⟨a,b,c',d⟩:=ih;exact⟨a.trans (j5 _ _ _),by omega,by omega,d⟩
   .rw[if_neg hq0];have ih:=xt f p (n+1) 0 (by omega) (by omega) (h.snoc h1 hx) (by omega) (λi a b=>by rw[show i=n+1-1 by omega])
    dsimp only at ih;obtain⟨a,b,c',d⟩:=ih;exact⟨a,by omega,by omega,d⟩
  .rw[if_neg c];by_cases c2:rank (p.getD (n-1) 0)<rank (p.getD n 0)
   .rw[if_pos c2];exact⟨Array.Perm.refl _,av _,by show n<=_;omega,h,hq,he⟩
   .rw[if_neg c2];have ex:kk rank p n=kk rank p (n-1):=by unfold kk;omega
    have ih:=xt f p (n+1) (q+1) (by omega) (by omega) (h.snoc h1 (Int.le_of_eq ex)) (by omega) (λi a b=>by
     rw[show n+1-1=n by omega]
     by_cases hi:i=n
     .rw[hi]
     .rw[ex];exact he i (by omega) (by omega))
    dsimp only at ih;obtain⟨a,b,c',d⟩:=ih;exact⟨a,by omega,by omega,d⟩
theorem Em {p:Array Nat}{n nrem:Nat}(h1:1<=n) (hn:n<=nrem) (hz:nrem<=p.size) (h:Dec rank p n):let r:=ju lt (kas_tail3 n nrem p);r.2.Perm p/\1<=r.1/\r.1<=nrem/\JE rank r.2 r.1:=by
 dsimp only;unfold kas_tail3;rw[nZ];have hi:JE rank (kas_rev p 0 n) n:=λi j G8 hj=>by
  rw[JF (by omega),JF (by omega),if_pos (by omega),if_pos (by omega)]
  exact h _ _ (by omega) (by omega)
 have ih:=Fq fR (p:=kas_rev p 0 n) (nrem-n) n h1 hi;dsimp only at ih;exact⟨j5 _ _ _,by show 1<=ju lt (kas_asc _ _ _);omega,by show ju lt (kas_asc _ _ _)<=nrem;omega,ih.2.2.1⟩
theorem xu {p:Array Nat}{n nrem:Nat}(hn:n+1<=nrem) (hz:nrem<=p.size) (h:Dec rank p (n+1)):let r:=ju lt (kas_descPart n nrem p);r.2.Perm p/\1<=r.1/\r.1<=nrem/\JE rank r.2 r.1:=by
 dsimp only;unfold kas_descPart;rw[nZ];have ih:=xt fR (nrem-(n+1)) p (n+1) 0 (by omega) (by omega) h (by omega) (λi a b=>by rw[show i=n+1-1 by omega])
 dsimp only at ih;generalize ju lt (kas_desc (nrem-(n+1)) p (n+1) 0)=r at ih ⊢;obtain⟨a,b,c,d,e,g⟩:=ih;have sz:r.1.size=p.size:=a.size_eq;by_cases hq:r.2.2>0
 .rw[if_pos hq];have es:=yW (rank:=rank) (p:=r.1) (i:=r.2.1-(r.2.2+1)) (j:=r.2.1) (by omega) g
  have t:=Em fR (p:=kas_rev r.1 (r.2.1-(r.2.2+1)) r.2.1) (n:=r.2.1) (nrem:=nrem) (by omega) (by omega) (by rw[BA];omega) (d.congr es)
  exact⟨t.1.trans ((j5 _ _ _).trans a),t.2⟩
 .rw[if_neg hq];have t:=Em fR (p:=r.1) (n:=r.2.1) (nrem:=nrem) (by omega) (by omega) (by omega) d
  exact⟨t.1.trans a,t.2⟩
theorem M3 {p:Array Nat}{nrem:Nat}(h1:1<=nrem) (hz:nrem<=p.size):let r:=ju lt (kas_count nrem p);r.2.Perm p/\1<=r.1/\r.1<=nrem/\JE rank r.2 r.1:=by
 dsimp only;unfold kas_count;rw[nZ];have ih:=Fq fR (p:=p) (nrem-1) 1 (av _) (λi j G8 hj=>by have:i=j:=(by omega);subst this;exact Int.le_refl _)
 dsimp only at ih;generalize ju lt (kas_asc p (nrem-1) 1)=n at ih ⊢;obtain⟨a,b,c,d⟩:=ih;by_cases hnn:n=nrem
 .rw[if_pos (by simpa using hnn)]
  exact⟨Array.Perm.refl _,a,by show n<=nrem;omega,c⟩
 .rw[if_neg (by simpa using hnn)]
  have hl:kk rank p n<kk rank p (n-1):=d.resolve_left (by omega)
  by_cases Uz:n>1
  .rw[if_pos Uz];have e0:ju lt (KasT.ask (p.getD 0 0) (p.getD (n-1) 0) λc=>if c=true then .ret (n,p)else kas_descPart n nrem (kas_rev p 0 n))=ju lt (if lt (p.getD 0 0) (p.getD (n-1) 0)=true then .ret (n,p)else kas_descPart n nrem (kas_rev p 0 n)):=rfl
   rw[e0,fR];by_cases hr:rank (p.getD 0 0)<rank (p.getD (n-1) 0)
   .rw[aS hr,if_pos rfl];exact⟨Array.Perm.refl _,a,by show n<=nrem;omega,c⟩
   .rw[aI hr,if_neg bc];have yU:∀k,0<=k->k<n->kk rank p k=kk rank p (n-1):=λk _ hk=>by
     have a1:=c 0 k (by omega) hk
     have a2:=c k (n-1) (by omega) (by omega)
     have a3:¬ kk rank p 0<kk rank p (n-1):=hr;omega
    have es:=yW (rank:=rank) (p:=p) (i:=0) (j:=n) (by omega) yU
    have t:=xu fR (p:=kas_rev p 0 n) (n:=n) (nrem:=nrem) (by omega) (by rw[BA];omega) (λi j G8 hj=>by
     rw[es,es];by_cases VV:j<n
     .rw[yU i (by omega) (by omega),yU j (by omega) VV];exact Int.le_refl _
     .have e:j=n:=by omega
      subst e;by_cases hi:i=j
      .subst hi;exact Int.le_refl _
      .rw[yU i (by omega) (by omega)];exact Int.le_of_lt hl)
    exact⟨t.1.trans (j5 _ _ _),t.2⟩
  .rw[if_neg Uz];have e:n=1:=by omega
   subst e;exact xu fR (by omega) hz (λi j G8 hj=>by
    by_cases hi:i=j
    .subst hi;exact Int.le_refl _
    .have:i=0:=by omega
     have:j=1:=by omega
     subst_vars
     exact Int.le_of_lt hl)
theorem yX {p:Array Nat}{k:Nat}(hs:JE rank p k):∀(f l r:Nat),l<=r->r<=k->r-l<=f->(∀i,i<l->kk rank p i<=kk rank p k)->(∀i,r<=i->i<k->kk rank p k<kk rank p i)->
  let m:=ju lt (kas_place p k f l r);m<=k/\(∀i,i<m->kk rank p i<=kk rank p k)/\(∀i,m<=i->i<k->kk rank p k<kk rank p i)
 |0,l,r,h1,h2,h3,YB,hhi=>by
  have e:l=r:=by omega
  subst e;exact⟨h2,YB,hhi⟩
 |f+1,l,r,h1,h2,h3,YB,hhi=>by
  dsimp only;unfold kas_place;by_cases hg:l ≥ r
  .rw[if_pos hg];have e:l=r:=by omega
   subst e;exact⟨h2,YB,hhi⟩
  .rw[if_neg hg];simp only[ju];rw[fR];have O5:l<=(l+r)/2:=by omega
   have GL:(l+r)/2<r:=by omega
   generalize (l+r)/2=m at O5 GL ⊢;by_cases c:rank (p.getD k 0)<rank (p.getD m 0)
   .rw[aS c,if_pos rfl];have ih:=yX hs f l m O5 (by omega) (by omega) YB (λi a b=>Int.lt_of_lt_of_le c (hs m i a b))
    exact ih
   .rw[aI c,if_neg bc];have ih:=yX hs f (m+1) r (by omega) h2 (by omega) (λi a=>Int.le_trans (hs i m (by omega) (by omega)) (by show rank _<=rank _;omega)) hhi
    exact ih
theorem En {p:Array Nat}{src d:Nat}(hs:src<p.size) (hd:d<=src) (k:Nat):kk rank (bubble p src d) k=if k=src-d then kk rank p src else if src-d<k/\k<=src then kk rank p (k-1)else kk rank p k:=by
 have e:=getElem?_bubble hs d hd k;by_cases h1:k=src-d
 .rw[if_pos h1]at e ⊢;exact G7 e
 .rw[if_neg h1]at e ⊢;by_cases h2:src-d<k/\k<=src
  .rw[if_pos h2]at e ⊢;exact G7 e
  .rw[if_neg h2]at e ⊢;exact G7 e
theorem Ll:∀(f:Nat) (p:Array Nat) (k:Nat),k+f<=p.size->JE rank p k->let r:=ju lt (kas_bin f p k);r.Perm p/\JE rank r (k+f)
 |0,p,k,hz,h=>⟨Array.Perm.refl _,h⟩
 |f+1,p,k,hz,h=>by
  dsimp only;unfold kas_bin;rw[nZ];have pl:=yX fR h k 0 k (bM _) (av _) (by omega) (λi a=>absurd a (Nat.not_lt_zero _)) (λi a b=>by omega)
  dsimp only at pl;generalize ju lt (kas_place p k k 0 k)=l at pl ⊢;obtain⟨h1,h2,h3⟩:=pl;have ks:k<p.size:=by omega
  have inc:JE rank (bubble p k (k-l)) (k+1):=λi j G8 hj=>by
   rw[En fR ks (by omega),En fR ks (by omega),show k-(k-l)=l by omega]
   by_cases hi:i=l
   .rw[if_pos hi];by_cases Xp:j=l
    .rw[if_pos Xp];exact Int.le_refl _
    .rw[if_neg Xp,if_pos (by omega)]
     exact Int.le_of_lt (h3 (j-1) (by omega) (by omega))
   .rw[if_neg hi];by_cases hi2:l<i/\i<=k
    .rw[if_pos hi2,if_neg (by omega),if_pos (by omega)]
     exact h (i-1) (j-1) (by omega) (by omega)
    .rw[if_neg hi2];by_cases Xp:j=l
     .rw[if_pos Xp];exact h2 i (by omega)
     .rw[if_neg Xp];by_cases hj2:l<j/\j<=k
      .rw[if_pos hj2];exact h i (j-1) (by omega) (by omega)
      .rw[if_neg hj2];exact h i j G8 (by omega)
  have ih:=Ll f (bubble p k (k-l)) (k+1) (by rw[bubble_size];omega) inc
  dsimp only at ih;exact⟨ih.1.trans (bubble_perm _ _ _),by rw[show k+(f+1)=k+1+f by omega];exact ih.2⟩
theorem BB (n:Nat) (h1:1<=n):let r:=ju lt (kas_sort n);r.Perm (toArray (List.range n))/\JE rank r n:=by
 dsimp only;unfold kas_sort;rw[nZ];have hz:(toArray (List.range n)).size=n:=by simp
 have c:=M3 fR (p:=toArray (List.range n)) h1 (by omega)
 dsimp only at c;generalize ju lt (kas_count n (toArray (List.range n)))=r at c ⊢;obtain⟨a,b,d,e⟩:=c;have sz:r.2.size=n:=a.size_eq.trans hz;by_cases YK:r.1<n
 .rw[if_pos YK];have m:max r.1 1=r.1:=by omega
  rw[m];have bn:=Ll fR (n-r.1) r.2 r.1 (by omega) e
  dsimp only at bn;exact⟨bn.1.trans a,by have:=bn.2;rwa [show r.1+(n-r.1)=n by omega]at this⟩
 .rw[if_neg YK];have:r.1=n:=by omega
  exact⟨a,by show JE rank r.2 n;rw[<-this];exact e⟩
end
end So
namespace DL
open L2
inductive D where
 |eZ|bl (b:Bool)|int (i:Int)|str (x:Str)|t (ds:List D)|l (ds:List D)
mutual
inductive Is (C:Hp):V->D->Prop where
 |eZ:Is C .eZ .eZ
 |bl (b:Bool):Is C (.bl b) (.bl b)
 |int (i:Int):Is C (.int i) (.int i)
 |str (x:Str):Is C (.str x) (.str x)
 |t {a:cF}{xs:List V}{ds:List D}:C a=some (.t xs)->τ C xs ds->Is C (.ref a) (.t ds)
 |l {a:cF}{xs:List V}{ds:List D}:Rd C a (.l xs)->τ C xs ds->Is C (.ref a) (.l ds)
inductive τ (C:Hp):List V->List D->Prop where
 |nil:τ C [] []
 |cons {v:V}{d:D}{vs:List V}{ds:List D}:Is C v d->τ C vs ds->τ C (v::vs) (d::ds)
end
def _root_.L2.Rd.same (e:eA C C') (h:Rd C a u):Rd C' a u:=by
 rcases h with h|⟨o,h⟩
 .exact .inl (e _ _ h)
 .exact .inr ⟨o,e _ _ h⟩
mutual
theorem Is.mono {C C':Hp}(e:eA C C'):∀{v:V}{d:D},Is C v d->Is C' v d
 |_,_,.eZ=>.eZ
 |_,_,.bl b=>.bl b
 |_,_,.int i=>.int i
 |_,_,.str x=>.str x
 |_,_,.t h l=>.t (e _ _ h) (τ.mono e l)
 |_,_,.l h l=>.l (h.same e) (τ.mono e l)
theorem τ.mono {C C':Hp}(e:eA C C'):∀{vs:List V}{ds:List D},τ C vs ds->τ C' vs ds
 |_,_,.nil=>.nil
 |_,_,.cons h t=>.cons (Is.mono e h) (τ.mono e t)
end
theorem τ.length:∀{vs:List V}{ds:List D},τ C vs ds->vs.length=ds.length
 |_,_,.nil=>rfl
 |_,_,.cons _ t=>congrArg (·+1) (τ.length t)
theorem τ.get:∀{vs:List V}{ds:List D}{i:Nat}{d:D},τ C vs ds->ds[i]? =some d->∃v,vs[i]? =some v/\Is C v d
 |_,_,_,_,.nil,e=>by simp at e
 |_,_,0,_,.cons h _,e=>by simp at e;subst e;exact⟨_,rfl,h⟩
 |_,_,i+1,_,.cons _ t,e=>by
  obtain⟨v,h1,h2⟩:=τ.get (i:=i) t (by simpa using e)
  exact⟨v,by simpa using h1,h2⟩
theorem τ.get':∀{vs:List V}{ds:List D}{i:Nat}{v:V},τ C vs ds->vs[i]? =some v->∃d,ds[i]? =some d/\Is C v d
 |_,_,_,_,.nil,e=>by simp at e
 |_,_,0,_,.cons h _,e=>by simp at e;subst e;exact⟨_,rfl,h⟩
 |_,_,i+1,_,.cons _ t,e=>by
  obtain⟨v,h1,h2⟩:=τ.get' (i:=i) t (by simpa using e)
  exact⟨v,by simpa using h1,h2⟩
theorem τ.append:∀{vs ws:List V}{ds es:List D},τ C vs ds->τ C ws es->τ C (vs++ws) (ds++es)
 |_,_,_,_,.nil,s=>s
 |_,_,_,_,.cons h t,s=>.cons h (τ.append t s)
theorem τ.take:∀{vs:List V}{ds:List D}(n:Nat),τ C vs ds->τ C (vs.take n) (ds.take n)
 |_,_,0,_=>.nil
 |_,_,_+1,.nil=>.nil
 |_,_,n+1,.cons h t=>.cons h (τ.take n t)
theorem τ.drop:∀{vs:List V}{ds:List D}(n:Nat),τ C vs ds->τ C (vs.drop n) (ds.drop n)
 |_,_,0,h=>h
 |_,_,_+1,.nil=>.nil
 |_,_,n+1,.cons _ t=>τ.drop n t
theorem τ.eraseIdx:∀{vs:List V}{ds:List D}(n:Nat),τ C vs ds->τ C (vs.eraseIdx n) (ds.eraseIdx n)
 |_,_,_,.nil=>.nil
 |_,_,0,.cons _ t=>t
 |_,_,n+1,.cons h t=>.cons h (τ.eraseIdx n t)
def τ.ints (ns:cq):τ C (ns.map V.int) (ns.map D.int):=by
 induction ns with
 |nil=>exact .nil
 |cons n r ih=>exact .cons (.int n) ih
theorem τ.nC:∀{ns:cq}{vs:List V},τ C vs (ns.map D.int)->vs=ns.map V.int
 |[],_,q=>by cases q;rfl
 |n::r,_,q=>by cases q with|cons h t=>cases h;rw[τ.nC t];rfl
theorem τ.JG:∀{bs:List Bool}{vs:List V},τ C vs (bs.map D.bl)->vs=bs.map V.bl
 |[],_,q=>by cases q;rfl
 |n::r,_,q=>by cases q with|cons h t=>cases h;rw[τ.JG t];rfl
def τ.one (h:Is C v d):τ C [v] [d]:=.cons h .nil
structure pF (C H C' H':Hp):Prop where
 c:eA C C'
 h:eA H H'
 s:eA C' H'
 n:∀a u,C' a=some u->C a=some u\/H a=none
def fj (h:H p=none):eA H (ν H p o):=λb u q=>by rw[de (dw q h)];exact q
def Jh:HO->Bool
 |.ext _=>true
 |.ins _ _ _=>true
 |.o _=>true
 |.dK _=>true
 |.zW _ _=>true
 |_=>false
class μ where
 cell:cu
 face:cu
 ok:Hp->Hp->Prop
 has:Hp->Hp->D->Prop
 rel:Hp->Hp->Hp->Hp->Prop
 of0:∀{C H C' H':Hp},pF C H C' H'->rel C H C' H'
 trans:∀{C H C' H' C2 H2:Hp},rel C H C' H'->rel C' H' C2 H2->rel C H C2 H2
 chg:∀{C H C' H':Hp}{a:cF}{o:HO},rel C H C' H'->H a=none->rel C H C' (ν H' a o)
 give:∀{C H C' H':Hp}{a:cF}{o:HO},rel C H C' H'->C' a=none->H' a=some o->Jh o=false->rel C H (ν C' a o) H'
 Xq:∀{C H C' H':Hp},rel C H C' H'->ok C H->ok C' H'
 O6:∀{C H C' H':Hp}{k:D},rel C H C' H'->ok C H->has C H k->has C' H' k
 Xr:∀{C H:Hp}{a:cF}{o:HO},ok C H->(∀u,H a=some u->Jh u=false)->ok C (ν H a o)
 M4:∀{C H:Hp}{a:cF}{o:HO}{k:D},ok C H->(∀u,H a=some u->Jh u=false)->has C H k->has C (ν H a o) k
 YL:∀{C H:Hp}{a:cF}{o:HO},ok C H->C a=none->H a=some o->Jh o=false->ok (ν C a o) H
 O7:∀{C H:Hp}{a:cF}{o:HO}{k:D},ok C H->C a=none->H a=some o->Jh o=false->has C H k->has (ν C a o) H k
@[reducible] noncomputable def μ.keep:μ where
 cell:=none
 face:=none
 ok:=λ_ _=>True
 has:=λ_ _ _=>False
 rel:=λ_ H _ H'=>eA H H'
 of0:=λe=>e.h
 trans:=λa b=>a.trans b
 chg:=λ{_ _ _ _ a o} r h b u q=>by rw[de (dw q h)];exact r b u q
 give:=λr _ _ _=>r
 Xq:=λ_ _=>trivial
 O6:=λ_ _ h=>h
 Xr:=λ_ _=>trivial
 M4:=λ_ _ h=>h
 YL:=λ_ _ _ _=>trivial
 O7:=λ_ _ _ _ h=>h
structure Ev [m:μ] (C H C' H':Hp):Prop where
 c:eA C C'
 h:∀b o,H b=some o->(m.cell≠some b\/Jh o=false)->H' b=some o
 x:∀b o,H b=some o->m.cell=some b->Jh o=true->∃o',H' b=some o'/\Jh o'=true
 s:eA C' H'
 n:∀a u,C' a=some u->C a=some u\/H a=none
 r:m.rel C H C' H'
section
theorem pF.refl (s:eA C H):pF C H C H:=⟨eA.refl _,eA.refl _,s,λ_ _ e=>.inl e⟩
theorem pF.trans (a:pF C H C' H') (b:pF C' H' C2 H2):pF C H C2 H2:=
 ⟨a.c.trans b.c,a.h.trans b.h,b.s,λp u e=>(b.n p u e).elim (a.n p u) λz=>.inr (a.h.free z)⟩
theorem pF.new (s:eA C H) (h:H p=none):pF C H (ν C p o) (ν H p o):=
 ⟨fj (s.free h),fj h,λb u q=>by
  by_cases e:b=p
  .subst e;rw[dk]at q ⊢;exact q
  .rw[de e]at q ⊢;exact s b u q,λb u q=>by
  by_cases e:b=p
  .subst e;exact .inr h
  .rw[de e]at q;exact .inl q⟩
def pF.ig (s:eA C H) (h:H p=none):pF C H C (ν H p o):=
 ⟨eA.refl _,fj h,s.trans (fj h),λ_ _ e=>.inl e⟩
def Ev.xv (e:@Ev μ.keep C H C' H'):pF C H C' H':=⟨@Ev.c μ.keep _ _ _ _ e,@Ev.r μ.keep _ _ _ _ e,@Ev.s μ.keep _ _ _ _ e,@Ev.n μ.keep _ _ _ _ e⟩
variable [μ]
def pF.up (e:pF C H C' H'):Ev C H C' H':=⟨e.c,λb o q _=>e.h b o q,λb o q _ x=>⟨o,e.h b o q,x⟩,e.s,e.n,μ.of0 e⟩
def Ev.free (e:Ev C H C' H') (h:H' a=none):H a=none:=by
 cases q:H a with
 |none=>rfl
 |some o=>
  cases hx:Jh o with
  |false=>rw[e.h a o q (.inr hx)]at h;cases h
  |true=>
   by_cases hc:μ.cell=some a
   .obtain⟨o',h1,_⟩:=e.x a o q hc hx;rw[h1]at h;cases h
   .rw[e.h a o q (.inl hc)]at h;cases h
def Ev.hh (e:Ev C H C' H') (h:H a=some o) (hx:Jh o=false:=by rfl):H' a=some o:=e.h a o h (.inr hx)
theorem Ev.refl (s:eA C H):Ev C H C H:=(pF.refl s).up
theorem Ev.trans (a:Ev C H C' H') (b:Ev C' H' C2 H2):Ev C H C2 H2:=
 ⟨a.c.trans b.c,λp o q x=>b.h p o (a.h p o q x) x,λp o q c x=>let ⟨o',h1,h2⟩:=a.x p o q c x;b.x p o' h1 c h2,b.s,λp u e=>(b.n p u e).elim (a.n p u) λz=>.inr (a.free z),μ.trans a.r b.r⟩
theorem Ev.new (s:eA C H) (h:H p=none):Ev C H (ν C p o) (ν H p o):=(pF.new s h).up
theorem Ev.ig (s:eA C H) (h:H p=none):Ev C H C (ν H p o):=(pF.ig s h).up
def Ev.nn (a:Ev C H C' H') (h:C p=none) (h2:H p=some u):C' p=none:=by
 cases q:C' p with
 |none=>rfl
 |some o=>rcases a.n p o q with z|z<;>simp_all
def Ev.BC (e:Ev C H C' H') (hn:H a=none) (hc:C' a=none) (o:HO):Ev C H C' (ν H' a o):=
 ⟨e.c,λb u q x=>by rw[de (dw q hn)];exact e.h b u q x,λb u q c x=>by rw[de (dw q hn)];exact e.x b u q c x,λb u q=>by rw[de (dw q hc)];exact e.s b u q,e.n,μ.chg e.r hn⟩
def Ev.UA (e:Ev C H C' H') (hn:H a=none) (hc:C' a=none) (ho:H' a=some o) (hx:Jh o=false:=by rfl):Ev C H (ν C' a o) H':=
 ⟨e.c.trans (fj hc),e.h,e.x,λb u z=>by
   by_cases hb:b=a
   .subst hb;rw[dk]at z;cases z;exact ho
   .rw[de hb]at z;exact e.s b u z,λb u z=>by
   by_cases hb:b=a
   .subst hb;exact .inr hn
   .rw[de hb]at z;exact e.n b u z,μ.give e.r hc ho hx⟩
end
inductive Sl where
 |n|d (d:D)|o (ds:List D)|m (ks:List D)
abbrev fW:=List Sl
structure Sx [m:μ] (U:fW) (O:L2.St) (C H:Hp):Prop where
 sub:eA C H
 d:∀(i:Nat) (d:D),U[i]? =some (.d d)->∃v,O[i]? =some (some v)/\Is C v d
 o:∀(i:Nat) (ds:List D),U[i]? =some (.o ds)->∃(a:cF) (xs:List V),O[i]? =some (some (.ref a))/\C a=none/\H a=some (.l xs)/\τ C xs ds
 Dv:∀(i j:Nat) (ds es:List D) (a:cF),U[i]? =some (.o ds)->U[j]? =some (.o es)->O[i]? =some (some (.ref a))->O[j]? =some (some (.ref a))->i=j
 len:U.length=O.length
 mem:∀(i:Nat) (ks:List D),U[i]? =some (.m ks)->∃a:cF,m.face=some a/\O[i]? =some (some (.ref a))/\m.ok C H/\∀k∈ks,m.has C H k
section
variable [μ] {U:fW}{O:L2.St}{C H C' H':Hp}
def Sx.ev (x:Sx U O C H) (e:Ev C H C' H'):Sx U O C' H' where
 sub:=e.s
 d:=λi d q=>let ⟨v,h1,h2⟩:=x.d i d q;⟨v,h1,h2.mono e.c⟩
 o:=λi ds q=>let ⟨a,xs,h1,h2,h3,h4⟩:=x.o i ds q;⟨a,xs,h1,e.nn h2 h3,e.hh h3,h4.mono e.c⟩
 Dv:=x.Dv
 len:=x.len
 mem:=λi ks q=>let ⟨a,h1,h2,h3,h4⟩:=x.mem i ks q;⟨a,h1,h2,μ.Xq e.r h3,λk hk=>μ.O6 e.r h3 (h4 k hk)⟩
omit [μ] in
def Ce {α:Type}{l:List α}{a b:α}(h:(l.set i a)[j]? =some b):(j=i/\b=a)\/(j≠i/\l[j]? =some b):=by
 by_cases e:j=i
 .subst e;by_cases hl:j<l.length
  .rw[bf hl]at h;exact .inl ⟨rfl,(aT h).symm⟩
  .have:(l.set j a)[j]? =none:=by simp;omega
   rw[this]at h;cases h
 .rw[aH (Ne.symm e)]at h;exact .inr ⟨e,h⟩
omit [μ] in
def JH {α:Type}{l:List α}{a b:α}(h:(l.set i a)[i]? =some b):i<l.length:=by
 by_cases hl:i<l.length
 .exact hl
 .have:(l.set i a)[i]? =none:=by simp;omega
  rw[this]at h;cases h
def Sx.wx (x:Sx U O C H) {i:Nat}{v:V}{d:D}(h:Is C v d):Sx (U.set i (.d d)) (O.set i (some v)) C H where
 sub:=x.sub
 d:=λk d' q=>by
  rcases Ce q with⟨rfl,e⟩|⟨hk,e⟩
  .cases e;have:=JH q;exact⟨v,by rw[bf (by rw[<-x.len];exact this)],h⟩
  .obtain⟨v',h1,h2⟩:=x.d k d' e;exact⟨v',by rw[aH (Ne.symm hk)];exact h1,h2⟩
 o:=λk ds q=>by
  rcases Ce q with⟨rfl,e⟩|⟨hk,e⟩
  .cases e
  .obtain⟨a,xs,h1,h2⟩:=x.o k ds e;exact⟨a,xs,by rw[aH (Ne.symm hk)];exact h1,h2⟩
 Dv:=λk l ds es a q1 q2 q3 q4=>by
  rcases Ce q1 with⟨_,e1⟩|⟨hk,e1⟩
  .cases e1
  rcases Ce q2 with⟨_,e2⟩|⟨hl,e2⟩
  .cases e2
  rw[aH (Ne.symm hk)]at q3;rw[aH (Ne.symm hl)]at q4;exact x.Dv k l ds es a e1 e2 q3 q4
 len:=by simp[x.len]
 mem:=λk ks q=>by
  rcases Ce q with⟨rfl,e⟩|⟨hk,e⟩
  .cases e
  .obtain⟨a,h1,h2,h3⟩:=x.mem k ks e;exact⟨a,h1,by rw[aH (Ne.symm hk)];exact h2,h3⟩
def Sx.BD (x:Sx U O C H) {i:Nat}{a:cF}{xs:List V}{ds:List D}(hc:C a=none) (hH:H a=some (.l xs)) (hl:τ C xs ds)
  (hn:∀(k:Nat) (es:List D),U[k]? =some (.o es)->O[k]? ≠some (some (.ref a))):Sx (U.set i (.o ds)) (O.set i (some (.ref a))) C H where
 sub:=x.sub
 d:=λk d' q=>by
  rcases Ce q with⟨rfl,e⟩|⟨hk,e⟩
  .cases e
  .obtain⟨v',h1,h2⟩:=x.d k d' e;exact⟨v',by rw[aH (Ne.symm hk)];exact h1,h2⟩
 o:=λk es q=>by
  rcases Ce q with⟨rfl,e⟩|⟨hk,e⟩
  .cases e;have:=JH q;exact⟨a,xs,by rw[bf (by rw[<-x.len];exact this)],hc,hH,hl⟩
  .obtain⟨b,ys,h1,h2⟩:=x.o k es e;exact⟨b,ys,by rw[aH (Ne.symm hk)];exact h1,h2⟩
 Dv:=λk l Lm es b q1 q2 q3 q4=>by
  rcases Ce q1 with⟨hk,e1⟩|⟨hk,e1⟩
  .rcases Ce q2 with⟨lq,e2⟩|⟨lq,e2⟩
   .rw[hk,lq]
   .subst hk;have e3:=Ce q3;rcases e3 with⟨_,e3⟩|⟨z,_⟩
    .cases e3;rw[aH (Ne.symm lq)]at q4;exact absurd q4 (hn l es e2)
    .exact absurd rfl z
  .rcases Ce q2 with⟨lq,e2⟩|⟨lq,e2⟩
   .subst lq;rcases Ce q4 with⟨_,e4⟩|⟨z,_⟩
    .cases e4;rw[aH (Ne.symm hk)]at q3;exact absurd q3 (hn k Lm e1)
    .exact absurd rfl z
   .rw[aH (Ne.symm hk)]at q3;rw[aH (Ne.symm lq)]at q4;exact x.Dv k l Lm es b e1 e2 q3 q4
 len:=by simp[x.len]
 mem:=λk ks q=>by
  rcases Ce q with⟨rfl,e⟩|⟨hk,e⟩
  .cases e
  .obtain⟨a,h1,h2,h3⟩:=x.mem k ks e;exact⟨a,h1,by rw[aH (Ne.symm hk)];exact h2,h3⟩
def Sx.mut (x:Sx U O C H) {i:Nat}{a:cF}{ys:List V}{ds es:List D}(hi:U[i]? =some (.o ds)) (ha:O[i]? =some (some (.ref a))) (hl:τ C ys es):
  Sx (U.set i (.o es)) O C (ν H a (.l ys))where
 sub:=λb u q=>by
  obtain⟨a',xs,h1,h2,_⟩:=x.o i ds hi;rw[ha]at h1;cases h1;have:b≠a:=λz=>by rw[z,h2]at q;cases q
  rw[de this];exact x.sub b u q
 d:=λk d' q=>by
  rcases Ce q with⟨rfl,e⟩|⟨hk,e⟩
  .cases e
  .exact x.d k d' e
 o:=λk fs q=>by
  obtain⟨a',xs,h1,h2,_⟩:=x.o i ds hi;rw[ha]at h1;cases h1;rcases Ce q with⟨rfl,e⟩|⟨hk,e⟩
  .cases e;exact⟨a,ys,ha,h2,dk,hl⟩
  .obtain⟨b,zs,JI,M5,O8,SJ⟩:=x.o k fs e;have:b≠a:=λz=>by subst z;exact hk (x.Dv k i fs ds b e hi JI ha)
   exact⟨b,zs,JI,M5,by rw[de this];exact O8,SJ⟩
 Dv:=λk l Lm Lb b q1 q2 q3 q4=>by
  have O9:∀{k:Nat}{Lb:List D},(U.set i (Sl.o es))[k]? =some (.o Lb)->∃fs,U[k]? =some (.o fs):=λ{k Lb} q=>by
   rcases Ce q with⟨rfl,e⟩|⟨hk,e⟩
   .exact⟨ds,hi⟩
   .exact⟨_,e⟩
  obtain⟨f1,e1⟩:=O9 q1;obtain⟨f2,e2⟩:=O9 q2;exact x.Dv k l f1 f2 b e1 e2 q3 q4
 len:=by simp[x.len]
 mem:=λk ks q=>by
  obtain⟨a',xs,h1,h2,h3,_⟩:=x.o i ds hi;rw[ha]at h1;cases h1;have hx:∀u,H a=some u->Jh u=false:=λu q=>by rw[h3]at q;cases q;rfl
  rcases Ce q with⟨rfl,e⟩|⟨hk,e⟩
  .cases e
  .obtain⟨b,h1,h2,h3,h4⟩:=x.mem k ks e;exact⟨b,h1,h2,μ.Xr h3 hx,λk hk=>μ.M4 h3 hx (h4 k hk)⟩
def Sx.give (x:Sx U O C H) {i:Nat}{a:cF}{ds:List D}(hi:U[i]? =some (.o ds)) (ha:O[i]? =some (some (.ref a))) (hH:H a=some (.l xs)) (hl:τ C xs ds):Sx (U.set i (.d (.l ds))) O (ν C a (.l xs)) H:=by
 obtain⟨a',xs',h1,h2,h3,_⟩:=x.o i ds hi;rw[ha]at h1;cases h1;have sc:eA C (ν C a (.l xs)):=fj h2;exact {
  sub:=λb u q=>by
   by_cases e:b=a
   .subst e;rw[dk]at q;cases q;exact hH
   .rw[de e]at q;exact x.sub b u q
  d:=λk d' q=>by
   rcases Ce q with⟨rfl,e⟩|⟨hk,e⟩
   .cases e;exact⟨_,ha,.l (.inl dk) (hl.mono sc)⟩
   .obtain⟨v,q1,q2⟩:=x.d k d' e;exact⟨v,q1,q2.mono sc⟩
  o:=λk fs q=>by
   rcases Ce q with⟨rfl,e⟩|⟨hk,e⟩
   .cases e
   .obtain⟨b,zs,JI,M5,O8,SJ⟩:=x.o k fs e;have:b≠a:=λz=>by subst z;exact hk (x.Dv k i fs ds b e hi JI ha)
    exact⟨b,zs,JI,by rw[de this];exact M5,O8,SJ.mono sc⟩
  Dv:=λk l Lm Lb b q1 q2 q3 q4=>by
   rcases Ce q1 with⟨_,e1⟩|⟨_,e1⟩
   .cases e1
   rcases Ce q2 with⟨_,e2⟩|⟨_,e2⟩
   .cases e2
   exact x.Dv k l Lm Lb b e1 e2 q3 q4
  len:=by simp[x.len]
  mem:=λk ks q=>by
   rcases Ce q with⟨rfl,e⟩|⟨hk,e⟩
   .cases e
   .obtain⟨b,h1,M5,h3,h4⟩:=x.mem k ks e;exact⟨b,h1,M5,μ.YL h3 h2 hH rfl,λk hk=>μ.O7 h3 h2 hH rfl (h4 k hk)⟩}
end
variable [μ]
def vf (C H:Hp) (v:V) (d:D):Prop:=Is C v d\/∃a xs ds,v=.ref a/\d=.l ds/\C a=none/\H a=some (.l xs)/\τ C xs ds
def tD (f:fW->Option D):TE:=λO H Q=>∃C U d,Sx U O C H/\f U=some d/\∀v C' H',Ev C H C' H'->Is C' v d->Q v H'
def tO (f:fW->Option D):TE:=λO H Q=>∃C U d,Sx U O C H/\f U=some d/\∀v C' H',Ev C H C' H'->vf C' H' v d->Q v H'
def tF (f:fW->Option (List D)):TE:=λO H Q=>∃C U ds,Sx U O C H/\f U=some ds/\∀a xs C' H',Ev C H C' H'->H a=none->C' a=none->H' a=some (.l xs)->τ C' xs ds->Q (.ref a) H'
def tQ (f:fW->Option Bool):TT:=λO H Q=>∃C U b,Sx U O C H/\f U=some b/\∀C' H',Ev C H C' H'->Q b H'
def tAD (f:fW->Option (List D)):TA:=λO H Q=>∃C U ds,Sx U O C H/\f U=some ds/\∀vs C' H',Ev C H C' H'->τ C' vs ds->Q vs H'
abbrev PD (X:Cx) (e:cG) (f:fW->Option D):Prop:=PE X e (tD f)
abbrev PO (X:Cx) (e:cG) (f:fW->Option D):Prop:=PE X e (tO f)
abbrev PF (X:Cx) (e:cG) (f:fW->Option (List D)):Prop:=PE X e (tF f)
abbrev PQ (X:Cx) (e:cG) (f:fW->Option Bool):Prop:=PT X e (tQ f)
abbrev YM (X:Cx) (es:List cG) (f:fW->Option (List D)):Prop:=PA X es (tAD f)
omit [μ] in
def _root_.L2.PE.imp (h:PE X e t) (m:∀O H Q,t' O H Q->t O H Q):PE X e t':=λcL s O H Q I q=>h cL s O H Q I (m O H Q q)
omit [μ] in
def _root_.L2.PT.imp (h:PT X e t) (m:∀O H Q,t' O H Q->t O H Q):PT X e t':=λcL s O H Q I q=>h cL s O H Q I (m O H Q q)
omit [μ] in
def _root_.L2.PW.imp (h:PW X e t) (m:∀O H Q,t' O H Q->t O H Q):PW X e t':=λwhole cL s O H Q I q=>h whole cL s O H Q I (m O H Q q)
omit [μ] in
def _root_.L2.PA.imp (h:PA X es t) (m:∀O H Q,t' O H Q->t O H Q):PA X es t':=λpos cL s O H Q I q=>h pos cL s O H Q I (m O H Q q)
omit [μ] in
def _root_.L2.PS.imp {st:cH}(h:PS X st t) (m:∀Dn O H,t' Dn O H->t Dn O H):PS X st t':=λcL s O H Dn I q=>h cL s O H Dn I (m Dn O H q)
omit [μ] in
def _root_.L2.Df.imp {st:List cH}(h:Df X st t) (m:∀Dn O H,t' Dn O H->t Dn O H):Df X st t':=λcL s O H Dn I q=>h cL s O H Dn I (m Dn O H q)
section
variable {X:Cx}{e a b c:cG}
def PD.o (h:PD X e f):PO X e f:=h.imp λO H Q ⟨C,U,d,x,q,k⟩=>⟨C,U,d,x,q,λv C' H' ev i=>k v C' H' ev (.inl i)⟩
noncomputable def dL (f:fW->Option (List D)):fW->Option D:=λU=>(f U).map D.l
theorem PF.d (h:PF X e f):PD X e (dL f):=h.imp λO H Q ⟨C,U,d,x,q,k⟩=>by
 obtain⟨ds,hf,rfl⟩:=yN q;exact⟨C,U,ds,x,hf,λa xs C' H' ev h1 h2 h3 h4=>k (.ref a) (ν C' a (.l xs)) H' (ev.UA h1 h2 h3) (.l (.inl dk) (h4.mono (fj h2)))⟩
noncomputable def cO (i:Nat):fW->Option D:=λU=>match U[i]? with|some (.d d)=>some d|_=>none
noncomputable def dg (i:Nat):fW->Option D:=λU=>match U[i]? with|some (.d d)=>some d|some (.o ds)=>some (.l ds)|_=>none
noncomputable def dC (d:D):fW->Option D:=λ_=>some d
def M6 (h:PE X e (lu i)):PD X e (cO i):=h.imp λO H Q ⟨C,U,d,x,q,k⟩=>by
 unfold cO at q;split at q
 .rename_i d' hd;cases q;obtain⟨v,h1,h2⟩:=x.d i _ hd;exact⟨v,h1,k v C H (.refl x.sub) h2⟩
 .cases q
def M7 (h:PE X e (lu i)):PO X e (dg i):=h.imp λO H Q ⟨C,U,d,x,q,k⟩=>by
 unfold dg at q;split at q
 .rename_i d' hd;cases q;obtain⟨v,h1,h2⟩:=x.d i _ hd;exact⟨v,h1,k v C H (.refl x.sub) (.inl h2)⟩
 .rename_i ds hd;cases q;obtain⟨a,xs,h1,h2,h3,h4⟩:=x.o i _ hd;exact⟨_,h1,k _ C H (.refl x.sub) (.inr ⟨a,xs,ds,rfl,rfl,h2,h3,h4⟩)⟩
 .cases q
def xw (h:PE X e (tC v)) (hd:∀C,Is C v d):PD X e (dC d):=h.imp λO H Q ⟨C,U,d',x,q,k⟩=>by
 cases q;exact k v C H (.refl x.sub) (hd C)
def RW (r:R2) (op:D->D->Option D):Prop:=∀C H x y dx dy d Q,eA C H->vf C H x dx->vf C H y dy->op dx dy=some d->(∀v C' H',pF C H C' H'->Is C' v d->Q v H')->r x y H Q
noncomputable def dB {α:Type}(op:D->D->Option α) (f g:fW->Option D):fW->Option α:=λU=>(f U).bind λx=>(g U).bind λy=>op x y
def vf.ev (h:vf C H v d) (e:Ev C H C' H'):vf C' H' v d:=by
 rcases h with h|⟨a,xs,ds,h1,h2,h3,h4,h5⟩
 .exact .inl (h.mono e.c)
 .exact .inr ⟨a,xs,ds,h1,h2,e.nn h3 h4,e.hh h4,h5.mono e.c⟩
def Ln (hd:RW r op):∀O H Q,tD (dB op f g) O H Q->X7 r (tO f) (tO g) O H Q:=λO H Q ⟨C,U,d,x,q,k⟩=>by
 obtain⟨dx,hf,q⟩:=qI q;obtain⟨dy,hg,q⟩:=qI q;refine⟨C,U,dx,x,hf,λv C1 H1 e1 i1=>⟨C1,U,dy,x.ev e1,hg,λu C2 H2 e2 i2=>hd C2 H2 v u dx dy d Q e2.s (i1.ev e2) i2 q λw C3 H3 e3 i3=>k w C3 H3 ((e1.trans e2).trans e3.up) i3⟩⟩
def Eo (ho:xl X (binaryOp op) r) (hd:RW r o) (ha:PO X a f) (hb:PO X b g):PD X (.BinOp a op b pos) (dB o f g):=(Ur ho ha hb).imp (Ln hd)
def YN (ho:OM X r) (hd:RW r o) (ha:PO X a f) (hb:PO X b g) (hs:vd b):PD X (.Subscript a b pos) (dB o f g):=(ON ho ha hb hs).imp (Ln hd)
noncomputable def oI (g:Int->Int->D):D->D->Option D
 |.int i,.int j=>some (g i j)
 |_,_=>none
noncomputable def Lo (c:Int->Int->Bool) (g:Int->Int->D):D->D->Option D
 |.int i,.int j=>if c i j=true then some (g i j)else none
 |_,_=>none
theorem vf.int (h:vf C H v (.int i)):v=.int i:=by
 rcases h with h|⟨_,_,_,_,z,_⟩
 .cases h;rfl
 .cases z
def vf.is (h:vf C H v d) (hd:∀ds,d≠.l ds):Is C v d:=by
 rcases h with h|⟨_,_,ds,_,z,_⟩
 .exact h
 .exact absurd z (hd ds)
def Pa (h:∀C i j,Is C (gV i j) (g i j)):RW (R7 gV) (oI g):=λC H x y dx dy d Q s ix iy q k=>by
 unfold oI at q;split at q
 .rename_i i j;cases q;exact⟨i,j,ix.int,iy.int,k _ C H (.refl s) (h C i j)⟩
 .cases q
def Pc {c:Int->Int->Bool}(hc:∀i j,c i j=true->P i j) (h:∀C i j,Is C (gV i j) (g i j)):RW (rI P gV) (Lo c g):=λC H x y dx dy d Q s ix iy q k=>by
 unfold Lo at q;split at q
 .rename_i i j;obtain⟨N0,q⟩:=nq q;cases q;exact⟨i,j,ix.int,iy.int,hc i j N0,k _ C H (.refl s) (h C i j)⟩
 .cases q
def jW:=oI λi j=>.int (i+j)
def ou:=oI λi j=>.int (i-j)
noncomputable def Pd (i j:Int):Bool:=(decide (-(2^64)<i)&&decide (i<2^64))||(decide (-(2^64)<j)&&decide (j<2^64))
def Dw:=Lo Pd λi j=>.int (i*j)
noncomputable def VW (_ j:Int):Bool:=decide (0<j)&&decide (j<1073741824)
def JJ:=Lo VW λi j=>.int (i/j)
noncomputable def G9 (_ j:Int):Bool:=decide (0<j)
def vI:=Lo G9 λi j=>.int (i%j)
def Lp:=oI λi j=>.bl (decide (i<=j))
def RX:=oI λi j=>.bl (decide (j<i))
def geI:=oI λi j=>.bl (decide (j<=i))
def xx (X:Cx) (op:CmpOp) (o:D->D->Option D):Prop:=∃r,xl X (compareOp op) r/\RW r o
def SK:xx X .LtE Lp:=⟨_,Yc,Pa λ_ _ _=>.bl _⟩
def VX:xx X .Gt RX:=⟨_,Yd,Pa λ_ _ _=>.bl _⟩
def abz:xx X .GtE geI:=⟨_,Ye,Pa λ_ _ _=>.bl _⟩
noncomputable def qB (f:fW->Option D):fW->Option Bool:=λU=>match f U with|some (.bl b)=>some b|_=>none
def abA {b:Bool}(h:qB f U=some b):f U=some (.bl b):=by
 unfold qB at h;split at h
 .rename_i e;cases h;exact e
 .cases h
def UB {t:TE}(h:∀O H Q,tD f O H Q->t O H Q):∀O H Q,tQ (qB f) O H Q->t O H λx H1=>∃c,x=.bl c/\Q c H1:=λO H Q ⟨C,U,b,x,q,k⟩=>
 h O H _ ⟨C,U,.bl b,x,abA q,λv C' H' ev i=>by cases i;exact⟨b,rfl,k C' H' ev⟩⟩
noncomputable def xy (f g:fW->Option Bool):fW->Option Bool:=λU=>match f U with|some true=>g U|some false=>some false|none=>none
noncomputable def Ep (f g:fW->Option Bool):fW->Option Bool:=λU=>match f U with|some true=>some true|some false=>g U|none=>none
noncomputable def kN (f:fW->Option Bool):fW->Option Bool:=λU=>(f U).map not
abbrev PQW (X:Cx) (e:cG) (f:fW->Option Bool):Prop:=PW X e (tQ f)
def VY {f g:fW->Option Bool}:∀O H Q,tQ (xy f g) O H Q->XU (tQ f) (tQ g) O H Q:=λO H Q ⟨C,U,b,x,q,k⟩=>by
 unfold xy at q;split at q
 .rename_i hf;exact⟨C,U,true,x,hf,λC' H' ev=>Bu ⟨C',U,b,x.ev ev,q,λC2 H2 e2=>k C2 H2 (ev.trans e2)⟩⟩
 .rename_i hf;cases q;exact⟨C,U,false,x,hf,λC' H' ev=>Dt (k C' H' ev)⟩
 .cases q
def YO:∀O H Q,tQ (Ep f g) O H Q->tOr (tQ f) (tQ g) O H Q:=λO H Q ⟨C,U,b,x,q,k⟩=>by
 unfold Ep at q;split at q
 .rename_i hf;cases q;exact⟨C,U,true,x,hf,λC' H' ev=>Bu (k C' H' ev)⟩
 .rename_i hf;exact⟨C,U,false,x,hf,λC' H' ev=>Dt ⟨C',U,b,x.ev ev,q,λC2 H2 e2=>k C2 H2 (ev.trans e2)⟩⟩
 .cases q
noncomputable def JK (f g:fW->Option D):fW->Option D:=λU=>match f U with|some (.bl true)=>g U|some (.bl false)=>some (.bl false)|_=>none
noncomputable def dIf (c:fW->Option Bool) (f g:fW->Option D):fW->Option D:=λU=>match c U with|some true=>f U|some false=>g U|none=>none
noncomputable def Fs (o o':D->D->Option D) (f g h:fW->Option D):fW->Option D:=λU=>(f U).bind λx=>(g U).bind λy=>match o x y with
 |some (.bl true)=>(h U).bind λz=>o' y z
 |some (.bl false)=>some (.bl false)
 |_=>none
end
noncomputable def isStar:cG->Bool
 |.Starred _ _=>true
 |_=>false
def gu (h:isStar e=false):starEach (e::es) env=(false,eval e env)::starEach es env:=by
 cases e<;>first|(cases h;done)|(rw[starEach];intro _ _ z;cases z)
def noStar (es:List cG):Bool:=es.all λe=> !isStar e
theorem hW:∀{es:List cG},noStar es=true->(backTo pos (starEach es env)).any (·.1)=false
 |[],_=>rfl
 |e::es,h=>by
  unfold noStar at h;rw[all_cons,Bool.and_eq_true]at h;rw[gu (by simpa using h.1)]
  unfold backTo;rw[aG,bH];have:=hW (pos:=pos) (env:=env) (es:=es) h.2;unfold backTo at this;rw[this];rfl
def VZ (h:isStar e=false):((backTo pos (starEach [e] env)).all (λx=> !x.1)&&(backToKw pos (keywordEach [] env)).all (λx=>x.1.isSome)
   &&decide ([e].length+([]:List Keyword).length+(if([]:List Keyword).isEmpty then 0 else 1)<30))=true:=by
 rw[gu h];rfl
section
variable {X:Cx}{es:List cG}{x:Str}
noncomputable def cS:fW->Option (List D):=λ_=>some []
noncomputable def cM (f:fW->Option D) (g:fW->Option (List D)):fW->Option (List D):=λU=>(f U).bind λd=>(g U).map λds=>d::ds
def xA:YM X [] cS:=(wq (X:=X)).imp λO H Q ⟨C,U,ds,x,q,k⟩=>by cases q;exact k [] C H (.refl x.sub) .nil
def qJ (ha:PD X e f) (hr:YM X es g) (hs:cK e es X.e:=by exact gu rfl):YM X (e::es) (cM f g):=(kr ha hr hs).imp λO H Q ⟨C,U,ds,x,q,k⟩=>by
 obtain⟨d,hf,q⟩:=qI q;obtain⟨r,hg,rfl⟩:=yN q;exact⟨C,U,d,x,hf,λv C1 H1 e1 i1=>⟨C1,U,r,x.ev e1,hg,λvs C2 H2 e2 i2=>k _ C2 H2 (e1.trans e2) (.cons (i1.mono e2.c) i2)⟩⟩
inductive Dx (C H:Hp):List V->List D->Prop where
 |nil:Dx C H [] []
 |cons {v:V}{d:D}{vs:List V}{ds:List D}:vf C H v d->Dx C H vs ds->Dx C H (v::vs) (d::ds)
def tAO (f:fW->Option (List D)):TA:=λO H Q=>∃C U ds,Sx U O C H/\f U=some ds/\∀vs C' H',Ev C H C' H'->Dx C' H' vs ds->Q vs H'
abbrev PAO (X:Cx) (es:List cG) (f:fW->Option (List D)):Prop:=PA X es (tAO f)
noncomputable def fy (f:fW->Option (List D)):fW->Option D:=λU=>(f U).bind λds=>if ds.length<=1000 then some (.t ds)else none
noncomputable def BE (f:fW->Option (List D)):fW->Option (List D):=λU=>(f U).bind λds=>if ds.length<=1000 then some ds else none
def M8 (g:List D->Option D):Sp:=λvs H Q _=>∃C ds d,eA C H/\τ C vs ds/\g ds=some d/\∀v C' H',pF C H C' H'->Is C' v d->Q v H'
noncomputable def cV (g:List D->Option D) (f:fW->Option (List D)):fW->Option D:=λU=>(f U).bind g
def SM:∀O H Q,tD (cV g f) O H Q->Ut (M8 g) [] E (tAD f) O H Q:=λO H Q ⟨C,U,d,x,q,k⟩=>by
 obtain⟨ds,hf,q⟩:=qI q;exact⟨C,U,ds,x,hf,λvs C1 H1 e1 i1=>⟨C1,ds,d,e1.s,by rw[bD];exact i1,q,λv C2 H2 e2 i2=>k v C2 H2 (e1.trans e2.up) i2⟩⟩
def SN (F:gK X.γ X.w X.K X.mg X.Zc nY k f fd ps (M8 g)) (hr:gc k X.A) (hg:Gl X x) (hm:X.mg x=some (.ref f)) (hk:W.keepIn X.K (.ref f)=true) (hb:Binds X.K fd ps []) (ha:YM X (e::es) fa) (yT:AD x:=by decide) (he:cK e es X.e:=by exact gu rfl) (oj:A4 pos es X.e:=by exact hW rfl):PD X (.Call (.Name x p) (e::es) [] pos) (cV g fa):=(A5 F hr hg hm hk hb .nil Ej ha yT he oj).imp SM
def CD (r:List V->Hp->VK->Prop) (g:List D->Option D):Prop:=∀C H vs ds d Q,eA C H->Dx C H vs ds->g ds=some d->(∀v C' H',pF C H C' H'->Is C' v d->Q v H')->r vs H Q
def CF (r:List V->Hp->VK->Prop) (g:List D->Option (List D)):Prop:=∀C H vs ds d Q,eA C H->Dx C H vs ds->g ds=some d->(∀a xs C' H',pF C H C' H'->H a=none->C' a=none->H' a=some (.l xs)->τ C' xs d->Q (.ref a) H')->r vs H Q
def xB (X:Cx) (f:cy) (g:List D->Option D):Prop:=∃r,jT X f r/\CD r g
def Pe (X:Cx) (f:cy) (g:List D->Option (List D)):Prop:=∃r,jT X f r/\CF r g
noncomputable def ly (g:List D->Option (List D)) (f:fW->Option (List D)):fW->Option (List D):=λU=>(f U).bind g
def UC (hd:CD r g):∀O H Q,tD (cV g f) O H Q->tCB r (tAO f) O H Q:=λO H Q ⟨C,U,d,x,q,k⟩=>by
 obtain⟨ds,hf,q⟩:=qI q;exact⟨C,U,ds,x,hf,λvs C1 H1 e1 i1=>hd C1 H1 vs ds d Q e1.s i1 q λv C2 H2 e2 i2=>k v C2 H2 (e1.trans e2.up) i2⟩
def YQ (hd:CF r g):∀O H Q,tF (ly g f) O H Q->tCB r (tAO f) O H Q:=λO H Q ⟨C,U,d,x,q,k⟩=>by
 obtain⟨ds,hf,q⟩:=qI q;exact⟨C,U,ds,x,hf,λvs C1 H1 e1 i1=>hd C1 H1 vs ds d Q e1.s i1 q λa xs C2 H2 e2 h2=>k a xs C2 H2 (e1.trans e2.up) (e1.free h2)⟩
end
end DL
namespace DL
open L2
variable [μ]
structure Gd (B C0 H0:Hp) (U:fW) (O:L2.St) (C H:Hp):Prop where
 b:eA B C
 ev:Ev C0 H0 C H
 x:Sx U O C H
 fr:∀(i:Nat) (ds:List D) (a:cF),U[i]? =some (.o ds)->O[i]? =some (some (.ref a))->H0 a=none
inductive R where
 |next (U:fW)|ret (d:D)|brk (U:fW)|cont (U:fW)
abbrev _root_.bZ:=fW->Option (List D)
abbrev _root_.cb:=fW->Option R
abbrev _root_.cc:=fW->Option D
abbrev _root_.cf:=fW->Option Bool
abbrev _root_.cg:=List D->Option D
abbrev _root_.cw:=List D
def Fi (B C0 H0:Hp) (Dn:Ends):R->Prop
 |.next U=>∀O C H,Gd B C0 H0 U O C H->Dn.nx O H
 |.ret d=>∀v C H,Ev C0 H0 C H->Is C v d->Dn.rt v H
 |.brk U=>∀O C H,Gd B C0 H0 U O C H->Dn.bk O H
 |.cont U=>∀O C H,Gd B C0 H0 U O C H->Dn.ct O H
def tS (B C0 H0:Hp) (f:cb):TS:=λDn O H=>∃C U r,Gd B C0 H0 U O C H/\f U=some r/\Fi B C0 H0 Dn r
def PB (X:Cx) (C0 H0:Hp) (st:cH) (f:cb):Prop:=∀B,PS X st (tS B C0 H0 f)
def N4 (X:Cx) (C0 H0:Hp) (st:List cH) (f:cb):Prop:=∀B,Df X st (tS B C0 H0 f)
section
variable {U:fW}
def Gd.A7 (g:Gd B C0 H0 U O C H) (e:Ev C H C' H'):Gd B C0 H0 U O C' H':=⟨g.b.trans e.c,g.ev.trans e,g.x.ev e,g.fr⟩
theorem Gd.wx (g:Gd B C0 H0 U O C H) (h:Is C v d):Gd B C0 H0 (U.set i (.d d)) (O.set i (some v)) C H:=
 ⟨g.b,g.ev,g.x.wx h,λk ds a q1 q2=>by
  rcases Ce q1 with⟨_,e⟩|⟨hk,e⟩
  .cases e
  .rw[aH (Ne.symm hk)]at q2;exact g.fr k ds a e q2⟩
theorem Gd.BD (g:Gd B C0 H0 U O C H) (e:Ev C H C' H') (hn:H a=none) (hc:C' a=none) (hH:H' a=some (.l xs)) (hl:τ C' xs ds):Gd B C0 H0 (U.set i (.o ds)) (O.set i (some (.ref a))) C' H':=
 ⟨g.b.trans e.c,g.ev.trans e,(g.x.ev e).BD hc hH hl (λk es q z=>by
   obtain⟨b,ys,h1,h2,h3,_⟩:=g.x.o k es q;rw[z]at h1;cases h1;rw[hn]at h3;cases h3),
  λk es b q1 q2=>by
   rcases Ce q1 with⟨rfl,e1⟩|⟨hk,e1⟩
   .rcases Ce q2 with⟨_,e2⟩|⟨z,_⟩
    .cases e2;exact g.ev.free hn
    .exact absurd rfl z
   .rw[aH (Ne.symm hk)]at q2;exact g.fr k es b e1 q2⟩
theorem Gd.mut (g:Gd B C0 H0 U O C H) (hi:U[i]? =some (.o ds)) (ha:O[i]? =some (some (.ref a))) (hl:τ C ys es):Gd B C0 H0 (U.set i (.o es)) O C (ν H a (.l ys)):=by
 obtain⟨a',xs,h1,h2,h3,_⟩:=g.x.o i ds hi;rw[ha]at h1;cases h1;refine⟨g.b,g.ev.BC (g.fr i ds a hi ha) h2 _,g.x.mut hi ha hl,λk fs b q1 q2=>?_⟩
 rcases Ce q1 with⟨rfl,e1⟩|⟨hk,e1⟩
 .exact g.fr k ds b hi q2
 .exact g.fr k fs b e1 q2
noncomputable def BF (i:Nat) (U:fW):fW:=match U[i]? with|some (.o ds)=>U.set i (.d (.l ds))|_=>U
theorem Gd.give (g:Gd B C0 H0 U O C H) (i:Nat):∃C',Gd B C0 H0 (BF i U) O C' H:=by
 unfold BF;split
 .rename_i ds hi;obtain⟨a,xs,h1,h2,h3,h4⟩:=g.x.o i ds hi;refine⟨ν C a (.l xs),g.b.trans (fj h2),g.ev.UA (g.fr i ds a hi h1) h2 h3,g.x.give hi h1 h3 h4,λk fs b q1 q2=>?_⟩
  .rcases Ce q1 with⟨_,e1⟩|⟨hk,e1⟩
   .cases e1
   .exact g.fr k fs b e1 q2
 .exact⟨C,g⟩
end
section
variable {f g:cb}
noncomputable def gq:cb:=λU=>some (.next U)
noncomputable def dP (f g:cb):cb:=λU=>match f U with|some (.next δ')=>g δ'|r=>r
def vS (i:Nat) (f:cb):cb:=λU=>f (BF i U)
noncomputable def eB (f:cc):cb:=λU=>(f U).map .ret
noncomputable def g0 (i:Nat) (f:cc):cb:=λU=>(f U).map λd=>.next (U.set i (.d d))
noncomputable def mw (i:Nat) (f:bZ):cb:=λU=>(f U).map λds=>.next (U.set i (.o ds))
def V0 {f:cc}{t:TE}(h:∀O H Q,tD f O H Q->t O H Q):∀Dn O H,tS B C0 H0 (g0 i f) Dn O H->t O H λv H1=>Dn.nx (O.set i (some v)) H1:=λDn O H ⟨C,U,r,gd,q,k⟩=>by
 obtain⟨d,hf,rfl⟩:=yN q;exact h O H _ ⟨C,U,d,gd.x,hf,λv C' H' ev i=>k _ C' H' ((gd.A7 ev).wx i)⟩
def Pf {B:Hp}{f:bZ}{t:TE}(h:∀O H Q,tF f O H Q->t O H Q):∀Dn O H,tS B C0 H0 (mw i f) Dn O H->t O H λv H1=>Dn.nx (O.set i (some v)) H1:=λDn O H ⟨C,U,r,gd,q,k⟩=>by
 obtain⟨ds,hf,rfl⟩:=yN q;exact h O H _ ⟨C,U,ds,gd.x,hf,λa xs C' H' ev h1 h2 h3 h4=>k _ C' H' (gd.BD ev h1 h2 h3 h4)⟩
noncomputable def kx (c:cf) (f g:cb):cb:=λU=>match c U with|some true=>f U|some false=>g U|none=>none
noncomputable def JL (i:Nat) (f:cc):cb:=λU=>match U[i]? with
 |some (.o ds)=>(f U).bind λd=>if ds.length<1000000 then some (.next (U.set i (.o (ds++[d]))))else none
 |_=>none
omit [μ] in
def A8 (h:n<1000000):n<sizeLine:=ay h (by decide)
def M9 {i:Nat}{o:cG}{f:cc}{t:TA}(ht:PA X [e] t) (ho:PE X o (lu i)) (he:∀O H Q,tAD (cM f cS) O H Q->t O H Q) (call:PE X (.Call (.Attribute o "append" apos) [e] [] pos) (tBM X.K "list" Lj (lu i) t)) {pos':Pos}(hs:swapsWith (.Call (.Attribute o "append" apos) [e] [] pos) none pos'.line X.e=pure false:=by rfl):PB X C0 H0 (.Expr (.Call (.Attribute o "append" apos) [e] [] pos) pos') (JL i f):=λB=>(Le call hs).imp λDn O H ⟨C,U,r,gd,q,k⟩=>by
 unfold JL at q;split at q
 .rename_i ds hi;obtain⟨d,hf,q⟩:=qI q;obtain⟨hz,q⟩:=nq q;cases q;obtain⟨a,xs,h1,h2,h3,h4⟩:=gd.x.o i ds hi;refine⟨_,h1,.inl ⟨rfl,_,ua.of h3⟩,he O H _ ⟨C,U,[d],gd.x,by unfold cM cS;rw[hf];rfl,λvs C' H' ev i'=>?_⟩⟩
  cases i' with
  |cons i1 i2=>
   cases i2;refine⟨a,xs,_,rfl,rfl,ev.hh h3,by rw[h4.length];exact A8 hz,k O C' _ ((gd.A7 ev).mut hi h1 ((h4.mono ev.c).append (.one i1)))⟩
 .cases q
end
def Wk (J:It) (ds:cw) (C:Hp):Prop:=∀i C' H',eA C C'->eA C' H'->(∀d,ds[i]? =some d->J.go i H'/\∀x H3,J.R6 i H' x H3->H3=H'/\Is C' x d)/\(ds.length<=i->J.stop i H')
def WkE (J:It) (ds:cw) (C H:Hp):Prop:=∀i C' H',Ev C H C' H'->(∀d,ds[i]? =some d->J.go i H'/\∀x H3,J.R6 i H' x H3->H3=H'/\Is C' x d)/\(ds.length<=i->J.stop i H')
def tI (f:bZ):TI:=λO H R=>∃C U ds,Sx U O C H/\f U=some ds/\∀J C' H',Ev C H C' H'->Wk J ds C'->R J H'
def tIE (f:bZ):TI:=λO H R=>∃C U ds,Sx U O C H/\f U=some ds/\∀J C' H',Ev C H C' H'->WkE J ds C' H'->R J H'
omit [μ] in
def _root_.L2.PI.imp (h:PI X tg e t) (m:∀O H Q,t' O H Q->t O H Q):PI X tg e t':=λcL s O H Q I q=>h cL s O H Q I (m O H Q q)
abbrev YR (X:Cx) (tg e:cG) (f:bZ):Prop:=PI X tg e (tI f)
abbrev PIe (X:Cx) (tg e:cG) (f:bZ):Prop:=PI X tg e (tIE f)
section
variable {e:cG}
def YR.weak (h:YR X tg e f):PIe X tg e f:=h.imp λO H R ⟨C,U,ds,x,q,k⟩=>⟨C,U,ds,x,q,λJ C' H' ev wk=>k J C' H' ev λi C2 H2 e2=>wk i C2 H2 e2.c e2.s⟩
noncomputable def iL (f:cc):bZ:=λU=>match f U with|some (.l ds)=>some ds|_=>none
noncomputable def iT (f:cc):bZ:=λU=>match f U with|some (.t ds)=>some ds|_=>none
def Er {K:W.Frag}(h:Rd C a (.l xs)) (hl:τ C xs ds):Wk (Itl K a) ds C:=λi C' H' sc sh=>by
 have hq:ua K H' a xs:=.inl ((h.same sc).same sh);refine⟨λd hd=>?_,λhi=>⟨xs,hq,by rw[hl.length];exact hi⟩⟩
 obtain⟨v,hv,is⟩:=hl.get hd;exact⟨⟨xs,v,hq,hv⟩,λx H3 ⟨e1,e2⟩=>⟨e1,by
  have:=e2 xs hq;rw[hv]at this;cases this;exact is.mono sc⟩⟩
def Pg {K:W.Frag}(h:C a=some (.t xs)) (hl:τ C xs ds):Wk (Itt K a) ds C:=λi C' H' sc sh=>by
 have hq:lr K H' a xs:=lr.of (sh _ _ (sc _ _ h));refine⟨λd hd=>?_,λhi=>⟨xs,hq,by rw[hl.length];exact hi⟩⟩
 obtain⟨v,hv,is⟩:=hl.get hd;exact⟨⟨xs,v,hq,hv⟩,λx H3 ⟨e1,e2⟩=>⟨e1,by
  have:=e2 xs hq;rw[hv]at this;cases this;exact is.mono sc⟩⟩
def Ha {f:cc}(h:PD X e f):YR X tg e (iL f):=(Lf h).imp λO H R ⟨C,U,ds,x,q,k⟩=>by
 unfold iL at q;split at q
 .rename_i es hf;cases q;refine⟨C,U,_,x,hf,λv C' H' ev i=>?_⟩
  cases i with
  |l hr hl=>exact⟨_,rfl,⟨_,.inl (hr.same ev.s)⟩,k _ C' H' ev (Er hr hl)⟩
 .cases q
def Lq (h:PD X e f):YR X tg e (iT f):=(Vv h).imp λO H R ⟨C,U,ds,x,q,k⟩=>by
 unfold iT at q;split at q
 .rename_i es hf;cases q;refine⟨C,U,_,x,hf,λv C' H' ev i=>?_⟩
  cases i with
  |t hr hl=>exact⟨_,rfl,⟨_,lr.of (ev.s _ _ hr)⟩,k _ C' H' ev (Pg hr hl)⟩
 .cases q
noncomputable def eG (lo:Int):Nat->cq
 |0=>[]
 |n+1=>lo::eG (lo+1) n
omit [μ] in
theorem rP:∀(n i:Nat) (lo:Int),(eG lo n)[i]? =if i<n then some (lo+i)else none
 |0,i,lo=>by simp[eG]
 |n+1,0,lo=>by simp[eG]
 |n+1,i+1,lo=>by
  show(eG (lo+1) n)[i]? =_;rw[rP n i (lo+1)];by_cases h:i<n
  .rw[if_pos h,if_pos (by omega)];congr 1;omega
  .rw[if_neg h,if_neg (by omega)]
omit [μ] in
theorem eQ:∀(n:Nat) (lo:Int),(eG lo n).length=n
 |0,_=>rfl
 |n+1,lo=>congrArg (·+1) (eQ n (lo+1))
def JM {lo:Int}:Wk (Z9 lo n) ((eG lo n).map D.int) C:=λi C' H' sc sh=>by
 refine⟨λd hd=>?_,λhi=>?_⟩
 .rw[aw,rP]at hd;obtain⟨_,e,rfl⟩:=yN hd;obtain⟨h,e⟩:=nq e;cases e;exact⟨h,λx H3 ⟨e1,e2⟩=>⟨e1,by rw[e2];exact .int _⟩⟩
 .rw[ae,eQ]at hi;exact hi
def Dg (f:bZ):bZ:=λU=>match f U with|some [.int j]=>if j<1000000/\-1000000<j then some ((eG 0 j.toNat).map D.int)else none|_=>none
noncomputable def gL (j:Nat) (f:cb):cw->cb
 |[],U=>some (.next U)
 |d::ds,U=>match f (U.set j (.d d))with
  |some (.next δ')=>gL j f ds δ'
  |some (.cont δ')=>gL j f ds δ'
  |some (.brk δ')=>some (.next δ')
  |some (.ret r)=>some (.ret r)
  |none=>none
def nE (j:Nat) (i:bZ) (f:cb):cb:=λU=>(i U).bind λds=>gL j f ds U
noncomputable def i8 (j:Nat) (t:cf) (f:cc) (U:fW):cw->Option (cw)
 |[]=>some []
 |d::ds=>match t (U.set j (.d d))with
  |some true=>(f (U.set j (.d d))).bind λy=>(i8 j t f U ds).map λys=>y::ys
  |some false=>i8 j t f U ds
  |none=>none
def fq (i:bZ) (j:Nat) (t:cf) (f:cc):bZ:=λU=>(i U).bind λds=>if ds.length<1000000 then i8 j t f U ds else none
noncomputable def kO:cf:=λ_=>some true
def Ph:∀O H Q,tQ kO O H Q->YF O H Q:=λO H Q ⟨C,U,b,x,q,k⟩=>by cases q;exact k C H (.refl x.sub)
abbrev CompI (C1 H1:Hp) (A:cF) (ds ys:cw) (p:cw->Option (cw)) (n m:Nat) (υ:List V) (H':Hp):Prop:=∃C' done rest,m=ds.length-n/\n<=ds.length/\Ev C1 H1 C' H'/\C' A=none/\H' A=some (.l υ)/\τ C' υ done/\done.length<=n/\p (ds.drop n)=some rest/\ys=done++rest
def JN (ht:∀O H Q,tQ t O H Q->tt O H Q):∀O H Q,tF (fq i j t f) O H Q->OZ (tIE i) j tt (tD f) O H Q:=λO H Q ⟨C,U,ys,x,q,k⟩=>by
 obtain⟨ds,hf,q⟩:=qI q;obtain⟨hz,q⟩:=nq q;refine⟨C,U,ds,x,hf,λJ C1 H1 ev wk A hA=>?_⟩
 refine⟨CompI C1 H1 A ds ys (i8 j t f U),
  ⟨ds.length,C1,[],ys,by simp,bM _,.ig ev.s hA,ev.s.free hA,dk,.nil,av _,by simpa using q,rfl⟩,?_⟩
 rintro n m υ H2 ⟨C2,done,rest,rfl,hn,e2,a2,b2,l2,le2,q2,ey⟩
 have w:=wk n C2 H2 e2;by_cases fR:n<ds.length
 .have hd:ds[n]? =some ds[n]:=ah fR;obtain⟨go,yl⟩:=w.1 _ hd;rw[drop_eq_getElem_cons fR]at q2;refine .inr ⟨go,λv H3 y=>?_⟩
  obtain⟨rfl,is⟩:=yl v H3 y;have x2:Sx U O C2 H3:=x.ev (ev.trans e2);have x3:=x2.wx (i:=j) is;unfold i8 at q2;split at q2
  .rename_i htt;refine ht _ _ _ ⟨C2,_,true,x3,htt,λC4 H4 e4=>Bu ?_⟩
   obtain⟨y,SO,q2⟩:=qI q2;obtain⟨rs,hr,rfl⟩:=yN q2;refine⟨C4,_,y,x3.ev e4,SO,λu C5 H5 e5 i5=>?_⟩
   have N5:=e4.trans e5;have hA5:=N5.hh b2;have a5:=N5.nn a2 b2;refine⟨hA5,?_,ds.length-(n+1),by omega,C5,done++[y],rs,rfl,fR,(e2.trans N5).BC hA a5 _,a5,dk,(l2.mono N5.c).append (.one i5),?_,hr,?_⟩
   .rw[l2.length];exact A8 (by omega)
   .rw[aR,length_singleton];omega
   .rw[ey,append_assoc];rfl
  .rename_i htt;refine ht _ _ _ ⟨C2,_,false,x3,htt,λC4 H4 e4=>Dt ?_⟩
   exact⟨ds.length-(n+1),by omega,C4,done,rest,rfl,fR,e2.trans e4,e4.nn a2 b2,e4.hh b2,l2.mono e4.c,by omega,q2,ey⟩
  .cases q2
 .have e:n=ds.length:=by omega
  subst e;rw[drop_length]at q2;unfold i8 at q2;cases q2;rw[bD]at ey;subst ey;exact .inl ⟨w.2 (av _),k A υ C2 H2 (ev.trans e2) (ev.free hA) a2 b2 l2⟩
end
end DL
namespace DL
open L2
noncomputable def gF (n:Nat) (np:Nat) (f:cb) (ds:cw):Option D:=
 if ds.length=np then(match f (ds.map Sl.d++replicate (n-np) Sl.n)with|some (.ret d)=>some d|some (.next _)=>some .eZ|_=>none)else none
section
variable [μ]
def n8 (gd:Gd C C H U O C H) (q:(match fb U with|some (.ret d)=>some d|some (.next _)=>some .eZ|_=>none)=some d) (k:∀v C' H',Ev C H C' H'->Is C' v d->Q v H'):tS C C H fb {nx:=λ_ H'=>Q .eZ H',rt:=Q} O H:=by
 split at q
 .rename_i d' hf;cases q;exact⟨C,_,_,gd,hf,λv C' H' ev i'=>k v C' H' ev i'⟩
 .rename_i δ' hf;cases q;exact⟨C,_,_,gd,hf,λσ' C' H' g'=>k .eZ C' H' g'.ev .eZ⟩
 .cases q
def yY {n:Nat}(hn:n<vs.length):(L2.start N vs)[n]? =some vs[n]? :=by
 unfold L2.start;rw[aK (by rw[ae];exact hn),aw,ah hn];rfl
def Pj (sx:Sx U O C H) (no:∀(n:Nat) es,U[n]? ≠some (Sl.o es)):Gd C C H U O C H:=⟨eA.refl _,.refl sx.sub,sx,λn es a e _=>absurd e (no n es)⟩
def Lr (S:dF N ps sc):ps.length<=N.length:=by have:=S.pre;rw[<-this,bK];omega
def Hb (S:dF N ps sc) (sub:eA C H) (i:τ C vs ds) (hl:ds.length=ps.length):Gd C C H (ds.map Sl.d++replicate (N.length-ps.length) Sl.n) (L2.start N vs) C H:=by
 have ge:∀{n:Nat}{x:Sl},(ds.map Sl.d++replicate (N.length-ps.length) Sl.n)[n]? =some x->(∃d,ds[n]? =some d/\x=.d d)\/x=.n:=λ{n x} e=>by
  by_cases hn:n<ds.length
  .rw[aK (by simpa using hn),aw,ah hn]at e
   cases e;exact .inl ⟨_,ah hn,rfl⟩
  .rw[aQ (by rw[ae];omega),bg]at e
   split at e<;>cases e
   exact .inr rfl
 have no:∀(n:Nat) es,(ds.map Sl.d++replicate (N.length-ps.length) Sl.n)[n]? ≠some (Sl.o es):=λn es e=>by rcases ge e with⟨_,_,q⟩|q<;>cases q
 have lv:=i.length;have:=Lr S;refine Pj ⟨sub,λn d e=>?_,λn es e=>absurd e (no n es),λn m es fs a e=>absurd e (no n es),?_,λn ks e=>by rcases ge e with⟨_,_,q⟩|q<;>cases q⟩ no
 .rcases ge e with⟨_,hd,q⟩|q<;>cases q
  obtain⟨v,h1,h2⟩:=i.get hd;exact⟨v,by rw[yY (List.getElem?_eq_some_iff.mp h1).1,h1],h2⟩
 .unfold L2.start;simp only[aR,ae,length_replicate];omega
end
def UD {P:cB}{w:cC}{K:W.Frag}{Zc:Heap}{x qual:Str}{st:cH}{f:cF}{fd:cA}{N ps:List Str}{k:Nat}(F:Bs K x qual st f fd) (S:dF N ps (cZ st)) {fb:cb}(gO:∀(fC:cy) (A:cD) (ε:List Env) (s:cz) (H:Hp) (E:XK),gc k (A.deeper (envOfC qual (cZ st) s.dN f fC))->∀C0 H0,@N4 μ.keep (t6 nY P w K mg Zc N qual (cZ st) f fC A ε s H E).GJ C0 H0 (gr st) fb):gK P w K mg Zc nY (k+1) f fd ps (M8 (gF N.length ps.length fb)):=by
 letI:μ:=μ.keep
 refine F.ok S (λvs H Q E h=>?_) (λfC A ε s H vs Q E hr h=>?_)
 all_goals
  obtain⟨C,ds,d,sub,i,q,k⟩:=h;obtain⟨hl,q⟩:=nq q
 .rw[i.length];exact hl
 .exact⟨tS C C H fb,gO fC A ε s H E hr C H C,n8 (Hb S sub i hl) q λv C' H' ev i'=>k v C' H' ev.xv i'⟩
mutual
noncomputable def jK:D->D->Bool
 |.eZ,.eZ=>true
 |.bl a,.bl b=>a==b
 |.bl a,.int b=>(if a then 1 else 0)==b
 |.int a,.bl b=>a==(if b then 1 else 0)
 |.int a,.int b=>a==b
 |.str a,.str b=>a==b
 |.t a,.t b=>kP a b
 |.l a,.l b=>kP a b
 |_,_=>false
noncomputable def kP:cw->cw->Bool
 |[],[]=>true
 |a::as,b::bs=>jK a b&&kP as bs
 |_,_=>false
end
mutual
noncomputable def eN:D->Nat
 |.t ds=>jj ds+1
 |.l ds=>jj ds+1
 |_=>0
noncomputable def jj:cw->Nat
 |[]=>0
 |d::ds=>max (eN d) (jj ds)
end
theorem my:∀{ds:cw}{d:D},d∈ds->eN d<=jj ds
 |e::r,d,h=>by
  unfold jj;rcases mem_cons.mp h with h|h
  .subst h;omega
  .have:=my h;omega
mutual
theorem xC:∀d:D,jK d d=true
 |.eZ=>by unfold jK;rfl
 |.bl b=>by unfold jK;simp
 |.int i=>by unfold jK;simp
 |.str x=>by unfold jK;simp
 |.t ds=>by unfold jK;exact yZ ds
 |.l ds=>by unfold jK;exact yZ ds
theorem yZ:∀ds:cw,kP ds ds=true
 |[]=>by unfold kP;rfl
 |d::ds=>by unfold kP;rw[xC d,yZ ds];rfl
end
theorem qK:∀(as bs:cw),kP as bs=((List.range (min as.length bs.length)).all (λj=>jK (as.getD j .eZ) (bs.getD j .eZ))&&as.length==bs.length)
 |[],[]=>by unfold kP;rfl
 |[],b::bs=>by unfold kP;simp
 |a::as,[]=>by unfold kP;simp
 |a::as,b::bs=>by
  unfold kP;rw[qK as bs];have e:min (a::as).length (b::bs).length=min as.length bs.length+1:=by simp only[az];omega
  rw[e,range_succ_eq_map,all_cons,all_map];simp only[az,getD_cons_zero,Nat.add_left_inj,Nat.add_eq,Nat.add_zero,Bool.and_assoc]
  congr 1
  have e2:(as.length+1==bs.length+1)=(as.length==bs.length):=by
   rw[Bool.eq_iff_iff];simp
  rw[e2]
  congr 1
mutual
theorem Is.inj {C:Hp}:∀{v:V}{d e:D},Is C v d->Is C v e->d=e
 |_,_,_,.eZ,q=>by cases q;rfl
 |_,_,_,.bl _,q=>by cases q;rfl
 |_,_,_,.int _,q=>by cases q;rfl
 |_,_,_,.str _,q=>by cases q;rfl
 |_,_,_,.t h l,q=>by
  cases q with
  |t h' l'=>rw[h]at h';cases h';rw[τ.inj l l']
  |l h' _=>rcases h' with q|⟨o',q⟩<;>(rw[h]at q;cases q)
 |_,_,_,.l h l,q=>by
  cases q with
  |t h' _=>rcases h with q|⟨o',q⟩<;>(rw[h']at q;cases q)
  |l h' l'=>rcases h with p|⟨o,p⟩<;>rcases h' with q|⟨o',q⟩<;>(rw[p]at q;cases q)<;>rw[τ.inj l l']
theorem τ.inj {C:Hp}:∀{vs:List V}{ds es:cw},τ C vs ds->τ C vs es->ds=es
 |_,_,_,.nil,q=>by cases q;rfl
 |_,_,_,.cons h t,q=>by cases q with|cons h' t'=>rw[Is.inj h h',τ.inj t t']
end
section
variable {C:Hp}{s:cz}
inductive Kd (s:cz):cy->D->Prop
 |eZ:Kd s .none .eZ
 |bl (b:Bool):Kd s (.bool b) (.bl b)
 |int (i:Int) (t:Tok):Kd s (.int i t) (.int i)
 |str (x:Str) (t:Tok):Kd s (.str x t) (.str x)
 |t {a:cF}{dE:Array cy}{ds:cw}:s.heap.IsTuple a dE->Kd s (.ref a) (.t ds)
 |l {a:cF}{dE:Array cy}{ds:cw}:s.heap.IsList a dE->Kd s (.ref a) (.l ds)
def Hc (I:η X cL O H s) (sub:eA C H) (iv:Is C v d) (ru:ι v u):Kd s u d:=by
 cases iv with
 |eZ=>cases ru;exact .eZ
 |bl b=>cases ru;exact .bl b
 |int b=>obtain⟨t,rfl⟩:=ru;exact .int b t
 |str b=>obtain⟨t,rfl⟩:=ru;exact .str b t
 |t h l=>cases ru;obtain⟨dE,_,p,_⟩:=I.tuple (lr.of (K:=X.K) (sub _ _ h));exact .t p
 |l h l=>cases ru;obtain⟨dE,_,p,_⟩:=I.list (.inl (h.same sub));exact .l p.isList
def Ft (I:η X cL O H s) (sub:eA C H) (iv:Is C v (.t ds)) (ru:ι v (.ref a)):∃dE xs,v=.ref a/\IsTup s.heap a dE.toArray/\dE.toArray.size=ds.length/\τ C xs ds/\θ xs dE:=by
 cases iv with
 |@t b xs _ h l=>
  cases ru;obtain⟨dE,r,p,_⟩:=I.tuple (lr.of (K:=X.K) (sub _ _ h));exact⟨dE,xs,rfl,p,by rw[au,<-r.length,l.length],l,r⟩
def Fu (I:η X cL O H s) (sub:eA C H) (iv:Is C v (.l ds)) (ru:ι v (.ref a)):∃dE xs,v=.ref a/\s.heap.IsList a dE.toArray/\dE.toArray.size=ds.length/\τ C xs ds/\θ xs dE:=by
 cases iv with
 |@l b xs _ h l=>
  cases ru;obtain⟨dE,r,p,_⟩:=I.list (.inl (h.same sub));exact⟨dE,xs,rfl,p.isList,by rw[au,<-r.length,l.length],l,r⟩
def Pk (C:Hp) (s:cz) (A:cD) (n:Nat):Prop:=∀{d e:D}{v w:V}{u z:cy},eN d<=n->Is C v d->Is C w e->ι v u->ι w z->SeqAt.EqAt A s u z (jK d e)
section
variable {A:cD}{n:Nat}
def xD (ih:Pk C s A.in1 n) {xs ys:List V}{ds es:cw}{dE qb:cx}(hn:eN (.t ds)<=n+1) (l1:τ C xs ds) (l2:τ C ys es) (r1:θ xs dE) (r2:θ ys qb):
  ∀j (h1:j<dE.toArray.size) (h2:j<qb.toArray.size),SeqAt.EqAt A.in1 s dE.toArray[j] qb.toArray[j] (jK (ds.getD j .eZ) (es.getD j .eZ)):=λj h1 h2=>by
 have JI:j<dE.length:=by simpa using h1
 have M5:j<qb.length:=by simpa using h2
 have g1:xs[j]? =some (xs[j]'(by rw[r1.length];exact JI)):=ah _
 have g2:ys[j]? =some (ys[j]'(by rw[r2.length];exact M5)):=ah _
 obtain⟨u1,q1,k1⟩:=r1.get g1;obtain⟨u2,q2,k2⟩:=r2.get g2;obtain⟨d1,e1,i1⟩:=l1.get' g1;obtain⟨d2,e2,i2⟩:=l2.get' g2;have w1:dE.toArray[j]=u1:=by
  rw[ah JI]at q1
  simpa using aT q1
 have w2:qb.toArray[j]=u2:=by
  rw[ah M5]at q2
  simpa using aT q2
 rw[w1,w2,ao,ao,e1,e2];unfold eN at hn;exact ih (aE (my (bj e1)) (by omega)) i1 i2 k1 k2
def JO (I:η X cL O H s) (sub:eA C H) (ih:1<=eN d->Pk C s A.in1 n) (hd:eN d<=n+1) (hu:A.units<cLine) (iv:Is C v d) (iw:Is C w e) (ru:ι v u) (rz:ι w z):SeqAt.RcAt A s u z (jK d e):=by
 cases Hc I sub iv ru<;>cases Hc I sub iw rz<;>unfold jK<;>try (with_reducible first|exact .none_none|exact .none_bool _|exact .none_int _ _|exact .none_str _ _|exact .none_tuple ‹_› ‹_› |exact .none_list ‹_› ‹_› |exact .bool_none _|exact .bool_bool _ _|exact .bool_int _ _ _|exact .bool_str _ _ _|exact .bool_tuple _ ‹_› ‹_› |exact .bool_list _ ‹_› ‹_› |exact .int_none _ _|exact .int_bool _ _ _|exact .int_int _ _ _ _|exact .int_str _ _ _ _|exact .int_tuple _ _ ‹_› ‹_› |exact .int_list _ _ ‹_› ‹_› |exact .str_none _ _|exact .str_bool _ _ _|exact .str_int _ _ _ _|exact .str_str _ _ _ _|exact .str_tuple _ _ ‹_› ‹_› |exact .str_list _ _ ‹_› ‹_› |exact .tuple_none ‹_› ‹_› |exact .tuple_bool _ ‹_› ‹_› |exact .tuple_int _ _ ‹_› ‹_› |exact .tuple_str _ _ ‹_› ‹_› |exact .tuple_list ‹_› ‹_› ‹_› |exact .list_none ‹_› ‹_› |exact .list_bool _ ‹_› ‹_› |exact .list_int _ _ ‹_› ‹_› |exact .list_str _ _ ‹_› ‹_› |exact .list_tuple ‹_› ‹_› ‹_›)
 .obtain⟨dE,xs,_,p1,e1,l,r1⟩:=Ft I sub iv ru;obtain⟨qb,ys,_,p2,e2,l2,r2⟩:=Ft I sub iw rz;have q:=SeqAt.RcAt.tuples p1 p2 hu (xD (ih (by unfold eN;omega)) hd l l2 r1 r2)
  rw[e1,e2]at q;rw[qK];exact q
 .obtain⟨dE,xs,_,p1,e1,l,r1⟩:=Fu I sub iv ru;obtain⟨qb,ys,_,p2,e2,l2,r2⟩:=Fu I sub iw rz;rw[qK];by_cases hl:dE.toArray.size=qb.toArray.size
  .have q:=SeqAt.RcAt.lists p1 p2 hl hu (xD (ih (by unfold eN;omega)) hd l l2 r1 r2)
   rw[<-e1,<-e2,<-hl,Nat.min_self,bO,Bool.and_true];exact q
  .have q:=SeqAt.RcAt.lists_lengths p1 p2 (by simpa using hl) hu
   rw[<-e1,<-e2,beq_false_of_ne hl,Bool.and_false];exact q
def Pl (I:η X cL O H s) (sub:eA C H) (hu:A.units<cLine) (h:∀{d e:D}{v w:V}{u z:cy},eN d<=n->Is C v d->Is C w e->ι v u->ι w z->SeqAt.RcAt A s u z (jK d e)):Pk C s A n:=λ{d e v w u z} hd iv iw ru rz=>by
 by_cases huz:u=z
 .subst huz;rw[ι.inj ru rz]at iv;rw[Is.inj iv iw,xC];exact .same _
 .have r:=h hd iv iw ru rz;intro γ w' E Q hq;unfold eqBool;refine bo (wpAny_ite_split (λSQ=>absurd (eq_of_beq SQ) huz) λ_=>?_)
  cases Hc I sub iv ru<;>exact aa (r γ w' E _ (bR hq))
end
def JP (I:η X cL O H s) (sub:eA C H):∀(n:Nat) (A:cD),A.units+n<cLine->Pk C s A n:=λn=>by
 induction n with
 |zero=>exact λA hu=>Pl I sub (by omega) λ{d e v w u z} hd=>JO (n:=0) I sub (λh=>by omega) (by omega) (by omega)
 |succ n ih=>exact λA hu=>Pl I sub (by omega) λ{d e v w u z} hd=>JO I sub (λ_=>ih A.in1 (by show A.units+1+n<cLine;omega)) hd (by omega)
def V1 (I:η X cL O H s) (sub:eA C H) (hd:eN d<=30) (hu:A.units+40<cLine) (iv:Is C v d) (iw:Is C w e) (ru:ι v u) (rz:ι w z):SeqAt.RcAt A s u z (jK d e):=
 JO I sub (λ_=>JP I sub 30 A.in1 (by show A.units+1+30<cLine;omega)) (by omega) (by omega) iv iw ru rz
def V2 (I:η X cL O H s) (sub:eA C H) (hd:eN d<=30) (hu:A.units+40<cLine) (iv:Is C v d) (iw:Is C w e) (ru:ι v u) (rz:ι w z):SeqAt.RcNeAt A s u z (!(jK d e)):=by
 have ih:Pk C s A.in1 30:=JP I sub 30 A.in1 (by show A.units+1+30<cLine;omega)
 have Lu:A.units<cLine:=by omega
 cases Hc I sub iv ru<;>cases Hc I sub iw rz<;>unfold jK<;>(try simp only[Bool.not_false,bU])<;>try (with_reducible first|exact .none_none|exact .none_bool _|exact .none_int _ _|exact .none_str _ _|exact .none_tuple ‹_› ‹_› |exact .none_list ‹_› ‹_› |exact .bool_none _|exact .bool_bool _ _|exact .bool_int _ _ _|exact .bool_str _ _ _|exact .bool_tuple _ ‹_› ‹_› |exact .bool_list _ ‹_› ‹_› |exact .int_none _ _|exact .int_bool _ _ _|exact .int_int _ _ _ _|exact .int_str _ _ _ _|exact .int_tuple _ _ ‹_› ‹_› |exact .int_list _ _ ‹_› ‹_› |exact .str_none _ _|exact .str_bool _ _ _|exact .str_int _ _ _ _|exact .str_str _ _ _ _|exact .str_tuple _ _ ‹_› ‹_› |exact .str_list _ _ ‹_› ‹_› |exact .tuple_none ‹_› ‹_› |exact .tuple_bool _ ‹_› ‹_› |exact .tuple_int _ _ ‹_› ‹_› |exact .tuple_str _ _ ‹_› ‹_› |exact .tuple_list ‹_› ‹_› ‹_› |exact .list_none ‹_› ‹_› |exact .list_bool _ ‹_› ‹_› |exact .list_int _ _ ‹_› ‹_› |exact .list_str _ _ ‹_› ‹_› |exact .list_tuple ‹_› ‹_› ‹_›)
 .obtain⟨dE,xs,_,p1,e1,l,r1⟩:=Ft I sub iv ru;obtain⟨qb,ys,_,p2,e2,l2,r2⟩:=Ft I sub iw rz;have q:=SeqAt.RcNeAt.tuples p1 p2 Lu (xD ih (by omega) l l2 r1 r2)
  rw[e1,e2]at q;rw[qK];exact q
 .obtain⟨dE,xs,_,p1,e1,l,r1⟩:=Fu I sub iv ru;obtain⟨qb,ys,_,p2,e2,l2,r2⟩:=Fu I sub iw rz;rw[qK];by_cases hl:dE.toArray.size=qb.toArray.size
  .have q:=SeqAt.RcNeAt.lists p1 p2 hl Lu (xD ih (Nat.le_succ_of_le hd) l l2 r1 r2);rw[<-e1,<-e2,<-hl,Nat.min_self,bO,Bool.and_true];exact q
  .have q:=SeqAt.RcNeAt.lists_lengths p1 p2 (by simpa using hl) Lu
   rw[<-e1,<-e2,beq_false_of_ne hl,Bool.and_false];exact q
end
variable [μ]
def vf.list {K:W.Frag}{C H:Hp}{v:V}{ds:cw}(s:eA C H) (h:vf C H v (.l ds)):∃a xs,v=.ref a/\ua K H a xs/\τ C xs ds:=by
 rcases h with h|⟨a,xs,es,h1,h2,h3,h4,h5⟩
 .cases h with
  |l h l=>exact⟨_,_,rfl,.inl (h.same s),l⟩
 .cases h2;exact⟨a,xs,h1,ua.of h4,h5⟩
theorem vf.t {K:W.Frag}{C H:Hp}{v:V}{ds:cw}(s:eA C H) (h:vf C H v (.t ds)):∃a xs,v=.ref a/\lr K H a xs/\τ C xs ds/\C a=some (.t xs):=by
 rcases h with h|⟨a,xs,es,h1,h2,_⟩
 .cases h with
  |t h l=>exact⟨_,_,rfl,lr.of (s _ _ h),l,h⟩
 .cases h2
theorem τ.nX (l:τ C xs ds) (h:nX ds i=some d):∃v,L2.nX xs i=some v/\Is C v d:=by
 obtain⟨j,hk,h⟩:=qI h;unfold L2.nX;rw[l.length,hk];exact l.get h
def fX:D->D->Option D
 |.l ds,.int i=>nX ds i
 |.t ds,.int i=>nX ds i
 |.str z,.int i=>if z.length<=1000000 then(nX z.cps.toList i).map λc=>.str ⟨#[c]⟩else none
 |_,_=>none
section
variable {X:Cx}{a b c e:cG}{f h:cc}
def YS:RW (rIx X.K) fX:=λC H x y dx dy d Q s ix iy q k=>by
 unfold fX at q;split at q
 .rename_i ds i;obtain⟨p,xs,rfl,hq,l⟩:=ix.list (K:=X.K) s;obtain⟨v,h1,h2⟩:=l.nX q;exact .inl ⟨p,xs,i,v,rfl,iy.int,hq,h1,k v C H (.refl s) h2⟩
 .rename_i ds i;obtain⟨p,xs,rfl,hq,l,_⟩:=ix.t (K:=X.K) s;obtain⟨v,h1,h2⟩:=l.nX q;exact .inr (.inl ⟨p,xs,i,v,rfl,iy.int,hq,h1,k v C H (.refl s) h2⟩)
 .rename_i z i;obtain⟨hz,q⟩:=nq q;obtain⟨c,hc,rfl⟩:=yN q;have:=ix.is (λ_ z=>by cases z)
  cases this;exact .inr (.inr ⟨z,i,c,rfl,iy.int,aE hz (by decide),hc,k _ C H (.refl s) (.str _)⟩)
 .cases q
def nF (d e:D):Option D:=if eN d<=30 then some (.bl (jK d e))else none
def vf.both (h:vf C H v d):∃C',eA C C'/\(eA C H->eA C' H)/\Is C' v d:=by
 rcases h with h|⟨a,xs,ds,rfl,rfl,h3,h4,h5⟩
 .exact⟨C,eA.refl _,id,h⟩
 .refine⟨ν C a (.l xs),fj h3,λs b u q=>?_,.l (.inl dk) (h5.mono (fj h3))⟩
  by_cases e:b=a
  .subst e;rw[dk]at q;cases q;exact h4
  .rw[de e]at q;exact s b u q
def vf.two {C H:Hp}{v w:V}{d e:D}(s:eA C H) (h:vf C H v d) (h':vf C H w e):∃C',eA C' H/\Is C' v d/\Is C' w e:=by
 obtain⟨C1,a1,b1,i1⟩:=h.both;have s1:=b1 s;rcases h' with h'|⟨a,xs,ds,rfl,rfl,h3,h4,h5⟩
 .exact⟨C1,s1,i1,h'.mono a1⟩
 .cases q:C1 a with
  |none=>
   refine⟨ν C1 a (.l xs),λb u z=>?_,i1.mono (fj q),.l (.inl dk) ((h5.mono a1).mono (fj q))⟩
   by_cases e:b=a
   .subst e;rw[dk]at z;cases z;exact h4
   .rw[de e]at z;exact s1 b u z
  |some u=>
   have:=s1 a u q;rw[h4]at this;cases this;exact⟨C1,s1,i1,.l (.inl q) (h5.mono a1)⟩
def qc (hu:X.A.units+64<cLine):xx X .Eq nF:=by
 refine⟨λx y H Q=>∃C dx dy,eA C H/\Is C x dx/\Is C y dy/\eN dx<=30/\Q (.bl (jK dx dy)) H,?_,?_⟩
 .rintro cL s O H x y v u Q I rx ry ⟨C,dx,dy,sub,ix,iy,hd,q⟩
  have fin:EP X cL O Q (.bool (jK dx dy)) s:=⟨.bl _,H,I,rfl,q⟩;exact V1 I sub hd (by omega) ix iy rx ry X.γ X.w _ _ fin
 .intro C H x y dx dy d Q s ix iy q k;obtain⟨hd,q⟩:=nq q;cases q;obtain⟨C',s',i1,i2⟩:=vf.two s ix iy;exact⟨C',dx,dy,s',i1,i2,hd,k _ C H (.refl s) (.bl _)⟩
def BG (d e:D):Option D:=if eN d<=30 then some (.bl (!(jK d e)))else none
def Fv (hu:X.A.units+64<cLine):xx X .NotEq BG:=by
 refine⟨λx y H Q=>∃C dx dy,eA C H/\Is C x dx/\Is C y dy/\eN dx<=30/\Q (.bl (!(jK dx dy))) H,?_,?_⟩
 .rintro cL s O H x y v u Q I rx ry ⟨C,dx,dy,sub,ix,iy,hd,q⟩
  have fin:EP X cL O Q (.bool (!(jK dx dy))) s:=⟨.bl _,H,I,rfl,q⟩;exact V2 I sub hd (by omega) ix iy rx ry X.γ X.w _ _ fin
 .intro C H x y dx dy d Q s ix iy q k;obtain⟨hd,q⟩:=nq q;cases q;obtain⟨C',s',i1,i2⟩:=vf.two s ix iy;exact⟨C',dx,dy,s',i1,i2,hd,k _ C H (.refl s) (.bl _)⟩
noncomputable def Ab:D->Option (cw)
 |.l ds=>some ds
 |.t ds=>some ds
 |_=>none
def memD (d:D) (ds:cw):Bool:=ds.any λe=>jK e d
def GN (d e:D):Option D:=(Ab e).bind λds=>if jj ds<=30 then some (.bl (memD d ds))else none
def vJ (d e:D):Option D:=(Ab e).bind λds=>if jj ds<=30 then some (.bl (!(memD d ds)))else none
def xE {cL:cn}{O:L2.St}{C H:Hp}{s:cz}(I:η X cL O H s) (sub:eA C H) {A:cD}(hu:A.units+31<cLine) {d:D}{w:V}{z:cy}(iw:Is C w d) (rz:ι w z):
  ∀{xs:List V}{ds:cw}{dE:cx},jj ds<=30->τ C xs ds->θ xs dE->∃e:cy->Bool,(∀y∈dE,SeqAt.EqAt A.in1 s y z (e y))/\dE.any e=memD d ds:=λ{xs ds dE} hn l r=>by
 classical
 have one:∀{v:V}{u:cy}{c:D},c∈ds->Is C v c->ι v u->SeqAt.EqAt A.in1 s u z (jK c d):=λ{v u c} hc i ru=>
  JP I sub 30 A.in1 (by show A.units+1+30<cLine;omega) (aE (my hc) hn) i iw ru rz
 let e:cy->Bool:=λu=>if h:∃v c,c∈ds/\Is C v c/\ι v u then jK h.choose_spec.choose d else false
 have he:∀{v u c},c∈ds->Is C v c->ι v u->e u=jK c d:=λ{v u c} hc i ru=>by
  have hx:∃v c,c∈ds/\Is C v c/\ι v u:=⟨v,c,hc,i,ru⟩;show(if h:∃v c,c∈ds/\Is C v c/\ι v u then jK h.choose_spec.choose d else false)=_
  rw[dif_pos hx];obtain⟨h1,h2,h3⟩:=hx.choose_spec.choose_spec;have ev:hx.choose=v:=h3.inj ru;have ec:hx.choose_spec.choose=c:=by
   have M5:Is C v hx.choose_spec.choose:=by rw[<-ev];exact h2
   exact M5.inj i
  rw[ec]
 refine⟨e,λy hy=>?_,?_⟩
 .obtain⟨j,hj,ej⟩:=getElem_of_mem hy;have g1:xs[j]? =some (xs[j]'(by rw[r.length];exact hj)):=ah _
  obtain⟨u1,q1,k1⟩:=r.get g1;obtain⟨c,e1,i1⟩:=l.get' g1;have hc:=bj e1;rw[ah hj]at q1;have eu:u1=y:=by rw[<-ej];exact(aT q1).symm
  subst eu;rw[he hc i1 k1];exact one hc i1 k1
 .have aux:∀{xs:List V}{es:cw}{dE:cx},(∀c∈es,c∈ds)->τ C xs es->θ xs dE->dE.any e=es.any λc=>jK c d:=by
   intro xs es dE hs l;induction es generalizing xs dE with
   |nil=>cases l;intro r;cases r;rfl
   |cons c es ih=>
    intro r;cases l with
    |cons i l=>
     cases r with
     |cons rr r=>
      rw[bH,bH,he (hs c af) i rr,ih (λc hc=>hs c (aj _ hc)) l r]
  exact aux (λc hc=>hc) l r
def Pn (hu:X.A.units+64<cLine):xx X .In GN:=by
 refine⟨λx y H Q=>∃C dx ds,eA C H/\Is C x dx/\(Is C y (.l ds)\/Is C y (.t ds))/\jj ds<=30/\Q (.bl (memD dx ds)) H,?_,?_⟩
 .rintro cL s O H x y v u Q I rx ry ⟨C,dx,ds,sub,ix,iy,hd,q⟩
  rcases iy with iy|iy
  .cases iy with
   |l h l=>
    cases ry;obtain⟨dE,r,pl,hz⟩:=I.list (.inl (h.same sub));obtain⟨e,h1,h2⟩:=xE I sub (A:=X.A) (by omega) ix rx hd l r
    refine SeqAt.in_listAt e pl.isList (λw hw=>h1 w (by simpa using hw)) ⟨.bl _,H,I,rfl,?_⟩
    rw[show dE.toArray.any e=dE.any e by simp,h2]
    exact q
  .cases iy with
   |t h l=>
    cases ry;obtain⟨dE,r,pl,hz⟩:=I.tuple (lr.of (K:=X.K) (sub _ _ h));obtain⟨e,h1,h2⟩:=xE I sub (A:=X.A) (by omega) ix rx hd l r
    refine SeqAt.in_tupleAt e pl (λw hw=>h1 w (by simpa using hw)) ⟨.bl _,H,I,rfl,?_⟩
    rw[show dE.toArray.any e=dE.any e by simp,h2]
    exact q
 .intro C H x y dx dy d Q s ix iy q k;obtain⟨ds,hs,q⟩:=qI q;obtain⟨hd,q⟩:=nq q;cases q;obtain⟨C',s',i1,i2⟩:=vf.two s ix iy;refine⟨C',dx,ds,s',i1,?_,hd,k _ C H (.refl s) (.bl _)⟩;unfold Ab at hs;split at hs
  .cases hs;exact .inl i2
  .cases hs;exact .inr i2
  .cases hs
def vg (hu:X.A.units+64<cLine):xx X .NotIn vJ:=by
 refine⟨λx y H Q=>∃C dx ds,eA C H/\Is C x dx/\(Is C y (.l ds)\/Is C y (.t ds))/\jj ds<=30/\Q (.bl (!(memD dx ds))) H,?_,?_⟩
 .rintro cL s O H x y v u Q I rx ry ⟨C,dx,ds,sub,ix,iy,hd,q⟩
  rcases iy with iy|iy
  .cases iy with
   |l h l=>
    cases ry;obtain⟨dE,r,pl,hz⟩:=I.list (.inl (h.same sub));obtain⟨e,h1,h2⟩:=xE I sub (A:=X.A) (by omega) ix rx hd l r
    refine SeqAt.notIn_listAt e pl.isList (λw hw=>h1 w (by simpa using hw)) ⟨.bl _,H,I,rfl,?_⟩
    rw[show dE.toArray.any e=dE.any e by simp,h2]
    exact q
  .cases iy with
   |t h l=>
    cases ry;obtain⟨dE,r,pl,hz⟩:=I.tuple (lr.of (K:=X.K) (sub _ _ h));obtain⟨e,h1,h2⟩:=xE I sub (A:=X.A) (by omega) ix rx hd l r
    refine SeqAt.notIn_tupleAt e pl (λw hw=>h1 w (by simpa using hw)) ⟨.bl _,H,I,rfl,?_⟩
    rw[show dE.toArray.any e=dE.any e by simp,h2]
    exact q
 .intro C H x y dx dy d Q s ix iy q k;obtain⟨ds,hs,q⟩:=qI q;obtain⟨hd,q⟩:=nq q;cases q;obtain⟨C',s',i1,i2⟩:=vf.two s ix iy;refine⟨C',dx,ds,s',i1,?_,hd,k _ C H (.refl s) (.bl _)⟩;unfold Ab at hs;split at hs
  .cases hs;exact .inl i2
  .cases hs;exact .inr i2
  .cases hs
noncomputable def isN:D->Bool
 |.eZ=>true
 |_=>false
def Xs:D->D->Option Bool
 |d,.eZ=>some (isN d)
 |.bl a,.bl b=>some (a==b)
 |.eZ,.bl _=>some false
 |_,_=>none
def isO (d e:D):Option D:=(Xs d e).map .bl
def Dy (d e:D):Option D:=(Xs d e).map λb=>.bl (!b)
def UE {C H:Hp}{x y:V}{dx dy:D}{b:Bool}(ix:vf C H x dx) (iy:vf C H y dy) (h:Xs dx dy=some b):
  (∃p q,x=.bl p/\y=.bl q/\b=(p==q))\/(y=.eZ/\b=decide (x=.eZ))\/(x=.eZ/\(∃q,y=.bl q)/\b=false):=by
 unfold Xs at h;split at h
 .cases h;have:=iy.is (λ_ z=>by cases z);cases this
  rcases ix with ix|⟨a,xs,ds,rfl,rfl,_⟩
  .exact .inr (.inl ⟨rfl,by cases ix<;>simp[isN]⟩)
  .exact .inr (.inl ⟨rfl,by simp[isN]⟩)
 .rename_i p q;cases h;have:=ix.is (λ_ z=>by cases z);cases this
  have:=iy.is (λ_ z=>by cases z);cases this
  exact .inl ⟨p,q,rfl,rfl,rfl⟩
 .rename_i q;cases h;have:=ix.is (λ_ z=>by cases z);cases this
  have:=iy.is (λ_ z=>by cases z);cases this
  exact .inr (.inr ⟨rfl,⟨q,rfl⟩,rfl⟩)
 .cases h
def abF:xx X .Is isO:=by
 refine⟨λx y H Q=>∃b,((∃p q,x=.bl p/\y=.bl q/\b=(p==q))\/(y=.eZ/\b=decide (x=.eZ))\/(x=.eZ/\(∃q,y=.bl q)/\b=false))/\Q (.bl b) H,?_,?_⟩
 .rintro cL s O H x y v u Q I rx ry ⟨b,h,q⟩
  rcases h with⟨p,p',rfl,rfl,rfl⟩|⟨rfl,rfl⟩|⟨rfl,⟨p,rfl⟩,rfl⟩
  .cases rx;cases ry;exact is_bool ⟨.bl _,H,I,rfl,q⟩
  .exact VB cL s O H x .eZ v u Q I rx ry ⟨rfl,q⟩
  .cases rx;cases ry;exact wpAny_is_other (by rfl) (by intro z;cases z) ⟨.bl _,H,I,rfl,q⟩
 .intro C H x y dx dy d Q s ix iy q k;unfold isO at q;cases hb:Xs dx dy with
  |none=>rw[hb]at q;cases q
  |some b=>rw[hb]at q;cases q;exact⟨b,UE ix iy hb,k _ C H (.refl s) (.bl b)⟩
def xF:xx X .IsNot Dy:=by
 refine⟨λx y H Q=>∃b,((∃p q,x=.bl p/\y=.bl q/\b=(p==q))\/(y=.eZ/\b=decide (x=.eZ))\/(x=.eZ/\(∃q,y=.bl q)/\b=false))/\Q (.bl (!b)) H,?_,?_⟩
 .rintro cL s O H x y v u Q I rx ry ⟨b,h,q⟩
  rcases h with⟨p,p',rfl,rfl,rfl⟩|⟨rfl,rfl⟩|⟨rfl,⟨p,rfl⟩,rfl⟩
  .cases rx;cases ry;exact isnot_bool ⟨.bl _,H,I,rfl,q⟩
  .exact Sb cL s O H x .eZ v u Q I rx ry ⟨rfl,q⟩
  .cases rx;cases ry;exact wpAny_isNot_other (by rfl) (by intro z;cases z) ⟨.bl _,H,I,rfl,q⟩
 .intro C H x y dx dy d Q s ix iy q k;unfold Dy at q;cases hb:Xs dx dy with
  |none=>rw[hb]at q;cases q
  |some b=>rw[hb]at q;cases q;exact⟨b,UE ix iy hb,k _ C H (.refl s) (.bl _)⟩
noncomputable def χ:cw->Option (cq)
 |[]=>some []
 |.int i::r=>(χ r).map λns=>i::ns
 |_=>none
omit [μ] in
theorem fE:∀{ds:cw}{ns:cq},χ ds=some ns->ds=ns.map D.int
 |[],_,h=>by cases h;rfl
 |.int i::r,ns,h=>by
  unfold χ at h;cases hr:χ r with
  |none=>rw[hr]at h;cases h
  |some ms=>rw[hr]at h;cases h;rw[fE hr];rfl
omit [μ] in
def ij (ns:cq):χ (ns.map D.int)=some ns:=by
 induction ns with
 |nil=>rfl
 |cons n r ih=>show(χ (r.map D.int)).map _=_;rw[ih];rfl
def ltD:D->D->Option D
 |.int i,.int j=>some (.bl (decide (i<j)))
 |.t a,.t b=>(χ a).bind λns=>(χ b).map λms=>.bl (HT.lexLt ns ms)
 |_,_=>none
def YT (hu:X.A.units+64<cLine):xx X .Lt ltD:=by
 refine⟨_,Yb.or (VL (by omega)),?_⟩
 intro C H x y dx dy d Q s ix iy q k;unfold ltD at q;split at q
 .rename_i i j;cases q;exact .inl ⟨i,j,ix.int,iy.int,k _ C H (.refl s) (.bl _)⟩
 .rename_i a b;obtain⟨ns,ha,q⟩:=qI q;obtain⟨ms,hb,rfl⟩:=yN q;obtain⟨p,xs,rfl,h1,l1,_⟩:=ix.t (K:=X.K) s;obtain⟨p',ys,rfl,h2,l2,_⟩:=iy.t (K:=X.K) s;rw[fE ha]at l1;rw[fE hb]at l2;cases l1.nC;cases l2.nC;exact .inr ⟨p,p',ns,ms,rfl,rfl,h1,h2,k _ C H (.refl s) (.bl _)⟩
 .cases q
noncomputable def JQ (f:cc):cc:=λU=>match f U with|some (.int i)=>some (.int (-i))|_=>none
def Po {r r':R2}{o o':D->D->Option D}(h1:RW r o) (h2:RW r' o'):∀O H Q,tD (Fs o o' f g h) O H Q->Ox r r' (tO f) (tO g) (tO h) O H Q:=λO H Q ⟨C,U,d,x,q,k⟩=>by
 obtain⟨dx,hf,q⟩:=qI q;obtain⟨dy,hg,q⟩:=qI q;refine⟨C,U,dx,x,hf,λv C1 H1 e1 i1=>⟨C1,U,dy,x.ev e1,hg,λu C2 H2 e2 i2=>?_⟩⟩
 split at q
 .rename_i ho;refine h1 C2 H2 v u dx dy _ _ e2.s (i1.ev e2) i2 ho λz C3 H3 e3 i3=>?_
  cases i3;refine⟨true,rfl,Bu ?_⟩;obtain⟨dz,hh,q⟩:=qI q;exact⟨C3,U,dz,x.ev ((e1.trans e2).trans e3.up),hh,λz' C4 H4 e4 i4=>h2 C4 H4 u z' dy dz d Q e4.s ((i2.ev e3.up).ev e4) i4 q λw C5 H5 e5 i5=>k w C5 H5 ((((e1.trans e2).trans e3.up).trans e4).trans e5.up) i5⟩
 .rename_i ho;cases q;refine h1 C2 H2 v u dx dy _ _ e2.s (i1.ev e2) i2 ho λz C3 H3 e3 i3=>?_
  cases i3;exact⟨false,rfl,Dt (k _ C3 H3 ((e1.trans e2).trans e3.up) (.bl _))⟩
 .cases q
noncomputable def iQ:cg
 |[.l ds]=>some (.int ds.length)
 |[.t ds]=>some (.int ds.length)
 |[.str z]=>if z.length<=1000000 then some (.int z.length)else none
 |_=>none
def Dx.one (h:Dx C H vs [d]):∃v,vs=[v]/\vf C H v d:=by
 cases h with|cons h t=>cases t;exact⟨_,rfl,h⟩
def Dx.two {C H:Hp}{vs:List V}{d e:D}(h:Dx C H vs [d,e]):∃v w,vs=[v,w]/\vf C H v d/\vf C H w e:=by
 cases h with|cons h t=>cases t with|cons h2 t=>cases t;exact⟨_,_,rfl,h,h2⟩
def mB:xB X (.builtin "len") iQ:=by
 refine⟨_,Fl.or Fm,?_⟩;intro C H vs ds d Q s i q k;unfold iQ at q;split at q
 .cases q;obtain⟨v,rfl,j⟩:=i.one;obtain⟨p,xs,rfl,hq,l⟩:=j.list (K:=X.K) s;exact .inl ⟨p,xs,rfl,.inl hq,by rw[l.length];exact k _ C H (.refl s) (.int _)⟩
 .cases q;obtain⟨v,rfl,j⟩:=i.one;obtain⟨p,xs,rfl,hq,l,_⟩:=j.t (K:=X.K) s;exact .inl ⟨p,xs,rfl,.inr hq,by rw[l.length];exact k _ C H (.refl s) (.int _)⟩
 .split at q
  .rename_i hz;cases q;obtain⟨v,rfl,j⟩:=i.one;have:=j.is (λ_ z=>by cases z);cases this
   exact .inr ⟨_,rfl,aE hz (by decide),k _ C H (.refl s) (.int _)⟩
  .cases q
 .cases q
noncomputable def nA:cg
 |[.l ds]=>some (.t ds)
 |[.t ds]=>some (.t ds)
 |_=>none
def jk:xB X (.type "tuple") nA:=by
 refine⟨_,Ds,?_⟩;intro C H vs ds d Q s i q k;unfold nA at q;split at q
 .cases q;obtain⟨v,rfl,j⟩:=i.one;obtain⟨p,xs,rfl,hq,l⟩:=j.list (K:=X.K) s;exact⟨p,xs,rfl,.inl ⟨hq,λt ht=>k _ _ _ (.new s ht) (.t dk (l.mono (fj (s.free ht))))⟩⟩
 .cases q;obtain⟨v,rfl,j⟩:=i.one;obtain⟨p,xs,rfl,hq,l,hc⟩:=j.t (K:=X.K) s;exact⟨p,xs,rfl,.inr ⟨hq,k _ C H (.refl s) (.t hc l)⟩⟩
 .cases q
noncomputable def Ac:cg
 |[.int i,.int j]=>some (.int (if j<i then j else i))
 |_=>none
def Pp (hc:X.calm=true):xB X (.builtin "min") Ac:=by
 refine⟨_,MN hc,?_⟩;intro C H vs ds d Q s i q k;unfold Ac at q;split at q
 .rename_i i' j';cases q;obtain⟨v,w,rfl,i1,i2⟩:=i.two;exact⟨i',j',by rw[i1.int,i2.int],k _ C H (.refl s) (.int _)⟩
 .cases q
end
end DL
namespace DL
open L2
variable [μ]
omit [μ] in
def fF:bootBuiltins "tuple"=some (.type "tuple"):=by decide +kernel
omit [μ] in
def SR:bootBuiltins "list"=some (.type "list"):=by decide +kernel
omit [μ] in
def Pq:bootBuiltins "int"=some (.type "int"):=by decide +kernel
omit [μ] in
def Fw:bootBuiltins "bool"=some (.type "bool"):=by decide +kernel
omit [μ] in
def jv:bootBuiltins "len"=some (.builtin "len"):=by decide +kernel
omit [μ] in
def Fx:bootBuiltins "all"=some (.builtin "all"):=by decide +kernel
omit [μ] in
def Fy:bootBuiltins "min"=some (.builtin "min"):=by decide +kernel
omit [μ] in
def jh:bootBuiltins "sorted"=some (.builtin "sorted"):=by decide +kernel
omit [μ] in
def Dz:bootBuiltins "isinstance"=some (.builtin "isinstance"):=by decide +kernel
section
variable {a b e o:cG}{p:Pos}{f h:cc}
def t7 (ds:cw) (lo hi:Option Int):cw:=(ds.drop (HT.i6 ds.length 0 lo)).take (HT.i6 ds.length ds.length hi-HT.i6 ds.length 0 lo)
noncomputable def Hd:fW->Option (Option Int):=λ_=>some none
noncomputable def pJ (f:cc):fW->Option (Option Int):=λU=>match f U with|some (.int i)=>some (some i)|_=>none
def tP (f:fW->Option (Option Int)):TO:=λO H Q=>∃C U o,Sx U O C H/\f U=some o/\∀C' H',Ev C H C' H'->Q o H'
omit [μ] in
def _root_.L2.PO.imp {X:Cx}{e:Option cG}{t t':TO}(h:L2.PO X e t) (m:∀O H Q,t' O H Q->t O H Q):L2.PO X e t':=λcL s O H Q I q=>h cL s O H Q I (m O H Q q)
def Na (f:cc) (lo hi:fW->Option (Option Int)):bZ:=λU=>match f U with
 |some (.l ds)=>(lo U).bind λl=>(hi U).map λu=>t7 ds l u
 |_=>none
def τ.cut (l:τ C xs ds) (lo hi:Option Int):τ C (G0 xs lo hi) (t7 ds lo hi):=by
 unfold G0 t7;rw[l.length];exact(l.drop _).take _
noncomputable def Pr:D->String
 |.eZ=>"NoneType"
 |.bl _=>"bool"
 |.int _=>"int"
 |.str _=>"str"
 |.t _=>"tuple"
 |.l _=>"list"
def YU (T:String):D->Bool
 |.bl _=>T=="bool"||T=="int"
 |d=>T==Pr d
def Pu (T:String):jT X (.builtin "isinstance") (λxs H Q=>∃x t b,xs=[x,.ty T]/\xm X.K H x t/\W.kitOne X.K t (.type T)=some b/\Q (.bl b) H):=by
 intro cL s O H xs us Q I r h;obtain⟨x,t,b,rfl,ty,e,q⟩:=h;obtain⟨u,w,rfl,r1,r2⟩:=vals2 r;cases r2;exact MR I r1 ty e λtk=>⟨.bl b,H,I.tok tk,rfl,q⟩
def Lv (T:String):Prop:=∀(K:W.Frag) (d:D),W.kitOne K (.type (Pr d)) (.type T)=some (YU T d)
omit [μ] in
def SS:Lv "int":=λK d=>by cases d<;>rfl
omit [μ] in
def BH:Lv "bool":=λK d=>by cases d<;>rfl
omit [μ] in
def kit_tuple:Lv "tuple":=λK d=>by cases d<;>rfl
def V3 {K:W.Frag}{C H:Hp}{v:V}{d:D}(s:eA C H) (h:vf C H v d):xm K H v (.type (Pr d)):=by
 rcases h with h|⟨a,xs,ds,rfl,rfl,_,h4,_⟩
 .cases h with
  |eZ=>exact .eZ
  |bl b=>exact .bl b
  |int i=>exact .int i
  |str x=>exact .str x
  |t h l=>exact .t (s _ _ h)
  |l h l=>
   rcases h with h|⟨o,h⟩
   .exact .l (s _ _ h)
   .exact .zW (s _ _ h)
 .exact .l h4
def wz (T:String) (f:cc):cc:=λU=>(f U).map λd=>.bl (YU T d)
omit [μ] in
def iC {α:Type}(l:List α) (d:α):(List.range l.length).map (λi=>l.getD i d)=l:=by
 apply ext_getElem
 .simp
 .intro i h1 h2;simp[ao,ah h2]
def He (hc:X.calm=true):jT X (.builtin "all") (λxs H Q=>∃(p:cF) (bs:List Bool),xs=[.ref p]/\ua X.K H p (bs.map V.bl)/\Q (.bl (bs.all id)) H):=by
 intro cL s O H xs us Q I r h;obtain⟨p,bs,rfl,hq,q⟩:=h;obtain⟨u,rfl,r1⟩:=vals1 r;cases r1;obtain⟨dE,rv,pl,hz⟩:=I.list hq;have fR:p<s.dN:=by obtain⟨o,n,e,_⟩:=pl;exact aD e
 have π:=rv.length;rw[ae]at π;have at1:∀(i:Nat) (v:cy),dE.toArray[i]? =some v->v=.bool (bs.getD i false):=λi v hv=>by
  have OA:dE[i]? =some v:=by simpa using hv
  have hi:i<dE.length:=(List.getElem?_eq_some_iff.mp OA).1;have g1:(bs.map V.bl)[i]? =some (.bl (bs.getD i false)):=by
   rw[aw,ah (by omega),ao,ah (by omega)];rfl
  obtain⟨w,h1,h2⟩:=rv.get g1;rw[OA]at h1;cases h1;exact h2
 refine call_all_walk (wpAny_pyIter_list pl.isList ⟨s.dN,_,_,_,_,_,λi=>bs.getD i false,rfl,Walks.list (A:=X.A.in1) (I.ok.hd hc) s.dN p (aF fR) dE.toArray,⟨⟨_,aB _ rfl,rfl,rfl⟩,?_⟩,λi v s' Q' E' hv hQ=>?_,λh' tk kk=>?_⟩)
 .obtain⟨o,n,e,h1,h2,h3⟩:=pl;exact⟨o,ag _ e,h1,n,h3⟩
 .rw[at1 i v hv];exact bR hQ
 .have I1:L2.η X cL O H {s with heap:=s.heap.push {cls:=.type "list_iterator",data:=.fields #[.ref p,.int 0 0]}}:=I.kept (t':=s.toks) λb o e=>ag _ e
  obtain⟨f0,f1,f2,f3,f4,f5⟩:=I.Jm (H':=H) (av _) (I.fU.fresh (av _));have I2:=I1.turned (t':=tk) (h':=h') (it:=s.dN) (λb o hb e=>kk b o (by simpa using hb) e) f0 f1 f3 f4 f5
  refine⟨.bl (bs.all id),H,I2,?_,q⟩;show Value.bool _=Value.bool _
  congr 1
  rw[au,<-π];exact all_map.symm.trans (congrArg (·.all id) (iC bs false))
noncomputable def uj:cw->Option (List Bool)
 |[]=>some []
 |.bl i::r=>(uj r).map λns=>i::ns
 |_=>none
omit [μ] in
theorem BI:∀{ds:cw}{ns:List Bool},uj ds=some ns->ds=ns.map D.bl
 |[],_,h=>by cases h;rfl
 |.bl i::r,ns,h=>by
  unfold uj at h;cases hr:uj r with
  |none=>rw[hr]at h;cases h
  |some ms=>rw[hr]at h;cases h;rw[BI hr];rfl
omit [μ] in
def Nb (ns:List Bool):uj (ns.map D.bl)=some ns:=by
 induction ns with
 |nil=>rfl
 |cons n r ih=>show(uj (r.map D.bl)).map _=_;rw[ih];rfl
def Fz:cg
 |[.l ds]=>(uj ds).map λbs=>.bl (bs.all id)
 |_=>none
def Lw (hc:X.calm=true):xB X (.builtin "all") Fz:=by
 refine⟨_,He hc,?_⟩;intro C H vs ds d Q s i q k;unfold Fz at q;split at q
 case h_2=>cases q
 rename_i es;obtain⟨bs,hb,rfl⟩:=yN q;obtain⟨v,rfl,j⟩:=i.one;obtain⟨p,xs,rfl,hq,l⟩:=j.list (K:=X.K) s;rw[BI hb]at l;cases l.JG;exact⟨p,bs,rfl,hq,k _ C H (.refl s) (.bl _)⟩
def Nc (hg:Gl X "range") (hm:X.mg "range"=none) (ha:PA X [a] ta) (hs:starEach [a] X.e=[(false,eval a X.e)]:=by exact gu rfl):PE X (.Call (.Name "range" p) [a] [] pos) (λO H Q=>ta O H λvs H1=>∃j:Int,vs=[.int j]/\∀t,H1 t=none->Q (.ref t) (ν H1 t (.Uk 0 j))):=by
 intro cL s O H Q I h;refine Call_ (oi I hg hm boot_range (PyProof.Rows.callWith_type1 (N1 (ha pos cL s O H _ I h) λus s1 vs H1 I1 r1 q1=>?_) hs rfl))
 obtain⟨j,e,q⟩:=q1;subst e;obtain⟨u,rfl,t,rfl⟩:=vals1 r1;refine call_range_1 ⟨.ref s1.dN,_,I1.laid (o:=.Uk 0 j) (λb o e=>ag _ e) (av _) ?_,rfl,q _ (I1.fU.fresh (av _))⟩
 exact⟨_,_,_,aB _ rfl⟩
def DA:∀(dE:cx) (lo:Int),dE.length=n->(∀(j:Nat) (v:cy),dE[j]? =some v->∃t,v=Value.int (lo+(j:Int)) t)->θ ((eG lo n).map V.int) dE:=by
 induction n with
 |zero=>intro dE lo hl _;cases dE with|nil=>exact .nil|cons _ _=>simp at hl
 |succ n ih=>
  intro dE lo hl h;cases dE with
  |nil=>simp at hl
  |cons v r=>
   refine .cons ?_ (ih r (lo+1) (by simpa using hl) λj w hw=>?_)
   .obtain⟨t,e⟩:=h 0 v rfl;exact⟨t,by rw[e];simp⟩
   .obtain⟨t,e⟩:=h (j+1) w (by simpa using hw)
    exact⟨t,by rw[e];congr 1;omega⟩
def DB (hc:X.calm=true):jT X (.type "list") (λxs H Q=>∃(p:cF) (hi:Int),xs=[.ref p]/\H p=some (.Uk 0 hi)/\hi<1000000/\-1000000<hi/\∀l,H l=none->Q (.ref l) (ν H l (.l ((eG 0 hi.toNat).map V.int)))):=by
 intro cL s O H xs us Q I r h;obtain⟨p,hi,rfl,hp,h1,h2,q⟩:=h;obtain⟨u,rfl,rx⟩:=vals1 r;cases rx;obtain⟨t,u,v,e⟩:=I.fU p _ hp;refine call_list_range (n:=hi.toNat) (I.ok.hd hc) e (small_one (by omega) (by omega) (by omega) (by omega)) ?_ (by omega) λh' tk nH c' kp e' it=>?_
 .rw[rangeSize_one];split<;>omega
 .refine⟨.ref s.dN,_,I.laid (t':=tk) kp (av _) (show iz X.γ X.w _ h' _ (.l ((eG 0 hi.toNat).map V.int))from⟨?_,nH.toList,c',?_,by simpa using e'⟩),rfl,q _ (I.fU.fresh (av _))⟩
  .rw[ae,eQ];exact bh (A8 (by omega))
  .refine DA nH.toList 0 (by simpa using it.1) λj v hv=>?_
   obtain⟨t,e⟩:=it.2 j v (by simpa using hv)
   exact⟨t,by rw[e];congr 1;omega⟩
end
end DL
namespace So
open PySem.W
def qd {α:Type}(n:Nat) (P:α->Prop):KasT α->Prop
 |.ret a=>P a
 |.ask i j k=>i<n/\j<n/\∀b,qd n P (k b)
theorem qd.bind {α β:Type}{n:Nat}{P:α->Prop}{R:β->Prop}{f:α->KasT β}(hf:∀a,P a->qd n R (f a)):∀{t:KasT α},qd n P t->qd n R (t.bind f)
 |.ret a,h=>hf a h
 |.ask i j k,h=>⟨h.1,h.2.1,λb=>qd.bind hf (h.2.2 b)⟩
def Al (p:Array Nat) (n:Nat):Prop:=0<n/\∀x∈p,x<n
def Al.at (h:Al p n) (i:Nat):p.getD i 0<n:=by
 rw[aU];cases e:p[i]? with
 |none=>exact h.1
 |some x=>exact h.2 x (Array.mem_of_getElem? e)
def Al.perm (h:Al p n) (e:q.Perm p):Al q n:=⟨h.1,λx hx=>h.2 x (e.mem_iff.mp hx)⟩
theorem FA (h:Al p n):∀(f m:Nat),qd n (λ_=>True) (kas_asc p f m)
 |0,_=>trivial
 |f+1,m=>⟨h.at _,h.at _,λb=>by
  cases b with
  |true=>exact trivial
  |false=>exact FA h f (m+1)⟩
theorem xG:∀(f:Nat) (p:Array Nat) (m q:Nat),Al p n->qd n (λr=>Al r.1 n) (kas_desc f p m q)
 |0,_,_,_,h=>h
 |f+1,p,m,q,h=>⟨h.at _,h.at _,λb=>by
  cases b with
  |true=>
   show qd n _ (if q>0 then _ else _)
   split
   .exact xG f _ _ _ (h.perm (j5 _ _ _))
   .exact xG f _ _ _ h
  |false=>exact⟨h.at _,h.at _,λb=>by
    cases b with
    |true=>exact h
    |false=>exact xG f _ _ _ h⟩⟩
def Es {n m k:Nat}{p:Array Nat}(h:Al p n):qd n (λr=>Al r.2 n) (kas_tail3 m k p):=
 qd.bind (n:=n) (R:=λr:Nat×Array Nat=>Al r.2 n) (P:=λ_=>True) (f:=λm'=>KasT.ret (m',kas_rev p 0 m)) (λ_ _=>(h.perm (j5 _ _ _):Al (kas_rev p 0 m) n)) (FA (h.perm (j5 _ _ _)) _ _)
def xH (h:Al p n):qd n (λr=>Al r.2 n) (kas_descPart m k p):=
 qd.bind (λr hr=>by
  split
  .exact Es (hr.perm (j5 _ _ _))
  .exact Es hr) (xG _ _ _ _ h)
def Nd (h:Al p n):qd n (λr=>Al r.2 n) (kas_count k p):=
 qd.bind (λm _=>by
  split
  .exact h
  .split
   .exact⟨h.at _,h.at _,λb=>by
     cases b with
     |true=>exact h
     |false=>exact xH (h.perm (j5 _ _ _))⟩
   .exact xH h) (FA h _ _)
theorem za (h:Al p n):∀(f l r:Nat),qd n (λ_=>True) (kas_place p k f l r)
 |0,_,_=>trivial
 |f+1,l,r=>by
  unfold kas_place;split
  .exact trivial
  .exact⟨h.at _,h.at _,λb=>by
    cases b with
    |true=>exact za h f _ _
    |false=>exact za h f _ _⟩
theorem Lx:∀(f:Nat) (p:Array Nat) (k:Nat),Al p n->qd n (λr=>Al r n) (kas_bin f p k)
 |0,_,_,h=>h
 |f+1,p,k,h=>qd.bind (λl _=>Lx f _ _ (h.perm (bubble_perm _ _ _))) (za h _ _ _)
def Hf (hn:0<n):qd n (λr=>Al r n) (kas_sort n):=
 qd.bind (λr hr=>by
  split
  .exact Lx _ _ _ hr
  .exact hr) (Nd ⟨hn,λx hx=>by simpa using hx⟩)
theorem zb (hc:∀i j (Q:Bool->cz->Prop),i<n->j<n->Q (lt i j) s->cmp i j Q s):∀(t:KasT α),qd n P t->Q (ju lt t) s->t.kasWp cmp Q s
 |.ret _,_,h=>h
 |.ask i j k,a,h=>hc i j _ a.1 a.2.1 (zb hc (k (lt i j)) (a.2.2 _) h)
end So
namespace HT
theorem rQ:∀a:cq,lexLt a a=false
 |[]=>rfl
 |x::a=>by rw[kK,if_pos rfl];exact rQ a
theorem mC:∀{a b c:cq},lexLt a b=true->lexLt b c=true->lexLt a c=true
 |[],[],_,h,_=>by cases h
 |[],_::_,[],_,h=>by cases h
 |[],_::_,_::_,_,_=>rfl
 |_::_,[],_,h,_=>by cases h
 |_::_,_::_,[],_,h=>by cases h
 |x::a,y::b,z::c,h1,h2=>by
  rw[kK]at h1 h2 ⊢;split at h1
  .rename_i e;subst e;split at h2
   .rename_i e2;subst e2;rw[if_pos rfl];exact mC h1 h2
   .rename_i e2;rw[if_neg e2];exact h2
  .rename_i e;have q1:x<y:=bL h1;split at h2
   .rename_i e2;subst e2;rw[if_neg e];exact h1
   .have q2:y<z:=bL h2;rw[if_neg (by omega)];exact aS (by omega)
theorem iM:∀{a b:cq},lexLt a b=false->lexLt b a=false->a=b
 |[],[],_,_=>rfl
 |[],_::_,h,_=>by cases h
 |_::_,[],_,h=>by cases h
 |x::a,y::b,h1,h2=>by
  rw[kK]at h1 h2;by_cases e:x=y
  .subst e;rw[if_pos rfl]at h1 h2;rw[iM h1 h2]
  .rw[if_neg e]at h1;rw[if_neg (Ne.symm e)]at h2;have q1:=of_decide_eq_false h1;have q2:=of_decide_eq_false h2;omega
end HT
namespace L2
def vE.has (x:vE P w H h) (e:H a=some o):∃ob,h.get? a=some ob:=by
 have q:=x a o e;cases o with
 |l xs=>obtain⟨_,_,_,_,e⟩:=q;exact⟨_,e⟩
 |t xs=>obtain⟨_,_,_,ob,e,_⟩:=q;exact⟨ob,e⟩
 |dK ζ=>obtain⟨_,_,_,_,o,_,_,e,_⟩:=q;exact⟨_,e⟩
 |dT ζ=>obtain⟨_,_,_,_,o,_,_,e,_⟩:=q;exact⟨_,e⟩
 |set S n=>obtain⟨o,_,_,_,e,_⟩:=q;exact⟨_,e⟩
 |ins C dx fs=>obtain⟨_,_,_,e,_⟩:=q;exact⟨_,e⟩
 |o y=>obtain⟨_,e⟩:=q;exact⟨_,e⟩
 |xd fs=>obtain⟨_,⟨_,_,_,e,_⟩,_⟩:=q;exact⟨_,e⟩
 |Uk lo hi=>obtain⟨_,_,_,e⟩:=q;exact⟨_,e⟩
 |zW ob u=>obtain⟨e,_⟩:=q;exact⟨_,e⟩
 |Jk ps=>obtain⟨_,e,_⟩:=(show D9 H h a ps from q);exact⟨_,e⟩
 |met f y=>exact⟨_,(show h.get? a=some _ from q)⟩
 |ext φ=>obtain⟨_,⟨_,e⟩,_⟩:=q;exact⟨_,e⟩
theorem Hg:∀vs:cx,(vs.zip vs).map (·.2)=vs
 |[]=>rfl
 |v::r=>congrArg (v:: ·) (Hg r)
theorem Et {α:Type}{p q:α->Bool}:∀{l:List α},(∀x∈l,p x=true->q x=true)->(∃x∈l,q x=true/\p x=false)->l.countP p<l.countP q
 |[],_,h=>by obtain⟨x,hx,_⟩:=h;cases hx
 |y::l,hs,h=>by
  have Du:∀x∈l,p x=true->q x=true:=λx hx=>hs x (aj _ hx)
  have le:l.countP p<=l.countP q:=countP_mono_left Du;rw[countP_cons,countP_cons];obtain⟨x,hx,h1,h2⟩:=h;rcases mem_cons.mp hx with rfl|hx
  .rw[h1,h2];simp only[if_true,aJ,bF];omega
  .have ih:=Et Du ⟨x,hx,h1,h2⟩;cases hp:p y with
   |false=>simp only[aJ,bF];omega
   |true=>rw[hs y af hp];simp only[if_true];omega
def rR (ρ:cp) (a:cq):Int:=((([]:cq)::ρ).countP λx=>HT.lexLt x a:Nat)
def mP (ρ:cp) (i:Nat):ρ.getD i []∈([]:cq)::ρ:=by
 rw[ao];cases e:ρ[i]? with
 |none=>exact af
 |some x=>exact aj _ (bj e)
def lT (ha:a∈([]:cq)::ρ) (hb:b∈([]:cq)::ρ):HT.lexLt a b=decide (rR ρ a<rR ρ b):=by
 unfold rR;cases h:HT.lexLt a b with
 |true=>
  have:=Et (l:=([]:cq)::ρ) (p:=λx=>HT.lexLt x a) (q:=λx=>HT.lexLt x b) (λx _ hx=>HT.mC hx h) ⟨a,ha,h,HT.rQ a⟩
  exact(aS (by omega)).symm
 |false=>
  refine(aI ?_).symm;have:(([]:cq)::ρ).countP (λx=>HT.lexLt x b)<=(([]:cq)::ρ).countP (λx=>HT.lexLt x a):=countP_mono_left λx _ hx=>by
   cases h2:HT.lexLt b a with
   |true=>exact HT.mC hx h2
   |false=>rw[HT.iM h h2];exact hx
  omega
def Ly (K:W.Frag) (H:Hp):List V->cp->Prop:=Paired λv ns=>∃a,v=.ref a/\lr K H a (ns.map V.int)
theorem uk {γ:cB}{w:cC}{A:cD}{s:cz}{Q:Bool->cz->Prop}{bb:Bool}:∀(us zs:cx) (ns ms:cq) (i:Nat) (fin:Bool),IntsAre us ns->IntsAre zs ms->
  (bb=true\/True)->fin=(if ns.length<ms.length then true else false)->Q (HT.lexLt ns ms) s->W.KatLex γ w A bb fin Q (us.zip zs) i s
 |[],zs,ns,ms,i,fin,h1,h2,_,e,q=>by
  cases h1;show Q fin s;rw[e];cases h2 with
  |nil=>exact q
  |cons n t h=>rw[HT.uh]at q;simpa using q
 |_::_,[],ns,ms,i,fin,h1,h2,_,e,q=>by
  cases h2;cases h1 with
  |cons n t h=>
   show Q fin s;rw[e];rw[HT.ui]at q
   simpa using q
 |u::us,z::zs,ns,ms,i,fin,h1,h2,hb,e,q=>by
  cases h1 with
  |cons n t h1=>
   cases h2 with
   |cons m t' h2=>
    refine W.kat_cons (wpAny_eqBool_int ?_);rw[HT.kK]at q;by_cases hnm:n=m
    .subst hnm;rw[bO];rw[if_pos rfl]at q;refine W.kat_yes (uk us zs _ _ (i+1) fin h1 h2 hb ?_ q);rw[e];simp only[az,Nat.add_lt_add_iff_right]
    .have jI:(n==m)=false:=by simpa using hnm
     rw[jI];rw[if_neg hnm]at q;refine W.kat_no ?_;cases YC:(bb&&i==0)with
     |true=>exact oneLt_int q
     |false=>exact W.kat_one _ _ (lt_int q)
def V4 {h:Heap}{a:cF}{m m':cm}(x:h.Ns a m) (y:h.Ns a m'):m=m':=by
 obtain⟨o,es,ep,e,d,_,f⟩:=x;obtain⟨o',Lb,XQ,e',d',_,f'⟩:=y;rw[e]at e';cases e';rw[d]at d';injection d' with d1 _
 subst d1
 funext n
 rw[<-f,<-f']
def zd:jT X (.builtin "sorted") (λxs H Q=>∃(p:cF) (ns:cq),xs=[.ref p]/\ua X.K H p (ns.map V.int)/\ns.length<64/\∀(l:cF) (ms:cq),H l=none->ms.Perm ns->ms.Pairwise (·<= ·)->Q (.ref l) (ν H l (.l (ms.map V.int)))):=by
 intro cL s O H xs us Q I r h;obtain⟨p,ns,rfl,hq,Ad,q⟩:=h;obtain⟨u,rfl,rx⟩:=vals1 r;cases rx;obtain⟨dE,rv,pl,hz⟩:=I.list hq;have hi:IntsAre dE ns:=intsAre_of rv;have hl:=hi.length;refine sorted_ints pl.isList hi (by omega) λout GK a1 a2 a3=>?_
 obtain⟨e,he⟩:=sortedAll_at s.heap dE out;refine⟨.ref (s.dN+1),_,I.laid (t':=s.toks) (o:=.l (GK.map V.int)) (λb o z=>sortedAll_old z) (Nat.le_succ _) ?_,rfl,q _ GK (I.fU.fresh (Nat.le_succ _)) a2 a3⟩
 refine⟨?_,out.toList,e,ve a1,by simpa using he⟩
 have:=a2.length_eq;rw[ae];exact bh (kX (by omega))
def JR {s:cz}{vs:cx}(o1:T.get? a=some (seqObj "list" vs.toArray 0)) (h2:vs.length<2) (h:∀h' c,h'.get? a=some (seqObj "list" vs.toArray c)->(∀b o,b≠a->T.get? b=some o->h'.get? b=some o)->Q .none {s with heap:=h',toks:=tk}):jH γ w A (call (.builtin "list.sort") [.ref a]) Q E {s with heap:=T,toks:=tk}:=by
 have ha:a<T.objs.size:=aD o1;refine bN slot_list_sort ⟨_,o1,rfl⟩ entry_list_sort ?_ (args_list_sort _);rw[list_sort_plain];refine aa (listItems_at o1 rfl (aa (listUpdate_at o1 rfl ?_ (hsz:=by rw[au,bx];omega))))
 obtain⟨e1,Ji⟩:∃e1,(T.update a (Obj.mapSeq λ_=>#[])).get? a=some (seqObj "list" #[] e1):=⟨_,get?_update_seq o1 (λ_=>#[])⟩
 refine aa (seqEpoch_at Ji rfl (aa (wpAny_newTuple (aa (wpAny_newList (bo ?_))) (by show vs.length<=_;rw[bx];omega))))
 have ho6:(((T.update a (Obj.mapSeq λ_=>#[])).push (seqObj "tuple" vs.toArray 0)).push (seqObj "list" #[] 0)).get? a=some (seqObj "list" #[] e1):=ag _ (ag _ Ji)
 have kp6:∀b o,b≠a->T.get? b=some o->(((T.update a (Obj.mapSeq λ_=>#[])).push (seqObj "tuple" vs.toArray 0)).push (seqObj "list" #[] 0)).get? b=some o:=λb o hb e=>ag _ (ag _ ((bA _ _ (Ne.symm hb)).trans e))
 show wpAny (model γ w) _ _ _ _ {s with heap:=((T.update a (Obj.mapSeq λ_=>#[])).push (seqObj "tuple" vs.toArray 0)).push (seqObj "list" #[] 0),toks:=tk}
 generalize ((T.update a (Obj.mapSeq λ_=>#[])).push (seqObj "tuple" vs.toArray 0)).push (seqObj "list" #[] 0)=U_ at ho6 kp6
 dsimp only;have hsz:vs.toArray.size<2:=by rw[au];exact h2
 rw[if_pos hsz,if_pos hsz];refine aa (ak ?_);rw[StateT.run_pure];refine aa (ak ?_);dsimp only;have YV:(vs.toArray.zip vs.toArray).map (·.2)=vs.toArray:=by
  apply Array.toList_inj.mp
  rw[Array.toList_map,Array.toList_zip];exact Hg vs
 rw[show(arrOf (SortSt.mk' general' (vs.toArray.zip vs.toArray) #[] 7 none))=vs.toArray.zip vs.toArray from rfl]at *
 refine aa (seqEpoch_at ho6 rfl (aa (listUpdate_at ho6 rfl ?_ (hsz2:=by rw[YV,au,bx];omega))))
 rw[YV];simp only[bne_self_eq_false,aJ,bF];obtain⟨c,hc⟩:∃c,(U_.update a (Obj.mapSeq λ_=>vs.toArray)).get? a=some (seqObj "list" vs.toArray c):=⟨_,get?_update_seq ho6 (λ_=>vs.toArray)⟩
 exact ak ⟨_,rfl,h _ c hc λb o hb e=>(bA _ _ (Ne.symm hb)).trans (kp6 b o hb e)⟩
def xI (hl:∀{A':cD}{E:cj}{Q:cx->cz->Prop},A'.handled=A.handled->(∀g tk,(∀b o,s.heap.get? b=some o->g.get? b=some o)->s.dN<g.objs.size->Q vs {s with heap:=g,toks:=tk})->wpAny (model γ w) A' (collect (.ref l)) Q E s) (h2:vs.length<2) (h:∀D h' c tk,h'.get? D=some (seqObj "list" vs.toArray c)->s.dN<=D->(∀b o,s.heap.get? b=some o->h'.get? b=some o)->Q (.ref D) {s with heap:=h',toks:=tk}):jH γ w A (call (.builtin "sorted") [.ref l]) Q E s:=by
 refine Calls.call_function_entry kind_sorted plain_sorted entry_sorted (args_sorted1 _) ?_;unfold Builtin.«sorted»;refine aa (m:=checkCount "sorted" 1 1 _) (ak ?_);refine aa (hl rfl λg tk keep hg=>?_)
 refine aa (wpAny_newList ?_ (by rw[bx];omega))
 have R3:(g.push (seqObj "list" vs.toArray 0)).get? g.objs.size=some (seqObj "list" vs.toArray 0):=aB _ rfl;refine aa (bo (JR (s:=s) (T:=g.push (seqObj "list" vs.toArray 0)) (tk:=tk) R3 h2 λh' c hD kp=>?_))
 refine ak ⟨_,rfl,h _ h' c tk hD (bh hg) λb o e=>kp b o ?_ (ag _ (keep b o e))⟩
 exact aF (bI (aD e) hg)
def JS (I:η X cL O H s) (rv:θ vs dE) (hl:∀{A:cD}{E:cj}{Q:cx->cz->Prop},Q dE {s with heap:=(s.heap.push (seqObj "list" #[] 0)).update s.dN (Obj.mapSeq (·++dE.toArray))}->dE.length<=sizeLine->wpAny (model X.γ X.w) A (collect (.ref p)) Q E s) (h2:vs.length<2) (q:∀l,H l=none->Q (.ref l) (ν H l (.l vs))):X.mO (call (.builtin "sorted") [.ref p]) (EP X cL O Q) X.xe s:=by
 have hn:=rv.length;refine xI (λ_ k=>hl (k _ s.toks (λb o e=>(bA _ _ (bz (aD e))).trans (ag _ e)) (by rw[Heap.size_update,size_push'];exact Nat.lt_succ_self _)) (by rw[bx];omega)) (by omega) λD h' c tk hD Hh keep=>⟨.ref D,_,I.laid (t':=tk) (o:=.l vs) keep Hh ⟨bh (kX (by omega)),dE,c,rv,hD⟩,rfl,q D (I.fU.fresh Hh)⟩
def AH:jT X (.builtin "sorted") (λxs H Q=>∃(p:cF) (vs:List V),xs=[.ref p]/\ua X.K H p vs/\vs.length<2/\∀l,H l=none->Q (.ref l) (ν H l (.l vs))):=by
 intro cL s O H xs us Q I r h;obtain⟨p,vs,rfl,hq,h2,q⟩:=h;obtain⟨u,rfl,rx⟩:=vals1 r;cases rx;obtain⟨dE,rv,pl,hz⟩:=I.list hq;exact JS I rv (λq z=>collect_list pl.isList q z) h2 q
def ow {α β:Type}{F:α->β->Prop}{l:List α}{m:List β}(t:Paired F l m):∀{i:Nat}{v:α},l[i]? =some v->∃w,m[i]? =some w/\F v w:=by
 induction t with
 |nil=>intro i v e;simp at e
 |cons x t ih=>
  intro i v e;cases i with
  |zero=>simp at e;subst e;exact⟨_,rfl,x⟩
  |succ i=>exact ih (by simpa using e)
def Hi {ρ:cp}(h2:2<=n) (Ad:n<64) (hc:∀i j (R:Bool->cz->Prop),i<n->j<n->R (HT.lexLt (ρ.getD i []) (ρ.getD j [])) s->cmp i j R s) (q:∀ar:Array Nat,ar.toList.Perm (List.range n)->(∀i∈ar.toList,i<n)->(ar.toList.map λi=>ρ.getD i []).Pairwise (λa b=>HT.lexLt b a=false)->Q ar s):(W.kas_sort n).kasWp cmp Q s:=by
 refine So.zb (n:=n) hc _ (So.Hf (by omega)) ?_
 obtain⟨s1,s2⟩:=So.BB (lt:=λi j=>HT.lexLt (ρ.getD i []) (ρ.getD j [])) (rank:=λi=>rR ρ (ρ.getD i [])) (λi j=>lT (mP _ _) (mP _ _)) n (by omega)
 generalize So.ju _ (W.kas_sort n)=ar at s1 s2;have pm:ar.toList.Perm (List.range n):=by simpa using Array.perm_iff_toList_perm.mp s1
 have sz:ar.size=n:=by simpa using s1.size_eq
 refine q ar pm (λi hi=>by simpa using pm.mem_iff.mp hi) ?_
 rw[pairwise_map,pairwise_iff_getElem];intro i j hi hj G8;have A9:i<ar.size:=by simpa using hi
 have JT:j<ar.size:=by simpa using hj
 have le:=s2 i j (bh G8) (by omega)
 unfold So.kk at le;rw[aU,aU,aV A9,aV JT]at le;simp only[Option.getD_some]at le;have e:=lT (ρ:=ρ) (a:=ρ.getD (ar[j]) []) (b:=ρ.getD (ar[i]) []) (mP _ _) (mP _ _);simp only[Array.getElem_toList];rw[e];exact aI (by omega)
def η.Lz (I:η X cL O H s) (F':Fr X.Zc X.e.locals h' m) (N':News X.Zc X.e.locals h' news) (hs:∀p∈va X.Zc s.heap X.e.locals,p∈news):∀b o,b≠X.e.locals->s.heap.get? b=some o->h'.get? b=some o:=λb o hb e=>by
 cases g:X.Zc.get? b with
 |some u=>
  have:=I.bk b u g;rw[e]at this;cases this;exact F'.keep b _ g
 |none=>exact(N' (b,o) (hs _ (zX hb g e))).1
def η.YW {s:cz}{O:St}{H:Hp}{m:cm}{h2:Heap}{D:cF}{us:List V}{vs:cx}{tk c:Nat}(I:η X cL O H s) (hD:H D=none) (JD:s.heap.get? D=none) (F:Fr X.Zc X.e.locals s.heap m) (F2:Fr X.Zc X.e.locals h2 m) (BJ:∀b o,b≠X.e.locals->s.heap.get? b=some o->h2.get? b=some o) (hl:us.length<64) (vl:θ us vs) (atD:h2.get? D=some {cls:=.type "list",data:=.seq vs.toArray c}):η X cL O (ν H D (.l us)) {s with heap:=h2,toks:=tk}:=by
 show η X cL O _ {s with heap:=h2,gens:=s.gens,drawn:=s.drawn,toks:=tk}
 refine I.step (g':=s.gens) (d':=s.drawn) (t':=tk) (ch:=[]) (λ_ z=>nomatch z) (λb o h1 _ _ e _=>BJ b o h1 e) (λb o h1 _ _ e _=>⟨o.slots,BJ b o h1 e⟩) (λb o _ e hn=>?_) (λb o _ e=>?_) (λb xs e=>?_) (λb o xs e=>?_) (λb ps e=>⟨#[],?_⟩) (λm' hm=>?_) (λb u e=>?_) I.bare
 .rw[de (λz=>by rw[z,JD]at e;cases e)];exact hn
 .by_cases hb:b=X.e.locals
  .obtain⟨o',_,_,e',_⟩:=F2.ns;exact⟨o',by rw[hb];exact e'⟩
  .exact⟨o,BJ b o hb e⟩
 .rw[de (dw e hD)];exact e
 .rw[de (dw e hD)];exact e
 .rw[de (dw e hD),e];simp
 .rw[V4 hm F.ns];exact F2.ns
 .by_cases hb:b=D
  .subst hb;rw[dk]at e;cases e;exact⟨bh (kX (by omega)),_,c,vl,atD⟩
  .rw[de hb]at e;refine(I.fU b u e).E5 (λk v hk z=>BJ k v ?_ z) (λk z=>by rw[de (dw z hD)];exact z) λk xs z=>by rw[de (dw z hD)];exact z
   rcases hk with rfl|hk
   .intro z;rw[z,I.free]at e;cases e
   .intro z;rw[z,I.free]at hk;cases hk
def Pw (hu:X.A.units+64<cLine) {cL:cn}{s:cz}{O:St}{H:Hp}{Q:VK}{p:cF}{vs:List V}{ρ:cp}{P:V->cq->Prop}{RR:cx->cq->Prop}(I:η X cL O H s) {dE:cx}(rv:θ vs dE) (ht:Paired P vs ρ) (h2:2<=vs.length) (Ad:vs.length<64)
  (srt:∀{m:cm}{news:cn}{Q:cj},Fr X.Zc X.e.locals s.heap m->News X.Zc X.e.locals s.heap news->(∀D e1 h',Fr X.Zc X.e.locals h' m->News X.Zc X.e.locals h' ((D,seqObj "list" #[] e1)::news)->(∀q∈news,q.1<D)->
   wpAny (model X.γ X.w) X.A.in1.in1 (keyKind' dE.toArray) (λκ s'=>(W.kas_sort dE.length).kasWp (W.kas_ask X.γ X.w X.A.in1.in1 κ dE) (λp OH=>W.KasFin X.Zc X.e.locals m D e1 (p.toList.map λi=>dE.getD i Value.none) (λs3=>Q (.ref D) s3) OH) s') (λ_ _=>False) {s with heap:=h'})->X.mO (call (.builtin "sorted") [.ref p]) Q X.xe s)
  (hP:∀v l,l∈ρ->P v l->∃a xs,v=.ref a/\lr X.K H a xs/\∀ts,θ xs ts->RR ts l/\∃i t r,ts=.int i t::r)
  (hc:∀h' ts LA l l' R bb,(∀b o,(∀m,¬ s.heap.Ns b m)->s.heap.get? b=some o->h'.get? b=some o)->RR ts l->RR LA l'->R (HT.lexLt l l') {s with heap:=h'}->W.KatLex X.γ X.w X.A.in1.in1 bb (decide (ts.toArray.size<LA.toArray.size)) R (ts.toArray.toList.zip LA.toArray.toList) 0 {s with heap:=h'})
  (q:∀(l:cF) (ix:List Nat),H l=none->ix.Perm (List.range vs.length)->(ix.map λi=>ρ.getD i []).Pairwise (λa b=>HT.lexLt b a=false)->Q (.ref l) (ν H l (.l (ix.map λi=>vs.getD i .eZ)))):X.mO (call (.builtin "sorted") [.ref p]) (EP X cL O Q) X.xe s:=by
 have π:=rv.length;have adl:=Paired.length ht;obtain⟨m,F⟩:=I.fr;have N:News X.Zc X.e.locals s.heap (va X.Zc s.heap X.e.locals):=GS;have Px:∀i,i<vs.length->∃(a:cF) (o:Obj) (ts:cx) (n:Nat),dE.getD i Value.none=.ref a/\a≠X.e.locals/\s.heap.get? a=some o/\o.cls=.type "tuple"/\o.data=.seq ts.toArray n/\RR ts (ρ.getD i [])/\∃i t r,ts=.int i t::r:=λi hi=>by
  have g1:vs[i]? =some vs[i]:=ah hi;obtain⟨w,h1,h3⟩:=rv.get g1;obtain⟨l,e1,e2⟩:=ow ht g1;obtain⟨a,xs,e3,e4,e5⟩:=hP _ l (bj e1) e2;rw[e3]at h3;cases h3;obtain⟨ts,r2,⟨o,ho,hc,n,hd⟩,_⟩:=I.tuple e4;obtain⟨e6,e7⟩:=e5 ts r2;refine⟨a,o,ts,n,?_,?_,ho,hc,hd,?_,e7⟩
  .rw[ao,h1];rfl
  .intro z;obtain⟨oL,es,ep,hL,hdL,_⟩:=F.ns;rw[z,hL]at ho;cases ho;rw[hdL]at hd;cases hd
  .rw[ao,e1];exact e6
 refine srt F N λD e1 h' F' N' fR=>?_
 have JD:s.heap.get? D=none:=by
  cases e:s.heap.get? D with
  |none=>rfl
  |some o=>
   have n1:=(N' (D,_) (.head _)).2.1;have n2:=(N' (D,_) (.head _)).2.2;exact absurd (fR (D,o) (zX n1 n2 e)) (Nat.lt_irrefl _)
 have Eu:=I.Lz F' N' λ_ h=>.tail _ h
 have YX:∃fs:cx,fs.length=dE.length/\W.KatTups h' dE fs/\∀v∈fs,∃i t,v=Value.int i t:=by
  have aux:∀(l:cx),(∀v∈l,∃(a:cF) (o:Obj) (n:Nat) (k:Int) (t:Tok) (r:cx),v=.ref a/\h'.get? a=some o/\o.cls=.type "tuple"/\o.data=.seq (Value.int k t::r).toArray n)->∃fs:cx,fs.length=l.length/\W.KatTups h' l fs/\∀v∈fs,∃i t,v=Value.int i t:=by
   intro l;induction l with
   |nil=>intro _;exact⟨[],rfl,.nil,λv hv=>nomatch hv⟩
   |cons v l ih=>
    intro h;obtain⟨fs,l1,l2,l3⟩:=ih λw hw=>h w (aj _ hw)
    obtain⟨a,o,n,k,t,r,rfl,e2,e3,e4⟩:=h v af;refine⟨Value.int k t::fs,by simp[l1],.cons e2 e3 e4 (by simp) l2,λw hw=>?_⟩
    rcases mem_cons.mp hw with rfl|hw
    .exact⟨k,t,rfl⟩
    .exact l3 w hw
  refine aux dE λv hv=>?_
  obtain⟨i,hi,e⟩:=getElem_of_mem hv;obtain⟨a,o,_,n,b1,b3,b4,b5,b6,_,k,t,r,rfl⟩:=Px i (by omega)
  refine⟨a,o,n,k,t,r,?_,Eu a o b3 b4,b5,b6⟩;rw[ao,ah hi]at b1;rw[<-e];exact b1
 obtain⟨fs,f1,f2,f3⟩:=YX;refine W.kat_kind (T:=.type "int") f2 (by omega) (λv hv=>?_) (by decide) ?_
 .obtain⟨i,t,rfl⟩:=f3 v hv;exact λA Q E s' k q=>ak q
 rw[<-π];have cmp:∀i j (R:Bool->cz->Prop),i<vs.length->j<vs.length->R (HT.lexLt (ρ.getD i []) (ρ.getD j [])) {s with heap:=h'}->W.kas_ask X.γ X.w X.A.in1.in1 (tuples' (Value.type "int"!=Value.type "tuple")) dE i j R {s with heap:=h'}:=λi j R hi hj hR=>by
  obtain⟨a,o,ts,n,b1,b3,b4,b5,b6,b7,_⟩:=Px i hi;obtain⟨a',o',LA,n',c1,c3,c4,c5,c6,c7,_⟩:=Px j hj;show wpAny _ _ (keyLt' _ (dE.getD i Value.none) (dE.getD j Value.none)) _ _ _;rw[b1,c1];exact W.kat_lt (Eu a o b3 b4) b6 (Eu a' o' c3 c4) c6 (hc h' ts LA _ _ R _ (λb o nb e=>Eu b o (λz=>nb m (z▸F.ns)) e) b7 c7 hR)
 refine Hi h2 Ad cmp λar pm below V5=>?_
 refine⟨_,_,F',N',.head λp hp=>aF (fR p hp),λh2 c F2 N2=>?_⟩
 have hD:H D=none:=by
  cases e:H D with
  |none=>rfl
  |some u=>obtain⟨o,z⟩:=I.fU.has e;rw[JD]at z;cases z
 have vl:θ (ar.toList.map λi=>vs.getD i .eZ) (ar.toList.map λi=>dE.getD i Value.none):=by
  have aux:∀(l:List Nat),(∀i∈l,i<vs.length)->θ (l.map λi=>vs.getD i .eZ) (l.map λi=>dE.getD i Value.none):=by
   intro l;induction l with
   |nil=>intro _;exact .nil
   |cons i l ih=>
    intro h;refine .cons ?_ (ih λk hk=>h k (aj _ hk))
    have hi:=h i af;show ι (vs.getD i .eZ) (dE.getD i Value.none);obtain⟨w,e1,e2⟩:=rv.get (ah hi);rw[ao,ao,e1,ah hi];exact e2
  exact aux _ below
 exact⟨.ref D,ν H D (.l (ar.toList.map λi=>vs.getD i .eZ)),I.YW (s:=s) (tk:=s.toks) (c:=c) hD JD F F2 (I.Lz F2 N2 λ_ h=>.tail _ h) (by rw[ae,pm.length_eq,length_range];exact Ad) vl (N2 _ (.head _)).1,rfl,q D ar.toList hD pm V5⟩
def ze (hu:X.A.units+64<cLine):jT X (.builtin "sorted") (λxs H Q=>∃(p:cF) (vs:List V) (ρ:cp),xs=[.ref p]/\ua X.K H p vs/\Ly X.K H vs ρ/\2<=vs.length/\vs.length<64/\(∀ns∈ρ,ns≠[])/\
  ∀(l:cF) (ix:List Nat),H l=none->ix.Perm (List.range vs.length)->(ix.map λi=>ρ.getD i []).Pairwise (λa b=>HT.lexLt b a=false)->Q (.ref l) (ν H l (.l (ix.map λi=>vs.getD i .eZ)))):=by
 intro cL s O H xs us Q I r h;obtain⟨p,vs,ρ,rfl,hq,ht,h2,Ad,jI,q⟩:=h;obtain⟨u,rfl,rx⟩:=vals1 r;cases rx;obtain⟨dE,rv,pl,hz⟩:=I.list hq;have hl:=rv.length;refine Pw hu (RR:=IntsAre) I rv ht h2 Ad (λF N h=>W.kat_sorted F N pl.isList (by omega) (by omega) h) (λv l hl ⟨a,e1,e2⟩=>⟨a,_,e1,e2,λts r=>?_⟩) (λh' ts LA l l' R bb _ b7 c7 hR=>uk _ _ l l' 0 _ (by simpa using b7) (by simpa using c7) (.inr trivial) ?_ hR) q
 .have b:=intsAre_of r;refine⟨b,?_⟩;cases b with
  |nil=>exact absurd rfl (jI _ hl)
  |cons i t b=>exact⟨i,t,_,rfl⟩
 .rw[au,au,b7.length,c7.length];by_cases h:l.length<l'.length
  .rw[if_pos h];exact aS h
  .rw[if_neg h];exact aI h
end L2
namespace DL
open L2
variable [μ]
noncomputable def Py (a b:Int):Bool:=decide (a<=b)
def ξ (ns:cq):cq:=ns.mergeSort Py
def YY (a b:cq):Bool:= !(HT.lexLt b a)
def gP (ρ:cp):cp:=ρ.mergeSort YY
omit [μ] in
def sortI_perm (ns:cq):(ξ ns).Perm ns:=mergeSort_perm _ _
omit [μ] in
def BK (ns:cq):(ξ ns).Pairwise (·<= ·):=
 (pairwise_mergeSort (le:=Py) (λa b c h1 h2=>by simp only[Py,decide_eq_true_eq]at *; omega) (λa b=>by simp only[Py,Bool.or_eq_true,decide_eq_true_eq];omega) ns).imp λ{a b} h=>by simpa [Py]using h
omit [μ] in
def fZ (ρ:cp):(gP ρ).Perm ρ:=mergeSort_perm _ _
omit [μ] in
def xJ (ρ:cp):(gP ρ).Pairwise (λa b=>HT.lexLt b a=false):=
 (pairwise_mergeSort (le:=YY) (λa b c h1 h2=>by
  simp only[YY,Bool.not_eq_true']at *;cases h:HT.lexLt c a with
  |false=>rfl
  |true=>
   cases hb:HT.lexLt b c with
   |true=>rw[HT.mC hb h]at h1;cases h1
   |false=>rw[HT.iM hb h2]at h1;rw[h1]at h;cases h) (λa b=>by
  simp only[YY,Bool.or_eq_true,Bool.not_eq_true'];cases h:HT.lexLt b a with
  |false=>exact .inl rfl
  |true=>
   right;cases h2:HT.lexLt a b with
   |false=>rfl
   |true=>have:=HT.mC h h2;rw[HT.rQ]at this;cases this) ρ).imp λ{a b} h=>by simpa [YY]using h
omit [μ] in
theorem ik {α:Type}{R:α->α->Prop}(YZ:∀a b,R a b->R b a->a=b):∀{l m:List α},l.Perm m->l.Pairwise R->m.Pairwise R->l=m
 |[],m,h,_,_=>by have:=h.length_eq;cases m with|nil=>rfl|cons _ _=>cases this
 |a::l,m,h,p,q=>by
  cases m with
  |nil=>exact absurd h.length_eq (by simp)
  |cons b m=>
   have SQ:a=b:=by
    by_cases e:a=b
    .exact e
    .have h1:a∈m:=(mem_cons.mp (h.mem_iff.mp af)).resolve_left e;have h2:b∈l:=(mem_cons.mp (h.mem_iff.mpr af)).resolve_left (Ne.symm e);exact YZ a b ((pairwise_cons.mp p).1 b h2) ((pairwise_cons.mp q).1 a h1)
   subst SQ;rw[ik YZ ((perm_cons a).mp h) (pairwise_cons.mp p).2 (pairwise_cons.mp q).2]
noncomputable def vc (ns:cq):D:=.t (ns.map D.int)
noncomputable abbrev _root_.cI (i:Int):DL.Sl:=.d (.int i)
abbrev _root_.cJ (l:List Int):DL.Sl:=.d (vc l)
def wA:cw->Option (cp)
 |[]=>some []
 |.t ds::r=>(χ ds).bind λns=>(wA r).map λρ=>ns::ρ
 |_=>none
omit [μ] in
theorem zf:∀{ds:cw}{ρ:cp},wA ds=some ρ->ds=ρ.map vc
 |[],_,h=>by cases h;rfl
 |.t es::r,ρ,h=>by
  obtain⟨ns,h1,h⟩:=qI h;obtain⟨ms,h2,rfl⟩:=yN h;rw[zf h2,fE h1];rfl
omit [μ] in
def BL (ρ:cp):wA (ρ.map vc)=some ρ:=by
 induction ρ with
 |nil=>rfl
 |cons n r ih=>show(χ (n.map D.int)).bind _=_;rw[ij];show(wA (r.map vc)).map _=_;rw[ih];rfl
def lz:cw->Option (cw)
 |[.l ds]=>if ds.length<64 then
   (match χ ds with
   |some ns=>some ((ξ ns).map D.int)
   |none=>(wA ds).bind λρ=>if ρ.all (λns=> !ns.isEmpty)=true then some ((gP ρ).map vc)else none)
  else none
 |_=>none
theorem τ.LB {K:W.Frag}{C H:Hp}(s:eA C H):∀{ρ:cp}{vs:List V},τ C vs (ρ.map vc)->Ly K H vs ρ
 |[],_,.nil=>.nil
 |ns::r,_,.cons h t=>by
  cases h with
  |t h l=>
   cases l.nC;exact .cons ⟨_,rfl,lr.of (s _ _ h)⟩ (τ.LB s t)
theorem τ.places (l:τ C vs ds):∀(ix:List Nat),(∀i∈ix,i<ds.length)->τ C (ix.map λi=>vs.getD i .eZ) (ix.map λi=>ds.getD i .eZ)
 |[],_=>.nil
 |i::ix,h=>by
  refine .cons ?_ (τ.places l ix λk hk=>h k (aj _ hk))
  have hi:=h i af;obtain⟨v,h1,h2⟩:=l.get (ah hi);show Is C (vs.getD i .eZ) (ds.getD i .eZ);rw[ao,ao,h1,ah hi];exact h2
omit [μ] in
def FC {α β:Type}(f:α->β) (l:List α) (a:α) (b:β) (ix:List Nat) (h:∀i∈ix,i<l.length):(ix.map λi=>(l.map f).getD i b)=(ix.map λi=>l.getD i a).map f:=by
 rw[aW];apply bT
 intro i hi;have:=h i hi;simp[ao,aw,ah this]
def BM (hu:X.A.units+64<cLine):Pe X (.builtin "sorted") lz:=by
 refine⟨_,zd.or (AH.or (ze hu)),?_⟩;intro C H vs ds d Q s i q k;unfold lz at q;split at q
 case h_2=>cases q
 rename_i es;obtain⟨Ad,q⟩:=nq q;obtain⟨v,rfl,j⟩:=i.one;obtain⟨p,xs,rfl,hq,l⟩:=j.list (K:=X.K) s;split at q
 .rename_i ns hi;cases q;rw[fE hi]at l Ad;cases l.nC;refine .inl ⟨p,ns,rfl,hq,by simpa using Ad,λt ms ht pm pw=>?_⟩
  have e:ms=ξ ns:=ik (λa b h1 h2=>Int.le_antisymm h1 h2) (pm.trans (sortI_perm ns).symm) pw (BK ns)
  subst e;exact k t _ C _ (.ig s ht) ht (s.free ht) dk (.ints _)
 .obtain⟨ρ,hn,q⟩:=qI q;obtain⟨yU,q⟩:=nq q;cases q;have ee:=zf hn;subst ee;have lv:=l.length;rw[ae]at lv Ad;by_cases h2:xs.length<2
  .refine .inr (.inl ⟨p,xs,rfl,hq,h2,λt ht=>?_⟩)
   have e:gP ρ=ρ:=by
    have:ρ.length<2:=by omega
    match ρ,this with
    |[],_=>exact List.Perm.eq_nil (fZ [])
    |[a],_=>exact perm_singleton.mp (fZ [a])
   rw[e]at k;exact k t xs C _ (.ig s ht) ht (s.free ht) dk l
  .refine .inr (.inr ⟨p,xs,ρ,rfl,hq,l.LB s,by omega,by omega,λns OU=>?_,λt ix ht pm pw=>?_⟩)
   .have:=all_eq_true.mp yU ns OU;intro z;subst z;simp at this
   .have lt:∀i∈ix,i<(ρ.map vc).length:=λi hi=>by
     have:=pm.mem_iff.mp hi;rw[mem_range]at this;rw[ae];omega
    have lt':∀i∈ix,i<ρ.length:=λi hi=>by have:=lt i hi;rwa [ae]at this
    have e:(ix.map λi=>ρ.getD i [])=gP ρ:=by
     refine ik (λa b h1 h2=>HT.iM h2 h1) ?_ pw (xJ ρ)
     have e1:(ix.map λi=>ρ.getD i []).Perm ((List.range ρ.length).map λi=>ρ.getD i []):=List.Perm.map _ (by rw[<-lv];exact pm)
     rw[iC]at e1;exact e1.trans (fZ ρ).symm
    have ll:=l.places ix lt;rw[FC vc ρ [] .eZ ix lt',e]at ll;exact k t _ C _ (.ig s ht) ht (s.free ht) dk ll
section
variable {e:cG}{C0 H0:Hp}{f:cc}
def Hj:List Nat->Vr
 |[]=>X1
 |i::is=>Up (GV i) (Hj is)
noncomputable def wB:List Nat->cw->fW->fW
 |i::is,d::ds,U=>wB is ds (U.set i (.d d))
 |_,_,U=>U
theorem Pz:∀(is:List Nat) {xs:List V}{ds:cw}{U:fW}{O:L2.St},τ C xs ds->ds.length=is.length->Gd B C0 H0 U O C H->(∀σ',Gd B C0 H0 (wB is ds U) σ' C H->Q σ' H)->Hj is xs O H Q
 |[],_,_,_,_,.nil,_,g,k=>⟨rfl,k _ g⟩
 |_::_,_,_,_,_,.nil,h,_,_=>by cases h
 |i::is,_,_,_,_,.cons h t,hl,g,k=>⟨_,_,rfl,Pz is t (by simpa using hl) (g.wx h) k⟩
def Hk (is:List Nat) (f:cc):cb:=λU=>match f U with
 |some (.t ds)=>if ds.length=is.length then some (.next (wB is ds U))else none
 |_=>none
def Gd.ig (g:Gd B C0 H0 U O C H) (h0:H0 a=none) (hc:C a=none) (hn:∀(k:Nat) (es:cw),U[k]? =some (.o es)->O[k]? ≠some (some (.ref a))) (hx:∀u,H a=some u->Jh u=false) (o:HO):Gd B C0 H0 U O C (ν H a o):=
 ⟨g.b,g.ev.BC h0 hc o,⟨λb u q=>by rw[de (dw q hc)];exact g.x.sub b u q,g.x.d,λk ds q=>by
   obtain⟨b,xs,h1,h2,h3,h4⟩:=g.x.o k ds q;exact⟨b,xs,h1,h2,by rw[de (λz=>hn k ds q (by rw[h1,z]))];exact h3,h4⟩,g.x.Dv,g.x.len,λk ks q=>by
   obtain⟨b,h1,h2,h3,h4⟩:=g.x.mem k ks q;exact⟨b,h1,h2,μ.Xr h3 hx,λk hk=>μ.M4 h3 hx (h4 k hk)⟩⟩,g.fr⟩
def Gd.SU (g:Gd B C0 H0 U O C H) (h0:H0 a=none) (hc:C a=none) (hH:H a=some (.l xs)) (hl:τ C xs ds) (hn:∀(k:Nat) (es:cw),U[k]? =some (.o es)->O[k]? ≠some (some (.ref a))):Gd B C0 H0 (U.set i (.o ds)) (O.set i (some (.ref a))) C H:=
 ⟨g.b,g.ev,g.x.BD hc hH hl hn,λk es b q1 q2=>by
  rcases Ce q1 with⟨rfl,e1⟩|⟨hk,e1⟩
  .rcases Ce q2 with⟨_,e2⟩|⟨z,_⟩
   .cases e2;exact h0
   .exact absurd rfl z
  .rw[aH (Ne.symm hk)]at q2;exact g.fr k es b e1 q2⟩
noncomputable def JU (j m:Nat) (f:cc) (U:fW):cw->cw->Option (cw×cw)
 |ls,[]=>some ([],ls)
 |ls,d::ds=>match f ((U.set m (.o ls)).set j (.d d))with
  |some (.int i)=>if 0<=i then(match ls[i.toNat]? with
   |some x=>(JU j m f U (ls.eraseIdx i.toNat) ds).map λr=>(x::r.1,r.2)
   |none=>none)else none
  |_=>none
def Hl (k j m:Nat) (i:bZ) (f:cc):cb:=λU=>match U[m]? with
 |some (.o ls)=>if ls.length<1000000 then(i U).bind λds=>if ds.length<1000000 then(JU j m f U ls ds).map λr=>.next ((U.set m (.o r.2)).set k (.o r.1))else none else none
 |_=>none
omit [μ] in
def getElem?_set_own {U:fW}{m k:Nat}{ls es:cw}(hm:∃fs,U[m]? =some (Sl.o fs)) (h:(U.set m (Sl.o ls))[k]? =some (.o es)):∃fs,U[k]? =some (.o fs):=by
 rcases Ce h with⟨rfl,_⟩|⟨_,e⟩
 .exact hm
 .exact⟨_,e⟩
abbrev abJ (B C0 H0 C1:Hp) (U:fW) (O:L2.St) (A:cF) (m:Nat) (ds ys:cw) (p:cw->cw->Option (cw×cw)) (rem:cw) (n mm:Nat) (υ:List V) (H':Hp):Prop:=∃C' lc done rest,mm=ds.length-n/\n<=ds.length/\Gd B C0 H0 (U.set m (.o lc)) O C' H'/\eA C1 C'/\C' A=none/\H' A=some (.l υ)/\τ C' υ done/\done.length<=n/\lc.length<1000000/\p lc (ds.drop n)=some (rest,rem)/\ys=done++rest
def PH {B:Hp}{k j m:Nat}{i:bZ}{tt:TT}(hmj:m≠j) (ht:∀O H Q,tQ kO O H Q->tt O H Q) {K:W.Frag}:∀Dn O H,tS B C0 H0 (Hl k j m i f) Dn O H->
  G6 k (OZ (tI i) j tt (tBM K "list" OQ (lu m) (tAD (cM f cS)))) Dn O H:=λDn O H ⟨C,U,r,gd,q,kk⟩=>by
 unfold Hl at q;split at q
 case h_2=>cases q
 rename_i ls hm;obtain⟨hzl,q⟩:=nq q;obtain⟨ds,hf,q⟩:=qI q;obtain⟨hz,q⟩:=nq q;obtain⟨pr,hp,rfl⟩:=yN q;obtain⟨ys,rem⟩:=pr;refine⟨C,U,ds,gd.x,hf,λJ C1 H1 ev wk A hA=>?_⟩
 have g1:=gd.A7 ev;have Y0:∀(k:Nat) (es:cw),U[k]? =some (.o es)->O[k]? ≠some (some (.ref A)):=λk es e z=>by
  obtain⟨a,xs,h1,_,h3,_⟩:=g1.x.o k es e;rw[z]at h1;cases h1;rw[hA]at h3;cases h3
 have V6:∀(ls:cw) (k:Nat) (es:cw),(U.set m (.o ls))[k]? =some (.o es)->O[k]? ≠some (some (.ref A)):=λls k es e=>by
  obtain⟨fs,e'⟩:=getElem?_set_own ⟨_,hm⟩ e;exact Y0 k fs e'
 have hA0:H0 A=none:=g1.ev.free hA;have dm:U.set m (.o ls)=U:=by
  apply ext_getElem?
  intro n;by_cases e:n=m
  .subst e;rw[bf (List.getElem?_eq_some_iff.mp hm).1,hm]
  .rw[aH (Ne.symm e)]
 refine⟨abJ B C0 H0 C1 U O A m ds ys (JU j m f U) rem,
  ⟨ds.length,C1,ls,[],ys,by simp,bM _,by rw[dm];exact g1.ig hA0 (ev.s.free hA) Y0 (λu q=>by rw[hA]at q;cases q) _,eA.refl _,ev.s.free hA,dk,.nil,av _,hzl,by simpa using hp,rfl⟩,?_⟩
 rintro n mm υ H2 ⟨C2,lc,done,rest,rfl,hn,g2,sc,a2,b2,l2,le2,hlc,q2,ey⟩
 have w:=wk n C2 H2 sc g2.x.sub;by_cases fR:n<ds.length
 .have hd:ds[n]? =some ds[n]:=ah fR;obtain⟨go,yl⟩:=w.1 _ hd;rw[drop_eq_getElem_cons fR]at q2;refine .inr ⟨go,λv H3 y=>?_⟩
  obtain⟨rfl,is⟩:=yl v H3 y;have x3:=g2.x.wx (i:=j) is;unfold JU at q2;split at q2
  case h_2=>cases q2
  rename_i ii hfi;obtain⟨hi0,q2⟩:=nq q2;split at q2
  case h_2=>cases q2
  rename_i x hx;obtain⟨pr,hr,e⟩:=yN q2;cases e;have hml:m<U.length:=(List.getElem?_eq_some_iff.mp hm).1;have om:(U.set m (.o lc))[m]? =some (.o lc):=bf hml;obtain⟨a,xs,h1,h2,h3,h4⟩:=g2.x.o m lc om;refine ht _ _ _ ⟨C2,_,true,x3,rfl,λC4 H4 e4=>Bu ?_⟩
  have g4:=g2.A7 e4;have O8:=e4.hh h3;refine⟨.ref a,by rw[aH (Ne.symm hmj)];exact h1,.inl ⟨rfl,_,ua.of O8⟩,C4,_,[.int ii],x3.ev e4,by unfold cM cS;rw[hfi];rfl,λvs C5 H5 e5 i5=>?_⟩
  cases i5 with
  |cons i51 i52=>
   cases i52;cases i51;have N5:=e4.trans e5;have g5:=g2.A7 N5;have hH5:=N5.hh h3;have l5:=h4.mono N5.c;obtain⟨vx,hvx,isx⟩:=l5.get hx;have π:xs.length=lc.length:=l5.length;have afk:ii.toNat<xs.length:=(List.getElem?_eq_some_iff.mp hvx).1;have aA:a≠A:=λz=>V6 lc m lc om (by rw[h1,z])
   have hA5:H5 A=some (.l υ):=N5.hh b2;have a5:=N5.nn a2 b2;refine⟨a,xs,ii,ii.toNat,vx,rfl,rfl,hH5,by omega,by omega,seqIndex_of hi0 (by omega),hvx,?_⟩
   refine⟨by rw[de (Ne.symm aA)];exact hA5,by rw[l2.length];exact A8 (by omega),ds.length-(n+1),by omega,C5,lc.eraseIdx ii.toNat,done++[x],pr.1,rfl,fR,?_,sc.trans N5.c,a5,dk,(l2.mono N5.c).append (.one isx),?_,?_,hr,?_⟩
   .have g6:=g5.mut (es:=lc.eraseIdx ii.toNat) om h1 (l5.eraseIdx ii.toNat);rw[set_set]at g6;exact g6.ig hA0 a5 (V6 _) (λu q=>by rw[de (Ne.symm aA),hA5]at q;cases q;rfl) _
   .rw[aR,length_singleton];omega
   .exact Nat.lt_of_le_of_lt (qH _ _) hlc
   .rw[ey,append_assoc];rfl
 .have e:n=ds.length:=by omega
  subst e;rw[drop_length]at q2;unfold JU at q2;cases q2;rw[bD]at ey;subst ey;refine .inl ⟨w.2 (av _),kk _ C2 H2 ?_⟩;exact g2.SU hA0 a2 b2 l2 (V6 _)
end
end DL
namespace DL
open L2
def Cal (P:cB) (w:cC) (K:W.Frag) (mg:cm) (Zc:Heap) (k:Nat) (x:Str) (g:cg):Prop:=
 ∃f fd ps,gK P w K mg Zc nY k f fd ps (M8 g)/\mg x=some (.ref f)/\W.keepIn K (.ref f)=true/\Binds K fd ps []
noncomputable def FD (K:W.Frag):Bool:=K.all λp=>match p.2.data with
 |.seq _ _=>(match p.2.cls with|.type t=>t !="list"|_=>true)
 |_=>true
def mem_of_lookup {K:W.Frag}{a:cF}{o:Obj}(e:K.lookup a=some o):(a,o)∈K:=by
 induction K with
 |nil=>cases e
 |cons p r ih=>
  obtain⟨b,u⟩:=p;rw[bq]at e;by_cases h:a=b
  .subst h;simp only[bO]at e;cases e;exact af
  .have hb:(a==b)=false:=by simpa using h
   simp only[hb]at e;exact aj _ (ih e)
def JV {K:W.Frag}(h:FD K=true) {a:cF}{o:Obj}{dE:Array cy}{n:Nat}(e:K.lookup a=some o) (hc:o.cls=.type "list") (hs:o.data=.seq dE n):False:=by
 have:=all_eq_true.mp h _ (mem_of_lookup e);simp only[hs,hc]at this;simp at this
def Y1 {l:W.OpenLaw}{q:cB}{loose:List Str}{XP:(cm)->Heap->Prop}{YP:cC->Heap->Prop}{d:DefRec}{K:Params->W.Frag}{x:Str}{g:cg}(hn:l.most=some 63) (Yz:d.params.defaults=[])
  (hY:∀(w:cC) (h:Heap),YP w h->(K w.params).In h)
  (hg:∀ns:cq,ns.length<=63->g [.l (ns.map D.int)]=some (.bl true))
  (OV:∀t∈vD,((recsOf q).find? λe=>e.name==t.1).isSome=true)
  (F:∀(w:cC) (mg:cm) (fa:cF) (h:Heap),(K w.params).In h->h.Ns mainGlobals mg->mg d.name=some (.ref fa)->
   FD (K w.params)=true/\tabsOk (K w.params)=true/\∃fd:cA,(∀(s:cz) (u:cy),BindsTo s fd ⟨[u],[]⟩ [(x,u)])/\∀Zc:Heap,(K w.params).In Zc->Zc.Ns mainGlobals mg->gK l.prog w (K w.params) mg Zc nY 65 fa fd [x] (M8 g)):
  W.WalkO q loose XP YP l.row.toRowW d [] (λf vs=>PySem.call f vs):=
 L2.SF (n:=63) (k:=65) (x:=x) (CX:=λ_=>nY) (sp:=λw vs H Q E=>FD (K w.params)=true->M8 g vs H Q E) hn (by decide) Yz ⟨rfl,by decide,by decide,rfl⟩ hY OV
  (λw mg fa h k1 k2 k3=>by
   obtain⟨z,tz,fd,b,f⟩:=F w mg fa h k1 k2 k3;exact⟨tz,fd,b,λZc e1 e2=>(f Zc e1 e2).imp λvs H Q E h=>h z⟩)
  (λw H a ns hl hS hz=>by
   have hr:Rd H a (.l (ns.map V.int)):=by
    rcases hS with h|⟨o,dE,n,e1,e2,_,e4,_⟩
    .exact h
    .exact(JV hz e1 e2 e4).elim
   exact⟨H,[.l (ns.map D.int)],.bl true,eA.refl H,.cons (.l hr (.ints ns)) .nil,hg ns hl,λv C' H' ev i=>by cases i;rfl⟩)
  λ_ _ _ _ _ z=>z
variable [μ]
structure WD (X:Cx) (e:cG) (f:cc):Prop where
 go:PD X e f
structure WO (X:Cx) (e:cG) (f:cc):Prop where
 go:PO X e f
structure WF (X:Cx) (e:cG) (f:bZ):Prop where
 go:PF X e f
structure WQ (X:Cx) (e:cG) (f:cf):Prop where
 go:PQ X e f
structure Hm (X:Cx) (e:cG) (f:cf):Prop where
 go:PQW X e f
structure LC (X:Cx) (es:List cG) (f:bZ):Prop where
 go:YM X es f
structure Xu (X:Cx) (es:List cG) (f:bZ):Prop where
 go:PAO X es f
structure Ae (X:Cx) (tg e:cG) (f:bZ):Prop where
 go:YR X tg e f
structure Y2 (X:Cx) (tg e:cG) (f:bZ):Prop where
 go:PIe X tg e f
structure WB (X:Cx) (C0 H0:Hp) (st:cH) (f:cb):Prop where
 go:PB X C0 H0 st f
structure rH (X:Cx) (C0 H0:Hp) (st:List cH) (f:cb):Prop where
 go:N4 X C0 H0 st f
structure WP (X:Cx) (e:Option cG) (f:fW->Option (Option Int)):Prop where
 go:L2.PO X e (tP f)
def cN (i:Nat) (hN:X.N[i]? =some x:=by rfl) (hv:Vi X.e.scope x:=by first|exact Or.inl rfl|exact Or.inr (Or.inl rfl)|exact Or.inr (Or.inr rfl)) (hd:AD x:=by decide) (vG:(x==("__classdict__":Str))=false:=by decide):WO X (.Name x pos) (dg i):=⟨M7 (E8 hN hv hd vG)⟩
def eI (i:Nat) (hN:X.N[i]? =some x:=by rfl) (hv:Vi X.e.scope x:=by first|exact Or.inl rfl|exact Or.inr (Or.inl rfl)|exact Or.inr (Or.inr rfl)) (hd:AD x:=by decide) (vG:(x==("__classdict__":Str))=false:=by decide):WD X (.Name x pos) (cO i):=⟨M6 (E8 hN hv hd vG)⟩
theorem WD.o (h:WD X e f):WO X e f:=⟨h.go.o⟩
theorem WF.d (h:WF X e f):WD X e (dL f):=⟨h.go.d⟩
theorem Hm.pt (h:Hm X e f):WQ X e f:=⟨h.go.pt⟩
theorem Ae.weak (h:Ae X tg e f):Y2 X tg e f:=⟨h.go.weak⟩
def BN:WP X none Hd:=⟨Sq.imp λO H Q ⟨C,U,o,x,q,k⟩=>by cases q;exact k C H (.refl x.sub)⟩
def rS (h:WO X e f):WP X (some e) (pJ f):=⟨(Sr h.go).imp λO H Q ⟨C,U,o,x,q,k⟩=>by
 unfold pJ at q;split at q
 .rename_i i hf;cases q;exact⟨C,U,_,x,hf,λv C' H' ev i'=>⟨i,i'.int,k C' H' ev⟩⟩
 .cases q⟩
end DL
namespace DL
open L2
def fT {P:cB}{w:cC}{K:W.Frag}{mg:cm}{Zc:Heap}{x qual:Str}{st:cH}{f:cF}{fd:cA}{N ps:List Str}{k:Nat}(F:Bs K x qual st f fd) (S:dF N ps (cZ st)) {fb:cb}
  (gO:∀(m:μ) (fC:cy) (A:cD) (ε:List Env) (s:cz) (H:Hp) (E:XK),gc k (A.deeper (envOfC qual (cZ st) s.dN f fC))->∀C0 H0,rH (t6 nY P w K mg Zc N qual (cZ st) f fC A ε s H E).GJ C0 H0 (gr st) fb):
  gK P w K mg Zc nY (k+1) f fd ps (M8 (gF N.length ps.length fb)):=UD F S λfC A ε s H E hr C0 H0=>@rH.go μ.keep _ _ _ _ _ (gO μ.keep fC A ε s H E hr C0 H0)
variable [μ]
variable [μ]
section
variable {e b c:cG}
def dH:WD X (.Constant (.int i) j pos) (dC (.int i)):=⟨xw Bi λ_=>.int i⟩
def jU:WD X (.Constant (.bool i) j pos) (dC (.bl i)):=⟨xw XT λ_=>.bl i⟩
def wC {j:Nat}:WD X (.Constant .none j pos) (dC .eZ):=⟨xw Vj λ_=>.eZ⟩
def V7:WD X (.Constant (.str x) j pos) (dC (.str x)):=⟨xw Vk λ_=>.str x⟩
def iR (hg:Gl X x) (hm:X.mg x=some (.int i t)) (hd:AD x:=by decide):WD X (.Name x pos) (dC (.int i)):=⟨xw (R4 (v:=.int i) hg hm ⟨t,rfl⟩ hd) λ_=>.int i⟩
def jX (ha:WO X a f) (hb:WO X b g):WD X (.BinOp a .Add b pos) (dB jW f g):=⟨Eo Ot (Pa λ_ _ _=>.int _) ha.go hb.go⟩
def oy (ha:WO X a f) (hb:WO X b g):WD X (.BinOp a .Sub b pos) (dB ou f g):=⟨Eo Vy (Pa λ_ _ _=>.int _) ha.go hb.go⟩
def FE (ha:WO X a f) (hb:WO X b g):WD X (.BinOp a .Mult b pos) (dB Dw f g):=⟨Eo Vz (Pc (λi j h=>by
 unfold Pd at h;unfold R9
 simpa using h) λ_ _ _=>.int _) ha.go hb.go⟩
def FF (ha:WO X a f) (hb:WO X b g):WD X (.BinOp a .FloorDiv b pos) (dB JJ f g):=⟨Eo Sa (Pc (λi j h=>by
 unfold VW at h;unfold X9
 simpa using h) λ_ _ _=>.int _) ha.go hb.go⟩
def wD (ha:WO X a f) (hb:WO X b g):WD X (.BinOp a .Mod b pos) (dB vI f g):=⟨Eo VA (Pc (λi j h=>by
 unfold G9 at h
 simpa using h) λ_ _ _=>.int _) ha.go hb.go⟩
def qe (c:xx X op o) (ha:WO X a f) (hb:WO X b g) (hm:behindInMarks op b=false:=by first|exact Bk _|rfl):WD X (.Compare a [op] [b] pos) (dB o f g):=⟨by
 have ha:=ha.go;have hb:=hb.go;obtain⟨r,ho,hd⟩:=c;exact(Sd ho ha hb hm).imp (Ln hd)⟩
def ip (h:WD X e f) (he:∀whole,isTrue e X.e whole=(do let v <-whole;standAt e.pos;holding [v] (truthy v)):=by intro _;rfl):WQ X e (qB f):=⟨by have h:=h.go;exact(Vl h he).imp (UB λ_ _ _ h=>h)⟩
def eE (c:xx X op o) (ha:WO X a f) (hb:WO X b g) (hm:behindInMarks op b=false:=by first|exact Bk _|rfl):WQ X (.Compare a [op] [b] pos) (qB (dB o f g)):=⟨by
 have ha:=ha.go;have hb:=hb.go;obtain⟨r,ho,hd⟩:=c;exact(Fd ho ha hb hm).imp (UB (Ln hd))⟩
def Hn (ha:WQ X a f):Hm X (.BoolOp .And [a] pos) f:=by
 have ha:=ha.go;exact⟨by
  intro wh cL s O H Q I h;refine isTrue_and (xc (ha cL s O H Q I h) λc s1 e=>?_)
  cases c with
  |true=>exact isTrue_and_nil e
  |false=>exact e⟩
def rT {f:cf}(ha:WQ X a f):Hm X (.BoolOp .Or [a] pos) f:=⟨Vm ha.go⟩
def FG {rest:List cG}{f g:cf}(ha:WQ X a f) (hb:Hm X (.BoolOp .And (b::rest) pos) g):Hm X (.BoolOp .And (a::b::rest) pos) (xy f g):=⟨(Vn ha.go hb.go).imp VY⟩
def rV {rest:List cG}{f g:cf}(ha:WQ X a f) (hb:Hm X (.BoolOp .Or (b::rest) pos) g):Hm X (.BoolOp .Or (a::b::rest) pos) (Ep f g):=⟨(XW ha.go hb.go).imp YO⟩
def iU (ha:WQ X a f):WQ X (.UnaryOp .Not a pos) (kN f):=⟨(Vo ha.go).imp λO H Q ⟨C,U,b,x,q,k⟩=>by
 obtain⟨c,hf,rfl⟩:=yN q;exact⟨C,U,c,x,hf,k⟩⟩
def JW (h:WD X a f):WD X (.BoolOp op [a] pos) f:=by
 have h:=h.go;exact⟨λcL s O H Q I hw=>BoolOp_one (h cL s O H Q I hw)⟩
def JX {rest:List cG}{f g:cc}(ha:WD X a f) (hb:WD X (.BoolOp .And (b::rest) pos) g):WD X (.BoolOp .And (a::b::rest) pos) (JK f g):=⟨(Vp ha.go hb.go).imp λO H Q ⟨C,U,d,x,q,k⟩=>by
 unfold JK at q;split at q
 .rename_i hf;exact⟨C,U,_,x,hf,λv C' H' ev i=>by cases i;exact⟨true,rfl,Bu ⟨C',U,d,x.ev ev,q,λu C2 H2 e2 i2=>k u C2 H2 (ev.trans e2) i2⟩⟩⟩
 .rename_i hf;cases q;exact⟨C,U,_,x,hf,λv C' H' ev i=>by cases i;exact⟨false,rfl,Dt (k _ C' H' ev (.bl _))⟩⟩
 .cases q⟩
def Ho (hc:WQ X c q) (ha:WD X a f) (hb:WD X b g):WD X (.IfExp c a b pos) (dIf q f g):=⟨(Og hc.go ha.go hb.go).imp λO H Q ⟨C,U,d,x,h,k⟩=>by
 unfold dIf at h;split at h
 .rename_i hf;exact⟨C,U,true,x,hf,λC' H' ev=>Bu ⟨C',U,d,x.ev ev,h,λu C2 H2 e2 i2=>k u C2 H2 (ev.trans e2) i2⟩⟩
 .rename_i hf;exact⟨C,U,false,x,hf,λC' H' ev=>Dt ⟨C',U,d,x.ev ev,h,λu C2 H2 e2 i2=>k u C2 H2 (ev.trans e2) i2⟩⟩
 .cases h
⟩
end
section
variable {p:Pos}{x:Str}
def cQ:LC X [] cS:=⟨xA⟩
def cP (ha:WD X e f) (hr:LC X es g) (hs:cK e es X.e:=by exact gu rfl):LC X (e::es) (cM f g):=⟨qJ ha.go hr.go hs⟩
def cU (i:Nat) {x:Str}{pos:Pos}{g:bZ}(hr:LC X es g) (hN:X.N[i]? =some x:=by rfl) (hv:Vi X.e.scope x:=by first|exact Or.inl rfl|exact Or.inr (Or.inl rfl)|exact Or.inr (Or.inr rfl)) (hd:AD x:=by decide) (vG:(x==("__classdict__":Str))=false:=by decide) (hs:cK (.Name x pos) es X.e:=by exact gu rfl):LC X (.Name x pos::es) (cM (cO i) g):=cP (eI i hN hv hd vG) hr hs
def dM:Xu X [] cS:=⟨(wq (X:=X)).imp λO H Q ⟨C,U,ds,x,q,k⟩=>by cases q;exact k [] C H (.refl x.sub) .nil⟩
def dD (ha:WO X e f) (hr:Xu X es g) (hs:cK e es X.e:=by exact gu rfl):Xu X (e::es) (cM f g):=⟨(kr ha.go hr.go hs).imp λO H Q ⟨C,U,ds,x,q,k⟩=>by
 obtain⟨d,hf,q⟩:=qI q;obtain⟨r,hg,rfl⟩:=yN q;exact⟨C,U,d,x,hf,λv C1 H1 e1 i1=>⟨C1,U,r,x.ev e1,hg,λvs C2 H2 e2 i2=>k _ C2 H2 (e1.trans e2) (.cons (i1.ev e2) i2)⟩⟩⟩
def eJ (h:LC X es f):WD X (.Tuple es k pos) (fy f):=⟨(VE h.go).imp λO H Q ⟨C,U,d,x,q,k⟩=>by
 obtain⟨ds,hf,q⟩:=qI q;obtain⟨hz,q⟩:=nq q;cases q;refine⟨C,U,ds,x,hf,λvs C1 H1 e1 i1=>⟨?_,λp hp=>k _ _ _ (e1.trans (.new e1.s hp)) (.t dk (i1.mono (fj (e1.s.free hp))))⟩⟩
 rw[i1.length];exact bh (kX hz)⟩
def wF (h:LC X es f):WF X (.List es pos) (BE f):=⟨(VF h.go).imp λO H Q ⟨C,U,d,x,q,k⟩=>by
 obtain⟨ds,hf,q⟩:=qI q;obtain⟨hz,q⟩:=nq q;cases q;refine⟨C,U,_,x,hf,λvs C1 H1 e1 i1=>⟨?_,λp hp=>k p vs C1 _ (e1.trans (.ig e1.s hp)) (e1.free hp) (e1.s.free hp) dk i1⟩⟩
 rw[i1.length];exact bh (kX hz)
⟩
def eO {id:String}{g:cg}{f:bZ}(hc:xB X (.builtin id) g) (hm:X.mg x=none) (hv:bootBuiltins x=some (.builtin id)) (ha:Xu X (e::es) f) (hg:Gl X x:=by rfl) (hn:x≠"__name__":=by decide) (yT:AD x:=by decide) (he:cK e es X.e:=by exact gu rfl) (oj:A4 pos es X.e:=by exact hW rfl):WD X (.Call (.Name x p) (e::es) [] pos) (cV g f):=⟨by
 have ha:=ha.go;obtain⟨r,h1,h2⟩:=hc;exact(Bm h1 hg hm hv ha hn yT he oj).imp (UC h2)⟩
def oz {id:String}{g:cw->Option (cw)}{f:bZ}(hc:Pe X (.builtin id) g) (hm:X.mg x=none) (hv:bootBuiltins x=some (.builtin id)) (ha:Xu X (e::es) f) (hg:Gl X x:=by rfl) (hn:x≠"__name__":=by decide) (yT:AD x:=by decide) (he:cK e es X.e:=by exact gu rfl) (oj:A4 pos es X.e:=by exact hW rfl):WF X (.Call (.Name x p) (e::es) [] pos) (ly g f):=⟨by
 have ha:=ha.go;obtain⟨r,h1,h2⟩:=hc;exact(Bm h1 hg hm hv ha hn yT he oj).imp (YQ h2)⟩
def f7 (hc:xB X (.type T) g) (hm:X.mg x=none) (hv:bootBuiltins x=some (.type T)) (ha:Xu X (e::es) f) (hg:Gl X x:=by rfl) (hn:x≠"__name__":=by decide) (yT:AD x:=by decide) (he:cK e es X.e:=by exact gu rfl) (oj:A4 pos es X.e:=by exact hW rfl):WD X (.Call (.Name x p) (e::es) [] pos) (cV g f):=⟨by
 have ha:=ha.go;obtain⟨r,h1,h2⟩:=hc;exact(Eg h1 hg hm hv ha hn yT he oj).imp (UC h2)⟩
end
variable [μ]
section
variable {X:Cx}{C0 H0:Hp}{st:cH}{rest:List cH}{f g:cb}
def dU:rH X C0 H0 [] gq:=⟨λB=>Fb.imp λDn O H ⟨C,U,r,g,q,k⟩=>by cases q;exact k O C H g⟩
def cX (h:WB X C0 H0 st f):rH X C0 H0 [st] f:=⟨λB=>Ld (h.go B)⟩
def cW (h:WB X C0 H0 st f) (h2:rH X C0 H0 rest g):rH X C0 H0 (st::rest) (dP f g):=⟨λB=>(xi (h.go B) (h2.go B)).imp λDn O H ⟨C,U,r,gd,q,k⟩=>by
 unfold dP at q;split at q
 .rename_i δ' hf;exact⟨C,U,.next δ',gd,hf,λσ' C' H' g'=>⟨C',δ',r,g',q,k⟩⟩
 .rename_i hn;refine⟨C,U,r,gd,q,?_⟩;cases r with
  |next δ'=>exact absurd q (hn δ')
  |ret d=>exact k
  |brk δ'=>exact k
  |cont δ'=>exact k
⟩
def mD (i:Nat) (h:rH X C0 H0 sts f):rH X C0 H0 sts (vS i f):=⟨λB=>(h.go B).imp λDn O H ⟨C,U,r,gd,q,k⟩=>by
 obtain⟨C',g'⟩:=gd.give i;exact⟨C',_,r,g',q,k⟩⟩
def dr {f:cc}(he:WD X e f):WB X C0 H0 (.Return (some e) pos) (eB f):=⟨λB=>(Vq he.go).imp λDn O H ⟨C,U,r,gd,q,k⟩=>by
 obtain⟨d,hf,rfl⟩:=yN q;exact⟨C,U,d,gd.x,hf,λv C' H' ev i=>k v C' H' (gd.ev.trans ev) i⟩⟩
def fc (i:Nat) {x:Str}{pos':Pos}{f:cc}(hN:X.N.Nodup) (he:WD X e f) (hi:X.N[i]? =some x:=by rfl) (hx:Loc X.e.scope x:=by first|exact Or.inl rfl|exact Or.inr rfl) (hs:swapsWith e (some (.Name x pos')) pos.line X.e=pure false:=by rfl) (hf:X.fn x=true\/X.e.scope.names.lookup x=some .local:=by first|exact .inl rfl|exact .inr rfl):WB X C0 H0 (.Assign [.Name x pos'] e pos) (g0 i f):=⟨λB=>(Fc hN hi hx he.go hs hf).imp (V0 λ_ _ _ h=>h)⟩
def rX (i:Nat) {x:Str}{pos':Pos}{f:bZ}(hN:X.N.Nodup) (he:WF X e f) (hi:X.N[i]? =some x:=by rfl) (hx:Loc X.e.scope x:=by first|exact Or.inl rfl|exact Or.inr rfl) (hs:swapsWith e (some (.Name x pos')) pos.line X.e=pure false:=by rfl) (hf:X.fn x=true\/X.e.scope.names.lookup x=some .local:=by first|exact .inl rfl|exact .inr rfl):WB X C0 H0 (.Assign [.Name x pos'] e pos) (mw i f):=⟨λB=>(Fc hN hi hx he.go hs hf).imp (Pf λ_ _ _ h=>h)⟩
def fu (hc:WQ X c q) (ha:rH X C0 H0 a f) (hb:rH X C0 H0 b g):WB X C0 H0 (.If c a b pos) (kx q f g):=⟨λB=>(Oh hc.go (ha.go B) (hb.go B)).imp λDn O H ⟨C,U,r,gd,h,k⟩=>by
 unfold kx at h;split at h
 .rename_i hf;exact⟨C,U,true,gd.x,hf,λC' H' ev=>Bu ⟨C',U,r,gd.A7 ev,h,k⟩⟩
 .rename_i hf;exact⟨C,U,false,gd.x,hf,λC' H' ev=>Dt ⟨C',U,r,gd.A7 ev,h,k⟩⟩
 .cases h
⟩
end
def xK (h:WD X e f):Ae X tg e (iL f):=⟨Ha h.go⟩
def gf (h:WD X e f):Ae X tg e (iT f):=⟨Lq h.go⟩
def FH (h:WO X e f):Y2 X tg e (iL f):=⟨(Lf h.go).imp λO H R ⟨C,U,ds,x,q,k⟩=>by
 unfold iL at q;split at q
 .rename_i es hf;cases q;refine⟨C,U,_,x,hf,λv C' H' ev i=>?_⟩
  rcases i with i|⟨a,xs,Lm,rfl,e2,h2,h3,h4⟩
  .cases i with
   |l hr hl=>exact⟨_,rfl,⟨_,.inl (hr.same ev.s)⟩,k _ C' H' ev λi C2 H2 e2=>Er hr hl i C2 H2 e2.c e2.s⟩
  .cases e2;refine⟨a,rfl,⟨xs,ua.of h3⟩,k _ C' H' ev λi C2 H2 e2=>?_⟩
   have hq:ua X.K H2 a xs:=ua.of (e2.hh h3);refine⟨λd hd=>?_,λhi=>⟨xs,hq,by rw[h4.length];exact hi⟩⟩
   obtain⟨v,hv,is⟩:=h4.get hd;exact⟨⟨xs,v,hq,hv⟩,λx H3 ⟨z1,z2⟩=>⟨z1,by
    have:=z2 xs hq;rw[hv]at this;cases this;exact is.mono e2.c⟩⟩
 .cases q
⟩
def lU (hg:Gl X "range") (hm:X.mg "range"=none) (ha:LC X [a] f) (hs:starEach [a] X.e=[(false,eval a X.e)]:=by exact gu rfl):Ae X tg (.Call (.Name "range" p) [a] [] pos) (Dg f):=⟨(ML hg hm ha.go hs).imp λO H R ⟨C,U,ds,x,q,k⟩=>by
 unfold Dg at q;split at q
 .rename_i j hf;obtain⟨hj,q⟩:=nq q;cases q;refine⟨C,U,_,x,hf,λvs C' H' ev i=>?_⟩
  cases i with
  |cons i1 i2=>
   cases i2;cases i1;exact⟨j,rfl,by omega,by omega,k _ C' H' ev JM⟩
 .cases q
⟩
def lA (hp:PassesOwn (model X.γ X.w) X.A X.e X.xe) (hc:X.calm=true) (hi:Ae X tg iter i) (hg:PG X tg (GV j)) (hb:rH X C0 H0 body f) (hs:∀x,foldedSetIterable iter X.e x=pure x:=by intro _;rfl):WB X C0 H0 (.For tg iter body [] pos) (nE j i f):=⟨λB cL s O H Dn I h=>by
 obtain⟨C,U,r,gd,q,k⟩:=h;obtain⟨ds,hf,q⟩:=qI q;have main:∀J C1 H1,Ev C H C1 H1->Wk J ds C1->∃W:Nat->Nat->L2.St->Hp->Prop,(∃m,W 0 m O H1)/\∀i m O H,W i m O H->
   (J.stop i H/\Dn.nx O H)\/(J.go i H/\∃N:L2.St->Hp->Prop,(∀σ' H',N σ' H'->∃m',m'<m/\W (i+1) m' σ' H')/\∀x H',J.R6 i H x H'->GV j x O H' λσ2 H2=>tS C1 C0 H0 f {Dn with nx:=N,ct:=N,bk:=Dn.nx} σ2 H2):=by
  intro J C1 H1 ev wk;have bs:eA B C1:=gd.b.trans ev.c;refine⟨λn m O H=>∃C U,m=ds.length-n/\n<=ds.length/\Gd C1 C0 H0 U O C H/\gL j f (ds.drop n) U=some r,⟨ds.length,C1,U,by simp,bM _,⟨eA.refl _,gd.ev.trans ev,gd.x.ev ev,gd.fr⟩,by simpa using q⟩,?_⟩
  rintro n m σ2 H2 ⟨C2,δ2,rfl,hn,g2,q2⟩
  have w:=wk n C2 H2 g2.b g2.x.sub;by_cases fR:n<ds.length
  .have hd:ds[n]? =some ds[n]:=ah fR;obtain⟨go,yl⟩:=w.1 _ hd;rw[drop_eq_getElem_cons fR]at q2;refine .inr ⟨go,λσ' H'=>∃C' δ',Gd C1 C0 H0 δ' σ' C' H'/\gL j f (ds.drop (n+1)) δ'=some r,λσ' H' ⟨C',δ',g',q'⟩=>⟨ds.length-(n+1),by omega,C',δ',rfl,fR,g',q'⟩,λx H3 y=>?_⟩
   obtain⟨rfl,is⟩:=yl x H3 y;have g3:=g2.wx (i:=j) is;unfold gL at q2;show tS C1 C0 H0 f {Dn with nx:=_,ct:=_,bk:=Dn.nx} (σ2.set j (some x)) _
   cases JY:f (δ2.set j (.d ds[n]))with
   |none=>rw[JY]at q2;cases q2
   |some rb=>
    rw[JY]at q2;refine⟨C2,δ2.set j (.d ds[n]),rb,g3,JY,?_⟩;cases rb with
    |next δ'=>exact λσ' C' H' g'=>⟨C',δ',g',q2⟩
    |cont δ'=>exact λσ' C' H' g'=>⟨C',δ',g',q2⟩
    |brk δ'=>
     cases q2;exact λσ' C' H' g'=>k σ' C' H' ⟨bs.trans g'.b,g'.ev,g'.x,g'.fr⟩
    |ret d=>
     cases q2;exact k
  .have e:n=ds.length:=by omega
   subst e;rw[drop_length]at q2;unfold gL at q2;cases q2;exact .inl ⟨w.2 (av _),k σ2 C2 H2 ⟨bs.trans g2.b,g2.ev,g2.x,g2.fr⟩⟩
 refine Oq (tb:=λV8 σ' H'=>∃C1,tS C1 C0 H0 f V8 σ' H') hp hc hi.go hg (λcL s O H V8 I ⟨C1,h⟩=>hb.go C1 cL s O H V8 I h) hs cL s O H Dn I ?_
 refine⟨C,U,ds,gd.x,hf,λJ C1 H1 ev wk=>?_⟩
 obtain⟨W,w0,st⟩:=main J C1 H1 ev wk;refine⟨W,w0,λi m O H w=>?_⟩
 rcases st i m O H w with z|⟨go,N,hN,hy⟩
 .exact .inl z
 .exact .inr ⟨go,N,hN,λx H' y=>⟨C1,hy x H' y⟩⟩⟩
def mi (j:Nat) (hc:X.calm=true) (S:wu X scope x j) (hi:Y2 X (.Name x px) iter i) (he:∀cl C s H fp,WD (fm X scope cl C s H fp) elt f) (hs:∀v,foldedSetIterable iter X.e v=pure v:=by intro _;rfl):WF X (.ListComp elt [⟨.Name x px,iter,[],0⟩] scope pos) (fq i j kO f):=⟨(Lk hc S.G hi.go (λ_ _ _ _ _=>G4) (λcl C s H fp=>(he cl C s H fp).go) hs).imp (JN Ph)⟩
def jL (j:Nat) (hc:X.calm=true) (S:wu X scope x j) (hi:Y2 X (.Name x px) iter i) (ht:∀cl C s H fp,WQ (fm X scope cl C s H fp) c t) (he:∀cl C s H fp,WD (fm X scope cl C s H fp) elt f) (hs:∀v,foldedSetIterable iter X.e v=pure v:=by intro _;rfl):WF X (.ListComp elt [⟨.Name x px,iter,[c],0⟩] scope pos) (fq i j t f):=⟨(Lk hc S.G hi.go (λcl C s H fp=>G5 ((λcl C s H fp=>(ht cl C s H fp).go) cl C s H fp)) (λcl C s H fp=>(he cl C s H fp).go) hs).imp (JN λ_ _ _ h=>h)⟩
def xM (k j:Nat) (hc:X.calm=true) (S:wu X scope x j) (hi:Y2 X (.Name x px) iter i) (ht:∀cl C s H fp,WQ (fm X scope cl C s H fp) c t) (he:∀cl C s H fp,WD (fm X scope cl C s H fp) elt f) (hN:X.N[k]? =some y:=by rfl) (hy:Loc X.e.scope y:=by first|exact Or.inl rfl|exact Or.inr rfl) (hf:X.fn y=true\/X.e.scope.names.lookup y=some .local:=by first|exact .inl rfl|exact .inr rfl) (YJ:swapsWith (.ListComp elt [⟨.Name x px,iter,[c],0⟩] scope pos) (some (.Name y py)) Fp.line X.e=pure true:=by rfl) (hs:∀v,foldedSetIterable iter X.e v=pure v:=by intro _;rfl):WB X C0 H0 (.Assign [.Name y py] (.ListComp elt [⟨.Name x px,iter,[c],0⟩] scope pos) Fp) (mw k (fq i j t f)):=⟨λB=>
 (Bz hc S hi.go (λcl C s H fp=>G5 ((λcl C s H fp=>(ht cl C s H fp).go) cl C s H fp)) (λcl C s H fp=>(he cl C s H fp).go) hN hy hf YJ hs).imp (Pf (JN λ_ _ _ h=>h))⟩
variable [μ]
section
variable {o:cG}
def rY (ha:WO X a f) (hb:WO X b g) (hs:vd b):WD X (.Subscript a b pos) (dB fX f g):=⟨YN VO YS ha.go hb.go hs⟩
def dY {i:Int}{j:Nat}{p:Pos}(ha:WO X a f):WD X (.Subscript a (.Constant (.int i) j p) pos) (dB fX f (dC (.int i))):=rY ha (WD.o dH) (λ_ _=>rfl)
def V9 (ha:WO X a f):WD X (.UnaryOp .USub a pos) (JQ f):=⟨(Us Ou ha.go).imp λO H Q ⟨C,U,d,x,q,k⟩=>by
 unfold JQ at q;split at q
 .rename_i i hf;cases q;exact⟨C,U,_,x,hf,λv C' H' ev i'=>⟨i,i'.int,k _ C' H' ev (.int _)⟩⟩
 .cases q⟩
def PJ {op Xk:CmpOp}{o o':D->D->Option D}(c1:xx X op o) (c2:xx X Xk o') (ha:WO X a f) (hb:WO X b g) (hc:WO X c h) (hm:lastMarks [op,Xk] [b,c]=false:=by with_unfolding_all rfl):WD X (.Compare a [op,Xk] [b,c] pos) (Fs o o' f g h):=⟨by
 have ha:=ha.go;have hb:=hb.go;have hc:=hc.go;obtain⟨r,h1,h2⟩:=c1;obtain⟨r',h3,h4⟩:=c2;exact(Oy h1 h3 ha hb hc hm).imp (Po h2 h4)⟩
end
variable [μ]
section
variable {o:cG}{p:Pos}
def PK {lo hi:Option cG}{fl fh:fW->Option (Option Int)}(he:WO X e f) (hl:WP X lo fl) (hh:WP X hi fh):WF X (.Subscript e (.Slice lo hi none p2) pos) (Na f fl fh):=⟨(GZ Sy he.go hl.go hh.go).imp λO H Q ⟨C,U,ds,x,q,k⟩=>by
 unfold Na at q;split at q
 .rename_i es hf;obtain⟨l,h1,q⟩:=qI q;obtain⟨u,h2,rfl⟩:=yN q;refine⟨C,U,_,x,hf,λv C1 H1 e1 i1=>⟨C1,U,l,x.ev e1,h1,λC2 H2 e2=>⟨C2,U,u,x.ev (e1.trans e2),h2,λC3 H3 e3=>?_⟩⟩⟩
  obtain⟨p,xs,rfl,hq,ll⟩:=((i1.ev e2).ev e3).list (K:=X.K) e3.s;have ev:=(e1.trans e2).trans e3;exact⟨p,xs,rfl,hq,λt ht=>k t _ C3 _ (ev.trans (.ig e3.s ht)) (ev.free ht) (e3.s.free ht) dk (ll.cut l u)⟩
 .cases q⟩
def qf (kit:Lv T) (bt:bootBuiltins x=some (.type T)) (ha:WO X a f) (hg:Gl X "isinstance") (hm:X.mg "isinstance"=none) (hgT:Gl X x) (hmT:X.mg x=none) (hn:x≠"__name__":=by decide) (hd:AD x:=by decide) (he:starEach [a,.Name x p2] X.e=(false,eval a X.e)::starEach [.Name x p2] X.e:=by exact gu rfl) (he2:cK (.Name x p2) [] X.e:=by exact gu rfl) (oj:(backTo pos (starEach [.Name x p2] X.e)).any (·.1)=false:=by exact hW rfl):WD X (.Call (.Name "isinstance" p) [a,.Name x p2] [] pos) (wz T f):=⟨(Bm (Pu T) hg hm Dz (kr ha.go (kr (R5 (v:=.ty T) hgT hmT bt rfl hn hd) wq he2) he) (by decide) (by decide) he oj).imp λO H Q ⟨C,U,d,x,q,k⟩=>by
  obtain⟨dx,hf,rfl⟩:=yN q;exact⟨C,U,dx,x,hf,λv C' H' ev i=>⟨v,_,_,rfl,V3 ev.s i,kit X.K dx,k _ C' H' ev (.bl _)⟩⟩⟩
def FJ {f:bZ}{p' pos':Pos}(hc:X.calm=true) (hg:Gl X "list") (hm:X.mg "list"=none) (hg':Gl X "range") (SV:X.mg "range"=none) (ha:LC X [a] f) (hs:starEach [a] X.e=[(false,eval a X.e)]:=by exact gu rfl) (he:starEach [.Call (.Name "range" p') [a] [] pos'] X.e=(false,eval (.Call (.Name "range" p') [a] [] pos') X.e)::starEach [] X.e:=by exact gu rfl) (oj:A4 pos [] X.e:=by exact hW rfl):WF X (.Call (.Name "list" p) [.Call (.Name "range" p') [a] [] pos'] [] pos) (Dg f):=⟨(Eg (DB hc) hg hm SR (kr (Nc hg' SV ha.go hs) wq he) (by decide) (by decide) he oj).imp λO H Q ⟨C,U,ds,x,q,k⟩=>by
  unfold Dg at q;split at q
  .rename_i j hf;obtain⟨hj,q⟩:=nq q;cases q;refine⟨C,U,_,x,hf,λvs C' H' ev i=>?_⟩
   cases i with
   |cons i1 i2=>
    cases i2;cases i1;refine⟨j,rfl,λt ht=>⟨t,j,rfl,dk,hj.1,hj.2,λl hl=>?_⟩⟩
    have e1:=Ev.ig (o:=HO.Uk 0 j) ev.s ht;exact k l _ C' _ ((ev.trans e1).trans (.ig e1.s hl)) (ev.free (e1.free hl)) (ev.s.free (e1.free hl)) dk (.ints _)
  .cases q⟩
end
variable [μ]
def JZ (is:List Nat) {kt:Nat}{t5:Pos}(hc:X.calm=true) (he:WD X e f) (hg:Vs X es (Hj is)) (hn:(assignEach es X.e).length=is.length:=by rfl) (uf:(assignEach es X.e).findIdx? (·.1)=none:=by rfl) (hs:swapsWithSole [.Tuple es kt t5] e pos.line X.e=pure false:=by rfl) (hw:swappedStores [.Tuple es kt t5] e X.e=pure none:=by rfl) (h1:(assignEach [.Tuple es kt t5] X.e).map (·.2)=[assign (.Tuple es kt t5) X.e]:=by rfl):WB X C0 H0 (.Assign [.Tuple es kt t5] e pos) (Hk is f):=⟨λB=>(Jl he.go (Oi hc hg hn uf) hs hw h1).imp λDn O H ⟨C,U,r,gd,q,k⟩=>by
 unfold Hk at q;split at q
 .rename_i ds hf;obtain⟨hl,q⟩:=nq q;cases q;refine⟨C,U,_,gd.x,hf,λv C' H' ev i=>?_⟩
  cases i with
  |t hr l=>exact⟨_,_,rfl,lr.of (ev.s _ _ hr),by rw[l.length];exact hl,Pz is l hl (gd.A7 ev) λσ' g'=>k σ' C' H' g'⟩
 .cases q⟩
def PL (ho:PE X o (lu i)) (he:WD X e f) (xN:cK e [] X.e:=by exact gu rfl) (Bq:attributeBase o "append" X.e (eval o X.e)=eval o X.e:=by rfl) (JA:((backTo pos (starEach [e] X.e)).all (λx=> !x.1)&&(backToKw pos (keywordEach [] X.e)).all (λx=>x.1.isSome)
   &&decide ([e].length+([]:List Keyword).length+(if([]:List Keyword).isEmpty then 0 else 1)<30))=true:=by exact VZ rfl) (Br:(apos.endLine==pos.line)=true:=by rfl) (wt:A4 pos [] X.e:=by exact hW rfl) (hs:swapsWith (.Call (.Attribute o "append" apos) [e] [] pos) none pos'.line X.e=pure false:=by rfl):WB X C0 H0 (.Expr (.Call (.Attribute o "append" apos) [e] [] pos) pos') (JL i f):=⟨M9 (qJ he.go xA xN) ho (λ_ _ _ h=>h) (OO PySem.F.plainAttrs_list PySem.F.slot_list_append PySem.F.type_list_append Ei ho (qJ he.go xA xN) Bq JA Br xN wt) hs⟩
def SW (k j m:Nat) (hc:X.calm=true) (hmj:m≠j) (S:wu X scope x j) (hi:Ae X (.Name x px) iter i) (ho:∀cl C s H fp,PE (fm X scope cl C s H fp) o (lu m)) (he:∀cl C s H fp,WD (fm X scope cl C s H fp) e f) (xN:∀cl C s H fp,starEach [e] (fm X scope cl C s H fp).e=(false,eval e (fm X scope cl C s H fp).e)::starEach [] (fm X scope cl C s H fp).e:=by intros;exact gu rfl) (Bq:∀cl C s H fp,attributeBase o "pop" (fm X scope cl C s H fp).e (eval o (fm X scope cl C s H fp).e)=eval o (fm X scope cl C s H fp).e:=by intros;rfl) (JA:∀cl C s H fp,((backTo i7 (starEach [e] (fm X scope cl C s H fp).e)).all (λx=> !x.1)&&(backToKw i7 (keywordEach [] (fm X scope cl C s H fp).e)).all (λx=>x.1.isSome)
   &&decide ([e].length+([]:List Keyword).length+(if([]:List Keyword).isEmpty then 0 else 1)<30))=true:=by intros;exact VZ rfl) (Br:(apos.endLine==i7.line)=true:=by rfl) (wt:∀cl C s H fp,A4 i7 [] (fm X scope cl C s H fp).e:=by intros;rfl) (hN:X.N[k]? =some y:=by rfl) (hy:Loc X.e.scope y:=by first|exact Or.inl rfl|exact Or.inr rfl) (hf:X.fn y=true\/X.e.scope.names.lookup y=some .local:=by first|exact .inl rfl|exact .inr rfl) (YJ:swapsWith (.ListComp (.Call (.Attribute o "pop" apos) [e] [] i7) [⟨.Name x px,iter,[],0⟩] scope pos) (some (.Name y py)) Fp.line X.e=pure true:=by rfl) (hs:∀v,foldedSetIterable iter X.e v=pure v:=by intro _;rfl):WB X C0 H0 (.Assign [.Name y py] (.ListComp (.Call (.Attribute o "pop" apos) [e] [] i7) [⟨.Name x px,iter,[],0⟩] scope pos) Fp) (Hl k j m i f):=⟨λB=>
 (Bz hc S hi.go (λ_ _ _ _ _=>G4) (λcl C s H fp=>OO PySem.F.plainAttrs_list PySem.F.slot_list_pop PySem.F.type_list_pop OR (ho cl C s H fp) (qJ ((λcl C s H fp=>(he cl C s H fp).go) cl C s H fp) xA (xN cl C s H fp)) (Bq cl C s H fp) (JA cl C s H fp) Br (xN cl C s H fp) (wt cl C s H fp)) hN hy hf YJ hs).imp (PH hmj Ph)⟩
def dc (c:Cal X.γ X.w X.K X.mg X.Zc k x g) (hr:gc k X.A) (ha:LC X (e::es) fa) (hg:Gl X x:=by rfl) (yT:AD x:=by decide) (he:cK e es X.e:=by exact gu rfl) (oj:A4 pos es X.e:=by exact hW rfl):WD X (.Call (.Name x p) (e::es) [] pos) (cV g fa):=⟨by
 have ha:=ha.go;obtain⟨f,fd,ps,F,hm,hk,hb⟩:=c;exact SN F hr hg hm hk hb ha yT he oj⟩
end DL
namespace DL
open L2
variable [μ]
noncomputable def J0:D->Option Bool
 |.eZ=>some false
 |.bl b=>some b
 |.int i=>some (i !=0)
 |.str z=>if z.length<=1000000 then some ((z.length:Int)!=0)else none
 |.t ds=>some (!ds.isEmpty)
 |.l ds=>some (!ds.isEmpty)
def qT (f:cc):cf:=λU=>(f U).bind J0
theorem τ.isEmpty (l:τ C xs ds):xs.isEmpty=ds.isEmpty:=by cases l<;>rfl
def SX {K:W.Frag}{C H:Hp}{v:V}{d:D}{b:Bool}(s:eA C H) (i:vf C H v d) (h:J0 d=some b):VC K v H b:=by
 cases d with
 |eZ=>cases h;have:=i.is (λ_ z=>by cases z);cases this;rfl
 |bl c=>cases h;have:=i.is (λ_ z=>by cases z);cases this;rfl
 |int c=>cases h;have:=i.is (λ_ z=>by cases z);cases this;rfl
 |str z=>
  simp only[J0]at h;obtain⟨hz,h⟩:=nq h;cases h;have:=i.is (λ_ z=>by cases z);cases this
  exact⟨aE hz (by decide),rfl⟩
 |t ds=>
  cases h;obtain⟨a,xs,rfl,hq,l,_⟩:=i.t (K:=K) s;exact .inr (.inl ⟨xs,hq,by rw[l.isEmpty]⟩)
 |l ds=>
  cases h;obtain⟨a,xs,rfl,hq,l⟩:=i.list (K:=K) s;exact .inl ⟨xs,hq,by rw[l.isEmpty]⟩
section
variable {X:Cx}{a b:cG}{p2:Pos}{h:cc}
def PM:xl X (binaryOp .Add) (λx y H Q=>∃a b ys,x=.ref a/\y=.ref b/\lr X.K H a []/\lr X.K H b ys/\Q (.ref b) H):=by
 intro cL s O H x y v u Q I rx ry h;obtain⟨a,b,ys,rfl,rfl,ha,hb,q⟩:=h;cases rx;cases ry;obtain⟨dE,r1,p1,_⟩:=I.tuple ha;obtain⟨qb,r2,p2,_⟩:=I.tuple hb;have e0:dE=[]:=by cases r1;rfl
 obtain⟨⟨cls,dd,data,sl⟩,ho,hc,n,hd⟩:=id p1;obtain⟨⟨VH,RT,data2,RU⟩,Bp,xn,n2,hd2⟩:=id p2;simp only at hc hd xn hd2;subst hc hd xn hd2;exact concat_meets ⟨_,ho,rfl⟩ ⟨_,Bp,rfl⟩ noFill_tuple_add seq_tuple_add PySem.F.slot_tuple_add PySem.F.entry_tuple_add (PySem.F.args_tuple_add_2 _ _)
   (tuple_addW0 a b dE.toArray qb.toArray n n2 dd RT sl RU (by simp[e0])) ⟨ho,Bp,⟨.ref b,H,I,rfl,q⟩⟩
noncomputable def j6:D->D->Option D
 |.t a,.t b=>if a.length+b.length<=1000000 then some (.t (a++b))else none
 |_,_=>none
def SY:RW (λx y H Q=>(∃a b ys,x=.ref a/\y=.ref b/\lr X.K H a []/\lr X.K H b ys/\Q (.ref b) H)\/Ux X.K x y H Q) j6:=λC H x y dx dy d Q s ix iy q k=>by
 unfold j6 at q;split at q
 .rename_i ds es;obtain⟨hz,q⟩:=nq q;cases q;obtain⟨a,xs,rfl,hq,l,hc⟩:=ix.t (K:=X.K) s;obtain⟨b,ys,rfl,hq2,l2,xn⟩:=iy.t (K:=X.K) s;cases ds with
  |nil=>
   cases l;exact .inl ⟨a,b,ys,rfl,rfl,hq,hq2,k _ C H (.refl s) (.t xn l2)⟩
  |cons d0 ds=>
   refine .inr ⟨a,b,xs,ys,rfl,rfl,hq,hq2,(λz=>by rw[z]at l;cases l),by rw[l.length,l2.length];exact aE hz (by decide),λz=>?_,λz t ht=>?_⟩
   .subst z;cases l2;exact k _ C H (.refl s) (.t hc (by rw[bD];exact l))
   .exact k _ _ _ (.new s ht) (.t dk ((l.append l2).mono (fj (s.free ht))))
 .cases q
def τ.Wa {C:Hp}{xs:List V}{ds:cw}(l:τ C xs ds) {lo hi:Option Int}(h:HT.i6 xs.length 0 lo=0/\HT.i6 xs.length xs.length hi=xs.length):τ C xs (t7 ds lo hi):=by
 unfold t7;rw[<-l.length,h.1,h.2,drop_zero,Nat.sub_zero,l.length,take_length];exact l
end
end DL
namespace DL
open L2
instance:DecidableEq D:=Classical.typeDecidableEq D
mutual
inductive KI (h:Heap):cy->D->Prop where
 |int (n:Int) (t:Tok):KI h (.int n t) (.int n)
 |t {a:cF}{o:Obj}{items:Array cy}{n:Nat}{ds:cw}:h.get? a=some o->o.cls=.type "tuple"->o.data=.seq items n->wG h items.toList ds->KI h (.ref a) (.t ds)
inductive wG (h:Heap):cx->cw->Prop where
 |nil:wG h [] []
 |cons {v:cy}{d:D}{vs:cx}{ds:cw}:KI h v d->wG h vs ds->wG h (v::vs) (d::ds)
end
theorem wG.length:∀{vs:cx}{ds:cw},wG h vs ds->vs.length=ds.length
 |_,_,.nil=>rfl
 |_,_,.cons _ t=>congrArg (·+1) t.length
theorem wG.get {h:Heap}:∀{vs:cx}{ds:cw}{i:Nat}{v:cy},wG h vs ds->vs[i]? =some v->∃d,ds[i]? =some d/\KI h v d
 |_,_,_,_,.nil,e=>by simp at e
 |_,_,0,_,.cons h _,e=>⟨_,rfl,by simp only[aN,Option.some.injEq]at e;subst e;exact h⟩
 |_,_,i+1,_,.cons _ t,e=>by
  obtain⟨d,h1,h2⟩:=t.get (i:=i) (by simpa using e)
  exact⟨d,by simpa using h1,h2⟩
mutual
theorem KI.inj {h:Heap}:∀{v:cy}{d e:D},KI h v d->KI h v e->d=e
 |_,_,_,.int n t,q=>by cases q;rfl
 |_,_,_,.t h1 h2 h3 l,q=>by
  cases q with
  |t JI M5 O8 l'=>
   rw[h1]at JI;cases JI;rw[h3]at O8;injection O8 with e1 _;subst e1
   rw[l.inj l']
theorem wG.inj {h:Heap}:∀{vs:cx}{ds es:cw},wG h vs ds->wG h vs es->ds=es
 |_,_,_,.nil,q=>by cases q;rfl
 |_,_,_,.cons h t,q=>by cases q with|cons h' t'=>rw[h.inj h',t.inj t']
end
mutual
theorem KI.keeps {h h':Heap}{x:cF}{ox:Obj}{es:Array DictEntry}{ep:Nat}(ho:h.get? x=some ox) (hd:ox.data=.dict es ep) (hs:Heap.SameBut x h h'):∀{v:cy}{d:D},KI h v d->KI h' v d
 |_,_,.int n t=>.int n t
 |_,_,@KI.t _ a o items n ds h1 h2 h3 l=>by
  have jI:a≠x:=by
   rintro rfl
   rw[ho]at h1;cases h1;rw[hd]at h3;exact nomatch h3
  exact .t ((hs.2 a jI).trans h1) h2 h3 (wG.keeps ho hd hs l)
theorem wG.keeps {h h':Heap}{x:cF}{ox:Obj}{es:Array DictEntry}{ep:Nat}(ho:h.get? x=some ox) (hd:ox.data=.dict es ep) (hs:Heap.SameBut x h h'):∀{vs:cx}{ds:cw},wG h vs ds->wG h' vs ds
 |_,_,.nil=>.nil
 |_,_,.cons h t=>.cons (KI.keeps ho hd hs h) (wG.keeps ho hd hs t)
end
mutual
noncomputable def fI:D->Int
 |.int n=>hashInt n
 |.t ds=>reduceHash (Builtin.Tuple.tupleHashOf (oA ds))
 |_=>0
noncomputable def oA:cw->cq
 |[]=>[]
 |d::ds=>fI d::oA ds
end
mutual
noncomputable def BO:D->Nat
 |.t ds=>tH ds+1
 |_=>1
noncomputable def tH:cw->Nat
 |[]=>0
 |d::ds=>BO d+tH ds
end
theorem rZ:∀a b:cw,oA (a++b)=oA a++oA b
 |[],b=>by simp[oA]
 |x::a,b=>by simp[oA,rZ a b]
theorem r9:∀a b:cw,tH (a++b)=tH a+tH b
 |[],b=>by simp[tH]
 |x::a,b=>by simp[tH,r9 a b,Nat.add_assoc]
section
variable {γ:cB}{w:cC}{E:cj}
def KI.hash (n:Nat):∀(A:cD) (s:cz) (v:cy) (d:D) (Q:Int->cz->Prop),eN d<=n->A.units+n<cLine->KI s.heap v d->Q (fI d) {s with toks:=s.toks+BO d}->jH γ w A (pyHash v) Q E s:=by
 induction n with
 |zero=>
  intro A s v d Q hn hu k h;cases k with
  |int i t=>
   unfold fI BO at h;exact wpAny_pyHash_int h
  |t h1 h2 h3 l=>unfold eN at hn;omega
 |succ n ih=>
  intro A s v d Q hn hu k h;cases k with
  |int i t=>
   unfold fI BO at h;exact wpAny_pyHash_int h
  |@t a o items m ds ho hc hd l=>
   have hT:s.TypeIs (.ref a) "tuple":=⟨o,ho,hc⟩;have E7:jj ds<=n:=by unfold eN at hn;omega
   unfold fI BO at h;unfold pyHash
   first|unfold pyHashByItsType|skip
   first|refine aa (wpAny_cRoomFor_or (.inr (by omega)) ?_)|skip
   refine aa (wpAny_specialOf hT F.slot_tuple_hash.lookup ?_);show wpAny _ _ (if(some (Value.builtin "tuple.__hash__")==some Value.none)=true then _ else _) Q E s
   rw[if_neg (by rw[beq_builtin_none];exact bc)]
   refine aa (wpAny_specialOf hT F.slot_tuple_hash.lookup ?_);show wpAny _ _ (callSpecialIfBoundUnlessNone? (.ref a) "__hash__" _>>=_) Q E s;refine aa (wpAny_callSpecialIfBoundUnlessNone?_slot hT F.slot_tuple_hash (bN F.slot_tuple_hash hT F.entry_tuple_hash ?_ (F.args_tuple_hash_1 _)));show wpAny _ _ (Builtin.Tuple.tupleItemsOf (.ref a)>>=_) _ _ s;refine aa (wpAny_tupleItemsOf ho hd ?_);refine aa ?_;rw[<-Array.forIn_toList];refine wpAny_forIn_list _
    (λrest (b:Array Int) s'=>∃done left,ds=done++left/\wG s.heap rest left/\b.toList=oA done/\s'={s with toks:=s.toks+tH done})
    _ ?_ ?_ _ _ ⟨[],ds,rfl,l,by simp[oA],by simp[tH]⟩
   .rintro x rest b s' ⟨done,left,rfl,hl,hb,rfl⟩
    cases hl with
    |@cons _ k _ Xv h1 lq=>
     have hk:eN k<=n:=aE (my (aM _ af)) E7;refine aa (ih _ {s with toks:=s.toks+tH done} x k _ hk ?_ h1 ?_)
     .show A.units+1+n<cLine;omega
     .first
       |exact ak ⟨done++[k],Xv,by simp,lq,by simp[hb,rZ,oA],by simp[Nat.add_assoc,r9,tH]⟩
       |exact aa (ak (ak ⟨done++[k],Xv,by simp,lq,by simp[hb,rZ,oA],by simp[Nat.add_assoc,r9,tH]⟩))
   .rintro b s' ⟨done,left,rfl,hl,hb,rfl⟩
    cases hl;rw[bD]at h;show wpAny _ _ (retInt (Builtin.Tuple.tupleHashOf b.toList)) _ _ _;rw[hb];refine wpAny_ret_mkInt ?_;show wpAny _ _ (if(decide (-(2:Int)^63<=Builtin.Tuple.tupleHashOf (oA done))&&decide (Builtin.Tuple.tupleHashOf (oA done)<2^63))=true then _ else _) Q E _
    unfold reduceHash at h;by_cases hr:(decide (-(2:Int)^63<=Builtin.Tuple.tupleHashOf (oA done))&&decide (Builtin.Tuple.tupleHashOf (oA done)<2^63))=true
    .rw[if_pos hr];rw[if_pos hr]at h;exact ak (by simpa [Nat.add_assoc]using h)
    .rw[if_neg hr];rw[if_neg hr]at h;exact aa (wpAny_rule (ak (by simpa [Nat.add_assoc]using h)))
def KI.eq (n:Nat):∀(A:cD) (s:cz) (u v:cy) (d e:D),eN d<=n->A.units+n<cLine->KI s.heap u d->KI s.heap v e->SeqAt.EqAt A s u v (jK d e):=by
 induction n with
 |zero=>
  intro A s u v d e hn hu ku kv;have Lu:A.units<cLine:=by omega
  cases ku with
  |int i t=>
   cases kv with
   |int j t'=>unfold jK;exact SeqAt.EqAt.int_int i t j t'
   |@t b o2 iP n2 es Bp xn hd2 l2=>unfold jK;exact SeqAt.EqAt.int_tuple i t (items:=iP) ⟨o2,Bp,xn,n2,hd2⟩ Lu
  |t h1 h2 h3 l=>unfold eN at hn;omega
 |succ n ih=>
  intro A s u v d e hn hu ku kv;have Lu:A.units<cLine:=by omega
  cases ku with
  |int i t=>
   cases kv with
   |int j t'=>unfold jK;exact SeqAt.EqAt.int_int i t j t'
   |@t b o2 iP n2 es Bp xn hd2 l2=>unfold jK;exact SeqAt.EqAt.int_tuple i t (items:=iP) ⟨o2,Bp,xn,n2,hd2⟩ Lu
  |@t a o items m ds ho hc hd l=>
   have E7:jj ds<=n:=by unfold eN at hn;omega
   have p1:IsTup s.heap a items:=⟨o,ho,hc,m,hd⟩;cases kv with
   |int j t'=>unfold jK;exact SeqAt.EqAt.tuple_int j t' p1 Lu
   |@t b o2 iP n2 es Bp xn hd2 l2=>
    have p2:IsTup s.heap b iP:=⟨o2,Bp,xn,n2,hd2⟩;by_cases SQ:a=b
    .subst SQ;have e:=KI.inj (KI.t ho hc hd l) (KI.t Bp xn hd2 l2);rw[<-e,xC];exact SeqAt.EqAt.same _
    .have hits:∀j (h1:j<items.size) (h2:j<iP.size),SeqAt.EqAt A.in1 s items[j] iP[j] (jK (ds.getD j .eZ) (es.getD j .eZ)):=λj h1 h2=>by
      obtain⟨d1,e1,i1⟩:=l.get (i:=j) (v:=items[j]) (by simp[h1])
      obtain⟨d2,e2,i2⟩:=l2.get (i:=j) (v:=iP[j]) (by simp[h2])
      rw[ao,ao,e1,e2];exact ih A.in1 s _ _ d1 d2 (aE (my (bj e1)) E7) (by show A.units+1+n<cLine;omega) i1 i2
     have q:=SeqAt.RcAt.tuples p1 p2 Lu hits;have z1:items.size=ds.length:=by rw[<-aO,l.length]
     have z2:iP.size=es.length:=by rw[<-aO,l2.length]
     unfold jK;rw[qK];rw[z1,z2]at q;exact SeqAt.EqAt.of_refs SQ q
mutual
theorem KI.jK {h h':Heap}:∀{u v:cy}{d e:D},KI h u d->KI h' v e->jK d e=decide (d=e)
 |_,_,_,_,.int i t,q=>by cases q<;>(unfold DL.jK;simp);rfl
 |_,_,_,_,.t _ _ _ l,q=>by
  cases q with
  |int _ _=>unfold DL.jK;simp
  |t _ _ _ l'=>unfold DL.jK;rw[wG.kP l l'];simp
theorem wG.kP {h h':Heap}:∀{us vs:cx}{ds es:cw},wG h us ds->wG h' vs es->kP ds es=decide (ds=es)
 |_,_,_,_,.nil,q=>by cases q<;>(unfold DL.kP;simp)
 |_,_,_,_,.cons a b,q=>by
  cases q with
  |nil=>unfold DL.kP;simp
  |cons a' b'=>unfold DL.kP;rw[KI.jK a a',wG.kP b b'];simp[Bool.decide_and]
end
def KI.quiet (n:Nat):∀(A:cD) (s:cz) (u:cy) (d:D) (Q:Bool->cz->Prop),eN d<=n->KI s.heap u d->Q true s->jH γ w A (eqIsQuiet n u) Q E s:=by
 induction n with
 |zero=>
  intro A s u d Q hn k h;cases k with
  |int i t=>rw[eqIsQuiet_byValue _ rfl];exact ak h
  |t h1 h2 h3 l=>unfold eN at hn;omega
 |succ n ih=>
  intro A s u d Q hn k h;cases k with
  |int i t=>rw[eqIsQuiet_byValue _ rfl];exact ak h
  |@t a o items m ds ho hc hd l=>
   have hT:s.TypeIs (.ref a) "tuple":=⟨o,ho,hc⟩;have E7:jj ds<=n:=by unfold eN at hn;omega
   unfold eqIsQuiet;refine aa (wpAny_specialOf hT F.slot_tuple_eq.lookup ?_);show wpAny _ _ (isInstance (.ref a) (.type "tuple")>>=_) _ _ s;refine aa (wpAny_isInstance hT isSubtype_tuple_tuple ?_);simp only[bU,aJ,bF];refine aa (wpAny_seqItems ho hd ?_);refine aa ?_;show wpAny _ _ (forIn items _ _) _ _ s;rw[<-Array.forIn_toList];refine wpAny_forIn_list _ (λrest r s'=>r.1=none/\s'=s/\∃es,(∀e∈es,eN e<=n)/\wG s.heap rest es) _ ?_ ?_ _ _ ⟨rfl,rfl,ds,λe he=>aE (my he) E7,l⟩
   .rintro v rest r s' ⟨hr,rfl,es,he,hk⟩
    cases hk with
    |cons k1 k2=>
     refine aa (ih A s' v _ _ (he _ af) k1 ?_);simp only[bU,aJ,bF];exact ak ⟨rfl,rfl,_,λe h=>he e (aj _ h),k2⟩
   .rintro⟨r1,r2⟩ s' ⟨hr,rfl,_⟩
    simp only at hr;subst hr;exact ak h
end
def nJ (γ:cB) (w:cC):HeapKind γ w D where
 is:=λh d a=>KI h (.ref a) d/\eN d<=4
 hash:=fI
 draws:=BO
 room:=λA=>A.units+8<cLine
 inj:=λhx hy=>hx.1.inj hy.1
 keeps:=λx ho hd hs=>⟨x.1.keeps ho hd hs,x.2⟩
 pyHash:=λhu hk h=>KI.hash 4 _ _ _ _ _ hk.2 (by omega) hk.1 h
 eqBool:=λhu hx hy h=>KI.eq 4 _ _ _ _ _ _ hx.2 (by omega) hx.1 hy.1 _ _ _ _ (by rw[KI.jK hx.1 hy.1];exact h)
 quiet:=λhk h=>KI.quiet 8 _ _ _ _ _ (aE hk.2 (by decide)) hk.1 h
mutual
noncomputable def qg:D->Bool
 |.int _=>true
 |.t ds=>pK ds
 |_=>false
noncomputable def pK:cw->Bool
 |[]=>true
 |d::ds=>qg d&&pK ds
end
section
variable {X:Cx}{cL:cn}{O:L2.St}{C H:Hp}{s:cz}
mutual
theorem Is.ki (I:η X cL O H s) (sub:eA C H):∀(d:D) {v:V}{u:cy},qg d=true->Is C v d->ι v u->KI s.heap u d
 |.int i,_,_,_,is,ru=>by
  cases is;obtain⟨t,rfl⟩:=ru;exact .int i t
 |.t ds,_,_,hk,is,ru=>by
  cases is with
  |t h l=>
   cases ru;obtain⟨dE,r,⟨o,ho,hc,n,hd⟩,_⟩:=I.tuple (lr.of (K:=X.K) (sub _ _ h));unfold qg at hk;exact .t ho hc hd (by have:=τ.kis I sub ds hk l r;simpa using this)
 |.eZ,_,_,hk,_,_=>by unfold qg at hk;cases hk
 |.bl _,_,_,hk,_,_=>by unfold qg at hk;cases hk
 |.str _,_,_,hk,_,_=>by unfold qg at hk;cases hk
 |.l _,_,_,hk,_,_=>by unfold qg at hk;cases hk
theorem τ.kis (I:η X cL O H s) (sub:eA C H):∀(ds:cw) {vs:List V}{us:cx},pK ds=true->τ C vs ds->θ vs us->wG s.heap us ds
 |[],_,_,_,l,r=>by
  cases l;cases r;exact .nil
 |d::ds,_,_,hk,l,r=>by
  cases l with
  |cons h t=>
   cases r with
   |cons r rs=>
    unfold pK at hk;rw[Bool.and_eq_true]at hk;exact .cons (Is.ki I sub d hk.1 h r) (τ.kis I sub ds hk.2 t rs)
end
end
structure fi where
 W:D->Option D
 enc:D->Nat
 N:Nat
 hN:N<=16777216
 lt:∀k d,W k=some d->enc k<N
 inj:∀k k' d d',W k=some d->W k'=some d'->enc k=enc k'->k=k'
 key:∀k d,W k=some d->qg k=true/\eN k<=4
def lS (a:cF) (xs:List (D×cF×cy)):Heap->Prop:=λh=>∃o es ep,h.get? a=some o/\o.ExactDict/\o.data=.dict es ep/\es.toList=xs.map (λx=>(⟨fI x.1,.ref x.2.1,x.2.2⟩:DictEntry))/\(xs.map (·.1)).Nodup
structure eR (a:cF) (M:fi) (C H:Hp) (xs:List (D×cF×cy)):Prop where
 h:H a=some (.ext (lS a xs))
 c:C a=none
 sm:(a==sysModules)=false
 nd:(xs.map (·.1)).Nodup
 ent:∀x∈xs,Is C (.ref x.2.1) x.1/\∃v d,ι v x.2.2/\Is C v d/\M.W x.1=some d
theorem Ew:∀(N:Nat) (l:List Nat),l.Nodup->(∀x∈l,x<N)->l.length<=N
 |0,l,_,h=>by
  cases l with
  |nil=>exact av _
  |cons a r=>exact absurd (h a af) (Nat.not_lt_zero _)
 |N+1,l,nd,h=>by
  have h1:=Ew N (l.erase N) (nd.erase N) (λx hx=>by
   have:=(nd.mem_erase_iff.mp hx);have:=h x this.2;omega)
  have h2:l.length<=(l.erase N).length+1:=by
   rw[length_erase];split<;>omega
  omega
def eR.len (m:eR a M C H xs):xs.length<=M.N:=by
 have h:=Ew M.N (xs.map λx=>M.enc x.1) ?_ ?_
 .simpa using h
 .have nd:=m.nd;rw[List.Nodup,pairwise_map]at nd ⊢;refine List.Pairwise.imp_of_mem (λ{x y} hx hy jI he=>?_) nd
  obtain⟨_,v,d,_,_,w1⟩:=m.ent x hx;obtain⟨_,v',d',_,_,w2⟩:=m.ent y hy;exact jI (M.inj _ _ _ _ w1 w2 he)
 .intro n hn;obtain⟨x,hx,rfl⟩:=mem_map.mp hn;obtain⟨_,v,d,_,_,w1⟩:=m.ent x hx;exact M.lt _ _ w1
section
variable {a:cF}{M:fi}{C H C' H':Hp}{xs:List (D×cF×cy)}
theorem eR.Xw (m:eR a M C H xs) (e:pF C H C' H'):eR a M C' H' xs where
 h:=e.h _ _ m.h
 c:=by
  cases q:C' a with
  |none=>rfl
  |some u=>
   rcases e.n a u q with z|z
   .rw[m.c]at z;cases z
   .rw[m.h]at z;cases z
 sm:=m.sm
 nd:=m.nd
 ent:=λx hx=>let ⟨h1,v,d,h2,h3,h4⟩:=m.ent x hx;⟨h1.mono e.c,v,d,h2,h3.mono e.c,h4⟩
theorem eR.DC (m:eR a M C H xs) {b:cF}{o:HO}(hb:b≠a):eR a M C (ν H b o) xs where
 h:=by rw[de (Ne.symm hb)];exact m.h
 c:=m.c
 sm:=m.sm
 nd:=m.nd
 ent:=m.ent
theorem eR.DD (m:eR a M C H xs) {b:cF}{o:HO}(hb:b≠a) (hc:C b=none):eR a M (ν C b o) H xs where
 h:=m.h
 c:=by rw[de (Ne.symm hb)];exact m.c
 sm:=m.sm
 nd:=m.nd
 ent:=λx hx=>let ⟨h1,v,d,h2,h3,h4⟩:=m.ent x hx;⟨h1.mono (fj hc),v,d,h2,h3.mono (fj hc),h4⟩
theorem eR.ne (m:eR a M C H xs) (h:∀u,H b=some u->Jh u=false):b≠a:=λz=>by
 subst z;have:=h _ m.h;cases this
theorem eR.UG (m:eR a M C H xs) {b:cF}(h:H b=none):b≠a:=λz=>by
 subst z;rw[m.h]at h;cases h
end
@[reducible] noncomputable def eM (a:cF) (M:fi):μ where
 cell:=some a
 face:=some a
 ok:=λC H=>∃xs,eR a M C H xs
 has:=λC H k=>∃xs,eR a M C H xs/\k∈xs.map (·.1)
 rel:=λC H C' H'=>((∃xs,eR a M C H xs)->∃xs,eR a M C' H' xs)/\∀k,(∃xs,eR a M C H xs/\k∈xs.map (·.1))->∃xs,eR a M C' H' xs/\k∈xs.map (·.1)
 of0:=λe=>⟨λ⟨xs,m⟩=>⟨xs,m.Xw e⟩,λk ⟨xs,m,hk⟩=>⟨xs,m.Xw e,hk⟩⟩
 trans:=λr1 r2=>⟨λh=>r2.1 (r1.1 h),λk h=>r2.2 k (r1.2 k h)⟩
 chg:=λ{_ _ _ _ b o} r hb=>⟨λ⟨xs,m⟩=>let ⟨ys,m'⟩:=r.1 ⟨xs,m⟩;⟨ys,m'.DC (m.UG hb)⟩,λk ⟨xs,m,hk⟩=>let ⟨ys,m',pG⟩:=r.2 k ⟨xs,m,hk⟩;⟨ys,m'.DC (m.UG hb),pG⟩⟩
 give:=λ{_ _ _ H' b o} r hc ho hx=>⟨λh=>let ⟨ys,m'⟩:=r.1 h;⟨ys,m'.DD (m'.ne λu q=>by rw[ho]at q;cases q;exact hx) hc⟩,λk h=>let ⟨ys,m',pG⟩:=r.2 k h;⟨ys,m'.DD (m'.ne λu q=>by rw[ho]at q;cases q;exact hx) hc,pG⟩⟩
 Xq:=λr h=>r.1 h
 O6:=λr _ h=>r.2 _ h
 Xr:=λ⟨xs,m⟩ h=>⟨xs,m.DC (m.ne h)⟩
 M4:=λ_ h ⟨xs,m,hk⟩=>⟨xs,m.DC (m.ne h),hk⟩
 YL:=λ⟨xs,m⟩ hc ho hx=>⟨xs,m.DD (m.ne λu q=>by rw[ho]at q;cases q;exact hx) hc⟩
 O7:=λ_ hc ho hx ⟨xs,m,hk⟩=>⟨xs,m.DD (m.ne λu q=>by rw[ho]at q;cases q;exact hx) hc,hk⟩
section
variable {X:Cx}{M:fi}{a:cF}{cL:cn}{O:L2.St}{C H:Hp}{s:cz}{xs ys:List (D×cF×cy)}
theorem eR.dict (I:η X cL O H s) (sub:eA C H) (m:eR a M C H xs):s.heap.DictOfH (nJ X.γ X.w) a xs:=by
 obtain⟨⟨o,es,ep,h1,h2,h3,h4,h5⟩,_⟩:=I.fU a _ m.h;exact⟨o,es,ep,h1,h2,h3,h4,λx hx=>by
  obtain⟨h1,v,d,_,_,w⟩:=m.ent x hx;obtain⟨k1,k2⟩:=M.key _ _ w;exact⟨Is.ki I sub _ k1 h1 rfl,k2⟩,h5⟩
theorem eR.keys_eq (I:η X cL O H s) (sub:eA C H) (m:eR a M C H xs) (m':eR a M C H ys):xs.map (·.1)=ys.map (·.1):=by
 obtain⟨o,es,ep,h1,h2,h3,h4,h5,h6⟩:=m.dict I sub;obtain⟨o',Lb,XQ,JI,M5,O8,SJ,h5',h6'⟩:=m'.dict I sub;rw[h1]at JI;cases JI;rw[h3]at O8;injection O8 with e1 _;subst e1
 rw[h4]at SJ;clear h1 h2 M5 h3 h4 h6 h6' m m';induction xs generalizing ys with
 |nil=>cases ys with
  |nil=>rfl
  |cons _ _=>cases SJ
 |cons x xs ih=>
  cases ys with
  |nil=>cases SJ
  |cons y ys=>
   rw[aG,aG]at SJ;injection SJ with e1 e2
   have ea:x.2.1=y.2.1:=by
    have:(entryOfKey (nJ X.γ X.w) x).key=(entryOfKey (nJ X.γ X.w) y).key:=congrArg DictEntry.key e1;injection this
   have k1:=(h5 x af).1;have k2:=(h5' y af).1;rw[ea]at k1;rw[aG,aG,k1.inj k2,ih (λx hx=>h5 x (aj _ hx)) (λx hx=>h5' x (aj _ hx)) e2]
theorem vh:(atKey xs k).isSome=true↔k∈xs.map (·.1):=by
 unfold atKey;rw[Option.isSome_map,find?_isSome];constructor
 .rintro⟨x,hx,e⟩
  exact mem_map.mpr ⟨x,hx,by simpa using e⟩
 .intro h;obtain⟨x,hx,e⟩:=mem_map.mp h;exact⟨x,hx,by simpa using e⟩
theorem Nf (h:atKey xs k=some p):(k,p)∈xs:=by
 obtain⟨x,q,rfl⟩:=yN h;have h1:=mem_of_find?_eq_some q;have h2:=find?_some q;have h3:x.1=k:=by simpa using h2
 rw[<-h3];exact h1
def Wb (a:cF) (M:fi):R2:=λx y H Q=>∃C ds xs,eA C H/\Is C x (.t ds)/\qg (.t ds)=true/\eN (.t ds)<=4/\y=.ref a/\eR a M C H xs/\Q (.bl (!(atKey xs (.t ds)).isSome)) H
theorem xO (hu:X.A.units+64<cLine):xl X (compareOp .NotIn) (Wb a M):=by
 intro cL s O H x y v u Q I rx ry h;obtain⟨C,ds,xs,sub,is,hk,hd,rfl,m,q⟩:=h;cases is with
 |@t p ws _ hp l=>
  cases rx;cases ry;have Js:(nJ X.γ X.w).is s.heap (.t ds) p:=⟨Is.ki I sub _ hk (.t hp l) rfl,hd⟩;have hm:=m.dict I sub;show wpAny _ _ (do return .bool (!(<-contains (.ref a) (.ref p)))) (EP X cL O Q) X.xe s
  refine aa ?_;unfold contains;try with_reducible refine bo ?_
  refine aa (wpAny_specialOf hm.typeIs slot_dict_contains.lookup ?_);show wpAny _ _ (if(some (Value.builtin "dict.__contains__")==some Value.none)=true then _ else _) _ X.xe s
  rw[if_neg (by rw[beq_builtin_none];exact bc)]
  refine aa (wpAny_callSpecialUnlessNone?_slot (name:=Str.ofString "__contains__") hm.typeIs slot_dict_contains
   (bN slot_dict_contains hm.typeIs entry_dict_contains ?_ (args_dict_contains _ _)))
  show wpAny _ _ (dictGet a (.ref p)>>=_) _ _ s;have nr:(nJ X.γ X.w).room X.A.in1:=by show X.A.units+1+8<cLine;omega
  refine aa (wpAny_dictGet_heap nr Js hm ?_);cases hf:atKey xs (.t ds)with
  |some p'=>
   rw[hf]at q;show wpAny _ _ (ret (.bool true)) _ _ _;exact ak ⟨_,rfl,bR (ak ⟨.bl _,H,I.tok _,rfl,q⟩)⟩
  |none=>
   rw[hf]at q;show wpAny _ _ (Builtin.Dict.pendingKey? a (.ref p)>>=_) _ _ _;exact aa (wpAny_pendingKey_other m.sm (ak ⟨_,rfl,bR (ak ⟨.bl _,H,I.tok _,rfl,q⟩)⟩))
def Y3 (a:cF) (M:fi):R2:=λx y H Q=>∃C ds xs,eA C H/\x=.ref a/\Is C y (.t ds)/\qg (.t ds)=true/\eN (.t ds)<=4/\eR a M C H xs/\D.t ds∈xs.map (·.1)/\∀v d,M.W (.t ds)=some d->Is C v d->Q v H
theorem LD (hu:X.A.units+64<cLine):OM X (Y3 a M):=by
 intro value slice cL s O H x y v u Q I rx ry h hs;obtain⟨C,ds,xs,sub,rfl,is,hk,hd,m,qF,q⟩:=h;cases is with
 |@t p ws _ hp l=>
  cases rx;cases ry;have Js:(nJ X.γ X.w).is s.heap (.t ds) p:=⟨Is.ki I sub _ hk (.t hp l) rfl,hd⟩;have hm:=m.dict I sub;have nr:(nJ X.γ X.w).room X.A.in1:=by show X.A.units+1+8<cLine;omega
  cases hf:atKey xs (.t ds)with
  |none=>
   have:=vh.mpr qF;rw[hf]at this;cases this
  |some pv=>
   obtain⟨_,v',d,r,i,w⟩:=m.ent _ (Nf hf);exact tail_any (ops:=[.ref a,.ref p]) hm.typeIs slot_dict_getitem.lookup (wpAny_getItem_heap nr Js hm hf ⟨v',H,I.tok _,r,q v' d w i⟩) hs
theorem BP {xs:List (D×cF×cy)}{k:D}{v:cy}:(xs.map (putAt k v)).map (·.1)=xs.map (·.1):=by
 rw[aW];apply bT
 intro x _;unfold putAt;simp only[Function.comp_apply];split<;>rfl
def Y4 (a:cF) (M:fi):Vt:=λo i v H Q=>∃C ds d xs,eA C H/\o=.ref a/\Is C i (.t ds)/\Is C v d/\M.W (.t ds)=some d/\eR a M C H xs/\
 ∀ys,eR a M C (ν H a (.ext (lS a ys))) ys->(∀k,(∃zs,eR a M C H zs/\k∈zs.map (·.1))->k∈ys.map (·.1))->D.t ds∈ys.map (·.1)->Q (ν H a (.ext (lS a ys)))
theorem Hq (hu:X.A.units+64<cLine):X0 X (Y4 a M):=by
 intro cL s O H o i v ov iv u Q I ro ri rv h;obtain⟨C,ds,d,xs,sub,rfl,is,iv',hw,m,q⟩:=h;obtain⟨hk,hd⟩:=M.key _ _ hw;cases is with
 |@t p ws _ hp l=>
  cases ro;cases ri;have Js:(nJ X.γ X.w).is s.heap (.t ds) p:=⟨Is.ki I sub _ hk (.t hp l) rfl,hd⟩;have hm:=m.dict I sub;have nr:(nJ X.γ X.w).room X.A.in1:=by show X.A.units+1+8<cLine;omega
  refine wpAny_setItem_heap nr Js hm (λh' SV Du=>?_) (aE m.len (aE M.hN (by decide)))
  have keys:(storedH xs (.t ds) p u).map (·.1)=if(atKey xs (.t ds)).isSome then xs.map (·.1)else xs.map (·.1)++[.t ds]:=by
   unfold storedH;split
   .exact BP
   .simp
  have qF:D.t ds∈(storedH xs (.t ds) p u).map (·.1):=by
   rw[keys];split
   .rename_i hh;exact vh.mp hh
   .exact aM _ af
  have hold:∀k∈xs.map (·.1),k∈(storedH xs (.t ds) p u).map (·.1):=λk h=>by
   rw[keys];split
   .exact h
   .exact bE _ h
  obtain⟨oo,es,ep,g1,g2,g3,g4,g5,g6⟩:=SV;have m':eR a M C (ν H a (.ext (lS a (storedH xs (.t ds) p u)))) (storedH xs (.t ds) p u):=by
   refine⟨dk,m.c,m.sm,g6,λx hx=>?_⟩
   unfold storedH at hx;split at hx
   .obtain⟨y,hy,rfl⟩:=mem_map.mp hx;obtain⟨h1,v',d',r,i',w⟩:=m.ent y hy;unfold putAt;split
    .rename_i e;refine⟨h1,v,d,rv,iv',?_⟩;show M.W y.1=some d;rw[e];exact hw
    .exact⟨h1,v',d',r,i',w⟩
   .rcases mem_append.mp hx with hx|hx
    .exact m.ent x hx
    .rw[bw]at hx;subst hx;exact⟨.t hp l,v,d,rv,iv',hw⟩
  have ok:iz X.γ X.w (ν H a (.ext (lS a (storedH xs (.t ds) p u)))) h' a (.ext (lS a (storedH xs (.t ds) p u))):=
   ⟨⟨oo,es,ep,g1,g2,g3,g4,g6⟩,⟨oo,g1⟩,λh1 h2 ⟨o1,e1,p1,q1,q2⟩ st=>⟨o1,e1,p1,st _ q1,q2⟩⟩
  refine⟨_,I.write (e:=a) (by rw[m.h];exact trivial) (.inl rfl) (λb ob hb hq=>(Du.2 b hb).trans hq) ⟨oo,g1⟩ ok,q _ m' (λk ⟨zs,mz,hz⟩=>hold k (by rw[m.keys_eq I sub mz];exact hz)) qF⟩
end
def Ng (δ' U:fW):Prop:=δ'.length=U.length/\∀(i:Nat) (s:Sl),δ'[i]? =some s->s=.n\/U[i]? =some s\/∃ks Xv,s=.m Xv/\U[i]? =some (.m ks)/\∀k∈Xv,k∈ks
section
variable [μ] {U δ':fW}{O:L2.St}{B C0 H0 C H:Hp}
theorem Ng.o (w:Ng δ' U) {i:Nat}{ds:cw}(q:δ'[i]? =some (.o ds)):U[i]? =some (.o ds):=by
 rcases w.2 i _ q with z|z|⟨_,_,z,_⟩
 .cases z
 .exact z
 .cases z
def Sx.weak (x:Sx U O C H) (w:Ng δ' U):Sx δ' O C H where
 sub:=x.sub
 d:=λi d q=>by
  rcases w.2 i _ q with z|z|⟨_,_,z,_⟩
  .cases z
  .exact x.d i d z
  .cases z
 o:=λi ds q=>x.o i ds (w.o q)
 Dv:=λi j ds es a q1 q2 q3 q4=>x.Dv i j ds es a (w.o q1) (w.o q2) q3 q4
 len:=w.1.trans x.len
 mem:=λi ks q=>by
  rcases w.2 i _ q with z|z|⟨ks1,ks2,z,z2,z3⟩
  .cases z
  .exact x.mem i ks z
  .cases z;obtain⟨a,h1,h2,h3,h4⟩:=x.mem i ks1 z2;exact⟨a,h1,h2,h3,λk hk=>h4 k (z3 k hk)⟩
theorem Gd.weak (g:Gd B C0 H0 U O C H) (w:Ng δ' U):Gd B C0 H0 δ' O C H:=⟨g.b,g.ev,g.x.weak w,λk ds a q1 q2=>g.fr k ds a (w.o q1) q2⟩
def Sx.Ex (x:Sx U O C H) {i:Nat}{ks:cw}{k:D}(hi:U[i]? =some (.m ks)) (hk:μ.has C H k):Sx (U.set i (.m (k::ks))) O C H where
 sub:=x.sub
 d:=λj d q=>by
  rcases Ce q with⟨rfl,e⟩|⟨hj,e⟩
  .cases e
  .exact x.d j d e
 o:=λj ds q=>by
  rcases Ce q with⟨rfl,e⟩|⟨hj,e⟩
  .cases e
  .exact x.o j ds e
 Dv:=λj l ds es a q1 q2 q3 q4=>by
  rcases Ce q1 with⟨_,e⟩|⟨_,e1⟩
  .cases e
  rcases Ce q2 with⟨_,e⟩|⟨_,e2⟩
  .cases e
  exact x.Dv j l ds es a e1 e2 q3 q4
 len:=by simp[x.len]
 mem:=λj ls q=>by
  rcases Ce q with⟨rfl,e⟩|⟨hj,e⟩
  .cases e;obtain⟨a,h1,h2,h3,h4⟩:=x.mem j ks hi;refine⟨a,h1,h2,h3,λc hc=>?_⟩
   rcases mem_cons.mp hc with rfl|hc
   .exact hk
   .exact h4 c hc
  .exact x.mem j ls e
theorem Gd.Ex (g:Gd B C0 H0 U O C H) (hi:U[i]? =some (.m ks)) (hk:μ.has C H k):Gd B C0 H0 (U.set i (.m (k::ks))) O C H:=
 ⟨g.b,g.ev,g.x.Ex hi hk,λj ds a q1 q2=>by
  rcases Ce q1 with⟨_,e⟩|⟨_,e⟩
  .cases e
  .exact g.fr j ds a e q2⟩
end
def forget (fs:List Nat) (U:fW):fW:=fs.foldl (λU i=>U.set i .n) U
theorem qh:∀(fs:List Nat) (U:fW),(forget fs U).length=U.length
 |[],_=>rfl
 |i::fs,U=>by
  show(forget fs (U.set i .n)).length=_;rw[qh fs,length_set]
theorem BQ:∀(fs:List Nat) (U:fW) (i:Nat) (s:Sl),(forget fs U)[i]? =some s->s=.n\/U[i]? =some s
 |[],_,_,_,h=>.inr h
 |j::fs,U,i,s,h=>by
  rcases BQ fs (U.set j .n) i s h with z|z
  .exact .inl z
  .rcases Ce z with⟨_,e⟩|⟨_,e⟩
   .exact .inl e
   .exact .inr e
def Af (fs:List Nat) (U:fW) (i:Nat) (k:D) (ks:cw):Ng ((forget fs U).set i (.m [k])) (U.set i (.m (k::ks))):=by
 refine⟨by simp[qh],λj s q=>?_⟩
 rcases Ce q with⟨rfl,e⟩|⟨hj,e⟩
 .have hl:j<U.length:=by have:=JH q;rwa [qh]at this
  exact .inr (.inr ⟨k::ks,[k],e,by rw[bf hl],λc hc=>by rw[bw]at hc;subst hc;exact af⟩)
 .rcases BQ fs U j s e with z|z
  .exact .inl z
  .exact .inr (.inl (by rw[aH (Ne.symm hj)];exact z))
open Classical in
def nL (i:Nat) (fs:List Nat) (fk:cc) (fb:cb):cb:=λU=>match U[i]?,fk U,fb U with
 |some (.m _),some (.t ds),some (.next δ2)=>if qg (.t ds)=true/\eN (.t ds)<=4/\Ng ((forget fs U).set i (.m [.t ds])) δ2 then some (.next ((forget fs U).set i (.m [.t ds])))else none
 |_,_,_=>none
def j7 (M:fi) (i:Nat) (fk:cc):cc:=λU=>match U[i]?,fk U with
 |some (.m ks),some (.t ds)=>if qg (.t ds)=true/\eN (.t ds)<=4/\D.t ds∈ks then M.W (.t ds)else none
 |_,_=>none
noncomputable def mE (M:fi) (i:Nat) (fk fe:cc):cb:=λU=>match U[i]?,fk U,fe U with
 |some (.m ks),some (.t ds),some d=>if M.W (.t ds)=some d then some (.next (U.set i (.m (.t ds::ks))))else none
 |_,_,_=>none
section
variable {X:Cx}{a:cF}{M:fi}{C0 H0:Hp}{k o:cG}{body:List cH}{pos pos':Pos}{i:Nat}
def Nh (fs:List Nat) (hu:X.A.units+64<cLine) (hk:@PD (eM a M) X k fk) (ho:PE X o (lu i)) (hb:@N4 (eM a M) X C0 H0 body fb) (hm:behindInMarks .NotIn o=false:=by first|exact Bk _|rfl):@PB (eM a M) X C0 H0 (.If (.Compare k [.NotIn] [o] pos) body [] pos') (nL i fs fk fb):=λB=>by
 letI:=eM a M
 refine(Oh (Fd (xO (a:=a) (M:=M) hu) hk ho hm) (hb B) Fb).imp λDn O H ⟨C,U,r,gd,q,fin⟩=>?_
 unfold nL at q;split at q
 .rename_i ks ds δ2 hi PN JY;obtain⟨hc,q⟩:=nq q;obtain⟨c1,c2,c3⟩:=hc;cases q;refine⟨C,U,.t ds,gd.x,PN,λv C1 H1 e1 i1=>?_⟩
  have g1:=gd.A7 e1;obtain⟨a',h1,h2,⟨xs,m⟩,h4⟩:=g1.x.mem i ks hi;cases h1;refine⟨.ref a,h2,C1,ds,xs,e1.s,i1,c1,c2,rfl,m,_,rfl,?_⟩;cases hs:(atKey xs (.t ds)).isSome with
  |true=>exact Dt (fin O C1 H1 ((g1.Ex hi ⟨xs,m,vh.mp hs⟩).weak (Af fs U i _ ks)))
  |false=>exact Bu ⟨C1,U,.next δ2,g1,JY,λσ' C' H' g'=>fin σ' C' H' (g'.weak c3)⟩
 .cases q
def J3 {fk:cc}(hu:X.A.units+64<cLine) (ho:PE X o (lu i)) (hk:@PD (eM a M) X k fk) (hs:vd k):@PD (eM a M) X (.Subscript o k pos) (j7 M i fk):=by
 letI:=eM a M
 refine(ON (LD (a:=a) (M:=M) hu) ho hk hs).imp λO H Q ⟨C,U,d,x,q,fin⟩=>?_
 unfold j7 at q;split at q
 .rename_i ks ds hi PN;obtain⟨hc,q⟩:=nq q;obtain⟨c1,c2,c3⟩:=hc;obtain⟨a',h1,h2,_,_⟩:=x.mem i ks hi;cases h1;refine⟨.ref a,h2,C,U,.t ds,x,PN,λv C1 H1 e1 i1=>?_⟩
  obtain⟨a',h1,_,_,h4⟩:=(x.ev e1).mem i ks hi;obtain⟨xs,m,hx⟩:=h4 _ c3;refine⟨C1,ds,xs,e1.s,rfl,i1,c1,c2,m,hx,λw d' hw iw=>?_⟩
  rw[q]at hw;cases hw;exact fin w C1 H1 e1 iw
 .cases q
def Hr (s:eA C H) (m:eR a M C H xs) (m':eR a M C (ν H a (.ext (lS a ys))) ys) (hk:∀k,(∃zs,eR a M C H zs/\k∈zs.map (·.1))->k∈ys.map (·.1)):@Ev (eM a M) C H C (ν H a (.ext (lS a ys))):=by
 letI:=eM a M
 refine⟨eA.refl _,λb o q h=>?_,λb o q h x=>?_,λb u q=>?_,λb u q=>.inl q,⟨λ_=>⟨ys,m'⟩,λk h=>⟨ys,m',hk k h⟩⟩⟩
 .have:b≠a:=λz=>by
   subst z;rcases h with h|h
   .exact h rfl
   .rw[m.h]at q;cases q;cases h
  rw[de this];exact q
 .cases h;exact⟨_,dk,rfl⟩
 .rw[de (dw q m.c)];exact s b u q
end
def tAM [m:μ] (i j:Nat) (f:bZ):TA:=λO H Q=>∃C U ds ks,Sx U O C H/\U[i]? =some (.m ks)/\f U=some ds/\∀vs C' H' a,Ev C H C' H'->m.face=some a->vs[j]? =some (.ref a)->τ C' (vs.eraseIdx j) ds->Q vs H'
abbrev PAM [μ] (X:Cx) (es:List cG) (i j:Nat) (f:bZ):Prop:=PA X es (tAM i j f)
def Xx (j:Nat) (Mf:cw->fi) (g:cg):Sp:=λvs H Q _=>∃C ds d a,eA C H/\vs[j]? =some (.ref a)/\τ C (vs.eraseIdx j) ds/\(∃xs,eR a (Mf ds) C H xs)/\g ds=some d/\∀v C' H',@Ev (eM a (Mf ds)) C H C' H'->Is C' v d->Q v H'
open Classical in
noncomputable def BR (i:Nat) (Mf:cw->fi) (g:cg) (M:fi) (f:bZ):cc:=λU=>match U[i]? with
 |some (.m _)=>(f U).bind λds=>if Mf ds=M then g ds else none
 |_=>none
noncomputable def startM (n np j:Nat) (ds:cw):fW:=(ds.map Sl.d).insertIdx j (.m [])++replicate (n-np) Sl.n
def Ht (n np j:Nat) (Mf:cw->fi) (fb:fi->cb) (ds:cw):Option D:=
 if ds.length+1=np/\j<np then(match fb (Mf ds) (startM n np j ds)with|some (.ret d)=>some d|some (.next _)=>some .eZ|_=>none)else none
def S0 {n j:Nat}(h:¬ n<j) (h2:¬ n=j):¬ n-1<j/\n-1+1=n:=by omega
def zh [m:μ] (S:dF N ps sc) (sub:eA C H) (hj:vs[j]? =some (.ref a)) (i:τ C (vs.eraseIdx j) ds) (hl:ds.length+1=ps.length/\j<ps.length) (hf:m.face=some a) (ok:m.ok C H):Gd C C H (startM N.length ps.length j ds) (L2.start N vs) C H:=by
 have hjv:j<vs.length:=(List.getElem?_eq_some_iff.mp hj).1;have h1:=i.length;rw[length_eraseIdx_of_lt hjv]at h1;have:=Lr S;have ge:∀{n:Nat}{x:Sl},(startM N.length ps.length j ds)[n]? =some x->(∃d v,vs[n]? =some v/\Is C v d/\x=.d d)\/n=j/\x=.m []\/x=.n:=λ{n x} e=>by
  have dt:∀{k:Nat},(ds.map Sl.d)[k]? =some x->∃d v,(vs.eraseIdx j)[k]? =some v/\Is C v d/\x=.d d:=λ{k} e=>by
   rw[aw]at e;obtain⟨d,hd,rfl⟩:=yN e;obtain⟨v,g1,g2⟩:=i.get hd;exact⟨d,v,g1,g2,rfl⟩
  unfold startM at e;rw[getElem?_append]at e;split at e
  .rw[getElem?_insertIdx]at e;split at e
   .rename_i h;obtain⟨d,v,g1,g2⟩:=dt e;rw[getElem?_eraseIdx,if_pos h]at g1;exact .inl ⟨d,v,g1,g2⟩
   .rename_i h;split at e
    .split at e<;>cases e
     exact .inr (.inl ⟨by assumption,rfl⟩)
    .rename_i h2;obtain⟨d,v,g1,g2⟩:=dt e;rw[getElem?_eraseIdx,if_neg (S0 h h2).1,(S0 h h2).2]at g1;exact .inl ⟨d,v,g1,g2⟩
  .rw[bg]at e;split at e<;>cases e
   exact .inr (.inr rfl)
 have no:∀(n:Nat) es,(startM N.length ps.length j ds)[n]? ≠some (Sl.o es):=λn es e=>by rcases ge e with⟨_,_,_,_,q⟩|⟨_,q⟩|q<;>cases q
 refine Pj ⟨sub,λn d e=>?_,λn es e=>absurd e (no n es),λn m es fs a e=>absurd e (no n es),?_,λn ks e=>?_⟩ no
 .rcases ge e with⟨_,v,h1,h2,q⟩|⟨_,q⟩|q<;>cases q
  exact⟨v,by rw[yY (List.getElem?_eq_some_iff.mp h1).1,h1],h2⟩
 .unfold L2.start startM;rw[aR,aR,length_insertIdx_of_le_length (by rw[ae];omega),ae,ae,length_replicate,length_replicate]
  omega
 .rcases ge e with⟨_,_,_,_,q⟩|⟨rfl,q⟩|q<;>cases q
  exact⟨a,hf,by rw[yY hjv,hj],ok,λk hk=>by cases hk⟩
def qH {C:Hp}{vs:List V}{ds:cw}{j n:Nat}{v:V}(hj:vs[j]? =some v) (i:τ C (vs.eraseIdx j) ds) (hl:ds.length+1=n):vs.length=n:=by
 have h1:=i.length;have h2:j<vs.length:=(List.getElem?_eq_some_iff.mp hj).1;rw[length_eraseIdx_of_lt h2]at h1;omega
def Wc {P:cB}{w:cC}{K:W.Frag}{mg:cm}{Zc:Heap}{x qual:Str}{st:cH}{f:cF}{fd:cA}{N ps:List Str}{k:Nat}(j:Nat) (Mf:cw->fi) (F:Bs K x qual st f fd) (S:dF N ps (cZ st)) {fb:fi->cb}
  (gO:∀(a:cF) (M:fi) (fC:cy) (A:cD) (ε:List Env) (s:cz) (H:Hp) (E:XK),gc k (A.deeper (envOfC qual (cZ st) s.dN f fC))->∀C0 H0,@N4 (eM a M) (t6 nY P w K mg Zc N qual (cZ st) f fC A ε s H E).GJ C0 H0 (gr st) (fb M)):
  gK P w K mg Zc nY (k+1) f fd ps (Xx j Mf (Ht N.length ps.length j Mf fb)):=by
 refine F.ok S (λvs H Q E h=>?_) (λfC A ε s H vs Q E hr h=>?_)
 all_goals
  obtain⟨C,ds,d,a,sub,hj,i,ok,q,fin⟩:=h;obtain⟨hl,q⟩:=nq q
 .exact qH hj i hl.1
 .letI:=eM a (Mf ds)
  exact⟨tS C C H (fb (Mf ds)),gO a (Mf ds) fC A ε s H E hr C H C,n8 (zh S sub hj i hl rfl ok) q fin⟩
section
variable {X:Cx}{es:List cG}{p:Pos}{a:cF}
def _root_.L2.η.abN (I:η X cL O H s):sysModules<s.dN:=by
 have h:mainGlobals<s.dN:=(I.mod.glob.keeps I.bk).lt;exact bI (by decide) h
def Y5:TE:=λ_ H Q=>∀p,H p=none->(p==sysModules)=false->Q (.ref p) (ν H p (.ext (lS p [])))
def LF:PE X (.Dict [] [] pos) Y5:=λcL s O H Q I h=>
 wpAny_Dict_empty ⟨.ref s.dN,_,I.laid (a:=s.dN) (o:=.ext (lS s.dN [])) (t':=s.toks) (λ_ _ q=>ag _ q) (av _)
  ⟨⟨_,#[],0,aB _ rfl,⟨rfl,rfl,rfl⟩,rfl,rfl,nodup_nil⟩,⟨_,aB _ rfl⟩,λh1 h2 ⟨o1,e1,p1,q1,q2⟩ st=>⟨o1,e1,p1,st _ q1,q2⟩⟩,rfl,
  h _ (I.fU.fresh (av _)) (beq_eq_false_iff_ne.mpr (Ne.symm (aF I.abN)))⟩
def BS {C H:Hp}{p:cF}(hc:C p=none) (hs:(p==sysModules)=false) (hH:H p=some (.ext (lS p []))):eR p M C H []:=⟨hH,hc,hs,nodup_nil,λ_ h=>by cases h⟩
def Wd (e1:pF C H C1 H1) (hn:H a=none) (e2:@Ev (eM a M) C1 H1 C2 H2):pF C H C2 H2:=by
 letI:=eM a M
 refine⟨e1.c.trans e2.c,λb o q=>?_,e2.s,λb u q=>?_⟩
 .have hb:b≠a:=λz=>by subst z;rw[hn]at q;cases q
  exact e2.h b o (e1.h b o q) (.inl λz=>hb (aT z).symm)
 .rcases e2.n b u q with z|z
  .exact e1.n b u z
  .exact .inr (e1.h.free z)
def tAN (j:Nat) (f:bZ):TA:=λO H Q=>∃C U ds,@Sx μ.keep U O C H/\f U=some ds/\∀vs C' H' a,pF C H C' H'->H a=none->C' a=none->H' a=some (.ext (lS a []))->(a==sysModules)=false->vs[j]? =some (.ref a)->τ C' (vs.eraseIdx j) ds->Q vs H'
abbrev PAN (X:Cx) (es:List cG) (j:Nat) (f:bZ):Prop:=PA X es (tAN j f)
noncomputable def noOwn (U:fW):Bool:=U.all λs=>match s with|.o _=>false|_=>true
noncomputable def sd (U:fW):Bool:=U.all λs=>match s with|.m _=>false|_=>true
def qL {U:fW}(h:noOwn U=true) {i:Nat}{ds:cw}(q:U[i]? =some (.o ds)):False:=by
 have:=all_eq_true.mp h _ (bj q);cases this
def zi {U:fW}(h:sd U=true) {i:Nat}{ds:cw}(q:U[i]? =some (.m ds)):False:=by
 have:=all_eq_true.mp h _ (bj q);cases this
def DE (i:Nat):R->Option R
 |.next U=>if sd (U.set i .n)=true then some (.next (U.set i .n))else none
 |.ret d=>some (.ret d)
 |.brk U=>if sd (U.set i .n)=true then some (.brk (U.set i .n))else none
 |.cont U=>if sd (U.set i .n)=true then some (.cont (U.set i .n))else none
end
end DL
namespace HT
def vK {t sl:cF}{items:Array cy}{vl vu:cy}{lo hi:Option Int}{Q:cj}(ht:IsTup s.heap t items) (hs:s.heap.IsSliceOf sl vl vu .none) (pl:IsPart vl lo) (pu:IsPart vu hi)
  (hw:i6 items.size 0 lo=0/\i6 items.size items.size hi=items.size)
  (h:Q (.ref t) s):jH γ w A (getItem (.ref t) (.ref sl)) Q E s:=by
 obtain⟨os,MT,Uv,MU⟩:=id hs;have Ys:s.TypeIs (.ref sl) "slice":=⟨os,MT,Uv⟩;unfold getItem;try with_reducible refine bo ?_
 first|refine aa (ak ?_)|skip
 refine aa (wpAny_sequenceKey ht.typeIs (by decide) ?_)
 refine aa (wpAny_callSpecial?_slot (name:=Str.ofString "__getitem__") ht.typeIs PyProof.Rows.slot_tuple_getitem
  (bN PyProof.Rows.slot_tuple_getitem ht.typeIs entry_tuple_getitem ?_ (args_tuple_getitem _ _)))
 show wpAny _ _ (Builtin.Tuple.tupleItemsOf (.ref t)>>=_) _ _ s;refine aa (tupleItemsOf_ ht ?_);refine aa (wpAny_typeOf Ys ?_);rw[if_pos (by decide)]
 refine aa (qG hs pl pu ?_);have abO:(((i6 items.size 0 lo:Nat):Int)==0&&(1:Int)==1&&(i6 items.size items.size hi-i6 items.size 0 lo)==items.size)=true:=by
  rw[hw.1,hw.2];simp
 show wpAny _ _ (if(((i6 items.size 0 lo:Nat):Int)==0&&(1:Int)==1&&(i6 items.size items.size hi-i6 items.size 0 lo)==items.size)=true then _ else _) _ _ s
 rw[if_pos abO];unfold Builtin.Tuple.tupleIsExact;refine aa (aa (wpAny_typeOf ht.typeIs (ak ?_)));rw[if_pos (by decide)]
 first
  |exact aa (wpAny_rule (aa (ak ⟨_,rfl,ak h⟩)))
  |exact aa (wpAny_rule (ak ⟨_,rfl,ak h⟩))
end HT
namespace DL
open L2
variable [μ]
section
variable {f h:cc}
def S3:Uw X (λx lo hi H Q=>∃a xs,x=.ref a/\lr X.K H a xs/\(HT.i6 xs.length 0 lo=0/\HT.i6 xs.length xs.length hi=xs.length)/\Q (.ref a) H):=by
 intro cL s O H x v vl vu lo hi sl Q I rx hs pl pu h;obtain⟨a,xs,rfl,hx,hw,q⟩:=h;cases rx;obtain⟨dE,r,ht,hz⟩:=I.tuple hx;have π:dE.toArray.size=xs.length:=by rw[au];exact r.length.symm
 refine⟨"tuple",_,PyProof.Rows.slot_tuple_getitem.lookup,ht.typeIs,?_⟩;exact HT.vK ht hs pl pu (by rw[π];exact hw) ⟨.ref a,H,I,rfl,q⟩
def t8 (f:cc) (lo hi:fW->Option (Option Int)):cc:=λU=>match f U with
 |some (.t ds)=>(lo U).bind λl=>(hi U).map λu=>.t (t7 ds l u)
 |_=>none
noncomputable def S4 (i:Nat) (f:bZ):cb:=λU=>match U[i]? with
 |some (.o ds)=>(f U).bind λes=>if ds.length+es.length<=1000000 then some (.next (U.set i (.o (ds++es))))else none
 |_=>none
end
end DL
namespace DL
open L2
variable [μ]
def wH (is:List Nat) (f:cb):cw->cb
 |[],U=>some (.next U)
 |d::ds,U=>match d with
  |.t es=>if es.length=is.length then(match f (wB is es U)with
   |some (.next δ')=>wH is f ds δ'
   |some (.cont δ')=>wH is f ds δ'
   |some (.brk δ')=>some (.next δ')
   |some (.ret r)=>some (.ret r)
   |none=>none)else none
  |_=>none
def LG (is:List Nat) (i:bZ) (f:cb):cb:=λU=>(i U).bind λds=>wH is f ds U
omit [μ] in
theorem LH:∀(is:List Nat) {xs:List V}{O:L2.St}{H:Hp}{Q Q':L2.St->Hp->Prop},Hj is xs O H Q->(∀O H,Q O H->Q' O H)->Hj is xs O H Q'
 |[],_,_,_,_,_,h,m=>⟨h.1,m _ _ h.2⟩
 |i::is,_,_,_,_,_,h,m=>by
  obtain⟨v,vs,e,h'⟩:=h;exact⟨v,vs,e,LH is h' m⟩
section
variable {c:cG}{f:cc}
noncomputable def um (c:cf) (f:cb):Nat->cb
 |0,_=>none
 |n+1,U=>match c U with
  |some true=>(match f U with
   |some (.next δ')=>um c f n δ'
   |some (.cont δ')=>um c f n δ'
   |some (.brk δ')=>some (.next δ')
   |some (.ret r)=>some (.ret r)
   |none=>none)
  |some false=>some (.next U)
  |none=>none
def BU (n:Nat) (c:cf) (f:cb):cb:=um c f n
noncomputable def LI:cg
 |[.int i]=>some (.int i)
 |[.bl k]=>some (.int (if k then 1 else 0))
 |_=>none
def We:xB X (.type "int") LI:=by
 refine⟨_,MO,?_⟩;intro C H vs ds d Q s i q k;unfold LI at q;split at q
 .cases q;obtain⟨v,rfl,j⟩:=i.one;exact .inl ⟨_,by rw[j.int],k _ C H (.refl s) (.int _)⟩
 .cases q;obtain⟨v,rfl,j⟩:=i.one;have:=j.is (λ_ z=>by cases z);cases this
  exact .inr ⟨_,rfl,k _ C H (.refl s) (.int _)⟩
 .cases q
end
end DL
namespace DL
open L2
variable [μ]
variable [μ]
section
variable {b:cG}
def xP (ha:WO X e f) (he:∀whole,isTrue e X.e whole=(do let v <-whole;standAt e.pos;holding [v] (truthy v)):=by intro _;rfl):WQ X e (qT f):=⟨(Oz ha.go he).imp λO H Q ⟨C,U,b,x,q,k⟩=>by
 obtain⟨d,hf,q⟩:=qI q;exact⟨C,U,d,x,hf,λv C' H' ev i=>⟨b,SX ev.s i q,k C' H' ev⟩⟩⟩
def ky (ha:WO X a f) (hb:WO X b g):WD X (.BinOp a .Add b pos) (dB j6 f g):=⟨Eo (PM.or Ss) SY ha.go hb.go⟩
end
variable [μ]
section
variable {a b:cG}{p:Pos}
def zj {lo hi:Option cG}{fl fh:fW->Option (Option Int)}(he:WO X e f) (hl:WP X lo fl) (hh:WP X hi fh):WD X (.Subscript e (.Slice lo hi none p2) pos) (t8 f fl fh):=⟨(GZ (S3.or VJ) he.go hl.go hh.go).imp λO H Q ⟨C,U,d,x,q,k⟩=>by
 unfold t8 at q;split at q
 .rename_i es hf;obtain⟨l,h1,q⟩:=qI q;obtain⟨u,h2,rfl⟩:=yN q;refine⟨C,U,_,x,hf,λv C1 H1 e1 i1=>⟨C1,U,l,x.ev e1,h1,λC2 H2 e2=>⟨C2,U,u,x.ev (e1.trans e2),h2,λC3 H3 e3=>?_⟩⟩⟩
  obtain⟨p,xs,rfl,hq,ll,hc⟩:=((i1.ev e2).ev e3).t (K:=X.K) e3.s;have ev:=(e1.trans e2).trans e3;by_cases hw:HT.i6 xs.length 0 l=0/\HT.i6 xs.length xs.length u=xs.length
  .exact .inl ⟨p,xs,rfl,hq,hw,k _ C3 H3 ev (.t hc (ll.Wa hw))⟩
  .exact .inr ⟨p,xs,rfl,hq,hw,λt ht=>k _ _ _ (ev.trans (.new e3.s ht)) (.t dk ((ll.cut l u).mono (fj (e3.s.free ht))))⟩
 .cases q⟩
def Wf {C0 H0:Hp}{i:Nat}{apos pos':Pos}{f:bZ}(ho:PE X o (lu i)) (he:WF X e f) (xN:cK e [] X.e:=by exact gu rfl) (Bq:attributeBase o "extend" X.e (eval o X.e)=eval o X.e:=by rfl) (JA:((backTo pos (starEach [e] X.e)).all (λx=> !x.1)&&(backToKw pos (keywordEach [] X.e)).all (λx=>x.1.isSome)
   &&decide ([e].length+([]:List Keyword).length+(if([]:List Keyword).isEmpty then 0 else 1)<30))=true:=by exact VZ rfl) (Br:(apos.endLine==pos.line)=true:=by rfl) (wt:A4 pos [] X.e:=by exact hW rfl) (hs:swapsWith (.Call (.Attribute o "extend" apos) [e] [] pos) none pos'.line X.e=pure false:=by rfl):WB X C0 H0 (.Expr (.Call (.Attribute o "extend" apos) [e] [] pos) pos') (S4 i f):=⟨λB=>
 (Le (OO PySem.F.plainAttrs_list PySem.F.slot_list_extend PySem.F.type_list_extend MV ho (kr he.go wq xN) Bq JA Br xN wt) hs).imp λDn O H ⟨C,U,r,gd,q,k⟩=>by
  unfold S4 at q;split at q
  .rename_i ds hi;obtain⟨es,hf,q⟩:=qI q;obtain⟨hz,q⟩:=nq q;cases q;obtain⟨a,xs,h1,h2,h3,h4⟩:=gd.x.o i ds hi;refine⟨_,h1,.inl ⟨rfl,_,ua.of h3⟩,C,U,es,gd.x,hf,λb ys C' H' ev hn hc hb hl=>?_⟩
   have g1:=gd.A7 ev;obtain⟨a',xs',z1,z2,z3,z4⟩:=g1.x.o i ds hi;rw[h1]at z1;cases z1;exact⟨a,b,xs',ys,rfl,rfl,z3,hb,by rw[z4.length,hl.length];exact aE hz (by decide),k O C' _ (g1.mut hi h1 (z4.append hl))⟩
  .cases q⟩
end
variable [μ]
def PR (n:Nat) {body:List cH}{f:cb}(hp:PassesOwn (model X.γ X.w) X.A X.e X.xe) (hc:WQ X c q) (hb:rH X C0 H0 body f):WB X C0 H0 (.While c body [] pos) (BU n q f):=⟨λB=>by
 refine(Ol hp hc.go (hb.go B)).imp λDn O H ⟨C,U,r,gd,hq,k⟩=>?_
 refine⟨λm O H=>∃C U,Gd B C0 H0 U O C H/\um q f m U=some r,⟨n,C,U,gd,hq⟩,?_⟩
 rintro m σ1 H1 ⟨C1,δ1,g1,h1⟩
 cases m with
 |zero=>cases h1
 |succ m=>
  unfold um at h1;split at h1
  .rename_i vG;refine⟨C1,δ1,true,g1.x,vG,λC2 H2 e2=>Bu ?_⟩
   refine⟨λσ' H'=>∃C' δ',Gd B C0 H0 δ' σ' C' H'/\um q f m δ'=some r,λσ' H' ⟨C',δ',g',h'⟩=>⟨m,Nat.lt_succ_self m,C',δ',g',h'⟩,?_⟩
   cases JY:f δ1 with
   |none=>rw[JY]at h1;cases h1
   |some rb=>
    rw[JY]at h1;refine⟨C2,δ1,rb,g1.A7 e2,JY,?_⟩;cases rb with
    |next δ'=>exact λσ' C' H' g'=>⟨C',δ',g',h1⟩
    |cont δ'=>exact λσ' C' H' g'=>⟨C',δ',g',h1⟩
    |brk δ'=>cases h1;exact k
    |ret d=>cases h1;exact k
  .rename_i vG;cases h1;exact⟨C1,δ1,false,g1.x,vG,λC2 H2 e2=>Dt (k σ1 C2 H2 (g1.A7 e2))⟩
  .cases h1⟩
end DL
namespace DL
open L2
def Y6 (P:cB) (w:cC) (K:W.Frag) (mg:cm) (Zc:Heap) (k:Nat) (x:Str) (j:Nat) (Mf:cw->fi) (g:cg):Prop:=
 ∃f fd ps,gK P w K mg Zc nY k f fd ps (Xx j Mf g)/\mg x=some (.ref f)/\W.keepIn K (.ref f)=true/\Binds K fd ps []
def PU {P:cB}{w:cC}{K:W.Frag}{mg:cm}{Zc:Heap}{k:Nat}{f:cF}{fd:cA}{ps:List Str}{sp:Sp}(n:∀vs H Q E,sp vs H Q E->False):gK P w K mg Zc nY k f fd ps sp:=
 ⟨λ_ _ _ _ h=>(n _ _ _ _ h).elim,λ_ _ _ _ _ _ _ _ _ _ _ _ _ h=>(n _ _ _ _ h).elim⟩
def vi {P:cB}{w:cC}{K:W.Frag}{mg:cm}{Zc:Heap}{k:Nat}{f:cF}{fd:cA}{ps:List Str}:gK P w K mg Zc nY k f fd ps (M8 λ_=>none):=
 PU (by rintro _ _ _ _ ⟨_,_,_,_,_,q,_⟩;cases q)
def PV {P:cB}{w:cC}{K:W.Frag}{mg:cm}{Zc:Heap}{k:Nat}{f:cF}{fd:cA}{ps:List Str}{j:Nat}{Mf:cw->fi}:gK P w K mg Zc nY k f fd ps (Xx j Mf λ_=>none):=
 PU (by rintro _ _ _ _ ⟨_,_,_,_,_,_,_,_,q,_⟩;cases q)
structure Y7 [μ] (X:Cx) (es:List cG) (i j:Nat) (f:bZ):Prop where
 go:PAM X es i j f
structure WAN (X:Cx) (es:List cG) (j:Nat) (f:bZ):Prop where
 go:PAN X es j f
section
variable {k:cG}{x:Str}{a:cF}
def qM [μ] (ho:PE X e (lu i)) (hr:LC X es f) (hs:cK e es X.e:=by exact gu rfl):Y7 X (e::es) i 0 f:=⟨(kr ho hr.go hs).imp λO H Q ⟨C,U,ds,ks,x,hi,q,k⟩=>by
 obtain⟨a,h1,h2,_,_⟩:=x.mem i ks hi;exact⟨.ref a,h2,C,U,ds,x,q,λvs C' H' ev il=>k (.ref a::vs) C' H' a ev h1 rfl il⟩⟩
def PX [μ] (ha:WD X e f) (hr:Y7 X es i j g) (hs:cK e es X.e:=by exact gu rfl):Y7 X (e::es) i (j+1) (cM f g):=⟨(kr ha.go hr.go hs).imp λO H Q ⟨C,U,ds,ks,x,hi,q,k⟩=>by
 obtain⟨d,hf,q⟩:=qI q;obtain⟨r,hg,rfl⟩:=yN q;exact⟨C,U,d,x,hf,λv C1 H1 e1 i1=>⟨C1,U,r,ks,x.ev e1,hi,hg,λvs C2 H2 a e2 h1 h2 i2=>k (v::vs) C2 H2 a (e1.trans e2) h1 h2 (.cons (i1.mono e2.c) i2)⟩⟩⟩
def PY (hr:@LC μ.keep X es f) (hs:cK (.Dict [] [] pos) es X.e:=by exact gu rfl):WAN X (.Dict [] [] pos::es) 0 f:=by
 have hr:=(@LC.go μ.keep _ _ _ hr);exact⟨(kr LF hr hs).imp λO H Q ⟨C,U,ds,x,q,k⟩=>by
  letI:=μ.keep
  intro t ht hsm;have e0:pF C H C (ν H t (.ext (lS t []))):=.ig x.sub ht;refine⟨C,U,ds,x.ev e0.up,q,λvs C' H' ev il=>?_⟩
  have e1:=ev.xv;refine k (.ref t::vs) C' H' t (e0.trans e1) ht ?_ (e1.h _ _ dk) hsm rfl il;cases z:C' t with
  |none=>rfl
  |some u=>
   rcases e1.n t u z with z|z
   .rw[x.sub.free ht]at z;cases z
   .rw[dk]at z;cases z⟩
def PZ (ha:@WD μ.keep X e f) (hr:WAN X es j g) (hs:cK e es X.e:=by exact gu rfl):WAN X (e::es) (j+1) (cM f g):=by
 have ha:=(@WD.go μ.keep _ _ _ ha);have hr:=hr.go;exact⟨(kr ha hr hs).imp λO H Q ⟨C,U,ds,x,q,k⟩=>by
  letI:=μ.keep
  obtain⟨d,hf,q⟩:=qI q;obtain⟨r,hg,rfl⟩:=yN q;exact⟨C,U,d,x,hf,λv C1 H1 e1 i1=>⟨C1,U,r,x.ev e1,hg,λvs C2 H2 a e2 h1 h2 h3 h4 h5 i2=>k (v::vs) C2 H2 a (e1.xv.trans e2) (e1.free h1) h2 h3 h4 h5 (.cons (i1.mono e2.c) i2)⟩⟩⟩
def P0 (c:Y6 X.γ X.w X.K X.mg X.Zc l x j Mf g) (hr:gc l X.A) (hg:Gl X x) (ha:@Y7 (eM a M) X (e::es) i j fa) (yT:AD x:=by decide) (he:cK e es X.e:=by exact gu rfl) (oj:A4 pos es X.e:=by exact hW rfl):@WD (eM a M) X (.Call (.Name x p) (e::es) [] pos) (BR i Mf g M fa):=by
 obtain⟨f,fd,ps,F,hm,hk,hb⟩:=c;letI:=eM a M
 have ha:=ha.go;exact⟨by
  letI:=eM a M
  refine(A5 F hr hg hm hk hb .nil Ej ha yT he oj).imp λO H Q ⟨C,U,d,x,q,fin⟩=>?_
  unfold BR at q;split at q
  .rename_i ks hi;obtain⟨ds,hf,q⟩:=qI q;obtain⟨hM,q1⟩:=nq q;refine⟨C,U,ds,ks,x,hi,hf,λvs C1 H1 a' e1 h1 h2 i1=>?_⟩
   cases h1;obtain⟨a',z1,z2,ok,_⟩:=(x.ev e1).mem i ks hi;rw[bD];subst hM;exact⟨C1,ds,d,a,e1.s,h2,i1,ok,q1,λv C2 H2 e2 i2=>fin v C2 H2 (e1.trans e2) i2⟩
  .cases q⟩
def P4 {l j:Nat}{Mf:cw->fi}{g:cg}{fa:bZ}(c:Y6 X.γ X.w X.K X.mg X.Zc l x j Mf g) (hr:gc l X.A) (hg:Gl X x) (ha:WAN X (e::es) j fa)
  (yT:AD x:=by decide) (he:cK e es X.e:=by exact gu rfl) (oj:A4 pos es X.e:=by exact hW rfl):
  @WD μ.keep X (.Call (.Name x p) (e::es) [] pos) (cV g fa):=by
 obtain⟨f,fd,ps,F,hm,hk,hb⟩:=c;letI:=μ.keep
 have ha:=ha.go;exact⟨by
  letI:=μ.keep
  refine(A5 F hr hg hm hk hb .nil Ej ha yT he oj).imp λO H Q ⟨C,U,d,x,q,fin⟩=>?_
  obtain⟨ds,hf,q⟩:=qI q;refine⟨C,U,ds,x,hf,λvs C1 H1 a e1 h1 h2 h3 h4 h5 i1=>?_⟩
  show Xx j Mf g (vs++[]) H1 Q E0;rw[bD];exact⟨C1,ds,d,a,e1.s,h5,i1,⟨[],BS h2 h4 h3⟩,q,λv C2 H2 e2 i2=>fin v C2 H2 (Wd e1 h1 e2).up i2⟩⟩
def Ni (fs:List Nat) (hu:X.A.units+64<cLine) (hk:@WD (eM a M) X k fk) (ho:PE X o (lu i)) (hb:@rH (eM a M) X C0 H0 body fb) (hm:behindInMarks .NotIn o=false:=by first|exact Bk _|rfl):@WB (eM a M) X C0 H0 (.If (.Compare k [.NotIn] [o] pos) body [] pos') (nL i fs fk fb):=by
 letI:=eM a M
 exact⟨Nh fs hu hk.go ho hb.go hm⟩
def J4 {fk:cc}(hu:X.A.units+64<cLine) (ho:PE X o (lu i)) (hk:@WD (eM a M) X k fk) (hs:vd k):@WD (eM a M) X (.Subscript o k pos) (j7 M i fk):=by
 letI:=eM a M
 exact⟨J3 hu ho hk.go hs⟩
def J5 (hu:X.A.units+64<cLine) (he:@WD (eM a M) X e fe) (ho:PE X o (lu i)) (hk:@WD (eM a M) X k fk) (ha:∀v,assign (.Subscript o k p) X.e v=(do
   let ov <-holding [v] (eval o X.e)
   let iv <-holding [v,ov] (eval k X.e)
   standAt p
   holding [v,ov,iv] (setItem ov iv v)
   release [v,ov,iv] []):=by intro _;rfl) (hs:swapsWithSole [.Subscript o k p] e pos.line X.e=pure false:=by rfl) (hw:swappedStores [.Subscript o k p] e X.e=pure none:=by rfl) (h1:(assignEach [.Subscript o k p] X.e).map (·.2)=[assign (.Subscript o k p) X.e]:=by rfl):@WB (eM a M) X C0 H0 (.Assign [.Subscript o k p] e pos) (mE M i fk fe):=by
 letI:=eM a M
 have he:=he.go;have hk:=hk.go;exact⟨λB=>by
  letI:=eM a M
  refine(Jl he (Oj ho hk (Hq (a:=a) (M:=M) hu) ha) hs hw h1).imp λDn O H ⟨C,U,r,gd,q,fin⟩=>?_
  unfold mE at q;split at q
  .rename_i ks ds d hi PN SO;obtain⟨hc,q⟩:=nq q;cases q;refine⟨C,U,d,gd.x,SO,λv C1 H1 e1 i1=>?_⟩
   have g1:=gd.A7 e1;obtain⟨a',z1,z2,_,_⟩:=g1.x.mem i ks hi;cases z1;refine⟨.ref a,z2,C1,U,.t ds,g1.x,PN,λkv C2 H2 e2 i2=>?_⟩
   have g2:=g1.A7 e2;obtain⟨a',z1,z2,⟨xs,m⟩,_⟩:=g2.x.mem i ks hi;refine⟨C2,ds,d,xs,e2.s,rfl,i2,i1.mono e2.c,hc,m,λys m' pG qF=>fin O C2 _ ?_⟩
   have ev:=Hr e2.s m m' pG;exact(g2.A7 ev).Ex hi ⟨ys,m',qF⟩
  .cases q⟩
end
def P5 {P:cB}{w:cC}{K:W.Frag}{mg:cm}{Zc:Heap}{x qual:Str}{st:cH}{f:cF}{fd:cA}{N ps:List Str}{k:Nat}(F:Bs K x qual st f fd) (S:dF N ps (cZ st)) {fb:cb}
  (gO:∀(fC:cy) (A:cD) (ε:List Env) (s:cz) (H:Hp) (E:XK),gc k (A.deeper (envOfC qual (cZ st) s.dN f fC))->∀C0 H0,@rH μ.keep (t6 nY P w K mg Zc N qual (cZ st) f fC A ε s H E).GJ C0 H0 (gr st) fb):
  gK P w K mg Zc nY (k+1) f fd ps (M8 (gF N.length ps.length fb)):=UD F S λfC A ε s H E hr C0 H0=>@rH.go μ.keep _ _ _ _ _ (gO fC A ε s H E hr C0 H0)
def S5 {P:cB}{w:cC}{K:W.Frag}{mg:cm}{Zc:Heap}{x qual:Str}{st:cH}{f:cF}{fd:cA}{N ps:List Str}{k:Nat}(j:Nat) (Mf:cw->fi) (F:Bs K x qual st f fd) (S:dF N ps (cZ st)) {fb:fi->cb}
  (gO:∀(a:cF) (M:fi) (fC:cy) (A:cD) (ε:List Env) (s:cz) (H:Hp) (E:XK),gc k (A.deeper (envOfC qual (cZ st) s.dN f fC))->∀C0 H0,@rH (eM a M) (t6 nY P w K mg Zc N qual (cZ st) f fC A ε s H E).GJ C0 H0 (gr st) (fb M)):
  gK P w K mg Zc nY (k+1) f fd ps (Xx j Mf (Ht N.length ps.length j Mf fb)):=Wc j Mf F S λa M fC A ε s H E hr C0 H0=>@rH.go (eM a M) _ _ _ _ _ (gO a M fC A ε s H E hr C0 H0)
def J6:bootBuiltins "any"=some (.builtin "any"):=by decide +kernel
def Hu (hc:X.calm=true):jT X (.builtin "any") (λxs H Q=>∃(p:cF) (bs:List Bool),xs=[.ref p]/\ua X.K H p (bs.map V.bl)/\Q (.bl (bs.any id)) H):=by
 intro cL s O H xs us Q I r h;obtain⟨p,bs,rfl,hq,q⟩:=h;obtain⟨u,rfl,r1⟩:=vals1 r;cases r1;obtain⟨dE,rv,pl,hz⟩:=I.list hq;have fR:p<s.dN:=by obtain⟨o,n,e,_⟩:=pl;exact aD e
 have π:=rv.length;rw[ae]at π;have at1:∀(i:Nat) (v:cy),dE.toArray[i]? =some v->v=.bool (bs.getD i false):=λi v hv=>by
  have OA:dE[i]? =some v:=by simpa using hv
  have hi:i<dE.length:=(List.getElem?_eq_some_iff.mp OA).1;have g1:(bs.map V.bl)[i]? =some (.bl (bs.getD i false)):=by
   rw[aw,ah (by omega),ao,ah (by omega)];rfl
  obtain⟨w,h1,h2⟩:=rv.get g1;rw[OA]at h1;cases h1;exact h2
 refine call_any_walk (wpAny_pyIter_list pl.isList ⟨s.dN,_,_,_,_,_,λi=>bs.getD i false,rfl,Walks.list (A:=X.A.in1) (I.ok.hd hc) s.dN p (aF fR) dE.toArray,⟨⟨_,aB _ rfl,rfl,rfl⟩,?_⟩,λi v s' Q' E' hv hQ=>?_,λh' tk kk=>?_⟩)
 .obtain⟨o,n,e,h1,h2,h3⟩:=pl;exact⟨o,ag _ e,h1,n,h3⟩
 .rw[at1 i v hv];exact bR hQ
 .have I1:L2.η X cL O H {s with heap:=s.heap.push {cls:=.type "list_iterator",data:=.fields #[.ref p,.int 0 0]}}:=I.kept (t':=s.toks) λb o e=>ag _ e
  obtain⟨f0,f1,f2,f3,f4,f5⟩:=I.Jm (H':=H) (av _) (I.fU.fresh (av _));have I2:=I1.turned (t':=tk) (h':=h') (it:=s.dN) (λb o hb e=>kk b o (by simpa using hb) e) f0 f1 f3 f4 f5
  refine⟨.bl (bs.any id),H,I2,?_,q⟩;show Value.bool _=Value.bool _
  congr 1
  rw[au,<-π];exact any_map.symm.trans (congrArg (·.any id) (iC bs false))
def Hv:cg
 |[.l ds]=>(uj ds).map λbs=>.bl (bs.any id)
 |_=>none
def P6 (hc:X.calm=true):xB X (.builtin "any") Hv:=by
 refine⟨_,Hu hc,?_⟩;intro C H vs ds d Q s i q k;unfold Hv at q;split at q
 case h_2=>cases q
 rename_i es;obtain⟨bs,hb,rfl⟩:=yN q;letI:=μ.keep
 obtain⟨v,rfl,j⟩:=i.one;obtain⟨p,xs,rfl,hq,l⟩:=j.list (K:=X.K) s;rw[BI hb]at l;cases l.JG;exact⟨p,bs,rfl,hq,k _ C H (.refl s) (.bl _)⟩
end DL
namespace L2
def Ag (ht:IsTup s.heap t vs.toArray) (hQ:Q vs {s with heap:=(s.heap.push (seqObj "list" #[] 0)).update s.dN (Obj.mapSeq (·++vs.toArray))}) (hsz:vs.length<=sizeLine):jH γ w A (collect (.ref t)) Q E s:=by
 obtain⟨o,ho,hc,n,hd⟩:=id ht;unfold collect;refine aa (wpAny_runValue (codeAny_builtin F.entry_proto_collect ?_));rw[bY F.plain_proto_collect _];show wpAny _ A.in1 (newList []>>=λl=>again (.builtin "list.__iadd__" ⟨[l,.ref t],[]⟩)) _ _ s
 refine aa (bS ?_);refine ak ⟨plainId_quiet F.plain_list_iadd _,codeAny_builtin F.entry_list_iadd ?_⟩;rw[bY F.plain_list_iadd _];show wpAny _ A.in1 (Builtin.List.listExtendWith (.ref s.dN) (.ref t) (.ref s.dN)) _ _ _;have hS:(s.heap.push {cls:=.type "list",data:=.seq ([]:cx).toArray}).get? s.dN=some {cls:=.type "list",data:=.seq #[] 0}:=aB _ rfl;have hS₂:=Heap.get?_update_self (Obj.mapSeq (·++vs.toArray)) hS rfl
 have Y8:jH γ w A (match Value.ref s.dN with
   |Value.ref a=>do
    match(<-load a).data with
     |Data.seq xs _=>pure xs.toList
     |_=>unsupported "internal:collect"
   |_=>unsupported "internal:collect") Q E {s with heap:=(s.heap.push {cls:=.type "list",data:=.seq ([]:cx).toArray}).update s.dN (Obj.mapSeq (·++vs.toArray))}:=by
  show wpAny _ A (load s.dN>>=_) _ _ _;refine aa (wpAny_load hS₂ ?_);refine ak ?_;have e:((#[]:Array cy)++vs.toArray).toList=vs:=by simp
  show Q ((#[]:Array cy)++vs.toArray).toList _;rw[e];exact hQ
 refine bQ (wpAny_extend_seq (hsz:=by rw[au];exact hsz) (A:=A) (R:=λr s'=>r=.ok (.ret (.ref s.dN))/\s'={s with heap:=(s.heap.push {cls:=.type "list",data:=.seq ([]:cx).toArray}).update s.dN (Obj.mapSeq (·++vs.toArray))})
  (s:={s with heap:=s.heap.push {cls:=.type "list",data:=.seq ([]:cx).toArray}}) _ t _ 0 (.inr rfl) hS (ag _ ho) hc hd ⟨rfl,rfl⟩) (λfin s' h=>?_) (λe s' h=>?_)
 .cases fin with
  |done f=>
   obtain⟨e,rfl⟩:=h;cases e;exact Y8
  |again c'=>exact⟨h.1,codeAny_mono h.2 λr OH hr=>by obtain⟨rfl,rfl⟩:=hr;exact Y8⟩
 .exact absurd h.1 (by simp)
def FK {t:cF}{vs:cx}{ns:cq}{Q:cj}(ht:IsTup s.heap t vs.toArray) (hI:IntsAre vs ns) (Ad:vs.length<64)
  (h:∀(out:Array cy) (GK:cq),IntsAre out.toList GK->GK.Perm ns->GK.Pairwise (·<= ·)->Q (.ref (s.dN+1)) {s with heap:=sortedAll s.heap vs out}):
  jH γ w A (call (.builtin "sorted") [.ref t]) Q E s:=by
 refine Calls.call_function_entry kind_sorted plain_sorted entry_sorted (args_sorted1 _) ?_;unfold Builtin.«sorted»;refine aa (m:=checkCount "sorted" 1 1 _) (ak ?_);refine aa (Ag ht ?_ (by rw[bx];omega))
 refine aa (wpAny_newList ?_ (hsz:=by rw[bx];omega))
 have hsz:((s.heap.push (seqObj "list" #[] 0)).update s.dN (Obj.mapSeq (·++vs.toArray))).objs.size=s.dN+1:=by
  rw[Heap.size_update,size_push']
 have R3:(((s.heap.push (seqObj "list" #[] 0)).update s.dN (Obj.mapSeq (·++vs.toArray))).push (seqObj "list" vs.toArray 0)).get? (s.dN+1)=some (seqObj "list" vs.toArray 0):=by
  rw[<-hsz];exact aB _ rfl
 show wpAny _ _ _ _ _ {s with heap:=((s.heap.push (seqObj "list" #[] 0)).update s.dN (Obj.mapSeq (·++vs.toArray))).push (seqObj "list" vs.toArray 0)}
 rw[hsz];refine aa (bo (bN slot_list_sort ⟨_,R3,rfl⟩ entry_list_sort (list_sort_tree R3 hI Ad λout GK a1 a2 a3=>⟨_,rfl,?_⟩) (args_list_sort _)))
 exact ak ⟨_,rfl,h out GK a1 a2 a3⟩
def xQ:jT X (.builtin "sorted") (λxs H Q=>∃(p:cF) (ns:cq),xs=[.ref p]/\lr X.K H p (ns.map V.int)/\ns.length<64/\∀(l:cF) (ms:cq),H l=none->ms.Perm ns->ms.Pairwise (·<= ·)->Q (.ref l) (ν H l (.l (ms.map V.int)))):=by
 intro cL s O H xs us Q I r h;obtain⟨p,ns,rfl,hq,Ad,q⟩:=h;obtain⟨u,rfl,rx⟩:=vals1 r;cases rx;obtain⟨dE,rv,pl,hz⟩:=I.tuple hq;have hi:IntsAre dE ns:=intsAre_of rv;have hl:=hi.length;refine FK pl hi (by omega) λout GK a1 a2 a3=>?_
 obtain⟨e,he⟩:=sortedAll_at s.heap dE out;refine⟨.ref (s.dN+1),_,I.laid (t':=s.toks) (o:=.l (GK.map V.int)) (λb o z=>sortedAll_old z) (Nat.le_succ _) ?_,rfl,q _ GK (I.fU.fresh (Nat.le_succ _)) a2 a3⟩
 refine⟨?_,out.toList,e,ve a1,by simpa using he⟩
 have:=a2.length_eq;rw[ae];exact bh (kX (by omega))
end L2
namespace DL
open L2
def mF:cw->Option (cw)
 |[.t ds]=>if ds.length<64 then(χ ds).map λns=>(ξ ns).map D.int else none
 |_=>none
def vj (hu:X.A.units+64<cLine):Pe X (.builtin "sorted") mF:=by
 refine⟨_,xQ,?_⟩;intro C H vs ds d Q s i q k;unfold mF at q;split at q
 case h_2=>cases q
 rename_i es;obtain⟨Ad,q⟩:=nq q;obtain⟨ns,hn,rfl⟩:=yN q;letI:=μ.keep
 obtain⟨v,rfl,j⟩:=i.one;obtain⟨p,xs,rfl,hq,l,_⟩:=j.t (K:=X.K) s;have e:=fE hn;subst e;cases l.nC;rw[ae]at Ad;refine⟨p,ns,rfl,hq,Ad,λt ms ht pm pw=>?_⟩
 have e:ms=ξ ns:=ik (λa b h1 h2=>by omega) (pm.trans (sortI_perm ns).symm) pw (BK ns)
 subst e;exact k t _ C _ (.ig s ht) ht (s.free ht) dk (.ints _)
structure OC where
 cl:cF
 fG:Str
 fK:Str
 Mf:D->fi
structure mG where
 o:cF
 dx:cF
 a:cF
structure g9 (Y:OC) (A:mG) (G:D) (C H:Hp) (xs:List (D×cF×cy)):Prop where
 h:∃fs gv,H A.o=some (.ins Y.cl A.dx fs)/\fs.lookup Y.fG=some gv/\fs.lookup Y.fK=some (.ref A.a)/\(∀m,m≠Y.fG->m≠Y.fK->fs.lookup m=none)/\Is C gv G
 c:C A.o=none
 m:eR A.a (Y.Mf G) C H xs
section
variable {Y:OC}{A:mG}{G:D}{C H C' H':Hp}{xs:List (D×cF×cy)}
theorem g9.Xw (m:g9 Y A G C H xs) (e:pF C H C' H'):g9 Y A G C' H' xs where
 h:=let ⟨fs,gv,h1,h2,h3,h4,h5⟩:=m.h;⟨fs,gv,e.h _ _ h1,h2,h3,h4,h5.mono e.c⟩
 c:=by
  obtain⟨fs,gv,h1,_⟩:=m.h;cases q:C' A.o with
  |none=>rfl
  |some u=>
   rcases e.n A.o u q with z|z
   .rw[m.c]at z;cases z
   .rw[h1]at z;cases z
 m:=m.m.Xw e
theorem g9.DC (m:g9 Y A G C H xs) {b:cF}{o:HO}(hb:b≠A.o) (Y9:b≠A.a):g9 Y A G C (ν H b o) xs where
 h:=let ⟨fs,gv,h1,h2⟩:=m.h;⟨fs,gv,by rw[de (Ne.symm hb)];exact h1,h2⟩
 c:=m.c
 m:=m.m.DC Y9
theorem g9.DD (m:g9 Y A G C H xs) {b:cF}{o:HO}(hb:b≠A.o) (Y9:b≠A.a) (hc:C b=none):g9 Y A G (ν C b o) H xs where
 h:=let ⟨fs,gv,h1,h2,h3,h4,h5⟩:=m.h;⟨fs,gv,h1,h2,h3,h4,h5.mono (fj hc)⟩
 c:=by rw[de (Ne.symm hb)];exact m.c
 m:=m.m.DD Y9 hc
theorem g9.ne (m:g9 Y A G C H xs) (h:∀u,H b=some u->Jh u=false):b≠A.o/\b≠A.a:=by
 refine⟨λz=>?_,m.m.ne h⟩
 obtain⟨fs,gv,h1,_⟩:=m.h;subst z;have:=h _ h1;cases this
theorem g9.UG (m:g9 Y A G C H xs) (h:H b=none):b≠A.o/\b≠A.a:=by
 refine⟨λz=>?_,m.m.UG h⟩
 obtain⟨fs,gv,h1,_⟩:=m.h;subst z;rw[h1]at h;cases h
theorem g9.UH (m:g9 Y A G C H xs) {b:cF}{o:HO}(ho:H b=some o) (hx:Jh o=false):b≠A.o/\b≠A.a:=m.ne λu q=>by rw[ho]at q;cases q;exact hx
theorem g9.oa (m:g9 Y A G C H xs):A.o≠A.a:=λz=>by
 obtain⟨fs,gv,h1,_⟩:=m.h;have:=m.m.h;rw[<-z,h1]at this;cases this
end
@[reducible] noncomputable def dq (Y:OC) (A:mG) (G:D):μ where
 cell:=some A.a
 face:=some A.o
 ok:=λC H=>∃xs,g9 Y A G C H xs
 has:=λC H k=>∃xs,g9 Y A G C H xs/\k∈xs.map (·.1)
 rel:=λC H C' H'=>((∃xs,g9 Y A G C H xs)->∃xs,g9 Y A G C' H' xs)/\∀k,(∃xs,g9 Y A G C H xs/\k∈xs.map (·.1))->∃xs,g9 Y A G C' H' xs/\k∈xs.map (·.1)
 of0:=λe=>⟨λ⟨xs,m⟩=>⟨xs,m.Xw e⟩,λk ⟨xs,m,hk⟩=>⟨xs,m.Xw e,hk⟩⟩
 trans:=λr1 r2=>⟨λh=>r2.1 (r1.1 h),λk h=>r2.2 k (r1.2 k h)⟩
 chg:=λ{_ _ _ _ b o} r hb=>⟨λ⟨xs,m⟩=>let ⟨ys,m'⟩:=r.1 ⟨xs,m⟩;⟨ys,m'.DC (m.UG hb).1 (m.UG hb).2⟩,λk ⟨xs,m,hk⟩=>let ⟨ys,m',pG⟩:=r.2 k ⟨xs,m,hk⟩;⟨ys,m'.DC (m.UG hb).1 (m.UG hb).2,pG⟩⟩
 give:=λ{_ _ _ H' b o} r hc ho hx=>⟨λh=>let ⟨ys,m'⟩:=r.1 h;⟨ys,m'.DD (m'.UH ho hx).1 (m'.UH ho hx).2 hc⟩,λk h=>let ⟨ys,m',pG⟩:=r.2 k h;⟨ys,m'.DD (m'.UH ho hx).1 (m'.UH ho hx).2 hc,pG⟩⟩
 Xq:=λr h=>r.1 h
 O6:=λr _ h=>r.2 _ h
 Xr:=λ⟨xs,m⟩ h=>⟨xs,m.DC (m.ne h).1 (m.ne h).2⟩
 M4:=λ_ h ⟨xs,m,hk⟩=>⟨xs,m.DC (m.ne h).1 (m.ne h).2,hk⟩
 YL:=λ{_ _ b o} ⟨xs,m⟩ hc ho hx=>⟨xs,m.DD (m.UH ho hx).1 (m.UH ho hx).2 hc⟩
 O7:=λ{_ _ b o k} _ hc ho hx ⟨xs,m,hk⟩=>⟨xs,m.DD (m.UH ho hx).1 (m.UH ho hx).2 hc,hk⟩
noncomputable def lB (G:D) (i:Nat):cc:=λU=>match U[i]? with
 |some (.m _)=>some G
 |_=>none
structure qN (K:W.Frag) (Y:OC):Prop where
 cl:RS K Y.cl
 nG:ug K Y.cl Y.fG
 nK:ug K Y.cl Y.fK
section
variable {X:Cx}{Y:OC}{A:mG}{G:D}{o:cG}{i:Nat}
def S6 (Z:qN X.K Y) (ho:PE X o (lu i)) (hb:attributeBase o Y.fG X.e (eval o X.e)=eval o X.e):@PD (dq Y A G) X (.Attribute o Y.fG po) (lB G i):=by
 letI:=dq Y A G
 refine(Fe ho hb).imp λO H Q ⟨C,U,d,x,q,fin⟩=>?_
 unfold lB at q;split at q
 .rename_i ks hi;cases q;obtain⟨a',h1,h2,⟨xs,m⟩,_⟩:=x.mem i ks hi;cases h1;obtain⟨fs,gv,g1,g2,g3,g4,g5⟩:=m.h;exact⟨.ref A.o,h2,A.o,Y.cl,A.dx,fs,gv,rfl,g1,Z.cl,Z.nG,g2,fin gv C H (.refl x.sub) g5⟩
 .cases q
def Wg (Z:qN X.K Y) (x:@Sx (dq Y A G) U O C H) (hi:U[i]? =some (.m ks)) (q:Q (.ref A.a) H):Yj X.K (lu i) Y.fK O H Q:=by
 obtain⟨a',h1,h2,⟨xs,m⟩,_⟩:=@Sx.mem (dq Y A G) _ _ _ _ x i ks hi;cases h1;obtain⟨fs,gv,g1,g2,g3,g4,g5⟩:=m.h;exact⟨.ref A.o,h2,A.o,Y.cl,A.dx,fs,_,rfl,g1,Z.cl,Z.nK,g3,q⟩
def J7 (s:eA C H) (m:g9 Y A G C H xs) (m':eR A.a (Y.Mf G) C (ν H A.a (.ext (lS A.a ys))) ys) (hk:∀k,(∃zs,eR A.a (Y.Mf G) C H zs/\k∈zs.map (·.1))->k∈ys.map (·.1)):g9 Y A G C (ν H A.a (.ext (lS A.a ys))) ys/\@Ev (dq Y A G) C H C (ν H A.a (.ext (lS A.a ys))):=by
 letI:=dq Y A G
 have m2:g9 Y A G C (ν H A.a (.ext (lS A.a ys))) ys:=⟨let ⟨fs,gv,h1,h2⟩:=m.h;⟨fs,gv,by rw[de m.oa];exact h1,h2⟩,m.c,m'⟩
 refine⟨m2,eA.refl _,λb o q h=>?_,λb o q h x=>?_,λb u q=>?_,λb u q=>.inl q,⟨λ_=>⟨ys,m2⟩,λk ⟨zs,mz,hz⟩=>⟨ys,m2,hk k ⟨zs,mz.m,hz⟩⟩⟩⟩
 .have:b≠A.a:=λz=>by
   subst z;rcases h with h|h
   .exact h rfl
   .rw[m.m.h]at q;cases q;cases h
  rw[de this];exact q
 .cases h;exact⟨_,dk,rfl⟩
 .rw[de (dw q m.m.c)];exact s b u q
end
def P7 (Y:OC) (g:cg):Sp:=λvs H Q _=>∃C G ds d A ws,eA C H/\vs=.ref A.o::ws/\τ C ws ds/\(∃xs,g9 Y A G C H xs)/\g (G::ds)=some d/\∀v C' H',@Ev (dq Y A G) C H C' H'->Is C' v d->Q v H'
noncomputable def gj (i:Nat) (G:D) (g:cg) (f:bZ):cc:=λU=>match U[i]? with
 |some (.m _)=>(f U).bind λds=>g (G::ds)
 |_=>none
def P8 (hF:gK X.γ X.w X.K X.mg X.Zc nY k f fd ps (P7 Y g)) (hr:gc k X.A) (hg:Gl X x) (hm:X.mg x=some (.ref f)) (hk:W.keepIn X.K (.ref f)=true) (hb:Binds X.K fd ps [])
  (ha:@PAM (dq Y A G) X (e::es) i 0 fa) (yT:AD x:=by decide) (he:cK e es X.e:=by exact gu rfl) (oj:A4 pos es X.e:=by exact hW rfl):
  @PD (dq Y A G) X (.Call (.Name x p) (e::es) [] pos) (gj i G g fa):=by
 letI:=dq Y A G
 refine(A5 hF hr hg hm hk hb .nil Ej ha yT he oj).imp λO H Q ⟨C,U,d,x,q,fin⟩=>?_
 unfold gj at q;split at q
 .rename_i ks hi;obtain⟨ds,hf,q⟩:=qI q;refine⟨C,U,ds,ks,x,hi,hf,λvs C1 H1 a' e1 h1 h2 i1=>?_⟩
  cases h1;obtain⟨_,_,_,ok,_⟩:=(x.ev e1).mem i ks hi;rw[bD];cases vs with
  |nil=>cases h2
  |cons v vs=>
   cases h2;exact⟨C1,G,ds,d,A,vs,e1.s,rfl,i1,ok,q,λv C2 H2 e2 i2=>fin v C2 H2 (e1.trans e2) i2⟩
 .cases q
def i9 (n np:Nat) (fb:D->cb):cg
 |G::ds=>if ds.length+1=np/\0<np then(match fb G (startM n np 0 ds)with|some (.ret d)=>some d|some (.next _)=>some .eZ|_=>none)else none
 |[]=>none
def Wh {P:cB}{w:cC}{K:W.Frag}{mg:cm}{Zc:Heap}{x qual:Str}{st:cH}{f:cF}{fd:cA}{N ps:List Str}{k:Nat}(Y:OC) (F:Bs K x qual st f fd) (S:dF N ps (cZ st)) {fb:D->cb}
  (gO:∀(A:mG) (G:D) (fC:cy) (Ar:cD) (ε:List Env) (s:cz) (H:Hp) (E:XK),gc k (Ar.deeper (envOfC qual (cZ st) s.dN f fC))->∀C0 H0,@N4 (dq Y A G) (t6 nY P w K mg Zc N qual (cZ st) f fC Ar ε s H E).GJ C0 H0 (gr st) (fb G)):
  gK P w K mg Zc nY (k+1) f fd ps (P7 Y (i9 N.length ps.length fb)):=by
 refine F.ok S (λvs H Q E h=>?_) (λfC Ar ε s H vs Q E hr h=>?_)
 all_goals
  obtain⟨C,G,ds,d,A,ws,sub,rfl,i,ok,q,fin⟩:=h;simp only[i9]at q;obtain⟨hl,q⟩:=nq q
 .rw[az,i.length];exact hl.1
 .letI:=dq Y A G
  exact⟨tS C C H (fb G),gO A G fC Ar ε s H E hr C H C,n8 (zh (j:=0) S sub rfl i hl rfl ok) q fin⟩
def BV (Y:OC) (H:Hp) (x dx p:cF) (gv:V):Hp:=ν (ν (ν H x (.ins Y.cl dx (rL Y.fG gv []))) p (.ext (lS p []))) x (.ins Y.cl dx (rL Y.fK (.ref p) (rL Y.fG gv [])))
def P9 (Y:OC):TS:=λDn O H=>∃x dx gv,O[0]? =some (some (.ref x))/\O[1]? =some (some gv)/\H x=some (.ins Y.cl dx [])/\∀p,p≠x->H p=none->(p==sysModules)=false->Dn.nx O (BV Y H x dx p gv)
def J8 (Y:OC):Sp:=λvs H Q _=>∃x dx gv,vs=[.ref x,gv]/\H x=some (.ins Y.cl dx [])/\∀p,p≠x->H p=none->(p==sysModules)=false->Q .eZ (BV Y H x dx p gv)
def Qa (Z:qN X.K Y) (h0:PE X e0 (lu 0)) (h1:PE X e1 (lu 1)) (h2:PE X e2 (lu 0))
  (s1:swapsWith e1 (some (.Attribute e0 Y.fG p1)) p2.line X.e=pure false) (s2:swapsWith (.Dict [] [] p4) (some (.Attribute e2 Y.fK p3)) p5.line X.e=pure false):
  Df X [.Assign [.Attribute e0 Y.fG p1] e1 p2,.Assign [.Attribute e2 Y.fK p3] (.Dict [] [] p4) p5] (P9 Y):=λcL s O H Dn I h=>by
 obtain⟨x,dx,gv,q0,q1,hx,fin⟩:=h;refine xi (OE h0 h1 s1) (Ld (OE h2 (LF (pos:=p4)) s2)) cL s O H Dn I ?_;refine⟨gv,q1,.ref x,q0,x,Y.cl,dx,[],rfl,hx,Z.cl,Z.nG,by decide,?_⟩
 intro p hp hs;have jI:p≠x:=λz=>by subst z;rw[dk]at hp;cases hp
 refine⟨.ref x,q0,x,Y.cl,dx,_,rfl,by rw[de (Ne.symm jI),dk],Z.cl,Z.nK,by show(1:Nat)<1000;decide,?_⟩
 exact fin p jI (by rw[de jI]at hp;exact hp) hs
def S7 {P:cB}{w:cC}{K:W.Frag}{mg:cm}{Zc:Heap}{x qual:Str}{st:cH}{f:cF}{fd:cA}{N:List Str}{p1 p2:Str}{k:Nat}(Y:OC) (F:Bs K x qual st f fd) (S:dF N [p1,p2] (cZ st)) (hN:N.length=2)
  (gO:∀(fC:cy) (Ar:cD) (ε:List Env) (s:cz) (H:Hp) (E:XK),Df (t6 nY P w K mg Zc N qual (cZ st) f fC Ar ε s H E).GJ (gr st) (P9 Y)):
  gK P w K mg Zc nY (k+1) f fd [p1,p2] (J8 Y):=by
 refine F.ok S (λvs H Q E h=>?_) (λfC Ar ε s H vs Q E hr h=>?_)
 .obtain⟨x,dx,gv,rfl,_⟩:=h;rfl
 .obtain⟨x,dx,gv,rfl,hx,fin⟩:=h;refine⟨P9 Y,gO fC Ar ε s H E,x,dx,gv,?_,?_,hx,fin⟩<;>rfl
def UI (Y:OC) (fg:cc):TE:=λO H Q=>∃C U G,@Sx μ.keep U O C H/\fg U=some G/\∀A C' H',pF C H C' H'->H A.o=none->H A.a=none->g9 Y A G C' H' []->Q (.ref A.o) H'
section
variable {G:D}{o:cG}{es:List cG}{i k:Nat}{x:Str}{fg:cc}
def LJ (e1:pF C H C1 H1) (hn:H A.a=none) (e2:@Ev (dq Y A G) C1 H1 C2 H2):pF C H C2 H2:=by
 letI:=dq Y A G
 refine⟨e1.c.trans e2.c,λb o q=>?_,e2.s,λb u q=>?_⟩
 .have hb:b≠A.a:=λz=>by subst z;rw[hn]at q;cases q
  exact e2.h b o (e1.h b o q) (.inl λz=>hb (aT z).symm)
 .rcases e2.n b u q with z|z
  .exact e1.n b u z
  .exact .inr (e1.h.free z)
def FL (i:Nat) (fg:cc) (fr:D->cb):cb:=λU=>
 if noOwn U=true/\i<U.length then(fg U).bind λG=>(fr G (U.set i (.m []))).bind (DE i)else none
def FN (g:@Gd μ.keep B C0 H0 U O C H) (e0:pF C H C1 H1) (hn:H A.a=none) (g2:@Gd (dq Y A G) B C1 H1 δ' σ' C2 H2) (hm:sd (δ'.set i .n)=true):@Gd μ.keep B C0 H0 (δ'.set i .n) σ' C2 H2:=by
 have e1:pF C0 H0 C H:=(@Gd.ev μ.keep _ _ _ _ _ _ _ g).xv;have e2:pF C0 H0 C2 H2:=LJ (e1.trans e0) (e1.h.free hn) (@Gd.ev (dq Y A G) _ _ _ _ _ _ _ g2);have x2:=@Gd.x (dq Y A G) _ _ _ _ _ _ _ g2;have own:∀{k:Nat}{ds:cw},(δ'.set i Sl.n)[k]? =some (.o ds)->δ'[k]? =some (.o ds):=λ{k ds} q=>by
  rcases Ce q with⟨_,z⟩|⟨_,z⟩
  .cases z
  .exact z
 letI:=μ.keep
 refine⟨@Gd.b (dq Y A G) _ _ _ _ _ _ _ g2,e2.up,⟨e2.s,λk d q=>?_,λk ds q=>@Sx.o (dq Y A G) _ _ _ _ x2 k ds (own q),λk l ds es b q1 q2=>@Sx.Dv (dq Y A G) _ _ _ _ x2 k l ds es b (own q1) (own q2),by rw[length_set];exact @Sx.len (dq Y A G) _ _ _ _ x2,λk ks q=>(zi hm q).elim⟩,λk ds b q1 q2=>?_⟩
 .rcases Ce q with⟨_,z⟩|⟨_,z⟩
  .cases z
  .exact @Sx.d (dq Y A G) _ _ _ _ x2 k d z
 .exact(e1.trans e0).h.free (@Gd.fr (dq Y A G) _ _ _ _ _ _ _ g2 k ds b (own q1) q2)
def J9 (i:Nat) {y:Str}{fr:D->cb}(hN:X.N.Nodup) (ho:PE X o (UI Y fg)) (hr:∀(A:mG) (G:D) (C1 H1:Hp),@N4 (dq Y A G) X C1 H1 rest (fr G)) (hi:X.N[i]? =some y) (hx:Loc X.e.scope y) (hs:swapsWith o (some (.Name y py)) pos.line X.e=pure false) (hf:X.fn y=true\/X.e.scope.names.lookup y=some .local):@N4 μ.keep X C0 H0 (.Assign [.Name y py] o pos::rest) (FL i fg fr):=λB=>by
 have ex:Df X rest (λDn O H=>∃(A:mG) (G:D) (C1 H1:Hp),@tS (dq Y A G) B C1 H1 (fr G) Dn O H):=λcL s O H Dn I ⟨A,G,C1,H1,q⟩=>hr A G C1 H1 B cL s O H Dn I q
 refine(xi (Fc hN hi hx ho hs hf) ex).imp λDn O H ⟨C,U,r,gd,q,fin⟩=>?_
 obtain⟨hc,q⟩:=nq q;obtain⟨FO,π⟩:=hc;obtain⟨G,hM,q⟩:=qI q;obtain⟨r',N3,q⟩:=qI q;have x0:=@Gd.x μ.keep _ _ _ _ _ _ _ gd;refine⟨C,U,G,x0,hM,λA C1 H1 e0 n1 n2 mm=>?_⟩
 have e1:pF C0 H0 C H:=(@Gd.ev μ.keep _ _ _ _ _ _ _ gd).xv;have g1:@Gd (dq Y A G) B C1 H1 (U.set i (.m [])) (O.set i (some (.ref A.o))) C1 H1:=by
  letI:=dq Y A G
  have hl:=@Sx.len μ.keep _ _ _ _ x0;refine⟨(@Gd.b μ.keep _ _ _ _ _ _ _ gd).trans e0.c,.refl e0.s,⟨e0.s,λk d z=>?_,λk ds z=>?_,λk l ds es b z=>?_,by simp[hl],λk ks z=>?_⟩,λk ds b z=>?_⟩
  .rcases Ce z with⟨_,z⟩|⟨hk,z⟩
   .cases z
   .obtain⟨v,h1,h2⟩:=@Sx.d μ.keep _ _ _ _ x0 k d z;exact⟨v,by rw[aH (Ne.symm hk)];exact h1,h2.mono e0.c⟩
  .rcases Ce z with⟨_,z⟩|⟨hk,z⟩
   .cases z
   .exact(qL FO z).elim
  .rcases Ce z with⟨_,z⟩|⟨hk,z⟩
   .cases z
   .exact(qL FO z).elim
  .rcases Ce z with⟨rfl,z'⟩|⟨hk,z⟩
   .cases z';exact⟨A.o,rfl,by rw[bf (by rw[<-hl];exact π)],⟨[],mm⟩,λk hk=>by cases hk⟩
   .obtain⟨b,h1,_⟩:=@Sx.mem μ.keep _ _ _ _ x0 k ks z;cases h1
  .rcases Ce z with⟨_,z⟩|⟨hk,z⟩
   .cases z
   .exact(qL FO z).elim
 refine⟨A,G,C1,H1,C1,_,r',g1,N3,?_⟩;cases r' with
 |next δ'=>
  simp only[DE]at q;obtain⟨hm,q⟩:=nq q;cases q;exact λσ' C2 H2 g2=>fin σ' C2 H2 (FN gd e0 n2 g2 hm)
 |ret d=>
  cases q;exact λv C2 H2 ev iv=>fin v C2 H2 (@pF.up μ.keep _ _ _ _ (LJ (e1.trans e0) (e1.h.free n2) ev)) iv
 |brk δ'=>
  simp only[DE]at q;obtain⟨hm,q⟩:=nq q;cases q;exact λσ' C2 H2 g2=>fin σ' C2 H2 (FN gd e0 n2 g2 hm)
 |cont δ'=>
  simp only[DE]at q;obtain⟨hm,q⟩:=nq q;cases q;exact λσ' C2 H2 g2=>fin σ' C2 H2 (FN gd e0 n2 g2 hm)
end
def UJ (P:cB) (w:cC) (K:W.Frag) (mg:cm) (Zc:Heap) (k:Nat) (Y:OC) (m:Str) (g:cg):Prop:=
 ∃f fd ps,gK P w K mg Zc nY k f fd ps (P7 Y g)/\Meth K Y.cl m f/\Binds K fd ps []/\m≠Y.fG/\m≠Y.fK
def abP (P:cB) (w:cC) (K:W.Frag) (mg:cm) (Zc:Heap) (k:Nat) (Y:OC) (x:Str) (g:cg):Prop:=
 ∃f fd ps,gK P w K mg Zc nY k f fd ps (P7 Y g)/\mg x=some (.ref f)/\W.keepIn K (.ref f)=true/\Binds K fd ps []
def zk (P:cB) (w:cC) (K:W.Frag) (mg:cm) (Zc:Heap) (k:Nat) (Y:OC) (x:Str):Prop:=
 ∃f fd ps,gK P w K mg Zc nY k f fd ps (J8 Y)/\Mk K Y.cl f/\mg x=some (.ref Y.cl)/\Binds K fd ps []/\Y.fK≠Y.fG
theorem zk.mono {P:cB}{w:cC}{K:W.Frag}{mg:cm}{Zc:Heap}{k l:Nat}{Y:OC}{x:Str}(c:zk P w K mg Zc k Y x) (h:k<=l:=by omega):zk P w K mg Zc l Y x:=
 let ⟨f,fd,ps,F,r⟩:=c;⟨f,fd,ps,F.mono h,r⟩
def xR {P:cB}{w:cC}{K:W.Frag}{mg:cm}{Zc:Heap}{k:Nat}{f:cF}{fd:cA}{ps:List Str}{Y:OC}:gK P w K mg Zc nY k f fd ps (P7 Y λ_=>none):=
 PU (by rintro _ _ _ _ ⟨_,_,_,_,_,_,_,_,_,_,q,_⟩;cases q)
structure Za (X:Cx) (Y:OC) (e:cG) (f:cc):Prop where
 go:PE X e (UI Y f)
section
variable {G:D}{o:cG}{m x:Str}
def pL (Z:qN X.K Y) (ho:PE X o (lu i)) (hb:attributeBase o Y.fG X.e (eval o X.e)=eval o X.e:=by rfl):@WD (dq Y A G) X (.Attribute o Y.fG po) (lB G i):=by
 letI:=dq Y A G
 exact⟨S6 Z ho hb⟩
def Qb (fs:List Nat) (hu:X.A.units+64<cLine) (Z:qN X.K Y) (hk:@WD (dq Y A G) X k fk) (ho:PE X o (lu i)) (Zb:@rH (dq Y A G) X C0 H0 body fb) (hb:attributeBase o Y.fK X.e (eval o X.e)=eval o X.e:=by rfl) (hm:behindInMarks .NotIn (.Attribute o Y.fK po)=false:=by first|exact Bk _|rfl):@WB (dq Y A G) X C0 H0 (.If (.Compare k [.NotIn] [.Attribute o Y.fK po] pos) body [] pos') (nL i fs fk fb):=by
 letI:=dq Y A G
 have hk:=hk.go;have Zb:=Zb.go;exact⟨λB=>by
  letI:=dq Y A G
  refine(Oh (Fd (xO (a:=A.a) (M:=Y.Mf G) hu) hk (Fe ho hb) hm) (Zb B) Fb).imp λDn O H ⟨C,U,r,gd,q,fin⟩=>?_
  unfold nL at q;split at q
  .rename_i ks ds δ2 hi PN JY;obtain⟨hc,q⟩:=nq q;obtain⟨c1,c2,c3⟩:=hc;cases q;refine⟨C,U,.t ds,gd.x,PN,λv C1 H1 e1 i1=>?_⟩
   have g1:=gd.A7 e1;obtain⟨a',h1,h2,⟨xs,m⟩,h4⟩:=g1.x.mem i ks hi;refine Wg Z g1.x hi ⟨C1,ds,xs,e1.s,i1,c1,c2,rfl,m.m,_,rfl,?_⟩;cases hs:(atKey xs (.t ds)).isSome with
   |true=>exact Dt (fin O C1 H1 ((g1.Ex hi ⟨xs,m,vh.mp hs⟩).weak (Af fs U i _ ks)))
   |false=>exact Bu ⟨C1,U,.next δ2,g1,JY,λσ' C' H' g'=>fin σ' C' H' (g'.weak c3)⟩
  .cases q⟩
def Nj (hu:X.A.units+64<cLine) (Z:qN X.K Y) (ho:PE X o (lu i)) (hk:@WD (dq Y A G) X k fk) (hs:vd k) (hb:attributeBase o Y.fK X.e (eval o X.e)=eval o X.e:=by rfl):@WD (dq Y A G) X (.Subscript (.Attribute o Y.fK po) k pos) (j7 (Y.Mf G) i fk):=by
 letI:=dq Y A G
 have hk:=hk.go;exact⟨by
  letI:=dq Y A G
  refine(ON (LD (a:=A.a) (M:=Y.Mf G) hu) (Fe ho hb) hk hs).imp λO H Q ⟨C,U,d,x,q,fin⟩=>?_
  unfold j7 at q;split at q
  .rename_i ks ds hi PN;obtain⟨hc,q⟩:=nq q;obtain⟨c1,c2,c3⟩:=hc;refine Wg Z x hi ⟨C,U,.t ds,x,PN,λv C1 H1 e1 i1=>?_⟩
   obtain⟨a',h1,_,_,h4⟩:=(x.ev e1).mem i ks hi;obtain⟨xs,m,hx⟩:=h4 _ c3;refine⟨C1,ds,xs,e1.s,rfl,i1,c1,c2,m.m,hx,λw d' hw iw=>?_⟩
   rw[q]at hw;cases hw;exact fin w C1 H1 e1 iw
  .cases q⟩
def Nk (hu:X.A.units+64<cLine) (Z:qN X.K Y) (he:@WD (dq Y A G) X e fe) (ho:PE X o (lu i)) (hk:@WD (dq Y A G) X k fk) (hb:attributeBase o Y.fK X.e (eval o X.e)=eval o X.e:=by rfl) (ha:∀v,assign (.Subscript (.Attribute o Y.fK po) k p) X.e v=(do
   let ov <-holding [v] (eval (.Attribute o Y.fK po) X.e)
   let iv <-holding [v,ov] (eval k X.e)
   standAt p
   holding [v,ov,iv] (setItem ov iv v)
   release [v,ov,iv] []):=by intro _;rfl) (hs:swapsWithSole [.Subscript (.Attribute o Y.fK po) k p] e pos.line X.e=pure false:=by rfl) (hw:swappedStores [.Subscript (.Attribute o Y.fK po) k p] e X.e=pure none:=by rfl) (h1:(assignEach [.Subscript (.Attribute o Y.fK po) k p] X.e).map (·.2)=[assign (.Subscript (.Attribute o Y.fK po) k p) X.e]:=by rfl):@WB (dq Y A G) X C0 H0 (.Assign [.Subscript (.Attribute o Y.fK po) k p] e pos) (mE (Y.Mf G) i fk fe):=by
 letI:=dq Y A G
 have he:=he.go;have hk:=hk.go;exact⟨λB=>by
  letI:=dq Y A G
  refine(Jl he (Oj (Fe ho hb) hk (Hq (a:=A.a) (M:=Y.Mf G) hu) ha) hs hw h1).imp λDn O H ⟨C,U,r,gd,q,fin⟩=>?_
  unfold mE at q;split at q
  .rename_i ks ds d hi PN SO;obtain⟨hc,q⟩:=nq q;cases q;refine⟨C,U,d,gd.x,SO,λv C1 H1 e1 i1=>?_⟩
   have g1:=gd.A7 e1;refine Wg Z g1.x hi ⟨C1,U,.t ds,g1.x,PN,λkv C2 H2 e2 i2=>?_⟩
   have g2:=g1.A7 e2;obtain⟨a',z1,z2,⟨xs,m⟩,_⟩:=g2.x.mem i ks hi;refine⟨C2,ds,d,xs,e2.s,rfl,i2,i1.mono e2.c,hc,m.m,λys m' pG qF=>fin O C2 _ ?_⟩
   obtain⟨m2,ev⟩:=J7 e2.s m m' pG;exact(g2.A7 ev).Ex hi ⟨ys,m2,qF⟩
  .cases q⟩
def oB (Z:qN X.K Y) (c:UJ X.γ X.w X.K X.mg X.Zc l Y m g) (hr:gc l X.A) (ho:PE X o (lu i)) (ha:@LC (dq Y A G) X (e::es) fa) (uf:cK e es X.e:=by exact gu rfl) (oj:A4 pos es X.e:=by exact hW rfl) (ht:eval (.Call (.Attribute o m apos) (e::es) [] pos) X.e=(do
   let ov <-eval o X.e
   standAt apos.atName
   let (f,first) <-holding [ov] (getMethod ov m pl)
   callWith pos f first (backTo pos (starEach (e::es) X.e)) (backToKw pos (keywordEach [] X.e))):=by rfl):@WD (dq Y A G) X (.Call (.Attribute o m apos) (e::es) [] pos) (gj i G g fa):=by
 obtain⟨f,fd,ps,F,hm,hb,h1,h2⟩:=c;letI:=dq Y A G
 have ha:=ha.go;exact⟨by
  letI:=dq Y A G
  refine(Si ho Z.cl hm F hr hb .nil Ej ha uf oj ht).imp λO H Q ⟨C,U,d,x,q,fin⟩=>?_
  unfold gj at q;split at q
  .rename_i ks hi;obtain⟨ds,hf,q⟩:=qI q;obtain⟨a',z1,z2,⟨xs,mm⟩,_⟩:=x.mem i ks hi;cases z1;obtain⟨fs,gv,g1,g2,g3,g4,g5⟩:=mm.h;refine⟨.ref A.o,z2,A.o,A.dx,fs,rfl,g1,g4 m h1 h2,C,U,ds,x,hf,λvs C1 H1 e1 i1=>?_⟩
   obtain⟨_,_,_,ok,_⟩:=(x.ev e1).mem i ks hi;show P7 Y g (V.ref A.o::(vs++[])) H1 Q E0;rw[bD];exact⟨C1,G,ds,d,A,vs,e1.s,rfl,i1,ok,q,λv C2 H2 e2 i2=>fin v C2 H2 (e1.trans e2) i2⟩
  .cases q⟩
def uq (c:abP X.γ X.w X.K X.mg X.Zc l Y x g) (hr:gc l X.A) (hg:Gl X x) (ha:@Y7 (dq Y A G) X (e::es) i 0 fa) (yT:AD x:=by decide) (he:cK e es X.e:=by exact gu rfl) (oj:A4 pos es X.e:=by exact hW rfl):
  @WD (dq Y A G) X (.Call (.Name x p) (e::es) [] pos) (gj i G g fa):=by
 obtain⟨f,fd,ps,F,hm,hk,hb⟩:=c;letI:=dq Y A G
 exact⟨P8 F hr hg hm hk hb ha.go yT he oj⟩
def abQ (Z:qN X.K Y) (c:zk X.γ X.w X.K X.mg X.Zc l Y x) (hr:gc (l+1) X.A) (hg:Gl X x) (ha:@WD μ.keep X e fg) (yT:AD x:=by decide) (he:cK e [] X.e:=by exact gu rfl) (oj:A4 pos [] X.e:=by exact hW rfl):
  Za X Y (.Call (.Name x p) [e] [] pos) fg:=by
 obtain⟨f,fd,ps,F,M,hm,hb,hgk⟩:=c;have ha:=(@WD.go μ.keep _ _ _ ha);exact⟨by
  letI:=μ.keep
  refine(Sj M F hr hg hm hb .nil Ej (kr ha wq he) yT he oj).imp λO H Q ⟨C,U,G,sx,q,fin⟩=>?_
  refine⟨C,U,G,sx,q,λv C1 H1 e1 i1=>?_⟩
  intro x dx hx UK jI;refine⟨x,dx,v,rfl,dk,λp hp hpn Jj=>⟨rfl,?_⟩⟩
  have e1:=e1.xv;have hpd:p≠dx:=λz=>by
   subst z;rw[de hp,dk]at hpn;cases hpn
  have RY:H1 p=none:=by rw[de hp,de hpd]at hpn;exact hpn
  have hH:∀b,b≠x->b≠p->b≠dx->BV Y (ν (ν H1 dx (.o x)) x (.ins Y.cl dx [])) x dx p v b=H1 b:=λb n1 n2 n3=>by
   unfold BV;rw[de n1,de n2,de n1,de n1,de n3]
  have ev:pF C1 H1 C1 (BV Y (ν (ν H1 dx (.o x)) x (.ins Y.cl dx [])) x dx p v):=by
   refine⟨eA.refl _,λb u q=>?_,λb u q=>?_,λb u q=>.inl q⟩
   .rw[hH b (dw q hx) (dw q RY) (dw q UK)];exact q
   .have q':=e1.s b u q;rw[hH b (dw q' hx) (dw q' RY) (dw q' UK)];exact q'
  refine fin ⟨x,dx,p⟩ C1 _ (e1.trans ev) (e1.h.free hx) (e1.h.free RY) ⟨⟨_,v,dk,?_,?_,λm h1 h2=>?_,i1⟩,e1.s.free hx,BS (e1.s.free RY) Jj ?_⟩
  .rw[jt,if_neg (Ne.symm hgk),jt,if_pos rfl]
  .rw[jt,if_pos rfl]
  .rw[jt,if_neg h2,jt,if_neg h1];rfl
  .show BV Y _ x dx p v p=_;unfold BV;rw[de hp,dk]⟩
def Ka (i:Nat) (hN:X.N.Nodup) (ho:Za X Y o fg) (hr:∀(A:mG) (G:D) (C1 H1:Hp),@rH (dq Y A G) X C1 H1 rest (fr G)) (hi:X.N[i]? =some y:=by rfl) (hx:Loc X.e.scope y:=by first|exact Or.inl rfl|exact Or.inr rfl) (hs:swapsWith o (some (.Name y py)) pos.line X.e=pure false:=by rfl) (hf:X.fn y=true\/X.e.scope.names.lookup y=some .local:=by first|exact .inl rfl|exact .inr rfl):@rH μ.keep X C0 H0 (.Assign [.Name y py] o pos::rest) (FL i fg fr):=
 @rH.mk μ.keep _ _ _ _ _ (J9 i hN ho.go (λA G C1 H1=>@rH.go (dq Y A G) _ _ _ _ _ (hr A G C1 H1)) hi hx hs hf)
end
def se {P:cB}{w:cC}{K:W.Frag}{mg:cm}{Zc:Heap}{x qual:Str}{st:cH}{f:cF}{fd:cA}{N ps:List Str}{k:Nat}(Y:OC) (F:Bs K x qual st f fd) (S:dF N ps (cZ st)) {fb:D->cb}
  (gO:∀(A:mG) (G:D) (fC:cy) (Ar:cD) (ε:List Env) (s:cz) (H:Hp) (E:XK),gc k (Ar.deeper (envOfC qual (cZ st) s.dN f fC))->∀C0 H0,@rH (dq Y A G) (t6 nY P w K mg Zc N qual (cZ st) f fC Ar ε s H E).GJ C0 H0 (gr st) (fb G)):
  gK P w K mg Zc nY (k+1) f fd ps (P7 Y (i9 N.length ps.length fb)):=Wh Y F S λA G fC Ar ε s H E hr C0 H0=>@rH.go (dq Y A G) _ _ _ _ _ (gO A G fC Ar ε s H E hr C0 H0)
noncomputable def LK (f:cc):cc:=λU=>match f U with
 |some (.t ds)=>some (.t ds.reverse)
 |_=>none
end DL
namespace HT
def Kb (n:Nat):Builtin.Slice.sliceAdjust none none (-1) (n:Int)=((n:Int)-1,-1):=rfl
def Kc (n:Nat):Builtin.Slice.slicePlaces ((n:Int)-1) (-1) (-1)=n:=by
 unfold Builtin.Slice.slicePlaces;have h1:¬ ((-1:Int)>0):=by omega
 simp only[h1,bF];split
 .rw[show(- -1:Int)=1 by omega,Int.ediv_one];omega
 .omega
def zm {sl:cF}{st:cy}{n:Nat}{Q:Int×Int×Nat->cz->Prop}(hs:s.heap.IsSliceOf sl .none .none st) (pk:IsPart st (some (-1))) (h:Q ((n:Int)-1,-1,n) s):
  jH γ w A (Builtin.Slice.sliceApplied (.ref sl) (pure (n:Int))) Q E s:=by
 obtain⟨os,MT,Uv,MU⟩:=id hs;unfold Builtin.Slice.sliceApplied Builtin.Slice.sliceFields;refine aa (aa (wpAny_field MT MU (x:=.none) rfl (aa (wpAny_field MT MU (x:=.none) rfl (aa (wpAny_field MT MU (x:=st) rfl (ak ?_)))))));refine aa (oq pk ?_);show wpAny _ _ (if((-1:Int)==0)=true then _ else _) _ _ s
 rw[if_neg (by decide)]
 refine aa (oq .none (aa (oq .none (aa (ak ?_)))));show wpAny _ _ (match Builtin.Slice.sliceAdjust none none (-1) (n:Int)with|(lo,hi)=>pure (lo,(-1:Int),Builtin.Slice.slicePlaces lo hi (-1))) _ _ s
 rw[Kb n];show wpAny _ _ (pure ((n:Int)-1,(-1:Int),Builtin.Slice.slicePlaces ((n:Int)-1) (-1) (-1))) _ _ s;rw[Kc];exact ak h
def Qc (xs:Array cy):((List.range xs.size).filterMap λ(m:Nat)=>xs[(((xs.size:Int)-1)+(m:Int)*(-1)).toNat]?).toArray=xs.toList.reverse.toArray:=by
 congr 1
 have e:(List.range xs.size).filterMap (λ(m:Nat)=>xs[(((xs.size:Int)-1)+(m:Int)*(-1)).toNat]?)=((List.range xs.size).map λk=>xs.size-1-k).filterMap λk=>xs[k]? :=by
  rw[filterMap_map]
  congr 1
  funext m
  simp only[Function.comp]
  congr 1
  omega
 rw[e,W.krv_range,filterMap_reverse,W.krv_all]
def xS {t sl:cF}{items:Array cy}{st:cy}{Q:cj}(ht:IsTup s.heap t items) (hs:s.heap.IsSliceOf sl .none .none st) (pk:IsPart st (some (-1)))
  (h:Q (.ref s.dN) {s with heap:=s.heap.push {cls:=.type "tuple",data:=.seq items.toList.reverse.toArray}}) (hsz:items.size<=sizeLine):jH γ w A (getItem (.ref t) (.ref sl)) Q E s:=by
 have xp:sizeOk (.seq items.toList.reverse.toArray):=by
  show items.toList.reverse.toArray.size<=sizeLine;rw[au,length_reverse,aO];exact hsz
 obtain⟨os,MT,Uv,MU⟩:=id hs;have Ys:s.TypeIs (.ref sl) "slice":=⟨os,MT,Uv⟩;unfold getItem;try with_reducible refine bo ?_
 first|refine aa (ak ?_)|skip
 refine aa (wpAny_sequenceKey ht.typeIs (by decide) ?_)
 refine aa (wpAny_callSpecial?_slot (name:=Str.ofString "__getitem__") ht.typeIs PyProof.Rows.slot_tuple_getitem
  (bN PyProof.Rows.slot_tuple_getitem ht.typeIs entry_tuple_getitem ?_ (args_tuple_getitem _ _)))
 show wpAny _ _ (Builtin.Tuple.tupleItemsOf (.ref t)>>=_) _ _ s;refine aa (tupleItemsOf_ ht ?_);refine aa (wpAny_typeOf Ys ?_);rw[if_pos (by decide)]
 refine aa (zm hs pk ?_);have Yt:¬ ((((items.size:Int)-1)==0&&(-1:Int)==1&&items.size==items.size)=true):=by
  intro q;rw[Bool.and_eq_true,Bool.and_eq_true]at q;exact absurd q.1.2 (by decide)
 show wpAny _ _ (if(((items.size:Int)-1)==0&&(-1:Int)==1&&items.size==items.size)=true then _ else _) _ _ s
 rw[if_neg Yt,Qc]
 first
  |exact aa (m:=Builtin.Tuple.tupleExact _) (bS (ak ⟨_,rfl,ak h⟩) xp)
  |exact aa (m:=Builtin.Tuple.tupleExact _) (bS (aa (ak (ak ⟨_,rfl,ak h⟩))) xp)
  |exact aa (aa (m:=Builtin.Tuple.tupleExact _) (bS (ak (ak ⟨_,rfl,ak h⟩)) xp))
  |exact aa (aa (m:=Builtin.Tuple.tupleExact _) (bS (ak ⟨_,rfl,ak h⟩) xp))
end HT
namespace DL
open L2
theorem Ah:∀{xs:List V}{ds:cw},τ C xs ds->τ C xs.reverse ds.reverse
 |_,_,.nil=>.nil
 |_,_,.cons h l=>by
  rw[reverse_cons,reverse_cons];exact(Ah l).append (.one h)
theorem xT:∀{xs:List V}{us:cx},θ xs us->θ xs.reverse us.reverse
 |_,_,.nil=>.nil
 |_,_,.cons h l=>by
  rw[reverse_cons,reverse_cons];exact(xT l).append (.cons h .nil)
section
variable [μ]
def abT (K:W.Frag) (te:TE):TE:=λO H Q=>te O H λx H1=>∃a xs,x=.ref a/\lr K H1 a xs/\∀p,H1 p=none->Q (.ref p) (ν H1 p (.t xs.reverse))
omit [μ] in
def Wi (he:PE X e te):PE X (.Subscript e (.Slice none none (some (.UnaryOp .USub (.Constant (.int 1) k0 p0) p1)) p2) pos) (abT X.K te):=by
 intro cL s O H Q I h;refine Subscript_ (pH (he cL s O H _ I h) λv s1 x H1 I1 r1 q1=>?_)
 obtain⟨a,xs,rfl,hx,q⟩:=q1;cases r1;refine wpAny_Slice ?_;rw[evalPart_none];refine ak ?_;refine ak ?_;rw[evalPart_some];refine pH (Us Ou (Bi (X:=X)) cL s1 O H1 (λy H2=>y=.int (-1)/\H2=H1) I1 ⟨1,rfl,rfl,rfl⟩) λvs s3 y H3 I3 r3 ⟨e3,e4⟩=>?_
 subst e3 e4;obtain⟨tk,rfl⟩:=r3;have I4:η X cL O H3 {s3 with heap:=s3.heap.push {cls:=.type "slice",data:=.fields #[.none,.none,.int (-1) tk]}}:=I3.kept (t':=s3.toks) λb ob q=>ag _ q
 obtain⟨dE,rv,ht,hz⟩:=I4.tuple hx;have π:dE.toArray.size=xs.length:=by rw[au];exact rv.length.symm
 show X.mO (subscriptTail e (.Slice none none (some (.UnaryOp .USub (.Constant (.int 1) k0 p0) p1)) p2) (.ref a) (.ref s3.dN)) (EP X cL O Q) X.xe {s3 with heap:=s3.heap.push {cls:=.type "slice",data:=.fields #[.none,.none,.int (-1) tk]}}
 refine tail_any (ops:=[.ref a,.ref s3.dN]) ht.typeIs PyProof.Rows.slot_tuple_getitem.lookup ?_ (by with_unfolding_all rfl)
 refine HT.xS ht (Heap.IsSliceOf.new ..) (.int (-1) tk) ?_ (by rw[π];exact hz)
 refine⟨.ref _,_,I4.laid (t':=s3.toks) (o:=.t xs.reverse) (λb ob q=>ag _ q) (av _) ?_,rfl,q _ (I4.fU.fresh (av _))⟩
 exact⟨by rw[length_reverse];exact hz,_,xT rv,IsTup.new _ _⟩
def S8 (he:WO X e f):WD X (.Subscript e (.Slice none none (some (.UnaryOp .USub (.Constant (.int 1) k0 p0) p1)) p2) pos) (LK f):=⟨(Wi he.go).imp λO H Q ⟨C,U,d,x,q,k⟩=>by
 unfold LK at q;split at q
 .rename_i ds hf;cases q;refine⟨C,U,_,x,hf,λv C1 H1 e1 i1=>?_⟩
  obtain⟨a,xs,rfl,hq,ll,_⟩:=vf.t (K:=X.K) e1.s i1;exact⟨a,xs,rfl,hq,λt ht=>k _ _ _ (e1.trans (.new e1.s ht)) (.t dk ((Ah ll).mono (fj (e1.s.free ht))))⟩
 .cases q⟩
end
end DL
namespace HT
section
variable {γ:cB}{w:cC}{A:cD}{E:cj}{s:cz}
def xU {items} (hit:s.heap.IsTupleIter it t i) (ht:s.heap.IsTuple t items) (hx:items[i]? =some x) (hQ:∀h',h'.IsTupleIter it t (i+1)->Heap.SameBut it s.heap h'->Q x {s with heap:=h'}):jH γ w A (Builtin.SmallTypes.nextOf (.ref it)) Q E s:=by
 obtain⟨o,ho,hc,hd⟩:=id hit;obtain⟨ol,Xy,_,nl,Xz⟩:=ht;unfold Builtin.SmallTypes.nextOf;refine aa (wpAny_callSpecial?_slot (name:=Str.ofString "__next__") hit.typeIs PySem.F.slot_tuple_iterator_next
  (bN PySem.F.slot_tuple_iterator_next hit.typeIs PySem.F.entry_tuple_iterator_next ?_ (PySem.F.args_tuple_iterator_next_1 _)))
 show wpAny _ _ (field (.ref it) 0>>=_) _ _ s;refine aa (wpAny_field ho hd (x:=.ref t) rfl ?_);show wpAny _ _ (if(Value.ref t==Value.none)=true then _ else _) _ _ s
 rw[if_neg (show ¬ ((Value.ref t==Value.none)=true)from bc)]
 show wpAny _ _ (field (.ref it) 1>>=_) _ _ s;refine aa (wpAny_field ho hd (x:=.int i 0) rfl ?_);show wpAny _ _ (seqItems? (.ref t)>>=_) _ _ s;refine aa (wpAny_seqItems Xy Xz ?_);simp only[Int.toNat_natCast,hx];refine aa (wpAny_setField ho hd (by simp) (ak ⟨x,rfl,ak (hQ _ ?_ (Heap.SameBut.update ..))⟩))
 exact⟨_,Heap.get?_update_self _ ho (Obj.isFreed_of_fields (Obj.data_mapFields hd _)),(Obj.cls_mapFields ..).trans hc,by
  rw[Obj.data_mapFields hd];simp[rawInt]⟩
def zo {i:Nat}{items} {Q:cj}(hh:A.handled=none) (hit:s.heap.IsTupleIter it t i) (ht:s.heap.IsTuple t items) (hx:items[i]? =none) (hE:∀h' e,Heap.ExtBut it s.heap h'->(∃o,h'.get? e=some o/\o.cls=.type "StopIteration")->E (.ref e) {s with heap:=h'}):jH γ w A (Builtin.SmallTypes.nextOf (.ref it)) Q E s:=by
 obtain⟨o,ho,hc,hd⟩:=id hit;obtain⟨ol,Xy,_,nl,Xz⟩:=ht;unfold Builtin.SmallTypes.nextOf;refine aa (wpAny_callSpecial?_slot (name:=Str.ofString "__next__") hit.typeIs PySem.F.slot_tuple_iterator_next
  (bN PySem.F.slot_tuple_iterator_next hit.typeIs PySem.F.entry_tuple_iterator_next ?_ (PySem.F.args_tuple_iterator_next_1 _)))
 show wpAny _ _ (field (.ref it) 0>>=_) _ _ s;refine aa (wpAny_field ho hd (x:=.ref t) rfl ?_);show wpAny _ _ (if(Value.ref t==Value.none)=true then _ else _) _ _ s
 rw[if_neg (show ¬ ((Value.ref t==Value.none)=true)from bc)]
 show wpAny _ _ (field (.ref it) 1>>=_) _ _ s;refine aa (wpAny_field ho hd (x:=.int i 0) rfl ?_);show wpAny _ _ (seqItems? (.ref t)>>=_) _ _ s;refine aa (wpAny_seqItems Xy Xz ?_);simp only[Int.toNat_natCast,hx];refine aa (wpAny_rule (aa (wpAny_setField ho hd (by simp) ?_)))
 show wpAny _ _ (newExc (.type "StopIteration") []>>=_) _ _ _;refine aa ?_;simp only[newExc,newTuple];refine aa (bS ?_ (by size_fits))
 refine aa (m:=firstArgMember _ _) (wpAny_of_eq (a:=Value.none) (by first|rfl|(simp only[firstArgMember];rfl)) ?_)
 refine bS ?_ (by size_fits)
 simp only[raiseNew];refine aa (wpAny_handled ?_)
 first|rw[show A.in1.handled=none from hh]|rw[hh]
 refine aa (ak (wpAny_throw ?_));exact hE _ _ (((Heap.SameBut.update ..).extBut.push _).push _) ⟨_,aB _ rfl,rfl⟩
def Ai (hh:A.handled=none) (it l:cF) (jI:l≠it) (items:Array cy):
  Draws γ w A it [it,l] items.size (λi v=>items[i]? =some v) (λi h=>h.IsTupleIter it l i/\h.IsTuple l items)where
 live:=λ_ _ st=>let ⟨o,ho,_⟩:=st.1;⟨o,ho⟩
 frame:=λ_ _ _ st hk=>⟨let ⟨o,e,r⟩:=st.1;⟨o,hk it (by simp) o e,r⟩,let ⟨o,e,r⟩:=st.2;⟨o,hk l (by simp) o e,r⟩⟩
 item:=λi s Q E hi st hQ=>by
  refine xU st.1 st.2 (x:=items[i]) (by simp[hi]) λh' abU Du=>?_
  exact hQ _ h' s.toks (by simp[hi]) ⟨abU,st.2.extBut Du.extBut jI⟩ Du
 done:=λs Q E st hE=>zo hh st.1 st.2 (by simp) hE
end
end HT
namespace L2
def η.LL {ch:List cF}(I:η X cL O H s) (k:∀b o,b∉ch->s.heap.get? b=some o->h'.get? b=some o) (hf:∀b∈ch,yQ X cL H b):η X cL O H {s with heap:=h',toks:=t'}:=by
 have XR:∀b u,H b=some u->b∉ch:=λb u e z=>by rw[(hf b z).1]at e;cases e
 refine I.step (g':=s.gens) (d':=s.drawn) (ch:=ch) (λb hb=>⟨(hf b hb).2.2.2.1,(hf b hb).2.1,(hf b hb).2.2.2.2.1,(hf b hb).2.2.2.2.2⟩) (λb o _ _ hc e _=>k b o hc e) (λb o _ _ hc e _=>⟨o.slots,k b o hc e⟩) (λ_ _ _ _ n=>n)
  (λb o hc e=>⟨o,k b o hc e⟩) (λ_ _ e=>e) (λ_ _ _ e=>e) (λb ps e=>⟨#[],by rw[e];simp⟩) (λm hm=>?_) (λb u e=>?_) I.bare
 .obtain⟨o,es,ep,ho,r⟩:=hm;exact⟨o,es,ep,k _ o (λz=>(hf _ z).2.1 rfl) ho,r⟩
 .refine(I.fU b u e).E5 (λc v hc q=>k c v ?_ q) (λ_ q=>q) λ_ _ q=>q
  rcases hc with z|z
  .rw[z];exact XR b u e
  .exact XR c _ z
end L2
namespace DL
open L2
variable [μ]
def WkN (J:It) (ds:cw) (C:Hp):Prop:=∀i C' H',eA C C'->eA C' H'->(∀d,ds[i]? =some d->J.go i H'/\∀x H3,J.R6 i H' x H3->∃C3,pF C' H' C3 H3/\Is C3 x d)/\(ds.length=i->J.stop i H')
def tIN (f:bZ):TI:=λO H R=>∃C U ds,Sx U O C H/\f U=some ds/\∀J C' H',Ev C H C' H'->WkN J ds C'->R J H'
abbrev PIn (X:Cx) (tg e:cG) (f:bZ):Prop:=PI X tg e (tIN f)
def Qd {C0 H0:Hp}(is:List Nat) {es:List cG}{kt:Nat}{t5:Pos}{iter:cG}{body:List cH}{f:cb}{pos:Pos}(hp:PassesOwn (model X.γ X.w) X.A X.e X.xe) (hc:X.calm=true) (hi:PIn X (.Tuple es kt t5) iter i) (hgs:Vs X es (Hj is)) (hb:N4 X C0 H0 body f) (hn:(assignEach es X.e).length=is.length:=by rfl) (uf:(assignEach es X.e).findIdx? (·.1)=none:=by rfl) (hs:∀x,foldedSetIterable iter X.e x=pure x:=by intro _;rfl):PB X C0 H0 (.For (.Tuple es kt t5) iter body [] pos) (LG is i f):=λB cL s O H Dn I h=>by
 have hg:=Oi (pos:=t5) (k:=kt) hc hgs hn uf;obtain⟨C,U,r,gd,q,k⟩:=h;obtain⟨ds,hf,q⟩:=qI q;have main:∀J C1 H1,Ev C H C1 H1->WkN J ds C1->∃W:Nat->Nat->L2.St->Hp->Prop,(∃m,W 0 m O H1)/\∀i m O H,W i m O H->
   (J.stop i H/\Dn.nx O H)\/(J.go i H/\∃N:L2.St->Hp->Prop,(∀σ' H',N σ' H'->∃m',m'<m/\W (i+1) m' σ' H')/\∀x H',J.R6 i H x H'->L2.nA X.K is.length (Hj is) x O H' λσ2 H2=>tS C1 C0 H0 f {Dn with nx:=N,ct:=N,bk:=Dn.nx} σ2 H2):=by
  intro J C1 H1 ev wk;have bs:eA B C1:=gd.b.trans ev.c;refine⟨λn m O H=>∃C U,m=ds.length-n/\n<=ds.length/\Gd C1 C0 H0 U O C H/\wH is f (ds.drop n) U=some r,⟨ds.length,C1,U,by simp,bM _,⟨eA.refl _,gd.ev.trans ev,gd.x.ev ev,gd.fr⟩,by simpa using q⟩,?_⟩
  rintro n m σ2 H2 ⟨C2,δ2,rfl,hn,g2,q2⟩
  have w:=wk n C2 H2 g2.b g2.x.sub;by_cases fR:n<ds.length
  .have hd:ds[n]? =some ds[n]:=ah fR;obtain⟨go,yl⟩:=w.1 _ hd;rw[drop_eq_getElem_cons fR]at q2;refine .inr ⟨go,λσ' H'=>∃C' δ',Gd C1 C0 H0 δ' σ' C' H'/\wH is f (ds.drop (n+1)) δ'=some r,λσ' H' ⟨C',δ',g',q'⟩=>⟨ds.length-(n+1),by omega,C',δ',rfl,fR,g',q'⟩,λx H3 y=>?_⟩
   obtain⟨C3,Zd,isx⟩:=yl x H3 y;have g3:=g2.A7 Zd.up;unfold wH at q2;split at q2
   case h_2=>cases q2
   rename_i Lb hes;rw[hes]at isx;obtain⟨hle,q2⟩:=nq q2;cases isx with
   |@t pa ws _ hpa l=>
   refine⟨pa,ws,rfl,lr.of (Zd.s _ _ hpa),by rw[l.length];exact hle,Pz is l hle g3 λσ3 g4=>?_⟩
   show tS C1 C0 H0 f {Dn with nx:=_,ct:=_,bk:=Dn.nx} σ3 _
   cases JY:f (wB is Lb δ2)with
   |none=>rw[JY]at q2;cases q2
   |some rb=>
    rw[JY]at q2;refine⟨C3,wB is Lb δ2,rb,g4,JY,?_⟩;cases rb with
    |next δ'=>exact λσ' C' H' g'=>⟨C',δ',g',q2⟩
    |cont δ'=>exact λσ' C' H' g'=>⟨C',δ',g',q2⟩
    |brk δ'=>
     cases q2;exact λσ' C' H' g'=>k σ' C' H' ⟨bs.trans g'.b,g'.ev,g'.x,g'.fr⟩
    |ret d=>
     cases q2;exact k
  .have e:n=ds.length:=by omega
   subst e;rw[drop_length]at q2;unfold wH at q2;cases q2;exact .inl ⟨w.2 rfl,k σ2 C2 H2 ⟨bs.trans g2.b,g2.ev,g2.x,g2.fr⟩⟩
 refine Oq (tb:=λV8 σ' H'=>∃C1,tS C1 C0 H0 f V8 σ' H') hp hc hi hg (λcL s O H V8 I ⟨C1,h⟩=>hb C1 cL s O H V8 I h) hs cL s O H Dn I ?_
 refine⟨C,U,ds,gd.x,hf,λJ C1 H1 ev wk=>?_⟩
 obtain⟨W,w0,st⟩:=main J C1 H1 ev wk;refine⟨W,w0,λi m O H w=>?_⟩
 rcases st i m O H w with z|⟨go,N,hN,hy⟩
 .exact .inl z
 .exact .inr ⟨go,N,hN,λx H' y=>let ⟨pa,ws,h1,h2,h3,h4⟩:=hy x H' y;⟨pa,ws,h1,h2,h3,LH is h4 λ_ _ z=>⟨C1,z⟩⟩⟩
end DL
namespace DL
open L2
noncomputable def iS (f:cc):bZ:=λU=>match f U with
 |some (.l ds)=>some ds
 |some (.t ds)=>some ds
 |_=>none
noncomputable def Ze:cq->Int
 |[]=>0
 |a::r=>if r.isEmpty then a else(if a<Ze r then Ze r else a)
noncomputable def jM:cq->Int
 |[]=>0
 |a::r=>if r.isEmpty then a else(if jM r<a then jM r else a)
def Hw:cg
 |[.l ds]=>(χ ds).bind λns=>if ns.isEmpty then none else some (.int (jM ns))
 |_=>none
theorem xV:∀(l:cq),l≠[]->jM l∈l/\∀x∈l,jM l<=x
 |[],h=>absurd rfl h
 |[a],_=>by simp[jM]
 |a::b::r,_=>by
  obtain⟨h1,h2⟩:=xV (b::r) (by simp)
  have e:jM (a::b::r)=(if jM (b::r)<a then jM (b::r)else a):=by rw[jM];simp
  rw[e];refine⟨?_,λx hx=>?_⟩
  .by_cases h:jM (b::r)<a
   .rw[if_pos h];exact aj _ h1
   .rw[if_neg h];exact af
  .rcases mem_cons.mp hx with rfl|q
   .split<;>omega
   .have:=h2 x q;split<;>omega
theorem BW:∀{ns:cq}{dE:cx},θ (ns.map V.int) dE->∃xs:Array (Int×Tok),dE.toArray=intItems xs/\xs.toList.map (·.1)=ns
 |[],_,.nil=>⟨#[],by simp[intItems],rfl⟩
 |n::ns,_,.cons r t=>by
  obtain⟨tk,rfl⟩:=r;obtain⟨xs,e1,e2⟩:=BW t;refine⟨((n,tk)::xs.toList).toArray,?_,by simpa using e2⟩
  have:intItems xs=(xs.toList.map λp=>Value.int p.1 p.2).toArray:=by cases xs;simp[intItems]
  rw[this]at e1;have e3:=congrArg Array.toList e1;simp only[]at e3;simp[intItems,e3]
def DF (hc:X.calm=true):jT X (.builtin "min") (λxs H Q=>∃(p:cF) (ns:cq),xs=[.ref p]/\ua X.K H p (ns.map V.int)/\ns≠[]/\Q (.int (jM ns)) H):=by
 intro cL s O H xs us Q I r h;obtain⟨p,ns,rfl,hq,jI,q⟩:=h;obtain⟨u,rfl,r1⟩:=vals1 r;cases r1;obtain⟨dE,rv,pl,hz⟩:=I.list hq;obtain⟨ys,e1,e2⟩:=BW rv;have hl:=pl.isList;rw[e1]at hl;have hsz:0<ys.size:=by
  have:(ys.toList.map (·.1)).length=ns.length:=by rw[e2]
  rw[ae,aO]at this;cases ns with
  |nil=>exact absurd rfl jI
  |cons a r=>rw[az]at this;omega
 refine min_intList (I.ok.hd hc) hl hsz λv h' tk hv k=>⟨_,H,I.kept k,?_,q⟩
 obtain⟨t,rfl⟩:=intItems_at hv;obtain⟨h1,h2⟩:=argBest_lt (numAt ys) (ys.size-1);generalize argBest (λi j=>decide (numAt ys i<numAt ys j)) (ys.size-1)=j at *
 have hn:numAt ys j∈ns:=by
  rw[numAt_eq,e2,ao];have hj:j<ns.length:=by rw[<-e2,ae,aO];omega
  rw[ah hj];exact getElem_mem hj
 obtain⟨m1,m2⟩:=xV ns jI;have le1:=m2 _ hn;have le2:numAt ys j<=jM ns:=by
  obtain⟨i,hi,e⟩:=getElem_of_mem m1;have A9:i<ys.size:=by rw[<-e2,ae,aO]at hi;exact hi
  have:=h2 i (by omega)
  rw[numAt_eq ys i,e2,ao,ah hi]at this;simp only[Option.getD_some]at this;rw[e]at this;exact this
 exact⟨t,by rw[show numAt ys j=jM ns by omega]⟩
section
variable [μ]
def Wj (hc:X.calm=true):xB X (.builtin "min") Hw:=by
 refine⟨_,DF hc,?_⟩;intro C H vs ds d Q s i q k;unfold Hw at q;split at q
 case h_2=>cases q
 rename_i es;obtain⟨ns,hb,q⟩:=qI q;split at q
 .cases q
 .rename_i jI;cases q;obtain⟨v,rfl,j⟩:=i.one;obtain⟨p,xs,rfl,hq,l⟩:=j.list (K:=X.K) s;rw[fE hb]at l;cases l.nC;exact⟨p,ns,rfl,hq,λz=>jI (by rw[z];rfl),k _ C H (.refl s) (.int _)⟩
def LM (h:WD X e f):Ae X tg e (iS f):=⟨λcL s O H Q I ⟨C,U,ds,x,q,k⟩=>by
 unfold iS at q;split at q
 .rename_i es hf;exact Ha h.go cL s O H Q I ⟨C,U,ds,x,by unfold iL;rw[hf];exact q,k⟩
 .rename_i es hf;exact Lq h.go cL s O H Q I ⟨C,U,ds,x,by unfold iT;rw[hf];exact q,k⟩
 .cases q⟩
end
end DL
namespace LW
open DL
open L2 (nX Eh)
def xW:cb:=
  (eB (dB vI (dB vI (dB Dw (dg 0) (dC (.int 48271))) (dg 1)) (dg 2)))
def Aj:cb:=
  xW
def eX:cg:=gF 3 3 Aj
def oC:cb:=
  (g0 4 (dB jW (dg 1) (cV eX (cM (cO 0) (cM (dC (.int 9973)) (cM (dB jW (dB ou (dg 2) (dg 1)) (dC (.int 1))) cS))))))
def oE:cb:=
  (mw 5 (BE cS))
def oF:cb:=
  (g0 7 (dB jW (dC (.int 1)) (cV eX (cM (dB jW (dg 0) (dB Dw (dC (.int 7)) (dg 6))) (cM (dC (.int 9949)) (cM (cV Ac (cM (dC (.int 4)) (cM (dg 4) cS))) cS))))))
def jw:cb:=
  (g0 7 (dC (.int 2)))
def iD:cb:=
  (kx (xy (qB (dB RX (dB vI (dg 0) (dC (.int 3))) (dC (.int 0)))) (xy (qB (dB nF (dg 7) (dC (.int 1)))) (qB (dB RX (dg 4) (dC (.int 1)))))) jw gq)
def oG:cb:=
  (mw 8 (Dg (cM (cO 4) cS)))
def oH:cb:=
  (Hl 9 10 8 (Dg (cM (cO 7) cS)) (cV eX (cM (dB jW (dB jW (dg 0) (dB Dw (dC (.int 11)) (dg 6))) (dB Dw (dC (.int 3)) (dg 10))) (cM (dC (.int 9941)) (cM (dB ou (dg 4) (dg 10)) cS)))))
def oJ:cb:=
  (JL 5 (cV nA (cM (dL (ly lz (cM (dg 9) cS))) cS)))
def jx:cb:=
  (kx (qB (dB vJ (cV nA (cM (dL (ly lz (cM (dg 9) cS))) cS)) (dg 5))) oJ gq)
def ja:cb:=
  (dP oF
   (dP iD
   (dP oG
   (dP oH
   (vS 9 jx)))))
def mQ:cb:=
  (nE 6 (Dg (cM (cV eX (cM (cO 0) (cM (dC (.int 9967)) (cM (dB jW (dg 3) (dC (.int 1))) cS)))) cS)) ja)
def mR:cb:=
  (eB (fy (cM (cO 4) (cM (cV nA (cM (dL (ly lz (cM (dg 5) cS))) cS)) cS))))
def qi:cb:=
  (dP oC
  (dP oE
  (dP mQ
  mR)))
def gg:cg:=gF 11 4 qi
def qj:cb:=
  (g0 4 (cV gg (cM (cO 0) (cM (cO 1) (cM (cO 2) (cM (cO 3) cS))))))
def vT:cb:=
  (eB (fy (cM (cO 4) (cM (cV eX (cM (cO 0) (cM (dC (.int 9931)) (cM (dC (.int 2)) cS)))) (cM (dB jW (dC (.int 1)) (dB JJ (cV eX (cM (cO 0) (cM (dC (.int 9929)) (cM (dC (.int 5)) cS)))) (dC (.int 3)))) (cM (dB jW (dC (.int 1)) (dB JJ (cV eX (cM (cO 0) (cM (dC (.int 9923)) (cM (dC (.int 5)) cS)))) (dC (.int 3)))) cS))))))
def sf:cb:=
  (dP qj
  vT)
def hX:cg:=gF 5 4 sf
noncomputable def nM (c p m:Int):Int:=c*48271%p%m
def sg (hm:0<m):0<=nM c p m:=Int.emod_nonneg _ (by omega)
def si (hm:0<m):nM c p m<m:=Int.emod_lt_of_pos _ hm
def BX (hp:0<p) (hm:0<m):eX [.int c,.int p,.int m]=some (.int (nM c p m)):=by
 simp[eX,Aj,xW,gF,eB,dB,dg,dC,Dw,vI,Lo,Pd,G9,hp,hm,nM]
theorem Hx (P:Nat->fW->Prop):∀(ds:cw) (n:Nat) (U:fW),P n U->
  (∀i U d,ds[i]? =some d->P (n+i) U->∃δ',f (U.set j (.d d))=some (.next δ')/\P (n+i+1) δ')->∃δ',gL j f ds U=some (.next δ')/\P (n+ds.length) δ'
 |[],n,U,h0,_=>⟨U,rfl,h0⟩
 |d::ds,n,U,h0,st=>by
  obtain⟨δ1,e1,h1⟩:=st 0 U d rfl h0;obtain⟨δ2,e2,h2⟩:=Hx P ds (n+1) δ1 h1 (λi U d hd hp=>by
   have:=st (i+1) U d (by simpa using hd) (by rw[show n+(i+1)=n+1+i by omega];exact hp)
   rw[show n+(i+1)+1=n+1+i+1 by omega]at this
   exact this)
  refine⟨δ2,?_,by rw[show n+(d::ds).length=n+1+ds.length by simp;omega];exact h2⟩
  unfold gL;rw[e1];exact e2
theorem wI {α:Type}:∀(ls:List α) (i:Nat) (h:i<ls.length),(ls[i]::ls.eraseIdx i).Perm ls
 |a::l,0,_=>List.Perm.refl _
 |a::l,i+1,h=>by
  simp only[getElem_cons_succ,eraseIdx_cons_succ];exact(List.Perm.swap _ _ _).trans (List.Perm.cons _ (wI l i (by simpa using h)))
theorem LN:∀(ds ls:cw),ds.length<=ls.length->
  (∀k d lc,ds[k]? =some d->lc.length+k=ls.length->∃i:Int,f ((U.set m (.o lc)).set j (.d d))=some (.int i)/\0<=i/\i<lc.length)->
  ∃xs rest,JU j m f U ls ds=some (xs,rest)/\(xs++rest).Perm ls/\xs.length=ds.length
 |[],ls,_,_=>⟨[],ls,rfl,List.Perm.refl _,rfl⟩
 |d::ds,ls,hl,h=>by
  obtain⟨i,e,h0,h1⟩:=h 0 d ls rfl rfl;have hi:i.toNat<ls.length:=by omega
  have le:(ls.eraseIdx i.toNat).length=ls.length-1:=length_eraseIdx_of_lt hi;obtain⟨xs,rest,e2,p,l⟩:=LN ds (ls.eraseIdx i.toNat) (by simp at hl;omega) (λk d lc hd hk=>h (k+1) d lc (by simpa using hd) (by omega))
  refine⟨ls[i.toNat]::xs,rest,?_,?_,by simp[l]⟩
  .unfold JU;rw[e];simp only[if_pos h0,ah hi,e2,bC]
  .rw[cons_append];refine(List.Perm.cons _ p).trans ?_;exact wI _ _ hi
theorem oK:∀(n:Nat) (lo x:Int),x∈eG lo n↔lo<=x/\x<lo+n
 |0,lo,x=>by simp only[eG,bJ,false_iff];omega
 |n+1,lo,x=>by
  simp only[eG,mem_cons,oK n (lo+1) x];omega
theorem mH:∀(n:Nat) (lo:Int),(eG lo n).Pairwise (·< ·)
 |0,_=>.nil
 |n+1,lo=>by
  simp only[eG,pairwise_cons];exact⟨λx hx=>by rw[oK]at hx;omega,mH n (lo+1)⟩
end LW
namespace ST
open SetTable
abbrev gD (l:List Nat):Prop:=l.Pairwise (·< ·)
def Ba {l:List Nat}(h:gD l) {i k:Nat}(hik:i<k) (hk:k<l.length):l[i]'(by omega)<l[k]:=pairwise_iff_getElem.mp h i k (by omega) hk hik
theorem FP (xs:Array Nat) (j:Nat) (hr:gD xs.toList):∀(fuel lo hi:Nat),lo<=hi->hi<=xs.size->hi-lo<=fuel->(∀k (h:k<xs.size),k<lo->xs[k]<j)->(∀k (h:k<xs.size),hi<=k->j<=xs[k])->
  let r:=below.go xs j fuel lo hi
  r<=xs.size/\(∀k (h:k<xs.size),k<r->xs[k]<j)/\(∀k (h:k<xs.size),r<=k->j<=xs[k])
 |0,lo,hi,h1,h2,h3,h4,h5=>by
  have e:lo=hi:=by omega
  subst e;exact⟨h2,h4,h5⟩
 |fuel+1,lo,hi,h1,h2,h3,h4,h5=>by
  unfold below.go;by_cases fR:lo<hi
  .simp only[if_pos fR];have Zf:(lo+hi)/2<xs.size:=by omega
   have hg:xs.getD ((lo+hi)/2) j=xs[(lo+hi)/2]:=by simp[Zf]
   rw[hg];by_cases hc:xs[(lo+hi)/2]<j
   .rw[if_pos hc];refine FP xs j hr fuel ((lo+hi)/2+1) hi (by omega) h2 (by omega) (λk hk Zg=>?_) h5
    by_cases hkm:k=(lo+hi)/2
    .subst hkm;exact hc
    .have:=Ba hr (i:=k) (k:=(lo+hi)/2) (by omega) (by simpa using Zf)
     simp only[Array.getElem_toList]at this;omega
   .rw[if_neg hc];refine FP xs j hr fuel lo ((lo+hi)/2) (by omega) (by omega) (by omega) h4 (λk hk Zg=>?_)
    by_cases hkm:k=(lo+hi)/2
    .subst hkm;omega
    .have:=Ba hr (i:=(lo+hi)/2) (k:=k) (by omega) (by simpa using hk)
     simp only[Array.getElem_toList]at this;omega
  .simp only[if_neg fR];have e:lo=hi:=by omega
   subst e;exact⟨h2,h4,h5⟩
def sj (xs:Array Nat) (j:Nat) (hr:gD xs.toList):below xs j<=xs.size/\(∀k (h:k<xs.size),k<below xs j->xs[k]<j)/\(∀k (h:k<xs.size),below xs j<=k->j<=xs[k]):=
 FP xs j hr xs.size 0 xs.size (bM _) (av _) (by omega) (λk h hk=>by omega) (λk h hk=>by omega)
def Qe (hr:gD xs.toList) (h:xs[i]? =some j):below xs j=i:=by
 obtain⟨h1,h2,h3⟩:=sj xs j hr;obtain⟨hi,hv⟩:=Array.getElem?_eq_some_iff.mp h;by_cases fR:i<below xs j
 .have:=h2 i hi fR;omega
 .by_cases Uz:below xs j<i
  .have hb:below xs j<xs.size:=by omega
   have:=Ba hr (i:=below xs j) (k:=i) Uz (by simpa using hi)
   simp only[Array.getElem_toList]at this;have:=h3 (below xs j) hb (av _);omega
  .omega
structure Tb (t:cE):Prop where
 rise:gD t.place.toList
 Zh:t.dummies=#[]
def vk (h:Tb t) (hi:t.place[i]? =some j):t.slot j=.live i:=by
 unfold slot;rw[Qe h.rise hi];simp[hi]
def BY (h:Tb t) (hj:j∉t.place.toList):t.slot j=.empty:=by
 unfold slot;have h1:¬ (t.place[below t.place j]? ==some j)=true:=λz=>hj (by
  have z':t.place[below t.place j]? =some j:=by simpa using z
  exact Array.mem_toList_iff.mpr (Array.mem_of_getElem? z'))
 have h2:has t.dummies j=false:=by rw[h.Zh];rfl
 simp only[if_neg h1,h2];rfl
def BZ (h:Tb t) (j:Nat):(∃i,t.slot j=.live i/\t.place[i]? =some j)\/(t.slot j=.empty/\j∉t.place.toList):=by
 by_cases hj:j∈t.place.toList
 .obtain⟨i,hi⟩:=bp hj;have A9:t.place[i]? =some j:=by simpa using hi
  exact .inl ⟨i,vk h A9,A9⟩
 .exact .inr ⟨BY h hj,hj⟩
noncomputable def it {α:Type}(f:α->α):Nat->α->α
 |0,a=>a
 |n+1,a=>it f n (f a)
theorem wJ (f:α->α):∀(m n:Nat) (a:α),it f (m+n) a=it f n (it f m a)
 |0,n,a=>by rw[Nat.zero_add];rfl
 |m+1,n,a=>by rw[show m+1+n=(m+n)+1 by omega];exact wJ f m n (f a)
def sk (f:α->α) (n:Nat) (a:α):it f (n+1) a=f (it f n a):=wJ f n 1 a
noncomputable def lp (mask i pt:Nat):Nat:=(i*5+1+pt/32)%(mask+1)
def gQ (mask:Nat) (p:Probe):Probe:={p with j:=lp mask p.i p.perturb,more:=runEnd mask (lp mask p.i p.perturb)-lp mask p.i p.perturb,i:=lp mask p.i p.perturb,perturb:=p.perturb/32}
def kZ (mask:Nat) (p:Probe):Probe:=if p.more>0 then {p with j:=p.j+1,more:=p.more-1}else gQ mask p
def Qf (t:cE) (p:Probe):t.advance p=kZ t.mask p:=by
 unfold SetTable.advance kZ;split<;>rfl
def Wl (mask i:Nat):runEnd mask i-i<=9:=by unfold runEnd;split<;>omega
theorem B0 (mask:Nat):∀(k:Nat) (p:Probe),k<=p.more->it (kZ mask) k p={p with j:=p.j+k,more:=p.more-k}
 |0,p,_=>rfl
 |k+1,p,h=>by
  show it (kZ mask) k (kZ mask p)=_;have e:kZ mask p={p with j:=p.j+1,more:=p.more-1}:=by unfold kZ;rw[if_pos (by omega)]
  rw[e,B0 mask k _ (by show k<=p.more-1;omega)]
  show({p with j:=p.j+1+k,more:=p.more-1-k}:Probe)={p with j:=p.j+(k+1),more:=p.more-(k+1)}
  rw[show p.j+1+k=p.j+(k+1) by omega,show p.more-1-k=p.more-(k+1) by omega]
def Ak (mask:Nat) (p:Probe):it (kZ mask) (p.more+1) p=gQ mask p:=by
 rw[sk,B0 mask p.more p (av _)];unfold kZ;rw[if_neg (by show ¬ p.more-p.more>0;omega)]
 rfl
theorem blocks (mask:Nat):∀(n:Nat) (p:Probe),p.more<=9->∃k,k<=10*n/\it (kZ mask) k p=it (gQ mask) n p
 |0,p,_=>⟨0,av _,rfl⟩
 |n+1,p,h=>by
  obtain⟨k,h1,h2⟩:=blocks mask n (gQ mask p) (Wl mask _);refine⟨p.more+1+k,by omega,?_⟩
  rw[wJ,Ak];exact h2
theorem Ke (mask:Nat):∀(n:Nat) (p:Probe),(it (gQ mask) n p).perturb=p.perturb/32^n
 |0,p=>by show p.perturb=_;rw[Nat.pow_zero,Nat.div_one]
 |n+1,p=>by
  show(it (gQ mask) n (gQ mask p)).perturb=_;rw[Ke mask n];show p.perturb/32/32^n=_;rw[Nat.div_div_eq_div_mul,Nat.pow_succ,Nat.mul_comm]
noncomputable def S9 (mask i:Nat):Nat:=(i*5+1)%(mask+1)
theorem Qg (mask:Nat):∀(n:Nat) (p:Probe),p.perturb/32=0->(it (gQ mask) n p).i=it (S9 mask) n p.i
 |0,p,_=>rfl
 |n+1,p,h=>by
  show(it (gQ mask) n (gQ mask p)).i=it (S9 mask) n (S9 mask p.i);rw[Qg mask n _ (by show p.perturb/32/32=0;rw[h])]
  congr 1
  show lp mask p.i p.perturb=S9 mask p.i;unfold lp S9;rw[h,Nat.add_zero]
def Zi:∀i:Fin 8,∀e:Fin 8,∃m:Fin 8,it (S9 7) m.val i.val=e.val:=by decide +kernel
def UL:∀i:Fin 32,∀e:Fin 32,∃m:Fin 32,it (S9 31) m.val i.val=e.val:=by decide +kernel
def reach {mask:Nat}(hm:mask=7\/mask=31) {p:Probe}(h9:p.more<=9) (hp:p.perturb<2^64) {e:Nat}(he:e<=mask):∃k,k<10*turns mask/\(it (kZ mask) k p).j=e:=by
 have key:∃m,m<=mask/\it (S9 mask) m (it (gQ mask) 12 p).i=e:=by
  have hi:(it (gQ mask) 12 p).i<=mask:=by
   rw[sk];show lp mask _ _<=mask;unfold lp;have:=Nat.mod_lt ((it (gQ mask) 11 p).i*5+1+(it (gQ mask) 11 p).perturb/32) (show 0<mask+1 by omega)
   omega
  rcases hm with rfl|rfl
  .obtain⟨m,hm⟩:=Zi ⟨(it (gQ 7) 12 p).i,by omega⟩ ⟨e,by omega⟩
   exact⟨m.val,by omega,hm⟩
  .obtain⟨m,hm⟩:=UL ⟨(it (gQ 31) 12 p).i,by omega⟩ ⟨e,by omega⟩
   exact⟨m.val,by omega,hm⟩
 obtain⟨m,h1,h2⟩:=key;obtain⟨k,h3,h4⟩:=blocks mask (12+m) p h9;refine⟨k,by unfold turns;omega,?_⟩
 rw[h4,wJ];have h0:(it (gQ mask) 12 p).perturb/32=0:=by
  rw[Ke,Nat.div_div_eq_div_mul];apply Nat.div_eq_of_lt
  exact ay hp (by decide)
 have hj:∀(n:Nat) (q:Probe),q.j=q.i->(it (gQ mask) n q).j=(it (gQ mask) n q).i:=λn=>by
  cases n with
  |zero=>exact λq h=>h
  |succ n=>intro q _;rw[sk];rfl
 rw[hj m _ (by rw[sk];rfl),Qg mask m _ h0,h2]
structure Pb (p:Probe):Prop where
 nine:p.more<=9
 Ta:p.perturb<2^64
 dm:p.dummy=none
theorem Pb.kZ {mask:Nat}{p:Probe}(h:Pb p):Pb (kZ mask p):=by
 unfold ST.kZ;split
 .exact⟨by show p.more-1<=9;have:=h.nine;omega,h.Ta,h.dm⟩
 .exact⟨Wl mask _,Nat.lt_of_le_of_lt (Nat.div_le_self _ _) h.Ta,h.dm⟩
def LO (h:Int):bits h<2^64:=by
 unfold bits;have h1:=Int.emod_lt_of_pos h (show(0:Int)<2^64 by decide)
 have h2:=Int.emod_nonneg h (show(2^64:Int)≠0 by decide)
 omega
def Qh (t:cE) (h:Int):Pb (t.probeStart h):=⟨Wl _ _,LO h,rfl⟩
theorem Qi (ht:Tb t):∀(fuel:Nat) (p:Probe),Pb p->(∃k,k<fuel/\t.slot (it (kZ t.mask) k p).j=.empty)->
  ∃k,(∀m,m<k->∃i,t.slot (it (kZ t.mask) m p).j=.live i/\ha i≠h)/\
   ((t.slot (it (kZ t.mask) k p).j=.empty/\probe.go t ha h fuel p=some (.empty (it (kZ t.mask) k p).j none))\/
    ∃i,t.slot (it (kZ t.mask) k p).j=.live i/\ha i=h/\probe.go t ha h fuel p=some (.candidate (it (kZ t.mask) k p).j i (it (kZ t.mask) (k+1) p)))
 |0,p,_,⟨k,hk,_⟩=>by omega
 |fuel+1,p,hp,⟨k,hk,he⟩=>by
  rcases BZ ht p.j with⟨i,hs,_⟩|⟨hs,_⟩
  .by_cases hh:ha i=h
   .refine⟨0,λm hm=>by omega,.inr ⟨i,hs,hh,?_⟩⟩
    unfold probe.go;rw[hs];show(if(ha i==h)=true then _ else _)=_
    rw[if_pos (beq_iff_eq.mpr hh),Qf];rfl
   .have e:probe.go t ha h (fuel+1) p=probe.go t ha h fuel (kZ t.mask p):=by
     conv=>lhs;unfold probe.go
     rw[hs];show(if(ha i==h)=true then _ else _)=_
     rw[if_neg (λz=>hh (beq_iff_eq.mp z)),Qf]
    have hk0:k≠0:=λz=>by
     subst z;have XA:t.slot p.j=.empty:=he;rw[hs]at XA;cases XA
    obtain⟨k',rfl⟩:∃k',k=k'+1:=⟨k-1,by omega⟩
    obtain⟨k2,h1,h2⟩:=Qi ht fuel (kZ t.mask p) hp.kZ ⟨k',by omega,he⟩
    refine⟨k2+1,λm hm=>?_,?_⟩
    .cases m with
     |zero=>exact⟨i,hs,hh⟩
     |succ m=>exact h1 m (by omega)
    .rw[e];exact h2
  .refine⟨0,λm hm=>by omega,.inl ⟨hs,?_⟩⟩
   unfold probe.go;rw[hs];show some (Met.empty p.j p.dummy)=_;rw[hp.dm];rfl
structure Wt (t:cE) (hs:cq):Prop where
 tb:Tb t
 mask:t.mask=7\/t.mask=31
 len:t.place.size=hs.length
 le:∀j∈t.place.toList,j<=t.mask
 room:t.place.size<t.mask+1
 way:∀(i:Nat) (h:Int),hs[i]? =some h->∃k,t.place[i]? =some (it (kZ t.mask) k (t.probeStart h)).j/\∀m,m<k->(it (kZ t.mask) m (t.probeStart h)).j∈t.place.toList
def Nm:∀{l:List Nat},gD l->(∀j∈l,j<=n)->l.length<n+1->∃e,e<=n/\e∉l:=by
 intro l hr hle π;by_cases h:∀e,e<=n->e∈l
 .exfalso;have:=bX (l₁:=List.range (n+1)) (l₂:=l) nodup_range λe he=>h e (by have:=mem_range.mp he;omega)
  rw[length_range]at this;omega
 .simp only[Classical.not_forall]at h;obtain⟨e,he,hn⟩:=h;exact⟨e,he,hn⟩
noncomputable def ins {α:Type}(l:List α) (p:Nat) (x:α):List α:=l.take p++x::l.drop p
def vU (xs:Array α) (p:Nat) (x:α):(insertAt xs p x).toList=ins xs.toList p x:=by
 unfold insertAt ins;simp[Array.toList_append,Array.toList_push,Array.toList_extract,extract_eq_drop_take];exact take_of_length_le (by simp)
def nB (hp:p<=l.length) (i:Nat):(ins l p x)[i]? =if i<p then l[i]? else if i=p then some x else l[i-1]? :=by
 unfold ins;have hl:(l.take p).length=p:=by rw[bK];omega
 by_cases h:i<p
 .rw[if_pos h,aK (by omega),getElem?_take,if_pos h]
 .rw[if_neg h,aQ (by omega),hl]
  by_cases h2:i=p
  .rw[if_pos h2,h2,Nat.sub_self];rfl
  .rw[if_neg h2];obtain⟨d,hd⟩:∃d,i-p=d+1:=⟨i-p-1,by omega⟩
   rw[hd,aL,getElem?_drop]
   congr 1
   omega
def Bb:y∈ins l p x↔y=x\/y∈l:=by
 unfold ins;rw[mem_append,mem_cons];have:y∈l↔y∈l.take p\/y∈l.drop p:=by rw[<-mem_append,take_append_drop]
 rw[this];constructor
 .rintro(h|h|h)
  .exact .inr (.inl h)
  .exact .inl h
  .exact .inr (.inr h)
 .rintro(h|h|h)
  .exact .inr (.inl h)
  .exact .inl h
  .exact .inr (.inr h)
def oM (hp:p<=l.length):(ins l p x).length=l.length+1:=by
 unfold ins;simp only[aR,bK,az,length_drop];omega
def ins_map (f:α->β) (l:List α) (p:Nat) (x:α):(ins l p x).map f=ins (l.map f) p (f x):=by
 unfold ins;simp[map_take,map_drop]
def Qj (hr:gD xs.toList) (hj:j∉xs.toList):gD (ins xs.toList (below xs j) j):=by
 obtain⟨h1,h2,h3⟩:=sj xs j hr;unfold ins;refine pairwise_append.mpr ⟨List.Pairwise.sublist (take_sublist _ _) hr,pairwise_cons.mpr ⟨λy hy=>?_,List.Pairwise.sublist (drop_sublist _ _) hr⟩,λa ha b hb=>?_⟩
 .obtain⟨i,hi⟩:=bp hy;rw[getElem?_drop]at hi;have fR:below xs j+i<xs.size:=by have:=(List.getElem?_eq_some_iff.mp hi).1;simpa using this
  have Hh:=h3 (below xs j+i) fR (by omega)
  have e:xs[below xs j+i]=y:=by have:=(List.getElem?_eq_some_iff.mp hi).2;simpa using this
  have jI:y≠j:=λz=>hj (z▸mem_of_mem_drop hy)
  omega
 .have ha':a<j:=by
   obtain⟨i,hi⟩:=bp ha;rw[getElem?_take]at hi;split at hi
   .rename_i fR;have hl:i<xs.size:=by have:=(List.getElem?_eq_some_iff.mp hi).1;simpa using this
    have e:xs[i]=a:=by have:=(List.getElem?_eq_some_iff.mp hi).2;simpa using this
    have:=h2 i hl fR;omega
   .cases hi
  have Sk:j<=b:=by
   rcases mem_cons.mp hb with rfl|hb
   .exact av _
   .obtain⟨i,hi⟩:=bp hb;rw[getElem?_drop]at hi;have fR:below xs j+i<xs.size:=by have:=(List.getElem?_eq_some_iff.mp hi).1;simpa using this
    have:=h3 (below xs j+i) fR (by omega)
    have e:xs[below xs j+i]=b:=by have:=(List.getElem?_eq_some_iff.mp hi).2;simpa using this
    omega
  omega
structure Pm (mask:Nat) (p:Probe):Prop where
 pb:Pb p
 le:p.j+p.more<=mask
def Qk {mask i:Nat}(h:i<=mask):i+(runEnd mask i-i)<=mask:=by unfold runEnd;split<;>omega
theorem Pm.kZ {mask:Nat}{p:Probe}(h:Pm mask p):Pm mask (kZ mask p):=by
 refine⟨h.pb.kZ,?_⟩;unfold ST.kZ;have:=h.le;split
 .show p.j+1+(p.more-1)<=mask;omega
 .show lp mask p.i p.perturb+(runEnd mask (lp mask p.i p.perturb)-lp mask p.i p.perturb)<=mask;exact Qk (by unfold lp;have:=Nat.mod_lt (p.i*5+1+p.perturb/32) (show 0<mask+1 by omega);omega)
theorem Pm.it {mask:Nat}:∀(k:Nat) {p:Probe},Pm mask p->Pm mask (it (ST.kZ mask) k p)
 |0,_,h=>h
 |k+1,_,h=>Pm.it k h.kZ
def xX (t:cE) (h:Int):Pm t.mask (t.probeStart h):=
 ⟨Qh t h,Qk (by have:=Nat.mod_lt (bits h) (show 0<t.mask+1 by omega);show bits h%(t.mask+1)<=t.mask;omega)⟩
theorem Wt.put (w:Wt t hs) (he:(it (kZ t.mask) k (t.probeStart h)).j∉t.place.toList) (hb:∀m,m<k->(it (kZ t.mask) m (t.probeStart h)).j∈t.place.toList) (nr:t.place.size+1<t.mask+1):Wt (t.put (it (kZ t.mask) k (t.probeStart h)).j).1 (ins hs (t.put (it (kZ t.mask) k (t.probeStart h)).j).2 h)/\(t.put (it (kZ t.mask) k (t.probeStart h)).j).2<=hs.length/\(t.put (it (kZ t.mask) k (t.probeStart h)).j).1.mask=t.mask/\(t.put (it (kZ t.mask) k (t.probeStart h)).j).1.place.size=t.place.size+1:=by
 generalize hj:(it (kZ t.mask) k (t.probeStart h)).j=j at he ⊢;have abZ:j<=t.mask:=by rw[<-hj];have:=(Pm.it k (xX t h)).le;omega
 obtain⟨b1,_,_⟩:=sj t.place j w.tb.rise;have hd:has t.dummies j=false:=by rw[w.tb.Zh];rfl
 have e1:(t.put j).1.place.toList=ins t.place.toList (below t.place j) j:=vU _ _ _;have e2:(t.put j).2=below t.place j:=rfl;have e3:(t.put j).1.mask=t.mask:=rfl;have e4:∀h',(t.put j).1.probeStart h'=t.probeStart h':=λh'=>rfl
 have e5:(t.put j).1.dummies=#[]:=by show(if has t.dummies j=true then _ else t.dummies)=_;rw[hd];exact w.tb.Zh
 have hbl:below t.place j<=t.place.toList.length:=by simpa using b1
 have hsz:(t.put j).1.place.size=t.place.size+1:=by
  have:=congrArg List.length e1;rw[oM hbl]at this
  simpa using this
 have hbh:below t.place j<=hs.length:=by rw[<-w.len];exact b1
 refine⟨⟨⟨by rw[e1];exact Qj w.tb.rise he,e5⟩,by rw[e3];exact w.mask,?_,?_,by rw[e3,hsz];exact nr,?_⟩,by rw[e2];exact hbh,e3,hsz⟩
 .rw[hsz,e2,oM hbh,w.len]
 .intro y hy;rw[e1]at hy;rw[e3];rcases Bb.mp hy with rfl|hy
  .exact abZ
  .exact w.le y hy
 .intro i h' hi;rw[e3,e4,e1];have hp:(t.put j).1.place[i]? =(ins t.place.toList (below t.place j) j)[i]? :=by rw[<-e1];simp
  rw[hp,nB hbl];rw[e2,nB hbh]at hi;by_cases c1:i<below t.place j
  .rw[if_pos c1]at hi ⊢;obtain⟨k',h1,h2⟩:=w.way i h' hi;exact⟨k',by simpa using h1,λm hm=>Bb.mpr (.inr (h2 m hm))⟩
  .rw[if_neg c1]at hi ⊢;by_cases c2:i=below t.place j
   .rw[if_pos c2]at hi ⊢;cases hi;exact⟨k,by rw[hj],λm hm=>Bb.mpr (.inr (hb m hm))⟩
   .rw[if_neg c2]at hi ⊢;obtain⟨k',h1,h2⟩:=w.way (i-1) h' hi;exact⟨k',by simpa using h1,λm hm=>Bb.mpr (.inr (h2 m hm))⟩
def Ql (led:Bool):Wt (fresh 0 0 led) []:=
 ⟨⟨List.Pairwise.nil,rfl⟩,.inl rfl,rfl,(λj hj=>by cases hj),(by show 0<8;decide),(λi h hi=>by cases hi)⟩
noncomputable def fr (owner:Array (Option Nat)) (j:Nat):Bool:=(owner.getD j (some 0)).isNone
noncomputable def Nn (mask i pt:Nat):Probe:={j:=i,more:=runEnd mask i-i,i:=i,perturb:=pt,dummy:=none}
def Np (mask i pt:Nat):gQ mask (Nn mask i pt)=Nn mask (lp mask i pt) (pt/32):=rfl
def Wm (mask i:Nat):i<=runEnd mask i:=by unfold runEnd;split<;>omega
theorem Ey (mask:Nat) (owner:Array (Option Nat)):∀(fuel i pt:Nat),(∃n,n<fuel/\fr owner (it (gQ mask) n (Nn mask i pt)).j=true)->
  ∃k,layClean.free mask owner fuel i pt=some (it (kZ mask) k (Nn mask i pt)).j/\fr owner (it (kZ mask) k (Nn mask i pt)).j=true/\∀m,m<k->fr owner (it (kZ mask) m (Nn mask i pt)).j=false
 |0,i,pt,⟨n,hn,_⟩=>by omega
 |fuel+1,i,pt,⟨n,hn,hf⟩=>by
  unfold layClean.free;have Hh:=Wm mask i;have inb:∀k,k<=runEnd mask i-i->(it (kZ mask) k (Nn mask i pt)).j=i+k:=λk hk=>by rw[B0 mask k _ hk];rfl
  cases UM:(List.range (runEnd mask i+1-i)).find? λk=>(owner.getD (i+k) (some 0)).isNone with
  |some k=>
   obtain⟨h1,h2,h3⟩:=find?_range_eq_some.mp UM;have hk:k<=runEnd mask i-i:=by have:=mem_range.mp h2;omega
   refine⟨k,by rw[inb k hk],by rw[inb k hk];exact h1,λm hm=>?_⟩
   rw[inb m (by omega)]
   have:=h3 m hm;unfold fr;cases hx:(owner.getD (i+m) (some 0)).isNone with
   |false=>rfl
   |true=>rw[hx]at this;exact absurd this (by simp)
  |none=>
   have yU:∀k,k<=runEnd mask i-i->fr owner (i+k)=false:=λk hk=>by
    have:=find?_eq_none.mp UM k (mem_range.mpr (by omega))
    unfold fr;cases hx:(owner.getD (i+k) (some 0)).isNone with
    |false=>rfl
    |true=>rw[hx]at this;exact absurd rfl this
   have hn0:n≠0:=λz=>by
    subst z;have h0:fr owner i=true:=hf;rw[show i=i+0 from rfl,yU 0 (bM _)]at h0
    cases h0
   obtain⟨n',rfl⟩:∃n',n=n'+1:=⟨n-1,by omega⟩
   obtain⟨k,e1,e2,e3⟩:=Ey mask owner fuel (lp mask i pt) (pt/32) ⟨n',by omega,hf⟩
   have uf:∀m,it (kZ mask) (runEnd mask i-i+1+m) (Nn mask i pt)=it (kZ mask) m (Nn mask (lp mask i pt) (pt/32)):=λm=>by
    rw[wJ];have:=Ak mask (Nn mask i pt);rw[show(Nn mask i pt).more=runEnd mask i-i from rfl]at this
    rw[this,Np]
   refine⟨runEnd mask i-i+1+k,?_,by rw[uf];exact e2,λm hm=>?_⟩
   .rw[uf];exact e1
   .by_cases GL:m<=runEnd mask i-i
    .rw[inb m GL];exact yU m GL
    .obtain⟨m',rfl⟩:∃m',m=runEnd mask i-i+1+m':=⟨m-(runEnd mask i-i+1),by omega⟩
     rw[uf];exact e3 m' (by omega)
def Wn {mask:Nat}(hm:mask=7\/mask=31) {p:Probe}(hp:p.perturb<2^64) {e:Nat}(he:e<=mask):∃n,n<turns mask/\(it (gQ mask) n p).j=e:=by
 have key:∃m,m<=mask/\it (S9 mask) m (it (gQ mask) 12 p).i=e:=by
  have hi:(it (gQ mask) 12 p).i<=mask:=by
   rw[sk];show lp mask _ _<=mask;unfold lp;have:=Nat.mod_lt ((it (gQ mask) 11 p).i*5+1+(it (gQ mask) 11 p).perturb/32) (show 0<mask+1 by omega)
   omega
  rcases hm with rfl|rfl
  .obtain⟨m,hm⟩:=Zi ⟨(it (gQ 7) 12 p).i,by omega⟩ ⟨e,by omega⟩
   exact⟨m.val,by omega,hm⟩
  .obtain⟨m,hm⟩:=UL ⟨(it (gQ 31) 12 p).i,by omega⟩ ⟨e,by omega⟩
   exact⟨m.val,by omega,hm⟩
 obtain⟨m,h1,h2⟩:=key;refine⟨12+m,by unfold turns;omega,?_⟩
 rw[wJ];have h0:(it (gQ mask) 12 p).perturb/32=0:=by
  rw[Ke,Nat.div_div_eq_div_mul];apply Nat.div_eq_of_lt
  exact ay hp (by decide)
 have hj:∀(n:Nat) (q:Probe),q.j=q.i->(it (gQ mask) n q).j=(it (gQ mask) n q).i:=λn=>by
  cases n with
  |zero=>exact λq h=>h
  |succ n=>intro q _;rw[sk];rfl
 rw[hj m _ (by rw[sk];rfl),Qg mask m _ h0,h2]
def way (mask:Nat) (h:Int) (k:Nat):Nat:=(it (kZ mask) k (Nn mask (bits h%(mask+1)) (bits h))).j
structure Ow (mask:Nat) (owner:Array (Option Nat)) (hs:cq):Prop where
 size:owner.size=mask+1
 of:∀(j k:Nat),owner[j]? =some (some k)->∃h q,hs[k]? =some h/\j=way mask h q/\∀m,m<q->fr owner (way mask h m)=false
 has:∀k:Nat,k<hs.length->∃j:Nat,owner[j]? =some (some k)
 one:∀(j j' k:Nat),owner[j]? =some (some k)->owner[j']? =some (some k)->j=j'
def Qm (mask:Nat) (h:Int) (k:Nat):way mask h k<=mask:=by
 have:=(Pm.it k (xX {fresh 0 0 true with mask:=mask} h)).le
 exact aE (Nat.le_add_right _ _) this
def Qn (h:j<owner.size):fr owner j=true↔owner[j]? =some none:=by
 unfold fr;rw[aV h,show owner.getD j (some 0)=owner[j] by simp[h]]
 cases owner[j]<;>simp
def Ow.room {mask:Nat}{owner:Array (Option Nat)}{hs:cq}(o:Ow mask owner hs) (hl:hs.length<mask+1):∃e,e<=mask/\fr owner e=true:=by
 by_cases h:∀e,e<=mask->fr owner e=false
 .exfalso;have own:∀e,e<=mask->∃k,owner[e]? =some (some k):=λe he=>by
   have fR:e<owner.size:=by rw[o.size];omega
   cases hx:owner[e]with
   |none=>
    have:=(Qn fR).mpr (by rw[aV fR,hx])
    rw[h e he]at this;cases this
   |some k=>exact⟨k,by rw[aV fR,hx]⟩
  let f:Nat->Nat:=λe=>match owner[e]? with|some (some k)=>k|_=>0
  have hf:∀e,e<=mask->owner[e]? =some (some (f e)):=λe he=>by
   obtain⟨k,hk⟩:=own e he;show owner[e]? =some (some (match owner[e]? with|some (some k)=>k|_=>0))
   rw[hk]
  have nd:((List.range (mask+1)).map f).Nodup:=by
   refine pairwise_map.mpr (List.Pairwise.imp_of_mem (λ{a b} ha hb SQ z=>?_) pairwise_lt_range)
   have ha':=hf a (by have:=mem_range.mp ha;omega)
   have Sk:=hf b (by have:=mem_range.mp hb;omega)
   rw[<-z]at Sk;exact absurd (o.one a b _ ha' Sk) (by omega)
  have:=bX (l₂:=List.range hs.length) nd λk hk=>by
   obtain⟨e,he,rfl⟩:=mem_map.mp hk;obtain⟨h',q,h1,_⟩:=o.of e _ (hf e (by have:=mem_range.mp he;omega))
   exact mem_range.mpr (List.getElem?_eq_some_iff.mp h1).1
  rw[ae,length_range,length_range]at this;omega
 .simp only[Classical.not_forall]at h;obtain⟨e,he,hn⟩:=h;exact⟨e,he,by cases hx:fr owner e with|true=>rfl|false=>exact absurd hx hn⟩
def Ow.step {mask:Nat}{owner:Array (Option Nat)}{hs:cq}(hm:mask=7\/mask=31) (o:Ow mask owner hs) (hl:hs.length<mask+1) (h:Int):
  ∃j,layClean.free mask owner (turns mask) (bits h%(mask+1)) (bits h)=some j/\Ow mask (owner.setIfInBounds j (some hs.length)) (hs++[h]):=by
 obtain⟨e,he,SO⟩:=o.room hl;obtain⟨n,hn,jI⟩:=Wn hm (p:=Nn mask (bits h%(mask+1)) (bits h)) (LO h) he;obtain⟨q,e1,e2,e3⟩:=Ey mask owner (turns mask) (bits h%(mask+1)) (bits h) ⟨n,hn,by rw[jI];exact SO⟩
 have Wo:way mask h q<owner.size:=by rw[o.size];have:=Qm mask h q;omega
 have VV:owner[way mask h q]? =some none:=(Qn Wo).mp e2;have get:∀j':Nat,(owner.setIfInBounds (way mask h q) (some hs.length))[j']? =if way mask h q=j' then some (some hs.length)else owner[j']? :=λj'=>by
  rw[Array.getElem?_setIfInBounds];by_cases hx:way mask h q=j'
  .rw[if_pos hx,if_pos hx,if_pos (by first|exact Wo|(rw[<-hx];exact Wo))]
  .rw[if_neg hx,if_neg hx]
 have frm:∀j':Nat,fr owner j'=false->fr (owner.setIfInBounds (way mask h q) (some hs.length)) j'=false:=λj' hx=>by
  unfold fr at hx ⊢;rw[aU]at hx ⊢;rw[get j'];by_cases hy:way mask h q=j'
  .rw[if_pos hy];rfl
  .rw[if_neg hy];exact hx
 refine⟨way mask h q,e1,⟨by rw[Array.size_setIfInBounds];exact o.size,λj' k hk=>?_,λk hk=>?_,λj1 j2 k h1 h2=>?_⟩⟩
 .rw[get j']at hk;by_cases hx:way mask h q=j'
  .rw[if_pos hx]at hk;cases hk;exact⟨h,q,by simp,hx.symm,λm XB=>frm _ (e3 m XB)⟩
  .rw[if_neg hx]at hk;obtain⟨h',q',a1,a2,a3⟩:=o.of j' k hk;exact⟨h',q',by rw[aK (List.getElem?_eq_some_iff.mp a1).1];exact a1,a2,λm XB=>frm _ (a3 m XB)⟩
 .rw[aR,length_singleton]at hk;by_cases hx:k=hs.length
  .exact⟨way mask h q,by rw[get,if_pos rfl,hx]⟩
  .obtain⟨j',JT⟩:=o.has k (by omega)
   refine⟨j',?_⟩;rw[get,if_neg (λz=>by rw[<-z,VV]at JT;cases JT)]
   exact JT
 .rw[get]at h1 h2;have old:∀j':Nat,owner[j']? =some (some hs.length)->False:=λj' JT=>by
   obtain⟨h',q',a1,_⟩:=o.of j' _ JT;exact absurd (List.getElem?_eq_some_iff.mp a1).1 (by omega)
  by_cases x1:way mask h q=j1
  .by_cases x2:way mask h q=j2
   .rw[<-x1,<-x2]
   .rw[if_pos x1]at h1;rw[if_neg x2]at h2;cases h1;exact(old j2 h2).elim
  .by_cases x2:way mask h q=j2
   .rw[if_neg x1]at h1;rw[if_pos x2]at h2;cases h2;exact(old j1 h1).elim
   .rw[if_neg x1]at h1;rw[if_neg x2]at h2;exact o.one j1 j2 k h1 h2
def Wq (mask:Nat):Ow mask (Array.replicate (mask+1) none) []:=by
 have no:∀(j k:Nat),(Array.replicate (mask+1) (none:Option Nat))[j]? =some (some k)->False:=λj k h=>by
  rw[Array.getElem?_replicate]at h;split at h<;>cases h
 exact⟨by simp,λj k h=>(no j k h).elim,(λk h=>by cases h),λj j' k h _=>(no j k h).elim⟩
noncomputable def Qo (mask:Nat) (υ:Option (Array (Option Nat)×Nat)) (h:Int):Option (Array (Option Nat)×Nat):=υ.bind λx=>(layClean.free mask x.1 (turns mask) (bits h%(mask+1)) (bits h)).bind λj=>some (x.1.setIfInBounds j (some x.2),x.2+1)
theorem Hy {mask:Nat}(hm:mask=7\/mask=31):∀(rest dn:cq) (owner:Array (Option Nat)),Ow mask owner dn->(dn++rest).length<mask+2->∃FQ,rest.foldl (Qo mask) (some (owner,dn.length))=some (FQ,(dn++rest).length)/\Ow mask FQ (dn++rest)
 |[],dn,owner,o,_=>⟨owner,by rw[bD];rfl,by rw[bD];exact o⟩
 |h::rest,dn,owner,o,hl=>by
  rw[aR,az]at hl;obtain⟨j,e1,o1⟩:=o.step hm (by omega) h
  obtain⟨FQ,e2,o2⟩:=Hy hm rest (dn++[h]) _ o1 (by simp;omega)
  refine⟨FQ,?_,by rw[show dn++h::rest=dn++[h]++rest by simp];exact o2⟩
  rw[show dn++h::rest=dn++[h]++rest by simp,<-e2]
  show rest.foldl (Qo mask) (Qo mask (some (owner,dn.length)) h)=_
  congr 1
  show(layClean.free mask owner (turns mask) (bits h%(mask+1)) (bits h)).bind _=_;rw[e1];simp
def Hz {mask:Nat}(hm:mask=7\/mask=31) (hashes:Array Int) (hl:hashes.size<mask+2):∃owner,layClean mask hashes=some owner/\Ow mask owner hashes.toList:=by
 obtain⟨owner,e,o⟩:=Hy hm hashes.toList [] _ (Wq mask) (by simpa using hl)
 refine⟨owner,?_,o⟩;have:layClean mask hashes=(hashes.toList.foldl (Qo mask) (some (Array.replicate (mask+1) none,0))).map (·.1):=by
  unfold layClean;rw[<-Array.foldl_toList];rfl
 rw[this];have e':hashes.toList.foldl (Qo mask) (some (Array.replicate (mask+1) none,0))=some (owner,([]++hashes.toList).length):=e;rw[e'];rfl
noncomputable def live (mask:Nat) (owner:Array (Option Nat)):List (Nat×Nat):=(List.range (mask+1)).filterMap λj=>(owner.getD j none).map (j, ·)
def oN {mask:Nat}{owner:Array (Option Nat)}{hs:cq}(o:Ow mask owner hs) {j k:Nat}:(j,k)∈live mask owner↔owner[j]? =some (some k):=by
 unfold live;rw[mem_filterMap];constructor
 .rintro⟨j',JT,e⟩
  cases hg:owner.getD j' none with
  |none=>rw[hg]at e;cases e
  |some k'=>
   rw[hg]at e;have e':(j',k')=(j,k):=aT e;cases e';rw[aU]at hg;cases hx:owner[j]? with
   |none=>rw[hx]at hg;cases hg
   |some y=>rw[hx]at hg;rw[show y=some k from hg]
 .intro h;have fR:j<owner.size:=(Array.getElem?_eq_some_iff.mp h).1;rw[o.size]at fR;refine⟨j,mem_range.mpr fR,?_⟩;rw[aU,h];rfl
theorem Kf (f:Nat->Option Nat):∀l:List Nat,(l.filterMap λj=>(f j).map (j, ·)).map (·.1)=l.filter λj=>(f j).isSome
 |[]=>rfl
 |a::l=>by
  rw[filterMap_cons,bu];cases h:f a with
  |none=>simpa [h]using Kf f l
  |some k=>simpa [h]using Kf f l
def Ez (mask:Nat) (owner:Array (Option Nat)):gD ((live mask owner).map (·.1)):=by
 unfold live;rw[Kf (λj=>owner.getD j none)]
 exact List.Pairwise.filter _ pairwise_lt_range
def B1 {mask:Nat}{owner:Array (Option Nat)}{hs:cq}(o:Ow mask owner hs):((live mask owner).map (·.2)).Perm (List.range hs.length):=by
 have nd:((live mask owner).map (·.2)).Nodup:=by
  refine pairwise_map.mpr (List.Pairwise.imp_of_mem (λ{a b} ha hb SQ z=>?_) (pairwise_map.mp (Ez mask owner)))
  obtain⟨a1,a2⟩:=a;obtain⟨b1,b2⟩:=b;have h1:=(oN o).mp ha;have h2:=(oN o).mp hb;have z':a2=b2:=z;rw[z']at h1;have e:=o.one a1 b1 b2 h1 h2;have afB:a1<b1:=SQ;omega
 refine(perm_ext_iff_of_nodup nd nodup_range).mpr λk=>?_
 rw[mem_map,mem_range];constructor
 .rintro⟨⟨j,k'⟩,hm,rfl⟩
  obtain⟨h,q,h1,_⟩:=o.of j k' ((oN o).mp hm);exact(List.getElem?_eq_some_iff.mp h1).1
 .intro hk;obtain⟨j,hj⟩:=o.has k hk;exact⟨(j,k),(oN o).mpr hj,rfl⟩
def Tc {mask:Nat}(hm:mask=7\/mask=31) (finger moves:Nat) (led plain:Bool) (hashes:Array Int) (hl:hashes.size<mask+1):
  ∃(t:cE) (order:List Nat),laid mask finger moves led plain hashes=some (t,order.toArray)/\order.Perm (List.range hashes.size)/\Wt t (order.map λk=>hashes.getD k 0)/\t.mask=mask/\t.led=led/\t.plain=plain/\t.moves=moves/\t.finger=finger:=by
 obtain⟨owner,e,o⟩:=Hz hm hashes (by omega)
 refine⟨_,(live mask owner).map (·.2),by unfold laid;rw[e];rfl,by simpa using B1 o,⟨⟨Ez mask owner,rfl⟩,hm,?_,λj hj=>?_,?_,λi h hi=>?_⟩,rfl,rfl,rfl,rfl,rfl⟩
 .show((live mask owner).map (·.1)).toArray.size=_
  rw[au,ae,ae,ae]
 .obtain⟨⟨j',k⟩,SV,rfl⟩:=mem_map.mp (show j∈(live mask owner).map (·.1)from hj)
  have:=(Array.getElem?_eq_some_iff.mp ((oN o).mp SV)).1;rw[o.size]at this;show j'<=mask;omega
 .have:=(B1 o).length_eq;show((live mask owner).map (·.1)).toArray.size<mask+1
  rw[ae,length_range]at this;rw[au,ae,this]
  simpa using hl
 .rw[aw,aw]at hi;cases hx:(live mask owner)[i]? with
  |none=>rw[hx]at hi;cases hi
  |some y=>
   obtain⟨j,k⟩:=y;rw[hx]at hi;have hy:hashes.getD k 0=h:=aT hi;have FO:=(oN o).mp (bj hx);obtain⟨h',q,a1,a2,a3⟩:=o.of j k FO;have hh:h'=h:=by
    rw[<-hy,aU];have a1':hashes[k]? =some h':=by simpa using a1
    rw[a1'];rfl
   subst hh;refine⟨q,?_,λm XB=>?_⟩
   .show((live mask owner).map (·.1)).toArray[i]? =some (way mask h' q)
    rw[getElem?_toArray,aw,hx,<-a2];rfl
   .show way mask h' m∈(live mask owner).map (·.1)
    have fR:way mask h' m<owner.size:=by rw[o.size];have:=Qm mask h' m;omega
    have:=a3 m XB;cases hz:owner[way mask h' m]with
    |none=>
     have:=(Qn fR).mpr (by rw[aV fR,hz])
     rw[a3 m XB]at this;cases this
    |some k'=>
     exact mem_map.mpr ⟨(way mask h' m,k'),(oN o).mpr (by rw[aV fR,hz]),rfl⟩
theorem range_all {α:Type}:∀l:List α,(List.range l.length).filterMap (l[·]?)=l
 |[]=>rfl
 |a::l=>by
  rw[az,range_succ_eq_map,filterMap_cons];show a::((List.range l.length).map Nat.succ).filterMap ((a::l)[·]?)=_
  rw[filterMap_map]
  congr 1
  exact range_all l
def reorder {α:Type}{es:Array α}{order:List Nat}(hp:order.Perm (List.range es.size)):(order.toArray.filterMap (es[·]?)).toList.Perm es.toList/\∀(f:α->Int),(order.toArray.filterMap (es[·]?)).toList.map f=order.map λk=>(es.map f).getD k 0:=by
 have e1:(order.toArray.filterMap (es[·]?)).toList=order.filterMap (es[·]?):=by simp
 have e2:(List.range es.size).filterMap (es[·]?)=es.toList:=by
  have:=range_all es.toList
  simpa using this
 refine⟨by rw[e1,<-e2];exact hp.filterMap _,λf=>?_⟩
 rw[e1,map_filterMap];have qF:∀k∈order,k<es.size:=λk hk=>mem_range.mp (hp.mem_iff.mp hk)
 clear hp e1 e2;induction order with
 |nil=>rfl
 |cons a r ih=>
  have ha:=qF a af;rw[filterMap_cons,aG,<-ih λk hk=>qF k (aj _ hk)]
  simp[ha]
end ST
namespace ST
open DL SetTable
structure El (P:cy->Prop) (h:Heap) (e:Int×cy) (d:D):Prop where
 ki:KI h e.2 d
 hash:e.1=fI d
 dep:eN d<=4
 ref:∃b,e.2=.ref b
 src:P e.2
def Kg (P:cy->Prop) (h:Heap) (es:List (Int×cy)) (ds:cw):Prop:=es.length=ds.length/\∀(i:Nat) (e:Int×cy),es[i]? =some e->∃d,ds[i]? =some d/\El P h e d
def LP (n:Nat):∀(A:cD) (s:cz) (v:cy) (d:D) (Q:Bool->cz->Prop),eN d<=n->KI s.heap v d->Q false s->jH γ w A (ofAClassStatement n v) Q E s:=by
 induction n with
 |zero=>
  intro A s v d Q hn k h;cases k with
  |int i t=>unfold ofAClassStatement;exact ak h
  |t h1 h2 h3 l=>unfold eN at hn;omega
 |succ n ih=>
  intro A s v d Q hn k h;cases k with
  |int i t=>unfold ofAClassStatement;exact ak h
  |@t a o items m ds ho hc hd l=>
   have hT:s.TypeIs (.ref a) "tuple":=⟨o,ho,hc⟩;have E7:jj ds<=n:=by unfold eN at hn;omega
   unfold ofAClassStatement;refine aa (wpAny_typeOf hT ?_);show wpAny _ _ (pure true>>=_) _ _ s;refine aa (ak ?_);simp only[bU,aJ,bF];refine aa (wpAny_seqItems ho hd ?_);refine aa ?_;show wpAny _ _ (forIn items _ _) _ _ s;rw[<-Array.forIn_toList];refine wpAny_forIn_list _ (λrest r s'=>r.1=none/\s'=s/\∃es,(∀e∈es,eN e<=n)/\wG s.heap rest es) _ ?_ ?_ _ _ ⟨rfl,rfl,ds,λe he=>aE (my he) E7,l⟩
   .rintro v rest r s' ⟨hr,rfl,es,he,hk⟩
    cases hk with
    |cons k1 k2=>
     refine aa (ih A s' v _ _ (he _ af) k1 ?_);simp only[aJ,bF];exact ak ⟨rfl,rfl,_,λe h=>he e (aj _ h),k2⟩
   .rintro⟨r1,r2⟩ s' ⟨hr,rfl,_⟩
    simp only at hr;subst hr;exact ak h
def Td (hx:KI s.heap x dx) (UK:eN dx<=4) (stored:cx) (uf:∀y∈stored,∃d,KI s.heap y d/\eN d<=4) (h:Q false s):jH γ w A (searchCouldBeSeen x stored) Q E s:=by
 unfold searchCouldBeSeen;refine aa ?_;refine wpAny_forIn_list _ (λrest r s'=>r.1=none/\s'=s/\∀y∈rest,∃d,KI s.heap y d/\eN d<=4) _ ?_ ?_ _ _ ⟨rfl,rfl,uf⟩
 .rintro y rest r s' ⟨hr,rfl,hk⟩
  obtain⟨d,kd,hd⟩:=hk y af;have UN:∀z∈rest,∃d,KI s'.heap z d/\eN d<=4:=λz hz=>hk z (aj _ hz)
  have key:∀(b:Bool) (R:ForInStep (Option Bool×Unit)->cz->Prop),R (.yield (none,())) s'->jH γ w A (if(b||carriedByValue x&&carriedByValue y)=true then pure (ForInStep.yield (none,()))else do
    let q <-eqIsQuiet 8 x
    if(!q)=true then pure (ForInStep.done (some true,()))else do
     let q <-eqIsQuiet 8 y
     if(!q)=true then pure (ForInStep.done (some true,()))else do
      let q <-ofAClassStatement 8 x
      if q=true then pure (ForInStep.done (some true,()))else do
       let q <-ofAClassStatement 8 y
       if q=true then pure (ForInStep.done (some true,()))else pure (ForInStep.yield (none,()))) R E s':=λb R hR=>by
   split
   .exact ak hR
   .refine aa (KI.quiet 8 A s' x dx _ (by omega) hx ?_)
    simp only[bU,aJ,bF];refine aa (KI.quiet 8 A s' y d _ (by omega) kd ?_)
    simp only[bU,aJ,bF];refine aa (LP 8 A s' x dx _ (by omega) hx ?_)
    simp only[aJ,bF];refine aa (LP 8 A s' y d _ (by omega) kd ?_)
    simp only[aJ,bF];exact ak hR
  split
  .exact key _ _ ⟨rfl,rfl,UN⟩
  .exact key _ _ ⟨rfl,rfl,UN⟩
 .rintro⟨r1,r2⟩ s' ⟨hr,rfl,_⟩
  simp only at hr;subst hr;exact ak h
def Wt.ab1 (W:Wt t hs):t.gaveWay=false:=by
 unfold gaveWay;rcases W.mask with h|h<;>rw[h]<;>rfl
def Wt.emp (W:Wt t hs):∃e,e<=t.mask/\t.slot e=.empty:=by
 obtain⟨e,h1,h2⟩:=Nm (n:=t.mask) W.tb.rise W.le (by have:=W.room;simpa using this)
 exact⟨e,h1,BY W.tb h2⟩
def Nq (ho:s.heap.get? a=some o) (hd:o.data=.set es ep t) (hf:t.fits es.size=true) (W:Wt t (es.toList.map (·.1))) (hE:Kg P s.heap es.toList ds) (hx:KI s.heap (.ref xa) dx) (UK:eN dx<=4) (hu:A.units+8<cLine) (hq1:dx∈ds->Q (.there none) s) (hq2:dx∉ds->∀k,(it (kZ t.mask) k (t.probeStart (fI dx))).j∉t.place.toList->(∀m,m<k->(it (kZ t.mask) m (t.probeStart (fI dx))).j∈t.place.toList)->Q (.free (it (kZ t.mask) k (t.probeStart (fI dx))).j false) s):∀(r fuel k0 K:Nat) (Qp:Option Probe),Qp.getD (t.probeStart (fI dx))=it (kZ t.mask) k0 (t.probeStart (fI dx))->t.slot (it (kZ t.mask) K (t.probeStart (fI dx))).j=.empty->k0<=K->K-k0<=r->r<fuel->
   (∀m,m<k0->∃i d,t.slot (it (kZ t.mask) m (t.probeStart (fI dx))).j=.live i/\ds[i]? =some d/\d≠dx)->
   jH γ w A (setSearchFrom a (.ref xa) (fI dx) true fuel Qp) Q E s:=by
 intro r;induction r using Nat.strongRecOn with
 |_ r ih=>
  intro fuel k0 K Qp uf hK hk hr Zj Zk;obtain⟨fuel,rfl⟩:∃f,fuel=f+1:=⟨fuel-1,by omega⟩
  unfold setSearchFrom;refine aa (wpAny_setState_of ho hd hf ?_);dsimp only;rw[W.ab1];simp only[aJ,bF];rw[uf];obtain⟨e0,he0,Wr⟩:=W.emp;have LQ:=Pm.it k0 (xX t (fI dx));obtain⟨q,hq,hqe⟩:=reach W.mask LQ.pb.nine LQ.pb.Ta he0;obtain⟨k,Zl,Zm⟩:=Qi W.tb (ha:=λi=>(es[i]?.map (·.1)).getD 0) (h:=fI dx) (10*turns t.mask) _ LQ.pb ⟨q,hq,by rw[hqe];exact Wr⟩
  have tot:∀m,it (kZ t.mask) m (it (kZ t.mask) k0 (t.probeStart (fI dx)))=it (kZ t.mask) (k0+m) (t.probeStart (fI dx)):=λm=>(wJ _ _ _ _).symm
  simp only[tot]at Zl Zm;have entry:∀i j,t.slot j=.live i->∃e d,es[i]? =some e/\ds[i]? =some d/\El P s.heap e d/\t.place[i]? =some j:=λi j hj=>by
   rcases BZ W.tb j with⟨i',h1,h2⟩|⟨h1,_⟩
   .rw[hj]at h1;cases h1;have fR:i<es.size:=by
     have:=(Array.getElem?_eq_some_iff.mp h2).1;have hl:=W.len;simp at hl;omega
    obtain⟨d,h3,h4⟩:=hE.2 i es[i] (by simp[fR])
    exact⟨es[i],d,by simp[fR],h3,h4,h2⟩
   .rw[hj]at h1;cases h1
  have other:∀m,m<k->∃i d,t.slot (it (kZ t.mask) (k0+m) (t.probeStart (fI dx))).j=.live i/\ds[i]? =some d/\d≠dx:=λm hm=>by
   obtain⟨i,h1,h2⟩:=Zl m hm;obtain⟨e,d,h3,h4,h5,_⟩:=entry i _ h1;refine⟨i,d,h1,h4,λz=>h2 ?_⟩
   rw[h3];show e.1=_;rw[h5.hash,z]
  have Qq:∀m,m<k0+k->∃i d,t.slot (it (kZ t.mask) m (t.probeStart (fI dx))).j=.live i/\ds[i]? =some d/\d≠dx:=λm hm=>by
   by_cases Zn:m<k0
   .exact Zk m Zn
   .obtain⟨m',rfl⟩:∃m',m=k0+m':=⟨m-k0,by omega⟩
    exact other m' (by omega)
  rcases Zm with⟨Te,e⟩|⟨i,Qr,hha,e⟩
  .
   have Kh:dx∉ds:=λqF=>by
    obtain⟨i,hi⟩:=bp qF;have fR:i<es.toList.length:=by rw[hE.1];exact(List.getElem?_eq_some_iff.mp hi).1
    obtain⟨d,h1,h2⟩:=hE.2 i _ (ah fR);rw[hi]at h1;cases h1;obtain⟨ki,p1,p2⟩:=W.way i (fI dx) (by rw[aw,ah fR];exact congrArg some h2.hash)
    have UO:(it (kZ t.mask) (k0+k) (t.probeStart (fI dx))).j∉t.place.toList:=λz=>by
     obtain⟨i',A9⟩:=bp z;rw[vk W.tb (i:=i') (by simpa using A9)]at Te;cases Te
    rcases Nat.lt_trichotomy ki (k0+k)with Tf|heq|Uz
    .obtain⟨i',d',q1,q2,q3⟩:=Qq ki Tf;rw[vk W.tb p1]at q1;cases q1;rw[hi]at q2;exact q3 (aT q2).symm
    .subst heq;exact UO (Array.mem_toList_iff.mpr (Array.mem_of_getElem? p1))
    .exact UO (p2 _ Uz)
   have fin:=hq2 Kh (k0+k) (λz=>by
     obtain⟨i',A9⟩:=bp z;rw[vk W.tb (i:=i') (by simpa using A9)]at Te;cases Te) (λm hm=>by
     obtain⟨i,d,q1,_⟩:=Qq m hm;obtain⟨_,_,_,_,_,q5⟩:=entry i _ q1;exact Array.mem_toList_iff.mpr (Array.mem_of_getElem? q5))
   split
   .rename_i met hm;have z:=hm.symm.trans e;cases z;exact ak fin
   .rename_i hm;exact(hm _ e).elim
  .obtain⟨⟨hv,y⟩,d,h3,h4,h5,h6⟩:=entry i _ Qr;obtain⟨b,hyb⟩:=h5.ref;have Zo:y=.ref b:=hyb;have afG:k0+k<K:=by
    rcases Nat.lt_trichotomy K (k0+k)with fR|heq|Uz
    .obtain⟨i',d',q1,_⟩:=Qq K fR;rw[hK]at q1;cases q1
    .subst heq;rw[hK]at Qr;cases Qr
    .exact Uz
   have UP:t.sameMemory t.moves t.mask=some true:=by unfold sameMemory;rw[if_pos (bO _)]
   have Zp:jK d dx=decide (d=dx):=KI.jK h5.ki hx;split
   .rename_i met hm;have z:=hm.symm.trans e;cases z;dsimp only;split
    .refine aa (Td hx UK _ (λv hv=>?_) ?_)
     .obtain⟨en,hen,rfl⟩:=mem_map.mp hv;have ab3:en∈es.toList:=by
       have:=Array.mem_toList_iff.mp hen;exact Array.mem_toList_iff.mpr (Array.mem_filter.mp this).1
      obtain⟨i',A9⟩:=bp ab3;obtain⟨d',_,h8⟩:=hE.2 i' en A9;exact⟨d',h8.ki,h8.dep⟩
     simp only[aJ,bF];rw[h3];dsimp only;refine aa (bo ((KI.eq 4 A s y (.ref xa) d dx h5.dep (by omega) h5.ki hx) γ w _ _ ?_))
     refine aa (wpAny_setState_of ho hd hf ?_);dsimp only;rw[Zp];by_cases Tg:d=dx
     .rw[aS Tg];exact ak (hq1 (Tg▸bj h4))
     .rw[aI Tg,UP];simp only[Bool.and_false,aJ,bF,if_true];rw[Qr];dsimp only;rw[h3];dsimp only;rw[Zo];refine aa (wpAny_isSame_ref_self ?_);refine aa (ak ?_);simp only[if_true];exact ih (K-(k0+k+1)) (by omega) fuel (k0+k+1) K _ rfl hK (by omega) (av _) (by omega) λm GL=>by
       by_cases Zn:m<k0+k
       .exact Qq m Zn
       .have:m=k0+k:=by omega
        subst this;exact⟨i,d,Qr,h4,Tg⟩
    .rw[h3];dsimp only;refine aa (bo ((KI.eq 4 A s y (.ref xa) d dx h5.dep (by omega) h5.ki hx) γ w _ _ ?_))
     refine aa (wpAny_setState_of ho hd hf ?_);dsimp only;rw[Zp];by_cases Tg:d=dx
     .rw[aS Tg];exact ak (hq1 (Tg▸bj h4))
     .rw[aI Tg,UP];simp only[Bool.and_false,aJ,bF,if_true];rw[Qr];dsimp only;rw[h3];dsimp only;rw[Zo];refine aa (wpAny_isSame_ref_self ?_);refine aa (ak ?_);simp only[if_true];exact ih (K-(k0+k+1)) (by omega) fuel (k0+k+1) K _ rfl hK (by omega) (av _) (by omega) λm GL=>by
       by_cases Zn:m<k0+k
       .exact Qq m Zn
       .have:m=k0+k:=by omega
        subst this;exact⟨i,d,Qr,h4,Tg⟩
   .rename_i hm;exact(hm _ e).elim
mutual
theorem ki_set {h h':Heap}{x:cF}{ox:Obj}{es:Array (Int×cy)}{ep:Nat}{t:cE}(ho:h.get? x=some ox) (hd:ox.data=.set es ep t) (hs:Heap.SameBut x h h'):∀{v:cy}{d:D},KI h v d->KI h' v d
 |_,_,.int n t=>.int n t
 |_,_,@KI.t _ a o items n ds h1 h2 h3 l=>by
  have jI:a≠x:=by
   rintro rfl
   rw[ho]at h1;cases h1;rw[hd]at h3;exact nomatch h3
  exact .t ((hs.2 a jI).trans h1) h2 h3 (LR ho hd hs l)
theorem LR {h h':Heap}{x:cF}{ox:Obj}{es:Array (Int×cy)}{ep:Nat}{t:cE}(ho:h.get? x=some ox) (hd:ox.data=.set es ep t) (hs:Heap.SameBut x h h'):∀{vs:cx}{ds:cw},wG h vs ds->wG h' vs ds
 |_,_,.nil=>.nil
 |_,_,.cons h t=>.cons (ki_set ho hd hs h) (LR ho hd hs t)
end
def Kg.imp (e:Kg P h es ds) (m:∀v d,KI h v d->KI h' v d):Kg P h' es ds:=
 ⟨e.1,λi x hx=>let ⟨d,h1,h2⟩:=e.2 i x hx;⟨d,h1,⟨m _ _ h2.ki,h2.hash,h2.dep,h2.ref,h2.src⟩⟩⟩
theorem Kg.ins {P:cy->Prop}{h:Heap}{es:List (Int×cy)}{ds:cw}(e:Kg P h es ds) {p:Nat}(hp:p<=es.length) {x:Int×cy}{d:D}(hx:El P h x d):Kg P h (ST.ins es p x) (ST.ins ds p d):=by
 have N6:p<=ds.length:=by rw[<-e.1];exact hp
 refine⟨by rw[oM hp,oM N6,e.1],λi y hy=>?_⟩
 rw[nB hp]at hy;rw[nB N6];by_cases c1:i<p
 .rw[if_pos c1]at hy ⊢;exact e.2 i y hy
 .rw[if_neg c1]at hy ⊢;by_cases c2:i=p
  .rw[if_pos c2]at hy ⊢;cases hy;exact⟨d,rfl,hx⟩
  .rw[if_neg c2]at hy ⊢;exact e.2 (i-1) y hy
theorem Ki {α:Type}(l:List α):∀(order:List Nat),(∀k∈order,k<l.length)->∀i:Nat,(order.filterMap λk:Nat=>l[k]?)[i]? =(order[i]?).bind λk:Nat=>l[k]?
 |[],_,i=>by simp
 |a::r,h,i=>by
  have ha:=h a af;have e:l[a]? =some l[a]:=ah ha;rw[filterMap_cons,e];cases i with
  |zero=>simp[e]
  |succ i=>simpa using Ki l r (λk hk=>h k (aj _ hk)) i
def Kg.reorder {P:cy->Prop}{h:Heap}{es:List (Int×cy)}{ds:cw}(e:Kg P h es ds) {order:List Nat}(hp:order.Perm (List.range es.length)):Kg P h (order.filterMap λk:Nat=>es[k]?) (order.filterMap λk:Nat=>ds[k]?)/\(order.filterMap λk:Nat=>ds[k]?).Perm ds:=by
 have qF:∀k∈order,k<es.length:=λk hk=>mem_range.mp (hp.mem_iff.mp hk)
 have Zq:∀k∈order,k<ds.length:=λk hk=>by rw[<-e.1];exact qF k hk
 have Zr:∀{α:Type}(l:List α) (o:List Nat),(∀k∈o,k<l.length)->(o.filterMap λk:Nat=>l[k]?).length=o.length:=λl o=>by
  induction o with
  |nil=>intro _;rfl
  |cons a r ih=>
   intro hh;rw[filterMap_cons,ah (hh a af)];show(r.filterMap λk:Nat=>l[k]?).length+1=_
   rw[ih λk hk=>hh k (aj _ hk)];rfl
 refine⟨⟨by rw[Zr es order qF,Zr ds order Zq],λi x hx=>?_⟩,?_⟩
 .rw[Ki es order qF]at hx;rw[Ki ds order Zq];cases hk:order[i]? with
  |none=>rw[hk]at hx;cases hx
  |some k=>rw[hk]at hx;exact e.2 k x hx
 .have h1:=hp.filterMap (λk:Nat=>ds[k]?)
  rw[e.1,range_all]at h1;exact h1
def Zs (n:Nat):∀(A:cD) (s:cz) (v:cy) (d:D) (Q:Bool->cz->Prop),eN d<=n->KI s.heap v d->Q true s->jH γ w A (hashByValue n v) Q E s:=by
 induction n with
 |zero=>
  intro A s v d Q hn k h;cases k with
  |int i t=>unfold hashByValue;exact ak h
  |t h1 h2 h3 l=>unfold eN at hn;omega
 |succ n ih=>
  intro A s v d Q hn k h;cases k with
  |int i t=>unfold hashByValue;exact ak h
  |@t a o items m ds ho hc hd l=>
   have hT:s.TypeIs (.ref a) "tuple":=⟨o,ho,hc⟩;have E7:jj ds<=n:=by unfold eN at hn;omega
   unfold hashByValue;refine aa (wpAny_specialOf hT F.slot_tuple_hash.lookup ?_);dsimp only;refine aa (wpAny_seqItems ho hd ?_);refine aa ?_;show wpAny _ _ (forIn items _ _) _ _ s;rw[<-Array.forIn_toList];refine wpAny_forIn_list _ (λrest r s'=>r.1=none/\s'=s/\∃es,(∀e∈es,eN e<=n)/\wG s.heap rest es) _ ?_ ?_ _ _ ⟨rfl,rfl,ds,λe he=>aE (my he) E7,l⟩
   .rintro v rest r s' ⟨hr,rfl,es,he,hk⟩
    cases hk with
    |cons k1 k2=>
     refine aa (ih A s' v _ _ (he _ af) k1 ?_);simp only[bU,aJ,bF];exact ak ⟨rfl,rfl,_,λe h=>he e (aj _ h),k2⟩
   .rintro⟨r1,r2⟩ s' ⟨hr,rfl,_⟩
    simp only at hr;subst hr;exact ak h
structure AI (P:cy->Prop) (ld:Bool) (h:Heap) (a:cF) (ds:cw):Prop where
 ex:∃(o:Obj) (es:Array (Int×cy)) (ep:Nat) (t:cE),h.get? a=some o/\o.ExactSet/\o.data=.set es ep t/\Wt t (es.toList.map (·.1))/\Kg P h es.toList ds/\t.place.size*5<t.mask*3/\t.plain=true/\t.led=ld
 nd:ds.Nodup
theorem Wt.fits {t:cE}{es:Array (Int×cy)}(W:Wt t (es.toList.map (·.1))):t.fits es.size=true:=by
 have h1:=W.len;have h2:=W.room;simp at h1;unfold SetTable.fits SetTable.fill;rw[W.tb.Zh];simp only[Bool.and_eq_true,beq_iff_eq,decide_eq_true_eq,au,length_nil];omega
def Qs {α:Type}(l:List α) (p:Nat) (x:α):(ins l p x).Perm (x::l):=by
 unfold ins;refine perm_middle.trans (List.Perm.cons x ?_);rw[take_append_drop]
def Ws {P:cy->Prop}{ld:Bool}{a xa:cF}{ds:cw}{dx:D}{Q:Bool->cz->Prop}(S:AI P ld s.heap a ds) (hx:KI s.heap (.ref xa) dx) (UK:eN dx<=4) (hP:P (.ref xa)) (hu:A.units+8<cLine) (hn:ds.length<18)
  (h:∀h' Lm,Heap.SameBut a s.heap h'->AI P ld h' a Lm->Lm.Perm (if dx∈ds then ds else dx::ds)->Q (!decide (dx∈ds)) {s with heap:=h'}):
  jH γ w A (setAddHashed a (.ref xa) (fI dx)) Q E s:=by
 obtain⟨o,es,ep,t,ho,hex,hd,W,hE,nr,oj,Zt⟩:=S.ex;have hf:=W.fits;have π:t.place.size=es.size:=by have:=W.len;simpa using this
 unfold setAddHashed setAddHashedIn;refine bo (aa (wpAny_setState_of ho hd hf ?_));dsimp only;have Zu:byScan (.ref xa) es=false:=rfl;rw[Zu];simp only[aJ,bF];obtain⟨e0,he0,Wr⟩:=W.emp;have LQ:=xX t (fI dx);obtain⟨K,hK1,hK2⟩:=reach W.mask LQ.pb.nine LQ.pb.Ta he0;have hK3:K<100000:=by
  rcases W.mask with hm|hm<;>(rw[hm]at hK1;unfold turns at hK1;omega)
 unfold setSearch;refine aa (Nq ho hd hf W hE hx UK hu (λqF=>?_) (λKh k Zv Zw=>?_) K 100000 0 K none rfl (by rw[hK2];exact Wr) (bM _) (by omega) hK3 (λm hm=>by omega))
 .have:=h s.heap ds (Heap.SameBut.refl a s.heap) S (by rw[if_pos qF])
  rw[aS qF]at this;exact ak this
 .dsimp only;refine aa (wpAny_setState_of ho hd hf ?_);dsimp only;have hr1:t.place.size+1<t.mask+1:=by omega
  obtain⟨W1,RY,O5,Wu⟩:=W.put Zv Zw hr1;have Qt:(t.put (it (kZ t.mask) k (t.probeStart (fI dx))).j).1.plain=true:=oj;have Th:(t.put (it (kZ t.mask) k (t.probeStart (fI dx))).j).1.led=ld:=Zt;generalize t.put (it (kZ t.mask) k (t.probeStart (fI dx))).j=tp at W1 RY O5 Wu Qt Th;obtain⟨t1,p⟩:=tp;dsimp only at W1 RY O5 Wu Qt Th;rw[if_pos Qt];refine aa (Zs 8 A s (.ref xa) dx _ (by omega) hx ?_)
  simp only[if_true];have hp2:p<=es.toList.length:=by simpa using RY
  have el1:(insertAt es p (fI dx,Value.ref xa)).toList=ins es.toList p (fI dx,Value.ref xa):=vU _ _ _;have W1':Wt t1 ((insertAt es p (fI dx,Value.ref xa)).toList.map (·.1)):=by rw[el1,ins_map];exact W1
  have Zx:(insertAt es p (fI dx,Value.ref xa)).size=es.size+1:=by
   rw[<-aO,el1,oM hp2,aO]
  have afK:ds.length=es.size:=by rw[<-hE.1,aO]
  refine aa (wpAny_storeSet_of ho hd ?_ (by rw[Zx];exact aE (by omega:es.size+1<=100) (by decide)))
  have Xn:Heap.SameBut a s.heap (s.heap.update a (Obj.putSet (insertAt es p (fI dx,Value.ref xa)) t1)):=Heap.SameBut.update ..;have Ji:(s.heap.update a (Obj.putSet (insertAt es p (fI dx,Value.ref xa)) t1)).get? a=some {o with data:=.set (insertAt es p (fI dx,Value.ref xa)) (ep+1) t1}:=by
   have:=Heap.get?_update_self (Obj.putSet (insertAt es p (fI dx,Value.ref xa)) t1) ho (by rw[putSet_of _ t1 hd];rfl)
   rw[putSet_of _ t1 hd]at this;exact this
  have km1:∀v d,KI s.heap v d->KI (s.heap.update a (Obj.putSet (insertAt es p (fI dx,Value.ref xa)) t1)) v d:=λv d=>ki_set ho hd Xn
  have hE1:Kg P (s.heap.update a (Obj.putSet (insertAt es p (fI dx,Value.ref xa)) t1)) (insertAt es p (fI dx,Value.ref xa)).toList (ins ds p dx):=by
   rw[el1];exact(hE.imp km1).ins hp2 ⟨km1 _ _ hx,rfl,UK,⟨xa,rfl⟩,hP⟩
  have B2:(ins ds p dx).Perm (dx::ds):=Qs ds p dx;have MZ:(ins ds p dx).Nodup:=B2.nodup_iff.mpr (nodup_cons.mpr ⟨Kh,S.nd⟩);have UQ:t1.fill=t1.place.size:=by unfold SetTable.fill;rw[W1.tb.Zh];rfl
  have Zy:(!decide (dx∈ds))=true:=by rw[aI Kh];rfl
  by_cases LS:t1.tooFull=true
  .
   have Zj:t1.mask*3<=t1.place.size*5:=by
    have:decide (t1.fill*5 ≥ t1.mask*3)=true:=LS;rw[UQ]at this;have:=bL this;omega
   have hm7:t.mask=7:=by
    rcases W.mask with hm|hm
    .exact hm
    .rw[O5,hm,Wu]at Zj;omega
   have h4:es.size=4:=by rw[O5,hm7,Wu]at Zj;rw[hm7]at nr;omega
   generalize afL:insertAt es p (fI dx,Value.ref xa)=Dh at *;have Wv:Dh.size=5:=by rw[Zx,h4]
   obtain⟨t2,order,Zz,ab5,W2,GL,ZA,ab6,_⟩:=Tc (mask:=31) (.inr rfl) t1.finger (t1.movedTo 31) t1.led t1.plain (Dh.map (·.1)) (by simp[Wv])
   have UR:order.Perm (List.range Dh.size):=by simpa using ab5
   obtain⟨rp,ab7⟩:=reorder (es:=Dh) UR;have hsz2:(order.toArray.filterMap (Dh[·]?)).size=Dh.size:=by
    have:=rp.length_eq
    simpa using this
   have W2':Wt t2 ((order.toArray.filterMap (Dh[·]?)).toList.map (·.1)):=by rw[ab7 (·.1)];exact W2
   simp only[Bool.not_false,Bool.true_and,if_pos LS];refine aa ?_;unfold setRelay;refine aa (wpAny_setState_of Ji rfl W1'.fits ?_);dsimp only;have hw:sizeAbove (grown (es.size+1))=32:=by rw[h4];rfl
   have hre:t1.relaid (Dh.map (·.1)) (grown (es.size+1))=some (t2,order.toArray):=by unfold relaid;rw[hw];exact Zz
   rw[hw,if_neg (by decide),hre]
   refine aa ?_;show wpAny _ _ (if((order.toArray.filterMap (Dh[·]?)).size !=Dh.size)=true then(unsupported "internal:set-table-lost-an-element">>=λ_=>pure (order.toArray.filterMap (Dh[·]?),t2))else pure (order.toArray.filterMap (Dh[·]?),t2)) _ _ _
   rw[if_neg (by rw[hsz2];simp)]
   refine ak ?_;dsimp only;refine wpAny_storeSet_of Ji rfl ?_ (by rw[hsz2,Wv];decide)
   have sb2:Heap.SameBut a (s.heap.update a (Obj.putSet Dh t1)) ((s.heap.update a (Obj.putSet Dh t1)).update a (Obj.putSet (order.toArray.filterMap (Dh[·]?)) t2)):=Heap.SameBut.update ..
   have Bp:((s.heap.update a (Obj.putSet Dh t1)).update a (Obj.putSet (order.toArray.filterMap (Dh[·]?)) t2)).get? a=some {o with data:=.set (order.toArray.filterMap (Dh[·]?)) (ep+1+1) t2}:=by
    have:=Heap.get?_update_self (Obj.putSet (order.toArray.filterMap (Dh[·]?)) t2) Ji (by rw[putSet_of _ t2 rfl];rfl)
    rw[putSet_of _ t2 rfl]at this;exact this
   have eq2:(order.toArray.filterMap (Dh[·]?)).toList=order.filterMap λk:Nat=>Dh.toList[k]? :=by simp
   obtain⟨hE2,ZC⟩:=(hE1.imp (λv d=>ki_set Ji rfl sb2)).reorder (order:=order) (by simpa using UR)
   rw[<-eq2]at hE2;have:=h _ _ (Xn.trans sb2) ⟨⟨_,_,_,t2,Bp,hex,rfl,W2',hE2,by have h1:=W2'.len;rw[ae,aO,hsz2,Wv]at h1;rw[GL,h1];decide,by rw[ab6];exact Qt,by rw[ZA];exact Th⟩,(ZC.trans B2).nodup_iff.mpr (nodup_cons.mpr ⟨Kh,S.nd⟩)⟩ (by rw[if_neg Kh];exact ZC.trans B2)
   rw[Zy]at this;exact ak this
  .have Zj:t1.place.size*5<t1.mask*3:=by
    have h0:¬ (decide (t1.fill*5 ≥ t1.mask*3)=true):=LS;rw[UQ]at h0
    simpa using h0
   simp only[Bool.not_false,Bool.true_and,if_neg LS];have:=h _ (ins ds p dx) Xn ⟨⟨_,_,_,t1,Ji,hex,rfl,W1',hE1,Zj,Qt,Th⟩,MZ⟩ (by rw[if_neg Kh];exact B2)
   rw[Zy]at this;exact ak this
def Tk (h h':Heap):Prop:=∀b o,h.get? b=some o->o.cls=.type "tuple"->h'.get? b=some o
def Tk.trans (a:Tk h h1) (b:Tk h1 h2):Tk h h2:=λx o e c=>b x o (a x o e c) c
mutual
theorem Qu {h h':Heap}(t:Tk h h'):∀{v:cy}{d:D},KI h v d->KI h' v d
 |_,_,.int n t=>.int n t
 |_,_,.t h1 h2 h3 l=>.t (t _ _ h1 h2) h2 h3 (Qv t l)
theorem Qv {h h':Heap}(t:Tk h h'):∀{vs:cx}{ds:cw},wG h vs ds->wG h' vs ds
 |_,_,.nil=>.nil
 |_,_,.cons h r=>.cons (Qu t h) (Qv t r)
end
def AI.mono {P:cy->Prop}{ld:Bool}{h h':Heap}{a:cF}{ds:cw}(S:AI P ld h a ds) (hS:∀o,h.get? a=some o->h'.get? a=some o) (t:Tk h h'):AI P ld h' a ds:=by
 obtain⟨o,es,ep,tb,h1,h2,h3,h4,h5,h6,h7⟩:=S.ex;exact⟨⟨o,es,ep,tb,hS o h1,h2,h3,h4,h5.imp λv d=>Qu t,h6,h7⟩,S.nd⟩
def AI.tk {P:cy->Prop}{ld:Bool}{h h':Heap}{a:cF}{ds:cw}(S:AI P ld h a ds) (hs:Heap.SameBut a h h'):Tk h h':=λb o e c=>by
 obtain⟨o',es,ep,tb,h1,h2,_⟩:=S.ex;have jI:b≠a:=λz=>by
  subst z;rw[h1]at e;cases e;rw[h2.1]at c;exact absurd c (by decide)
 exact(hs.2 b jI).trans e
def Kj (led:Bool) (ho:h.get? a=some {cls:=.type "set",dict:=none,data:=.set #[] 0 (.fresh 0 0 led)}):AI P led h a []:=
 ⟨⟨_,#[],0,_,ho,⟨rfl,rfl,rfl⟩,rfl,Ql led,⟨rfl,λi e he=>by simp at he⟩,by show 0*5<7*3;decide,rfl,rfl⟩,nodup_nil⟩
section
variable {γ:cB}{w:cC}{A:cD}{R:Result->cz->Prop}{I:cF}{fp wr:List cF}{G:Array GenState->Array GenState->Prop}{n:Nat}{P:Nat->cy->Prop}{St:Nat->cz->Prop}
def ZD {Pv:cy->Prop}{ld:Bool}(W:WalksS γ w A.in1 I fp wr G n P St) (S:cF) (hSf:S∉fp) (val:Nat->D) (h0:Heap)
  (ab8:∀i v,P i v->(∃xa,v=.ref xa)/\eN (val i)<=4/\KI h0 v (val i)/\Pv v) (hb:n<=18) (hu:A.units+9<cLine)
  (hwr:∀i (s:cz) b o,St i s->b∈wr->s.heap.get? b=some o->o.cls≠.type "tuple"):
  ∀(k i:Nat) (s:cz),n-i=k->i<=n->St i s->Tk h0 s.heap->
   (∃ds,AI Pv ld s.heap S ds/\ds.length<=i/\∀d,d∈ds↔∃m,m<i/\val m=d)->
   (∀s',Moved (S::wr) G s s'->Tk h0 s'.heap->(∃ds,AI Pv ld s'.heap S ds/\ds.length<=n/\∀d,d∈ds↔∃m,m<n/\val m=d)->R (.ok (.ret .none)) s')->
   codeAny (model γ w) A (.builtin "set.update.loop" ⟨[.ref S,.ref I],[]⟩) R s:=by
 have hSw:S∉wr:=λh=>hSf (W.sub _ h)
 have Nr:∀b∈wr,b∈S::wr:=λb hb=>aj _ hb
 have mvT:∀{i:Nat}{s s':cz},St i s->Moved wr G s s'->Tk s.heap s'.heap:=λuf hm b o e c=>hm.heap b o (λhb=>hwr _ _ b o uf hb e c) e
 intro k;induction k with
 |zero=>
  intro i s hk hi uf hT ⟨ds,hS,hl,DG⟩ hR;have qF:i=n:=by omega
  subst qF;refine codeAny_builtin PyProof.Rows.F.entry_set_update_loop ?_;rw[bY PyProof.Rows.F.plain_set_update_loop _];show wpAny _ A.in1 (pyNext (.ref I)>>=_) _ _ s;refine aa (W.done s _ _ uf λs' hm=>?_)
  show wpAny _ A.in1 (ret Value.none) _ _ s';exact ak (hR s' ⟨λb o hb e=>hm.heap b o (λz=>hb (Nr b z)) e,hm.gens,hm.drawn,hm.os,hm.toks⟩ (hT.trans (mvT uf hm)) ⟨ds,hS.mono (λo e=>hm.heap S o hSw e) (mvT uf hm),hl,DG⟩)
 |succ k ih=>
  intro i s hk hi uf hT ⟨ds,hS,hl,DG⟩ hR;have fR:i<n:=by omega
  refine codeAny_builtin PyProof.Rows.F.entry_set_update_loop ?_;rw[bY PyProof.Rows.F.plain_set_update_loop _];show wpAny _ A.in1 (pyNext (.ref I)>>=_) _ _ s;refine aa (W.item i s _ _ fR uf λv s' hP Nt hm=>?_)
  obtain⟨⟨xa,rfl⟩,Qw,hki,hpv⟩:=ab8 i v hP;have hT':=hT.trans (mvT uf hm);have XC:=hS.mono (λo e=>hm.heap S o hSw e) (mvT uf hm)
  show wpAny _ A.in1 (holding [Value.ref xa] (setAdd S (.ref xa))>>=_) _ _ s';refine aa (bo ?_);unfold setAdd;refine bo ?_;have ZE:=Qu hT' hki;refine aa (KI.hash 4 A.in1 s' (.ref xa) (val i) _ Qw (by show A.units+1+4<cLine;omega) ZE ?_)
  refine Ws (s:={s' with toks:=s'.toks+BO (val i)}) XC ZE Qw hpv (by show A.units+1+8<cLine;omega) (by omega) λh' Lm RV hS2 LQ=>?_
  have ab9:Tk s'.heap h':=XC.tk RV;refine ak ⟨plainId_quiet PyProof.Rows.F.plain_set_update_loop _,ih (i+1) _ (by omega) fR (W.frame _ s' _ _ Nt (Nat.le_add_right _ _) λb hb o e=>?_) (hT'.trans ab9) ⟨Lm,hS2,?_,λd=>?_⟩ λOH aca hT2 acb=>?_⟩
  .rw[RV.2 b (λh:b=S=>hSf (by rw[<-h];exact hb))];exact e
  .have:=LQ.length_eq;by_cases qF:val i∈ds
   .rw[if_pos qF]at this;omega
   .rw[if_neg qF,az]at this;omega
  .rw[LQ.mem_iff];have Zc:=DG d;constructor
   .intro hd;split at hd
    .obtain⟨m,h1,h2⟩:=Zc.mp hd;exact⟨m,by omega,h2⟩
    .rcases mem_cons.mp hd with rfl|hd
     .exact⟨i,by omega,rfl⟩
     .obtain⟨m,h1,h2⟩:=Zc.mp hd;exact⟨m,by omega,h2⟩
   .rintro⟨m,h1,h2⟩
    by_cases hmi:m=i
    .subst hmi;subst h2;split
     .rename_i qF;exact qF
     .exact af
    .have:=Zc.mpr ⟨m,by omega,h2⟩
     split
     .exact this
     .exact aj _ this
  .refine hR OH (Moved.trans W.gtrans ?_ aca) hT2 acb;refine⟨λb o hb e=>?_,hm.gens,hm.drawn,hm.os,?_⟩
   .rw[RV.2 b (λh:b=S=>hb (by rw[h];exact af))]
    exact hm.heap b o (λz=>hb (Nr b z)) e
   .exact aE hm.toks (Nat.le_add_right _ _)
end
noncomputable abbrev fV (led:Bool):Obj:={cls:=.type "set",dict:=none,data:=.set #[] 0 (.fresh 0 0 led)}
section
variable {s:cz}
def Made (P:cy->Prop) (ld:Bool) (s:cz) (val:cw) (h':Heap):Prop:=(∃ds,AI P ld h' s.dN ds/\∀d,d∈ds↔d∈val)/\∀b o,b<s.dN->s.heap.get? b=some o->h'.get? b=some o
theorem Nu {l:cF}{items:Array cy}{val:cw}{led:Bool}(hh:A.handled=none) (hu:A.units+20<cLine) (hl:s.heap.IsList l items) (hn:items.size=val.length)
  (hit:∀(i:Nat) (v:cy),items[i]? =some v->(∃xa,v=.ref xa)/\eN (val.getD i .eZ)<=4/\KI s.heap v (val.getD i .eZ)) (hb:items.size<=18) {Q:PySem.Fin->cz->Prop}
  (h:∀h' tk,Made (·∈items.toList) led s val h'->Q (.done (.ret .none)) {s with heap:=h',toks:=tk}):
  jH γ w A (Builtin.«set.__init__» ⟨[.ref s.dN,.ref l],[]⟩) Q E {s with heap:=s.heap.push (fV led)}:=by
 obtain⟨⟨afS,ZF,adH,Ww⟩,Xy,xf,nl,Xz⟩:=hl;simp only at xf Xz;subst xf Xz;have hS:(s.heap.push (fV led)).get? s.dN=some (fV led):=aB _ rfl;have hT:Shared.TypeIs {s with heap:=s.heap.push (fV led)} (.ref s.dN) "set":=⟨_,hS,rfl⟩
 have acd:(s.heap.push (fV led)).get? l=some {cls:=.type "list",dict:=ZF,data:=.seq items nl,slots:=Ww}:=ag _ Xy;have afT:=PySem.F.sub_list_set;have afU:=PySem.F.sub_list_frozenset;have jI:(Value.type "list"==Value.type "dict")=false:=by decide
 have Ti:(s.heap.push (fV led)).IsList l items:=⟨_,acd,rfl,nl,rfl⟩;unfold Builtin.«set.__init__» noKeywords Builtin.Frozenset.updateFrom;generalize hPI:pyIter=PI
 wp_walk
 subst hPI;refine wpAny_pyIter_list Ti ?_;refine aa (wpAny_runValue ?_);have hlS:l<s.dN:=aD Xy;have hzp:(s.heap.push (fV led)).objs.size=s.dN+1:=Heap.size_push ..;have Wx:l≠(s.heap.push (fV led)).objs.size:=by rw[hzp];exact aF (Nat.lt_succ_of_lt hlS)
 have hSf:s.dN∉[(s.heap.push (fV led)).objs.size,l]:=by
  rw[hzp];simp only[mem_cons,bJ,or_false,not_or];exact⟨aF (Nat.lt_succ_self _),bz hlS⟩
 have hgS:((s.heap.push (fV led)).push {cls:=.type "list_iterator",data:=.fields #[.ref l,.int 0 0]}).get? s.dN=some (fV led):=ag _ hS;have W:=(Walks.list (prog:=γ) (w:=w) (A:=A.in1) hh (s.heap.push (fV led)).objs.size l Wx items).toS;refine ZD (Pv:=(·∈items.toList)) W s.dN hSf (λi=>val.getD i .eZ) s.heap (λi v hv=>⟨(hit i v hv).1,(hit i v hv).2.1,(hit i v hv).2.2,Array.mem_toList_iff.mpr (Array.mem_of_getElem? hv)⟩) hb (by omega) (λi s' b o st hbw e c=>?_) (items.size-0) 0 _ (by omega) (bM _) ⟨⟨_,aB _ rfl,rfl,rfl⟩,Ti.push _⟩ (λb o e _=>ag _ (ag _ e)) ⟨[],Kj led hgS,av _,λd=>⟨(λz=>by cases z),λ⟨m,hm,_⟩=>by omega⟩⟩ (λs' hm hTk ⟨ds,hSt,_,DG⟩=>?_)
 .have Sk:b=(s.heap.push (fV led)).objs.size:=by simpa using hbw
  obtain⟨o',e',c',_⟩:=st.1;subst Sk;rw[e]at e';cases e';rw[c]at c';exact absurd c' (by decide)
 .obtain⟨h',g',d',DH,Yl⟩:=s';have eg:g'=s.gens:=hm.gens;have ed:d'=s.drawn:=hm.drawn;have eo:Yl=s.os:=hm.os;subst eg ed eo;show wpAny _ _ _ _ _ _;refine ak ?_;show wpAny _ _ (ret Value.none) _ _ _;refine ak (h h' DH ⟨⟨ds,hSt,λd=>(DG d).trans ⟨λ⟨m,O5,GL⟩=>?_,λhd=>?_⟩⟩,λb o hb e=>?_⟩)
  .have:m<val.length:=by rw[<-hn];exact O5
   rw[<-GL];show val.getD m .eZ∈val;rw[ao,ah this];exact getElem_mem this
  .obtain⟨m,GL⟩:=bp hd;refine⟨m,by rw[hn];exact(List.getElem?_eq_some_iff.mp GL).1,?_⟩
   show val.getD m .eZ=d;rw[ao,GL];rfl
  .have hb1:b≠s.dN:=aF hb;have Y9:b≠(s.heap.push (fV led)).objs.size:=by rw[hzp];exact aF (Nat.lt_succ_of_lt hb)
   exact hm.heap b o (by simp only[mem_cons,bJ,or_false,not_or];exact⟨hb1,Y9⟩) (ag _ (ag _ e))
end
def Tj (a:cy) (h:Q₁ (.ref s.dN) {s with heap:=s.heap.push (fV (!w.params.followText "set-order"))}):codeAny (model γ w) A (.call (.builtin "set.__new__") ⟨[.type "set",a],[]⟩) (wants Q₁ E) s:=by
 refine codeAny_of_tree ?_;show wpAny _ A.in1 (checkBuiltinCall "set.__new__" ⟨[.type "set",a],[]⟩>>=λ_=>again (.builtin "set.__new__" ⟨[.type "set",a],[]⟩)) _ _ s
 refine aa (wpAny_of_eq (PySem.F.newCall_set_1 a) (ak ⟨plainId_quiet PySem.F.plain_set_new _,codeAny_builtin PySem.F.entry_set_new ?_⟩));rw[bY PySem.F.plain_set_new _];unfold Builtin.«set.__new__» Builtin.Frozenset.newClass;have Nr:=sub_set_self;obtain⟨hp,g,d,tk,os⟩:=s;dsimp only
 wp_walk
 refine wpAny_askSetting (ak ?_);dsimp only;simp only[newObj];refine aa (wpAny_alloc (ak ?_));exact ak h
set_option maxHeartbeats 8000000 in
def DI {x:cy}{Mk:Heap->Prop}{Q:cj}
  (ZG:∀{Q:PySem.Fin->cz->Prop},(∀h' tk,Mk h'->Q (.done (.ret .none)) {s with heap:=h',toks:=tk})->wpAny (model γ w) A.in1.in1 (Builtin.«set.__init__» ⟨[.ref s.dN,x],[]⟩) Q E {s with heap:=s.heap.push (fV (!w.params.followText "set-order"))})
  (h:∀h' tk,Mk h'->Q (.ref s.dN) {s with heap:=h',toks:=tk}):
  jH γ w A (call (.type "set") [x]) Q E s:=by
 obtain⟨c,tl,af0⟩:=PySem.F.called_set.mro;have US:=PySem.F.called_set.made;have Nr:=PySem.F.called_set.sub;have h1:=PySem.F.called_set.notType;have h2:=PySem.F.called_set.canCreate;have hct:=PySem.F.typeCall_set_1 x;refine wpAny_call (codeAny_of_tree ?_);show wpAny _ _ (callAny (.type "set") _) _ _ _;refine ak ⟨Code.quiet_builtin _ (by decide +kernel),codeAny_builtin PySem.F.entry_type_call ?_⟩
 rw[Around.under_plain (weight_type_call_type "set" [x] []) rfl]
 repeat (any_goals (first|assumption|wp_step))
 refine codeAny_mono (Tj x (E:=E) (Q₁:=λobj s₁=>obj=.ref s.dN/\s₁={s with heap:=s.heap.push (fV (!w.params.followText "set-order"))}) ⟨rfl,rfl⟩) λr s₁ hr=>?_
 cases r with
 |error e=>exact hr
 |ok fl=>
  cases fl with
  |ret obj=>
   obtain⟨rfl,rfl⟩:=hr;have hT:Shared.TypeIs {s with heap:=s.heap.push (fV (!w.params.followText "set-order"))} (.ref s.dN) "set":=⟨_,aB _ rfl,rfl⟩
   have Qr:=PySem.F.called_set.init.lookup;have hbi:=PySem.F.called_set.init.bind (.ref s.dN)
   repeat (any_goals (first|assumption|wp_step))
   refine codeAny_mono (codeAny_call_builtin (R:=wants (λr s₂=>r=.none/\∃h' tk,s₂={s with heap:=h',toks:=tk}/\Mk h') E) PySem.F.called_set.init.plain PySem.F.entry_set_init (check_set_init_1 hT ?_)) λr₂ s₂ hr₂=>?_
   .exact ZG λh' tk hm=>⟨rfl,h',tk,rfl,hm⟩
   .cases r₂ with
    |error e=>exact hr₂
    |ok fl₂=>
     cases fl₂ with
     |ret r=>
      obtain⟨rfl,h',tk,rfl,hm⟩:=hr₂
      repeat (any_goals (first|assumption|wp_step))
      exact h _ _ hm
     |_=>exact hr₂.elim
  |_=>exact hr.elim
def DJ (hh:A.handled=none) (hu:A.units+40<cLine) (hl:s.heap.IsList l items) (hn:items.size=val.length) (hit:∀(i:Nat) (v:cy),items[i]? =some v->(∃xa,v=.ref xa)/\eN (val.getD i .eZ)<=4/\KI s.heap v (val.getD i .eZ)) (hb:items.size<=18) (h:∀h' tk,Made (·∈items.toList) (!w.params.followText "set-order") s val h'->Q (.ref s.dN) {s with heap:=h',toks:=tk}):jH γ w A (call (.type "set") [.ref l]) Q E s:=
 DI (λhQ=>Nu (s:=s) (A:=A.in1.in1) hh (by show A.units+1+1+20<cLine;omega) hl hn hit hb hQ) h
def jN:Slot "set_iterator" "__next__" "set_iterator.__next__":=
 .of (owner:="set_iterator") (n:="__next__") (by rw[typeLookup_type,builtinLookup_eq_fast];kernel_rfl) (by decide +kernel) (by decide +kernel) (by decide +kernel)
  (by first|exact .inl (by decide +kernel)|exact .inr (by decide +kernel)) (by rw[isSubtype_type];kernel_rfl)
def vV:entryFor table "set_iterator.__next__"=some Builtin.«set_iterator.__next__»:=entryFor_of_tree (by kernel_rfl)
def xY (a:cy):argsOk "set_iterator.__next__" ⟨[a],[]⟩:=by
 unfold argsOk;kernel_rfl
theorem LU (next:Nat->Nat):∀(fuel k:Nat) (left:List α) (out:Array α),left.length<=fuel->(pickOrder.go next fuel k left out).toList.Perm (out.toList++left)
 |0,k,left,out,h=>by
  have:left=[]:=length_eq_zero_iff.mp (by omega)
  subst this;unfold pickOrder.go;rw[bD]
 |fuel+1,k,left,out,h=>by
  unfold pickOrder.go;by_cases hl:left=[]
  .subst hl;simp
  .have Nl:0<left.length:=length_pos_iff.mpr hl;have fR:next k%left.length<left.length:=Nat.mod_lt _ Nl;rw[ah fR];dsimp only;refine(LU next fuel (k+1) _ _ (by rw[length_eraseIdx];split<;>omega)).trans ?_
   rw[Array.toList_push,append_assoc];refine List.Perm.append_left _ ?_;exact(LW.wI left _ fR)
def EA (next:Nat->Nat) (xs:Array α):(pickOrder next xs).toList.Perm xs.toList:=by
 have:=LU next xs.size 0 xs.toList #[] (by simp)
 show(pickOrder.go next xs.size 0 xs.toList #[]).toList.Perm xs.toList
 simpa using this
noncomputable abbrev B3 (first:Int) (i:Nat) (S:cF) (n ep:Nat):Obj:={cls:=.type "set_iterator",data:=.fields #[rawInt first,rawInt i,.ref S,rawInt n,rawInt ep]}
noncomputable def hO (w:cC) (a:cF) (ep:Nat) (es:Array (Int×cy)):Array (Int×cy):=if w.params.followText "set-order" then pickOrder (w.params.setOrder a ep) es else es
noncomputable def Kk (t:cE):Nat->Nat
 |0=>0
 |i+1=>t.place.getD i 0+1
def nt (w:cC) (t:cE) (i:Nat):Nat:=if w.params.followText "set-order" then 0 else Kk t i
def Kl (hr:gD t.place.toList) (i:Nat) (hi:i<=t.place.size):below t.place (Kk t i)=i:=by
 obtain⟨h1,h2,h3⟩:=sj t.place (Kk t i) hr;cases i with
 |zero=>
  show below t.place 0=0;by_cases hz:below t.place 0=0
  .exact hz
  .have Nl:0<below t.place 0:=by omega
   have fR:0<t.place.size:=by have JI:below t.place 0<=t.place.size:=h1;omega
   have:=h2 0 fR Nl;have adK:t.place[0]<0:=this;omega
 |succ i=>
  have fR:i<t.place.size:=by omega
  have hg:t.place.getD i 0=t.place[i]:=by simp[fR]
  have hf0:Kk t (i+1)=t.place[i]+1:=by show t.place.getD i 0+1=_;rw[hg]
  rw[hf0]at h1 h2 h3 ⊢;have lo:i<below t.place (t.place[i]+1):=by
   by_cases hc:below t.place (t.place[i]+1)<=i
   .have:=h3 i fR hc;omega
   .omega
  by_cases hc:below t.place (t.place[i]+1)=i+1
  .exact hc
  .have Tf:i+1<t.place.size:=by omega
   have a1:=h2 (i+1) Tf (by omega)
   have a2:=Ba hr (i:=i) (k:=i+1) (by omega) (by simpa using Tf)
   simp only[Array.getElem_toList]at a2;omega
def Km (ho:s.heap.get? a=some o) (hd:o.data=.set es ep t) (hf:t.fits es.size=true) (hr:gD t.place.toList) (oj:t.plain=true) (Zt:t.led= !w.params.followText "set-order") (i:Nat) (hi:i<=es.size) (h:Q ((hO w a ep es)[i]?.map λe=>(e.2,nt w t (i+1))) s):jH γ w A (setNext a (nt w t i) i ep) Q E s:=by
 have hsz:t.place.size=es.size:=by
  simp only[SetTable.fits,Bool.and_eq_true,beq_iff_eq,decide_eq_true_eq]at hf;exact hf.1
 unfold setNext;refine aa (wpAny_setState_of ho hd hf ?_);dsimp only;unfold setsByText;refine aa (aa (wpAny_askSetting (ak ?_)));show wpAny _ _ (if w.params.followText "set-order"=true then _ else _) _ _ _
 cases hb:w.params.followText "set-order" with
 |true=>
  rw[if_pos rfl,if_neg (by simp)]
  unfold setWalk;refine aa (aa (wpAny_setState_of ho hd hf ?_));dsimp only;unfold setsByText;refine aa (aa (wpAny_askSetting (ak ?_)));show wpAny _ _ (if w.params.followText "set-order"=true then _ else _) _ _ _
  rw[hb,if_pos rfl];refine aa (wpAny_askSetting (ak ?_));refine ak ?_;have e1:nt w t i=nt w t (i+1):=by unfold nt;rw[hb];rfl
  unfold hO at h;rw[hb,if_pos rfl]at h;rw[e1];exact h
 |false=>
  rw[if_neg bc,if_neg (λhc=>by
   have h2:(!t.plain&&decide (es.size>1))=true:=hc;rw[oj]at h2;cases h2)]
  refine aa ?_;show wpAny _ _ (if(!t.led&& !es.isEmpty)=true then unsupported "set:maker-not-led" else pure ()) _ _ _
  rw[if_neg (by rw[Zt,hb];simp)]
  refine ak ?_;refine ak ?_;have e1:nt w t i=Kk t i:=by unfold nt;rw[hb];rfl
  rw[e1,Kl hr i (by omega)]
  unfold hO at h;rw[hb,if_neg bc]at h;by_cases fR:i<es.size
  .have g1:es[i]? =some es[i]:=by simp[fR]
   have g2:t.place[i]? =some t.place[i]:=by simp[hsz,fR]
   rw[g1]at h ⊢;rw[g2];have e2:nt w t (i+1)=t.place[i]+1:=by unfold nt Kk;rw[hb];simp[hsz,fR]
   rw[e2]at h;exact h
  .have g1:es[i]? =none:=by simp;omega
   rw[g1]at h ⊢;exact h
def xZ:Slot "set_iterator" "__iter__" "set_iterator.__iter__":=
 .of (owner:="set_iterator") (n:="__iter__") (by rw[typeLookup_type,builtinLookup_eq_fast];kernel_rfl) (by decide +kernel) (by decide +kernel) (by decide +kernel)
  (by first|exact .inl (by decide +kernel)|exact .inr (by decide +kernel)) (by rw[isSubtype_type];kernel_rfl)
def FR (a:cy):argsOk "set_iterator.__iter__" ⟨[a],[]⟩:=by unfold argsOk;kernel_rfl
def DK:entryFor table "set_iterator.__iter__"=some Builtin.«dict_keyiterator.__iter__»:=
 entryFor_alias (id':="dict_keyiterator.__iter__") (by kernel_rfl) (by first|rfl|decide +kernel) (by decide +kernel) (by kernel_rfl)
def B4:entryFor table "set.__iter__"=some Builtin.«frozenset.__iter__»:=
 entryFor_alias (id':="frozenset.__iter__") (by kernel_rfl) rfl (by decide +kernel) (by kernel_rfl)
structure qO (w:cC) (h:Heap) (S:cF) (es:Array (Int×cy)) (ep:Nat) (t:cE):Prop where
 at_:∃o,h.get? S=some o/\o.ExactSet/\o.data=.set es ep t
 fits:t.fits es.size=true
 rise:gD t.place.toList
 plain:t.plain=true
 led:t.led= !w.params.followText "set-order"
section
variable {γ:cB}{w:cC}{A:cD}{E:cj}{s:cz}
def LV (hI:s.heap.get? I=some (B3 (nt w t i:Nat) i S es.size ep)) (hS:qO w s.heap S es ep t) (hi:i<=es.size) (h1:∀e h',(hO w S ep es)[i]? =some e->h'.get? I=some (B3 (nt w t (i+1):Nat) (i+1) S es.size ep)->Heap.SameBut I s.heap h'->Q (.done (.ret e.2)) {s with heap:=h'}) (h2:(hO w S ep es)[i]? =none->jH γ w A (setField (.ref I) 2 .none>>=λ_=>newExc (.type "StopIteration") []>>=λe=>raiseNew e) Q E s):jH γ w A (Builtin.«set_iterator.__next__» ⟨[.ref I],[]⟩) Q E s:=by
 obtain⟨o,ho,hex,hd⟩:=hS.at_;unfold Builtin.«set_iterator.__next__» slotArgs;simp only[isEmpty_nil,bU,aJ,↓reduceIte,bind_assoc,length_nil,bne_self_eq_false];refine aa (ak ?_);refine aa (wpAny_fieldsOf hI rfl ?_);show jH γ w A (setEntries S>>=_) Q E s;refine aa (wpAny_setEntries_of ho hd hS.fits ?_);have hsz:(((es.size:Nat):Int)!=((es.size:Nat):Int))=false:=by simp
 show wpAny _ _ (if(((es.size:Nat):Int)!=((es.size:Nat):Int))=true then _ else _) _ _ _
 rw[if_neg (by rw[hsz];exact bc)]
 show wpAny _ _ (setNext S (((nt w t i:Nat):Int).toNat) (((i:Nat):Int).toNat) (((ep:Nat):Int).toNat)>>=_) _ _ _;rw[Int.toNat_natCast,Int.toNat_natCast,Int.toNat_natCast];refine aa (Km ho hd hS.fits hS.rise hS.plain hS.led i hi ?_);cases hx:(hO w S ep es)[i]? with
 |none=>exact h2 hx
 |some e=>
  dsimp only[bC];refine aa (wpAny_setField_rec hI (by simp) λha haI hsa=>?_)
  refine aa (wpAny_setField_rec haI (by simp) λhb hbI RV=>?_)
  exact ak (h1 e hb hx hbI (hsa.trans RV))
def qP (w:cC) (S:cF) (ep:Nat) (es:Array (Int×cy)):(hO w S ep es).size=es.size:=by
 unfold hO;split
 .have:=(EA (w.params.setOrder S ep) es).length_eq
  simpa using this
 .rfl
def qO.mono (a:qO w h S es ep t) (k:∀o,h.get? S=some o->h'.get? S=some o):qO w h' S es ep t:=
 ⟨let ⟨o,h1,h2⟩:=a.at_;⟨o,k o h1,h2⟩,a.fits,a.rise,a.plain,a.led⟩
def Nv (hh:A.handled=none) (I S:cF) (jI:S≠I) (es:Array (Int×cy)) (ep:Nat) (t:cE):
  Walks γ w A I [I,S] [I] es.size (λi v=>∃e,(hO w S ep es)[i]? =some e/\v=e.2) (λi h=>h.get? I=some (B3 (nt w t i:Nat) i S es.size ep)/\qO w h S es ep t)where
 sub:=λb hb=>by simp at hb;simp[hb]
 frame:=λi h h' st hk=>⟨hk I (by simp) _ st.1,st.2.mono λo e=>hk S (by simp) o e⟩
 item:=λi s Q E hi st hQ=>by
  have hT:s.TypeIs (.ref I) "set_iterator":=⟨_,st.1,rfl⟩;unfold pyNext;refine aa (wpAny_attempt (wpAny_callSpecial?_slot (name:=Str.ofString "__next__") hT jN (bN jN hT vV ?_ (xY _))));refine LV st.1 st.2 (bh hi) (λe h' hx hI' hs=>?_) λhn=>?_
  .exact⟨_,rfl,ak (hQ e.2 h' s.toks ⟨e,hx,rfl⟩ ⟨hI',st.2.mono λo e=>(hs.2 S jI).trans e⟩ λb o hb e=>(hs.2 b (by simpa using hb)).trans e)⟩
  .have:i<(hO w S ep es).size:=by rw[qP];exact hi
   rw[aV this]at hn;cases hn
 done:=λs Q E st hQ=>by
  have hT:s.TypeIs (.ref I) "set_iterator":=⟨_,st.1,rfl⟩;unfold pyNext;refine aa (wpAny_attempt (wpAny_callSpecial?_slot (name:=Str.ofString "__next__") hT jN (bN jN hT vV ?_ (xY _))));refine LV st.1 st.2 (av _) (λe h' hx hI' hs=>?_) λhn=>?_
  .have:¬ es.size<(hO w S ep es).size:=by rw[qP];omega
   rw[Array.getElem?_eq_none (by omega)]at hx;cases hx
  .refine aa (wpAny_setField_rec st.1 (by simp) λha haI hsa=>?_)
   refine aa ?_;simp only[newExc,newTuple];refine aa (bS ?_ (by size_fits))
   refine aa (m:=firstArgMember _ _) (wpAny_of_eq (a:=Value.none) (by first|rfl|(simp only[firstArgMember];rfl)) ?_)
   refine bS ?_ (by size_fits)
   simp only[raiseNew];refine aa (wpAny_handled ?_)
   first|rw[show A.in1.handled=none from hh]|rw[hh]
   refine aa (ak (wpAny_throw ?_));refine aa (wpAny_isInstance (T:="StopIteration") (b:=true) ⟨_,aB _ rfl,rfl⟩ isSubtype_stop ?_);exact ak (hQ _ s.toks λb o hb e=>ag _ (ag _ ((hsa.2 b (by simpa using hb)).trans e)))
 self:=λi s Q E st hQ=>by
  have hT:s.TypeIs (.ref I) "set_iterator":=⟨_,st.1,rfl⟩;refine wpAny_pyIter_slot hT xZ (bN xZ hT DK ?_ (FR _));show wpAny _ _ (ret (.ref I)) _ _ s;exact ak ⟨_,rfl,"set_iterator",_,hT,jN.lookup,hQ⟩
def Qx (hS:qO w s.heap S es ep t) (h:Q (.ref s.dN) {s with heap:=s.heap.push (B3 0 0 S es.size ep)}):jH γ w A (pyIter (.ref S)) Q E s:=by
 obtain⟨o,ho,hex,hd⟩:=hS.at_;have hT:s.TypeIs (.ref S) "set":=⟨o,ho,hex.1⟩;refine wpAny_pyIter_slot hT PySem.F.slot_set_iter (bN PySem.F.slot_set_iter hT B4 ?_ (PySem.F.args_set_iter_1 _));unfold Builtin.«frozenset.__iter__» Builtin.Frozenset.slot0 slotArgs;simp only[isEmpty_nil,bU,aJ,↓reduceIte,bind_assoc,length_nil,bne_self_eq_false];unfold Builtin.Frozenset.addrOf Builtin.Frozenset.sizeOf;refine aa (ak ?_);try dsimp only
 refine aa (ak ?_);refine aa (aa (wpAny_setEntries_of ho hd hS.fits (ak ?_)));unfold setDrawn;refine aa (aa (wpAny_setState_of ho hd hS.fits ?_));dsimp only;unfold setsByText;refine aa (aa (wpAny_askSetting (ak ?_)));refine ak ?_;rw[if_neg (λhc=>by
  have h2:(!w.params.followText "set-order"&&(!t.plain&&decide (es.size>1)))=true:=hc;rw[hS.plain,bU,Bool.false_and,Bool.and_false]at h2;cases h2)]
 refine aa (ak ?_);refine aa (wpAny_setEpoch_of ho hd hS.fits ?_);exact aa (bS (ak ⟨_,rfl,"set_iterator",_,⟨_,aB _ rfl,rfl⟩,jN.lookup,h⟩))
end
def Wy [Decidable c] (hc:c) (h:wpAny M A x Q E s):wpAny M A (if c then x else y) Q E s:=by rw[if_pos hc];exact h
def Qy (hS:qO w s.heap S es ep t) (h:Q false s):jH γ w A (Builtin.List.listLengthHint (.ref S)) Q E s:=by
 obtain⟨o,ho,hex,hd⟩:=hS.at_;have hT:s.TypeIs (.ref S) "set":=⟨o,ho,hex.1⟩;unfold Builtin.List.listLengthHint;refine aa (wpAny_specialOf hT PySem.F.slot_set_len.lookup ?_);dsimp only;have Lg:splitId "set.__len__"=some ("set","__len__"):=by decide +kernel
 rw[Lg];dsimp only;refine aa (wpAny_isInstance hT sub_set_self ?_);simp only[bU,aJ,bF];refine Wy (by decide +kernel) ?_
 refine aa (wpAny_typeOf hT ?_);exact ak h
def Am {S:cF}{es:Array (Int×cy)}{ep:Nat}{t:cE}{Q:cx->cz->Prop}(hh:A.handled=none) (hS:qO w s.heap S es ep t) (hn:es.size<=1000)
  (hQ:∀h' tk υ,(∀b o,s.heap.get? b=some o->h'.get? b=some o)->υ=(hO w S ep es).toList.map (·.2)->s.dN<h'.objs.size->Q υ {s with heap:=h',toks:=tk}):jH γ w A (collect (.ref S)) Q E s:=by
 obtain⟨o,ho,hex,hd⟩:=hS.at_;have Tn:S<s.dN:=aD ho;unfold collect;refine aa (wpAny_runValue (codeAny_builtin PySem.F.entry_proto_collect ?_));rw[bY PySem.F.plain_proto_collect _];show wpAny _ A.in1 (newList []>>=λl=>again (.builtin "list.__iadd__" ⟨[l,.ref S],[]⟩)) _ _ s
 refine aa (bS ?_);refine ak ⟨plainId_quiet PySem.F.plain_list_iadd _,codeAny_builtin PySem.F.entry_list_iadd ?_⟩;rw[bY PySem.F.plain_list_iadd _];generalize hh1:s.heap.push {cls:=.type "list",data:=.seq ([]:cx).toArray}=g1;have N7:g1.objs.size=s.dN+1:=by rw[<-hh1];exact Heap.size_push ..
 have k1:∀b o,s.heap.get? b=some o->g1.get? b=some o:=λb o e=>by rw[<-hh1];exact ag _ e
 have ZH:g1.get? s.dN=some {cls:=.type "list",data:=.seq ([]:cx).toArray}:=by rw[<-hh1];exact aB _ rfl
 have hS1:qO w g1 S es ep t:=hS.mono λo e=>k1 _ _ e
 have hT1:Shared.TypeIs {s with heap:=g1} (.ref S) "set":=⟨o,k1 _ _ ho,hex.1⟩
 show wpAny _ A.in1 (Builtin.List.listExtendWith (.ref s.dN) (.ref S) (.ref s.dN)) _ _ {s with heap:=g1}
 unfold Builtin.List.listExtendWith;refine aa (wpAny_typeOf hT1 ?_);have h1:Builtin.List.listSameRef (.ref s.dN) (.ref S)=false:=by simp[Builtin.List.listSameRef];exact bz Tn
 have h2:(Value.type "set"==Value.type "list")=false:=by decide
 have h3:(Value.type "set"==Value.type "tuple")=false:=by decide
 simp only[h1,h2,h3,Bool.or_false,aJ,bF];refine aa (Qx (s:={s with heap:=g1}) hS1 ?_)
 generalize hh2:g1.push (B3 0 0 S es.size ep)=g2;have k2:∀b o,g1.get? b=some o->g2.get? b=some o:=λb o e=>by rw[<-hh2];exact ag _ e
 have hI2:g2.get? g1.objs.size=some (B3 0 0 S es.size ep):=by rw[<-hh2];exact aB _ rfl
 have hS2:qO w g2 S es ep t:=hS1.mono λo e=>k2 _ _ e
 refine aa (bo (Qy (s:={s with heap:=g2}) hS2 ?_))
 show wpAny _ A.in1 (rule "list.extend.makes-room">>=λ_=>Builtin.List.listTouch (.ref s.dN)>>=λ_=>
  again (.builtin "list.extend.loop" ⟨[.ref s.dN,.ref g1.objs.size,.ref s.dN],[]⟩)) _ _ {s with heap:=g2}
 refine aa (wpAny_rule ?_);refine aa ?_;show wpAny _ A.in1 (updateSeq s.dN (·.push .none)>>=λ_=>updateSeq s.dN (·.pop)) _ _ {s with heap:=g2}
 have ZI:=k2 _ _ ZH;refine aa (wpAny_updateSeq ZI rfl ?_);have hL3:=Heap.get?_update_self (Obj.mapSeq (·.push Value.none)) ZI rfl
 refine wpAny_updateSeq hL3 rfl ?_;have hL4:=Heap.get?_update_self (Obj.mapSeq (·.pop)) hL3 rfl
 generalize hh3:(g2.update s.dN (Obj.mapSeq (·.push Value.none))).update s.dN (Obj.mapSeq (·.pop))=g3 at hL4
 have oth:∀b o,b≠s.dN->g2.get? b=some o->g3.get? b=some o:=λb o hb e=>by
  rw[<-hh3];exact(bA _ _ (Ne.symm hb)).trans ((bA _ _ (Ne.symm hb)).trans e)
 have Wx:S≠g1.objs.size:=by rw[N7];exact aF (Nat.lt_succ_of_lt Tn)
 have W:=(Nv (γ:=γ) (w:=w) (A:=A.in1) hh g1.objs.size S Wx es ep t).toS;have hLf:s.dN∉[g1.objs.size,S]:=by
  rw[N7];simp only[mem_cons,bJ,or_false,not_or];exact⟨aF (Nat.lt_succ_self _),bz Tn⟩
 have hf0:((nt w t 0:Nat):Int)=0:=by unfold nt Kk;split<;>rfl
 refine ak ⟨plainId_quiet PySem.F.plain_extend_loop _,codeAny_extend_loopS W (aE hn (by decide)) _ hLf _ es.size 0 _ _ _ rfl (bM _) ⟨?_,?_⟩ hL4 (ItemsOf.nil _) λs' nH c' hm hL' vH=>?_⟩
 .show g3.get? g1.objs.size=some (B3 (nt w t 0:Nat) 0 S es.size ep);rw[hf0];exact oth _ _ (by rw[N7];exact bz (Nat.lt_succ_self _)) hI2
 .exact hS2.mono λo e=>oth _ _ (aF Tn) e
 .obtain⟨h',g',d',DH,Yl⟩:=s';have eg:g'=s.gens:=hm.gens;have ed:d'=s.drawn:=hm.drawn;have eo:Yl=s.os:=hm.os;subst eg ed eo;show wpAny _ A (load s.dN>>=_) _ _ _;refine aa (wpAny_load hL' ?_);refine ak (hQ h' DH nH.toList (λb o e=>?_) ?_ (aD hL'))
  .have hb:b<s.dN:=aD e;refine hm.heap b o ?_ (oth b o (aF hb) (k2 b o (k1 b o e)));simp only[mem_cons,bJ,or_false,not_or];exact⟨aF hb,by rw[N7];exact aF (Nat.lt_succ_of_lt hb)⟩
  .refine ext_getElem? λj=>?_
   rw[aw];have hsz:=vH.1;have hwz:=qP w S ep es;by_cases hj:j<es.size
   .have hj1:j<nH.size:=by omega
    have hj2:j<(hO w S ep es).size:=by omega
    obtain⟨e,he,hv⟩:=vH.2 j nH[j] (aV hj1);have XA:(hO w S ep es).toList[j]? =some e:=by simpa using he
    rw[XA];show nH.toList[j]? =some e.2;rw[<-hv];simp[hj1]
   .have e1:nH.toList[j]? =none:=getElem?_eq_none (by rw[aO];omega)
    have e2:(hO w S ep es).toList[j]? =none:=getElem?_eq_none (by rw[aO];omega)
    rw[e1,e2];rfl
end ST
namespace ST
open PySem.W DL SetTable
theorem sortedS {S:cF}{es:Array (Int×cy)}{ep:Nat}{t:cE}{Q:cj}(F:Fr h₀ L s.heap m) (N:News h₀ L s.heap news) (hh:A.handled=none) (hS:qO w s.heap S es ep t) (ZJ:vs=(hO w S ep es).toList.map (·.2)) (h2:2<=vs.length) (Ad:vs.length<64)
  (h:∀D e1 h' tk,Fr h₀ L h' m->News h₀ L h' ((D,seqObj "list" #[] e1)::news)->(∀q∈news,q.1<D)->s.dN<=D->
   wpAny (model γ w) A.in1.in1 (keyKind' vs.toArray) (λκ s'=>(kas_sort vs.length).kasWp (kas_ask γ w A.in1.in1 κ vs) (λp OH=>KasFin h₀ L m D e1 (p.toList.map λi=>vs.getD i Value.none) (λs3=>Q (.ref D) s3) OH) s') (λ_ _=>False) {s with heap:=h',toks:=tk}):
  jH γ w A (call (.builtin "sorted") [.ref S]) Q E s:=by
 have π:es.size=vs.length:=by rw[ZJ,ae,aO,qP]
 refine Calls.call_function_entry kind_sorted plain_sorted entry_sorted (args_sorted1 _) ?_;unfold Builtin.«sorted»;refine aa (m:=checkCount "sorted" 1 1 _) (ak ?_);refine aa (Am hh hS (by omega) λg tk υ keep vH hg=>?_)
 rw[<-ZJ]at vH;subst vH;refine aa (wpAny_newList ?_ (by rw[bx];omega))
 have R3:(g.push (seqObj "list" υ.toArray 0)).get? g.objs.size=some (seqObj "list" υ.toArray 0):=aB _ rfl;have BJ:∀b o,s.heap.get? b=some o->(g.push (seqObj "list" υ.toArray 0)).get? b=some o:=λb o q=>ag _ (keep b o q)
 have hL:L<s.dN:=F.ns.lt;refine aa (bo (bN slot_list_sort ⟨_,R3,rfl⟩ entry_list_sort ?body (args_list_sort _)))
 case body=>
  refine kat_list_sort (s:={s with heap:=g.push (seqObj "list" υ.toArray 0),toks:=tk}) (F.kept BJ) (N.grown BJ) R3 (bz (bI hL hg)) (Heap.get?_none_of_le (aE F.above (bh (bI hL hg))))
   (λp hp=>aF (bI (aD (N p hp).1) hg)) h2 Ad λe1 h' F' N'=>?_
  refine bQ (h _ e1 h' tk F' N' (λq hq=>bI (aD (N q hq).1) hg) (bh hg)) (λκ s' hk=>?_) λ_ _ x=>x
  rw[kat_ask_eq rfl]at hk ⊢;exact kas_wp_mono hk λp OH pG=>pG.mono λs3 hq=>⟨_,rfl,ak ⟨_,rfl,hq⟩⟩
def TI (h:Heap) (v:cy) (ns:cq):Prop:=∃(a:cF) (o:Obj) (ts:cx) (n:Nat),v=.ref a/\h.get? a=some o/\o.cls=.type "tuple"/\o.data=.seq ts.toArray n/\IntsAre ts ns
theorem LX:∀(vs:cx) {Q:List (Option cy)->cz->Prop},(∀v∈vs,∃ns,TI s.heap v ns)->(∀fs:List (Option cy),fs.length=vs.length->(∀f∈fs,∀v,f=some v->∃i t,v=Value.int i t)->Q fs s)->jH γ w A (vs.mapM firstOfTuple') Q E s
 |[],_,_,h=>by rw[mapM_nil];exact ak (h [] rfl λf hf=>by cases hf)
 |v::vs,Q,t,h=>by
  obtain⟨ns,a,o,ts,n,rfl,ho,hc,hd,hi⟩:=t v af;rw[mapM_cons];refine aa ?_;rw[kas_first_eq];refine aa (Looks.here (show Looks (model γ w) s.heap (typeOf (.ref a)) o.cls from(Looks.ld ho).andThen .now) ?_)
  rw[hc,if_neg (by first|decide|simp)]
  refine aa (listItems_at ho hd (ak ?_));refine aa (LX vs (Q:=λbs s'=>jH γ w A (pure (ts.toArray[0]? ::bs)) Q E s') (λv hv=>t v (aj _ hv)) λfs hl hf=>ak (h _ (by simp[hl]) λf hm v hv=>?_))
  rcases mem_cons.mp hm with rfl|hm
  .cases hi with
   |nil=>simp at hv
   |cons i t r=>
    simp at hv;exact⟨i,t,hv.symm⟩
  .exact hf f hm v hv
def UT {vs:cx}{Q:SortKind->cz->Prop}(t:∀v∈vs,∃ns,TI s.heap v ns) (h:∀κ,(κ=tuples' true\/κ=tuples' false)\/κ=general'\/κ=oneType'->Q κ s):jH γ w A (keyKind' vs.toArray) Q E s:=by
 rw[kat_kind_eq,mapM_toArray,map_eq_pure_bind];refine aa (aa (LX vs t λfs hl hf=>ak ?_))
 split
 .refine aa (wpAny_rule ?_);have hfm:∃l:cx,(fs.toArray.filterMap id)=l.toArray/\∀v∈l,∃i t,v=Value.int i t:=by
   refine⟨fs.filterMap id,by simp,λv hv=>?_⟩
   obtain⟨f,hm,he⟩:=mem_filterMap.mp hv;exact hf f hm v he
  obtain⟨l,e1,e2⟩:=hfm;rw[e1,oneTypeOnly'_eq,mapM_toArray,map_eq_pure_bind];refine aa (aa (aa (kas_mapM (r:=Value.type "int") _ (λv hv Q' hq=>?_) (ak ?_))))
  .obtain⟨i,t',rfl⟩:=e2 v hv;exact ak hq
  .have fin:∀b,Q (tuples' b) s:=λb=>by cases b<;>exact h _ (.inl (by first|exact .inl rfl|exact .inr rfl))
   split
   .exact ak (ak (fin _))
   .exact ak (ak (fin _))
 .split
  .exact ak (h _ (.inr (.inl rfl)))
  .rw[oneTypeOnly'_eq,mapM_toArray,map_eq_pure_bind];refine aa (aa (aa (kas_mapM (r:=Value.type "tuple") _ (λv hv Q' hq=>?_) (ak ?_))))
   .obtain⟨ns,a,o,ts,n,rfl,ho,hc,hd,hi⟩:=t v hv;have:=Looks.here (M:=model γ w) (A:=A) (E:=E) (show Looks (model γ w) s.heap (typeOf (.ref a)) o.cls from(Looks.ld ho).andThen .now) (Q:=Q')
    rw[hc]at this;exact this hq
   .split
    .refine ak (ak ?_);split
     .exact h _ (.inr (.inr rfl))
     .exact h _ (.inr (.inl rfl))
    .exact ak (ak (h _ (.inr (.inl rfl))))
def ZK {x y:cy}{ns ms:cq}{κ:SortKind}{Q:Bool->cz->Prop}(hx:TI s.heap x ns) (hy:TI s.heap y ms) (hu:A.units+8<cLine) (hκ:(κ=tuples' true\/κ=tuples' false)\/κ=general'\/κ=oneType') (h:Q (HT.lexLt ns ms) s):
  jH γ w A (keyLt' κ x y) Q E s:=by
 obtain⟨a,o,ts,n,rfl,ho,hc,hd,hi⟩:=hx;obtain⟨a',o',LA,n',rfl,vF,tZ,Um,A9⟩:=hy;have t1:IsTup s.heap a ts.toArray:=⟨o,ho,hc,n,hd⟩;have t2:IsTup s.heap a' LA.toArray:=⟨o',vF,tZ,n',Um⟩;rcases hκ with hκ|rfl|rfl
 .have key:∀b,jH γ w A (keyLt' (tuples' b) (.ref a) (.ref a')) Q (λ_ _=>False) s:=λb=>by
   refine W.kat_lt ho hd vF Um ?_;have s1:ts.toArray.size=ns.length:=by rw[au,hi.length]
   have s2:LA.toArray.size=ms.length:=by rw[au,A9.length]
   refine L2.uk _ _ ns ms 0 _ (by simpa using hi) (by simpa using A9) (.inr trivial) ?_ h
   rw[s1,s2];by_cases h:ns.length<ms.length
   .rw[if_pos h];exact aS h
   .rw[if_neg h];exact aI h
  rcases hκ with rfl|rfl
  .exact bQ (key true) (λ_ _ x=>x) λ_ _ x=>x.elim
  .exact bQ (key false) (λ_ _ x=>x) λ_ _ x=>x.elim
 .show jH γ w A (oneLt' false (.ref a) (.ref a')) Q E s;refine kat_one _ _ (HT.Bo t1 t2 (by simpa using hi) (by simpa using A9) (by omega) ?_)
  exact h
 .rw[keyLt'_oneType,oneLt'_eq];simp only[if_true];refine aa (wpAny_cRoomFor (by omega) ?_)
  obtain⟨⟨cls,dd,data,sl⟩,Ji,hc1,n1,hd1⟩:=t1;obtain⟨⟨VH,RT,data2,RU⟩,Bp,xn,n2,hd2⟩:=t2;simp only at hc1 hd1 xn hd2;subst hc1 hd1 xn hd2;refine aa (wpAny_callSpecialIfBound?_slot ⟨_,Ji,rfl⟩ PySem.F.slot_tuple_lt ?_);refine call_meets PySem.F.slot_tuple_lt ⟨_,Ji,rfl⟩ PySem.F.entry_tuple_lt (PySem.F.args_tuple_lt_2 _ _) (HT.vR a a' ts.toArray LA.toArray n1 n2 dd RT sl RU ns ms (by simpa using hi) (by simpa using A9)) ⟨Ji,Bp,?_⟩
  exact bR h
end ST
namespace ST
open PySem.W DL SetTable L2
def DM (hh:A.handled=none) (hS:qO w s.heap S es ep t) (ZJ:vs=(hO w S ep es).toList.map (·.2)) (h2:vs.length<2) (h:∀D h' c tk,h'.get? D=some (seqObj "list" vs.toArray c)->s.dN<=D->(∀b o,s.heap.get? b=some o->h'.get? b=some o)->Q (.ref D) {s with heap:=h',toks:=tk}):jH γ w A (call (.builtin "sorted") [.ref S]) Q E s:=by
 have π:es.size=vs.length:=by rw[ZJ,ae,aO,qP]
 exact xI (λhh' k=>Am (hh'.trans hh) hS (by omega) λg tk υ keep vH hg=>by rw[<-ZJ]at vH;subst vH;exact k g tk keep hg) h2 h
theorem HA {α β:Type}{R:α->cy->β->Prop}:∀(vs:cx),(∀v∈vs,∃a b,R a v b)->∃l:List (α×cy×β),vs=l.map (·.2.1)/\∀p∈l,R p.1 p.2.1 p.2.2
 |[],_=>⟨[],rfl,λp hp=>by cases hp⟩
 |v::vs,h=>by
  obtain⟨a,b,r⟩:=h v af;obtain⟨l,e,hl⟩:=HA vs λx hx=>h x (aj _ hx)
  refine⟨(a,v,b)::l,by rw[e];rfl,λp hp=>?_⟩
  rcases mem_cons.mp hp with rfl|hp
  .exact r
  .exact hl p hp
theorem HB:∀{ts:cx}{ns:cq},IntsAre ts ns->wG h ts (ns.map D.int)
 |_,_,.nil=>.nil
 |_,_,.cons n t r=>.cons (.int n t) (HB r)
def TI.ki (t:TI h v ns):KI h v (.t (ns.map D.int)):=by
 obtain⟨a,o,ts,n,rfl,ho,hc,hd,hi⟩:=t;exact .t ho hc hd (by simpa using HB hi)
instance:Nonempty D:=⟨.eZ⟩
noncomputable def keyOf (h:Heap) (v:cy):D:=Classical.epsilon (KI h v)
def HC (k:KI h v d):keyOf h v=d:=(Classical.epsilon_spec (p:=KI h v) ⟨d,k⟩).inj k
def Kg.keys {P:cy->Prop}{h:Heap}{es:List (Int×cy)}{ds:cw}(e:Kg P h es ds):ds=es.map λx=>keyOf h x.2:=by
 refine ext_getElem? λi=>?_
 rw[aw];cases hx:es[i]? with
 |none=>
  have:es.length<=i:=List.getElem?_eq_none_iff.mp hx;rw[getElem?_eq_none (by rw[<-e.1];exact this)];rfl
 |some x=>
  obtain⟨d,h1,h2⟩:=e.2 i x hx;rw[h1];exact congrArg some (HC h2.ki).symm
def Nw {P:cy->Prop}{R0:cF->cq->Prop}{cL:cn}{O:L2.St}{H:Hp}{s:cz}(I:η X cL O H s) {S:cF}{ds:cw}{es:Array (Int×cy)}{ep:Nat}(hE:Kg P s.heap es.toList ds)
  (htr:∀v,P v->∃(b:cF) (ns:cq),v=.ref b/\lr X.K H b (ns.map V.int)/\R0 b ns):
  ∃l:List (cF×cq),(hO X.w S ep es).toList.map (·.2)=l.map (λp=>Value.ref p.1)/\(∀p∈l,(lr X.K H p.1 (p.2.map V.int)/\R0 p.1 p.2)/\TI s.heap (.ref p.1) p.2)/\(l.map λp=>D.t (p.2.map D.int)).Perm ds:=by
 have B2:(hO X.w S ep es).toList.Perm es.toList:=by
  unfold hO;split
  .exact EA _ es
  .exact List.Perm.refl _
 obtain⟨l,e1,e2⟩:=HA (R:=λ(b:cF) v (ns:cq)=>v=.ref b/\(lr X.K H b (ns.map V.int)/\R0 b ns)/\TI s.heap v ns) ((hO X.w S ep es).toList.map (·.2)) λv hv=>by
  obtain⟨e,he,rfl⟩:=mem_map.mp hv;obtain⟨i,hi⟩:=bp (B2.mem_iff.mp he);obtain⟨d,_,h2⟩:=hE.2 i e hi;obtain⟨b,ns,h3,h4,h40⟩:=htr _ h2.src;obtain⟨ts,r2,⟨o,ho,hc,n,hd⟩,_⟩:=I.tuple h4;exact⟨b,ns,h3,⟨h4,h40⟩,b,o,ts,n,h3,ho,hc,hd,intsAre_of r2⟩
 refine⟨l.map λp=>(p.1,p.2.2),?_,λp hp=>?_,?_⟩
 .rw[e1,aW];exact bT λp hp=>(e2 p hp).1
 .obtain⟨q,hq,rfl⟩:=mem_map.mp hp;obtain⟨a1,a2,a3⟩:=e2 q hq;exact⟨a2,by rw[<-a1];exact a3⟩
 .have h5:(((hO X.w S ep es).toList.map (·.2)).map (keyOf s.heap)).Perm ds:=by
   rw[aW,hE.keys];exact B2.map _
  rw[e1,aW]at h5;rw[aW];have h6:(l.map ((keyOf s.heap)∘λp=>p.2.1))=l.map ((λp:cF×cq=>D.t (p.2.map D.int))∘λp=>(p.1,p.2.2)):=bT λp hp=>HC (e2 p hp).2.2.ki
  rw[<-h6];exact h5
def Kn {P:cy->Prop}{R0:cF->cq->Prop}{cL:cn}{O:L2.St}{H:Hp}{s:cz}(hc:X.calm=true) (hu:X.A.units+64<cLine) (I:η X cL O H s) {S:cF}{ds:cw}(uf:AI P (!X.w.params.followText "set-order") s.heap S ds) (hn:ds.length<64)
  (htr:∀v,P v->∃(b:cF) (ns:cq),v=.ref b/\lr X.K H b (ns.map V.int)/\R0 b ns) {Q:VK}
  (q:∀(D0:cF) (l:List (cF×cq)),H D0=none->(∀p∈l,R0 p.1 p.2)->(l.map (·.2)).Pairwise (λa b=>HT.lexLt b a=false)->(l.map λp=>D.t (p.2.map D.int)).Perm ds->Q (.ref D0) (ν H D0 (.l (l.map λp=>V.ref p.1)))):
  X.mO (call (.builtin "sorted") [.ref S]) (EP X cL O Q) X.xe s:=by
 obtain⟨o,es,ep,t,ho,hex,hd,W,hE,_,oj,Zt⟩:=uf.ex;have hAt:qO X.w s.heap S es ep t:=⟨⟨o,ho,hex,hd⟩,W.fits,W.tb.rise,oj,Zt⟩;obtain⟨l,e1,e2,e3⟩:=Nw (S:=S) (ep:=ep) I hE htr;have π:l.length=ds.length:=by have:=e3.length_eq;rwa [ae]at this
 have hh:X.A.handled=none:=I.ok.hd hc;have aux:∀k:List (cF×cq),θ (k.map λp=>V.ref p.1) (k.map λp=>Value.ref p.1):=λk=>by
  induction k with
  |nil=>exact .nil
  |cons p k ih=>exact .cons rfl ih
 by_cases h2:2<=l.length
 .obtain⟨m,F⟩:=I.fr;have N:News X.Zc X.e.locals s.heap (va X.Zc s.heap X.e.locals):=GS;have acm:(l.map λp=>Value.ref p.1).length=l.length:=by rw[ae]
  refine sortedS (vs:=l.map λp=>Value.ref p.1) F N hh hAt e1.symm (by omega) (by omega) λD0 e0 h' tk F' N' fR Hh=>?_
  have JD:s.heap.get? D0=none:=Heap.get?_none_of_le Hh;have Eu:=I.Lz F' N' λ_ h=>.tail _ h
  have Ko:∀p∈l,TI h' (.ref p.1) p.2:=λp hp=>by
   obtain⟨a,o,ts,n,ea,ho,hc,hd,hi⟩:=(e2 p hp).2;cases ea;refine⟨_,o,ts,n,rfl,Eu _ o (λz=>?_) ho,hc,hd,hi⟩
   obtain⟨oL,es,ep,hL,hdL,_⟩:=F.ns;rw[z,hL]at ho;cases ho;rw[hdL]at hd;cases hd
  refine UT (s:={s with heap:=h',toks:=tk}) (λv hv=>?_) λκ hκ=>?_
  .obtain⟨p,hp,rfl⟩:=mem_map.mp hv;exact⟨p.2,Ko p hp⟩
  rw[acm];have nX:∀i,i<l.length->(l.map λp=>Value.ref p.1).getD i Value.none=.ref (l.getD i (0,[])).1/\l.getD i (0,[])∈l:=λi hi=>by
   rw[ao,aw,ao,ah hi];exact⟨rfl,getElem_mem hi⟩
  have g:∀k,k<l.length->(l.map (·.2)).getD k []=(l.getD k (0,[])).2:=λk hk=>by
   rw[ao,aw,ao,ah hk];rfl
  refine Hi h2 (by omega) (ρ:=l.map (·.2)) (λi j R hi hj hR=>?_) λar pm below V5=>?_
  .show wpAny _ _ (keyLt' _ ((l.map λp=>Value.ref p.1).getD i Value.none) ((l.map λp=>Value.ref p.1).getD j Value.none)) _ _ _
   rw[(nX i hi).1,(nX j hj).1];rw[g i hi,g j hj]at hR;exact ZK (Ko _ (nX i hi).2) (Ko _ (nX j hj).2) (by show X.A.units+1+1+8<cLine;omega) hκ hR
  generalize lq:(ar.toList.map λi=>l.getD i (0,[]))=l'
  have lp:l'.Perm l:=by
   rw[<-lq];have:=pm.map λi=>l.getD i (0,[])
   have e:(List.range l.length).map (λi=>l.getD i (0,[]))=l:=iC l (0,[])
   rw[e]at this;exact this
  have outs:(ar.toList.map λi=>(l.map λp=>Value.ref p.1).getD i Value.none)=l'.map λp=>Value.ref p.1:=by
   rw[<-lq,aW];exact bT λi hi=>(nX i (below i hi)).1
  rw[outs];refine⟨_,_,F',N',.head λp hp=>aF (fR p hp),λh2 c F2 N2=>?_⟩
  have hD:H D0=none:=I.fU.fresh Hh;refine⟨.ref D0,ν H D0 (.l (l'.map λp=>V.ref p.1)),I.YW (s:=s) (tk:=tk) (c:=c) hD JD F F2 (I.Lz F2 N2 λ_ h=>.tail _ h) (by rw[ae,lp.length_eq];omega) (aux l') (N2 _ (.head _)).1,rfl,q D0 l' hD (λp hp=>(e2 p (lp.mem_iff.mp hp)).1.2) ?_ ((lp.map _).trans e3)⟩
  rw[<-lq,aW];exact(bT λi hi=>(g i (below i hi)).symm)▸V5
 .refine DM (vs:=l.map λp=>Value.ref p.1) hh hAt e1.symm (by rw[ae];omega) λD0 h' c tk hD Hh keep=>?_
  have N3:H D0=none:=I.fU.fresh Hh;refine⟨.ref D0,_,I.laid (t':=tk) (o:=.l (l.map λp=>V.ref p.1)) keep Hh ⟨by rw[ae];exact aE (by omega:l.length<=100) (by decide),_,c,aux l,hD⟩,rfl,q D0 l N3 (λp hp=>(e2 p hp).1.2) ?_ e3⟩
  match l,h2 with
  |[],_=>exact List.Pairwise.nil
  |[p],_=>simp
  |_::_::_,h2=>exact absurd (by simp) h2
end ST
namespace L2
section
variable {κ:Type} [DecidableEq κ]
noncomputable def vL (ζ:List (κ×V)) (k:κ):Option V:=(ζ.find? λkv=>decide (kv.1=k)).map (·.2)
noncomputable def putK (ζ:List (κ×V)) (k:κ) (v:V):List (κ×V):=
 if(ζ.any λkv=>decide (kv.1=k))=true then ζ.map (λkv=>if kv.1=k then(kv.1,v)else kv)else ζ++[(k,v)]
def ur {p:κ×V}{r:List (κ×V)}{k:κ}(e:p.1=k):vL (p::r) k=some p.2:=by simp[vL,find?_cons,e]
def uu {p:κ×V}{r:List (κ×V)}{k:κ}(e:¬ p.1=k):vL (p::r) k=vL r k:=by simp[vL,find?_cons,e]
theorem HD (k:κ):∀ζ:List (κ×V),(ζ.any λkv=>decide (kv.1=k))=(vL ζ k).isSome
 |[]=>rfl
 |p::r=>by
  rw[bH];by_cases e:p.1=k
  .simp only[ur e,aS e,Bool.true_or,Option.isSome_some]
  .rw[uu e,aI e,Bool.false_or];exact HD k r
def An (ζ:List (κ×V)) (k:κ) (v:V):(putK ζ k v).length<=ζ.length+1:=by
 unfold putK;split
 .rw[ae];omega
 .rw[aR,az,length_nil];omega
def uc.Nx (r:uc o u):o.isSome=u.isSome:=by
 cases o with
 |none=>cases u with
  |none=>rfl
  |some _=>exact(show False from r).elim
 |some _=>cases u with
  |none=>exact(show False from r).elim
  |some _=>rfl
theorem uc.getD (r:uc o u) (rd:ι d d'):ι (o.getD d) (u.getD d'):=by
 cases o with
 |none=>cases u with
  |none=>exact rd
  |some _=>exact(show False from r).elim
 |some _=>cases u with
  |none=>exact(show False from r).elim
  |some _=>exact r
def KV.val (r:KV ζ vs) (k:κ):uc (vL ζ k) (valueAt vs k):=by
 unfold KV at r;induction r with
 |nil=>exact True.intro
 |@cons p q ps qs h t ih=>
  obtain⟨h1,h2⟩:=h;by_cases e:p.1=k
  .have e':q.1=k:=h1.symm.trans e;have b:valueAt (q::qs) k=some q.2:=by simp[valueAt,find?_cons,e']
   rw[ur e,b];exact h2
  .have e':¬ q.1=k:=λz=>e (h1.trans z)
   have b:valueAt (q::qs) k=valueAt qs k:=by simp[valueAt,find?_cons,e']
   rw[uu e,b];exact ih
theorem KV.any (r:KV ζ vs) (k:κ):(ζ.any λkv=>decide (kv.1=k))=vs.any λkv=>decide (kv.1=k):=by
 unfold KV at r;induction r with
 |nil=>rfl
 |cons h t ih=>rw[bH,bH,ih,h.1]
def KV.Wz (r:KV ζ vs) (k:κ) (ry:ι y u):KV (ζ.map λkv=>if kv.1=k then(kv.1,y)else kv) (vs.map λkv=>if kv.1=k then(kv.1,u)else kv):=by
 unfold KV at r ⊢;induction r with
 |nil=>exact .nil
 |@cons p q ps qs h t ih=>
  rw[aG,aG];refine .cons ?_ ih;obtain⟨h1,h2⟩:=h;by_cases e:p.1=k
  .rw[if_pos e,if_pos (h1.symm.trans e)];exact⟨h1,ry⟩
  .rw[if_neg e,if_neg (λz=>e (h1.trans z))];exact⟨h1,h2⟩
def KV.put {ζ:List (κ×V)}{vs:List (κ×cy)}(r:KV ζ vs) (k:κ) {y:V}{u:cy}(ry:ι y u):KV (putK ζ k y) (stored vs k u):=by
 unfold putK stored;rw[r.any k];by_cases e:(vs.any λkv=>decide (kv.1=k))=true
 .rw[if_pos e,if_pos e];exact r.Wz k ry
 .rw[if_neg e,if_neg e];exact Paired.snoc r ⟨rfl,ry⟩
def KV.keys {ζ:List (κ×V)}{vs:List (κ×cy)}(r:KV ζ vs):ζ.map (·.1)=vs.map (·.1):=by
 unfold KV at r;induction r with
 |nil=>rfl
 |cons h t ih=>rw[aG,aG,ih,h.1]
theorem KV.length {ζ:List (κ×V)}{vs:List (κ×cy)}(r:KV ζ vs):ζ.length=vs.length:=Paired.length r
end
def LY (r:ι (kV k) u):(gE P w).is k u=true:=by
 cases k with
 |inl i=>obtain⟨t,e⟩:=(show ∃t,u=Value.int i t from r);subst e;exact GO P w i t
 |inr x=>obtain⟨t,e⟩:=(show ∃t,u=Value.str x t from r);subst e;exact GQ P w x t
theorem EB:∀{ks:List Key}{us:cx},θ (ks.map kV) us->ItemsAre (gE P w) ks us
 |[],_,r=>by rw[map_nil]at r;cases r;exact .nil
 |k::ks,_,r=>by
  rw[aG]at r;cases r with
  |cons h t=>exact .cons (LY h) (EB t)
abbrev KT (H:Hp):List (List Key×V)->List (List Key×cF×cy)->Prop:=Paired λp q=>p.1=q.1/\H q.2.1=some (.t (p.1.map kV))/\ι p.2 q.2.2
def KT.val (r:KT H ζ xs) (k:List Key):uc (vL ζ k) ((atKey xs k).map (·.2)):=by
 induction r with
 |nil=>exact True.intro
 |@cons p q ps qs h t ih=>
  obtain⟨h1,_,h2⟩:=h;by_cases e:p.1=k
  .have e':q.1=k:=h1.symm.trans e;have b:atKey (q::qs) k=some q.2:=by simp[atKey,find?_cons,e']
   rw[ur e,b];exact h2
  .have e':¬ q.1=k:=λz=>e (h1.trans z)
   have b:atKey (q::qs) k=atKey qs k:=by simp[atKey,find?_cons,e']
   rw[uu e,b];exact ih
def KT.Wz (r:KT H ζ xs) (k:List Key) (ry:ι y u):KT H (ζ.map λkv=>if kv.1=k then(kv.1,y)else kv) (xs.map (putAt k u)):=by
 induction r with
 |nil=>exact .nil
 |@cons p q ps qs h t ih=>
  rw[aG,aG];refine .cons ?_ ih;obtain⟨h1,h2,h3⟩:=h;unfold putAt;by_cases e:p.1=k
  .rw[if_pos e,if_pos (h1.symm.trans e)];exact⟨h1,h2,ry⟩
  .rw[if_neg e,if_neg (λz=>e (h1.trans z))];exact⟨h1,h2,h3⟩
def KT.put (r:KT H ζ xs) (k:List Key) (hb:H b=some (.t (k.map kV))) (ry:ι y u):KT H (putK ζ k y) (storedH xs k b u):=by
 have e:(ζ.any λkv=>decide (kv.1=k))=(atKey xs k).isSome:=by
  rw[HD,(r.val k).Nx,Option.isSome_map]
 unfold putK storedH;rw[e];by_cases q:(atKey xs k).isSome=true
 .rw[if_pos q,if_pos q];exact r.Wz k ry
 .rw[if_neg q,if_neg q];exact Paired.snoc r ⟨rfl,hb,ry⟩
def KT.keeps (r:KT H ζ xs) (ht:∀b ys,H b=some (.t ys)->H' b=some (.t ys)):KT H' ζ xs:=
 Paired.Vg r λ_ _ z=>⟨z.1,ht _ _ z.2.1,z.2.2⟩
def UU (ok:vE P w H h) (e:Rd H a u):iz P w H h a u:=e.ok ok
def Qz (ok:vE P w H h) (e:Rd H a (.dK ζ)):ζ.length<=sizeLine/\(a==sysModules)=false/\∃vs,KV ζ vs/\h.DictOf (gE P w) a vs:=
 show iz P w H h a (.dK ζ)from UU ok e
def QA (ok:vE P w H h) (e:H a=some (.dK ζ)):ζ.length<=sizeLine/\(a==sysModules)=false/\∃vs,KV ζ vs/\h.DictOf (gE P w) a vs:=Qz ok (.inl e)
def Kp (ok:vE P w H h) (e:H a=some (.t (ks.map kV))):(tupleKind (gE P w)).is h ks a:=by
 obtain⟨_,dE,r,o,h1,h2,n,h3⟩:=(show iz P w H h a (.t (ks.map kV))from ok a _ e)
 exact⟨o,dE.toArray,n,h1,h2,h3,by simpa using EB r⟩
def QB (ok:vE P w H h) (e:Rd H a (.dT ζ)):ζ.length<=sizeLine/\(a==sysModules)=false/\
  ∃xs,KT H ζ xs/\h.DictOfH (tupleKind (gE P w)) a xs:=by
 obtain⟨z,y,xs,r,o,es,ep,h1,h2,h3,h4,h5⟩:=(show iz P w H h a (.dT ζ)from UU ok e)
 refine⟨z,y,xs,r,o,es,ep,h1,h2,h3,h4,λx hx=>?_,h5⟩
 have all:∀{l:List (List Key×V)}{m:List (List Key×cF×cy)},KT H l m->∀x∈m,(tupleKind (gE P w)).is h x.1 x.2.1:=by
  intro l m q;induction q with
  |nil=>intro x hx;exact nomatch hx
  |@cons p q ps qs hq t ih=>
   intro x hx;rcases mem_cons.mp hx with e|hx
   .subst e;exact Kp ok (by rw[<-hq.1];exact hq.2.1)
   .exact ih x hx
 exact all r x hx
def ZL {ζ:List (List Key×V)}(ok:vE P w H h) (e:H a=some (.dT ζ)):ζ.length<=sizeLine/\(a==sysModules)=false/\
  ∃xs,KT H ζ xs/\h.DictOfH (tupleKind (gE P w)) a xs:=QB ok (.inl e)
def QC (H:Hp) (a:cF) (y:V) (r:Option V):Prop:=
 (∃ζ k,Rd H a (.dK ζ)/\y=kV k/\r=vL ζ k)\/∃ζ k b,Rd H a (.dT ζ)/\y=.ref b/\H b=some (.t (k.map kV))/\r=vL ζ k
def QD (H:Hp) (a:cF) (y v:V) (H':Hp):Prop:=
 (∃ζ k,H a=some (.dK ζ)/\y=kV k/\ζ.length<sizeLine/\H'=ν H a (.dK (putK ζ k v)))\/
 ∃ζ k b,H a=some (.dT ζ)/\y=.ref b/\H b=some (.t (k.map kV))/\ζ.length<sizeLine/\H'=ν H a (.dT (putK ζ k v))
theorem QC.k {H:Hp}{a:cF}{ζ:List (Key×V)}{k:Key}(e:H a=some (.dK ζ)):QC H a (kV k) (vL ζ k):=.inl ⟨ζ,k,.inl e,rfl,rfl⟩
theorem QD.k {H:Hp}{a:cF}{ζ:List (Key×V)}{k:Key}{v:V}(e:H a=some (.dK ζ)) (hl:ζ.length<sizeLine):QD H a (kV k) v (ν H a (.dK (putK ζ k v))):=.inl ⟨ζ,k,e,rfl,hl,rfl⟩
def η.big (I:η X cL O H s):sysModules<s.dN:=by
 have h:mainGlobals<s.dN:=(I.mod.glob.keeps I.bk).lt;exact bI (by decide) h
def LZ (I:η X cL O H s) (mu:XJ (H a)) (hs:Heap.SameBut a s.heap h') (he:∃q,h'.get? a=some q) (new:iz X.γ X.w (ν H a ob) h' a ob):η X cL O (ν H a ob) {s with heap:=h',toks:=t'}:=
 I.write (x:=a) (e:=a) mu (.inl rfl) (λb q hb z=>(hs.2 b hb).trans z) he new
def WA (z:ζ.length<=sizeLine) (hd:(a==sysModules)=false) (rel:KV ζ vs) (dd:h'.DictOf (gE P w) a vs):iz P w H' h' a (.dK ζ):=⟨z,hd,vs,rel,dd⟩
def Ny {H':Hp}{Q:Unit->cz->Prop}(hu:A.units+1<cLine) (I:η X cL O H s) (g:QD H a y v H') (ry:ι y u) (rv:ι v r) (h:∀s',η X cL O H' s'->Q () s'):
  wpAny (model X.γ X.w) A (setItem (.ref a) u r) Q E s:=by
 rcases g with⟨ζ,k,e,ey,l,eH⟩|⟨ζ,k,b,e,ey,eb,l,eH⟩
 .subst ey eH;obtain⟨z,hd,vs,rel,dd⟩:=QA I.fU e;have hz:vs.length<=sizeLine:=by rw[<-rel.length];exact z
  have hl:(putK ζ k v).length<=sizeLine:=by have:=An ζ k v;omega
  refine wpAny_setItem_pairs (hsz:=hz) (LY ry) dd λh' dd' hs=>h _ ?_
  have he:∃q,h'.get? a=some q:=let ⟨q,_,_,hq,_⟩:=dd';⟨q,hq⟩;exact LZ I (by rw[e];exact True.intro) hs he (WA hl hd (rel.put k rv) dd')
 .subst ey eH;cases (show u=Value.ref b from ry)
  obtain⟨z,hd,xs,rel,dd⟩:=ZL I.fU e;have hz:xs.length<=sizeLine:=by rw[<-Paired.length rel];exact z
  have hl:(putK ζ k v).length<=sizeLine:=by have:=An ζ k v;omega
  refine wpAny_setItem_heap (hsz:=hz) (tupleKind_room_in1 hu) (Kp I.fU eb) dd λh' dd' hs=>h _ ?_
  obtain⟨q,es,ep,hq,h2,h3,h4,_,h5⟩:=dd';refine LZ I (by rw[e];exact True.intro) hs ⟨q,hq⟩ ⟨hl,hd,_,(rel.put k eb rv).keeps λc ys ec=>?_,q,es,ep,hq,h2,h3,h4,h5⟩
  rw[de (XI ec e (λz=>nomatch z))]
  exact ec
def acn (i:cG):Prop:=∀ov iv,subscripted i false ov iv=operate [ov,iv] (getItem ov iv)
def To {γ:cB}{w:cC}{A:cD}{E:cj}{s:cz}{env:Env}{value slice:cG}{pos:Pos}{T id:String}{Q:cj}
  (hl:typeLookup (.type T) "__getitem__"=pure (some (.builtin id))) (hs:acn slice)
  (h:jH γ w A (eval value env) (λo s₁=>jH γ w A (eval slice env) (λi s₂=>s₂.TypeIs o T/\jH γ w A (getItem o i) Q E s₂) E s₁) E s):
  jH γ w A (eval (.Subscript value slice pos) env) Q E s:=by
 refine Subscript_ (bQ h (λo s₁ h₁=>bQ h₁ (λi s₂ h₂=>?_) λ_ _ x=>x) λ_ _ x=>x)
 obtain⟨hT,h₂⟩:=h₂;unfold subscriptTail;refine aa ?_;rw[getitemInPython_of_ne hT.not_modules];refine aa (wpAny_specialOf hT hl ?_);have fin:jH γ w A (subscripted slice false o i) (λr s₃=>jH γ w A (letTemporaryGo value o r>>=λ_=>pure r) Q E s₃) E s₂:=by
  rw[hs o i];exact wpAny_operating (bQ h₂ (λr s₃ h₃=>aa (wpAny_letTemporaryGo (ak h₃))) λ_ _ x=>x)
 first
  |exact ak (aa fin)
  |exact aa (ak (aa fin))
  |exact aa fin
def ZM (td ty tv:TE):TS:=λD O H=>tv O H λv H1=>td O H1 λx H2=>ty O H2 λy H3=>∃a H4,x=.ref a/\QD H3 a y v H4/\D.nx O H4
def Tp (hu:X.A.units+1<cLine) (ho:PE X o td) (hi:PE X i ty) (hv:PE X value tv) (hs:swapsWith value (some (.Subscript o i pos')) pos.line X.e=pure false):
  PS X (.Assign [.Subscript o i pos'] value pos) (ZM td ty tv):=by
 intro cL s O H D I h;refine wpAny_Assign_Subscript (pH (hv cL s O H _ I h) λr s1 v H1 I1 rv q1=>pH (ho cL s1 O H1 _ I1 q1) λu s2 x H2 I2 rx q2=>pH (hi cL s2 O H2 _ I2 q2) λiv s3 y H3 I3 ry ⟨a,H4,ex,g,q3⟩=>?_) hs
 subst ex;obtain rfl:u=Value.ref a:=rx;exact Ny hu I3 g ry rv λs4 I4=>⟨O,H4,I4,q3⟩
def QE (h:Heap) (hb:sysModules<h.objs.size):iz P w H (h.push {cls:=.type "dict",data:=.dict #[]}) h.objs.size (.dK []):=
 ⟨bM _,beq_eq_false_iff_ne.mpr (Ne.symm (aF hb)),[],.nil,Heap.DictOf.new h⟩
def WC:TE:=λ_ H Q=>∀p,H p=none->Q (.ref p) (ν H p (.dK []))
def QF:PE X (.Dict [] [] pos) WC:=λcL s O H Q I h=>
 wpAny_Dict_empty ⟨.ref s.dN,_,I.laid (a:=s.dN) (o:=.dK []) (t':=s.toks) (λ_ _ q=>ag _ q) (av _) (QE s.heap I.big),rfl,h _ (I.fU.fresh (av _))⟩
structure M2 (X:Cx) (o:cG) (m:Str) (apos:Pos) (e f:cG) (i7:Pos):Prop where
 Zc:attributeBase o m X.e (eval o X.e)=eval o X.e
 few:((backTo i7 (starEach [e,f] X.e)).all (λx=> !x.1)&&(backToKw i7 (keywordEach [] X.e)).all (λx=>x.1.isSome)
  &&decide (([e,f]:List cG).length+([]:List Keyword).length+(if([]:List Keyword).isEmpty then 0 else 1)<30))=true
 line:(apos.endLine==i7.line)=true
 trees:backTo i7 (starEach [e,f] X.e)=[(false,eval e X.e),(false,eval f X.e)]
def IsD (H:Hp) (a:cF):Prop:=(∃ζ,Rd H a (.dK ζ))\/∃ζ,Rd H a (.dT ζ)
def WE {X:Cx}{cL:cn}{O:St}{H:Hp}{s:cz}{a:cF}(I:η X cL O H s) (d:IsD H a):
  s.TypeIs (.ref a) "dict"/\(∀b,Value.ref a=.ref b->∃ob,s.heap.get? b=some ob/\ob.dict=none)/\(a==sysModules)=false:=by
 rcases d with⟨ζ,e⟩|⟨ζ,e⟩
 .obtain⟨_,hd,vs,_,dd⟩:=Qz I.fU e;refine⟨dd.typeIs,λb q=>?_,hd⟩
  cases q;obtain⟨ob,_,_,h1,h2,_⟩:=dd;exact⟨ob,h1,h2.2.1⟩
 .obtain⟨_,hd,xs,_,dd⟩:=QB I.fU e;refine⟨dd.typeIs,λb q=>?_,hd⟩
  cases q;obtain⟨ob,_,_,h1,h2,_⟩:=dd;exact⟨ob,h1,h2.2.1⟩
theorem WG (hu:A.units+1<cLine) (I:η X cL O H s) (g:QC H a y o) (ry:ι y u) (rd:ι d r) (h:∀w' s',η X cL O H s'->ι (o.getD d) w'->Q w' s'):wpAny (model X.γ X.w) A (call (.builtin "dict.get") [.ref a,u,r]) Q E s:=by
 rcases g with⟨ζ,k,e,ey,l⟩|⟨ζ,k,b,e,ey,eb,l⟩
 .subst ey;obtain⟨z,hd,vs,rel,dd⟩:=Qz I.fU e;refine call_meetsIn PySem.F.slot_dict_get dd.typeIs PySem.F.entry_dict_get (PySem.F.args_dict_get_3 _ _ _) (meets_dict_get_default (gE X.γ X.w) a (LY ry) hd r) ⟨_,dd.mapOf,h _ _ (I.tok _) ?_⟩;rw[l];exact(rel.val k).getD rd
 .subst ey;cases (show u=Value.ref b from ry)
  obtain⟨z,hd,xs,rel,dd⟩:=QB I.fU e;refine call_meetsIn PySem.F.slot_dict_get dd.typeIs PySem.F.entry_dict_get (PySem.F.args_dict_get_3 _ _ _) (meetsH_dict_get_default (tupleKind (gE X.γ X.w)) a b hd r) ⟨tupleKind_room_in1 hu,k,xs,Kp I.fU eb,dd,h _ _ (I.tok _) ?_⟩;rw[l];exact(rel.val k).getD rd
def WH (td ty tx:TE):TE:=λO H Q=>td O H λx H1=>∃a,x=.ref a/\IsD H1 a/\ty O H1 λy H2=>tx O H2 λz H3=>∃o,QC H3 a y o/\Q (o.getD z) H3
def QG (hu:X.A.units+1<cLine) (ho:PE X o td) (he:PE X e ty) (hf:PE X f tx) (m:M2 X o "get" apos e f i7):PE X (.Call (.Attribute o "get" apos) [e,f] [] i7) (WH td ty tx):=by
 intro cL s O H Q I h;refine wpAny_Call_method m.Zc m.few m.line PySem.F.plainAttrs_dict PySem.F.slot_dict_get PySem.F.type_dict_get (pH (ho cL s O H _ I h) λu s1 x H1 I1 rx ⟨a,ex,d,q1⟩=>?_)
 subst ex;obtain rfl:u=Value.ref a:=rx;obtain⟨t1,t2,_⟩:=WE I1 d;refine⟨t1,t2,?_⟩;rw[m.trees];refine Calls.callWith_builtin rfl (Calls.evalArgs_plain (Calls.spliced_cons (pH (he cL s1 O H1 _ I1 q1) λiv s2 y H2 I2 ry q2=>
  Calls.spliced_cons (pH (hf cL s2 O H2 _ I2 q2) λfv s3 z H3 I3 rz ⟨ov,g,q3⟩=>Calls.spliced_nil ?_))))
 exact WG hu I3 g ry rz λw' s4 I4 Sw=>⟨_,H3,I4,Sw,q3⟩
noncomputable abbrev qQ:Scope:={kind:=.function,names:=[(Str.ofString "point",.local),(Str.ofString "uses",.free)],isGenerator:=false,isCoroutine:=false,more:=[]}
noncomputable abbrev so (p:Pos):Arguments:={posonlyargs:=[],args:=[{arg:="point",annotation:=none,pos:=p}],vararg:=none,kwonlyargs:=[],kw_defaults:=[],kwarg:=none,defaults:=[]}
noncomputable abbrev pM (pu pp pS pU N8 pT:Pos):cG:=.Tuple [.UnaryOp .USub (.Subscript (.Name "uses" pu) (.Name "point" pp) pS) pU,.Name "point" N8] 0 pT
theorem QH (nr:A.depth<recursionLimit) (hf:s.heap.get? f=some (W.kla_obj "<lambda>" qual (so pa) (pM pu pp pS pU N8 pT) qQ [(Str.ofString "uses",cell)] pm c' xg)) (vG:s.heap.CodeRec (.ref c') qual) (VS:s.heap.NoLimit) (Eb:s.heap.IsCell cell (some (.ref a))) (dd:s.heap.DictOf (gE γ w) a vs) (hv:valueAt vs (.inl p)=some (.int n tn)) (h:∀T h' tk tn',h'.get? T=some {cls:=.type "tuple",data:=.seq #[.int (-n) tn',.int p t]}->(∀b o,s.heap.get? b=some o->h'.get? b=some o)->s.heap.objs.size<=T->Q (.ref T) {s with heap:=h',toks:=tk}):jH γ w A (call (.ref f) [.int p t]) Q E s:=by
 refine wpAny_call (W.kla_callFunE nr hf rfl rfl rfl rfl vG ?_);have hb:bindArgs (W.kla_fn "<lambda>" qual (so pa) (pM pu pp pS pU N8 pT) qQ [(Str.ofString "uses",cell)] pm (.ref c') xg) ⟨[.int p t],[]⟩=pure [(Str.ofString "point",.int p t)]:=rfl;rw[hb];refine ak (wpAny_newFunctionEnv (show ∀x∈qQ.names,x.2≠.cell by decide) (by intro x hx;simp at hx;subst hx;rfl) (λh₁ OU RV=>⟨VS.fresh _ RV,?_⟩) rfl)
 have WI:∀b o,s.heap.get? b=some o->h₁.get? b=some o:=λb o e=>RV.extBut b o (aF (aD e)) (ag _ e)
 have hsz:s.heap.objs.size<=h₁.objs.size:=bh OU.lt;refine W.kla_codeExpr ?_;generalize hL:s.heap.objs.size=L at *;show wpAny (model γ w) (A.deeper (W.envX qual qQ L f (.ref c') [(Str.ofString "uses",cell)])) (eval (pM pu pp pS pU N8 pT) (W.envX qual qQ L f (.ref c') [(Str.ofString "uses",cell)])) _ _ {s with heap:=h₁,toks:=s.toks+1}
 generalize hA:A.deeper (W.envX qual qQ L f (.ref c') [(Str.ofString "uses",cell)])=A';generalize s.toks+1=tk₁;refine wpAny_Tuple_spliced ?_;refine Calls.spliced_cons (UnaryOp_ (To PySem.F.slot_dict_getitem.lookup (λ_ _=>rfl) ?_))
 have dd₁:h₁.DictOf (gE γ w) a vs:=by obtain⟨o,es,ep,e,r⟩:=dd;exact⟨o,es,ep,WI _ _ e,r⟩
 refine wpAny_Name (wpAny_loadName_free rfl rfl rfl (Eb.keeps WI) ?_) (by decide)
 refine wpAny_Name (wpAny_loadName_local rfl rfl OU rfl ?_) (by decide)
 refine⟨dd₁.mapOf.typeIs,wpAny_getItem_of (k:=Sum.inl p) (LY (k:=Sum.inl p) (u:=.int p t) ⟨t,rfl⟩) dd₁.mapOf hv ?_⟩;refine neg_int ?_;refine Calls.spliced_cons (wpAny_Name (wpAny_loadName_local rfl rfl OU rfl ?_) (by decide))
 refine Calls.spliced_nil ⟨by show(2:Nat)<=_;decide,?_⟩
 refine h _ _ _ _ (aB _ rfl) (λb o e=>ag _ (WI b o e)) ?_
 exact hsz
end L2
namespace L2
open PySem.W PySem.Calls
section
variable {γ:cB}{w:cC}{A:cD}{E:cj}{s:cz}{K:Type} [DecidableEq K] {knd:KeyKind γ w K}{d:cF}{ζ:List (K×cy)}{ep:Nat}
theorem FT {Q:cx->cz->Prop}(hh:A.handled=none) (lo:(d==sysModules)=false) (hm:s.heap.DictAt knd d ζ ep) (hn:ζ.length<=sizeLine)
  (hQ:∀h' tk (υ:cx),(∀b o,s.heap.get? b=some o->h'.get? b=some o)->υ.length=ζ.length->(∀(j:Nat) v,υ[j]? =some v->∃k x,ζ[j]? =some (k,x)/\knd.is k v=true)->s.dN<h'.objs.size->Q υ {s with heap:=h',toks:=tk}):jH γ w A (collect (.ref d)) Q E s:=by
 unfold collect;refine aa (wpAny_runValue (codeAny_builtin PySem.F.entry_proto_collect ?_));rw[bY PySem.F.plain_proto_collect _];show wpAny _ A.in1 (newList []>>=λl=>again (.builtin "list.__iadd__" ⟨[l,.ref d],[]⟩)) _ _ s
 refine aa (bS ?_);refine ak ⟨plainId_quiet PySem.F.plain_list_iadd _,codeAny_builtin PySem.F.entry_list_iadd ?_⟩;rw[bY PySem.F.plain_list_iadd _];have hS:(s.heap.push {cls:=.type "list",data:=.seq ([]:cx).toArray}).get? s.dN=some {cls:=.type "list",data:=.seq #[]}:=aB _ rfl;have fR:=hm.lt_size;show wpAny _ A.in1 (Builtin.List.listExtendWith (.ref s.dN) (.ref d) (.ref s.dN)) _ _ _;have key:=kdl_extend (A:=A) (s:={s with heap:=s.heap.push {cls:=.type "list",data:=.seq ([]:cx).toArray}}) (R:=λr s'=>∃h' tk nH c',r=.ok (.ret (.ref s.dN))/\s'={s with heap:=h',toks:=tk}/\(∀b o,b≠s.dN->(s.heap.push {cls:=.type "list",data:=.seq ([]:cx).toArray}).get? b=some o->h'.get? b=some o)/\h'.get? s.dN=some {cls:=.type "list",dict:=none,data:=.seq nH c',slots:=#[]}/\ItemsOf (λi v=>∃k x,ζ[i]? =some (k,x)/\knd.is k v=true) nH ζ.length)
  (kdl_dict (knd:=knd) (kvs:=ζ) (ep:=ep) lo) hh (hm.push _) s.dN (bz fR) (bz fR) (.ref s.dN) 0 hS (λh' tk nH c' hk XC vH=>⟨h',tk,nH,c',rfl,rfl,hk,XC,vH⟩) hn
 have fin:∀(h':Heap) tk nH c',(∀b o,b≠s.dN->(s.heap.push {cls:=.type "list",data:=.seq ([]:cx).toArray}).get? b=some o->h'.get? b=some o)->h'.get? s.dN=some {cls:=.type "list",dict:=none,data:=.seq nH c',slots:=#[]}->ItemsOf (λi v=>∃k x,ζ[i]? =some (k,x)/\knd.is k v=true) nH ζ.length->Q nH.toList {s with heap:=h',toks:=tk}:=λh' tk nH c' hk XC vH=>
  hQ h' tk nH.toList (λb o e=>hk b o (aF (aD e)) (ag _ e)) (by rw[aO];exact vH.1) (λj v e=>vH.2 j v (by rw[<-Array.getElem?_toList];exact e)) (aD XC)
 refine bQ key (λr s' hr=>?_) λe s' hr=>?_
 .cases r with
  |done f=>
   obtain⟨h',tk,nH,c',e1,e2,e3,e4,e5⟩:=hr;cases e1;subst e2;exact aa (wpAny_load e4 (ak (fin h' tk nH c' e3 e4 e5)))
  |again c=>
   refine⟨hr.1,codeAny_mono hr.2 λr s' hr=>?_⟩
   obtain⟨h',tk,nH,c',e1,e2,e3,e4,e5⟩:=hr;cases e1;subst e2;exact aa (wpAny_load e4 (ak (fin h' tk nH c' e3 e4 e5)))
 .obtain⟨h',tk,nH,c',e1,_⟩:=hr;cases e1
end
theorem ya:∀(l:cx),TriplesOk l->TriplesOk (l++[.int i t,.int j u,c])
 |[],_=>trivial
 |.int _ _::.int _ _::_::rest,h=>ya rest h
def zp (h1:p.line=q.line) (h2:p.col=q.col):∀l:cx,codeAmong p l=codeAmong q l:=λl=>by
 have key:∀(n:Nat) (l:cx),l.length<=n->codeAmong p l=codeAmong q l:=λn=>by
  induction n with
  |zero=>intro l hl;cases l with|nil=>rfl|cons _ _=>simp at hl
  |succ n ih=>
   intro l hl;unfold codeAmong;split
   .rename_i line _ col _ c rest;rw[h1,h2,ih rest (by simp only[az]at hl;omega)]
   .rfl
 exact key l.length l (av _)
def QI (h:Dj p x++m=Dj q y++n):p.line=q.line/\p.col=q.col/\x=y:=by
 have h0:=congrArg (λa:Array cy=>a.toList) h
 simp only[Dj,Array.toList_append,cons_append,nil_append]at h0;injection h0 with a1 h1
 injection h1 with a2 h2
 injection h2 with a3 _
 injection a1 with b1 _
 injection a2 with b2 _
 injection a3 with b3 _
 exact⟨Int.ofNat.inj b1,Int.ofNat.inj b2,b3⟩
def FU {env:Env}{cell:cF}(h:env.cells.lookup (Str.ofString "uses")=some cell):closureFor qQ env=pure [(Str.ofString "uses",cell)]:=by
 unfold closureFor;simp only[qQ,forIn_cons,forIn_nil];have ec:cellOf env (Str.ofString "uses")=pure cell:=by unfold cellOf;rw[h]
 rw[ec];rfl
section
variable {X:Cx}{cL:cn}{O:St}{H:Hp}{qual:Str}{ar:Arguments}{bd:cG}{sc:Scope}{cl:List (Str×cF)}
structure FnG (X:Cx) (cL:cn) (O:St) (H H2:Hp) (s2:cz) (f c':cF) (qual:Str) (Fo:cF->Obj->Prop):Prop where
 inv:η X cL O H2 s2
 new:H2=H\/∃u,H c'=none/\H2=ν H c' u
 fn:∃o,s2.heap.get? f=some o/\Fo c' o
 cd:s2.heap.CodeRec (.ref c') qual
 fl:f≠X.e.locals
 fz:∃oc vs t,H2 c'=some (.zW oc (.o 0))/\oc.data=.fields vs/\vs[1]? =some (.str qual t)
 fn0:H2 f=none
 fs:f∉Dm X.stack
 fb:X.s₀.dN<=f
theorem FnG.pinned {s2:cz}{H2:Hp}{f c':cF}{Fo:cF->Obj->Prop}{o:Obj}(L:FnG X cL O H H2 s2 f c' qual Fo) (ho:s2.heap.get? f=some o) (nc:∀v,o.data≠.cell v):η X ((f,o)::cL) O H2 s2:=L.inv.rJ λp hp=>by
 rcases mem_cons.mp hp with rfl|hp
 .refine⟨ho,L.fn0,L.fl,λz=>L.fs ?_,nc⟩
  rcases L.inv.ok.XN with e|⟨e,hf⟩
  .rw[e];exact z
  .rw[e];unfold Dm;rw[filterMap_cons,hf];exact .tail _ z
 .exact L.inv.pin p (aM _ hp)
theorem HE {E:cj}{mk:Sem cy}{Fo:cF->Obj->Prop}(I:η X cL O H s) (hT:(x,uv,qual)∈vD) (ht:tabIn X.K x=some (c,Pt)) (mkN:∀{Q:cj}{ps:Array cy},s.heap.Ns mainGlobals X.mg->CodeHd s.heap c Pt->s.heap.get? Pt=some (tabObj ps)->TriplesOk ps.toList->codeAmong uv ps.toList=none->mainGlobals≠Pt->s.heap.BuiltinsAt X.mg Pt->(∀(c':cF) (o:Obj) (h':Heap) (tk:Nat),Fo c' o->o.isFreed=false->Heap.ExtBut Pt s.heap h'->s.dN<=c'->c'<h'.objs.size->h'.CodeRec (.ref c') qual->h'.get? Pt=some (tabObj (ps++#[rawInt uv.line,rawInt uv.col,.ref c']))->Q (.ref h'.objs.size) {s with heap:=h'.push o,toks:=tk})->X.mO mk Q E s) (mkH:∀{Q:cj}{ps:Array cy}{c':cF},s.heap.Ns mainGlobals X.mg->CodeHd s.heap c Pt->s.heap.get? Pt=some (tabObj ps)->TriplesOk ps.toList->codeAmong uv ps.toList=some (.ref c')->s.heap.BuiltinsAt X.mg Pt->(∀(o:Obj) (h':Heap) (tk:Nat),Fo c' o->o.isFreed=false->(∀b o,s.heap.get? b=some o->h'.get? b=some o)->s.dN<=h'.objs.size->Q (.ref h'.objs.size) {s with heap:=h'.push o,toks:=tk})->X.mO mk Q E s) (h:∀H2 s2 f c',FnG X cL O H H2 s2 f c' qual Fo->Q (.ref f) s2):X.mO mk Q E s:=by
 obtain⟨⟨more,hP⟩,hC,hB⟩:=(I.ok.tb.un I.Zc) x c Pt uv qual hT ht;obtain⟨qs,e,tr,pos,adX,ZN,eq,r⟩:=(show D9 H s.heap Pt (Dj uv qual++more)from I.fU Pt _ hP)
 obtain⟨z1,z2,z3⟩:=QI eq;subst z3;have hC':CodeHd s.heap c Pt:=hC.keeps I.bk;have UW:s.heap.BuiltinsAt X.mg Pt:=let ⟨bm,ob,b1,b2,b3,b4,b5,b6⟩:=hB;⟨bm,ob,b1,b2,b3,b4,I.bk _ _ b5,b6⟩;have hG:s.heap.Ns mainGlobals X.mg:=I.mod.glob.keeps I.bk;have hgP:mainGlobals≠Pt:=λz=>by
  obtain⟨og,es,ep,eg,hd,_⟩:=hG;rw[z,e]at eg;cases eg;cases hd
 have hlL:X.e.locals<s.dN:=I.lt;have ZO:∀{b:cF},s.dN<=b->b∉Dm X.stack:=λ{b} hb z=>by
  obtain⟨_,o,ho,_⟩:=I.stack.mem z;exact absurd (aD ho) (Nat.not_lt.mpr hb)
 rcases r with hn|⟨c',oc,vs,t,hf,q2,q3,q4⟩
 .have hnf:codeAmong uv qs.toList=none:=by rw[zp z1 z2];exact hn
  refine mkN hG hC' e tr hnf hgP UW λc' fo h' tk hF N3 hx Hh fR OV htb=>?_
  obtain⟨c2,oc,vs,t,ec,Xi,hd,hv⟩:=id OV;cases ec;have hH:H c'=none:=I.fU.fresh Hh;have hgl:=bh (Nat.lt_of_le_of_lt Hh fR);have keep:∀b o,b≠Pt->s.heap.get? b=some o->(h'.push fo).get? b=some o:=λb o hb q=>ag _ (hx b o hb q)
  have nP:∀{b:cF},H b=none->b≠Pt:=λ{b} q z=>by rw[z,hP]at q;cases q
  refine h (ν H c' (.zW oc (.o 0))) _ _ c' ⟨?_,.inr ⟨_,hH,rfl⟩,⟨fo,aB _ N3,hF⟩,⟨c',oc,vs,t,rfl,ag _ Xi,hd,hv⟩,bz (ay hlL hgl),⟨oc,vs,t,dk,hd,hv⟩,by rw[de (bz fR)];exact I.fU.fresh hgl,ZO hgl,aE I.sz hgl⟩
  refine I.un (h':=h'.push fo) (t':=tk) ⟨λb o q n _ _=>keep b o (nP n) q,λb o q n _ _=>⟨o.slots,keep b o (nP n) q⟩,λb o q n _=>?_,λb o q _=>?_,λb xs q=>(de (dw q hH)).trans q,λb o u q=>(de (dw q hH)).trans q,λb ps q=>⟨#[],by rw[de (dw q hH),q];simp⟩⟩ ?_
  .rw[de (aF (ay (aD q) Hh))];exact n
  .by_cases hb:b=Pt
   .subst hb;exact⟨_,ag _ htb⟩
   .exact⟨o,keep b o hb q⟩
  .intro b u q;by_cases hb:b=c'
   .subst hb;rw[dk]at q;cases q;exact⟨ag _ Xi,oc,ag _ Xi⟩
   .rw[de hb]at q;by_cases hbP:b=Pt
    .subst hbP;rw[hP]at q;cases q;refine⟨_,ag _ htb,?_,pos,qual,ZN,eq,.inr ⟨c',oc,vs,t,?_,dk,hd,hv⟩⟩
     .rw[Array.toList_append];exact ya _ tr
     .rw[Array.toList_append,<-zp z1 z2];exact codeAmong_snoc _ tr hnf
    .refine(I.fU b u q).E5 (λk v hk z=>keep k v ?_ z) (λk z=>(de (dw z hH)).trans z) (λk xs z=>(de (dw z hH)).trans z) λk ob u' z=>(de (dw z hH)).trans z
     rcases hk with rfl|hk
     .exact hbP
     .intro z;rw[z,hP]at hk;cases hk
 .have hf':codeAmong uv qs.toList=some (.ref c'):=by rw[zp z1 z2];exact hf
  refine mkH hG hC' e tr hf' UW λfo h' tk hF N3 hk hsz=>?_
  obtain⟨e1,_⟩:=I.fU c' _ q2;refine h H _ _ c' ⟨I.kept (t':=tk) λb o q=>ag _ (hk b o q),.inl rfl,⟨fo,aB _ N3,hF⟩,⟨c',oc,vs,t,rfl,ag _ (hk _ _ e1),q3,q4⟩,bz (ay hlL hsz),⟨oc,vs,t,q2,q3,q4⟩,I.fU.fresh hsz,ZO hsz,aE I.sz hsz⟩
abbrev ZP (X:Cx) (cL:cn) (O:St) (H H2:Hp) (s2:cz) (f c':cF) (qual:Str) (ar:Arguments) (bd:cG) (sc:Scope) (cl:List (Str×cF)):Prop:=FnG X cL O H H2 s2 f c' qual λc' o=>∃pm xg,o=kla_obj "<lambda>" qual ar bd sc cl pm c' xg
theorem Nz (I:η X cL O H s) (hT:(x,uv,qual)∈vD) (ht:tabIn X.K x=some (c,Pt)) (hq:X.e.qual++Str.ofString "<lambda>"=qual) (uw:X.e.code=.ref c) (xf:closureFor sc X.e=pure cl) (acp:defaultsOf ar X.e=([],[])) (h:∀H2 s2 f c',ZP X cL O H H2 s2 f c' qual ar bd sc cl->Q (.ref f) s2):X.mO (eval (.Lambda ar bd sc uv) X.e) Q E s:=by
 refine kla_eval acp ?_;rw[hq];exact HE I hT ht (λhG hC e tr hn hP hB k=>kla_makeFunction xf I.ok.glob hG uw hC e tr hn hP hB λc' xg h' tk=>k c' _ h' tk ⟨_,xg,rfl⟩ rfl) (λhG hC e tr hf hB k=>kla_makeFunctionHit xf I.ok.glob hG uw hC e tr hf hB λxg h' tk=>k _ h' tk ⟨_,xg,rfl⟩ rfl) h
end
section
variable {X:Cx}{cL:cn}{O:St}{H:Hp}{qual:Str}{cell:cF}{pa:Pos}
abbrev Lam (X:Cx) (cL:cn) (O:St) (H H2:Hp) (s2:cz) (f c' cell:cF) (qual:Str) (pa:Pos) (body:cG):Prop:=ZP X cL O H H2 s2 f c' qual (so pa) body qQ [(Str.ofString "uses",cell)]
def QJ (I:η X cL O H s) (hT:(x,uv,qual)∈vD) (ht:tabIn X.K x=some (c,Pt)) (hq:X.e.qual++Str.ofString "<lambda>"=qual) (uw:X.e.code=.ref c) (xf:X.e.cells.lookup (Str.ofString "uses")=some cell) (h:∀H2 s2 f c',Lam X cL O H H2 s2 f c' cell qual pa (pM pu pp pS pU N8 pT)->Q (.ref f) s2):X.mO (eval (.Lambda (so pa) (pM pu pp pS pU N8 pT) qQ uv) X.e) Q E s:=Nz I hT ht hq uw (FU xf) rfl h
end
def lC (lt:Nat->Nat->Bool) (n:Nat):List Nat:=if n<2 then List.range n else(So.ju lt (kas_sort n)).toList
def vm {rank:Nat->Int}(fR:∀i j,lt i j=decide (rank i<rank j)):(lC lt n).Perm (List.range n):=by
 unfold lC;split
 .exact .refl _
 .simpa using Array.perm_iff_toList_perm.mp (So.BB fR n (by omega)).1
def Tq {lt:Nat->Nat->Bool}{n:Nat}{rank:Nat->Int}(fR:∀i j,lt i j=decide (rank i<rank j)):(lC lt n).Pairwise λi j=>rank i<=rank j:=by
 unfold lC;split
 .match n with
  |0=>exact .nil
  |1=>exact pairwise_singleton _ _
 .obtain⟨s1,s2⟩:=So.BB fR n (by omega)
  generalize So.ju _ (kas_sort n)=ar at s1 s2;have sz:ar.size=n:=by simpa using s1.size_eq
  rw[pairwise_iff_getElem];intro i j hi hj G8;have A9:i<ar.size:=by simpa using hi
  have JT:j<ar.size:=by simpa using hj
  have le:=s2 i j (bh G8) (by omega)
  unfold So.kk at le;rw[aU,aU,aV A9,aV JT]at le
  simpa using le
section
variable {X:Cx}{cL:cn}{O:St}{H:Hp}{s:cz}{f kS:cF}{A:cD}{R:List V->Hp->Prop}{dE:cx}{xs:List V}
def η.L0 (I:η X cL O H s) (h:H a=some (.l us)):∃(vs:cx) (c:Nat),θ us vs/\s.heap.get? a=some (seqObj "list" vs.toArray c):=let ⟨_,vs,c,r,e⟩:=I.fU a _ h;⟨vs,c,r,e⟩
def η.refill (I:η X cL O H s) {vs YD:cx}(h:H a=some (.l us)) (e:s.heap.get? a=some (seqObj "list" vs.toArray c)) (r:θ us' YD) (hl:us'.length<64) (hg:g vs.toArray=YD.toArray):η X cL O (ν H a (.l us')) {s with heap:=s.heap.update a (Obj.mapSeq g),toks:=tk}:=by
 have ea:=get?_update_seq e g;rw[hg]at ea;exact I.write (by rw[h];trivial) (.inl rfl) (λb u hb q=>(bA _ _ (Ne.symm hb)).trans q) ⟨_,ea⟩ ⟨bh (kX (by omega)),YD,_,r,ea⟩
theorem EC (r:ι v u):∀{vs:List V}{us:cx},θ vs us->θ (vs++[v]) (us++[u])
 |_,_,.nil=>.cons r .nil
 |_,_,.cons q t=>.cons q (EC r t)
abbrev UX (X:Cx) (cL:cn) (O:St) (A:cD) (f kS:cF) (dE:cx) (R:List V->Hp->Prop):Prop:=∀(ζ:List V) (H:Hp) (s:cz) (u:cy),dE[ζ.length]? =some u->η X cL O H s->R ζ H->H kS=some (.l ζ)->wpAny (model X.γ X.w) A (call (.ref f) [u]) (EP X cL O λk H'=>H' kS=H kS/\∀o,R (ζ++[k]) (ν H' kS o)) (λ_ _=>False) s
theorem UY (Ad:dE.length<64) (step:UX X cL O A f kS dE R) (hb:∀x s (T:cz->Prop),wpAny (model X.γ X.w) A (call (.ref f) [x]) (λk s'=>∃ks c,s'.heap.get? kS=some (seqObj "list" ks c)/\ks.size<63/\T {s' with heap:=s'.heap.update kS (Obj.mapSeq (·.push k))}) (λ_ _=>False) s->wpAny (model X.γ X.w) A (body x ⟨⟩) (λr s'=>r=.yield ⟨⟩/\T s') E s):∀(r:cx) (ζ:List V) (H:Hp) (s:cz),dE.drop ζ.length=r->ζ.length<=dE.length->η X cL O H s->R ζ H->H kS=some (.l ζ)->wpAny (model X.γ X.w) A (forIn r PUnit.unit body) (λ_ s'=>∃ζ H',ζ.length=dE.length/\η X cL O H' s'/\R ζ H'/\H' kS=some (.l ζ)) E s
 |[],ζ,H,s,hr,hl,I,h,hk=>by
  rw[forIn_nil];have:=congrArg List.length hr;rw[length_drop,length_nil]at this;exact ak ⟨ζ,H,by omega,I,h,hk⟩
 |x::r,ζ,H,s,hr,hl,I,h,hk=>by
  have fR:ζ.length<dE.length:=by
   have:=congrArg List.length hr;rw[length_drop,az]at this;omega
  rw[drop_eq_getElem_cons fR]at hr;injection hr with e1 e2
  rw[forIn_cons];refine aa (bQ (hb x s (λs'=>∃v H',η X cL O (ν H' kS (.l (ζ++[v]))) s'/\R (ζ++[v]) (ν H' kS (.l (ζ++[v])))) (bQ (step ζ H s x (by rw[<-e1];exact ah fR) I h hk) (λk s' ⟨v,H',I',rk,q1,q2⟩=>?_) λ_ _ z=>z)) (λq s' hq=>?_) λ_ _ z=>z)
  .rw[hk]at q1;obtain⟨vs,c,r1,ea⟩:=I'.L0 q1;exact⟨_,c,ea,by rw[au,<-r1.length];omega,v,H',I'.refill q1 ea (EC rk r1) (by rw[aR,length_singleton];omega) (by simp),q2 _⟩
  .obtain⟨rfl,v,H',I',h'⟩:=hq;show wpAny _ A (forIn r PUnit.unit body) _ _ s';exact UY Ad step hb r (ζ++[v]) _ s' (by rw[aR,length_singleton];exact e2) (by rw[aR,length_singleton];omega) I' h' dk
abbrev acq (X:Cx) (cL:cn) (O:St) (A:cD) (dE:cx) (R:List V->Hp->Prop) (lt:Nat->Nat->Bool):Prop:=∀(ζ:List V) (H:Hp) (s:cz) (Di:cx),η X cL O H s->R ζ H->ζ.length=dE.length->θ ζ Di->2<=dE.length->
 wpAny (model X.γ X.w) A (keyKind' Di.toArray) (λκ s'=>s'=s/\∀i j (C:Bool->cz->Prop),i<dE.length->j<dE.length->C (lt i j) s->kas_ask X.γ X.w A κ Di i j C s) (λ_ _=>False) s
theorem L1 (rv:θ xs dE):∀ix:List Nat,(∀i∈ix,i<dE.length)->θ (ix.map λi=>xs.getD i .eZ) (ix.map λi=>dE.getD i Value.none)
 |[],_=>.nil
 |i::ix,h=>by
  have hi:i<xs.length:=by rw[rv.length];exact h i (.head _)
  obtain⟨u,e,r⟩:=rv.get (ah hi);refine .cons ?_ (L1 rv ix λj hj=>h j (.tail _ hj))
  show ι (xs.getD i .eZ) (dE.getD i Value.none);rw[ao,ao,ah hi,e];exact r
def η.adopt (I:η X cL O H s) (fp:yQ X cL H a) (k:∀b o,b≠a->s.heap.get? b=some o->h'.get? b=some o) (r:θ us vs) (hl:us.length<64) (e:h'.get? a=some (seqObj "list" vs.toArray c)):η X cL O (ν H a (.l us)) {s with heap:=h',toks:=tk}:=by
 obtain⟨f1,f2,f3,f4,f5,f6⟩:=fp;have ne:∀{b:cF}{u:HO},H b=some u->b≠a:=λq z=>by rw[z,f1]at q;cases q
 have nc:∀{b:cF},b∉[a]->b≠a:=λhb z=>hb (by simp[z])
 refine I.step (g':=s.gens) (d':=s.drawn) (ch:=[a]) (λb hb=>by rw[bw]at hb;subst hb;exact⟨f4,f2,f5,f6⟩) (λb o _ _ hc q _=>k b o (nc hc) q) (λb o _ _ hc q _=>⟨o.slots,k b o (nc hc) q⟩) (λb o hc _ n=>(de (nc hc)).trans n) (λb o hc q=>⟨o,k b o (nc hc) q⟩) (λb _ q=>(de (ne q)).trans q) (λb _ _ q=>(de (ne q)).trans q) (λb ps q=>⟨#[],by rw[de (ne q),q];simp⟩) (λm ⟨o,es,ep,ho,r⟩=>⟨o,es,ep,k _ o (Ne.symm f2) ho,r⟩) (λb u q=>?_) I.bare
 by_cases hb:b=a
 .subst hb;rw[dk]at q;cases q;exact⟨bh (kX (by omega)),vs,c,r,e⟩
 .rw[de hb]at q;refine(I.fU b u q).E5 (λc' v hc z=>k c' v ?_ z) (λc' z=>(de (ne z)).trans z) λc' xs z=>(de (ne z)).trans z
  rcases hc with rfl|hc
  .exact hb
  .exact ne hc
def Tr (e1:dE=[v]) (e2:Di=[k]):(arrOf (SortSt.mk' general' (Di.toArray.zip dE.toArray) #[] 7 none)).map (·.2)=[v].toArray:=by
 subst e1 e2;show((#[k]:Array cy).zip #[v]).map (·.2)=#[v]
 apply Array.toList_inj.mp
 simp
def Ts (e1:dE=[v]) (e2:Di=[k]) (h:wpAny M A (ksk_tail D false n (.ref kS) (SortSt.mk' general' (Di.toArray.zip dE.toArray) #[] 7 none)) Q E s):wpAny M A (ksk_end D false dE.toArray n (.ref kS) Di.toArray) Q E s:=by
 subst e1 e2;have hz:([v].toArray:Array cy).size<2:=by show(1:Nat)<2;decide
 unfold ksk_end;dsimp only;rw[if_pos hz,if_pos hz];simp only[aJ,bF];refine aa (ak ?_);rw[StateT.run_pure];exact aa (ak h)
def L3 {Q:VK}{lt:Nat->Nat->Bool}{rank:Nat->Int}(fR:∀i j,lt i j=decide (rank i<rank j)) (I:η X cL O H s) (acr:∀{Q:cx->cz->Prop},(∀T tk dE,θ xs dE->(∀b o,s.heap.get? b=some o->T.get? b=some o)->s.dN<=T.objs.size->Q dE {s with heap:=T,toks:=tk})->wpAny (model X.γ X.w) X.A.in1 (collect (.ref d)) Q E s) (h1:1<=xs.length) (Ad:xs.length<64) (keys:∀(dE:cx) (D kS:cF) (o:Obj),θ xs dE->H D=none->H kS=none->kS≠D->∃R:List V->Hp->Prop,R [] (ν H kS (.l []))/\UX X ((D,o)::cL) O X.A.in1.in1 f kS dE R/\acq X ((D,o)::cL) O X.A.in1.in1 dE R lt/\
   ∀ζ H',R ζ H'->ζ.length=dE.length->H' D=none->Q (.ref D) (ν (ν H' kS (.l [])) D (.l ((lC lt xs.length).map λi=>xs.getD i .eZ)))):X.mO (call (.builtin "sorted") [.ref d] [(Str.ofString "key",.ref f)]) (EP X cL O Q) E s:=by
 have z64:64<=sizeLine:=by decide
 refine call_function_entry_kw kind_sorted plain_sorted entry_sorted (ksk_s1 _ _) ?_;unfold Builtin.«sorted»;refine aa (m:=checkCount "sorted" 1 1 _) (ak ?_);refine aa (acr λT UZ dE rv kT sT=>?_)
 have hxl:=rv.length;rw[hxl]at h1 Ad;refine aa (wpAny_newList ?_ (by omega))
 have hD:=I.fU.fresh sT;have fpD:∀{H':Hp},H' T.objs.size=none->yQ X cL H' T.objs.size:=I.Jm sT;have o1:(T.push (seqObj "list" dE.toArray 0)).get? T.objs.size=some (seqObj "list" dE.toArray 0):=aB _ rfl;have kU:∀b o,s.heap.get? b=some o->b≠T.objs.size/\(T.push (seqObj "list" dE.toArray 0)).get? b=some o:=λb o q=>⟨aF (ay (aD q) sT),ag _ (kT b o q)⟩
 generalize T.objs.size=D at *;refine aa (bo (wpAny_call_entry_kw slot_list_sort ⟨_,o1,rfl⟩ entry_list_sort ?_ (ksk_l1 _ _)));show wpAny _ X.A.in1.in1 (Builtin.«list.sort» ⟨[.ref D],[(Str.ofString "key",.ref f)]⟩) _ _ {s with heap:=T.push (seqObj "list" dE.toArray 0),toks:=UZ}
 generalize T.push (seqObj "list" dE.toArray 0)=U_ at *;rw[ksk_t1];unfold ksk_tree;refine aa (listItems_at o1 rfl (aa (listUpdate_at o1 rfl ?_ (hsz:=by rw[au];omega) (hsz2:=bM _))))
 obtain⟨e1,o2⟩:∃e1,(U_.update D (Obj.mapSeq λ_=>#[])).get? D=some (seqObj "list" #[] e1):=⟨_,get?_update_seq o1 (λ_=>#[])⟩
 have I1:η X cL O H {s with heap:=U_.update D (Obj.mapSeq λ_=>#[]),toks:=UZ}:=I.kept (t':=UZ) λb o q=>(bA _ _ (Ne.symm (kU b o q).1)).trans (kU b o q).2
 have hDs:(D:Nat)<(U_.update D (Obj.mapSeq λ_=>#[])).objs.size:=aD o2
 show wpAny _ X.A.in1.in1 _ _ _ {s with heap:=U_.update D (Obj.mapSeq λ_=>#[]),toks:=UZ}
 generalize U_.update D (Obj.mapSeq λ_=>#[])=W at *
 refine aa (seqEpoch_at o2 rfl (aa (wpAny_newTuple (aa (wpAny_newList (bo ?_))) (show dE.length<=_ by omega))))
 show wpAny _ X.A.in1.in1 (ksk_rest D (.ref f) false dE.toArray e1 (.ref (W.push (seqObj "tuple" dE.toArray 0)).objs.size)) _ _ {s with heap:=(W.push (seqObj "tuple" dE.toArray 0)).push (seqObj "list" #[] 0),toks:=UZ}
 have hs:W.objs.size<=(W.push (seqObj "tuple" dE.toArray 0)).objs.size:=by rw[Heap.size_push];exact Nat.le_succ _
 have hkn:=I1.fU.fresh hs;have ZQ:(W.push (seqObj "tuple" dE.toArray 0)).objs.size≠D:=bz (ay hDs hs);have kD:∀{H':Hp}{o:HO},ν H' (W.push (seqObj "tuple" dE.toArray 0)).objs.size o D=H' D:=de (Ne.symm ZQ);have I2:η X cL O (ν H (W.push (seqObj "tuple" dE.toArray 0)).objs.size (.l [])) {s with heap:=(W.push (seqObj "tuple" dE.toArray 0)).push (seqObj "list" #[] 0),toks:=UZ}:=
  I1.laid (t':=UZ) (λb o q=>ag _ (ag _ q)) hs ⟨bM _,[],0,.nil,aB _ rfl⟩
 have o3:=ag (seqObj "list" #[] 0) (ag (seqObj "tuple" dE.toArray 0) o2);generalize (W.push (seqObj "tuple" dE.toArray 0)).objs.size=kS at *;generalize (W.push (seqObj "tuple" dE.toArray 0)).push (seqObj "list" #[] 0)=W' at *;obtain⟨_,g2,g3,g4,g5,g6⟩:=fpD hD;have I3:η X ((D,seqObj "list" #[] e1)::cL) O (ν H kS (.l [])) {s with heap:=W',toks:=UZ}:=I2.rJ λp hp=>by
  rcases mem_cons.mp hp with rfl|hp
  .exact⟨o3,kD.trans hD,g2,g3,λv z=>by cases z⟩
  .exact I2.pin p (aM _ hp)
 obtain⟨R,r0,step,cmp,fin⟩:=keys dE D kS (seqObj "list" #[] e1) rv hD hkn ZQ;unfold ksk_rest;refine aa (wpAny_rule ?_);rw[forIn_toArray];refine aa (bQ (UY (E:=λ_ _=>False) Ad step (λx s T hx=>?_) dE [] _ _ rfl (bM _) I3 r0 dk) (λ_ s1 ⟨ζ,H1,hl,J,hR,hk⟩=>?_) λ_ _ z=>z.elim)
 .refine aa (wpAny_attempt (bQ hx (λk s' ⟨ks,c,e,hz,ht⟩=>?_) λ_ _ z=>z.elim))
  dsimp only;exact aa (listUpdate_at e rfl (ak ⟨rfl,ht⟩) (hsz:=by omega) (hsz2:=by rw[Array.size_push];omega))
 obtain⟨Di,c,rk,ek⟩:=J.L0 hk;have Zg:Di.length=dE.length:=by rw[<-rk.length];exact hl
 refine aa (listItems_at ek rfl ?_);have tail:∀(st:SortSt),(arrOf st).map (·.2)=toArray ((lC lt dE.length).map λi=>dE.getD i Value.none)->failedOf st=none->wpAny (model X.γ X.w) X.A.in1.in1 (ksk_tail D false e1 (.ref kS) st) (λr s'=>∃v,r=.done (.ret v)/\wpAny (model X.γ X.w) X.A.in1 (ret (.ref D)) (λr s'=>∃v,r=.done (.ret v)/\EP X cL O Q v s') E s') E s1:=λst ea ef=>by
  have pm:=vm (n:=dE.length) fR;have ll:((lC lt dE.length).map λi=>dE.getD i Value.none).length=dE.length:=by rw[ae,pm.length_eq,length_range]
  obtain⟨oD,nD,_⟩:=J.pin (D,seqObj "list" #[] e1) (aM _ (.head _));unfold ksk_tail;dsimp only;rw[ea];refine aa (listUpdate_at ek rfl ?_ (hsz:=by rw[au];omega) (hsz2:=bM _))
  refine aa (wpAny_letGo ?_);have J1:η X cL O (ν H1 kS (.l [])) {s1 with heap:=s1.heap.update kS (Obj.mapSeq λ_=>#[])}:=(J.refill (us':=[]) (tk:=s1.toks) hk ek .nil (by decide) (g:=λ_=>#[]) rfl).rJ λp hp=>(J.refill (us':=[]) (tk:=s1.toks) hk ek .nil (by decide) (g:=λ_=>#[]) rfl).pin p (aM _ (.tail _ hp))
  have eD:(s1.heap.update kS (Obj.mapSeq λ_=>#[])).get? D=some (seqObj "list" #[] e1):=(bA _ _ ZQ).trans oD
  refine aa (seqEpoch_at eD rfl (aa (listUpdate_at eD rfl ?_ (hsz:=bM _) (hsz2:=by rw[if_neg bc,au,ll];omega))))
  rw[ef];simp only[bne_self_eq_false,aJ,bF];refine ak ⟨_,rfl,ak ⟨_,rfl,.ref D,_,J1.adopt (us:=(lC lt dE.length).map λi=>xs.getD i .eZ) (tk:=s1.toks) (fpD (kD.trans nD)) (λb o hb q=>(bA _ _ (Ne.symm hb)).trans q) (L1 rv _ λi hi=>by simpa using pm.mem_iff.mp hi) (by rw[ae]at ll ⊢;omega) (get?_update_seq eD λ_=>_),rfl,hxl▸fin ζ H1 hR hl nD⟩⟩
 by_cases h2:dE.length<2
 .obtain⟨v,ev⟩:=length_eq_one_iff.mp (Nat.le_antisymm (Nat.le_of_lt_succ h2) h1);obtain⟨k,ek1⟩:=length_eq_one_iff.mp (Zg.trans (Nat.le_antisymm (Nat.le_of_lt_succ h2) h1));refine Ts ev ek1 (tail _ ((Tr ev ek1).trans ?_) rfl);unfold lC;rw[if_pos h2,ev];rfl
 .have hz:¬ dE.toArray.size<2:=h2;unfold ksk_end;dsimp only;rw[if_neg bc];rw[if_neg hz,if_neg hz];refine aa (bQ (cmp ζ H1 s1 Di J hR hl rk (by omega)) (λκ s2 ⟨es,hc⟩=>?_) λ_ _ z=>z.elim)
  subst es;refine aa (bQ (kat_run (ks:=Di) (vs:=dE) (κ:=κ) (A:=X.A.in1.in1) (E:=λ_ _=>False) (s:=s2) (Q:=λst s'=>s'=s2/\(arrOf st).map (·.2)=toArray ((lC lt dE.length).map λi=>dE.getD i Value.none)/\failedOf st=none) (G:=λp s'=>s'=s2/\p=So.ju lt (kas_sort dE.length)) Zg (by omega) Ad (λp st s' a1 a2 a3 ⟨a4,a5⟩=>⟨a4,?_,a3⟩) (So.zb (n:=dE.length) (lt:=lt) hc _ (So.Hf (by omega)) ⟨rfl,rfl⟩)) (λr s' ⟨b1,b2,b3⟩=>?_) λ_ _ z=>z.elim)
  .rw[kat_snds Zg a2,a5];unfold lC;rw[if_neg h2]
  .subst b1;exact tail _ b2 b3
end
end L2
namespace ST
open PySem.W DL L2
noncomputable def B5 (ζ:List (Int×Int)):List (Key×V):=ζ.map λkv=>(.inl kv.1,.int kv.2)
noncomputable def iV (ζ:List (Int×Int)):cp:=ζ.map λkv=>[-kv.2,kv.1]
theorem B6 [DecidableEq κ]:∀{ζ:List (κ×V)}{k:κ}{v:V},(ζ.map (·.1)).Nodup->(k,v)∈ζ->vL ζ k=some v
 |[],_,_,_,h=>by cases h
 |p::r,k,v,nd,h=>by
  rw[aG,nodup_cons]at nd;rcases mem_cons.mp h with rfl|h
  .exact ur rfl
  .rw[uu λz=>nd.1 (by rw[z];exact mem_map_of_mem (f:=(·.1)) h)]
   exact B6 nd.2 h
theorem ow {α β:Type}{R:α->β->Prop}:∀{l:List α}{m:List β},Paired R l m->∀(i:Nat) (b:β),m[i]? =some b->∃a,l[i]? =some a/\R a b
 |_,_,.nil,i,b,h=>by simp at h
 |a::l,c::m,.cons r t,0,b,h=>by simp at h;subst h;exact⟨a,rfl,r⟩
 |a::l,c::m,.cons r t,i+1,b,h=>ow t i b (by simpa using h)
theorem wK:∀{vs:cx}{ns:cq},IntsAre vs ns->∀i,i<ns.length->∃t,vs.getD i Value.none=.int (ns.getD i 0) t
 |_,_,.nil,i,h=>by simp at h
 |_,_,.cons n t r,0,h=>⟨t,rfl⟩
 |_,_,.cons n t r,i+1,h=>wK r i (by simpa using h)
theorem HF:∀{vs:List V}{us:cx},us.length=vs.length->(∀(j:Nat) v u,vs[j]? =some v->us[j]? =some u->ι v u)->θ vs us
 |[],[],_,_=>.nil
 |v::vs,u::us,hl,h=>.cons (h 0 v u rfl rfl) (HF (by simpa using hl) λj v u h1 h2=>h (j+1) v u (by simpa using h1) (by simpa using h2))
section
variable {X:Cx}{cL:cn}{O:L2.St}{H:Hp}{s:cz}{f cell a c':cF}{qual:Str}{pa pu pp pS pU N8 pT:Pos}{ζ:List (Int×Int)}{i:Nat}{oc:Obj}{Tt:Array cy}{tC:Tok}{pm xg:cy}{E:cj}
theorem HG (hc:X.calm=true) (hu:X.A.units+64<cLine) (nr:X.A.in1.in1.depth<recursionLimit) (I:η X ((f,kla_obj "<lambda>" qual (so pa) (pM pu pp pS pU N8 pT) qQ [(Str.ofString "uses",cell)] pm c' xg)::cL) O H s) (hH:H a=some (.dK (B5 ζ))) (fz:H c'=some (.zW oc (.o 0))) (od:oc.data=.fields Tt) (ov:Tt[1]? =some (.str qual tC)) (hN:X.N[i]? =some (Str.ofString "uses")) (hk:X.e.kindOf (Str.ofString "uses")=some .cell) (hσ:O[i]? =some (some (.ref a))) (xf:X.e.cells.lookup (Str.ofString "uses")=some cell) (h1:1<=ζ.length) (Ad:ζ.length<64) (q:∀(D:cF) (H':Hp),eA H H'->H D=none->H' D=none->Q (.ref D) (ν H' D (.l ((gP (iV ζ)).map λns=>V.int (ns.getD 1 0))))):X.mO (call (.builtin "sorted") [.ref a] [(Str.ofString "key",.ref f)]) (EP X ((f,kla_obj "<lambda>" qual (so pa) (pM pu pp pS pU N8 pT) qQ [(Str.ofString "uses",cell)] pm c' xg)::cL) O Q) E s:=by
 have acs:(iV ζ).length=ζ.length:=by unfold iV;rw[ae]
 have U0:∀{i:Nat}{kv:Int×Int},ζ[i]? =some kv->(iV ζ)[i]? =some [-kv.2,kv.1]:=λ{i kv} e=>by unfold iV;rw[aw,e];rfl
 refine L3 (xs:=ζ.map λkv=>V.int kv.1) (lt:=λi j=>HT.lexLt ((iV ζ).getD i []) ((iV ζ).getD j [])) (rank:=λi=>rR (iV ζ) ((iV ζ).getD i [])) (λi j=>lT (mP _ _) (mP _ _)) I (λhQ=>?_) (by rw[ae];exact h1) (by rw[ae];exact Ad) λdE D kS o rv hD U1 ZQ=>?_
 .obtain⟨z,lo,vsD,rel,o,es,ep,ho,r⟩:=QA I.fU hH;have π:vsD.length=ζ.length:=by rw[<-rel.length];unfold B5;rw[ae]
  refine FT (knd:=gE X.γ X.w) (I.ok.hd hc) lo ⟨o,es,ho,r⟩ (by rw[π,bx];omega) λh' tk υ pG hl hv hs=>hQ h' tk υ (HF (by rw[hl,π,ae]) λj v u e1 e2=>?_) pG (bh hs)
  obtain⟨k,x,hk,OA⟩:=hv j u e2;obtain⟨p,hp,e3,_⟩:=ow rel j (k,x) hk;unfold B5 at hp;rw[aw]at hp e1;cases XD:ζ[j]? with
  |none=>rw[XD]at hp;cases hp
  |some kv=>
   rw[XD]at hp e1;cases hp;cases e1;cases e3;exact Value.isInt_shape (k:=kv.1) (v:=u) OA
 have Ko:∀{ks:List V}{H':Hp}{s':cz}{Di:cx}{Lc:cn},η X Lc O H' s'->(∀(i:Nat) v,ks[i]? =some v->∃T ns,v=.ref T/\T≠kS/\(iV ζ)[i]? =some ns/\H' T=some (.t (ns.map V.int)))->θ ks Di->∀i,i<ks.length->TI s'.heap (Di.getD i Value.none) ((iV ζ).getD i []):=λ{ks H' s' Di Lc} J hT rk i hi=>by
  obtain⟨T,ns,e1,_,e2,e3⟩:=hT i _ (ah hi);obtain⟨u,e4,r⟩:=rk.get (ah hi);rw[e1]at r;cases r;obtain⟨ts,rt,⟨o,ho,hc,n,hd⟩,_⟩:=J.tuple (lr.of e3);rw[ao,ao,e4,e2];exact⟨T,o,ts,n,rfl,ho,hc,hd,intsAre_of rt⟩
 refine⟨λks H'=>eA H H'/\∀(i:Nat) v,ks[i]? =some v->∃T ns,v=.ref T/\T≠kS/\(iV ζ)[i]? =some ns/\H' T=some (.t (ns.map V.int)),⟨λb u e=>(de (dw e U1)).trans e,λi v e=>by cases e⟩,λks H' s' u Lu J ⟨sm,hT⟩ pG=>?_,λks H' s' Di J ⟨_,hT⟩ hl rk h2=>?_,λks H' ⟨sm,_⟩ hl hD'=>?_⟩
 .obtain⟨v,hv,rvu⟩:=ow rv _ _ Lu;rw[aw]at hv;obtain⟨kv,XD,rfl⟩:=yN hv;obtain⟨t,rfl⟩:=rvu;obtain⟨_,_,vsD,rel,dd⟩:=QA J.fU (sm _ _ hH);obtain⟨o',es,ep,ho,hex,hd,ad4,acv,MZ⟩:=id dd;have e:vL (B5 ζ) (.inl kv.1)=some (.int kv.2):=B6 (by rw[rel.keys];exact MZ) (mem_map.mpr ⟨kv,bj XD,rfl⟩)
  obtain⟨u,hw,tn,eu⟩:=uc.some_of (v:=.int kv.2) (o:=valueAt vsD (.inl kv.1)) (by rw[<-e];exact rel.val _)
  have Eb:s'.heap.IsCell cell (some (.ref a)):=by
   obtain⟨m,hn,hl⟩:=J.loc;obtain⟨u,r,lk⟩:=hl i _ (.ref a) hN hσ (.inr (.inl hk));obtain rfl:u=Value.ref a:=r;rcases lk with⟨pG,_⟩|⟨_,c2,xn,N0⟩
   .rw[hk]at pG;cases pG
   .rw[xf]at xn;cases xn;exact N0
  refine QH (s:=s') (p:=kv.1) nr (J.pin _ (aM _ (.tail _ (.head _)))).1 ⟨c',oc,Tt,tC,rfl,(J.fU c' _ (sm _ _ fz)).1,od,ov⟩ J.nolimit Eb dd (by rw[hw,eu]) λT h' tk tn' hT' ext Hh=>?_
  have nT:=J.fU.fresh Hh;have nTk:=dw pG nT;refine⟨.ref T,ν H' T (.t [.int (-kv.2),.int kv.1]),J.laid (t':=tk) ext Hh ⟨by show(2:Nat)<=_;decide,[.int (-kv.2) tn',.int kv.1 t],.cons ⟨_,rfl⟩ (.cons ⟨_,rfl⟩ .nil),_,hT',rfl,0,rfl⟩,rfl,de nTk,λo=>⟨λb u e=>(de (dw e U1)).trans ((de (dw (sm b u e) nT)).trans (sm b u e)),λi v e=>?_⟩⟩
  rcases Nat.lt_or_ge i ks.length with hi|hi
  .rw[aK hi]at e;obtain⟨T2,ns,e1,e2,e3,e4⟩:=hT i v e;exact⟨T2,ns,e1,e2,e3,(de e2).trans ((de (dw e4 nT)).trans e4)⟩
  .rw[aQ hi]at e;obtain⟨e0,rfl⟩:i-ks.length=0/\v=.ref T:=by
    cases hz:i-ks.length with
    |zero=>rw[hz]at e;cases e;exact⟨rfl,rfl⟩
    |succ n=>rw[hz]at e;cases e
   obtain rfl:i=ks.length:=by omega
   exact⟨T,_,rfl,Ne.symm nTk,U0 XD,(de (Ne.symm nTk)).trans dk⟩
 .refine UT (λv hv=>?_) λκ hκ=>⟨rfl,λi j C hi hj hC=>ZK (Ko J hT rk i (by omega)) (Ko J hT rk j (by omega)) (by show X.A.units+1+1+8<cLine;omega) hκ hC⟩
  obtain⟨j,hj⟩:=bp hv;have:=Ko J hT rk j (by rw[rk.length];exact(List.getElem?_eq_some_iff.mp hj).1)
  rw[ao,hj]at this;exact⟨_,this⟩
 .have hD2:ν H' kS (.l []) D=none:=(de (Ne.symm ZQ)).trans hD';have pm:=vm (n:=ζ.length) (lt:=λi j=>HT.lexLt ((iV ζ).getD i []) ((iV ζ).getD j [])) (rank:=λi=>rR (iV ζ) ((iV ζ).getD i [])) λi j=>lT (mP _ _) (mP _ _)
  have pw:=Tq (n:=ζ.length) (lt:=λi j=>HT.lexLt ((iV ζ).getD i []) ((iV ζ).getD j [])) (rank:=λi=>rR (iV ζ) ((iV ζ).getD i [])) λi j=>lT (mP _ _) (mP _ _)
  have el:(lC (λi j=>HT.lexLt ((iV ζ).getD i []) ((iV ζ).getD j [])) ζ.length).map (λi=>(iV ζ).getD i [])=gP (iV ζ):=by
   refine ik (λa b h1 h2=>HT.iM h2 h1) (((pm.map λi=>(iV ζ).getD i []).trans ?_).trans (fZ _).symm) (pairwise_map.mpr (pw.imp λ{i j} h=>?_)) (xJ _)
   .rw[<-acs,iC]
   .rw[lT (ρ:=iV ζ) (mP _ _) (mP _ _)];exact aI (by omega)
  have:=q D _ (λb u e=>(de (dw e U1)).trans (sm b u e)) hD hD2
  rw[<-el,aW]at this;rw[ae,bT (g:=(λns:cq=>V.int (ns.getD 1 0))∘λi=>(iV ζ).getD i []) λi hi=>?_]
  .exact this
  .have A9:i<ζ.length:=by simpa using pm.mem_iff.mp hi
   show _=V.int (((iV ζ).getD i []).getD 1 0);rw[ao,aw,ah A9,ao (l:=iV ζ),U0 (ah A9)];rfl
end
end ST
namespace DL
open L2
open ST (B5 iV)
noncomputable def nN (ζ:List (Int×Int)):D:=.l (ζ.map λkv=>.t [.int kv.1,.int kv.2])
noncomputable def pairD:D->Option (Int×Int)
 |.t [.int a,.int b]=>some (a,b)
 |_=>none
def tabs:cw->Option (List (Int×Int))
 |[]=>some []
 |d::r=>(pairD d).bind λp=>(tabs r).map λl=>p::l
def Kq:D->Option (List (Int×Int))
 |.l ds=>tabs ds
 |_=>none
theorem HH:∀ζ:List (Int×Int),tabs (ζ.map λkv=>D.t [.int kv.1,.int kv.2])=some ζ
 |[]=>rfl
 |kv::r=>by
  show(pairD (.t [.int kv.1,.int kv.2])).bind _=_;rw[show pairD (.t [.int kv.1,.int kv.2])=some kv from rfl]
  simp only[aq];rw[HH r];rfl
def FV (ζ:List (Int×Int)):Kq (nN ζ)=some ζ:=HH ζ
def HI (h:nN a=nN b):a=b:=by
 have:=congrArg Kq h;rw[FV,FV]at this;exact aT this
def QK {d:D}{p:Int×Int}(h:pairD d=some p):d=.t [.int p.1,.int p.2]:=by
 unfold pairD at h;split at h
 .cases h;rfl
 .cases h
theorem L4:∀{ds:cw}{ζ:List (Int×Int)},tabs ds=some ζ->ds=ζ.map λkv=>D.t [.int kv.1,.int kv.2]
 |[],_,h=>by cases h;rfl
 |d::r,ζ,h=>by
  obtain⟨p,h1,h⟩:=qI h;cases h2:tabs r with
  |none=>rw[h2]at h;cases h
  |some l=>rw[h2]at h;cases h;rw[L4 h2,QK h1];rfl
def L5 (h:Kq k=some ζ):k=nN ζ:=by
 cases k with
 |l ds=>exact congrArg D.l (L4 h)
 |_=>cases h
@[reducible] def gk (a:cF):μ where
 cell:=some a
 face:=some a
 ok:=λC H=>C a=none/\∃ζ,H a=some (.dK ζ)
 has:=λ_ H k=>∀ζ,k=nN ζ->H a=some (.dK (B5 ζ))
 rel:=λC H C' H'=>(C a=none/\∃ζ,H a=some (.dK ζ))->C' a=none/\∀u,H a=some u->H' a=some u
 of0:=λ{C H C' H'} e ⟨hc,ζ,hk⟩=>⟨by
  cases q:C' a with
  |none=>rfl
  |some u=>rcases e.n a u q with z|z<;>simp_all,λu q=>e.h a u q⟩
 trans:=λ{C H C' H' C2 H2} r1 r2 ⟨hc,ζ,hk⟩=>by
  obtain⟨a1,a2⟩:=r1 ⟨hc,ζ,hk⟩;obtain⟨b1,b2⟩:=r2 ⟨a1,ζ,a2 _ hk⟩;exact⟨b1,λu q=>b2 u (a2 u q)⟩
 chg:=λ{C H C' H' b o} r hn ⟨hc,ζ,hk⟩=>by
  obtain⟨a1,a2⟩:=r ⟨hc,ζ,hk⟩;exact⟨a1,λu q=>by rw[de (dw q hn)];exact a2 u q⟩
 give:=λ{C H C' H' b o} r hcb hb hx ⟨hc,ζ,hk⟩=>by
  obtain⟨a1,a2⟩:=r ⟨hc,ζ,hk⟩;have jI:a≠b:=λz=>by
   have:=a2 _ hk;rw[z,hb]at this;cases this;cases hx
  exact⟨by rw[de jI];exact a1,a2⟩
 Xq:=λr ⟨hc,ζ,hk⟩=>⟨(r ⟨hc,ζ,hk⟩).1,ζ,(r ⟨hc,ζ,hk⟩).2 _ hk⟩
 O6:=λr h hh ζ e=>(r h).2 _ (hh ζ e)
 Xr:=λ{C H b o} ⟨hc,ζ,hk⟩ hb=>⟨hc,ζ,by rw[de (λz=>by subst z;have:=hb _ hk;cases this)];exact hk⟩
 M4:=λ{C H b o k} ⟨hc,acx,hk⟩ hb hh ζ e=>by rw[de (λz=>by subst z;have:=hb _ hk;cases this)];exact hh ζ e
 YL:=λ{C H b o} ⟨hc,ζ,hk⟩ hcb hb hx=>⟨by rw[de (λz=>by subst z;rw[hk]at hb;cases hb;cases hx)];exact hc,ζ,hk⟩
 O7:=λ_ _ _ _ hh=>hh
def FW (i:Nat) (fr:cb):cb:=λU=>if noOwn U=true/\i<U.length then(fr (U.set i (.m [nN []]))).bind (DE i)else none
section
variable {es:List cG}{x:Str}
def L6 (e1:pF C H C1 H1) (hn:H a=none) (e2:@Ev (gk a) C1 H1 C2 H2):pF C H C2 H2:=by
 letI:=gk a
 refine⟨e1.c.trans e2.c,λb o q=>?_,e2.s,λb u q=>?_⟩
 .have hb:b≠a:=λz=>by subst z;rw[hn]at q;cases q
  exact e2.h b o (e1.h b o q) (.inl λz=>hb (aT z).symm)
 .rcases e2.n b u q with z|z
  .exact e1.n b u z
  .exact .inr (e1.h.free z)
def FX (g:@Gd μ.keep B C0 H0 U O C H) (hn:H a=none) (g2:@Gd (gk a) B C H δ' σ' C2 H2) (hm:sd (δ'.set i .n)=true):@Gd μ.keep B C0 H0 (δ'.set i .n) σ' C2 H2:=by
 have e1:pF C0 H0 C H:=(@Gd.ev μ.keep _ _ _ _ _ _ _ g).xv;have e2:pF C0 H0 C2 H2:=L6 e1 (e1.h.free hn) (@Gd.ev (gk a) _ _ _ _ _ _ _ g2);have x2:=@Gd.x (gk a) _ _ _ _ _ _ _ g2;have own:∀{k:Nat}{ds:cw},(δ'.set i Sl.n)[k]? =some (.o ds)->δ'[k]? =some (.o ds):=λ{k ds} q=>by
  rcases Ce q with⟨_,z⟩|⟨_,z⟩
  .cases z
  .exact z
 letI:=μ.keep
 refine⟨@Gd.b (gk a) _ _ _ _ _ _ _ g2,e2.up,⟨e2.s,λk d q=>?_,λk ds q=>@Sx.o (gk a) _ _ _ _ x2 k ds (own q),λk l ds es b q1 q2=>@Sx.Dv (gk a) _ _ _ _ x2 k l ds es b (own q1) (own q2),by rw[length_set];exact @Sx.len (gk a) _ _ _ _ x2,λk ks q=>(zi hm q).elim⟩,λk ds b q1 q2=>?_⟩
 .rcases Ce q with⟨_,z⟩|⟨_,z⟩
  .cases z
  .exact @Sx.d (gk a) _ _ _ _ x2 k d z
 .exact e1.h.free (@Gd.fr (gk a) _ _ _ _ _ _ _ g2 k ds b (own q1) q2)
def Kr (i:Nat) (hN:X.N.Nodup) (hr:∀(a:cF) (C1 H1:Hp),H1 a=none->@N4 (gk a) X C1 H1 rest fr) (hi:X.N[i]? =some y:=by rfl) (hx:Loc X.e.scope y:=by first|exact Or.inl rfl|exact Or.inr rfl) (hs:swapsWith (.Dict [] [] pd) (some (.Name y py)) pos.line X.e=pure false:=by rfl) (hf:X.fn y=true\/X.e.scope.names.lookup y=some .local:=by first|exact .inl rfl|exact .inr rfl):@N4 μ.keep X C0 H0 (.Assign [.Name y py] (.Dict [] [] pd) pos::rest) (FW i fr):=λB=>by
 have ex:Df X rest (λDn O H=>∃(a:cF) (C1 H1:Hp),H1 a=none/\@tS (gk a) B C1 H1 fr Dn O H):=λcL s O H Dn I ⟨a,C1,H1,hn,q⟩=>hr a C1 H1 hn B cL s O H Dn I q
 refine(xi (Fc hN hi hx (QF (pos:=pd)) hs hf) ex).imp λDn O H ⟨C,U,r,gd,q,fin⟩=>?_
 obtain⟨hc,q⟩:=nq q;obtain⟨FO,π⟩:=hc;obtain⟨r',N3,q⟩:=qI q;intro t ht;have x0:=@Gd.x μ.keep _ _ _ _ _ _ _ gd;have sub:=@Sx.sub μ.keep _ _ _ _ x0;have hct:C t=none:=sub.free ht;have S0:eA C (ν H t (.dK [])):=sub.trans (fj ht);have e1:pF C0 H0 C H:=(@Gd.ev μ.keep _ _ _ _ _ _ _ gd).xv;have e0:pF C H C (ν H t (.dK [])):=.ig sub ht;have g1:@Gd (gk t) B C H (U.set i (.m [nN []])) (O.set i (some (.ref t))) C (ν H t (.dK [])):=by
  letI:=gk t
  have hl:=@Sx.len μ.keep _ _ _ _ x0;refine⟨@Gd.b μ.keep _ _ _ _ _ _ _ gd,e0.up,⟨S0,λk d z=>?_,λk ds z=>?_,λk l ds es b z=>?_,by simp[hl],λk ks z=>?_⟩,λk ds b z=>?_⟩
  .rcases Ce z with⟨_,z⟩|⟨hk,z⟩
   .cases z
   .obtain⟨v,h1,h2⟩:=@Sx.d μ.keep _ _ _ _ x0 k d z;exact⟨v,by rw[aH (Ne.symm hk)];exact h1,h2⟩
  .rcases Ce z with⟨_,z⟩|⟨hk,z⟩
   .cases z
   .exact(qL FO z).elim
  .rcases Ce z with⟨_,z⟩|⟨hk,z⟩
   .cases z
   .exact(qL FO z).elim
  .rcases Ce z with⟨rfl,z'⟩|⟨hk,z⟩
   .cases z';refine⟨t,rfl,by rw[bf (by rw[<-hl];exact π)],⟨hct,[],dk⟩,λk hk ζ e=>?_⟩
    rw[bw]at hk;subst hk;have:=HI e;subst this;exact dk
   .obtain⟨b,h1,_⟩:=@Sx.mem μ.keep _ _ _ _ x0 k ks z;cases h1
  .rcases Ce z with⟨_,z⟩|⟨hk,z⟩
   .cases z
   .exact(qL FO z).elim
 refine⟨t,C,H,ht,C,_,r',g1,N3,?_⟩;cases r' with
 |next δ'=>
  simp only[DE]at q;obtain⟨hm,q⟩:=nq q;cases q;exact λσ' C2 H2 g2=>fin σ' C2 H2 (FX gd ht g2 hm)
 |ret d=>
  cases q;exact λv C2 H2 ev iv=>fin v C2 H2 (@pF.up μ.keep _ _ _ _ (L6 e1 (e1.h.free ht) ev)) iv
 |brk δ'=>
  simp only[DE]at q;obtain⟨hm,q⟩:=nq q;cases q;exact λσ' C2 H2 g2=>fin σ' C2 H2 (FX gd ht g2 hm)
 |cont δ'=>
  simp only[DE]at q;obtain⟨hm,q⟩:=nq q;cases q;exact λσ' C2 H2 g2=>fin σ' C2 H2 (FX gd ht g2 hm)
def Ks (i:Nat) (hN:X.N.Nodup) (hr:∀(a:cF) (C1 H1:Hp),H1 a=none->@rH (gk a) X C1 H1 rest fr) (hi:X.N[i]? =some y:=by rfl) (hx:Loc X.e.scope y:=by first|exact Or.inl rfl|exact Or.inr rfl) (hs:swapsWith (.Dict [] [] pd) (some (.Name y py)) pos.line X.e=pure false:=by rfl) (hf:X.fn y=true\/X.e.scope.names.lookup y=some .local:=by first|exact .inl rfl|exact .inr rfl):@rH μ.keep X C0 H0 (.Assign [.Name y py] (.Dict [] [] pd) pos::rest) (FW i fr):=
 @rH.mk μ.keep _ _ _ _ _ (Kr i hN (λa C1 H1 hn=>@rH.go (gk a) _ _ _ _ _ (hr a C1 H1 hn)) hi hx hs hf)
end
noncomputable def Kt (ζ:List (Int×Int)) (p:Int):Int:=((ζ.find? λkv=>decide (kv.1=p)).map (·.2)).getD 0
def qR (ζ:List (Int×Int)) (p:Int):List (Int×Int):=
 if(ζ.any λkv=>decide (kv.1=p))=true then ζ.map (λkv=>if kv.1=p then(kv.1,Kt ζ p+1)else kv)else ζ++[(p,Kt ζ p+1)]
def WJ (a b:Int):decide ((Sum.inl a:Key)=Sum.inl b)=decide (a=b):=by
 by_cases h:a=b
 .subst h;simp
 .rw[aI h,aI (λz=>h (Sum.inl.inj z))]
theorem L7 (p:Int):∀ζ:List (Int×Int),vL (B5 ζ) (.inl p)=((ζ.find? λkv=>decide (kv.1=p)).map (·.2)).map V.int
 |[]=>rfl
 |kv::r=>by
  have ih:=L7 p r;unfold B5 at ih ⊢;rw[aG,find?_cons];by_cases h:kv.1=p
  .rw[ur (by show(Sum.inl kv.1:Key)=_;rw[h]),aS h];rfl
  .rw[uu (λz=>h (Sum.inl.inj z)),aI h,ih]
def Tu (ζ:List (Int×Int)) (p:Int):(vL (B5 ζ) (.inl p)).getD (.int 0)=.int (Kt ζ p):=by
 rw[L7];unfold Kt;cases (ζ.find? λkv=>decide (kv.1=p))<;>rfl
def Tv (ζ:List (Int×Int)) (p:Int):putK (B5 ζ) (.inl p) (.int (Kt ζ p+1))=B5 (qR ζ p):=by
 have ha:((B5 ζ).any λkv=>decide (kv.1=(Sum.inl p:Key)))=ζ.any λkv=>decide (kv.1=p):=by
  unfold B5;rw[any_map]
  congr 1
  funext kv
  exact WJ kv.1 p
 unfold putK qR;rw[ha];split
 .unfold B5;rw[aW,aW];refine bT λkv _=>?_
  simp only[Function.comp_apply];by_cases h:kv.1=p
  .rw[if_pos (by rw[h]),if_pos h]
  .rw[if_neg (λz=>h (Sum.inl.inj z)),if_neg h]
 .unfold B5;rw[map_append];rfl
def FY (i:Nat) (f:cc):cb:=λU=>match U[i]?,f U with
 |some (.m [k]),some (.int p)=>(Kq k).bind λζ=>if ζ.length<1000/\sd (U.set i .n)=true then some (.next (U.set i (.m [nN (qR ζ p)])))else none
 |_,_=>none
section
variable {X:Cx}{o1 e:cG}{p pos kp:Pos}{a:cF}{i:Nat}{f:cc}
def NA (hn:H0 a=none) (hu:X.A.units+64<cLine) (Ji:PE X o1 (lu i)) (Zv:@WD (gk a) X k1 f) (Bp:PE X o2 (lu i)) (Zw:@WD (gk a) X k2 f) (m:M2 X o1 "get" apos k1 (.Constant (.int 0) j pz) i7:=by exact⟨rfl,rfl,rfl,rfl⟩)
  (hs:swapsWith (.BinOp (.Call (.Attribute o1 "get" apos) [k1,.Constant (.int 0) j pz] [] i7) .Add (.Constant (.int 1) j2 pz2) pb) (some (.Subscript o2 k2 pos')) pos.line X.e=pure false:=by rfl):
  @WB (gk a) X C0 H0 (.Assign [.Subscript o2 k2 pos'] (.BinOp (.Call (.Attribute o1 "get" apos) [k1,.Constant (.int 0) j pz] [] i7) .Add (.Constant (.int 1) j2 pz2) pb) pos) (FY i f):=by
 letI:=gk a
 have Zv:=Zv.go;have Zw:=Zw.go;exact⟨λB=>by
  letI:=gk a
  refine(Tp (by omega) Bp Zw (Ur Ot (QG (by omega) Ji Zv Bi m) Bi) hs).imp λDn O H ⟨C,U,r,gd,q,fin⟩=>?_
  unfold FY at q;split at q
  case h_2=>cases q
  rename_i k p' hi hf;obtain⟨ζ,hk,q⟩:=qI q;obtain⟨hc,q⟩:=nq q;cases q;have ek:=L5 hk;have at_:∀{C' H':Hp},Gd B C0 H0 U O C' H'->O[i]? =some (some (.ref a))/\C' a=none/\H' a=some (.dK (B5 ζ)):=λ{C' H'} g=>by
   obtain⟨a',z1,z2,z3,z4⟩:=g.x.mem i [k] hi;cases z1;exact⟨z2,z3.1,z4 k (by simp) ζ ek⟩
  have lt:ζ.length<sizeLine:=ay hc.1 (by decide)
  have lt':(B5 ζ).length<sizeLine:=by unfold B5;rw[ae];exact lt
  refine⟨.ref a,(at_ gd).1,a,rfl,.inl ⟨_,.inl (at_ gd).2.2⟩,C,U,.int p',gd.x,hf,λv1 C1 H1 e1 i1=>?_⟩
  have g1:=gd.A7 e1;have v1e:v1=.int p':=by cases i1;rfl
  subst v1e;refine⟨vL (B5 ζ) (.inl p'),QC.k (k:=.inl p') (at_ g1).2.2,?_⟩;refine⟨Kt ζ p',1,Tu ζ p',rfl,?_⟩;refine⟨.ref a,(at_ g1).1,C1,U,.int p',g1.x,hf,λv2 C2 H2 e2 i2=>?_⟩
  have g2:=g1.A7 e2;have v2e:v2=.int p':=by cases i2;rfl
  subst v2e;refine⟨a,ν H2 a (.dK (putK (B5 ζ) (.inl p') (.int (Kt ζ p'+1)))),rfl,QD.k (k:=.inl p') (at_ g2).2.2 lt',?_⟩;rw[Tv];have hC:=(at_ g2).2.1;have hH:=(at_ g2).2.2;have xs:=g2.x;refine fin O C2 _ ⟨g2.b,g2.ev.BC hn hC _,⟨λb u z=>?_,λn d z=>?_,λn ds z=>?_,λn l ds es b z1 z2=>?_,by rw[length_set];exact xs.len,λn ks z=>?_⟩,λn ds b z1 z2=>?_⟩
  .rw[de (λzz=>by rw[zz,hC]at z;cases z)];exact xs.sub b u z
  .rcases Ce z with⟨_,z⟩|⟨_,z⟩
   .cases z
   .exact xs.d n d z
  .rcases Ce z with⟨_,z⟩|⟨_,z⟩
   .cases z
   .obtain⟨b,ys,y1,y2,y3,y4⟩:=xs.o n ds z;exact⟨b,ys,y1,y2,by rw[de (λzz=>by rw[zz,hH]at y3;cases y3)];exact y3,y4⟩
  .rcases Ce z1 with⟨_,z1⟩|⟨_,z1⟩
   .cases z1
   rcases Ce z2 with⟨_,z2⟩|⟨_,z2⟩
   .cases z2
   exact xs.Dv n l ds es b z1 z2
  .rcases Ce z with⟨rfl,z'⟩|⟨jI,z'⟩
   .cases z';refine⟨a,rfl,(at_ g2).1,⟨hC,_,dk⟩,λk' pG acx e'=>?_⟩
    rw[bw]at pG;subst pG;have:=HI e';subst this;exact dk
   .exact(zi hc.2 (i:=n) (ds:=ks) (by rw[aH (Ne.symm jI)];exact z')).elim
  .rcases Ce z1 with⟨_,z1⟩|⟨_,z1⟩
   .cases z1
   .exact g2.fr n ds b z1 z2⟩
def zq (i:Nat):bZ:=λU=>match U[i]? with
 |some (.m [k])=>(Kq k).bind λζ=>if 1<=ζ.length/\ζ.length<64 then some ((gP (iV ζ)).map λns=>.int (ns.getD 1 0))else none
 |_=>none
def HJ (hc:X.calm=true) (hu:X.A.units+64<cLine) (nr:X.A.depth+5<recursionLimit) (hg:Gl X "sorted") (hm:X.mg "sorted"=none) (hN:X.N[i]? =some (Str.ofString "uses")) (hk:X.e.kindOf (Str.ofString "uses")=some .cell) (hT:(x,uv,qual)∈vD) (ht:W.tabIn X.K x=some (c,Pt)) (hq:X.e.qual++Str.ofString "<lambda>"=qual) (uw:X.e.code=.ref c) (Ji:PE X o1 (lu i)) (he:backTo pos (starEach [o1] X.e)=(false,eval o1 X.e)::backTo pos (starEach [] X.e):=by rfl):@WF (gk a) X (.Call (.Name "sorted" p) [o1] [⟨some "key",.Lambda (so pa) (pM pu pp pS pU N8 pT) qQ uv,kp⟩] pos) (zq i):=by
 letI:=gk a
 exact⟨by
  letI:=gk a
  intro cL s O H Q I ⟨C,U,ds,sx,q,k⟩;unfold zq at q;split at q
  case h_2=>cases q
  rename_i k' hi;obtain⟨ζ,ZR,q⟩:=qI q;obtain⟨π,q⟩:=nq q;cases q;obtain⟨a',z1,z2,z3,z4⟩:=sx.mem i [k'] hi;cases z1;have hH:H a=some (.dK (B5 ζ)):=z4 k' (by simp) ζ (L5 ZR)
  obtain⟨cell,xf⟩:=I.ok.has (Str.ofString "uses") (.inl hk);refine wpAny_Call_Name_kw (oi I hg hm jh ?_);refine callWith_kw ?_ he (by rw[he];rfl) rfl rfl
  rw[he];refine Calls.spliced_cons (pH (Ji cL s O H (λy H'=>y=.ref a/\H'=H) I ⟨.ref a,z2,rfl,rfl⟩) λu s1 y H1 I1 r1 ⟨e1,e2⟩=>?_)
  subst e1 e2;obtain rfl:u=Value.ref a:=r1;refine Calls.spliced_nil ?_;refine kws_cons (QJ I1 hT ht hq uw xf λH2 s2 f c' L=>kws_nil ?_)
  have YH:H2 a=some (.dK (B5 ζ)):=by
   rcases L.new with e|⟨u,hn,e⟩
   .rw[e];exact hH
   .rw[e,de (dw hH hn)];exact hH
  obtain⟨_,MJ,pm,xg,rfl⟩:=L.fn;obtain⟨oc,Tt,tC,fz1,fz2,fz3⟩:=L.fz;have U2:pF C H1 C H2:=by
   rcases L.new with e|⟨u,hn,e⟩
   .rw[e];exact .refl sx.sub
   .rw[e];exact .ig sx.sub hn
  refine xc (ST.HG (Q:=λv H'=>∃D H3,v=.ref D/\eA H2 H3/\H2 D=none/\H3 D=none/\H'=ν H3 D (.l ((gP (ST.iV ζ)).map λns=>V.int (ns.getD 1 0)))) hc hu (by show X.A.depth<_;omega) (L.pinned MJ λv z=>by cases z) YH fz1 fz2 fz3 hN hk z2 xf π.1 π.2 λD H' sm h1 h2=>⟨D,H',rfl,sm,h1,h2,rfl⟩) λu s3 ⟨v,H',J,rv,D0,H3,e3,sm,hD,hD3,e4⟩=>?_
  subst e3 e4;have Zd:pF C H1 C H3:=U2.trans ⟨eA.refl _,sm,U2.s.trans sm,λ_ _ e=>.inl e⟩
  have hv:(gP (iV ζ)).map (λns=>V.int (ns.getD 1 0))=((gP (iV ζ)).map λns=>ns.getD 1 0).map V.int:=by rw[aW];rfl
  have hd:(gP (iV ζ)).map (λns=>D.int (ns.getD 1 0))=((gP (iV ζ)).map λns=>ns.getD 1 0).map D.int:=by rw[aW];rfl
  rw[hv]at J;rw[hd]at k;exact⟨_,_,J.rJ λp hp=>J.pin p (aM _ (.tail _ hp)),rv,k D0 _ C _ (Zd.trans (.ig Zd.s hD3)).up (U2.h.free hD) (U2.s.free hD) dk (.ints _)⟩⟩
end
end DL
namespace DL
open L2
def _root_.L2.gc.ten (r:gc k A):A.depth+5<recursionLimit:=by have:=r.dp;omega
def QL {K:W.Frag}{x:Str}{f c P:cF}{fd:cA}{oc:cy}{od:cu}{sl:cv}(a:W.nsIn K mainGlobals x=some (some (.ref f))) (l:K.lookup f=some ⟨oc,od,.func fd,sl⟩) (h:W.tabIn K x=some (c,P)):fd.code=.ref c:=by
 unfold W.tabIn at h;rw[a]at h;simp only[l]at h;split at h
 .rename_i c' hc;split at h
  .split at h
   .cases h;exact hc
   .cases h
  .cases h
 .cases h
def Tw {P:cB}{w:cC}{K:W.Frag}{mg:cm}{Zc:Heap}{x qual:Str}{st:cH}{f:cF}{fd:cA}{N ps:List Str}{k:Nat}(F:Bs K x qual st f fd) (S:dF N ps (cZ st)) {fb:cb}
  (gO:∀(A:cD) (ε:List Env) (s:cz) (H:Hp) (E:XK),gc k (A.deeper (envOfC qual (cZ st) s.dN f fd.code))->∀C0 H0,@rH μ.keep (t6 nY P w K mg Zc N qual (cZ st) f fd.code A ε s H E).GJ C0 H0 (gr st) fb):
  gK P w K mg Zc nY (k+1) f fd ps (M8 (gF N.length ps.length fb)):=by
 have key:∀fC,fd.code=fC->∀(A:cD) (ε:List Env) (s:cz) (H:Hp) (E:XK),gc k (A.deeper (envOfC qual (cZ st) s.dN f fC))->∀C0 H0,@rH μ.keep (t6 nY P w K mg Zc N qual (cZ st) f fC A ε s H E).GJ C0 H0 (gr st) fb:=λfC e=>by
  subst e;exact gO
 obtain⟨oc,od,kV,doc,pm,an,fC,ct,Uu,rfl,lk,vG⟩:=id F.ex;have key:=key fC rfl;letI:μ:=μ.keep
 refine OI lk vG S (λvs H Q E h=>?_) λA ε s H vs Q E hr h=>?_
 all_goals
  obtain⟨C,ds,d,sub,i,q,k⟩:=h;obtain⟨hl,q⟩:=nq q
 .rw[i.length];exact hl
 .exact⟨tS C C H fb,(@rH.go μ.keep _ _ _ _ _ (key A ε s H E hr C H) C).GJ,n8 (Hb S sub i hl) q λv C' H' ev i'=>k v C' H' ev.xv i'⟩
def yb (f:cc):bZ:=λU=>match f U with
 |some (.l ds)=>if ds.length<=18 then(wA ds).map λρ=>(gP ρ.eraseDups).map vc else none
 |_=>none
def HK (h:vc a=vc b):a=b:=by
 have h':a.map D.int=b.map D.int:=by injection h
 have:=congrArg (List.map λd=>match d with|D.int i=>i|_=>0) h'
 simpa [aW,Function.comp_def]using this
theorem oO:∀(n:Nat) (l:cp),l.length<=n->l.eraseDups.Nodup
 |0,l,h=>by
  have:l=[]:=length_eq_zero_iff.mp (by omega)
  subst this;exact nodup_nil
 |n+1,[],_=>nodup_nil
 |n+1,a::l,h=>by
  rw[eraseDups_cons];have hl:=aX (λb=> !b==a) l
  refine nodup_cons.mpr ⟨λhm=>?_,oO n _ (by simp at h;omega)⟩
  have:=mem_filter.mp (mem_eraseDups.mp hm);simp at this
section
variable [μ] {X:Cx}{e:cG}{f:cc}{p p2 pos i7:Pos}
def Ku (hc:X.calm=true) (hu:X.A.units+64<cLine) (hg1:Gl X "sorted") (O5:X.mg "sorted"=none) (hg2:Gl X "set") (GL:X.mg "set"=none) (ha:WO X e f)
  (Wu:starEach [.Call (.Name "set" p2) [e] [] i7] X.e=(false,eval (.Call (.Name "set" p2) [e] [] i7) X.e)::starEach [] X.e:=by exact gu rfl) (Yh:cK e [] X.e:=by exact gu rfl):
  WF X (.Call (.Name "sorted" p) [.Call (.Name "set" p2) [e] [] i7] [] pos) (yb f):=⟨by
 have ha:=ha.go;intro cL s O H Q I ⟨C,U,ds,x,q,k⟩;unfold yb at q;split at q
 case h_2=>cases q
 rename_i es0 hf;obtain⟨h18,q⟩:=nq q;obtain⟨ρ,hn,rfl⟩:=yN q;have ee:=zf hn;subst ee;refine wpAny_Call_Name_kw (oi I hg1 O5 jh ?_);refine PyProof.Rows.callWith_builtin1 ?_ Wu rfl;rw[Wu];show wpAny _ _ (spliced ((false,eval (.Call (.Name "set" p2) [e] [] i7) X.e)::backTo pos (starEach [] X.e))) _ _ s;refine Calls.spliced_cons ?_;refine wpAny_Call_Name_kw (oi I hg2 GL PyProof.Rows.boot_set ?_);refine PyProof.Rows.callWith_type1 (N1 ((kr ha wq Yh) i7 cL s O H (λvs H1=>∃v C1,vs=[v]/\Ev C H C1 H1/\vf C1 H1 v (.l (ρ.map vc))) I ⟨C,U,_,x,hf,λv C1 H1 ev iv=>⟨v,C1,rfl,ev,iv⟩⟩) λus s1 vs H1 I1 r1 ⟨v,C1,e1,ev,iv⟩=>?_) Yh rfl
 subst e1;obtain⟨u,rfl,ru⟩:=r1.one;obtain⟨a,xs,rfl,hq,hl⟩:=iv.list (K:=X.K) ev.s;cases ru;obtain⟨dE,rv,pl,hz⟩:=I1.list hq;have hlx:xs.length=ρ.length:=by rw[hl.length,ae]
 have Qr:dE.length=ρ.length:=by rw[<-rv.length,hlx]
 rw[ae]at h18;have itemAt:∀(i:Nat) (w:cy),dE[i]? =some w->∃(b:cF) (ns:cq),ρ[i]? =some ns/\w=.ref b/\lr X.K H1 b (ns.map V.int)/\Is C1 (.ref b) (vc ns)/\ST.TI s1.heap w ns:=λi w hw=>by
  have hi:i<ρ.length:=by rw[<-Qr];exact(List.getElem?_eq_some_iff.mp hw).1
  have E7:ρ[i]? =some ρ[i]:=ah hi;obtain⟨v,hv,isv⟩:=hl.get (i:=i) (d:=vc ρ[i]) (by rw[aw,E7];rfl)
  obtain⟨w',XE,Sw⟩:=rv.get hv;rw[hw]at XE;cases XE;cases isv with
  |@t b ys _ hb l=>
   have ey:=l.nC;subst ey;cases Sw;have hsq:lr X.K H1 b (ρ[i].map V.int):=lr.of (ev.s _ _ hb);obtain⟨ts,r2,⟨o,ho,tZ,n,hd⟩,_⟩:=I1.tuple hsq;exact⟨b,ρ[i],E7,rfl,hsq,.t hb l,b,o,ts,n,rfl,ho,tZ,hd,intsAre_of r2⟩
 have hh:X.A.handled=none:=I1.ok.hd hc;refine ST.DJ (val:=ρ.map vc) hh (by omega) pl.isList (by rw[au,ae];exact Qr) (λi w hw=>?_) (by rw[au];omega) λh' tk US=>?_
 .obtain⟨b,ns,h1,h2,h3,h4,h5⟩:=itemAt i w (by simpa using hw)
  have eg:(ρ.map vc).getD i .eZ=vc ns:=by rw[ao,aw,h1];rfl
  rw[eg];refine⟨⟨b,h2⟩,?_,h5.ki⟩;unfold vc eN;have:∀l:cq,jj (l.map D.int)=0:=λl=>by
   induction l with
   |nil=>unfold jj;rfl
   |cons a l ih=>rw[aG];unfold jj eN;rw[ih];rfl
  rw[this];decide
 .obtain⟨⟨Lm,uf,DG⟩,keep⟩:=US;have I2:η X cL O H1 {s1 with heap:=h',toks:=tk}:=I1.kept (t':=tk) λb o eo=>keep b o (aD eo) eo
  have Nr:Lm.length<=ρ.length:=by
   have:=bX (l₂:=ρ.map vc) uf.nd λd hd=>(DG d).mp hd
   rwa [ae]at this
  refine Calls.spliced_nil ?_;refine ST.Kn (s:={s1 with heap:=h',toks:=tk}) (R0:=λb ns=>Is C1 (.ref b) (vc ns)) hc hu I2 uf (by omega) (λw hw=>?_) λD0 l hD hR hpw LQ=>?_
  .obtain⟨i,hi⟩:=bp (show w∈dE by simpa using hw)
   obtain⟨b,ns,_,h2,h3,h4,_⟩:=itemAt i w hi;exact⟨b,ns,h2,h3,h4⟩
  .have nd2:(l.map (·.2)).Nodup:=by
    have h1:((l.map (·.2)).map vc).Nodup:=by rw[aW];exact LQ.nodup_iff.mpr uf.nd
    exact(pairwise_map.mp h1).imp λjI z=>jI (by rw[z])
   have pm2:(l.map (·.2)).Perm ρ.eraseDups:=by
    refine(perm_ext_iff_of_nodup nd2 (oO _ ρ (av _))).mpr λns=>?_
    rw[mem_eraseDups];have h1:vc ns∈Lm↔ns∈l.map (·.2):=by
     rw[<-LQ.mem_iff,mem_map,mem_map];constructor
     .rintro⟨p',N6,e'⟩;exact⟨p',N6,HK e'⟩
     .rintro⟨p',N6,rfl⟩;exact⟨p',N6,rfl⟩
    rw[<-h1,DG,mem_map];constructor
    .rintro⟨m',SV,e'⟩;rw[<-HK e'];exact SV
    .intro SV;exact⟨ns,SV,rfl⟩
   have es:l.map (·.2)=gP ρ.eraseDups:=ik (λa b h1 h2=>HT.iM h2 h1) (pm2.trans (fZ _).symm) hpw (xJ _)
   refine k D0 _ C1 _ (ev.trans (.ig ev.s hD)) (ev.free hD) (ev.s.free hD) dk ?_;show τ C1 _ ((gP ρ.eraseDups).map vc);rw[<-es,aW];have aux:∀l:List (cF×cq),(∀p∈l,Is C1 (.ref p.1) (vc p.2))->τ C1 (l.map λp=>V.ref p.1) (l.map (vc∘λp=>p.2)):=λl=>by
    induction l with
    |nil=>intro _;exact .nil
    |cons p l ih=>intro h;exact .cons (h p af) (ih λq hq=>h q (aj _ hq))
   exact aux l hR⟩
end
end DL
namespace L2
open Classical in
noncomputable def yc (h:Heap) (k:cF->Prop):Heap:=⟨h.objs.mapIdx (λi o=>if k i then o else {cls:=.none,data:=.freed}),h.life⟩
def NB (h:Heap) (k:cF->Prop):(yc h k).objs.size=h.objs.size:=by unfold yc;exact Array.size_mapIdx
def yd (ha:k a):(yc h k).get? a=h.get? a:=by
 unfold yc Heap.get?;simp only[Array.getElem?_mapIdx];cases e:h.objs[a]? with
 |none=>rfl
 |some o=>simp only[bC,if_pos ha]
def L8 (ha:¬ k a):(yc h k).get? a=none:=by
 unfold yc Heap.get?;simp only[Array.getElem?_mapIdx];cases e:h.objs[a]? with
 |none=>rfl
 |some o=>simp only[bC,if_neg ha]
def NC (e:(yc h k).get? a=some o):k a/\h.get? a=some o:=by
 by_cases ha:k a
 .exact⟨ha,by rw[<-yd ha];exact e⟩
 .rw[L8 ha]at e;cases e
theorem L9 {h Zc U3:Heap}:∀{l:List Env},h.FunFrames Zc l->(∀b∈Dm l,U3.get? b=none)->h.FunFrames U3 l
 |[],_,_=>trivial
 |env::rest,⟨hk,⟨L,o,hf,hn,ho,hd⟩,hr⟩,hb=>by
  have e:Dm (env::rest)=L::Dm rest:=by unfold Dm;rw[filterMap_cons,hf]
  refine⟨hk,⟨L,o,hf,hb L (by rw[e];exact af),ho,hd⟩,L9 hr λb hm=>hb b (by rw[e];exact aj _ hm)⟩
def Ao (X:Cx) (H:Hp):cF->Prop:=λb=>H b=none/\b∉Dm X.stack
section
variable {X:Cx}{cL:cn}{O:St}{H:Hp}{s:cz}
def Tx (I:η X cL O H s):∀b o,X.Zc.get? b=some o->(yc s.heap (Ao X H)).get? b=some o:=λb o e=>by
 have e0:=I.Sh;have h:=e0.bs b o e;rw[yd ⟨h.2,λz=>by have:=(e0.ud.mem z).1;rw[e]at this;cases this⟩]
 exact h.1
def QM (I:η X cL O H s):AF X.γ X.w X.K X.mg (yc s.heap (Ao X H)) X.A X.stack s H:=by
 have e0:=I.Sh;have k:=Tx I;refine⟨e0.frames,⟨e0.mod.Xg.keeps k,e0.mod.glob.keeps k,let ⟨mb,h1,h2⟩:=e0.mod.blt;⟨mb,h1.keeps k,h2⟩,e0.mod.nolimit.keeps k⟩,λb o e=>?_,by rw[NB];exact av _,L9 e0.ud λb hb=>L8 λz=>z.2 hb,e0.RO,e0.fU,e0.bare,λx c Pt pos qual hm ht=>?_⟩
 .obtain⟨h1,h2⟩:=NC e;exact⟨h2,h1.1⟩
 .obtain⟨h1,h2,h3⟩:=e0.tb x c Pt pos qual hm ht;exact⟨h1,h2.keeps k,let ⟨bm,ob,b1,b2,b3,b4,b5,b6⟩:=h3;⟨bm,ob,b1,b2,b3,b4,k _ _ b5,b6⟩⟩
def QN (F:gK X.γ X.w X.K X.mg (yc s.heap (Ao X H)) CX k f fd ps sp) (hr:gc k A) (e0:AF X.γ X.w X.K X.mg (yc s.heap (Ao X H)) A X.stack s H) (hb:Binds X.K fd ps []) (hx:∀e s',CX X.stack H s E e s'->E' e s') (I:η X cL O H s) (r:θ vs us) (h:sp vs H Q E):wpAny (model X.γ X.w) A (call (.ref f) us) (EP X cL O Q) E' s:=by
 have hl:us.length=ps.length:=by rw[<-r.length];exact F.len _ _ _ _ h
 have YC:=hb s us I.AE (by simpa using hl)
 rw[bD]at YC;refine wpAny_call (codeAny_mono (F.run A X.stack s H ⟨us,[]⟩ us vs Q E hr e0 YC r h) λr s' hq=>?_)
 cases r with
 |error e=>exact hx e s' hq
 |ok fl=>
  cases fl with
  |ret u=>exact I.after hq
  |next=>exact False.elim hq
  |brk=>exact False.elim hq
  |cont=>exact False.elim hq
end
end L2
namespace L2
open PySem.W PySem.Calls
noncomputable def HL (P:cB) (w:cC) (K:W.Frag) (mg:cm) (Zc:Heap) (N:List Str) (qual:Str) (sc:Scope) (f:cF) (cd:cy) (cl:List (Str×cF)) (A:cD) (ε:List Env) (s:cz) (H:Hp):Cx where
 γ:=P
 w:=w
 K:=K
 mg:=mg
 Zc:=Zc
 A:=A.deeper (envX qual sc s.dN f cd cl)
 N:=N
 s₀:=s
 H₀:=H
 e:=envX qual sc s.dN f cd cl
 ε:=ε
 stack:=envX qual sc s.dN f cd cl::ε
 ex:=[]
 calm:=true
 fn:=λ_=>false
 pn:=[]
 xe:=λ_ _=>False
structure ZS (sc:Scope) (cl:List (Str×cF)) (p0:Str):Prop where
 kind:sc.kind=.function
 co:sc.isCoroutine=false
 gen:sc.isGenerator=false
 nc:∀x∈sc.names,x.2≠.cell
 p0:sc.names.lookup p0=some .local
 free:∀x,sc.names.lookup x=some .free->∃c,cl.lookup x=some c
 inj:∀x y c,cl.lookup x=some c->cl.lookup y=some c->x=y
def ND (I:η X cL O H s) (MJ:∀x,X.fn x=true) (e:X.e.cells.lookup x=some c):Ao X H c:=by
 refine⟨I.tG x c e,λz=>?_⟩
 have ho:c∉X.fs:=λz=>by
  obtain⟨_,o,ho,_⟩:=I.ok.ud.mem z;exact absurd (aD ho) (Nat.not_lt.mpr (I.ok.Xh x c (MJ x) e))
 rcases mem_cons.mp (I.yO c z)with z|z
 .exact I.Ul x c e z
 .exact ho z
end L2
namespace DL
open L2
def Tz {names:List (Str×NameKind)}{kd:Str->Option NameKind}(h:(names.all λy=>y.2!=.free||kd y.1==some .cell)=true):∀y∈names,y.2=.free->kd y.1=some .cell:=λy hy e=>by
 have:=all_eq_true.mp h y hy;rw[e]at this
 simpa using this
def ZT {names:List (Str×NameKind)}(h:(names.all λy=>y.2!=.cell)=true):∀y∈names,y.2≠.cell:=λy hy=>by
 have:=all_eq_true.mp h y hy
 simpa using this
end DL
namespace HT
section
variable {γ:cB}{w:cC}{A:cD}{E:cj}{s:cz}{z TI TO i1 i2:cF}{f1 f2:List cF}{n1 n2 i:Nat}{P1 P2:Nat->cy->Prop}{S1 S2:Nat->Heap->Prop}
structure FZ (z TI TO i1 i2:cF) (f1 f2:List cF):Prop where
 nd:[z,TI,TO,i1,i2].Nodup
 z1:z∉f1
 z2:z∉f2
 t1:TO∉f1
 t2:TO∉f2
 a1:i2∉f1
 a2:i1∉f2
def nO {St:Nat->Heap->Prop}(D:Draws γ w A it fp n P St) (st:St i h) (sb:Heap.SameBut c h h') (hc:c∉fp):St i h':=D.frame _ _ _ st λb hb o e=>sb.extBut b o (λq=>hc (q▸hb)) e
def QO (D1:Draws γ w A.in1 i1 f1 n1 P1 S1) (D2:Draws γ w A.in1 i2 f2 n2 P2 S2) (ap:FZ z TI TO i1 i2 f1 f2) (hz:IsZip s.heap z TI TO .none) (hTI:IsPair s.heap TI (.ref i1) (.ref i2)) (hTO:IsPair s.heap TO a b) (h1:S1 i s.heap) (h2:S2 i s.heap) (l1:i<n1) (l2:i<n2) (hQ:∀x y h' tk,P1 i x->P2 i y->IsZip h' z TI TO (rawInt s.dN)->IsPair h' TO x y->S1 (i+1) h'->S2 (i+1) h'->IsPair h' s.dN x y->(∀c o,c∉[z,TO,i1,i2]->s.heap.get? c=some o->h'.get? c=some o)->Q (some (.ref s.dN)) {s with heap:=h',toks:=tk}):jH γ w A (pyNext (.ref z)) Q E s:=by
 obtain⟨nd,z1,z2,t1,t2,a1,a2⟩:=ap;simp only[nodup_cons,mem_cons,bJ,or_false,not_or]at nd;obtain⟨⟨zTI,XF,zi1,zi2⟩,⟨TITO,TIi1,TIi2⟩,⟨TOi1,TOi2⟩,i12,_⟩:=nd;have hT:s.TypeIs (.ref z) "zip":=⟨_,hz,rfl⟩;unfold pyNext;refine aa (wpAny_attempt (wpAny_callSpecial?_slot (name:=Str.ofString "__next__") hT F.slot_zip_next (bN F.slot_zip_next hT F.entry_zip_next ?_ (F.args_zip_next_1 _))));show wpAny _ A.in1 (field (.ref z) 2>>=_) _ _ _;refine aa (wpAny_field hz rfl (x:=.bool false) rfl ?_);show wpAny _ A.in1 (field (.ref z) 3>>=_) _ _ _;refine aa (wpAny_field hz rfl (x:=.ref TI) rfl (aa (wpAny_seqItems hTI rfl ?_)));show wpAny _ A.in1 (Builtin.SmallTypes.ownedTupleIsFree (.ref z)>>=_) _ _ _;unfold Builtin.SmallTypes.ownedTupleIsFree;refine aa (aa (wpAny_field hz rfl (x:=.none) rfl (ak ?_)));simp only[if_true];refine aa (wpAny_rule (aa (wpAny_field hz rfl (x:=.ref TO) rfl (aa (wpAny_setField_rec hz (by simp) λg1 N7 s1=>?_)))))
 replace N7:IsZip g1 z TI TO .ellipsis:=N7
 refine aa ?_;simp only[zipIdx_cons,zipIdx_nil,forIn_cons,forIn_nil];refine aa (aa (wpAny_onRaise ?_));show wpAny _ A.in1 (Builtin.SmallTypes.nextOf (.ref i1)>>=_) _ _ _;refine aa (D1.item i _ _ _ l1 (nO D1 h1 s1 z1) λx g2 k2 px st1 s2=>ak ?_)
 have o2:IsPair g2 TO a b:=s2.extBut _ _ TOi1 (s1.extBut _ _ (Ne.symm XF) hTO);refine aa (wpAny_seqItems o2 rfl (aa (wpAny_updateSeq_pair o2 λg3 o3 s3=>aa (wpAny_letGo (ak ?_)))))
 replace o3:IsPair g3 TO x b:=o3
 refine aa (aa (wpAny_onRaise ?_));show wpAny _ A.in1 (Builtin.SmallTypes.nextOf (.ref i2)>>=_) _ _ _;refine aa (D2.item i _ _ _ l2 (nO D2 (nO D2 (nO D2 h2 s1 z2) s2 a2) s3 t2) λy g4 k4 py RQ s4=>ak ?_)
 have o4:IsPair g4 TO x b:=s4.extBut _ _ TOi2 o3;refine aa (wpAny_seqItems o4 rfl (aa (wpAny_updateSeq_pair o4 λg5 o5 s5=>aa (wpAny_letGo (ak (ak ?_))))))
 replace o5:IsPair g5 TO x y:=o5
 refine aa (wpAny_seqItems o5 rfl (aa (wpAny_newTuple ?_)));have sz:g5.objs.size=s.dN:=by rw[s5.1,s4.1,s3.1,s2.1,s1.1]
 have z5:IsZip g5 z TI TO .ellipsis:=s5.extBut _ _ XF (s4.extBut _ _ zi2 (s3.extBut _ _ XF (s2.extBut _ _ zi1 N7)));have zlt:=aD z5;show wpAny _ A.in1 (Builtin.SmallTypes.ownedTupleHandOut (.ref z) (.ref g5.objs.size)>>=_) _ _ _;unfold Builtin.SmallTypes.ownedTupleHandOut;refine aa (aa (wpAny_setField_rec (show IsZip (g5.push {cls:=.type "tuple",data:=.seq #[x,y]}) z TI TO .ellipsis from ag _ z5) (by simp) λg7 z7 s7=>?_))
 replace z7:IsZip g7 z TI TO (rawInt g5.objs.size):=z7
 refine wpAny_setField_rec z7 (by simp) λg8 z8 s8=>?_
 replace z8:IsZip g8 z TI TO (rawInt g5.objs.size):=z8
 have up:∀c o,c≠z->g5.get? c=some o->g8.get? c=some o:=λc o c1 e=>s8.extBut _ _ c1 (s7.extBut _ _ c1 (ag _ e))
 have p8:IsPair g8 g5.objs.size x y:=s8.extBut _ _ (bz zlt) (s7.extBut _ _ (bz zlt) (aB _ rfl));have f8:∀{it:cF}{fp:List cF}{n:Nat}{P:Nat->cy->Prop}{St:Nat->Heap->Prop}(D:Draws γ w A.in1 it fp n P St),z∉fp->St (i+1) g5->St (i+1) g8:=λD hf st=>D.frame _ _ _ st λc hc o e=>up c o (λq=>hf (q▸hc)) e
 refine ak ⟨_,rfl,ak ?_⟩;show Q (some (.ref g5.objs.size)) _;rw[sz]at z8 p8 ⊢;refine hQ x y g8 k4 px py z8 (up _ _ (Ne.symm XF) o5) (f8 D1 z1 (nO D1 (nO D1 (nO D1 st1 s3 t1) s4 a1) s5 t1)) (f8 D2 z2 (nO D2 RQ s5 t2)) p8 λc o hc e=>?_
 simp only[mem_cons,bJ,or_false,not_or]at hc;obtain⟨c1,c2,c3,c4⟩:=hc;exact up c o c1 (s5.extBut _ _ c2 (s4.extBut _ _ c4 (s3.extBut _ _ c2 (s2.extBut _ _ c3 (s1.extBut _ _ c1 e)))))
def TB (D1:Draws γ w A.in1 i1 f1 n1 P1 S1) (ap:FZ z TI TO i1 i2 f1 f2) (hz:IsZip s.heap z TI TO .none) (hTI:IsPair s.heap TI (.ref i1) (.ref i2)) (hTO:IsPair s.heap TO a b) (h1:S1 n1 s.heap) (hQ:∀h',(∀c o,c∉[z,TI,TO,i1,i2]->s.heap.get? c=some o->h'.get? c=some o)->Q none {s with heap:=h'}):jH γ w A (pyNext (.ref z)) Q E s:=by
 obtain⟨nd,z1,z2,t1,t2,a1,a2⟩:=ap;simp only[nodup_cons,mem_cons,bJ,or_false,not_or]at nd;have hT:s.TypeIs (.ref z) "zip":=⟨_,hz,rfl⟩;unfold pyNext;refine aa (wpAny_attempt (wpAny_callSpecial?_slot (name:=Str.ofString "__next__") hT F.slot_zip_next (bN F.slot_zip_next hT F.entry_zip_next ?_ (F.args_zip_next_1 _))));show wpAny _ A.in1 (field (.ref z) 2>>=_) _ _ _;refine aa (wpAny_field hz rfl (x:=.bool false) rfl ?_);show wpAny _ A.in1 (field (.ref z) 3>>=_) _ _ _;refine aa (wpAny_field hz rfl (x:=.ref TI) rfl (aa (wpAny_seqItems hTI rfl ?_)));show wpAny _ A.in1 (Builtin.SmallTypes.ownedTupleIsFree (.ref z)>>=_) _ _ _;unfold Builtin.SmallTypes.ownedTupleIsFree;refine aa (aa (wpAny_field hz rfl (x:=.none) rfl (ak ?_)));simp only[if_true];refine aa (wpAny_rule (aa (wpAny_field hz rfl (x:=.ref TO) rfl (aa (wpAny_setField_rec hz (by simp) λg1 N7 s1=>?_)))))
 replace N7:IsZip g1 z TI TO .ellipsis:=N7
 refine aa ?_;simp only[zipIdx_cons,zipIdx_nil,forIn_cons,forIn_nil];refine aa (aa (wpAny_onRaise ?_));show wpAny _ A.in1 (Builtin.SmallTypes.nextOf (.ref i1)>>=_) _ _ _;refine aa (D1.done _ _ _ (nO D1 h1 s1 z1) λg2 e s2 he=>?_)
 obtain⟨oe,hoe,hce⟩:=he;have hz2:IsZip g2 z TI TO .ellipsis:=s2 _ _ nd.1.2.2.1 N7;have ez:e≠z:=λq=>by subst q;rw[hz2]at hoe;cases hoe;simp at hce
 refine wpAny_setField_rec hz2 (by simp) λg3 _ s3=>?_
 refine aa (wpAny_isInstance (T:="StopIteration") (b:=true) ⟨oe,s3.extBut _ _ ez hoe,hce⟩ isSubtype_stop (ak (hQ _ λc o hc q=>?_)))
 simp only[mem_cons,bJ,or_false,not_or]at hc;exact s3.extBut _ _ hc.1 (s2 _ _ hc.2.2.2.1 (s1.extBut _ _ hc.1 q))
end
def TC (k:Bool) (h:Heap) (l:cF) (xs:Array cy):Prop:=if k then h.IsList l xs else h.IsTuple l xs
def WK (k:Bool) (h:Heap) (it l:cF) (i:Nat):Prop:=if k then h.IsListIter it l i else h.IsTupleIter it l i
def ED (k:Bool) (hh:A.handled=none) (it l:cF) (jI:l≠it) (items:Array cy):Draws γ w A it [it,l] items.size (λi v=>items[i]? =some v) (λi h=>WK k h it l i/\TC k h l items):=by
 cases k
 .exact Ai hh it l jI items
 .exact Draws.list hh it l jI items
noncomputable abbrev acG (h:Heap) (c:String) (l1 l2:cF):Heap:=((((h.push {cls:=.type c,data:=.fields #[.ref l1,.int 0 0]}).push {cls:=.type "tuple_iterator",data:=.fields #[.ref l2,.int 0 0]}).push {cls:=.type "tuple",data:=.seq #[.ref h.objs.size,.ref (h.objs.size+1)]}).push {cls:=.type "tuple",data:=.seq #[.none,.none]}).push {cls:=.type "zip",data:=.fields #[.none,.bool false,.bool false,.ref (h.objs.size+2),.ref (h.objs.size+3)]}
def NF (k:Bool) (l1 l2:cF) (xs ys:Array cy):
  Meets (Builtin.«zip.__new__» ⟨[.type "zip",.ref l1,.ref l2],[]⟩) (λ_ R s=>TC k s.heap l1 xs/\s.heap.IsTuple l2 ys/\
   R (.ok (.ret (.ref (s.dN+4)))) {s with heap:=acG s.heap (if k then "list_iterator" else "tuple_iterator") l1 l2}):=
 .of_wp λγ w A R s h=>by
  obtain⟨hp,g,d,tk,os⟩:=s;obtain⟨Ti,G1,h⟩:=h;have Nr:=sub_zip;have ZI:∀o,Heap.IsTuple (Shared.heap ⟨hp.push o,g,d,tk,os⟩) l2 ys:=λo=>let ⟨ol,e,r⟩:=G1;⟨ol,ag _ e,r⟩
  cases k
  .have ZH:Heap.IsTuple (Shared.heap ⟨hp,g,d,tk,os⟩) l1 xs:=Ti
   wp_walk using wpAny_pyIter_tuple ZH,wpAny_pyIter_tuple (ZI _)
   exact⟨_,rfl,by simp only[Heap.size_push];exact h⟩
  .have ZH:Heap.IsList (Shared.heap ⟨hp,g,d,tk,os⟩) l1 xs:=Ti
   wp_walk using wpAny_pyIter_list ZH,wpAny_pyIter_tuple (ZI _)
   exact⟨_,rfl,by simp only[Heap.size_push];exact h⟩
section
variable {γ:cB}{w:cC}{A:cD}{E:cj}{s:cz}
def QP {k:Bool}{l1 l2:cF}{Q:cj}(Ti:TC k s.heap l1 xs) (G1:s.heap.IsTuple l2 ys) (h:∀h',IsZip h' (s.dN+4) (s.dN+2) (s.dN+3) .none->IsPair h' (s.dN+2) (.ref s.dN) (.ref (s.dN+1))->IsPair h' (s.dN+3) .none .none->
   WK k h' s.dN l1 0->h'.IsTupleIter (s.dN+1) l2 0->(∀c o,s.heap.get? c=some o->h'.get? c=some o)->Q (.ref (s.dN+4)) {s with heap:=h'}):jH γ w A (call (.type "zip") [.ref l1,.ref l2]) Q E s:=by
 refine callType_new F.called_zip (by decide) (F.typeCall_zip_2 _ _) (F.newCall_zip_2 _ _) (λobj=>F.args_object_init_3 obj _ _) F.entry_zip_new (NF k l1 l2 xs ys) ⟨Ti,G1,?_⟩
 have up:∀{g:Heap}{o' o:Obj}{b n:cF},g.objs.size=n->g.get? b=some o->(g.push o').get? b=some o:=λ_ e=>ag _ e
 have at_:∀{g:Heap}{o:Obj}{n:cF},g.objs.size=n->o.isFreed=false->(g.push o).get? n=some o:=λ{g o n} e f=>by subst e;exact aB _ f
 have sz:∀{g:Heap}{o:Obj}{n:cF},g.objs.size=n->(g.push o).objs.size=n+1:=λ{g o n} e=>by rw[Heap.size_push,e]
 have e0:s.dN=s.dN:=rfl;have g5:=at_ (o:={cls:=.type "zip",data:=.fields #[.none,.bool false,.bool false,.ref (s.dN+2),.ref (s.dN+3)]}) (sz (o:={cls:=.type "tuple",data:=.seq #[.none,.none]}) (sz (o:={cls:=.type "tuple",data:=.seq #[.ref s.dN,.ref (s.dN+1)]}) (sz (o:={cls:=.type "tuple_iterator",data:=.fields #[.ref l2,.int 0 0]}) (sz (o:={cls:=.type (if k then "list_iterator" else "tuple_iterator"),data:=.fields #[.ref l1,.int 0 0]}) e0)))) rfl
 refine⟨⟨_,g5,rfl⟩,h _ g5 (ag _ (ag _ (at_ (sz (sz e0)) rfl))) (ag _ (at_ (sz (sz (sz e0))) rfl)) ?_ ⟨_,ag _ (ag _ (ag _ (at_ (sz e0) rfl))),rfl,rfl⟩ λc o q=>ag _ (ag _ (ag _ (ag _ (ag _ q))))⟩
 have g1:=ag {cls:=.type "zip",data:=.fields #[.none,.bool false,.bool false,.ref (s.dN+2),.ref (s.dN+3)]} (ag {cls:=.type "tuple",data:=.seq #[.none,.none]} (ag {cls:=.type "tuple",data:=.seq #[.ref s.dN,.ref (s.dN+1)]} (ag {cls:=.type "tuple_iterator",data:=.fields #[.ref l2,.int 0 0]} (at_ (o:={cls:=.type (if k then "list_iterator" else "tuple_iterator"),data:=.fields #[.ref l1,.int 0 0]}) e0 rfl))))
 cases k<;>exact⟨_,g1,rfl,rfl⟩
end
end HT
namespace L2
open HT
def boot_zip:bootBuiltins "zip"=some (.type "zip"):=by decide +kernel
def U4 (k:Bool) (K:W.Frag) (H:Hp) (a:cF) (xs:List V):Prop:=if k then ua K H a xs else lr K H a xs
section
variable {X:Cx}{cL:cn}{O:St}{H:Hp}{s:cz}{a:cF}{xs ys:List V}{k:Bool}
def η.sqk (I:η X cL O H s) (h:U4 k X.K H a xs):∃dE:cx,θ xs dE/\TC k s.heap a dE.toArray:=by
 cases k
 .obtain⟨dE,rv,p,_⟩:=I.tuple h;exact⟨dE,rv,p⟩
 .obtain⟨dE,rv,⟨o,n,e,h1,_,h2⟩,_⟩:=I.list h;exact⟨dE,rv,o,e,h1,n,h2⟩
def η.TF (I:η X cL O H s) (h:U4 k X.K H a xs) (h':U4 k X.K H a ys):xs=ys:=by
 cases k
 .exact I.yP h h'
 .exact I.GU h h'
end
def Itz (K:W.Frag) (k:Bool) (a b:cF):It:=
 ⟨λi H=>∃xs ys x y,U4 k K H a xs/\lr K H b ys/\xs[i]? =some x/\ys[i]? =some y,λi H x H'=>∃p u v,H p=none/\x=.ref p/\H'=ν H p (.t [u,v])/\(∀xs,U4 k K H a xs->xs[i]? =some u)/\∀ys,lr K H b ys->ys[i]? =some v,λi H=>∃xs,U4 k K H a xs/\xs.length=i⟩
def QQ {P:cB}{w:cC}{K:W.Frag}{es:List cG}{kt:Nat}{t5:Pos}(k:Bool) (a b z TI TO i1 i2:cF) (ai:a≠i1) (bi:b≠i2) (ap:FZ z TI TO i1 i2 [i1,a] [i2,b]):
  Turn P w K (.Tuple es kt t5) (Itz K k a b) [z,TI,TO,i1,i2] z (λi h=>IsZip h z TI TO .none/\IsPair h TI (.ref i1) (.ref i2)/\(∃x y,IsPair h TO x y)/\WK k h i1 a i/\h.IsTupleIter i2 b i)where
 mem:=by simp
 obj:=λi h ⟨h1,h2,⟨_,_,h3⟩,h4,h5⟩ c hc=>by
  have nc:∀{o:Obj}{v:Option cy},(∃xs n,o.data=.seq xs n)\/(∃xs,o.data=.fields xs)->o.data≠.cell v:=λq z=>by rcases q with⟨_,_,q⟩|⟨_,q⟩<;>(rw[q]at z;cases z)
  simp only[mem_cons,bJ,or_false]at hc;rcases hc with rfl|rfl|rfl|rfl|rfl
  .exact⟨_,h1,λv=>nc (.inr ⟨_,rfl⟩)⟩
  .exact⟨_,h2,λv=>nc (.inl ⟨_,_,rfl⟩)⟩
  .exact⟨_,h3,λv=>nc (.inl ⟨_,_,rfl⟩)⟩
  .cases k<;>(obtain⟨o,q,_,d⟩:=h4;exact⟨o,q,λv=>nc (.inr ⟨_,d⟩)⟩)
  .obtain⟨o,q,_,d⟩:=h5;exact⟨o,q,λv=>nc (.inr ⟨_,d⟩)⟩
 keep:=λi h h' ⟨h1,h2,⟨x,y,h3⟩,h4,h5⟩ kp=>⟨kp _ (by simp) _ h1,kp _ (by simp) _ h2,⟨x,y,kp _ (by simp) _ h3⟩,by cases k<;>(obtain⟨o,q,r⟩:=h4;exact⟨o,kp _ (by simp) _ q,r⟩),let ⟨o,q,r⟩:=h5;⟨o,kp _ (by simp) _ q,r⟩⟩
 item:=by
  intro X hP hw hK hc i cL s O H E I hf ⟨h1,h2,⟨x0,y0,h3⟩,h4,h5⟩ ⟨xs,ys,x,y,q1,q2,e1,e2⟩;subst hP hw hK;obtain⟨us,r1,p1⟩:=I.sqk q1;obtain⟨vs,r2,p2,_⟩:=I.tuple q2;obtain⟨u,hu,ru⟩:=r1.get e1;obtain⟨v,hv,rv⟩:=r2.get e2;have hd:X.A.in1.handled=none:=I.ok.hd hc;have lt:∀{l:cx}{v:cy},l[i]? =some v->i<l.toArray.size:=λq=>by simpa using (List.getElem?_eq_some_iff.mp q).1
  refine QO (ED k hd i1 a ai us.toArray) (Ai hd i2 b bi vs.toArray) ap h1 h2 h3 ⟨h4,p1⟩ ⟨h5,p2⟩ (lt hu) (lt hv) λx' y' g tk px py g1 g2 g3 g4 g5 kp=>?_
  have ex:x'=u:=by have z:us.toArray[i]? =some x':=px;simp only[getElem?_toArray]at z;rw[hu]at z;exact(aT z).symm
  have ey:y'=v:=by have z:vs.toArray[i]? =some y':=py;simp only[getElem?_toArray]at z;rw[hv]at z;exact(aT z).symm
  subst ex ey;refine⟨_,rfl,wpAny_letOwnedTupleGo_zip g1 λg' g6 sb=>?_⟩
  obtain⟨nd,n1,n2,n3,n4,n5,n6⟩:=id ap;simp only[nodup_cons,mem_cons,bJ,or_false,not_or]at nd n1 n2;obtain⟨⟨zTI,XF,zi1,zi2⟩,⟨TITO,TIi1,TIi2⟩,_⟩:=nd;have fr:H s.dN=none:=I.fU.fresh (av _);have I1:η X cL O (ν H s.dN (.t [x,y])) {s with heap:=s.heap.push {cls:=.type "tuple",data:=.seq #[x',y']}}:=
   I.laid (t':=s.toks) (λb o q=>ag _ q) (av _) ⟨by show 2<=sizeLine;decide,[x',y'],.cons ru (.cons rv .nil),⟨_,aB _ rfl,rfl,_,rfl⟩⟩
  have ff:∀c∈[z,TI,TO,i1,i2],yQ X cL (ν H s.dN (.t [x,y])) c:=λc hb=>by
   obtain⟨o,ho⟩:∃o,s.heap.get? c=some o:=by
    simp only[mem_cons,bJ,or_false]at hb;rcases hb with rfl|rfl|rfl|rfl|rfl
    .exact⟨_,h1⟩
    .exact⟨_,h2⟩
    .exact⟨_,h3⟩
    .cases k<;>exact⟨_,h4.choose_spec.1⟩
    .exact⟨_,h5.choose_spec.1⟩
   exact⟨by rw[de (aF (aD ho))];exact(hf c hb).1,(hf c hb).2⟩
  have I2:η X cL O (ν H s.dN (.t [x,y])) {s with heap:=g',toks:=tk}:=by
   refine η.LL (s:={s with heap:=s.heap.push {cls:=.type "tuple",data:=.seq #[x',y']}}) (h':=g') (ch:=[z,TI,TO,i1,i2]) (t':=tk) I1 (λc o hb q=>?_) ff
   have hz:c≠z:=λq=>hb (by simp[q])
   refine(sb.2 c hz).trans ?_;rcases Heap.get?_push_cases q with⟨e3,e4⟩|q
   .subst e3 e4;exact g5
   .exact kp c o (λq=>hb (by simp only[mem_cons,bJ,or_false]at q ⊢;rcases q with q|q|q|q<;>simp[q])) q
  exact⟨.ref s.dN,_,I2,rfl,⟨_,x,y,fr,rfl,rfl,λzs hz=>by rw[I.TF hz q1];exact e1,λzs hz=>by rw[I.yP hz q2];exact e2⟩,⟨g6,sb.extBut _ _ (Ne.symm zTI) (kp _ _ (by simp[Ne.symm zTI,TITO,TIi1,TIi2]) h2),⟨_,_,sb.extBut _ _ (Ne.symm XF) g2⟩,by
   have:=g3.1;cases k<;>(obtain⟨o,q,r⟩:=this;exact⟨o,sb.extBut _ _ (Ne.symm zi1) q,r⟩),let ⟨o,q,r⟩:=g4.1;⟨o,sb.extBut _ _ (Ne.symm zi2) q,r⟩⟩,λc hb=>(ff c hb).1⟩
 done:=by
  intro X hP hw hK hc i cL s O H E I hf ⟨h1,h2,⟨x0,y0,h3⟩,h4,h5⟩ ⟨xs,q1,hx⟩;subst hP hw hK;obtain⟨us,r1,p1⟩:=I.sqk q1;have hn:us.toArray.size=i:=by rw[au,<-r1.length];exact hx
  subst hn;have hd:X.A.in1.handled=none:=I.ok.hd hc;exact TB (ED k hd i1 a ai us.toArray) ap h1 h2 h3 ⟨h4,p1⟩ λg kp=>⟨rfl,η.LL (ch:=[z,TI,TO,i1,i2]) (t':=s.toks) I kp hf⟩
 self:=λ_ _ _ _ _ st h=>wpAny_pyIter_zip st.1 h
def WL {n c d:Nat}(h1:c<n) (h2:d<n):FZ (n+4) (n+2) (n+3) n (n+1) [n,c] [n+1,d]:=by
 have e:∀{a b:Nat},a<b->¬ (b:cF)=a/\¬ (a:cF)=b:=λh=>⟨bz h,aF h⟩
 constructor<;>simp only[nodup_cons,mem_cons,bJ,or_false,not_or,not_false_eq_true,nodup_nil,and_true]<;>(repeat' apply And.intro)<;>first|exact(e (by omega)).1|exact(e (by omega)).2
section
variable {X:Cx}
def acJ (K:W.Frag) (ta:TA):TI:=λO H R=>ta O H λvs H1=>∃k a b,vs=[.ref a,.ref b]/\(∃xs,U4 k K H1 a xs)/\(∃ys,lr K H1 b ys)/\R (Itz K k a b) H1
def WM (hg:Gl X "zip") (hm:X.mg "zip"=none) (ha:PA X [a,b] ta) (hs:starEach [a,b] X.e=(false,eval a X.e)::starEach [b] X.e) (hp:A4 pos [b] X.e):PI X (.Tuple es kt t5) (.Call (.Name "zip" p) [a,b] [] pos) (acJ X.K ta):=by
 intro cL s O H R I h;refine Call_ (oi I hg hm boot_zip (PyProof.Rows.callWith_type1 (N1 (ha pos cL s O H _ I h) λus s1 vs H1 I1 r1 q1=>?_) hs hp))
 obtain⟨k,c,d,e,⟨xs,hx⟩,⟨ys,hy⟩,q⟩:=q1;subst e;obtain⟨u1,u2,rfl,ru,rv⟩:=r1.two;cases ru;cases rv;obtain⟨dE,_,p1⟩:=I1.sqk hx;obtain⟨jts,_,p2,_⟩:=I1.tuple hy;have lc:c<s1.dN:=by cases k<;>exact aD p1.choose_spec.1
 have ld:d<s1.dN:=aD p2.choose_spec.1;refine QP p1 p2 λh' e1 e2 e3 e4 e5 hk=>wpAny_pyIter_zip e1 ?_
 have fo:∀m,yQ X cL H1 (s1.dN+m):=λm=>I1.Jm (Nat.le_add_right _ _) (I1.fU.fresh (Nat.le_add_right _ _))
 refine⟨_,_,_,_,H1,rfl,I1.kept (t':=s1.toks) hk,QQ k c d _ _ _ _ _ (aF lc) (aF (Nat.lt_succ_of_lt ld)) (WL lc ld),⟨e1,e2,⟨_,_,e3⟩,e4,e5⟩,λm hm=>?_,q⟩
 simp only[mem_cons,bJ,or_false]at hm;rcases hm with rfl|rfl|rfl|rfl|rfl
 .exact fo 4
 .exact fo 2
 .exact fo 3
 .exact fo 0
 .exact fo 1
end
end L2
namespace DL
open L2
noncomputable def qk:cw->cw->cw
 |d::ds,e::es=>.t [d,e]::qk ds es
 |_,_=>[]
theorem HM:∀{ds es:cw}{i:Nat}{d:D},(qk ds es)[i]? =some d->∃x y,ds[i]? =some x/\es[i]? =some y/\d=.t [x,y]
 |[],_,i,d,h=>by simp[qk]at h
 |_::_,[],i,d,h=>by simp[qk]at h
 |x::ds,y::es,0,d,h=>by simp[qk]at h;exact⟨x,y,rfl,rfl,h.symm⟩
 |x::ds,y::es,i+1,d,h=>by
  obtain⟨a,b,h1,h2,h3⟩:=HM (ds:=ds) (es:=es) (i:=i) (by simpa [qk]using h)
  exact⟨a,b,by simpa using h1,by simpa using h2,h3⟩
theorem Ap:∀{ds es:cw},ds.length=es.length->(qk ds es).length=ds.length
 |[],_,_=>rfl
 |_::_,[],h=>by cases h
 |_::ds,_::es,h=>by show(qk ds es).length+1=ds.length+1;rw[Ap (by simpa using h)]
def iZ (f g:cc):bZ:=λU=>match f U,g U with
 |some (.t ds),some (.t es)=>if ds.length=es.length then some (qk ds es)else none
 |some (.l ds),some (.t es)=>if ds.length=es.length then some (qk ds es)else none
 |_,_=>none
def HN {K:W.Frag}(h1:∀C' H',eA C C'->eA C' H'->U4 k K H' a xs) (l1:τ C xs ds) (h2:C b=some (.t ys)) (l2:τ C ys es) (hl:ds.length=es.length):WkN (Itz K k a b) (qk ds es) C:=λi C' H' sc sh=>by
 have q1:=h1 C' H' sc sh;have q2:lr K H' b ys:=lr.of (sh _ _ (sc _ _ h2));refine⟨λd hd=>?_,λhi=>⟨xs,q1,by rw[l1.length,<-Ap hl];exact hi⟩⟩
 obtain⟨x,y,e1,e2,rfl⟩:=HM hd;obtain⟨u,hu,iu⟩:=l1.get e1;obtain⟨v,hv,iv⟩:=l2.get e2;refine⟨⟨xs,ys,u,v,q1,q2,hu,hv⟩,λx' H3 ⟨p,u',v',hp,z1,z2,z3,z4⟩=>?_⟩
 have:=z3 xs q1;rw[hu]at this;cases this;have:=z4 ys q2;rw[hv]at this;cases this;subst z1 z2;exact⟨ν C' p (.t [u,v]),.new sh hp,.t dk (.cons ((iu.mono sc).mono (fj (sh.free hp))) (.one ((iv.mono sc).mono (fj (sh.free hp)))))⟩
section
variable [μ] {X:Cx}
def TH (hg:Gl X "zip") (hm:X.mg "zip"=none) (ha:PD X a f) (hb:PD X b g) (h1:starEach [a,b] X.e=(false,eval a X.e)::starEach [b] X.e) (h2:cK b [] X.e) (hp:A4 pos [b] X.e):PIn X (.Tuple es kt t5) (.Call (.Name "zip" p) [a,b] [] pos) (iZ f g):=
 (WM hg hm (qJ ha (qJ hb xA h2) h1) h1 hp).imp λO H R ⟨C,U,ds,x,q,k⟩=>by
  unfold iZ at q;split at q
  case h_3=>cases q
  all_goals
   rename_i Dh es2 hf hg';obtain⟨hl,q⟩:=nq q;cases q;refine⟨C,U,[_,.t es2],x,by unfold cM cS;rw[hf,hg'];rfl,λvs C' H' ev i=>?_⟩
   obtain _|⟨i1,_|⟨_|_|_|_|⟨r2,m2⟩|_,_|_⟩⟩:=i
   obtain _|_|_|_|⟨r1,m1⟩|⟨r1,m1⟩:=i1
   first
    |exact⟨false,_,_,rfl,⟨_,lr.of (ev.s _ _ r1)⟩,⟨_,lr.of (ev.s _ _ r2)⟩,k _ C' H' ev (HN (λC2 H2 a b=>lr.of (b _ _ (a _ _ r1))) m1 r2 m2 hl)⟩
    |exact⟨true,_,_,rfl,⟨_,.inl (r1.same ev.s)⟩,⟨_,lr.of (ev.s _ _ r2)⟩,k _ C' H' ev (HN (λC2 H2 a b=>.inl ((r1.same a).same b)) m1 r2 m2 hl)⟩
def Ma (is:List Nat) (hp:PassesOwn (model X.γ X.w) X.A X.e X.xe) (hc:X.calm=true) (hg:Gl X "zip") (hm:X.mg "zip"=none) (ha:WD X e g) (hb:WD X e2 g2) (hgs:Vs X es (Hj is)) (Zb:rH X C0 H0 body f) (h1:starEach [e,e2] X.e=(false,eval e X.e)::starEach [e2] X.e:=by exact gu rfl) (h2:cK e2 [] X.e:=by exact gu rfl) (oj:A4 i7 [e2] X.e:=by exact hW rfl) (hn:(assignEach es X.e).length=is.length:=by rfl) (uf:(assignEach es X.e).findIdx? (·.1)=none:=by rfl) (hs:∀x,foldedSetIterable (.Call (.Name "zip" p) [e,e2] [] i7) X.e x=pure x:=by intro _;rfl):WB X C0 H0 (.For (.Tuple es kt t5) (.Call (.Name "zip" p) [e,e2] [] i7) body [] pos) (LG is (iZ g g2) f):=⟨Qd is hp hc (TH hg hm ha.go hb.go h1 h2 oj) hgs Zb.go hn uf hs⟩
end
end DL
namespace L2
open PySem.W PySem.Calls
def TJ {P:cB}{w:cC}{K:W.Frag}{Zc:Heap}{k:Nat}{f c':cF}{name qual p0:Str}{ar:Arguments}{bd:List cH}{sc:Scope}{cl:List (Str×cF)}{doc pm xg:cy}{N:List Str}{vars:List (Option V)}{sp:Sp}(hf:Zc.get? f=some (fnMade name qual ar bd sc cl doc pm c' xg)) (vG:∀vs H Q E (s:cz),sp vs H Q E->vE P w H s.heap->s.heap.CodeRec (.ref c') qual) (S:ZS sc cl p0) (hN:N.length=vars.length+1) (hN0:N[0]? =some p0) (hc:∀x c,cl.lookup x=some c->∃v,Zc.IsCell c v) (hv:∀(i:Nat) (x:Str) (v:V),N[i+1]? =some x->vars[i]? =some (some v)->∃c u,sc.names.lookup x=some .free/\cl.lookup x=some c/\ι v u/\Zc.IsCell c (some u)) (len:∀vs H Q E,sp vs H Q E->vs.length=1) (gO:∀(A:cD) (ε:List Env) (s:cz) (H:Hp) (v:V) (Q:VK) (E:XK),gc k (A.deeper (envX qual sc s.dN f (.ref c') cl))->sp [v] H Q E->
   ∃t,Df (HL P w K mg Zc N qual sc f (.ref c') cl A ε s H) bd t/\t {nx:=λ_ H'=>Q .eZ H',rt:=Q} (some v::vars) H):gK P w K mg Zc nY (k+1) f (fnX name qual ar bd sc cl .none .none doc pm none (.ref c') xg) [p0] sp:=by
 refine⟨len,λA ε s H args us vs Q E hr e0 hb r Lg=>?_⟩
 obtain⟨v,rfl⟩:=length_eq_one_iff.mp (len _ _ _ _ Lg);obtain⟨u,rfl,rv⟩:=vals1 r;have kb:∀b o,Zc.get? b=some o->s.heap.get? b=some o:=λb o e=>(e0.bs b o e).1
 refine codeAny_call_def (body:=bd) (binds:=[(p0,u)]) hr.depth (kb _ _ hf) rfl (e0.mod.nolimit.keeps kb) (vG _ _ _ _ s Lg e0.fU) rfl hb S.nc (by intro x hx;simp at hx;subst hx;exact S.p0) (λh₁ OU WI=>?_) S.co S.gen S.kind
 obtain⟨t,ht,hq⟩:=gO A ε s H v Q E (hr.deeper _) Lg;have kc:∀{c:cF}{u:Option cy},Zc.IsCell c u->h₁.IsCell c u:=λ{c u} z=>(z.keeps kb).keeps WI
 have I:η (HL P w K mg Zc N qual sc f (.ref c') cl A ε s H) [] (some v::vars) H {s with heap:=h₁,toks:=s.toks+([(p0,u)]:List (Str×cy)).length}:=by
  refine⟨⟨e0.mod,S.kind,rfl,rfl,av _,S.inj,λy hy=>?_,λy c h=>(by cases h),λ_=>hr.hd,Around.frames_deeper e0.frames,.inr ⟨rfl,rfl⟩,λb z=>(by cases z),e0.bs,e0.NZ,λb _ _ z=>(by cases z),λb z=>(by cases z),e0.ud,e0.RO,e0.tb⟩,
   rfl,e0.bare,Un.kept WI,⟨_,OU,λi y z h1 h2 h3=>?_⟩,λy c h=>let ⟨v',z⟩:=hc y c h;⟨v',kc z⟩,e0.fU.fresh (av _),λy c h=>?_,λp hp=>(by cases hp),e0.fU.kept WI,?_⟩
  .rcases hy with hy|hy
   .exact absurd rfl (S.nc _ (PySem.mem_of_lookup hy))
   .exact S.free y hy
  .cases i with
   |zero=>
    have e1:N[0]? =some y:=h1;rw[hN0]at e1;cases e1;cases h2;exact⟨u,rv,.inl ⟨S.p0,by simp⟩⟩
   |succ i=>
    obtain⟨c,u',a1,a2,a3,a4⟩:=hv i y z h1 h2;exact⟨u',a3,.inr ⟨.inr a1,c,a2,kc a4⟩⟩
  .obtain⟨v,o,ho,_⟩:=hc y c h;exact(e0.bs c o ho).2
  .show(some v::vars).length=N.length;rw[hN,az]
 refine bQ (ht [] _ _ H _ I hq) (λfl s' hs=>?_) λe s' hs=>hs.elim
 cases fl with
 |ret u'=>
  obtain⟨v',σ',H',J,rv',q⟩:=hs;exact⟨v',H',J.os,J.bare,J.Zc,J.fU,rv',q⟩
 |next=>
  obtain⟨σ',H',J,q⟩:=hs;exact⟨.eZ,H',J.os,J.bare,J.Zc,J.fU,rfl,q⟩
 |brk=>exact hs.choose_spec.choose_spec.2.elim
 |cont=>exact hs.choose_spec.choose_spec.2.elim
end L2
namespace DL
open L2
noncomputable def vW (g:D->Option D):cw->Option (cq)
 |[]=>some []
 |d::ds=>match g d with
  |some (.int i)=>(vW g ds).map λl=>i::l
  |_=>none
theorem EE:∀{ds:cw}{ks:cq},vW g ds=some ks->ks.length=ds.length/\∀(i:Nat) (d:D),ds[i]? =some d->∃k,ks[i]? =some k/\g d=some (.int k)
 |[],ks,h=>by cases h;exact⟨rfl,λi d e=>by simp at e⟩
 |x::ds,ks,h=>by
  unfold vW at h;split at h
  case h_2=>cases h
  rename_i k hk;obtain⟨l,hr,rfl⟩:=yN h;obtain⟨h1,h2⟩:=EE hr;refine⟨congrArg (·+1) h1,λi d e=>?_⟩
  cases i with
  |zero=>simp at e;subst e;exact⟨k,rfl,hk⟩
  |succ i=>simpa using h2 i d (by simpa using e)
noncomputable def ltK (ks:cq) (i j:Nat):Bool:=decide (ks.getD i 0<ks.getD j 0)
def EF (ks:cq) (ds:cw):cw:=(lC (ltK ks) ds.length).map λi=>ds.getD i .eZ
noncomputable def d0 (d m y h:D):fW:=[.d d,.n,.d m,.d y,.d h,.m []]
def B7 (fb:cb) (m y h d:D):Option D:=match fb (d0 d m y h)with|some (.ret d)=>some d|some (.next _)=>some .eZ|_=>none
def EG (fe:cc) (fb fr:cb):cb:=λU=>match U[(0:Nat)]?,U[(1:Nat)]?,U[(2:Nat)]?,U[(3:Nat)]?,U[(4:Nat)]?,fe U with
 |some (.m _),some (.d m),some (.d y),some (.d h),some .n,some (.t ds)=>if 1<=ds.length/\ds.length<64/\5<U.length then(vW (B7 fb m y h) ds).bind λks=>fr (U.set 5 (.o (EF ks ds)))else none
 |_,_,_,_,_,_=>none
theorem QR (h:τ C xs ds):∀ix:List Nat,(∀i∈ix,i<ds.length)->τ C (ix.map λi=>xs.getD i .eZ) (ix.map λi=>ds.getD i .eZ)
 |[],_=>.nil
 |i::ix,hb=>by
  have hi:=hb i (.head _);obtain⟨v,e,r⟩:=h.get (ah hi);refine .cons ?_ (QR h ix λj hj=>hb j (.tail _ hj))
  show Is C (xs.getD i .eZ) (ds.getD i .eZ);rw[ao,ao,ah hi,e];exact r
section
variable [μ] {B C0 H0 C H:Hp}{U:fW}{O:L2.St}
def ZU (g:Gd B C0 H0 U O C H) {x:Option V}(hi:U[i]? =some .n):Gd B C0 H0 U (O.set i x) C H:=by
 have ne:∀{j:Nat}{s:Sl},U[j]? =some s->s≠.n->(O.set i x)[j]? =O[j]? :=λ{j s} e n=>aH λz=>by subst z;rw[hi]at e;cases e;exact n rfl
 refine⟨g.b,g.ev,⟨g.x.sub,λj d e=>?_,λj ds e=>?_,λj k ds es a e1 e2=>?_,by rw[length_set];exact g.x.len,λj ks e=>?_⟩,λj ds a e=>?_⟩
 .rw[ne e (by simp)];exact g.x.d j d e
 .rw[ne e (by simp)];exact g.x.o j ds e
 .rw[ne e1 (by simp),ne e2 (by simp)];exact g.x.Dv j k ds es a e1 e2
 .rw[ne e (by simp)];exact g.x.mem j ks e
 .rw[ne e (by simp)];exact g.fr j ds a e
end
def spN (Y:OC) (A:mG) (G:D) (c:cF) (oc:Obj) (mv yv hv:V) (m y h:D) (fb:cb):Sp:=λvs H Q _=>∃C v d e,eA C H/\vs=[v]/\Is C v d/\(∃xs,g9 Y A G C H xs)/\H c=some (.zW oc (.o 0))/\Is C mv m/\Is C yv y/\Is C hv h/\B7 fb m y h d=some e/\∀v C' H',@Ev (dq Y A G) C H C' H'->Is C' v e->Q v H'
noncomputable abbrev NN:List Str:=["claim","held","mine","yours","hand","search"]
structure Kv (X:Cx) (sc:Scope):Prop where
 N:X.N=(["search","mine","yours","hand","left_behind","ranked","place"]:List Str)
 kS:X.e.kindOf ("search":Str)=some .cell
 kM:X.e.kindOf ("mine":Str)=some .cell
 kY:X.e.kindOf ("yours":Str)=some .cell
 kH:X.e.kindOf ("hand":Str)=some .cell
 kL:X.e.scope.names.lookup ("left_behind":Str)=some .local
 kR:X.e.scope.names.lookup ("ranked":Str)=some .local
 kind:sc.kind=.function
 co:sc.isCoroutine=false
 gen:sc.isGenerator=false
 nc:∀x∈sc.names,x.2≠.cell
 p0:sc.names.lookup ("claim":Str)=some .local
 fS:sc.names.lookup ("search":Str)=some .free
 fM:sc.names.lookup ("mine":Str)=some .free
 fY:sc.names.lookup ("yours":Str)=some .free
 fH:sc.names.lookup ("hand":Str)=some .free
 fr:∀y∈sc.names,y.2=.free->X.e.kindOf y.1=some .cell
section
variable {X:Cx}{Y:OC}{A:mG}{G:D}{C0 H0:Hp}{e:cG}{p pl pk pn p1 pos QS:Pos}{rest:List cH}{ar:Arguments}{bd:List cH}{sc:Scope}{c Pt:cF}{kc:Nat}{fe:cc}{fb fr:cb}
def TK {O:L2.St}{H:Hp}{s:cz}{f c':cF}{doc pm xg:cy}{cl:List (Str×cF)}{oc:Obj}{Tt:Array cy}{tC:Tok}{qual:Str}{mv yv hv:V}{m y h:D}(S:Kv X sc) (MJ:∀x,X.fn x=true) (I:η X cL O H s) (hp:s.heap.get? f=some (W.fnMade "left_behind" qual ar bd sc cl doc pm c' xg)) (h0:H f=none) (hfs:f∉Dm X.stack) (Ek:∀x c,cl.lookup x=some c->X.e.cells.lookup x=some c) (O1:∀x,(x,NameKind.free)∈sc.names->∃c,cl.lookup x=some c) (od:oc.data=.fields Tt) (ov:Tt[1]? =some (.str qual tC)) (sS:O[0]? =some (some (.ref A.o))) (sM:O[1]? =some (some mv)) (sY:O[2]? =some (some yv)) (sH:O[3]? =some (some hv)) (gO:∀(Zc:Heap) (f:cF) (cd:cy) (cl:List (Str×cF)) (Ar:cD) (ε:List Env) (s:cz) (H:Hp),gc kc (Ar.deeper (W.envX qual sc s.dN f cd cl))->∀C0 H0,@rH (dq Y A G) (HL X.γ X.w X.K X.mg Zc NN qual sc f cd cl Ar ε s H) C0 H0 bd fb):gK X.γ X.w X.K X.mg (yc s.heap (Ao X H)) nY (kc+1) f (W.fnX "left_behind" qual ar bd sc cl .none .none doc pm none (.ref c') xg) ["claim"] (spN Y A G c' oc mv yv hv m y h fb):=by
 have big:∀{y:Str}{c:cF}{v:Option cy},X.e.cells.lookup y=some c->s.heap.IsCell c v->(yc s.heap (Ao X H)).IsCell c v:=λ{y c v} e ⟨o,ho,hd⟩=>⟨o,by rw[yd (ND I MJ e)];exact ho,hd⟩
 obtain⟨mm,hn,hl⟩:=I.loc;have cellOf:∀{i:Nat}{y:Str}{v:V},X.N[i]? =some y->O[i]? =some (some v)->X.e.kindOf y=some .cell->sc.names.lookup y=some .free->∃c u,sc.names.lookup y=some .free/\cl.lookup y=some c/\ι v u/\(yc s.heap (Ao X H)).IsCell c (some u):=λ{i y v} e1 e2 e3 e4=>by
  obtain⟨u,r,lk⟩:=hl i y v e1 e2 (.inr (.inl e3));rcases lk with⟨pG,_⟩|⟨_,c2,xn,N0⟩
  .rw[e3]at pG;cases pG
  .obtain⟨c3,hc3⟩:=O1 y (mem_lookup e4);have:=Ek y c3 hc3;rw[xn]at this;cases this;exact⟨c2,u,e4,hc3,r,big xn N0⟩
 refine TJ (N:=NN) (vars:=[none,some mv,some yv,some hv,some (.ref A.o)]) (by rw[yd ⟨h0,hfs⟩];exact hp) (λvs H Q E s ⟨C,v,d,e,_,_,_,_,hz,_⟩ fU=>⟨c',oc,Tt,tC,rfl,(fU c' _ hz).1,od,ov⟩) ⟨S.kind,S.co,S.gen,S.nc,S.p0,λy hy=>O1 y (mem_lookup hy),λy z c e1 e2=>I.ok.inj y z c (Ek y c e1) (Ek z c e2)⟩ rfl rfl (λy c e=>let ⟨v,hcv⟩:=I.cell y c (Ek y c e);⟨v,big (Ek y c e) hcv⟩) (λi x v e1 e2=>?_) (λvs H Q E ⟨C,v,d,e,_,hv,_⟩=>by rw[hv];rfl) λAr ε s H v Q E hr ⟨C,v',d,e,sub,ev,iv,ok,_,im,iy,ih,q,fin⟩=>?_
 .have hN:=S.N
  match i,e1,e2 with
  |0,e1,e2=>cases e2
  |1,e1,e2=>cases e1;cases e2;exact cellOf (by rw[hN];rfl) sM S.kM S.fM
  |2,e1,e2=>cases e1;cases e2;exact cellOf (by rw[hN];rfl) sY S.kY S.fY
  |3,e1,e2=>cases e1;cases e2;exact cellOf (by rw[hN];rfl) sH S.kH S.fH
  |4,e1,e2=>cases e1;cases e2;exact cellOf (by rw[hN];rfl) sS S.kS S.fS
  |i+5,e1,e2=>cases e2
 .cases ev;letI:=dq Y A G
  refine⟨tS C C H fb,(gO _ f (.ref c') cl Ar ε s H hr C H).go C,n8 (Pj (U:=d0 d m y h) ⟨sub,λn d2 e=>?_,λn es e=>?_,λn n2 es fs a e=>?_,rfl,λn Xv e=>?_⟩ λn es e=>?_) q fin⟩
  .match n,e with
   |0,e=>cases e;exact⟨v,rfl,iv⟩
   |2,e=>cases e;exact⟨mv,rfl,im⟩
   |3,e=>cases e;exact⟨yv,rfl,iy⟩
   |4,e=>cases e;exact⟨hv,rfl,ih⟩
   |1,e=>cases e
   |5,e=>cases e
   |n+6,e=>cases e
  all_goals
   match n,e with
   |0,e=>cases e
   |1,e=>cases e
   |2,e=>cases e
   |3,e=>cases e
   |4,e=>cases e
   |5,e=>cases e<;>exact⟨A.o,rfl,rfl,ok,λk' pG=>by cases pG⟩
   |n+6,e=>cases e
def QT {qual xd:Str}(MJ:∀x,X.fn x=true) (MZ:X.N.Nodup) (S:Kv X sc) (hr:gc (kc+3) X.A) (hg:Gl X "sorted") (hm:X.mg "sorted"=none) (hT:(xd,QS,qual)∈vD) (ht:W.tabIn X.K xd=some (c,Pt)) (hq:qualnameIn X.e "left_behind" "left_behind"=qual) (uw:X.e.code=.ref c)
  (gO:∀(Zc:Heap) (f:cF) (cd:cy) (cl:List (Str×cF)) (Ar:cD) (ε:List Env) (s:cz) (H:Hp),gc kc (Ar.deeper (W.envX qual sc s.dN f cd cl))->∀C0 H0,@rH (dq Y A G) (HL X.γ X.w X.K X.mg Zc NN qual sc f cd cl Ar ε s H) C0 H0 bd fb)
  (G3:∀cl doc pm fC xg,Binds X.K (W.fnX "left_behind" qual ar bd sc cl .none .none doc pm none fC xg) ["claim"] [])
  (h1:@PD (dq Y A G) X e fe) (GY:@N4 (dq Y A G) X C0 H0 rest fr) (hd0:ar.defaults=[]) (hk0:ar.kw_defaults=[]) (ha:annTrees ar none X.e=[])
  (he:backTo pos (starEach [e] X.e)=(false,eval e X.e)::backTo pos (starEach [] X.e)) (hs:swapsWith (.Call (.Name "sorted" p) [e] [⟨some "key",.Name "left_behind" pl,pk⟩] pos) (some (.Name "ranked" pn)) p1.line X.e=pure false):
  @N4 (dq Y A G) X C0 H0 (.FunctionDef "left_behind" ar bd [] none [] sc none "left_behind" QS::.Assign [.Name "ranked" pn] (.Call (.Name "sorted" p) [e] [⟨some "key",.Name "left_behind" pl,pk⟩] pos) p1::rest) (EG fe fb fr):=by
 letI:=dq Y A G
 intro B cL s O H Dn I ⟨C,U,r,gd,q,fin⟩;unfold EG at q;split at q
 case h_2=>cases q
 rename_i ks0 m y h ds i0 i1 i2 i3 i4 SO;obtain⟨π,q⟩:=nq q;obtain⟨l1,l64,l5⟩:=π;cases hk:vW (B7 fb m y h) ds with
 |none=>rw[hk]at q;cases q
 |some ks=>
 rw[hk]at q;simp only[aq]at q;obtain⟨kl,kg⟩:=EE hk;obtain⟨cl,xf,Ek,O1⟩:=Bv (scope:=sc) (env:=X.e) λy hy e=>I.ok.has y.1 (.inl (S.fr y hy e))
 have hN:=S.N;refine wpAny_execs_cons (W.nestDef_K hd0 hk0 ha ?_);rw[hq];refine HE (Fo:=λc' o=>∃doc pm xg,o=W.fnMade "left_behind" qual ar bd sc cl doc pm c' xg) I hT ht (λhG hC e tr hn hP hB k=>W.makeFunction_K xf I.ok.glob hG uw hC e tr hn hP hB λc' xg doc h' tk=>k c' _ h' tk ⟨doc,_,xg,rfl⟩ rfl) (λhG hC e tr hf hB k=>W.makeFunction_hit xf I.ok.glob hG uw hC e tr hf hB λxg doc h' tk=>k _ h' tk ⟨doc,_,xg,rfl⟩ rfl) λH2 s2 f c' L=>?_
 obtain⟨_,XG,doc,pm,xg,rfl⟩:=L.fn;obtain⟨oc,Tt,tC,fz1,fz2,fz3⟩:=L.fz;have ev2:Ev C H C H2:=by
  rcases L.new with e|⟨u,hn,e⟩
  .rw[e];exact .refl gd.x.sub
  .rw[e];exact .ig gd.x.sub hn
 have J2:=L.pinned XG λv z=>by cases z
 refine xh J2 (i:=4) (v:=.ref f) MZ (by rw[hN];rfl) (.inl S.kL) rfl (λs3 I3=>?_) (.inr S.kL)
 show wpAny _ _ (execs (_::rest) X.e) _ _ s3;have g3:Gd B C0 H0 U (O.set 4 (some (.ref f))) C H2:=ZU (gd.A7 ev2) i4;have hf4:(O.set 4 (some (V.ref f)))[4]? =some (some (.ref f)):=bf (by rw[<-gd.x.len];omega)
 refine wpAny_execs_cons (wpAny_Assign_Name ?_ hs);refine wpAny_Call_Name_kw (oi I3 hg hm jh ?_);refine callWith_kw ?_ he (by rw[he];rfl) rfl rfl
 rw[he];generalize O.set 4 (some (V.ref f))=σ' at *;refine Calls.spliced_cons (pH (h1 _ s3 _ H2 (λv H'=>∃C',Ev C H2 C' H'/\Is C' v (.t ds)) I3 ⟨C,U,_,g3.x,SO,λv C' H' ev i=>⟨C',ev,i⟩⟩) λu s4 v4 H4 I4 r4 ⟨C4,ev4,is4⟩=>?_)
 refine Calls.spliced_nil ?_;refine kws_cons (pH ((E8 (X:=X) (i:=4) (x:="left_behind") (pos:=pl) (by rw[hN];rfl) (.inl S.kL)) _ s4 _ H4 (λv H'=>v=.ref f/\H'=H4) I4 ⟨.ref f,hf4,rfl,rfl⟩) λu5 s5 v5 H5 I5 r5 ⟨e5,e6⟩=>kws_nil ?_)
 subst e5 e6;cases r5;have g4:=g3.A7 ev4;obtain _|_|_|_|⟨hpa,il⟩|_:=is4
 rename_i pa xs _;cases r4;obtain⟨dE,rv,pl',_⟩:=I5.tuple (lr.of (g4.x.sub _ _ hpa));have hxl:xs.length=ds.length:=il.length;have hil:=rv.length;obtain⟨_,z1,sS,ok4,_⟩:=g4.x.mem 0 ks0 i0;cases z1;obtain⟨mv,sM,im⟩:=g4.x.d 1 m i1;obtain⟨yv,sY,iy⟩:=g4.x.d 2 y i2;obtain⟨hv,sH,ih⟩:=g4.x.d 3 h i3;have ca:∀{C' H':Hp},(∃xs,g9 Y A G C' H' xs)->H' c'=some (.zW oc (.o 0))->(dq Y A G).cell≠some c':=λ{C' H'} ⟨_,o⟩ hz z=>by
  have:=o.m.h;rw[aT z,hz]at this;cases this
 obtain⟨_,z1,_,ok3,_⟩:=g3.x.mem 0 ks0 i0;have fz4:=ev4.h c' _ fz1 (.inl (ca ok3 fz1));refine pH (L3 (Q:=λv H'=>∃a ys C',v=.ref a/\Ev C4 H5 C' H'/\H5 a=none/\C' a=none/\H' a=some (.l ys)/\τ C' ys (EF ks ds)) (lt:=ltK ks) (rank:=λi=>ks.getD i 0) (λi j=>rfl) I5 (λhQ=>Ag pl' (hQ _ _ dE rv (λb o q=>(bA _ _ (bz (aD q))).trans (ag _ q)) (by rw[Heap.size_update,Heap.size_push];exact Nat.le_succ _)) (by rw[bx];omega)) (by omega) (by omega) λdE Da kS oD rv hD U1 _=>?_) λu6 s6 v6 H6 I6 r6 ⟨a,ys,C6,e7,ev6,n1,n2,n3,n4⟩=>?_
 .have hil:=rv.length;refine⟨λζ H'=>ζ=(ks.take ζ.length).map V.int/\∃C',Ev C4 H5 C' H'/\C' kS=none,⟨rfl,C4,.ig g4.x.sub U1,g4.x.sub.free U1⟩,λζ H' s' u hu J ⟨ZR,C',NG,nk⟩ TL=>?_,λζ H' s' Di J ⟨ZR,_⟩ hl rk h2=>?_,λζ H' ⟨_,C',NG,nk⟩ hl hD'=>⟨Da,_,C',rfl,(NG.BC U1 nk _).BC hD (NG.s.free hD') _,hD,NG.s.free hD',dk,?_⟩⟩
  .obtain⟨hp,h0,_,nf,_⟩:=J.pin (f,W.fnMade "left_behind" qual ar bd sc cl doc pm c' xg) (aM _ (.tail _ (.head _)));obtain⟨fR,_⟩:=List.getElem?_eq_some_iff.mp hu;have hd:ds[ζ.length]? =some ds[ζ.length]:=ah (by omega)
   obtain⟨v,hxv,isv⟩:=il.get hd;obtain⟨u',Lu,ru⟩:=rv.get hxv;rw[hu]at Lu;cases Lu;obtain⟨k,hkk,hgk⟩:=kg _ _ hd;have fzH:=NG.h c' _ fz4 (.inl (ca ok4 fz4));have F:=TK (kc:=kc) (m:=m) (y:=y) (h:=h) S MJ J hp h0 (λz=>by rcases mem_cons.mp (J.yO f z)with z|z;exact L.fl z;exact nf z) (λx c e=>(Ek x c e).1) O1 fz2 fz3 sS sM sY sH gO
   refine QN (E:=E0) F hr.in1.in1 (QM J).in1.in1 (G3 _ _ _ _ _) (λ_ _ z=>z.elim) J (.cons ru .nil) ⟨C',v,_,.int k,NG.s,rfl,isv.mono NG.c,μ.Xq NG.r ok4,fzH,im.mono NG.c,iy.mono NG.c,ih.mono NG.c,hgk,λw C2 H2' TM iw=>?_⟩
   cases iw;refine⟨(TM.hh TL).trans TL.symm,λo=>⟨?_,C2,(NG.trans TM).BC U1 (TM.nn nk TL) o,TM.nn nk TL⟩⟩
   have hlk:ζ.length<ks.length:=by omega
   rw[aR,length_singleton,take_succ,hkk,map_append,<-ZR];rfl
  .have e1:ζ=ks.map V.int:=by rw[ZR,take_of_length_le (by omega)]
   rw[e1]at rk;have hi:=intsAre_of rk;have G1:Di.length=ks.length:=hi.length;rw[ksk_kind (keys:=Di.toArray) hi (by rw[au];omega)]
   refine ak ⟨rfl,λi j Cn A9 JT tZ=>?_⟩
   obtain⟨ti,ei⟩:=ST.wK hi i (by omega)
   obtain⟨tj,ej⟩:=ST.wK hi j (by omega)
   show wpAny _ _ (keyLt' _ (Di.getD i Value.none) (Di.getD j Value.none)) _ _ _;rw[ei,ej];exact W.kat_lt_int tZ
  .rw[hxl];exact QR (il.mono NG.c) _ λi A9=>by simpa using (vm (n:=ds.length) (rank:=λi=>ks.getD i 0) λi j=>rfl).mem_iff.mp A9
 .cases e7;refine xh I6 (i:=5) MZ (by rw[hN];rfl) (.inl S.kR) r6 (λs7 I7=>?_) (.inr S.kR)
  exact GY B cL s7 _ H6 Dn (I7.rJ λp hp=>I7.pin p (aM _ (.tail _ hp))) ⟨C6,U.set 5 (.o (EF ks ds)),r,g4.BD ev6 n1 n2 n3 n4,q,fin⟩
end
end DL
namespace L2
open PySem.W
section
variable {γ:cB}{w:cC}{A:cD}{E:cj}{s:cz}{I S ax:cF}{items:Array cy}{Zc:Heap}{key:Nat->Int}{R:Result->cz->Prop}{kv:cy}{kw:List (Str×cy)}
def F0 (key:Nat->Int) (i m:Nat):Prop:=∀j,j<=m->key i<=key j/\(j<i->key i<key j)
noncomputable abbrev ZV (v:cy) (k:Int) (t:Tok) (c:Nat):Obj:={cls:=.type "list",data:=.seq #[v,.int k t] c}
noncomputable def WN (kv:cy) (S:cF) (old:cx) (v:cy) (jp:cy->Sem PySem.Fin):Sem PySem.Fin:=match kv with
 |.none=>pure v>>=jp
 |_=>tryCatch (holding [v] (call kv [v])) (λe=>do
  updateSeq S λ_=>#[]
  letGo ([v]++old.reverse) [e]
  throw e)>>=jp
abbrev QU (γ:cB) (w:cC) (A:cD) (s:cz) (items:Array cy) (Zc:Heap) (key:Nat->Int) (kv:cy):Prop:=
 ∀(S:cF) (old:cx) (jp:cy->Sem PySem.Fin) (i:Nat) (v:cy) (h:Heap) (tk:Nat) (Q:PySem.Fin->cz->Prop) (E:cj),items[i]? =some v->(∀b o,Zc.get? b=some o->h.get? b=some o)->(∀t DH,jH γ w A (jp (.int (key i) t)) Q E {s with heap:=h,toks:=DH})->jH γ w A (WN kv S old v jp) Q E {s with heap:=h,toks:=tk}
theorem NH (hh:A.handled=none) (hI:Zc.get? I=none) (hS:Zc.get? S=none) (WR:S≠I) (WT:Zc.IsList ax items) (turn:QU γ w A.in1 s items Zc key kv)
  (hR:∀i v h' DH,items[i]? =some v->F0 key i (items.size-1)->(∀b o,Zc.get? b=some o->h'.get? b=some o)->R (.ok (.ret v)) {s with heap:=h',toks:=DH}):
  ∀(r j i:Nat) (h:Heap) (tk:Nat) (vb:cy) (tb:Tok) (c:Nat),items.size-(j+1)=r->j+1<=items.size->(∀b o,Zc.get? b=some o->h.get? b=some o)->h.get? S=some (ZV vb (key i) tb c)->h.IsListIter I ax (j+1)->
   items[i]? =some vb->i<=j->F0 key i j->codeAny (model γ w) A (.builtin "min.loop" ⟨[.ref I,kv,.ref S],kw⟩) R {s with heap:=h,toks:=tk}:=by
 have HP:(toString "min"++toString ".loop":String)="min.loop":=by decide
 have jI:ax≠I:=λz=>by
  obtain⟨o,ho,_⟩:=WT;rw[z,hI]at ho;cases ho
 have W:=Walks.list (prog:=γ) (w:=w) (A:=A.in1) hh I ax jI items;have ZW:∀{h:Heap},(∀b o,Zc.get? b=some o->h.get? b=some o)->h.IsList ax items:=λk=>let ⟨o,ho,r⟩:=WT;⟨o,k _ _ ho,r⟩
 have step:∀{h h':Heap},(∀b o,Zc.get? b=some o->h.get? b=some o)->(∀b o,b∉[I]->h.get? b=some o->h'.get? b=some o)->∀b o,Zc.get? b=some o->h'.get? b=some o:=λk k' b o e=>k' b o (λz=>by rw[bw.mp z,hI]at e;cases e) (k b o e)
 have U5:∀{h h':Heap},(∀b o,Zc.get? b=some o->h.get? b=some o)->Heap.SameBut S h h'->∀b o,Zc.get? b=some o->h'.get? b=some o:=λk sb b o e=>(sb.2 b (λz=>by rw[z,hS]at e;cases e)).trans (k b o e)
 intro r;induction r with
 |zero=>
  intro j i h tk vb tb c hr hj kp hB hit hvb G8 Mb;have qF:j+1=items.size:=by omega
  refine codeAny_builtin PySem.F.entry_min_loop ?_;rw[bY PySem.F.plain_min_loop _];show wpAny _ A.in1 (seqItems? (.ref S)>>=_) _ _ _;refine aa (wpAny_seqItems hB rfl ?_);show wpAny _ A.in1 (tryCatch (pyNext (.ref I)) _>>=_) _ _ _;refine aa (wpAny_tryCatch (W.done _ _ _ ⟨by rw[<-qF];exact hit,ZW kp⟩ λh' DH pG=>?_))
  have UW:=pG S _ (by simpa using WR) hB
  show wpAny _ A.in1 (updateSeq S (λ_=>#[])>>=_) _ _ _
  refine aa (wpAny_updateSeq UW rfl (aa (wpAny_letGo (ak ?_))));exact hR i vb _ _ hvb (λj' JT=>Mb j' (by omega)) (U5 (step kp pG) (Heap.SameBut.update h' S (Obj.mapSeq λ_=>(#[]:Array cy))))
 |succ r ih=>
  intro j i h tk vb tb c hr hj kp hB hit hvb G8 Mb;refine codeAny_builtin PySem.F.entry_min_loop ?_;rw[bY PySem.F.plain_min_loop _];show wpAny _ A.in1 (seqItems? (.ref S)>>=_) _ _ _;refine aa (wpAny_seqItems hB rfl ?_);show wpAny _ A.in1 (tryCatch (pyNext (.ref I)) _>>=_) _ _ _;refine aa (wpAny_tryCatch (W.item (j+1) _ _ _ (by omega) ⟨hit,ZW kp⟩ λv h' DH hP Nt pG=>?_))
  have hv:items[j+1]? =some v:=hP;have kp':=step kp pG;have UW:=pG S _ (by simpa using WR) hB
  show wpAny _ A.in1 (WN kv S [vb,.int (key i) tb] v _) _ _ _;refine turn _ _ _ (j+1) v h' DH _ _ hv kp' λt2 tk2=>?_
  show wpAny _ A.in1 (tryCatch (holding [v,.int (key (j+1)) t2] (richCompare .Lt (.int (key (j+1)) t2) (.int (key i) tb)>>=_)) _>>=_) _ _ _;refine aa (wpAny_tryCatch (bo (aa (CmpOf.ints_lt (prog:=γ) (w:=w) (A:=A.in1) (P:=λi v=>∃t,v=.int (key i) t) key (λi v h=>h) (j+1) i _ _ _ _ _ ⟨t2,rfl⟩ ⟨tb,rfl⟩ ?_))))
  refine aa (bo (bR (aa (wpAny_letGo (ak ?_)))));by_cases lt:key (j+1)<key i
  .simp only[lt,decide_true,if_true];refine aa (wpAny_updateSeq UW rfl (aa (wpAny_letGo ?_)));rw[HP];have sb:=Heap.SameBut.update h' S (Obj.mapSeq λ_=>#[v,.int (key (j+1)) t2])
   refine ak ⟨plainId_quiet PySem.F.plain_min_loop _,ih (j+1) (j+1) _ _ v t2 _ (by omega) (by omega) (U5 kp' sb) (get?_update_seq UW λ_=>#[v,.int (key (j+1)) t2]) ?_ hv (av _) λj' JT=>?_⟩
   .obtain⟨oI,ho,r1⟩:=Nt.1;exact⟨oI,(sb.2 I WR.symm).trans ho,r1⟩
   .rcases Nat.lt_or_ge j' (j+1)with z|z
    .have:=(Mb j' (by omega)).1
     exact⟨by omega,λ_=>by omega⟩
    .have:j'=j+1:=by omega
     subst this;exact⟨Int.le_refl _,λz=>absurd z (Nat.lt_irrefl _)⟩
  .simp only[lt,decide_false,aJ,bF];refine aa (wpAny_letGo ?_);rw[HP];refine ak ⟨plainId_quiet PySem.F.plain_min_loop _,ih (j+1) i _ _ vb tb c (by omega) (by omega) kp' UW Nt.1 hvb (by omega) λj' JT=>?_⟩
   rcases Nat.lt_or_ge j' (j+1)with z|z
   .exact Mb j' (by omega)
   .have:j'=j+1:=by omega
    subst this;exact⟨by omega,λz=>by omega⟩
theorem F1 (ha:argsOk "min" ⟨[.ref ax],kws⟩) (hb:Builtin.Builtins.bindParams "min" ["key","default"] 0 ⟨[],kws⟩=pure [ko,dO]) (hh:A.handled=none) (WT:s.heap.IsList ax items) (turn:QU γ w A.in1 s items s.heap key (ko.getD .none)) (h0:items.size=0->∃d,dO=some d/\∀h' DH,(∀b o,s.heap.get? b=some o->h'.get? b=some o)->Q d {s with heap:=h',toks:=DH}) (hQ:∀i v h' DH,items[i]? =some v->F0 key i (items.size-1)->(∀b o,s.heap.get? b=some o->h'.get? b=some o)->Q v {s with heap:=h',toks:=DH}):jH γ w A (call (.builtin "min") [.ref ax] kws) Q E s:=by
 have HP:(toString "min"++toString ".loop":String)="min.loop":=by decide
 refine kmb_tree PySem.F.kind_min PySem.F.plain_min PySem.F.entry_min ha ?_;show wpAny _ A.in1 (Builtin.Builtins.bindParams "min" ["key","default"] 0 ⟨[],kws⟩>>=_) _ _ s;refine aa (wpAny_of_eq hb ?_);refine aa (ak (aa (wpAny_pyIter_list WT ?_)));refine aa (wpAny_newList ?_ (bM _));rw[HP];generalize ZX:({cls:=.type "list_iterator",data:=.fields #[.ref ax,.int 0 0]}:Obj)=oI;have hof:oI.isFreed=false:=by rw[<-ZX];rfl
 have hSz:(s.heap.push oI).objs.size=s.dN+1:=Heap.size_push ..;have hI:s.heap.get? s.dN=none:=Heap.get?_none_of_le (av _);have hS:s.heap.get? (s.heap.push oI).objs.size=none:=Heap.get?_none_of_le (by rw[hSz];exact Nat.le_succ _)
 have WR:(s.heap.push oI).objs.size≠s.dN:=by rw[hSz];exact bz (Nat.lt_succ_self _)
 have gI:((s.heap.push oI).push {cls:=.type "list",data:=.seq ([]:cx).toArray}).get? s.dN=some oI:=ag _ (aB _ hof);have gS:((s.heap.push oI).push {cls:=.type "list",data:=.seq ([]:cx).toArray}).get? (s.heap.push oI).objs.size=some {cls:=.type "list",data:=.seq ([]:cx).toArray}:=aB _ rfl;have k0:∀b o,s.heap.get? b=some o->((s.heap.push oI).push {cls:=.type "list",data:=.seq ([]:cx).toArray}).get? b=some o:=λb o e=>ag _ (ag _ e)
 have axI:ax≠s.dN:=λz=>by
  obtain⟨o,ho,_⟩:=WT;rw[z,hI]at ho;cases ho
 have ZW:∀{h:Heap},(∀b o,s.heap.get? b=some o->h.get? b=some o)->h.IsList ax items:=λk=>let ⟨o,ho,r⟩:=WT;⟨o,k _ _ ho,r⟩
 have W:=Walks.list (prog:=γ) (w:=w) (A:=A.in1) hh s.dN ax axI items;subst ZX;refine ak ⟨plainId_quiet PySem.F.plain_min_loop _,codeAny_builtin PySem.F.entry_min_loop ?_⟩;rw[bY PySem.F.plain_min_loop _];show wpAny _ A.in1 (seqItems? (.ref _)>>=_) _ _ _;refine aa (wpAny_seqItems gS rfl ?_);show wpAny _ A.in1 (tryCatch (pyNext (.ref s.dN)) _>>=_) _ _ _;have back:∀{h':Heap},(∀b o,b∉[s.dN]->((s.heap.push {cls:=.type "list_iterator",data:=.fields #[.ref ax,.int 0 0]}).push {cls:=.type "list",data:=.seq ([]:cx).toArray}).get? b=some o->h'.get? b=some o)->∀b o,s.heap.get? b=some o->h'.get? b=some o:=λpG b o e=>pG b o (λz=>by rw[bw.mp z,hI]at e;cases e) (k0 b o e)
 rcases Nat.eq_zero_or_pos items.size with z|jI
 .obtain⟨d,rfl,h1⟩:=h0 z;refine aa (wpAny_tryCatch (W.done _ _ _ ⟨⟨_,gI,rfl,by rw[z];rfl⟩,ZW k0⟩ λh' DH pG=>?_))
  show wpAny _ A.in1 (rule _>>=λ_=>ret d) _ _ _
  exact aa (wpAny_rule (ak (h1 _ _ (back pG))))
 .refine aa (wpAny_tryCatch (W.item 0 _ _ _ jI ⟨⟨_,gI,rfl,rfl⟩,ZW k0⟩ λv h' DH hP Nt pG=>?_))
  have hv:items[0]? =some v:=hP;have k1:=back pG;have hB:=pG _ _ (by simpa using WR) gS
  generalize hSn:(s.heap.push {cls:=.type "list_iterator",data:=.fields #[.ref ax,.int 0 0]}).objs.size=S at *;show wpAny _ A.in1 (WN (ko.getD .none) S [] v _) _ _ _;refine turn _ _ _ 0 v h' DH _ _ hv k1 λt2 tk2=>?_
  show wpAny _ A.in1 (updateSeq S (λ_=>#[v,.int (key 0) t2])>>=_) _ _ _
  refine aa (wpAny_updateSeq hB rfl ?_);rw[HP];have sb:=Heap.SameBut.update h' S (Obj.mapSeq λ_=>#[v,.int (key 0) t2])
  refine ak ⟨plainId_quiet PySem.F.plain_min_loop _,NH hh hI hS WR WT turn hQ _ 0 0 _ _ v t2 _ rfl jI (λb o e=>(sb.2 b (λz=>by rw[z,hS]at e;cases e)).trans (k1 b o e)) (get?_update_seq hB λ_=>#[v,.int (key 0) t2]) ?_ hv (av _) λj' JT=>?_⟩
  .obtain⟨oI,ho,r1⟩:=Nt.1;exact⟨oI,(sb.2 _ WR.symm).trans ho,r1⟩
  .have:j'=0:=by omega
   subst this;exact⟨Int.le_refl _,λz=>absurd z (Nat.lt_irrefl _)⟩
end
def QV (a v:cy):argsOk "min" ⟨[a],[(Str.ofString "default",v)]⟩:=by unfold argsOk;kernel_rfl
end L2
namespace DL
open L2
def F3 (f:cc):cc:=λU=>match f U with
 |some (.l ds)=>if ds.length<60 then(χ ds).map λns=>.int (if ns=[]then 0 else jM ns)else none
 |_=>none
section
variable {X:Cx}{e:cG}{p pos pk kp:Pos}{ck:Nat}{f:cc}
def QW [μ] (hc:X.calm=true) (hu:X.A.units+64<cLine) (hg:Gl X "min") (hm:X.mg "min"=none) (ha:WO X e f)
  (he:backTo pos (starEach [e] X.e)=(false,eval e X.e)::backTo pos (starEach [] X.e):=by rfl):
  WD X (.Call (.Name "min" p) [e] [⟨some "default",.Constant (.int 0) ck pk,kp⟩] pos) (F3 f):=⟨by
 have ha:=ha.go;intro cL s O H Q I ⟨C,U,d,x,q,k⟩;unfold F3 at q;split at q
 case h_2=>cases q
 rename_i ds hf;obtain⟨h60,q⟩:=nq q;obtain⟨ns,hn,rfl⟩:=yN q;have ee:=fE hn;subst ee;rw[ae]at h60;refine wpAny_Call_Name_kw (oi I hg hm Fy ?_);refine callWith_kw ?_ he (by rw[he];rfl) rfl rfl
 rw[he];refine Calls.spliced_cons (pH (ha cL s O H (λv H'=>∃C',Ev C H C' H'/\vf C' H' v (.l (ns.map D.int))) I ⟨C,U,_,x,hf,λv C' H' ev i=>⟨C',ev,i⟩⟩) λu s1 v1 H1 I1 r1 ⟨C1,U2,i1⟩=>?_)
 refine Calls.spliced_nil ?_;refine kws_cons (pH (Bi (X:=X) (i:=0) (j:=ck) (pos:=pk) cL s1 O H1 (λv H'=>v=.int 0/\H'=H1) I1 ⟨rfl,rfl⟩) λu2 s2 v2 H2 I2 r2 ⟨e1,e2⟩=>kws_nil ?_)
 subst e1 e2;obtain⟨t0,rfl⟩:=r2;obtain⟨pa,xs,rfl,hq,l⟩:=i1.list (K:=X.K) U2.s;cases r1;have lx:=l.nC;subst lx;obtain⟨dE,rv,pl,hz⟩:=I2.list hq;have hi:IntsAre dE ns:=intsAre_of rv;have hl:dE.length=ns.length:=hi.length;refine F1 (items:=dE.toArray) (key:=λi=>ns.getD i 0) (QV _ _) rfl (I2.ok.hd hc) pl.isList (λS old jp i v h tk Q' E' hv kp hQ=>?_) (λhz'=>⟨_,rfl,λh' DH kp=>?_⟩) λi v h' DH hv hF kp=>?_
 .obtain⟨t,rfl⟩:=hi.int_at i v (by simpa using hv)
  exact aa (ak (hQ t tk))
 .have:ns=[]:=length_eq_zero_iff.mp (by rw[<-hl];simpa using hz')
  subst this;exact⟨.int 0,_,I2.kept (t':=DH) kp,⟨t0,rfl⟩,k _ C1 _ U2 (.int _)⟩
 .have OA:dE[i]? =some v:=by simpa using hv
  have fR:i<ns.length:=by rw[<-hl];exact(List.getElem?_eq_some_iff.mp OA).1
  obtain⟨t,rfl⟩:=hi.int_at i v (by simpa using hv)
  cases ns with
  |nil=>simp at fR
  |cons a r=>
   obtain⟨m1,m2⟩:=xV (a::r) (by simp)
   have g1:(a::r).getD i 0=(a::r)[i]:=by rw[ao,ah fR];rfl
   have l1:=m2 _ (getElem_mem fR);obtain⟨j,hj,ej⟩:=getElem_of_mem m1;have l2:=(hF j (by rw[au,hl];exact Nat.le_sub_one_of_lt hj)).1
   have g2:(a::r).getD j 0=(a::r)[j]:=by rw[ao,ah hj];rfl
   simp only[g1,g2,ej]at l2;have e3:(a::r).getD i 0=jM (a::r):=by rw[g1];omega
   exact⟨.int (jM (a::r)),_,I2.kept (t':=DH) kp,⟨t,by rw[e3]⟩,k _ C1 _ U2 (.int _)⟩⟩
end
def ZY:NN.Nodup:=by decide +kernel
section
variable {X:Cx}{Y:OC}{A:mG}{G:D}{C0 H0:Hp}{e:cG}{p pl pk pn p1 pos QS:Pos}{rest:List cH}{ar:Arguments}{bd:List cH}{sc:Scope}{c Pt:cF}{kc:Nat}{fe:cc}{fb fr:cb}
def QX {qual xd:Str}(MJ:∀x,X.fn x=true) (MZ:X.N.Nodup) (S:Kv X sc) (hr:gc (kc+3) X.A) (hg:Gl X "sorted") (hm:X.mg "sorted"=none) (hT:(xd,QS,qual)∈vD) (ht:W.tabIn X.K xd=some (c,Pt)) (hq:qualnameIn X.e "left_behind" "left_behind"=qual) (uw:X.e.code=.ref c)
  (gO:∀(Zc:Heap) (f:cF) (cd:cy) (cl:List (Str×cF)) (Ar:cD) (ε:List Env) (s:cz) (H:Hp),gc kc (Ar.deeper (W.envX qual sc s.dN f cd cl))->∀C0 H0,@rH (dq Y A G) (HL X.γ X.w X.K X.mg Zc NN qual sc f cd cl Ar ε s H) C0 H0 bd fb)
  (G3:∀cl doc pm fC xg,Binds X.K (W.fnX "left_behind" qual ar bd sc cl .none .none doc pm none fC xg) ["claim"] [])
  (h1:@WD (dq Y A G) X e fe) (GY:@rH (dq Y A G) X C0 H0 rest fr) (hd0:ar.defaults=[]:=by rfl) (hk0:ar.kw_defaults=[]:=by rfl) (ha:annTrees ar none X.e=[]:=by rfl)
  (he:backTo pos (starEach [e] X.e)=(false,eval e X.e)::backTo pos (starEach [] X.e):=by rfl) (hs:swapsWith (.Call (.Name "sorted" p) [e] [⟨some "key",.Name "left_behind" pl,pk⟩] pos) (some (.Name "ranked" pn)) p1.line X.e=pure false:=by rfl):
  @rH (dq Y A G) X C0 H0 (.FunctionDef "left_behind" ar bd [] none [] sc none "left_behind" QS::.Assign [.Name "ranked" pn] (.Call (.Name "sorted" p) [e] [⟨some "key",.Name "left_behind" pl,pk⟩] pos) p1::rest) (EG fe fb fr):=by
 letI:=dq Y A G
 exact⟨QT MJ MZ S hr hg hm hT ht hq uw gO G3 h1.go GY.go hd0 hk0 ha he hs⟩
end
def TN {P:cB}{w:cC}{K:W.Frag}{Zc:Heap}{x qual:Str}{st:cH}{f:cF}{fd:cA}{N ps:List Str}{k:Nat}(Y:OC) (F:Bs K x qual st f fd) (S:dF N ps (cZ st)) {fb:D->cb}(gO:∀(A:mG) (G:D) (Ar:cD) (ε:List Env) (s:cz) (H:Hp) (E:XK),gc k (Ar.deeper (envOfC qual (cZ st) s.dN f fd.code))->∀C0 H0,@rH (dq Y A G) (t6 nY P w K mg Zc N qual (cZ st) f fd.code Ar ε s H E).GJ C0 H0 (gr st) (fb G)):gK P w K mg Zc nY (k+1) f fd ps (P7 Y (i9 N.length ps.length fb)):=by
 have key:∀fC,fd.code=fC->∀(A:mG) (G:D) (Ar:cD) (ε:List Env) (s:cz) (H:Hp) (E:XK),gc k (Ar.deeper (envOfC qual (cZ st) s.dN f fC))->∀C0 H0,@rH (dq Y A G) (t6 nY P w K mg Zc N qual (cZ st) f fC Ar ε s H E).GJ C0 H0 (gr st) (fb G):=λfC e=>by
  subst e;exact gO
 obtain⟨oc,od,kV,doc,pm,an,fC,ct,Uu,rfl,lk,vG⟩:=id F.ex;have key:=key fC rfl;refine OI lk vG S (λvs H Q E h=>?_) λAr ε s H vs Q E hr h=>?_
 all_goals
  obtain⟨C,G,ds,d,A,ws,sub,rfl,i,ok,q,fin⟩:=h;simp only[i9]at q;obtain⟨hl,q⟩:=nq q
 .rw[az,i.length];exact hl.1
 .letI:=dq Y A G
  exact⟨tS C C H (fb G),(@rH.go (dq Y A G) _ _ _ _ _ (key A G Ar ε s H E hr C H) C).GJ,n8 (zh (j:=0) S sub rfl i hl rfl ok) q fin⟩
end DL
namespace LW
open DL
open L2 (nX Eh)
def F4 (p:(xs++rest).Perm (ns.map D.int)):∃ms rs:cq,xs=ms.map D.int/\rest=rs.map D.int/\(ms++rs).Perm ns:=by
 have all:∀x∈xs++rest,∃i,x=D.int i:=λx hx=>by
  have:=p.mem_iff.mp hx;obtain⟨i,_,e⟩:=mem_map.mp this;exact⟨i,e.symm⟩
 have ex:∀l:cw,(∀x∈l,∃i,x=D.int i)->∃ms:cq,l=ms.map D.int:=by
  intro l;induction l with
  |nil=>intro _;exact⟨[],rfl⟩
  |cons a l ih=>
   intro h;obtain⟨i,rfl⟩:=h a af;obtain⟨ms,rfl⟩:=ih λx hx=>h x (aj _ hx)
   exact⟨i::ms,rfl⟩
 obtain⟨ms,e1⟩:=ex xs λx hx=>all x (bE _ hx)
 obtain⟨rs,e2⟩:=ex rest λx hx=>all x (aM _ hx)
 refine⟨ms,rs,e1,e2,?_⟩;subst e1 e2
 let g:D->Int:=λd=>match d with|.int i=>i|_=>0
 have hg:∀l:cq,(l.map D.int).map g=l:=λl=>by rw[aW];exact map_id _
 have q:=p.map g;rw[hg,map_append,hg,hg]at q;exact q
structure B8 (Cf:Int) (l:cq):Prop where
 ne:l≠[]
 four:l.length<=4
 rise:l.Pairwise (·< ·)
 inn:∀p∈l,0<=p/\p<Cf
def lV (h:ns.Nodup):(ξ ns).Pairwise (·< ·):=by
 have h1:=BK ns;have h2:(ξ ns).Nodup:=(sortI_perm ns).nodup_iff.mpr h;have:=List.Pairwise.and h1 h2;exact this.imp λ{a b} ⟨x,y⟩=>by omega
def F5 (h:ns.length<64):lz [.l (ns.map D.int)]=some ((ξ ns).map D.int):=by
 simp only[lz,ae,if_pos h,ij]
theorem EH:∀(a b:cq),kP (a.map D.int) (b.map D.int)=decide (a=b)
 |[],[]=>by unfold kP;simp
 |[],_::_=>by unfold kP;simp
 |_::_,[]=>by unfold kP;simp
 |x::a,y::b=>by
  show kP (.int x::a.map D.int) (.int y::b.map D.int)=_;unfold kP jK;rw[EH a b];by_cases h1:x=y<;>by_cases h2:a=b<;>simp[h1,h2]
def B9 (a b:cq):jK (vc a) (vc b)=decide (a=b):=by
 unfold vc;unfold jK;exact EH a b
def zr (a:cq) (ρ:cp):memD (vc a) (ρ.map vc)=decide (a∈ρ):=by
 unfold memD;rw[any_map];induction ρ with
 |nil=>simp
 |cons b r ih=>
  rw[bH,ih];simp only[Function.comp_apply,B9];by_cases h1:b=a
  .simp[h1]
  .have:¬ a=b:=λz=>h1 z.symm
   simp[h1,this]
theorem vn:∀ns:cq,jj (ns.map D.int)=0
 |[]=>by unfold jj;rfl
 |n::r=>by
  show jj (.int n::r.map D.int)=0;unfold jj eN;rw[vn r];rfl
def ux (ns:cq):eN (vc ns)=1:=by
 unfold vc eN;rw[vn]
theorem vo:∀ρ:cp,jj (ρ.map vc)<=1
 |[]=>by show jj []<=1;unfold jj;omega
 |n::r=>by
  show jj (vc n::r.map vc)<=1;unfold jj;rw[ux];have:=vo r;omega
structure Mc (least most mx Cf:Int) (ls:cp):Prop where
 lo:least<=Cf
 hi:Cf<=most
 num:(ls.length:Int)<=mx
 rise:ls.Pairwise (λa b=>HT.lexLt a b=true)
 line:∀l∈ls,B8 Cf l
def QY (ls:cp):D:=.t (ls.map vc)
def zt (Cf:Int) (ls:cp):D:=.t [.int Cf,QY ls]
def Cb (h:ρ≠[]):χ (ρ.map vc)=none:=by
 cases ρ with
 |nil=>exact absurd rfl h
 |cons a r=>rfl
def F6 (h:ρ.length<64) (jI:∀l∈ρ,l≠[]):lz [.l (ρ.map vc)]=some ((gP ρ).map vc):=by
 cases ρ with
 |nil=>
  simp[lz,χ,ξ,gP]
 |cons a r=>
  simp only[lz,ae,if_pos h,Cb (cons_ne_nil a r),BL,aq];rw[if_pos];rw[all_eq_true];intro x hx;have:=jI x hx;cases x with
  |nil=>exact absurd rfl this
  |cons _ _=>rfl
def Cc (h:ρ.Nodup):(gP ρ).Pairwise (λa b=>HT.lexLt a b=true):=by
 have h1:=xJ ρ;have h2:(gP ρ).Nodup:=(fZ ρ).nodup_iff.mpr h;have:=List.Pairwise.and h1 h2;refine this.imp λ{a b} ⟨x,y⟩=>?_
 cases e:HT.lexLt a b with
 |true=>rfl
 |false=>exact absurd (HT.iM e x) y
def eh (hl:ds.length=np) (h:f (ds.map Sl.d++replicate (n-np) Sl.n)=some (.ret d)):gF n np f ds=some d:=by
 unfold gF;rw[if_pos hl,h]
def cR (h:f U=some (.next δ')):dP f g U=g δ':=by unfold dP;rw[h]
abbrev _root_.ye (c least most lines:Int) (r:DL.fW):DL.fW:=cI c::cI least::cI most::cI lines::r
def fs3 (hm:1<=Cf):∃z:Int,1<=z/\z<=4/\z<=Cf/\oF (ye c least most lines [cI Cf,.o fd,cI k,x7,x8,x9,.n])=
   some (.next (ye c least most lines [cI Cf,.o fd,cI k,cI z,x8,x9,.n])):=by
 have h4:0<(if Cf<4 then Cf else 4):=by split<;>omega
 have a1:=sg (c:=c+7*k) (p:=9949) h4;have a2:=si (c:=c+7*k) (p:=9949) h4;refine⟨1+nM (c+7*k) 9949 (if Cf<4 then Cf else 4),by omega,?_,?_,?_⟩
 .have:(if Cf<4 then Cf else 4)<=4:=by split<;>omega
  omega
 .have:(if Cf<4 then Cf else 4)<=Cf:=by split<;>omega
  omega
 .simp[oF,g0,dB,cV,cM,cS,dC,dg,jW,Dw,oI,Lo,Pd,Ac,BX (p:=9949) (by omega) h4]
def fs5 (h1:1<=z) (h4:z<=4) (hm:z<=Cf):∃y:Int,1<=y/\y<=4/\y<=Cf/\iD (ye c least most lines [cI Cf,.o fd,cI k,cI z,x8,x9,.n])=
   some (.next (ye c least most lines [cI Cf,.o fd,cI k,cI y,x8,x9,.n])):=by
 by_cases h:0<c%3/\z=1/\1<Cf
 .refine⟨2,by omega,by omega,by omega,?_⟩
  obtain⟨a,rfl,b⟩:=h;simp[iD,jw,kx,g0,xy,qB,dB,dC,dg,RX,vI,oI,Lo,G9,nF,eN,jK,a,b]
 .refine⟨z,h1,h4,hm,?_⟩;by_cases a:0<c%3
  .by_cases b:z=1
   .have d:¬ 1<Cf:=λd=>h ⟨a,b,d⟩
    simp[iD,jw,kx,gq,xy,qB,dB,dC,dg,RX,vI,oI,Lo,G9,nF,eN,jK,a,b,d]
   .have b':(z==1)=false:=by simpa using b
    simp[iD,jw,kx,gq,xy,qB,dB,dC,dg,RX,vI,oI,Lo,G9,nF,eN,jK,a,b']
  .simp[iD,jw,kx,gq,xy,qB,dB,dC,dg,RX,vI,oI,Lo,G9,nF,eN,jK,a]
def fs6 (h1:1<=Cf) (hm:Cf<=60):oG (ye c least most lines [cI Cf,.o fd,cI k,cI z,x8,x9,.n])=
   some (.next (ye c least most lines [cI Cf,.o fd,cI k,cI z,.o ((eG 0 Cf.toNat).map D.int),x9,.n])):=by
 have a:Cf<1000000:=by omega
 have b: -1000000<Cf:=by omega
 simp[oG,mw,Dg,cM,cS,cO,a,b]
def fs7 (h1:1<=Cf) (hm:Cf<=60) (z1:1<=z) (z2:z<=Cf):∃ms rs:cq,(ms++rs).Perm (eG 0 Cf.toNat)/\(ms.length:Int)=z/\
  oH (ye c least most lines [cI Cf,.o fd,cI k,cI z,.o ((eG 0 Cf.toNat).map D.int),x9,.n])=
   some (.next (ye c least most lines [cI Cf,.o fd,cI k,cI z,.o (rs.map D.int),.o (ms.map D.int),.n])):=by
 have hl:((eG 0 Cf.toNat).map D.int).length=Cf.toNat:=by rw[ae,eQ]
 have G1:((eG 0 z.toNat).map D.int).length=z.toNat:=by rw[ae,eQ]
 obtain⟨xs,rest,e,p,l⟩:=LN (j:=10) (m:=8) (f:=cV eX (cM (dB jW (dB jW (dg 0) (dB Dw (dC (.int 11)) (dg 6))) (dB Dw (dC (.int 3)) (dg 10))) (cM (dC (.int 9941)) (cM (dB ou (dg 4) (dg 10)) cS))))
  (U:=(ye c least most lines [cI Cf,.o fd,cI k,cI z,.o ((eG 0 Cf.toNat).map D.int),x9,.n]))
  ((eG 0 z.toNat).map D.int) ((eG 0 Cf.toNat).map D.int) (by omega) (λi d lc hd hk=>by
   rw[aw,rP]at hd;split at hd
   .rename_i hi;cases hd;have hp:0<Cf-(0+(i:Int)):=by omega
    refine⟨nM (c+11*k+3*(0+(i:Int))) 9941 (Cf-(0+(i:Int))),?_,sg hp,?_⟩
    .have N6:0<Cf-(i:Int):=by omega
     simp[cV,cM,cS,dB,dg,dC,jW,ou,Dw,oI,Lo,Pd,BX (p:=9941) (by omega) N6]
    .have:=si (c:=c+11*k+3*(0+(i:Int))) (p:=9941) hp;omega
   .cases hd)
 obtain⟨ms,rs,rfl,rfl,q⟩:=F4 p;refine⟨ms,rs,q,?_,?_⟩
 .rw[ae]at l;omega
 .have a:Cf.toNat<1000000:=by omega
  have b:z<1000000:=by omega
  have b': -1000000<z:=by omega
  have b2:z.toNat<1000000:=by omega
  simp only[oH,Hl,aL,aN,hl,if_pos a,Dg,cM,cS,cO,aq,bC,if_pos (And.intro b b'),G1,if_pos b2,e];rfl
def fs9 (hz:ms.length<64) (hd:ω.length<1000000):jx (ye c least most lines [cI Cf,.o (ω.map vc),cI k,cI z,x8,.d (.l (ms.map D.int)),.n])=
   some (.next (ye c least most lines [cI Cf,.o ((if ξ ms∈ω then ω else ω++[ξ ms]).map vc),cI k,cI z,x8,.d (.l (ms.map D.int)),.n])):=by
 have Qw:jj (ω.map vc)<=30:=aE (vo _) (by decide)
 have e1:∀x5,(cV nA (cM (dL (ly lz (cM (dg 9) cS))) cS)) (ye c least most lines [cI Cf,x5,cI k,cI z,x8,.d (.l (ms.map D.int)),.n])=some (vc (ξ ms)):=λx5=>by
  simp[cV,ly,cM,cS,dg,dL,F5 hz,nA,vc]
 by_cases h:ξ ms∈ω
 .simp only[jx,oJ,kx,qB,dB,e1,dg,aL,aN,aq,vJ,Ab,if_pos Qw,zr,if_pos h,aS h,bU,gq]
 .simp only[jx,oJ,kx,qB,dB,e1,dg,aL,aN,aq,vJ,Ab,if_pos Qw,zr,if_neg h,aI h,Bool.not_false,JL,ae,if_pos hd,map_append,aG,map_nil];rfl
def Kw {c least most lines Cf k:Int}{ω:cp}{x7 x8 x9:Sl}(hm:1<=Cf) (GL:Cf<=60) (MZ:ω.Nodup) (hl:∀l∈ω,B8 Cf l) (π:ω.length<60):
  ∃(F7:cp) (y7 y8 y9:Sl),ja (ye c least most lines [cI Cf,.o (ω.map vc),cI k,x7,x8,x9,.n])=
   some (.next (ye c least most lines [cI Cf,.o (F7.map vc),cI k,y7,y8,y9,.n]))/\F7.Nodup/\(∀l∈F7,B8 Cf l)/\F7.length<=ω.length+1:=by
 obtain⟨z,z1,z2,z3,e3⟩:=fs3 (c:=c) (least:=least) (most:=most) (lines:=lines) (k:=k) (fd:=ω.map vc) (x7:=x7) (x8:=x8) (x9:=x9) hm;obtain⟨y,y1,y2,y3,e5⟩:=fs5 (c:=c) (least:=least) (most:=most) (lines:=lines) (k:=k) (fd:=ω.map vc) (x8:=x8) (x9:=x9) z1 z2 z3;obtain⟨ms,rs,p,l,e7⟩:=fs7 (c:=c) (least:=least) (most:=most) (lines:=lines) (k:=k) (fd:=ω.map vc) (x9:=x9) hm GL y1 y3;have nd:(ms++rs).Nodup:=p.nodup_iff.mpr ((mH _ _).imp λ{a b} h=>by omega)
 have nd1:ms.Nodup:=(nodup_append.mp nd).1;have sp:=sortI_perm ms;have ok:B8 Cf (ξ ms):=by
  refine⟨λz=>?_,?_,lV nd1,λx hx=>?_⟩
  .have:=sp.length_eq;rw[z]at this;simp only[length_nil]at this;omega
  .have:=sp.length_eq;omega
  .have h1:x∈ms++rs:=bE _ (sp.mem_iff.mp hx);have h2:=(oK _ _ _).mp (p.mem_iff.mp h1);omega
 refine⟨if ξ ms∈ω then ω else ω++[ξ ms],cI y,.o (rs.map D.int),.d (.l (ms.map D.int)),?_,?_,?_,?_⟩
 .unfold ja;rw[cR e3,cR e5,cR (fs6 hm GL),cR e7];show jx (BF 9 _)=_;have eg:BF 9 (ye c least most lines [cI Cf,.o (ω.map vc),cI k,cI y,.o (rs.map D.int),.o (ms.map D.int),.n])=(ye c least most lines [cI Cf,.o (ω.map vc),cI k,cI y,.o (rs.map D.int),.d (.l (ms.map D.int)),.n]):=rfl;rw[eg];exact fs9 (by omega) (by omega)
 .split
  .exact MZ
  .rename_i h;rw[nodup_append];exact⟨MZ,(by simp),λa ha b hb=>by rw[bw]at hb;subst hb;intro z;subst z;exact h ha⟩
 .split
  .exact hl
  .intro l lq;rcases mem_append.mp lq with h|h
   .exact hl l h
   .rw[bw]at h;subst h;exact ok
 .split
  .omega
  .simp
def TQ (h1:1<=least) (h2:least<=most) (h3:most<=60) (h4:0<=lines) (h5:lines<=50):∃Cf ls,gg [.int c,.int least,.int most,.int lines]=some (zt Cf ls)/\Mc least most lines Cf ls:=by
 have hp:0<most-least+1:=by omega
 have hq:0<lines+1:=by omega
 have a1:=sg (c:=c) (p:=9973) hp;have a2:=si (c:=c) (p:=9973) hp;have b1:=sg (c:=c) (p:=9967) hq;have b2:=si (c:=c) (p:=9967) hq;obtain⟨δ',e,ω,y6,y7,y8,y9,hδ,nd,hl,hn⟩:=Hx (j:=6) (f:=ja) (λn U=>∃(ω:cp) (y6 y7 y8 y9:Sl),U=(ye c least most lines [cI (least+nM c 9973 (most-least+1)),.o (ω.map vc),y6,y7,y8,y9,.n])/\ω.Nodup/\(∀l∈ω,B8 (least+nM c 9973 (most-least+1)) l)/\ω.length<=n)
  ((eG 0 (nM c 9967 (lines+1)).toNat).map D.int) 0 (ye c least most lines [cI (least+nM c 9973 (most-least+1)),.o [],.n,.n,.n,.n,.n]) ⟨[],.n,.n,.n,.n,rfl,nodup_nil,(λ_ h=>nomatch h),av _⟩
  (λi U d hd ⟨ω,y6,y7,y8,y9,hδ,nd,hl,hn⟩=>by
   have hi:=(List.getElem?_eq_some_iff.mp hd).1;rw[ae,eQ]at hi;rw[aw,rP,if_pos hi]at hd;cases hd;subst hδ;obtain⟨f',z7,z8,z9,e,q1,q2,q3⟩:=Kw (c:=c) (least:=least) (most:=most) (lines:=lines) (k:=0+(i:Int)) (x7:=y7) (x8:=y8) (x9:=y9) (Cf:=least+nM c 9973 (most-least+1)) (by omega) (by omega) nd hl (by omega)
   exact⟨_,e,f',_,z7,z8,z9,rfl,q1,q2,by omega⟩)
 subst hδ;rw[ae,eQ]at hn;refine⟨least+nM c 9973 (most-least+1),gP ω,?_,⟨by omega,by omega,?_,Cc nd,λl h=>hl l ((fZ ω).mem_iff.mp h)⟩⟩
 .have e1:oC (ye c least most lines [.n,.n,.n,.n,.n,.n,.n])=some (.next (ye c least most lines [cI (least+nM c 9973 (most-least+1)),.n,.n,.n,.n,.n,.n])):=by
   simp[oC,g0,dB,cV,cM,cS,dC,dg,cO,jW,ou,oI,BX (p:=9973) (by omega) hp]
  have e2:oE (ye c least most lines [cI (least+nM c 9973 (most-least+1)),.n,.n,.n,.n,.n,.n])=some (.next (ye c least most lines [cI (least+nM c 9973 (most-least+1)),.o [],.n,.n,.n,.n,.n])):=by
   simp[oE,mw,BE,cS]
  have c1:nM c 9967 (lines+1)<1000000:=by omega
  have c2: -1000000<nM c 9967 (lines+1):=by omega
  have e10:mQ (ye c least most lines [cI (least+nM c 9973 (most-least+1)),.o [],.n,.n,.n,.n,.n])=some (.next (ye c least most lines [cI (least+nM c 9973 (most-least+1)),.o (ω.map vc),y6,y7,y8,y9,.n])):=by
   rw[<-e];simp[mQ,nE,Dg,dB,cV,cM,cS,dC,dg,cO,jW,oI,BX (p:=9967) (by omega) hq,c1,c2]
  refine eh rfl ?_;show qi (ye c least most lines [.n,.n,.n,.n,.n,.n,.n])=_;unfold qi;rw[cR e1,cR e2,cR e10];have hs:=F6 (ρ:=ω) (by omega) (λl h=>(hl l h).ne)
  have z:(mR (ye c least most lines [cI (least+nM c 9973 (most-least+1)),.o (ω.map vc),y6,y7,y8,y9,.n]))=some (.ret (zt (least+nM c 9973 (most-least+1)) (gP ω))):=by
   simp[mR,eB,fy,cV,ly,cM,cS,cO,dg,dL,hs,nA,zt,QY]
  exact z
 .have:=(fZ ω).length_eq;omega
def la (Cf:Int) (ls:cp) (first b g:Int):D:=.t [zt Cf ls,.int first,.int b,.int g]
structure WU (least most mx Cf:Int) (ls:cp) (first b g:Int):Prop where
 field:Mc least most mx Cf ls
 f0:0<=first
 f1:first<=1
 b1:1<=b
 b2:b<=2
 g1:1<=g
 g2:g<=2
def WV {c least most lines:Int}(h1:1<=least) (h2:least<=most) (h3:most<=60) (h4:0<=lines) (h5:lines<=50):
  ∃Cf ls first b g,hX [.int c,.int least,.int most,.int lines]=some (la Cf ls first b g)/\gg [.int c,.int least,.int most,.int lines]=some (zt Cf ls)/\WU least most lines Cf ls first b g:=by
 obtain⟨Cf,ls,e,ok⟩:=TQ (c:=c) h1 h2 h3 h4 h5;have a1:=sg (c:=c) (p:=9931) (m:=2) (by omega)
 have a2:=si (c:=c) (p:=9931) (m:=2) (by omega)
 have a3:=sg (c:=c) (p:=9929) (m:=5) (by omega)
 have a4:=si (c:=c) (p:=9929) (m:=5) (by omega)
 have a5:=sg (c:=c) (p:=9923) (m:=5) (by omega)
 have a6:=si (c:=c) (p:=9923) (m:=5) (by omega)
 refine⟨Cf,ls,nM c 9931 2,1+nM c 9929 5/3,1+nM c 9923 5/3,?_,e,ok,a1,by omega,by omega,by omega,by omega,by omega⟩
 refine eh rfl ?_;show sf (ye c least most lines [.n])=_;have e1:qj (ye c least most lines [.n])=some (.next (ye c least most lines [.d (zt Cf ls)])):=by
  simp[qj,g0,cV,cM,cS,cO,e]
 unfold sf;rw[cR e1];simp[vT,eB,fy,cV,cM,cS,cO,dC,dB,jW,JJ,oI,Lo,VW,la,BX (c:=c) (p:=9931) (m:=2) (by omega) (by omega),BX (c:=c) (p:=9929) (m:=5) (by omega) (by omega),BX (c:=c) (p:=9923) (m:=5) (by omega) (by omega)]
theorem jO:∀(ds:cw),(∀d∈ds,t (U.set j (.d d))=some (p d))->(∀d∈ds,p d=true->f (U.set j (.d d))=some (g d))->i8 j t f U ds=some ((ds.filter p).map g)
 |[],_,_=>rfl
 |d::ds,h,h2=>by
  unfold i8;have ih:=jO (p:=p) (g:=g) ds (λx hx=>h x (aj _ hx)) λx hx=>h2 x (aj _ hx)
  rw[h d af];cases e:p d with
  |true=>simp only[h2 d af e,aq,ih,bC,filter_cons_of_pos e,aG]
  |false=>simp only[ih,bu,e,aJ,bF]
def yf {α:Type}(l:List α) (q:α->Bool):Fz [.l (l.map λx=>D.bl (q x))]=some (.bl (l.all q)):=by
 have:(l.map λx=>D.bl (q x))=(l.map q).map D.bl:=by rw[aW];rfl
 rw[this];show(uj ((l.map q).map D.bl)).map _=_;rw[Nb];simp[all_map]
def xq (l:List α) (i:Nat) (h:i<l.length):nX l (i:Int)=l[i]? :=by
 unfold nX Eh;rw[if_pos (by omega),if_pos (by omega)]
 simp
end LW
namespace GP
open DL
open L2 (nX Eh)
def la (Cf:Int) (ls:cp) (f b g:Int):D:=.t [.t [.int Cf,.t (ls.map vc)],.int f,.int b,.int g]
noncomputable def iA (m l:cq):Bool:=l.all λp=>decide (p∈m)
noncomputable def fL (y l:cq):Bool:=l.any λp=>decide (p∈y)
def yg (ls:cp) (m y:cq):Option Int:=
 if ls.any (iA m)then some 0 else if ls.all (fL y)then some 1 else none
noncomputable def Cd:Option Int->D
 |some i=>.int i
 |none=>.eZ
def HQ (p:Int) (m:cq):memD (.int p) (m.map D.int)=decide (p∈m):=by
 unfold memD;rw[any_map];induction m with
 |nil=>simp
 |cons b r ih=>
  rw[bH,ih];have:(Function.comp (λe=>jK e (D.int p)) D.int) b=decide (p=b):=by
   show jK (.int b) (.int p)=_;unfold jK;by_cases h:b=p
   .simp[h]
   .have h2:¬ p=b:=λz=>h z.symm
    simp[h,h2]
  rw[this];by_cases h1:p=b<;>simp[h1]
def Md (p:Int) (m:cq):GN (.int p) (vc m)=some (.bl (decide (p∈m))):=by
 unfold GN vc Ab;simp only[aq,LW.vn,HQ];rfl
def yh (p:Int) (m:cq):vJ (.int p) (vc m)=some (.bl (!decide (p∈m))):=by
 unfold vJ vc Ab;simp only[aq,LW.vn,HQ];rfl
noncomputable def intOf:D->Int
 |.int i=>i
 |_=>0
def mJ (p:Int->Bool) (l:cq):(l.map D.int).filter (λd=>p (intOf d))=(l.filter p).map D.int:=by
 rw[filter_map];rfl
theorem Me (m:cq):∀l:cq,iA m l=(l.filter λi=> !decide (i∈m)).isEmpty
 |[]=>rfl
 |a::l=>by
  have ih:=Me m l;unfold iA at ih ⊢;by_cases h:a∈m
  .simp only[all_cons,bu,h,decide_true,Bool.true_and,bU,ih];rfl
  .simp[all_cons,bu,h]
theorem HR (y:cq):∀l:cq,fL y l= !(l.filter λi=>decide (i∈y)).isEmpty
 |[]=>rfl
 |a::l=>by
  have ih:=HR y l;unfold fL at ih ⊢;by_cases h:a∈y
  .simp[bH,bu,h]
  .simp only[bH,bu,h,decide_false,Bool.false_or,ih];rfl
def df (m y:cq) (w:Int) (c:cq):cq×cq:=if w=0 then(ξ (m++c),y)else(m,ξ (y++c))
def yi (h:ns.length<64):mF [vc ns]=some ((ξ ns).map D.int):=by
 simp only[mF,vc,ae,if_pos h,ij,bC]
def vp (h:a.length+b.length<64):j6 (vc a) (vc b)=some (vc (a++b)):=by
 have:a.length+b.length<=1000000:=by omega
 simp[j6,vc,this]
noncomputable def behind (c:cq) (p:Int):Bool:=match c.getLast? with|none=>true|some q=>decide (q<p)
def mS (some:cq) (c:cq):cp:=(some.filter (behind c)).map λp=>c++[p]
def uy (some:cq) (cs:cp):cp:=cs.flatMap (mS some)
def jl (some:cq):Nat->cp
 |0=>[[]]
 |k+1=>uy some (jl some k)
def fN (Cf:Int) (m y:cq):cq:=(eG 0 Cf.toNat).filter λp=> !decide (p∈m++y)
def QZ (l:List α) (a:α):nX (l++[a]) (-1)=some a:=by
 unfold nX Eh;have h1:¬ (0:Int)<=-1:=by omega
 have h2: -((l++[a]).length:Int)<=-1:=by simp;omega
 have h3:((-1:Int)+((l++[a]).length:Nat)).toNat=l.length:=by simp;omega
 rw[if_neg h1,if_pos h2,h3];simp
def TR:Ep (qB (dB nF (dg 8) (fy cS))) (qB (dB RX (dg 9) (dB fX (dg 8) (JQ (dC (.int 1)))))) [G,M,Y,W,S,F,T,A,cJ c,cI p]=some (behind c p):=by
 have e0:fy cS [G,M,Y,W,S,F,T,A,cJ c,cI p]=some (vc []):=rfl;have e1:qB (dB nF (dg 8) (fy cS)) [G,M,Y,W,S,F,T,A,cJ c,cI p]=some (decide (c=[])):=by
  have:nF (vc c) (vc [])=some (.bl (decide (c=[]))):=by
   unfold nF;rw[LW.ux,LW.B9];rfl
  simp only[qB,dB,dg,aL,aN,aq,e0,this]
 unfold Ep;rw[e1];rcases eq_nil_or_concat c with rfl|⟨l,a,rfl⟩
 .rfl
 .have jI:decide (l.concat a=[])=false:=by simp
  rw[jI];have e2:dB fX (dg 8) (JQ (dC (.int 1))) [G,M,Y,W,S,F,T,A,cJ (l.concat a),cI p]=some (.int a):=by
   have:fX (vc (l.concat a)) (.int (-1))=some (.int a):=by
    show nX ((l.concat a).map D.int) (-1)=_;rw[concat_eq_append,map_append];exact QZ _ _
   simp only[dB,dg,JQ,dC,aL,aN,aq,this]
  have e3:behind (l.concat a) p=decide (a<p):=by simp[behind]
  rw[e3];simp only[qB,dB,dg,aL,aN,aq]at e2 ⊢;rw[e2];rfl
theorem EI (s:cq):∀k,∀c∈jl s k,c.length=k
 |0,c,h=>by simp[jl]at h;simp[h]
 |k+1,c,h=>by
  unfold jl uy at h;obtain⟨b,hb,hc⟩:=mem_flatMap.mp h;unfold mS at hc;obtain⟨p,_,rfl⟩:=mem_map.mp hc;simp[EI s k b hb]
theorem EJ (s:cq):∀cs:cp,(uy s cs).length<=cs.length*s.length
 |[]=>by simp[uy]
 |c::cs=>by
  have ih:=EJ s cs;have hl:(mS s c).length<=s.length:=by
   unfold mS;rw[ae];exact aX _ _
  have hm:(cs.length+1)*s.length=cs.length*s.length+s.length:=Nat.succ_mul _ _;have:uy s (c::cs)=mS s c++uy s cs:=by simp[uy]
  rw[this,aR,az,hm];omega
theorem Cg (s:cq):∀k,(jl s k).length<=s.length^k
 |0=>by simp[jl]
 |k+1=>aE (EJ s _) (by rw[Nat.pow_succ];exact Nat.mul_le_mul_right _ (Cg s k))
noncomputable def pN (b g w:Int) (free:cq):Nat:=(if(free.length:Int)<(if w=0 then b else g)then(free.length:Int)else(if w=0 then b else g)).toNat
def sq (Cf b g:Int) (m y:cq) (w:Int):cp:=jl (fN Cf m y) (pN b g w (fN Cf m y))
def n9 (Cf:Int) (m y:cq):(fN Cf m y).length<=Cf.toNat:=by
 unfold fN;have:=aX (λp=> !decide (p∈m++y)) (eG 0 Cf.toNat)
 rwa [eQ]at this
abbrev gD (l:cq):Prop:=l.Pairwise (·< ·)
theorem qS:∀{a b:cq},gD a->gD b->(∀p,p∈a↔p∈b)->a=b
 |[],[],_,_,_=>rfl
 |[],y::b,_,_,h=>absurd ((h y).mpr af) (by simp)
 |x::a,[],_,_,h=>absurd ((h x).mp af) (by simp)
 |x::a,y::b,ha,hb,h=>by
  obtain⟨a1,a2⟩:=pairwise_cons.mp ha;obtain⟨b1,b2⟩:=pairwise_cons.mp hb;have e:x=y:=by
   have h1:=(h x).mp af;have h2:=(h y).mpr af;rcases mem_cons.mp h1 with z|z
   .exact z
   .rcases mem_cons.mp h2 with u|u
    .exact u.symm
    .have:=b1 x z;have:=a1 y u;omega
  subst e;rw[qS a2 b2 λp=>?_]
  constructor
  .intro hp;have:=a1 p hp;rcases mem_cons.mp ((h p).mp (aj _ hp))with z|z
   .omega
   .exact z
  .intro hp;have:=b1 p hp;rcases mem_cons.mp ((h p).mpr (aj _ hp))with z|z
   .omega
   .exact z
noncomputable def code (l:cq):Nat->Nat
 |0=>0
 |k+1=>2*code l k+(if(k:Int)∈l then 1 else 0)
theorem yj (l:cq):∀k,code l k<2^k
 |0=>by simp[code]
 |k+1=>by
  have:=yj l k;unfold code;rw[Nat.pow_succ];split<;>omega
theorem code_inj:∀k,code a k=code b k->∀i:Nat,i<k->((i:Int)∈a↔(i:Int)∈b)
 |0,_,i,h=>absurd h (by omega)
 |k+1,e,i,h=>by
  unfold code at e;have e1:code a k=code b k:=by split at e<;>split at e<;>omega
  by_cases hi:i=k
  .subst hi;by_cases h1:(i:Int)∈a<;>by_cases h2:(i:Int)∈b<;>simp[h1,h2]at e ⊢<;>omega
  .exact code_inj k e1 i (by omega)
structure eK (Cf:Int) (m y:cq):Prop where
 rm:gD m
 ry:gD y
 im:∀p∈m,0<=p/\p<Cf
 iy:∀p∈y,0<=p/\p<Cf
 dj:∀p∈m,p∉y
def HS (hm:Cf<=9) (ra:gD a) (rb:gD b) (ia:∀p∈a,0<=p/\p<Cf) (ib:∀p∈b,0<=p/\p<Cf) (e:code a 9=code b 9):a=b:=by
 refine qS ra rb λp=>?_
 by_cases h:0<=p/\p<9
 .obtain⟨n,rfl⟩:∃n:Nat,p=(n:Int):=⟨p.toNat,by omega⟩
  exact code_inj 9 e n (by omega)
 .constructor
  .intro hp;have:=ia p hp;omega
  .intro hp;have:=ib p hp;omega
def lW (h:gD l):l.Nodup:=h.imp λ{a b} h=>by omega
theorem mH (n:Nat) (lo:Int):gD (eG lo n):=LW.mH n lo
def j8 {Cf:Int}{l:cq}(r:gD l) (i:∀p∈l,0<=p/\p<Cf):l.length<=Cf.toNat:=by
 have:l.length<=(eG 0 Cf.toNat).length:=(lW r).length_le_of_subset λp hp=>(LW.oK _ _ _).mpr (by have:=i p hp;omega)
 rwa [eQ]at this
def fJ:p∈fN Cf m y↔(0<=p/\p<Cf)/\p∉m/\p∉y:=by
 unfold fN;rw[mem_filter,LW.oK];simp only[mem_append,not_or,Bool.not_eq_true',decide_eq_false_iff_not];constructor
 .rintro⟨h1,h2⟩;exact⟨by omega,h2⟩
 .rintro⟨h1,h2⟩;exact⟨by omega,h2⟩
def oP (Cf:Int) (m y:cq):gD (fN Cf m y):=List.Pairwise.filter _ (mH _ _)
theorem zu (hs:gD s):∀(k:Nat) (c:cq),c∈jl s k↔c.length=k/\gD c/\∀p∈c,p∈s
 |0,c=>by
  simp only[jl,bw];constructor
  .rintro rfl;exact⟨rfl,List.Pairwise.nil,by simp⟩
  .rintro⟨h,_⟩;exact length_eq_zero_iff.mp h
 |k+1,c=>by
  unfold jl uy;rw[mem_flatMap];constructor
  .rintro⟨b,hb,hc⟩
   obtain⟨l,r,i⟩:=(zu hs k b).mp hb;unfold mS at hc;obtain⟨p,hp,rfl⟩:=mem_map.mp hc;obtain⟨RY,hp2⟩:=mem_filter.mp hp;refine⟨by simp[l],?_,?_⟩
   .refine pairwise_append.mpr ⟨r,pairwise_singleton _ _,λa ha q hq=>?_⟩
    rw[bw]at hq;subst hq;rcases eq_nil_or_concat b with rfl|⟨l',z,rfl⟩
    .simp at ha
    .have hz:z<q:=by simpa [behind]using hp2
     rw[concat_eq_append]at ha r;rcases mem_append.mp ha with u|u
     .have:=(pairwise_append.mp r).2.2 a u z (by simp);omega
     .rw[bw]at u;omega
   .intro q hq;rcases mem_append.mp hq with u|u
    .exact i q u
    .rw[bw]at u;subst u;exact RY
  .rintro⟨l,r,i⟩
   rcases eq_nil_or_concat c with rfl|⟨b,z,rfl⟩
   .simp at l
   .rw[concat_eq_append]at l r i ⊢;obtain⟨r1,_,r3⟩:=pairwise_append.mp r;refine⟨b,(zu hs k b).mpr ⟨by simpa using l,r1,λp hp=>i p (bE _ hp)⟩,?_⟩
    unfold mS;refine mem_map.mpr ⟨z,mem_filter.mpr ⟨i z (by simp),?_⟩,rfl⟩
    unfold behind;cases hq:b.getLast? with
    |none=>rfl
    |some q=>
     have:q∈b:=mem_of_getLast? hq
     simpa using r3 q this z (by simp)
def kQ:c∈sq Cf b g m y w↔c.length=pN b g w (fN Cf m y)/\gD c/\∀p∈c,p∈fN Cf m y:=zu (oP Cf m y) _ c
def dJ:p∈ξ l↔p∈l:=(sortI_perm l).mem_iff
def vq (ra:gD a) (rc:gD c) (d:∀p∈c,p∉a):gD (ξ (a++c)):=by
 refine LW.lV ?_;refine nodup_append.mpr ⟨lW ra,lW rc,λp hp q hq e=>?_⟩
 subst e;exact d p hq hp
def gz (h:eK Cf m y) (hc:c∈sq Cf b g m y w):eK Cf (df m y w c).1 (df m y w c).2:=by
 obtain⟨_,rc,ic⟩:=kQ.mp hc;unfold df;split
 .refine⟨vq h.rm rc λp hp=>(fJ.mp (ic p hp)).2.1,h.ry,λp hp=>?_,h.iy,λp hp=>?_⟩
  .rcases mem_append.mp (dJ.mp hp)with u|u
   .exact h.im p u
   .exact(fJ.mp (ic p u)).1
  .rcases mem_append.mp (dJ.mp hp)with u|u
   .exact h.dj p u
   .exact(fJ.mp (ic p u)).2.2
 .refine⟨h.rm,vq h.ry rc λp hp=>(fJ.mp (ic p hp)).2.2,h.im,λp hp=>?_,λp hp hq=>?_⟩
  .rcases mem_append.mp (dJ.mp hp)with u|u
   .exact h.iy p u
   .exact(fJ.mp (ic p u)).1
  .rcases mem_append.mp (dJ.mp hq)with u|u
   .exact h.dj p hp u
   .exact(fJ.mp (ic p u)).2.1 hp
theorem any_congr {α:Type}{f g:α->Bool}:∀{l:List α},(∀a∈l,f a=g a)->l.any f=l.any g
 |[],_=>rfl
 |a::l,h=>by rw[bH,bH,h a af,any_congr λb hb=>h b (aj _ hb)]
structure Gm where
 Cf:Int
 ls:cp
 b:Int
 g:Int
structure Gm.Ok (G:Gm):Prop where
 m0:0<=G.Cf
 m9:G.Cf<=9
 li:∀l∈G.ls,∀p∈l,0<=p/\p<G.Cf
 ll:∀l∈G.ls,l.length<1000000
 b1:1<=G.b
 b3:G.b<=4
 g1:1<=G.g
 g3:G.g<=4
def Gm.cY (G:Gm) (m y:cq) (w:Int):cp:=sq G.Cf G.b G.g m y w
def Gm.free (G:Gm) (m y:cq):cq:=fN G.Cf m y
def Gm.over (G:Gm) (m y:cq):Option Int:=yg G.ls m y
def Gm.AJ (G:Gm):Nat->cq->cq->Int->Int
 |0,m,y,w=>match G.over m y with|some i=>i|none=>1-w
 |n+1,m,y,w=>match G.over m y with
  |some i=>i
  |none=>if(G.cY m y w).any (λc=>G.AJ n (df m y w c).1 (df m y w c).2 (1-w)==w)then w else 1-w
def mK {G:Gm}{m y c:cq}{w:Int}(h:eK G.Cf m y) (hc:c∈G.cY m y w):(G.free (df m y w c).1 (df m y w c).2).length+c.length<=(G.free m y).length:=by
 obtain⟨_,rc,ic⟩:=kQ.mp hc;rw[<-aR];have mp:∀p,(p∈(df m y w c).1\/p∈(df m y w c).2)↔(p∈m\/p∈y\/p∈c):=by
  intro p;unfold df;split<;>simp only[dJ,mem_append]
  .constructor
   .rintro((a|a)|a)<;>simp[a]
   .rintro(a|a|a)<;>simp[a]
 refine bX ?_ λp hp=>?_
 .refine nodup_append.mpr ⟨lW (oP _ _ _),lW rc,λp hp q hq e=>?_⟩
  subst e;have:=fJ.mp hp;rcases(mp p).mpr (.inr (.inr hq))with u|u
  .exact this.2.1 u
  .exact this.2.2 u
 .rcases mem_append.mp hp with u|u
  .have:=fJ.mp u;refine fJ.mpr ⟨this.1,λz=>?_,λz=>?_⟩
   .rcases(mp p).mpr (.inl z)with u|u
    .exact this.2.1 u
    .exact this.2.2 u
   .rcases(mp p).mpr (.inr (.inl z))with u|u
    .exact this.2.1 u
    .exact this.2.2 u
  .exact ic p u
def zv {G:Gm}(hG:G.Ok) {m y:cq}(h:G.free m y=[]):G.over m y≠none:=by
 unfold Gm.over yg;split
 .simp
 .rename_i h1;rw[if_pos ?_]; · simp
  rw[all_eq_true];intro l hl;unfold fL;rw[bP];have h2:¬ iA m l=true:=λz=>h1 (bP.mpr ⟨l,hl,z⟩)
  unfold iA at h2;rw[all_eq_true]at h2;have:∃p∈l,p∉m:=by
   apply bV
   intro hn;apply h2
   intro p hp;simp only[decide_eq_true_eq];apply bV
   intro z;exact hn ⟨p,hp,z⟩
  obtain⟨p,hp,LQ⟩:=this;refine⟨p,hp,?_⟩;simp only[decide_eq_true_eq];apply bV
  intro z;have:p∈G.free m y:=fJ.mpr ⟨hG.li l hl p hp,LQ,z⟩;rw[h]at this;simp at this
def Mg {G:Gm}{m y:cq}{i:Int}(h:G.over m y=some i):i=0\/i=1:=by
 unfold Gm.over yg at h;split at h
 .cases h;exact .inl rfl
 .split at h
  .cases h;exact .inr rfl
  .cases h
def qU {G:Gm}(hG:G.Ok) {m y c:cq}{w:Int}(ho:G.over m y=none) (hc:c∈G.cY m y w):1<=c.length:=by
 obtain⟨l,_,_⟩:=kQ.mp hc;have hf:G.free m y≠[]:=λz=>zv hG z ho
 have h1:1<=(fN G.Cf m y).length:=by
  cases h:fN G.Cf m y with
  |nil=>exact absurd h hf
  |cons a r=>simp
 rw[l];unfold pN;have:=hG.b1;have:=hG.g1;split<;>split<;>omega
theorem EK {G:Gm}(hG:G.Ok):∀(n:Nat) (m y:cq) (w:Int),eK G.Cf m y->(G.free m y).length<=n->G.AJ n m y w=G.AJ (n+1) m y w
 |0,m,y,w,h,hn=>by
  have h0:G.free m y=[]:=length_eq_zero_iff.mp (by omega)
  unfold Gm.AJ;cases ho:G.over m y with
  |some i=>rfl
  |none=>exact absurd ho (zv hG h0)
 |n+1,m,y,w,h,hn=>by
  rw[Gm.AJ,Gm.AJ];cases ho:G.over m y with
  |some i=>rfl
  |none=>
   have:(G.cY m y w).any (λc=>G.AJ n (df m y w c).1 (df m y w c).2 (1-w)==w)=(G.cY m y w).any (λc=>G.AJ (n+1) (df m y w c).1 (df m y w c).2 (1-w)==w):=
    any_congr λc hc=>by
     have:=mK h hc;have:=qU hG ho hc;rw[EK hG n _ _ (1-w) (gz h hc) (by omega)]
   simp only[this]
def Gm.gA (G:Gm) (m y:cq) (w:Int):Int:=G.AJ 9 m y w
def F8 {G:Gm}(hG:G.Ok) (m y:cq):(G.free m y).length<=9:=by
 have:=n9 G.Cf m y;have:=hG.m9;unfold Gm.free;omega
theorem Ci {G:Gm}(hG:G.Ok) {m y:cq}{w:Int}(h:eK G.Cf m y):G.gA m y w=(match G.over m y with
  |some i=>i
  |none=>if(G.cY m y w).any (λc=>G.gA (df m y w c).1 (df m y w c).2 (1-w)==w)then w else 1-w):=by
 unfold Gm.gA;rw[EK hG 9 m y w h (F8 hG m y),Gm.AJ]
def jY {G:Gm}(hG:G.Ok) {m y:cq}{w:Int}(h:eK G.Cf m y) (hw:w=0\/w=1):G.gA m y w=0\/G.gA m y w=1:=by
 rw[Ci hG h];cases ho:G.over m y with
 |some i=>exact Mg ho
 |none=>simp only;split<;>omega
def t9 (m y:cq) (w:Int):D:=.t [vc m,vc y,.int w]
def EL:D->Option (cq×cq×Int)
 |.t [.t a,.t b,.int w]=>match χ a,χ b with|some m,some y=>some (m,y,w)|_,_=>none
 |_=>none
def vt (m y:cq) (w:Int):EL (t9 m y w)=some (m,y,w):=by
 show(match χ (m.map D.int),χ (y.map D.int)with|some m,some y=>some (m,y,w)|_,_=>none)=_
 rw[ij,ij]
def Q0 (h:EL k=some (m,y,w)):k=t9 m y w:=by
 unfold EL at h;split at h
 .rename_i a b w';split at h
  .rename_i m' y' e1 e2;cases h;rw[fE e1,fE e2];rfl
  .cases h
 .cases h
def HU (k:D):Nat:=match EL k with|some (m,y,w)=>code m 9*1024+code y 9*2+w.toNat|none=>0
open Classical in
def Gm.W (G:Gm) (k:D):Option D:=match EL k with
 |some (m,y,w)=>if eK G.Cf m y/\(w=0\/w=1)then some (.int (G.gA m y w))else none
 |none=>none
def F9 {G:Gm}{k d:D}(h:G.W k=some d):∃m y w,k=t9 m y w/\eK G.Cf m y/\(w=0\/w=1)/\d=.int (G.gA m y w):=by
 unfold Gm.W at h;split at h
 .rename_i m y w e;split at h
  .rename_i hh;cases h;exact⟨m,y,w,Q0 e,hh.1,hh.2,rfl⟩
  .cases h
 .cases h
def HV {G:Gm}{m y:cq}{w:Int}(h:eK G.Cf m y) (hw:w=0\/w=1):G.W (t9 m y w)=some (.int (G.gA m y w)):=by
 unfold Gm.W;rw[vt];simp only;rw[if_pos ⟨h,hw⟩]
def Cj (m y:cq) (w:Int):HU (t9 m y w)=code m 9*1024+code y 9*2+w.toNat:=by unfold HU;rw[vt]
def U6 {G:Gm}(hG:G.Ok) (k k' d d':D) (h:G.W k=some d) (h':G.W k'=some d') (e:HU k=HU k'):k=k':=by
 obtain⟨m,y,w,rfl,p,hw,rfl⟩:=F9 h;obtain⟨m',y',w',rfl,p',XE,rfl⟩:=F9 h';rw[Cj,Cj]at e;have a1:=yj y 9;have a2:=yj y' 9;have e1:w=w':=by rcases hw with rfl|rfl<;>rcases XE with rfl|rfl<;>simp at e ⊢<;>omega
 subst e1;have e2:code y 9=code y' 9:=by rcases hw with rfl|rfl<;>simp at e<;>omega
 have e3:code m 9=code m' 9:=by omega
 rw[HS hG.m9 p.rm p'.rm p.im p'.im e3,HS hG.m9 p.ry p'.ry p.iy p'.iy e2]
theorem wL:∀l:cq,pK (l.map D.int)=true
 |[]=>by unfold pK;rfl
 |a::l=>by
  show pK (.int a::l.map D.int)=true;unfold pK qg;rw[wL l];rfl
def Kx (m y:cq) (w:Int):qg (t9 m y w)=true/\eN (t9 m y w)<=4:=by
 constructor
 .have e:∀l:cq,qg (vc l)=true:=λl=>by unfold vc qg;exact wL l
  simp[t9,qg,pK,e]
 .unfold t9;have h1:=LW.ux m;have h2:=LW.ux y;unfold eN jj;rw[h1];unfold jj;rw[h2];simp[jj,eN]
def ZZ {G:Gm}(k d:D) (h:G.W k=some d):HU k<524288:=by
 obtain⟨m,y,w,rfl,p,hw,rfl⟩:=F9 h;rw[Cj];have a1:=yj y 9;have a2:=yj m 9;rcases hw with rfl|rfl<;>simp<;>omega
def jy (G:Gm) (hG:G.Ok):fi:=⟨G.W,HU,524288,by decide,λk d h=>ZZ k d h,λk k' d d' h h' e=>U6 hG k k' d d' h h' e,λk d h=>by
 obtain⟨m,y,w,rfl,_⟩:=F9 h;exact Kx m y w⟩
noncomputable def uz:fi:=⟨λ_=>none,λ_=>0,0,by decide,(λ_ _ h=>by cases h),(λ_ _ _ _ h=>by cases h),(λ_ _ h=>by cases h)⟩
def linesOf:cw->Option (cp)
 |[]=>some []
 |.t ds::r=>match χ ds,linesOf r with|some l,some ls=>some (l::ls)|_,_=>none
 |_=>none
theorem uA:∀ls:cp,linesOf (ls.map vc)=some ls
 |[]=>rfl
 |l::ls=>by
  show(match χ (l.map D.int),linesOf (ls.map vc)with|some l,some ls=>some (l::ls)|_,_=>none)=_
  rw[ij,uA ls]
def Ky:D->Option Gm
 |.t [.t [.int Cf,.t ls],.int _,.int b,.int g]=>(linesOf ls).map λls=>⟨Cf,ls,b,g⟩
 |_=>none
def yk (Cf:Int) (ls:cp) (f b g:Int):Ky (la Cf ls f b g)=some ⟨Cf,ls,b,g⟩:=by
 show(linesOf (ls.map vc)).map _=_;rw[uA];rfl
open Classical in
def specOf (d:D):fi:=match Ky d with
 |some G=>if h:G.Ok then jy G h else uz
 |none=>uz
def Aq {G:Gm}(hG:G.Ok) (f:Int):specOf (la G.Cf G.ls f G.b G.g)=jy G hG:=by
 unfold specOf;rw[yk];simp only;rw[dif_pos hG]
end GP
namespace GP
open DL
theorem fill:∀(F:cq) (P:Int->Bool) (k:Nat),F.countP P<=k->k<=F.length->∃c:cq,c.Sublist F/\c.length=k/\∀x∈F,P x=true->x∈c
 |[],P,k,_,h2=>⟨[],List.Sublist.refl _,by simp at h2;simp[h2],by simp⟩
 |x::F,P,k,h1,h2=>by
  rw[countP_cons]at h1;rw[az]at h2;by_cases hx:P x=true
  .rw[if_pos hx]at h1;obtain⟨c,s,l,i⟩:=fill F P (k-1) (by omega) (by omega)
   refine⟨x::c,s.cons_cons x,by rw[az];omega,λz hz pz=>?_⟩
   rcases mem_cons.mp hz with rfl|u
   .exact af
   .exact aj _ (i z u pz)
  .rw[if_neg hx]at h1;by_cases hk:k<=F.length
   .obtain⟨c,s,l,i⟩:=fill F P k (by omega) hk
    refine⟨c,s.cons x,l,λz hz pz=>?_⟩
    rcases mem_cons.mp hz with rfl|u
    .exact absurd pz hx
    .exact i z u pz
   .exact⟨x::F,List.Sublist.refl _,by rw[az];omega,λz hz _=>hz⟩
def oQ {G:Gm}{m y A:cq}{w:Int}(ha:A.length<=(if w=0 then G.b else G.g).toNat):∃c∈G.cY m y w,∀p∈G.free m y,p∈A->p∈c:=by
 have hc:(G.free m y).countP (λp=>decide (p∈A))<=A.length:=by
  rw[countP_eq_length_filter];exact bX ((lW (oP _ _ _)).sublist filter_sublist) λp hp=>by
   have:=(mem_filter.mp hp).2
   simpa using this
 have xn:(G.free m y).countP (λp=>decide (p∈A))<=(G.free m y).length:=countP_le_length
 obtain⟨c,s,l,i⟩:=fill (G.free m y) (λp=>decide (p∈A)) (pN G.b G.g w (G.free m y)) (by unfold pN;split<;>omega) (by unfold pN;split<;>omega)
 exact⟨c,kQ.mpr ⟨l,(oP _ _ _).sublist s,λp hp=>s.subset hp⟩,λp hp hA=>i p hp (by simpa using hA)⟩
def vv {G:Gm}(hG:G.Ok) {m y c:cq}{w:Int}(hc:c∈G.cY m y w):c.length<=(if w=0 then G.b else G.g).toNat:=by
 obtain⟨l,_,_⟩:=kQ.mp hc;rw[l];unfold pN;have:=hG.b1;have:=hG.g1;split<;>split<;>omega
def vX {G:Gm}{m y:cq}:G.over m y=some 0↔∃l∈G.ls,∀p∈l,p∈m:=by
 unfold Gm.over yg;have e:G.ls.any (iA m)=true↔∃l∈G.ls,∀p∈l,p∈m:=by
  rw[bP];simp only[iA,all_eq_true,decide_eq_true_eq]
 constructor
 .intro h;split at h
  .rename_i h1;exact e.mp h1
  .split at h<;>simp at h
 .intro h;rw[if_pos (e.mpr h)]
def vY {G:Gm}{m y:cq}(h0:¬ ∃l∈G.ls,∀p∈l,p∈m):G.over m y=some 1↔∀l∈G.ls,∃p∈l,p∈y:=by
 have h1:¬ G.ls.any (iA m)=true:=by
  intro h;rw[bP]at h;simp only[iA,all_eq_true,decide_eq_true_eq]at h;exact h0 h
 unfold Gm.over yg;rw[if_neg h1];have e:G.ls.all (fL y)=true↔∀l∈G.ls,∃p∈l,p∈y:=by
  rw[all_eq_true];simp only[fL,bP,decide_eq_true_eq]
 constructor
 .intro h;split at h
  .rename_i h2;exact e.mp h2
  .simp at h
 .intro h;rw[if_pos (e.mpr h)]
def oR (G:Gm) (m y:cq):G.over m y=some 0\/G.over m y=some 1\/G.over m y=none:=by
 cases h:G.over m y with
 |none=>exact .inr (.inr rfl)
 |some i=>rcases Mg h with rfl|rfl<;>simp
def HW {G:Gm}(hG:G.Ok) {m y:cq}(h:eK G.Cf m y) (ho:G.over m y=none):G.gA m y 0=0↔∃c∈G.cY m y 0,G.gA (df m y 0 c).1 (df m y 0 c).2 1=0:=by
 rw[Ci hG h,ho];simp only;have e:(G.cY m y 0).any (λc=>G.gA (df m y 0 c).1 (df m y 0 c).2 (1-0)==0)=true↔∃c∈G.cY m y 0,G.gA (df m y 0 c).1 (df m y 0 c).2 1=0:=by
  rw[bP];simp only[beq_iff_eq];rfl
 constructor
 .intro h1;split at h1
  .rename_i h2;exact e.mp h2
  .omega
 .intro h1;rw[if_pos (e.mpr h1)]
def Mh {G:Gm}(hG:G.Ok) {m y:cq}(h:eK G.Cf m y) (ho:G.over m y=none):G.gA m y 1=0↔∀c∈G.cY m y 1,G.gA (df m y 1 c).1 (df m y 1 c).2 0=0:=by
 rw[Ci hG h,ho];simp only;have e:(G.cY m y 1).any (λc=>G.gA (df m y 1 c).1 (df m y 1 c).2 (1-1)==1)=true↔∃c∈G.cY m y 1,G.gA (df m y 1 c).1 (df m y 1 c).2 0=1:=by
  rw[bP];simp only[beq_iff_eq];rfl
 constructor
 .intro h1 c hc;rcases jY (w:=0) hG (gz h hc) (.inl rfl)with z|z
  .exact z
  .rw[if_pos (e.mpr ⟨c,hc,z⟩)]at h1;omega
 .intro h1;rw[if_neg]
  .rfl
  .intro z;obtain⟨c,hc,u⟩:=e.mp z;have:=h1 c hc;omega
def lD {G:Gm}(hG:G.Ok) {m y:cq}{w i:Int}(h:eK G.Cf m y) (ho:G.over m y=some i):G.gA m y w=i:=by
 rw[Ci hG h,ho]
def Q1 (m y c:cq):df m y 0 c=(ξ (m++c),y):=rfl
def Q2 (m y c:cq):df m y 1 c=(m,ξ (y++c)):=rfl
end GP
namespace GP
open DL
open L2 (nX Eh)
noncomputable def Γ:Nat->cq->cp
 |0,_=>[[]]
 |_+1,[]=>[]
 |k+1,p::r=>(Γ k r).map (p:: ·)++Γ (k+1) r
theorem qV:∀(k:Nat) (s c:cq),c∈Γ k s->c.length=k/\∀p∈c,p∈s
 |0,s,c,h=>by simp[Γ]at h;subst h;simp
 |k+1,[],c,h=>by simp[Γ]at h
 |k+1,q::r,c,h=>by
  simp only[Γ,mem_append,mem_map]at h;rcases h with⟨d,hd,rfl⟩|h
  .obtain⟨h1,h2⟩:=qV k r d hd;refine⟨by simp[h1],λp hp=>?_⟩
   rcases mem_cons.mp hp with rfl|hp
   .exact af
   .exact aj _ (h2 p hp)
  .obtain⟨h1,h2⟩:=qV (k+1) r c h;exact⟨h1,λp hp=>aj _ (h2 p hp)⟩
theorem oS:∀(k:Nat) (s:cq),s.length<k->Γ k s=[]
 |0,s,h=>by omega
 |k+1,[],_=>rfl
 |k+1,p::r,h=>by
  simp only[az]at h;simp[Γ,oS k r (by omega),oS (k+1) r (by omega)]
theorem wM:∀(s:cq),Γ s.length s=[s]
 |[]=>rfl
 |p::r=>by simp[Γ,wM r,oS (r.length+1) r (by omega)]
theorem HX:∀(s:cq),Γ 1 s=s.map λp=>[p]
 |[]=>rfl
 |p::r=>by
  have:=HX r;simp[Γ,this]
def ext_nil (s:cq):mS s []=s.map λp=>[p]:=by
 have:s.filter (behind [])=s:=filter_eq_self.mpr λp _=>rfl
 simp[mS,this]
def As (h:c≠[]):behind (p::c) q=behind c q:=by
 unfold behind;rw[getLast?_cons];cases hc:c.getLast? with
 |none=>exact absurd (getLast?_eq_none_iff.mp hc) h
 |some x=>rfl
def Ck (h:c≠[]) (hp:∀q∈c,p<q):behind c p=false:=by
 unfold behind;cases hc:c.getLast? with
 |none=>exact absurd (getLast?_eq_none_iff.mp hc) h
 |some x=>
  have:=hp x (mem_of_getLast? hc);simp;omega
def TU (h:c≠[]) (hp:∀q∈c,p<q):mS (p::r) c=mS r c:=by
 unfold mS;rw[bu,Ck h hp];rfl
def NI (hr:∀q∈r,p<q) (hc:∀q∈c,q∈r):mS (p::r) (p::c)=(mS r c).map (p:: ·):=by
 unfold mS;rw[aW];by_cases h:c=[]
 .subst h;have h1:behind [p] p=false:=by simp[behind]
  have h2:r.filter (behind [p])=r:=filter_eq_self.mpr λq hq=>by simp[behind];exact hr q hq
  have h3:r.filter (behind [])=r:=filter_eq_self.mpr λq _=>rfl
  rw[bu,h1,h2,h3];rfl
 .have h1:behind (p::c) p=false:=by rw[As h];exact Ck h λq hq=>hr q (hc q hq)
  have h2:r.filter (behind (p::c))=r.filter (behind c):=filter_congr λq _=>As h
  rw[bu,h1,h2];rfl
theorem lE {α β:Type}{f g:α->List β}:∀{l:List α},(∀a∈l,f a=g a)->l.flatMap f=l.flatMap g
 |[],_=>rfl
 |a::l,h=>by rw[flatMap_cons,flatMap_cons,h a af,lE λb hb=>h b (aj _ hb)]
theorem Cm:∀(k:Nat) (s:cq),gD s->Γ (k+1) s=(Γ k s).flatMap (mS s)
 |0,s,_=>by simp[HX,Γ,ext_nil]
 |k+1,[],_=>by simp[Γ]
 |k+1,p::r,h=>by
  have hr:∀q∈r,p<q:=(pairwise_cons.mp h).1;have rr:gD r:=(pairwise_cons.mp h).2;have i1:=Cm k r rr;have i2:=Cm (k+1) r rr;show(Γ (k+1) r).map (p:: ·)++Γ (k+2) r=((Γ k r).map (p:: ·)++Γ (k+1) r).flatMap (mS (p::r))
  rw[flatMap_append]
  congr 1
  .rw[flatMap_map,i1,map_flatMap];exact lE λc hc=>(NI hr (qV k r c hc).2).symm
  .rw[i2];refine lE λc hc=>?_
   obtain⟨h1,h2⟩:=qV (k+1) r c hc;exact(TU (λz=>by rw[z]at h1;cases h1) λq hq=>hr q (h2 q hq)).symm
theorem Co (h:gD s):∀k,jl s k=Γ k s
 |0=>by cases s<;>rfl
 |k+1=>by rw[Cm k s h,<-Co h k];rfl
def vM (c:Nat) (ps:cq):cp:=if ps.length<=c then[ps]else Γ c ps
def Cp (h:c<=ps.length):vM c ps=Γ c ps:=by
 unfold vM;split
 .have:c=ps.length:=by omega
  rw[this,wM]
 .rfl
def Cq (c:Nat) (ps:cq) (k:Nat):cp:=match ps[k]? with
 |some p=>(Γ c (ps.drop (k+1))).map (p:: ·)
 |none=>[]
theorem EM:∀(c:Nat) (ps:cq),(List.range (ps.length-c)).flatMap (Cq c ps)=Γ (c+1) ps
 |c,[]=>by simp[Γ]
 |c,p::r=>by
  by_cases h:c<=r.length
  .have e:(p::r).length-c=(r.length-c)+1:=by simp;omega
   rw[e,range_succ_eq_map,flatMap_cons,flatMap_map];show Cq c (p::r) 0++_=(Γ c r).map (p:: ·)++Γ (c+1) r
   congr 1
   rw[<-EM c r];exact lE λk _=>rfl
  .have e:(p::r).length-c=0:=by simp;omega
   rw[e,oS (c+1) (p::r) (by simp;omega)]
   rfl
theorem vw:∀(c:Nat) (ps:cq),(Γ c ps).length<=2^ps.length
 |0,ps=>by simp[Γ];exact Nat.one_le_two_pow
 |c+1,[]=>by simp[Γ]
 |c+1,p::r=>by
  have h1:=vw c r;have h2:=vw (c+1) r;simp only[Γ,aR,ae,az,Nat.pow_succ];omega
def HY {c:Nat}{ps:cq}:(vM c ps).length<=2^ps.length:=by
 unfold vM;split
 .simp;exact Nat.one_le_two_pow
 .exact vw c ps
def Cr {Cf b g:Int}{w:Int}(hk:0<=(if w=0 then b else g)):sq Cf b g m y w=vM (if w=0 then b else g).toNat (fN Cf m y):=by
 unfold sq pN;rw[Co (oP Cf m y)];generalize (if w=0 then b else g)=k at hk ⊢
 by_cases h:((fN Cf m y).length:Int)<k
 .rw[if_pos h,Int.toNat_natCast,wM];unfold vM;rw[if_pos (by omega)]
 .rw[if_neg h,Cp (by omega)]
end GP
namespace GP
open DL
def WW (G:Gm) (m y:cq) (G':Gm) (m' y':cq):Prop:=
 ∀l∈G.ls,(∀p∈l,p∉y)->∃l'∈G'.ls,(∀p∈l',p∉y')/\∀p∈l',p∉m'->p∈l/\p∉m
def WW.vX (h:eK G.Cf m y) (d:WW G m y G' m' y') (z:∃l∈G.ls,∀p∈l,p∈m):∃l∈G'.ls,∀p∈l,p∈m':=by
 obtain⟨l,hl,hp⟩:=z;obtain⟨l',lq,_,s⟩:=d l hl λp q=>h.dj p (hp p q)
 refine⟨l',lq,λp q=>?_⟩
 by_cases hm:p∈m'
 .exact hm
 .exact absurd (hp p (s p q hm).1) (s p q hm).2
theorem WW.vY (h:eK G.Cf m y) (d:WW G m y G' m' y') (vF:G'.over m' y'=some 1):G.over m y=some 1:=by
 have n0':¬ ∃l∈G'.ls,∀p∈l,p∈m':=λz=>by rw[GP.vX.mpr z]at vF;simp at vF
 have a:=(GP.vY n0').mp vF;refine(GP.vY λz=>n0' (d.vX h z)).mpr λl hl=>?_
 by_cases hy:∃p∈l,p∈y
 .exact hy
 .obtain⟨l',lq,o,_⟩:=d l hl λp q u=>hy ⟨p,q,u⟩
  obtain⟨p,q,u⟩:=a l' lq;exact absurd u (o p q)
def vy (hG:G.Ok) (N9:G'.Ok) (em:G.Cf=G'.Cf) (eb:G.b=G'.b) (eg:G.g=G'.g):∀(n:Nat) (m y m' y':cq) (w:Int),eK G.Cf m y->eK G'.Cf m' y'->WW G m y G' m' y'->(w=0\/w=1)->(G'.free m' y').length<=n->
  G.gA m y w=0->G'.gA m' y' w=0:=by
 intro n;induction n with
 |zero=>
  intro m y m' y' w h h' d hw hn ym;have h0:G'.free m' y'=[]:=length_eq_zero_iff.mp (by omega)
  rcases oR G' m' y' with vF|vF|vF
  .exact lD N9 h' vF
  .rw[lD hG h (d.vY h vF)]at ym;omega
  .exact absurd vF (zv N9 h0)
 |succ n ih=>
  intro m y m' y' w h h' d hw hn ym;rcases oR G' m' y' with vF|vF|vF
  .exact lD N9 h' vF
  .rw[lD hG h (d.vY h vF)]at ym;omega
  .have n0':¬ ∃l∈G'.ls,∀p∈l,p∈m':=λz=>by rw[GP.vX.mpr z]at vF;simp at vF
   rcases oR G m y with ho|ho|ho
   .exact absurd (d.vX h (GP.vX.mp ho)) n0'
   .rw[lD hG h ho]at ym;omega
   .rcases hw with rfl|rfl
    .obtain⟨c,hc,wc⟩:=(HW hG h ho).mp ym;have hl:=vv hG hc;rw[if_pos rfl]at hl;obtain⟨c',tZ,qF⟩:=oQ (G:=G') (m:=m') (y:=y') (A:=c) (w:=0) (by rw[if_pos rfl];omega)
     refine(HW N9 h' vF).mpr ⟨c',tZ,?_⟩;have f1:=mK h' tZ;have f2:=qU N9 vF tZ;refine ih _ _ _ _ 1 (gz h hc) (gz h' tZ) ?_ (.inr rfl) (by omega) wc
     intro l lq Oa;rw[Q1]at Oa ⊢;rw[Q1];obtain⟨l',G1,o,s⟩:=d l lq Oa;refine⟨l',G1,o,λp hp hm=>?_⟩
     have nm:p∉m':=λz=>hm (dJ.mpr (bE _ z))
     obtain⟨s1,s2⟩:=s p hp nm;refine⟨s1,λz=>?_⟩
     rcases mem_append.mp (dJ.mp z)with u|u
     .exact s2 u
     .exact hm (dJ.mpr (aM _ (qF p (fJ.mpr ⟨em▸hG.li l lq p s1,nm,o p hp⟩) u)))
    .refine(Mh N9 h' vF).mpr λc' tZ=>?_
     have hl:=vv N9 tZ;rw[if_neg (by omega)]at hl
     obtain⟨c,hc,qF⟩:=oQ (G:=G) (m:=m) (y:=y) (A:=c') (w:=1) (by rw[if_neg (by omega)];omega)
     have wc:=(Mh hG h ho).mp ym c hc;have f1:=mK h' tZ;have f2:=qU N9 vF tZ;refine ih _ _ _ _ 0 (gz h hc) (gz h' tZ) ?_ (.inl rfl) (by omega) wc
     intro l lq Oa;rw[Q2]at Oa ⊢;rw[Q2];have hy:∀p∈l,p∉y:=λp q z=>Oa p q (dJ.mpr (bE _ z))
     obtain⟨l',G1,o,s⟩:=d l lq hy;refine⟨l',G1,λp hp z=>?_,s⟩
     rcases mem_append.mp (dJ.mp z)with u|u
     .exact o p hp u
     .have fr:=fJ.mp ((kQ.mp tZ).2.2 p u);obtain⟨s1,s2⟩:=s p hp fr.2.1;exact Oa p s1 (dJ.mpr (aM _ (qF p (fJ.mpr ⟨hG.li l lq p s1,s2,hy p s1⟩) u)))
def WX {G G':Gm}(hG:G.Ok) (N9:G'.Ok) (em:G.Cf=G'.Cf) (eb:G.b=G'.b) (eg:G.g=G'.g) {m y m' y':cq}{w:Int}(h:eK G.Cf m y) (h':eK G'.Cf m' y') (hw:w=0\/w=1) (d:WW G m y G' m' y') (d':WW G' m' y' G m y):G.gA m y w=G'.gA m' y' w:=by
 have a:=vy hG N9 em eb eg _ m y m' y' w h h' d hw (av _);have b:=vy N9 hG em.symm eb.symm eg.symm _ m' y' m y w h' h d' hw (av _);rcases jY hG h hw with z|z
 .rw[z,a z]
 .rcases jY N9 h' hw with u|u
  .rw[b u]at z;omega
  .rw[z,u]
theorem zw:∀(k:Nat) (ps c:cq),c.Sublist ps->c.length=k->c∈Γ k ps
 |0,ps,c,_,h=>by
  have:c=[]:=length_eq_zero_iff.mp h;subst this;cases ps<;>simp[Γ]
 |k+1,[],c,s,h=>by
  have:=s.length_le;simp at this;subst this;simp at h
 |k+1,p::r,c,s,h=>by
  simp only[Γ,mem_append,mem_map];cases s with
  |cons _ s=>exact .inr (zw (k+1) r c s h)
  |cons_cons _ s=>
   rename_i c';exact .inl ⟨c',zw k r c' s (by simpa using h),rfl⟩
def HZ {k:Nat}{ps A:cq}(hA:ps.countP (λp=>decide (p∈A))<=k):∃c∈vM k ps,∀p∈ps,p∈A->p∈c:=by
 unfold vM;by_cases h:ps.length<=k
 .rw[if_pos h];exact⟨ps,by simp,λp hp _=>hp⟩
 .rw[if_neg h];obtain⟨c,s,l,i⟩:=fill ps (λp=>decide (p∈A)) k hA (by omega)
  exact⟨c,zw k ps c s l,λp hp ha=>i p hp (by simpa using ha)⟩
def sr (h:c∈vM k ps):(∀p∈c,p∈ps)/\c.length<=k/\(c.length=k\/∀p∈ps,p∈c):=by
 unfold vM at h;split at h
 .simp at h;subst h;exact⟨λp hp=>hp,by omega,.inr λp hp=>hp⟩
 .obtain⟨h1,h2⟩:=qV k ps c h;exact⟨h2,by omega,.inl h1⟩
noncomputable def Gm.at (G:Gm) (L:cp):Gm:={G with ls:=L}
structure TV (G:Gm) (L:cp):Prop where
 li:∀l∈L,∀p∈l,0<=p/\p<G.Cf
 ll:∀l∈L,l.length<1000000
theorem Gm.Ok.at (hG:G.Ok) (h:TV G L):(G.at L).Ok:=⟨hG.m0,hG.m9,h.li,h.ll,hG.b1,hG.b3,hG.g1,hG.g3⟩
def iW (Cf:Int):eK Cf [] []:=⟨List.Pairwise.nil,List.Pairwise.nil,(λp h=>by cases h),(λp h=>by cases h),λp h=>by cases h⟩
def quick {G:Gm}(hG:G.Ok) {m y l:cq}(h:eK G.Cf m y) (hl:l∈G.ls) (hy:∀p∈l,p∉y) (hb:l.length<=G.b.toNat):G.gA m y 0=0:=by
 rcases oR G m y with ho|ho|ho
 .exact lD hG h ho
 .exfalso;have n0:¬ ∃l∈G.ls,∀p∈l,p∈m:=λz=>by rw[vX.mpr z]at ho;simp at ho
  obtain⟨p,hp,u⟩:=(vY n0).mp ho l hl;exact hy p hp u
 .obtain⟨c,hc,qF⟩:=oQ (G:=G) (m:=m) (y:=y) (A:=l) (w:=0) (by rw[if_pos rfl];exact hb)
  refine(HW hG h ho).mpr ⟨c,hc,lD hG (gz h hc) (vX.mpr ⟨l,hl,λp hp=>?_⟩)⟩
  rw[Q1];by_cases hm:p∈m
  .exact dJ.mpr (bE _ hm)
  .exact dJ.mpr (aM _ (qF p (fJ.mpr ⟨hG.li l hl p hp,hm,hy p hp⟩) hp))
def EN {G:Gm}{L:cp}(h1:L≠[]) (h2:[]∉L):(G.at L).over [] []=none:=by
 have n0:¬ ∃l∈(G.at L).ls,∀p∈l,p∈([]:cq):=λ⟨l,hl,hp⟩=>by
  cases l with
  |nil=>exact h2 hl
  |cons a r=>exact absurd (hp a af) (by simp)
 rcases oR (G.at L) [] []with ho|ho|ho
 .exact absurd (vX.mp ho) n0
 .cases L with
  |nil=>exact absurd rfl h1
  |cons a r=>
   obtain⟨p,_,u⟩:=(vY n0).mp ho a af;cases u
 .exact ho
section
variable {G:Gm} (hG:G.Ok) (hL:TV G L) (h1:L≠[]) (h2:[]∉L) {ps:cq} (nd:ps.Nodup) (Jj:∀p,p∈ps↔∃l∈L,p∈l)
include hG hL Jj
theorem uB {c:cq}(hc:∀p∈c,p∈ps) (hn:c.Nodup):eK G.Cf (ξ c) []/\eK G.Cf [] (ξ c):=by
 have r:gD (ξ c):=LW.lV hn;have i:∀p∈ξ c,0<=p/\p<G.Cf:=λp hp=>by
  obtain⟨l,hl,N6⟩:=(Jj p).mp (hc p (dJ.mp hp));exact hL.li l hl p N6
 exact⟨⟨r,List.Pairwise.nil,i,(λp h=>by cases h),λp _ h=>by cases h⟩,⟨List.Pairwise.nil,r,(λp h=>by cases h),i,λp h=>by cases h⟩⟩
include nd in
theorem count_le {c:cq}:ps.countP (λp=>decide (p∈c))<=c.length:=by
 rw[countP_eq_length_filter];exact bX (nd.sublist filter_sublist) λp hp=>by
  have:=(mem_filter.mp hp).2
  simpa using this
theorem qW {k:Nat}{c:cq}(nd:ps.Nodup) (h:c∈vM k ps):c.Nodup:=by
 unfold vM at h;split at h
 .simp at h;subst h;exact nd
 .have:∀(k:Nat) (ps c:cq),c∈Γ k ps->c.Sublist ps:=by
   intro k ps;induction ps generalizing k with
   |nil=>intro c h;cases k<;>simp[Γ]at h;subst h;exact List.Sublist.refl _
   |cons p r ih=>
    intro c h;cases k with
    |zero=>simp[Γ]at h;subst h;exact nil_sublist _
    |succ k=>
     simp only[Γ,mem_append,mem_map]at h;rcases h with⟨d,hd,rfl⟩|h
     .exact(ih k d hd).cons_cons p
     .exact(ih (k+1) c h).cons p
  exact nd.sublist (this k ps c h)
include h1 h2 nd in
theorem Q3:(G.at L).gA [] [] 0=0↔∃c∈vM G.b.toNat ps,(G.at L).gA (ξ c) [] 1=0:=by
 have hA:=hG.at hL;have p0:eK (G.at L).Cf [] []:=iW _;rw[HW hA p0 (EN h1 h2)];constructor
 .rintro⟨c,hc,wc⟩
  have hl:=vv hA hc;rw[if_pos rfl]at hl;have cnt:=count_le hG hL nd Jj (c:=c);obtain⟨d,hd,qF⟩:=HZ (k:=G.b.toNat) (ps:=ps) (A:=c) (aE cnt hl);have pd:=(uB hG hL Jj (sr hd).1 (qW hG hL Jj nd hd)).1;refine⟨d,hd,vy hA hA rfl rfl rfl _ _ _ _ _ 1 (gz p0 hc) pd ?_ (.inr rfl) (av _) wc⟩;intro l lq Oa;refine⟨l,lq,(λp hp z=>by cases z),λp hp hm=>⟨hp,λz=>?_⟩⟩
  rw[Q1]at z;rcases mem_append.mp (dJ.mp z)with u|u
  .cases u
  .exact hm (dJ.mpr (qF p ((Jj p).mpr ⟨l,lq,hp⟩) u))
 .rintro⟨d,hd,wd⟩
  have pd:=(uB hG hL Jj (sr hd).1 (qW hG hL Jj nd hd)).1;obtain⟨c,hc,qF⟩:=oQ (G:=G.at L) (m:=[]) (y:=[]) (A:=d) (w:=0) (by rw[if_pos rfl];exact(sr hd).2.1)
  refine⟨c,hc,vy hA hA rfl rfl rfl _ _ _ _ _ 1 pd (gz p0 hc) ?_ (.inr rfl) (av _) wd⟩;intro l lq Oa;refine⟨l,lq,(λp hp z=>by cases z),λp hp hm=>⟨hp,λz=>?_⟩⟩
  refine hm ?_;rw[Q1];exact dJ.mpr (aM _ (qF p (fJ.mpr ⟨hL.li l lq p hp,by simp,by simp⟩) (dJ.mp z)))
include h1 h2 nd in
theorem Q4:(G.at L).gA [] [] 1=1↔∃c∈vM G.g.toNat ps,(∀l∈L,l.length<=G.b.toNat->∃p∈l,p∈c)/\(G.at L).gA [] (ξ c) 0=1:=by
 have hA:=hG.at hL;have p0:eK (G.at L).Cf [] []:=iW _;have w1:(G.at L).gA [] [] 1=1↔∃c∈(G.at L).cY [] [] 1,(G.at L).gA (df [] [] 1 c).1 (df [] [] 1 c).2 0=1:=by
  have e:=Mh hA p0 (EN h1 h2);constructor
  .intro z;apply bV
   intro n;have:(G.at L).gA [] [] 1=0:=e.mpr λc hc=>by
    rcases jY (w:=0) hA (gz p0 hc) (.inl rfl)with u|u
    .exact u
    .exact absurd ⟨c,hc,u⟩ n
   omega
  .rintro⟨c,hc,u⟩
   rcases jY (w:=1) hA p0 (.inr rfl)with z|z
   .have:=e.mp z c hc;omega
   .exact z
 rw[w1];constructor
 .rintro⟨c,hc,wc⟩
  have hl:=vv hA hc;rw[if_neg (by omega)]at hl
  have cnt:=count_le hG hL nd Jj (c:=c);obtain⟨d,hd,qF⟩:=HZ (k:=G.g.toNat) (ps:=ps) (A:=c) (aE cnt hl);have pd:=(uB hG hL Jj (sr hd).1 (qW hG hL Jj nd hd)).2;have wd:(G.at L).gA [] (ξ d) 0=1:=by
   rcases jY (w:=0) hA pd (.inl rfl)with u|u
   .exfalso;have:=vy hA hA rfl rfl rfl _ _ _ _ _ 0 pd (gz p0 hc) (λl lq Oa=>⟨l,lq,λp hp z=>by
     rw[Q2]at z;rcases mem_append.mp (dJ.mp z)with v|v
     .cases v
     .exact Oa p hp (dJ.mpr (qF p ((Jj p).mpr ⟨l,lq,hp⟩) v)),λp hp _=>⟨hp,by simp⟩⟩) (.inl rfl) (av _) u
    omega
   .exact u
  refine⟨d,hd,λl lq hb=>?_,wd⟩
  apply bV
  intro n;have:=quick hA pd lq (λp hp z=>n ⟨p,hp,dJ.mp z⟩) hb
  omega
 .rintro⟨d,hd,_,wd⟩
  have pd:=(uB hG hL Jj (sr hd).1 (qW hG hL Jj nd hd)).2;obtain⟨c,hc,qF⟩:=oQ (G:=G.at L) (m:=[]) (y:=[]) (A:=d) (w:=1) (by rw[if_neg (by omega)];exact(sr hd).2.1)
  refine⟨c,hc,?_⟩;rcases jY (w:=0) hA (gz p0 hc) (.inl rfl)with u|u
  .exfalso;have:=vy hA hA rfl rfl rfl _ _ _ _ _ 0 (gz p0 hc) pd (λl lq Oa=>⟨l,lq,λp hp z=>by
    refine Oa p hp ?_;rw[Q2];exact dJ.mpr (aM _ (qF p (fJ.mpr ⟨hL.li l lq p hp,bJ,bJ⟩) (dJ.mp z))),λp hp _=>⟨hp,by rw[Q2];exact bJ⟩⟩) (.inl rfl) (av _) u
   omega
  .exact u
end
def NJ (hG:G.Ok) (hL:TV G L) (hL':TV G L') (h:eK G.Cf m y) (hw:w=0\/w=1) (d:∀l∈L,(∀p∈l,p∉y)->∃l'∈L',∀p∈l',p∈l/\p∉m) (d':∀l'∈L',∃l∈L,(∀p∈l,p∉y)/\∀p∈l,p∉m->p∈l'):(G.at L).gA m y w=(G.at L').gA [] [] w:=
 WX (hG.at hL) (hG.at hL') rfl rfl rfl h (iW _) hw
  (λl hl ho=>(d l hl ho).imp λl' q=>⟨q.1,(λp _ z=>by cases z),λp hp _=>q.2 p hp⟩)
  (λl' lq _=>(d' l' lq).imp λl q=>⟨q.1,q.2.1,λp hp hm=>⟨q.2.2 p hp hm,by simp⟩⟩)
noncomputable def Au (m l:cq):cq:=l.filter λp=> !decide (p∈m)
def gw (L:cp) (m y:cq):cp:=(L.filter λl=> !fL y l).map (Au m)
def Q5 (l:cq) (ls:cp):Bool:=ls.any λo=>(!decide (o=l))&&iA l o
def Q6 (ls:cp):cp:=ls.filter λl=> !Q5 l ls
def hJ (L:cp) (m y:cq):cp:=Q6 (gP (gw L m y).eraseDups)
def gx:p∈Au m l↔p∈l/\p∉m:=by
 unfold Au;rw[mem_filter];simp
def su (h:gD l):gD (Au m l):=List.Pairwise.filter _ h
def Ia:fL y l=false↔∀p∈l,p∉y:=by
 unfold fL;rw[any_eq_false];simp
def Mi:iA m l=true↔∀p∈l,p∈m:=by
 unfold iA;rw[all_eq_true];simp
def gR:f∈gw L m y↔∃l∈L,(∀p∈l,p∉y)/\f=Au m l:=by
 unfold gw;rw[mem_map];constructor
 .rintro⟨l,hl,rfl⟩
  obtain⟨h1,h2⟩:=mem_filter.mp hl;exact⟨l,h1,Ia.mp (by simpa using h2),rfl⟩
 .rintro⟨l,hl,hy,rfl⟩
  exact⟨l,mem_filter.mpr ⟨hl,by rw[Ia.mpr hy];rfl⟩,rfl⟩
def Q7:Q5 l ls=false↔∀o∈ls,(∀p∈o,p∈l)->o=l:=by
 unfold Q5;rw[any_eq_false];constructor
 .intro h o ho hs;have:=h o ho;rw[Mi.mpr hs]at this
  simpa using this
 .intro h o ho;by_cases hs:∀p∈o,p∈l
  .simp[h o ho hs]
  .have:iA l o=false:=by
    cases q:iA l o with
    |false=>rfl
    |true=>exact absurd (Mi.mp q) hs
   simp[this]
def Mj {ls:cp}{f:cq}:f∈gP ls.eraseDups↔f∈ls:=(fZ _).mem_iff.trans mem_eraseDups
def jz:f∈hJ L m y↔f∈gw L m y/\∀o∈gw L m y,(∀p∈o,p∈f)->o=f:=by
 unfold hJ Q6;rw[mem_filter,Mj];constructor
 .rintro⟨h1,h2⟩
  exact⟨h1,λo ho=>Q7.mp (by simpa using h2) o (Mj.mpr ho)⟩
 .rintro⟨h1,h2⟩
  exact⟨h1,by rw[Q7.mpr λo ho=>h2 o (Mj.mp ho)];rfl⟩
theorem oO {α:Type} [BEq α] [LawfulBEq α]:∀(n:Nat) (l:List α),l.length<=n->l.eraseDups.Nodup
 |_,[],_=>by simp
 |0,_::_,h=>by simp at h
 |n+1,a::l,h=>by
  rw[eraseDups_cons,nodup_cons];refine⟨λz=>?_,oO n _ (aE (aX _ _) (by simpa using h))⟩
  have:=(mem_filter.mp (mem_eraseDups.mp z)).2;simp at this
def Ib (L:cp) (m y:cq):(hJ L m y).Pairwise (λa b=>HT.lexLt a b=true):=List.Pairwise.filter _ (LW.Cc (oO _ _ (av _)))
def TX (a:cq):HT.lexLt a a=false:=by
 induction a with
 |nil=>rfl
 |cons x r ih=>rw[HT.kK];simp[ih]
def EO {l:cp}(h:l.Pairwise λa b=>HT.lexLt a b=true):l.Nodup:=h.imp λ{a b} h z=>by subst z;rw[TX]at h;cases h
theorem lex_asymm:∀{a b:cq},HT.lexLt a b=true->HT.lexLt b a=false
 |[],[],h=>by cases h
 |[],_::_,_=>rfl
 |_::_,[],h=>by cases h
 |x::a,y::b,h=>by
  rw[HT.kK]at h ⊢;by_cases e:x=y
  .rw[if_pos e]at h;rw[if_pos e.symm];exact lex_asymm h
  .rw[if_neg e]at h;rw[if_neg (Ne.symm e)];have:=bL h;exact aI (by omega)
def TY {l k:cp}(h1:l.Pairwise λa b=>HT.lexLt a b=true) (h2:k.Pairwise λa b=>HT.lexLt a b=true) (h:∀a,a∈l↔a∈k):l=k:=
 ik (R:=λa b=>HT.lexLt b a=false) (λa b x y=>HT.iM y x) ((perm_ext_iff_of_nodup (EO h1) (EO h2)).mpr h) (h1.imp λh=>lex_asymm h) (h2.imp λh=>lex_asymm h)
def Ic (ra:gD a) (rb:gD b) (s:∀p∈a,p∈b) (ne:a≠b):a.length<b.length:=by
 have e:a=b.filter λp=>decide (p∈a):=qS ra (List.Pairwise.filter _ rb) λp=>by
  rw[mem_filter];exact⟨λh=>⟨s p h,aS h⟩,λh=>bL h.2⟩
 have le:(b.filter λp=>decide (p∈a)).length<=b.length:=aX _ _
 rcases Nat.lt_or_ge a.length b.length with h|h
 .exact h
 .have h2:(b.filter λp=>decide (p∈a)).length=b.length:=by rw[<-e]at le ⊢;omega
  have h3:=length_filter_eq_length_iff.mp h2;exact absurd (qS ra rb λp=>⟨s p,λhp=>bL (h3 p hp)⟩) ne
def qX (hL:∀l∈L,gD l) (h:f∈gw L m y):gD f:=by
 obtain⟨l,hl,_,rfl⟩:=gR.mp h;exact su (hL l hl)
theorem wN (hL:∀l∈L,gD l):∀(n:Nat) (f:cq),f.length<=n->f∈gw L m y->∃k∈hJ L m y,∀p∈k,p∈f
 |n,f,hn,hf=>by
  by_cases h:∀o∈gw L m y,(∀p∈o,p∈f)->o=f
  .exact⟨f,jz.mpr ⟨hf,h⟩,λp hp=>hp⟩
  .have:∃o∈gw L m y,(∀p∈o,p∈f)/\o≠f:=by
    refine bV λz=>h λo ho hs=>?_
    exact bV λz2=>z ⟨o,ho,hs,z2⟩
   obtain⟨o,ho,hs,ne⟩:=this;have lt:=Ic (qX hL ho) (qX hL hf) hs ne;cases n with
   |zero=>omega
   |succ n=>
    obtain⟨k,hk,hks⟩:=wN hL n o (by omega) ho
    exact⟨k,hk,λp hp=>hs p (hks p hp)⟩
def NK (hL:∀l∈L,gD l):∀l∈hJ L m y,gD l:=λl hl=>qX hL (jz.mp hl).1
def Ie (hL:TV G L):TV G (hJ L m y):=by
 constructor
 .intro l hl p hp;obtain⟨k,hk,_,rfl⟩:=gR.mp (jz.mp hl).1;exact hL.li k hk p (gx.mp hp).1
 .intro l hl;obtain⟨k,hk,_,rfl⟩:=gR.mp (jz.mp hl).1;exact Nat.lt_of_le_of_lt (aX _ _) (hL.ll k hk)
def Ct (hG:G.Ok) (hL:TV G L) (hr:∀l∈L,gD l) (h:eK G.Cf m y) (hw:w=0\/w=1):(G.at L).gA m y w=(G.at (hJ L m y)).gA [] [] w:=by
 refine NJ hG hL (Ie hL) h hw (λl hl hy=>?_) λl' lq=>?_
 .obtain⟨k,hk,hs⟩:=wN (m:=m) (y:=y) hr _ _ (av _) (gR.mpr ⟨l,hl,hy,rfl⟩);exact⟨k,hk,λp hp=>gx.mp (hs p hp)⟩
 .obtain⟨l,hl,hy,rfl⟩:=gR.mp (jz.mp lq).1;exact⟨l,hl,hy,λp hp hm=>gx.mpr ⟨hp,hm⟩⟩
def ER (hr:∀l∈L,gD l) (hM:∀p,p∈M↔p∈m\/p∈m') (hY:∀p,p∈Y↔p∈y\/p∈y') (hd:∀p∈y',p∉m):hJ (hJ L m y) m' y'=hJ L M Y:=by
 have ba:∀b∈gw (hJ L m y) m' y',b∈gw L M Y:=λb hb=>by
  obtain⟨k,hk,Z0,rfl⟩:=gR.mp hb;obtain⟨l,hl,hly,rfl⟩:=gR.mp (jz.mp hk).1;refine gR.mpr ⟨l,hl,λp hp z=>?_,?_⟩
  .rcases(hY p).mp z with z|z
   .exact hly p hp z
   .exact Z0 p (gx.mpr ⟨hp,hd p z⟩) z
  .refine qS (su (su (hr l hl))) (su (hr l hl)) λp=>?_
   rw[gx,gx,gx,hM];constructor
   .rintro⟨⟨h1,h2⟩,h3⟩;exact⟨h1,λz=>z.elim h2 h3⟩
   .rintro⟨h1,h2⟩;exact⟨⟨h1,λz=>h2 (.inl z)⟩,λz=>h2 (.inr z)⟩
 have ab:∀a∈gw L M Y,∃b∈gw (hJ L m y) m' y',∀p∈b,p∈a:=λa ha=>by
  obtain⟨l,hl,hly,rfl⟩:=gR.mp ha;obtain⟨k,hk,hs⟩:=wN (m:=m) (y:=y) hr _ _ (av _) (gR.mpr ⟨l,hl,λp hp z=>hly p hp ((hY p).mpr (.inl z)),rfl⟩)
  refine⟨Au m' k,gR.mpr ⟨k,hk,λp hp z=>hly p (gx.mp (hs p hp)).1 ((hY p).mpr (.inr z)),rfl⟩,λp hp=>?_⟩
  obtain⟨h1,h2⟩:=gx.mp hp;obtain⟨h3,h4⟩:=gx.mp (hs p h1);exact gx.mpr ⟨h3,λz=>((hM p).mp z).elim h4 h2⟩
 refine TY (Ib _ _ _) (Ib _ _ _) λf=>?_
 rw[jz,jz];constructor
 .rintro⟨h1,h2⟩
  refine⟨ba f h1,λo ho hs=>?_⟩
  obtain⟨b,hb,hbo⟩:=ab o ho;have e:=h2 b hb λp hp=>hs p (hbo p hp)
  subst e;exact qS (qX hr ho) (qX hr (ba b h1)) λp=>⟨hs p,hbo p⟩
 .rintro⟨h1,h2⟩
  obtain⟨b,hb,hbf⟩:=ab f h1;have e:=h2 b (ba b hb) hbf;subst e;exact⟨hb,λo ho hs=>h2 o (ba o ho) hs⟩
def Q8 (G:Gm) (L:cp):Prop:=∃m y,eK G.Cf m y/\L=hJ G.ls m y
def AK (L:cp) (w:Int):D:=.t [.t (L.map vc),.int w]
def Cu:D->Option (cp×Int)
 |.t [.t a,.int w]=>(linesOf a).map λL=>(L,w)
 |_=>none
def Cv (L:cp) (w:Int):Cu (AK L w)=some (L,w):=by
 show(linesOf (L.map vc)).map _=_;rw[uA];rfl
theorem Cw:∀{ds:cw}{ls:cp},linesOf ds=some ls->ds=ls.map vc
 |[],_,h=>by cases h;rfl
 |.t a::r,ls,h=>by
  unfold linesOf at h;cases h1:χ a with
  |none=>rw[h1]at h;cases h
  |some l=>
   cases h2:linesOf r with
   |none=>rw[h1,h2]at h;cases h
   |some ls'=>rw[h1,h2]at h;cases h;rw[Cw h2,fE h1];rfl
def NL (h:Cu k=some (L,w)):k=AK L w:=by
 unfold Cu at h;split at h
 .rename_i a w';cases h1:linesOf a with
  |none=>rw[h1]at h;cases h
  |some ls=>rw[h1]at h;cases h;rw[Cw h1];rfl
 .cases h
open Classical in
def Gm.WS (G:Gm) (k:D):Option D:=match Cu k with
 |some (L,w)=>if Q8 G L/\(w=0\/w=1)then some (.int ((G.at L).gA [] [] w))else none
 |none=>none
def Bc (h:G.WS k=some d):∃L w,k=AK L w/\Q8 G L/\(w=0\/w=1)/\d=.int ((G.at L).gA [] [] w):=by
 unfold Gm.WS at h;split at h
 .rename_i L w e;split at h
  .rename_i hh;cases h;exact⟨L,w,NL e,hh.1,hh.2,rfl⟩
  .cases h
 .cases h
def Q9 {G:Gm}{L:cp}{w:Int}(h:Q8 G L) (hw:w=0\/w=1):G.WS (AK L w)=some (.int ((G.at L).gA [] [] w)):=by
 unfold Gm.WS;rw[Cv];simp only;rw[if_pos ⟨h,hw⟩]
open Classical in
noncomputable def posOf (G:Gm) (L:cp):cq×cq:=if h:Q8 G L then(h.choose,h.choose_spec.choose)else([],[])
def uC (h:Q8 G L):eK G.Cf (posOf G L).1 (posOf G L).2/\L=hJ G.ls (posOf G L).1 (posOf G L).2:=by
 unfold posOf;rw[dif_pos h];exact h.choose_spec.choose_spec
def WY (G:Gm) (k:D):Nat:=match Cu k with|some (L,w)=>HU (t9 (posOf G L).1 (posOf G L).2 w)|none=>0
def Cy (G:Gm) (L:cp) (w:Int):WY G (AK L w)=HU (t9 (posOf G L).1 (posOf G L).2 w):=by unfold WY;rw[Cv]
def Ml (L:cp) (w:Int):qg (AK L w)=true/\eN (AK L w)<=4:=by
 have kl:∀L:cp,pK (L.map vc)=true:=λL=>by
  induction L with
  |nil=>unfold pK;rfl
  |cons l r ih=>
   show pK (vc l::r.map vc)=true;unfold pK;rw[ih];have:qg (vc l)=true:=by unfold vc qg;exact wL l
   rw[this];rfl
 constructor
 .unfold AK;simp[qg,pK,kl]
 .have:=LW.vo L;unfold AK;simp only[eN,jj];omega
def Ra (G:Gm) (hG:G.Ok):fi:=⟨G.WS,WY G,524288,by decide,λk d h=>by
  obtain⟨L,w,rfl,hs,hw,_⟩:=Bc h;rw[Cy];exact ZZ _ _ (HV (uC hs).1 hw),λk k' d d' h h' e=>by
  obtain⟨L,w,rfl,hs,hw,_⟩:=Bc h;obtain⟨L',w',rfl,Du,XE,_⟩:=Bc h';rw[Cy,Cy]at e;have:=U6 hG _ _ _ _ (HV (uC hs).1 hw) (HV (uC Du).1 XE) e;have e2:=congrArg EL this;rw[vt,vt]at e2;injection e2 with e3
  injection e3 with e4 e5
  injection e5 with e6 e7
  rw[(uC hs).2,(uC Du).2,e4,e6,e7],λk d h=>by
  obtain⟨L,w,rfl,_⟩:=Bc h;exact Ml L w⟩
open Classical in
def Rb (d:D):fi:=match Ky d with
 |some G=>if h:G.Ok then Ra G h else uz
 |none=>uz
def Kz (hG:G.Ok) (f:Int):Rb (la G.Cf G.ls f G.b G.g)=Ra G hG:=by
 unfold Rb;rw[yk];simp only;rw[dif_pos hG]
end GP
namespace PC
open DL LW
def DN:cb:=
  (eB (dC (.bl false)))
def vZ:cb:=
  (kx (Ep (kN (qB (wz "int" (dg 0)))) (qB (wz "bool" (dg 0)))) DN gq)
def v3:cb:=
  (eB (Fs Lp Lp (dg 1) (dg 0) (dg 2)))
def sv:cb:=
  (dP vZ
  v3)
def lb:cg:=gF 3 3 sv
def uD:cb:=
  (eB (cV Fz (cM (dL (fq (iT (cO 1)) 2 kO (dB GN (dg 2) (dg 0)))) cS)))
def KA:cb:=
  uD
def jP:cg:=gF 3 2 KA
def sy:cb:=
  (eB (cV Hv (cM (dL (fq (iT (cO 1)) 2 kO (dB GN (dg 2) (dg 0)))) cS)))
def Ig:cb:=
  sy
def gB:cg:=gF 3 2 Ig
def DO:cb:=
  (eB (dIf (qB (dB nF (dg 1) (dC (.int 0)))) (dB fX (dg 0) (dC (.int 2))) (dB fX (dg 0) (dC (.int 3)))))
def Ga:cb:=
  DO
def eS:cg:=gF 2 2 Ga
def Ih (dS:cg):cb:=
  (eB (fy (cM (cO 0) cS)))
def mL (dS:cg):cb:=
  (kx (qB (dB geI (dg 1) (cV iQ (cM (dg 0) cS)))) (Ih dS) gq)
def Ii (dS:cg):cb:=
  (eB (fy (cM (fy cS) cS)))
def uE (dS:cg):cb:=
  (kx (qB (dB nF (dg 1) (dC (.int 0)))) (Ii dS) gq)
def Av (dS:cg):cb:=
  (mw 2 (BE cS))
def uF (dS:cg):cb:=
  (JL 2 (dB j6 (fy (cM (dB fX (dg 0) (dg 3)) cS)) (dg 4)))
def lF (dS:cg):cb:=
  (uF dS)
def uG (dS:cg):cb:=
  (nE 4 (iT (cV dS (cM (t8 (dg 0) (pJ (dB jW (dg 3) (dC (.int 1)))) Hd) (cM (dB ou (dg 1) (dC (.int 1))) cS)))) (lF dS))
def lG (dS:cg):cb:=
  (uG dS)
def uH (dS:cg):cb:=
  (nE 3 (Dg (cM (dB jW (dB ou (cV iQ (cM (dg 0) cS)) (dg 1)) (dC (.int 1))) cS)) (lG dS))
def Ij (dS:cg):cb:=
  (eB (cV nA (cM (dg 2) cS)))
def sA (dS:cg):cb:=
  (dP (mL dS)
  (dP (uE dS)
  (dP (Av dS)
  (dP (uH dS)
  (Ij dS)))))
def fP:Nat->cg
 |0=>λ_=>none
 |n+1=>gF 5 2 (sA (fP n))
def tJ:cb:=
  (g0 3 (dB j6 (dg 1) (dg 2)))
def AL:cb:=
  (eB (cV nA (cM (dL (fq (Dg (cM (dB fX (dg 0) (dC (.int 0))) cS)) 4 (qB (dB vJ (dg 4) (dg 3))) (cO 4))) cS)))
def oT:cb:=
  (dP tJ
  AL)
def j9:cg:=gF 5 3 oT
def KC:cb:=
  (eB (cV (fP 5) (cM (cV j9 (cM (dB fX (dg 0) (dC (.int 0))) (cM (cO 1) (cM (cO 2) cS)))) (cM (cV eS (cM (cO 0) (cM (cO 3) cS))) cS))))
def zx:cb:=
  KC
def jA:cg:=gF 4 4 zx
def KD:cb:=
  (eB (fy (cM (cV nA (cM (dL (ly mF (cM (dB j6 (dg 0) (dg 3)) cS))) cS)) (cM (cO 1) cS))))
def KG:cb:=
  (kx (qB (dB nF (dg 2) (dC (.int 0)))) KD gq)
def KH:cb:=
  (eB (fy (cM (cO 0) (cM (cV nA (cM (dL (ly mF (cM (dB j6 (dg 1) (dg 3)) cS))) cS)) cS))))
def NM:cb:=
  (dP KG
  KH)
def gT:cg:=gF 4 4 NM
def Aw:cb:=
  (g0 3 (dB fX (dB fX (dg 0) (dC (.int 0))) (dC (.int 1))))
def Ik:cb:=
  (eB (dC (.int 0)))
def uI:cb:=
  (kx (qB (cV Hv (cM (dL (fq (iT (cO 3)) 4 kO (cV jP (cM (cO 1) (cM (cO 4) cS))))) cS))) Ik gq)
def Il:cb:=
  (eB (dC (.int 1)))
def uJ:cb:=
  (kx (qB (cV Fz (cM (dL (fq (iT (cO 3)) 4 kO (cV gB (cM (cO 2) (cM (cO 4) cS))))) cS))) Il gq)
def Im:cb:=
  (eB (dC .eZ))
def wO:cb:=
  (dP Aw
  (dP uI
  (dP uJ
  Im)))
def lX:cg:=gF 5 3 wO
def v7:cb:=
  (eB (dC (.int 0)))
def ql:cb:=
  (kx (kN (qT (dL (fq (iT (cO 3)) 4 (qB (dB vJ (dg 4) (dg 1))) (cO 4))))) v7 gq)
def gU:cb:=
  ql
def qm:cb:=
  (nE 3 (iT (dB fX (dB fX (dg 0) (dC (.int 0))) (dC (.int 1)))) gU)
def v8:cb:=
  (eB (dC .eZ))
def qo:cb:=
  (kx (kN (qT (dL (fq (iT (cO 3)) 4 (qB (dB GN (dg 4) (dg 2))) (cO 4))))) v8 gq)
def gW:cb:=
  qo
def qp:cb:=
  (nE 3 (iT (dB fX (dB fX (dg 0) (dC (.int 0))) (dC (.int 1)))) gW)
def DP:cb:=
  (eB (dC (.int 1)))
def nQ:cb:=
  (dP qm
  (dP qp
  DP))
def hZ:cg:=gF 5 3 nQ
def mT:cb:=
  (mw 4 (fq (Dg (cM (dB fX (dB fX (dg 0) (dC (.int 0))) (dC (.int 0))) cS)) 9 (qB (dB vJ (dg 9) (dB j6 (dg 1) (dg 2)))) (cO 9)))
def mU:cb:=
  (mw 5 (BE (cM (fy cS) cS)))
def tK:cb:=
  (mw 7 (BE cS))
def kA:cb:=
  (S4 7 (fq (iL (dg 4)) 9 (Ep (qB (dB nF (dg 8) (fy cS))) (qB (dB RX (dg 9) (dB fX (dg 8) (JQ (dC (.int 1))))))) (dB j6 (dg 8) (fy (cM (cO 9) cS)))))
def iE:cb:=
  kA
def tL:cb:=
  (nE 8 (iL (cO 5)) iE)
def AM:cb:=
  (g0 5 (cO 7))
def gM:cb:=
  (dP tK
  (dP tL
  (vS 7 AM)))
def kB:cb:=
  (nE 6 (Dg (cM (cV Ac (cM (dB fX (dg 0) (dB jW (dC (.int 2)) (dg 3))) (cM (cV iQ (cM (dg 4) cS)) cS))) cS)) gM)
def AN:cb:=
  (eB (cO 5))
def oU:cb:=
  (dP mT
  (vS 4 (dP mU
  (vS 5 (dP kB
  AN)))))
def gh:cg:=gF 10 4 oU
def sC:cb:=
  (eB (fy (cM (cV nA (cM (dL (ly mF (cM (dB j6 (dg 0) (dg 3)) cS))) cS)) (cM (cO 1) cS))))
def sD:cb:=
  (kx (qB (dB nF (dg 2) (dC (.int 0)))) sC gq)
def yn:cb:=
  (eB (fy (cM (cO 0) (cM (cV nA (cM (dL (ly mF (cM (dB j6 (dg 1) (dg 3)) cS))) cS)) cS))))
def pO:cb:=
  (dP sD
  yn)
def iq:cg:=gF 4 4 pO
end PC
namespace PC
open DL GP
open LW (eX gg hX)
open L2 (nX Eh)
def outs (hl:l.length<1000000):ql [.d G,.d (vc m),.d Y,.d (vc l),c]=if iA m l then some (.ret (.int 0))else some (.next [.d G,.d (vc m),.d Y,.d (vc l),c]):=by
 have key:i8 4 (qB (dB vJ (dg 4) (dg 1))) (cO 4) [.d G,.d (vc m),.d Y,.d (vc l),c] (l.map D.int)=some (((l.map D.int).filter λd=> !decide (intOf d∈m)).map id):=by
  refine LW.jO _ ?_ ?_
  .intro d hd;obtain⟨i,_,rfl⟩:=mem_map.mp hd;simp only[qB,dB,dg,aZ,aY,aL,aN,aq,yh];rfl
  .intro d hd _;simp[cO]
 rw[mJ (λi=> !decide (i∈m))]at key
 have e:=Me m l;have lq:(l.map D.int).length<1000000:=by simpa using hl
 unfold ql kx kN qT dL fq iT;simp only[cO,aL,aN,vc,aq];simp only[vc]at key;rw[if_pos lq,key];rw[e];cases hf:(l.filter λi=> !decide (i∈m))with
 |nil=>simp[J0,v7,eB,dC]
 |cons a r=>simp[J0,gq]
def ins {y l:cq}{G M:D}{c:Sl}(hl:l.length<1000000):
  qo [.d G,.d M,.d (vc y),.d (vc l),c]=if fL y l then some (.next [.d G,.d M,.d (vc y),.d (vc l),c])else some (.ret .eZ):=by
 have key:i8 4 (qB (dB GN (dg 4) (dg 2))) (cO 4) [.d G,.d M,.d (vc y),.d (vc l),c] (l.map D.int)=some (((l.map D.int).filter λd=>decide (intOf d∈y)).map id):=by
  refine LW.jO _ ?_ ?_
  .intro d hd;obtain⟨i,_,rfl⟩:=mem_map.mp hd;simp only[qB,dB,dg,aZ,aY,aL,aN,aq,Md];rfl
  .intro d hd _;simp[cO]
 rw[mJ (λi=>decide (i∈y))]at key
 have e:=HR y l;have lq:(l.map D.int).length<1000000:=by simpa using hl
 unfold qo kx kN qT dL fq iT;simp only[cO,aL,aN,vc,aq];simp only[vc]at key;rw[if_pos lq,key];rw[e];cases hf:(l.filter λi=>decide (i∈y))with
 |nil=>simp[J0,v8,eB,dC]
 |cons a r=>simp[J0,gq]
theorem vY:∀(ls:cp) (x:Sl),(∀l∈ls,l.length<1000000)->
  (ls.any (iA m)=true->gL 3 gU (ls.map vc) [.d G,cJ m,.d Y,x,c]=some (.ret (.int 0)))/\
  (ls.any (iA m)=false->∃x',gL 3 gU (ls.map vc) [.d G,cJ m,.d Y,x,c]=some (.next [.d G,cJ m,.d Y,x',c]))
 |[],x,_=>⟨λh=>by simp at h,λ_=>⟨x,rfl⟩⟩
 |l::ls,x,hl=>by
  have e:=outs (m:=m) (l:=l) (G:=G) (Y:=Y) (c:=c) (hl l af);have ih:=vY (m:=m) (G:=G) (Y:=Y) (c:=c) ls (cJ l) λl h=>hl l (aj _ h)
  simp only[aG,gL,gU,aZ,aY,e,bH];cases h:iA m l with
  |true=>simp
  |false=>simpa [gU]using ih
theorem U7:∀(ls:cp) (x:Sl),(∀l∈ls,l.length<1000000)->
  (ls.all (fL y)=false->gL 3 gW (ls.map vc) [.d G,.d M,cJ y,x,c]=some (.ret .eZ))/\
  (ls.all (fL y)=true->∃x',gL 3 gW (ls.map vc) [.d G,.d M,cJ y,x,c]=some (.next [.d G,.d M,cJ y,x',c]))
 |[],x,_=>⟨λh=>by simp at h,λ_=>⟨x,rfl⟩⟩
 |l::ls,x,hl=>by
  have e:=ins (y:=y) (l:=l) (G:=G) (M:=M) (c:=c) (hl l af);have ih:=U7 (y:=y) (G:=G) (M:=M) (c:=c) ls (cJ l) λl h=>hl l (aj _ h)
  simp only[aG,gL,gW,aZ,aY,e,all_cons];cases h:fL y l with
  |false=>simp
  |true=>simpa [gW]using ih
abbrev _root_.ub (Cf:Int) (ls:cp) (f b g:Int) (m y:cq) (r:DL.fW):DL.fW:=.d (la Cf ls f b g)::cJ m::cJ y::r
def WZ (hl:∀l∈ls,l.length<1000000):hZ [la Cf ls f b g,vc m,vc y]=some (Cd (yg ls m y)):=by
 refine LW.eh rfl ?_;show nQ (ub Cf ls f b g m y [.n,.n])=_;have it:∀x:Sl,iT (dB fX (dB fX (dg 0) (dC (.int 0))) (dC (.int 1))) (ub Cf ls f b g m y [x,.n])=some (ls.map vc):=λx=>rfl
 obtain⟨a1,a2⟩:=vY (m:=m) (G:=la Cf ls f b g) (Y:=vc y) (c:=.n) ls .n hl;have s3:qm (ub Cf ls f b g m y [.n,.n])=gL 3 gU (ls.map vc) (ub Cf ls f b g m y [.n,.n]):=by
  unfold qm nE;rw[it];rfl
 unfold yg;cases h:ls.any (iA m)with
 |true=>
  unfold nQ dP;rw[s3,a1 h];rfl
 |false=>
  obtain⟨x,e⟩:=a2 h;unfold nQ;rw[LW.cR (s3.trans e)];obtain⟨b1,b2⟩:=U7 (y:=y) (G:=la Cf ls f b g) (M:=vc m) (c:=.n) ls x hl;have s6:qp (ub Cf ls f b g m y [x,.n])=gL 3 gW (ls.map vc) (ub Cf ls f b g m y [x,.n]):=by
   unfold qp nE;rw[it];rfl
  cases h2:ls.all (fL y)with
  |true=>
   obtain⟨x',e2⟩:=b2 h2;rw[LW.cR (s6.trans e2)];rfl
  |false=>
   unfold dP;rw[s6,b1 h2];rfl
def U8 (h1:m.length+c.length<64) (h2:y.length+c.length<64):iq [vc m,vc y,.int w,vc c]=some (.t [vc (df m y w c).1,vc (df m y w c).2]):=by
 refine LW.eh rfl ?_;show pO [cJ m,cJ y,cI w,cJ c]=_;have k1:=yi (ns:=m++c) (by simpa using h1)
 have k2:=yi (ns:=y++c) (by simpa using h2)
 unfold df;have j1:=vp h1;have j2:=vp h2;by_cases h:w=0
 .subst h;simp[pO,sC,sD,dP,kx,eB,qB,dB,dg,dC,nF,eN,jK,fy,cM,cS,cO,cV,dL,ly,j1,k1,nA];rfl
 .have hw:(w==0)=false:=by simpa using h
  simp[pO,sC,sD,yn,dP,kx,gq,hw,eB,qB,dB,dg,dC,nF,eN,jK,fy,cM,cS,cO,cV,dL,ly,j2,k2,nA,h];rfl
def W0 (hc:c.length<1000) (ha:υ.length+some'.length<=1000000) (hs:some'.length<1000000):kA [G,M,Y,W,.d (.l (some'.map D.int)),F,T,.o (υ.map vc),cJ c,z]=some (.next [G,M,Y,W,.d (.l (some'.map D.int)),F,T,.o ((υ++mS some' c).map vc),cJ c,z]):=by
 have key:i8 9 (Ep (qB (dB nF (dg 8) (fy cS))) (qB (dB RX (dg 9) (dB fX (dg 8) (JQ (dC (.int 1))))))) (dB j6 (dg 8) (fy (cM (cO 9) cS))) [G,M,Y,W,.d (.l (some'.map D.int)),F,T,.o (υ.map vc),cJ c,z] (some'.map D.int)
   =some (((some'.map D.int).filter λd=>behind c (intOf d)).map λd=>vc (c++[intOf d])):=by
  refine LW.jO _ ?_ ?_
  .intro d hd;obtain⟨i,_,rfl⟩:=mem_map.mp hd;exact TR
  .intro d hd _;obtain⟨i,_,rfl⟩:=mem_map.mp hd;have:j6 (vc c) (vc [i])=some (vc (c++[i])):=by
    have:c.length+1<=1000000:=by omega
    simp[j6,vc,this]
   show(dB j6 (dg 8) (fy (cM (cO 9) cS))) [G,M,Y,W,.d (.l (some'.map D.int)),F,T,.o (υ.map vc),cJ c,cI i]=_;have e:fy (cM (cO 9) cS) [G,M,Y,W,.d (.l (some'.map D.int)),F,T,.o (υ.map vc),cJ c,cI i]=some (vc [i]):=rfl;simp only[dB,dg,aL,aN,aq,e,this];rfl
 rw[mJ (behind c),aW]at key;have Du:(some'.map D.int).length<1000000:=by simpa using hs
 have hl:(mS some' c).length<=some'.length:=by
  unfold mS;rw[ae];exact aX _ _
 have hb:(υ.map vc).length+(((some'.filter (behind c)).map ((λd=>vc (c++[intOf d]))∘D.int))).length<=1000000:=by
  have:=hl;unfold mS at this;simp only[ae]at this ⊢;omega
 unfold kA S4 fq iL;simp only[dg,aL,aN,aq,if_pos Du];rw[key];simp only[aq,if_pos hb,aZ,aY,map_append,mS,aW];rfl
theorem Mm {G M Y W F T:Sl}{some':cq}(hs:some'.length<1000000):∀(cs υ:cp) (x z:Sl),(∀c∈cs,c.length<1000)->υ.length+cs.length*some'.length<=1000000->
  ∃x',gL 8 iE (cs.map vc) [G,M,Y,W,.d (.l (some'.map D.int)),F,T,.o (υ.map vc),x,z]=some (.next [G,M,Y,W,.d (.l (some'.map D.int)),F,T,.o ((υ++uy some' cs).map vc),x',z])
 |[],υ,x,z,_,_=>⟨x,by simp[gL,uy]⟩
 |c::cs,υ,x,z,hc,ha=>by
  have hm:(cs.length+1)*some'.length=cs.length*some'.length+some'.length:=Nat.succ_mul _ _;simp only[az,hm]at ha;have e:=W0 (G:=G) (M:=M) (Y:=Y) (W:=W) (F:=F) (T:=T) (z:=z) (some':=some') (c:=c) (υ:=υ) (hc c af) (by omega) hs
  have hl:(mS some' c).length<=some'.length:=by
   unfold mS;rw[ae];exact aX _ _
  obtain⟨x',ih⟩:=Mm (G:=G) (M:=M) (Y:=Y) (W:=W) (F:=F) (T:=T) hs cs (υ++mS some' c) (cJ c) z (λc h=>hc c (aj _ h)) (by rw[aR];omega)
  refine⟨x',?_⟩;simp only[aG,gL,aZ,aY];unfold iE at ih ⊢;rw[e];show gL 8 kA (cs.map vc) _=_;rw[ih];simp[uy]
def T1 (hs:s.length<1000000) (hk:k<1000) (hb:s.length^(k+1)<=1000000):∃x',gM [G,M,Y,W,.d (.l (s.map D.int)),.d (.l ((jl s k).map vc)),T,A,x,z]=some (.next [G,M,Y,W,.d (.l (s.map D.int)),.d (.l ((jl s (k+1)).map vc)),T,.d (.l ((jl s (k+1)).map vc)),x',z]):=by
 have e3:tK [G,M,Y,W,.d (.l (s.map D.int)),.d (.l ((jl s k).map vc)),T,A,x,z]=some (.next [G,M,Y,W,.d (.l (s.map D.int)),.d (.l ((jl s k).map vc)),T,.o [],x,z]):=rfl;obtain⟨x',e⟩:=Mm (G:=G) (M:=M) (Y:=Y) (W:=W) (F:=.d (.l ((jl s k).map vc))) (T:=T) hs (jl s k) [] x z (λc h=>by rw[EI s k c h];exact hk) (by
  have:=Nat.mul_le_mul_right s.length (Cg s k);rw[Nat.pow_succ]at hb;simp only[length_nil];omega)
 have e5:=(show tL [G,M,Y,W,.d (.l (s.map D.int)),.d (.l ((jl s k).map vc)),T,.o [],x,z]=gL 8 iE ((jl s k).map vc) [G,M,Y,W,.d (.l (s.map D.int)),.d (.l ((jl s k).map vc)),T,.o [],x,z]from rfl).trans e
 refine⟨x',?_⟩;unfold gM;rw[LW.cR e3,LW.cR e5];rfl
theorem Mn:∀(ts:cq) (k:Nat) (T A x:Sl),s.length<1000000->k+ts.length<1000->(∀j,j<=k+ts.length->s.length^j<=1000000)->
  ∃T' A' x',gL 6 gM (ts.map D.int) [G,M,Y,W,.d (.l (s.map D.int)),.d (.l ((jl s k).map vc)),T,A,x,z]=some (.next [G,M,Y,W,.d (.l (s.map D.int)),.d (.l ((jl s (k+ts.length)).map vc)),T',A',x',z])
 |[],k,T,A,x,_,_,_=>⟨T,A,x,rfl⟩
 |t::ts,k,T,A,x,hs,hk,hb=>by
  simp only[az]at hk hb;obtain⟨x',e⟩:=T1 (G:=G) (M:=M) (Y:=Y) (W:=W) (T:=cI t) (A:=A) (x:=x) (z:=z) (s:=s) (k:=k) hs (by omega) (hb _ (by omega))
  obtain⟨T2,A2,x2,ih⟩:=Mn (G:=G) (M:=M) (Y:=Y) (W:=W) (z:=z) (s:=s) ts (k+1) (cI t) (.d (.l ((jl s (k+1)).map vc))) x' hs (by omega) (λj hj=>hb j (by omega))
  refine⟨T2,A2,x2,?_⟩;simp only[aG,gL,aZ,aY,e,az];rw[ih,show k+1+ts.length=k+(ts.length+1) by omega]
def Rc (hm0:0<=Cf) (hm:Cf<=12) (hb:0<=b/\b<=4) (hg:0<=g/\g<=4) (hw:w=0\/w=1) (hl:m.length+y.length<64):gh [la Cf ls f b g,vc m,vc y,.int w]=some (.l ((sq Cf b g m y w).map vc)):=by
 refine LW.eh rfl ?_;show oU (ub Cf ls f b g m y [cI w,.n,.n,.n,.n,.n,.n])=_;have hf:=n9 Cf m y;have acP:(fN Cf m y).length<=12:=by omega
 have key:i8 9 (qB (dB vJ (dg 9) (dB j6 (dg 1) (dg 2)))) (cO 9) (ub Cf ls f b g m y [cI w,.n,.n,.n,.n,.n,.n]) ((eG 0 Cf.toNat).map D.int)=some ((((eG 0 Cf.toNat).map D.int).filter λd=> !decide (intOf d∈m++y)).map id):=by
  refine LW.jO _ ?_ ?_
  .intro d hd;obtain⟨i,_,rfl⟩:=mem_map.mp hd;simp only[qB,dB,dg,aZ,aY,aL,aN,aq,vp hl,yh];rfl
  .intro d hd _;simp[cO]
 rw[mJ (λi=> !decide (i∈m++y)),map_id]at key
 have it:Dg (cM (dB fX (dB fX (dg 0) (dC (.int 0))) (dC (.int 0))) cS) (ub Cf ls f b g m y [cI w,.n,.n,.n,.n,.n,.n])=some ((eG 0 Cf.toNat).map D.int):=by
  have:cM (dB fX (dB fX (dg 0) (dC (.int 0))) (dC (.int 0))) cS (ub Cf ls f b g m y [cI w,.n,.n,.n,.n,.n,.n])=some [.int Cf]:=rfl;unfold Dg;rw[this];exact if_pos ⟨by omega,by omega⟩
 have e1:mT (ub Cf ls f b g m y [cI w,.n,.n,.n,.n,.n,.n])=some (.next (ub Cf ls f b g m y [cI w,.o ((fN Cf m y).map D.int),.n,.n,.n,.n,.n])):=by
  have π:((eG 0 Cf.toNat).map D.int).length<1000000:=by rw[ae,eQ];omega
  unfold mT mw fq;rw[it];simp only[aq,if_pos π];rw[key];rfl
 have e2:mU (ub Cf ls f b g m y [cI w,.d (.l ((fN Cf m y).map D.int)),.n,.n,.n,.n,.n])=some (.next (ub Cf ls f b g m y [cI w,.d (.l ((fN Cf m y).map D.int)),.o [vc []],.n,.n,.n,.n])):=rfl;have em:pN b g w (fN Cf m y)<=4:=by
  unfold pN;rcases hw with rfl|rfl
  .simp only[if_true];split<;>omega
  .simp only[show ¬ (1:Int)=0 by omega,bF];split<;>omega
 obtain⟨T,A,x,e⟩:=Mn (G:=.d (la Cf ls f b g)) (M:=cJ m) (Y:=cJ y) (W:=cI w) (z:=.n) (s:=fN Cf m y) (eG 0 (pN b g w (fN Cf m y))) 0 .n .n .n (by omega) (by rw[eQ];omega) (λj hj=>by
  rw[eQ]at hj;have h4:j<=4:=by omega
  have h1:(fN Cf m y).length^j<=12^j:=Nat.pow_le_pow_left acP j;have h2:12^j<=12^4:=Nat.pow_le_pow_right (by omega) h4
  exact aE h1 (aE h2 (by decide)))
 rw[eQ,Nat.zero_add]at e;have it7:Dg (cM (cV Ac (cM (dB fX (dg 0) (dB jW (dC (.int 2)) (dg 3))) (cM (cV iQ (cM (dg 4) cS)) cS))) cS) (ub Cf ls f b g m y [cI w,.d (.l ((fN Cf m y).map D.int)),.d (.l [vc []]),.n,.n,.n,.n])=some ((eG 0 (pN b g w (fN Cf m y))).map D.int):=by
  have hx:fX (la Cf ls f b g) (.int (2+w))=some (.int (if w=0 then b else g)):=by rcases hw with rfl|rfl<;>rfl
  have:cM (cV Ac (cM (dB fX (dg 0) (dB jW (dC (.int 2)) (dg 3))) (cM (cV iQ (cM (dg 4) cS)) cS))) cS (ub Cf ls f b g m y [cI w,.d (.l ((fN Cf m y).map D.int)),.d (.l [vc []]),.n,.n,.n,.n])=some [.int (if((fN Cf m y).length:Int)<(if w=0 then b else g)then((fN Cf m y).length:Int)else(if w=0 then b else g))]:=by
   simp[cM,cS,cV,dB,dg,dC,jW,oI,hx,iQ,Ac]
  unfold Dg;rw[this];unfold pN;refine if_pos ?_;rcases hw with rfl|rfl
  .simp only[if_true];split<;>omega
  .simp only[show ¬ (1:Int)=0 by omega,bF];split<;>omega
 have e7:=(show kB (ub Cf ls f b g m y [cI w,.d (.l ((fN Cf m y).map D.int)),.d (.l [vc []]),.n,.n,.n,.n])=gL 6 gM ((eG 0 (pN b g w (fN Cf m y))).map D.int) (ub Cf ls f b g m y [cI w,.d (.l ((fN Cf m y).map D.int)),.d (.l [vc []]),.n,.n,.n,.n]) by unfold kB nE;rw[it7];rfl).trans e
 unfold oU;rw[LW.cR e1];show dP mU _ (ub Cf ls f b g m y [cI w,.d (.l ((fN Cf m y).map D.int)),.n,.n,.n,.n,.n])=_;rw[LW.cR e2];show dP kB _ (ub Cf ls f b g m y [cI w,.d (.l ((fN Cf m y).map D.int)),.d (.l [vc []]),.n,.n,.n,.n])=_;rw[LW.cR e7];rfl
theorem ke {α:Type}{j:Nat}{f:cc}{U:fW}{φ ψ:α->D}:∀(l:List α),(∀a∈l,f (U.set j (.d (φ a)))=some (ψ a))->i8 j kO f U (l.map φ)=some (l.map ψ)
 |[],_=>rfl
 |a::l,h=>by
  rw[aG];unfold i8;have e:kO (U.set j (.d (φ a)))=some true:=rfl;simp only[e,h a af,aq,ke l λx hx=>h x (aj _ hx),bC,aG]
def mV (h:f U=some ds):cV F (cM (dL f) cS) U=F [.l ds]:=by
 simp only[cV,cM,dL,cS,h,bC,aq]
def gC {o:D->D->Option D}{f g:cc}{U:fW}{x y:D}(hf:f U=some x) (hg:g U=some y):dB o f g U=o x y:=by
 unfold dB;rw[hf,hg];rfl
def pP (hf:f U=some x):cM f cS U=some [x]:=by
 unfold cM cS;rw[hf];rfl
def iF (hf:f U=some x) (hg:g U=some r):cM f g U=some (x::r):=by
 unfold cM;rw[hf,hg];rfl
def di (hf:f U=some ds):cV F f U=F ds:=by
 unfold cV;rw[hf];rfl
def eV (hf:f U=some d):eB f U=some (.ret d):=by
 unfold eB;rw[hf];rfl
def fA (hf:f U=some d):g0 i f U=some (.next (U.set i (.d d))):=by
 unfold g0;rw[hf];rfl
def jm (h:q U=some true):kx q f g U=f U:=by unfold kx;rw[h]
def jn (h:q U=some false):kx q f g U=g U:=by unfold kx;rw[h]
def nR (h:q U=some b):kN q U=some (!b):=by unfold kN;rw[h];rfl
def eP (h:f U=some (.ret d)):dP f g U=some (.ret d):=by unfold dP;rw[h]
def fQ (h:f U=some (.bl b)):qB f U=some b:=by
 unfold qB;rw[h]
def Cz {α:Type}(l:List α) (q:α->Bool):Hv [.l (l.map λx=>D.bl (q x))]=some (.bl (l.any q)):=by
 have:uj (l.map λx=>D.bl (q x))=some (l.map q):=by
  induction l with
  |nil=>rfl
  |cons a l ih=>simp[uj,ih]
 simp[Hv,this,any_map]
def T3 (i lo hi:Int):lb [.int i,.int lo,.int hi]=some (.bl (decide (lo<=i)&&decide (i<=hi))):=by
 refine LW.eh rfl ?_;show sv [cI i,cI lo,cI hi]=_;have e:vZ [cI i,cI lo,cI hi]=some (.next [cI i,cI lo,cI hi]):=rfl;unfold sv;rw[LW.cR e];have:Fs Lp Lp (dg 1) (dg 0) (dg 2) [cI i,cI lo,cI hi]=some (.bl (decide (lo<=i)&&decide (i<=hi))):=by
  show(match Lp (.int lo) (.int i)with|some (.bl true)=>_|some (.bl false)=>_|_=>_)=_
  by_cases h:lo<=i
  .simp[Lp,oI,h,dg]
  .simp[Lp,oI,h]
 unfold v3 eB;rw[this];rfl
def Mp (i:Int) (m:cq):GN (.int i) (vc m)=some (.bl (decide (i∈m))):=Md i m
def ES (hl:l.length<1000000):jP [vc m,vc l]=some (.bl (iA m l)):=by
 refine LW.eh rfl ?_;show uD [cJ m,cJ l,.n]=_;have key:i8 2 kO (dB GN (dg 2) (dg 0)) [cJ m,cJ l,.n] (l.map D.int)=some (l.map λi=>D.bl (decide (i∈m))):=ke l λi _=>Mp i m
 have lq:(l.map D.int).length<1000000:=by simpa using hl
 have e:fq (iT (cO 1)) 2 kO (dB GN (dg 2) (dg 0)) [cJ m,cJ l,.n]=some (l.map λi=>D.bl (decide (i∈m))):=by
  show(if(l.map D.int).length<1000000 then _ else _)=_
  rw[if_pos lq,key]
 unfold uD eB cV cM dL;rw[e];simp only[bC,aq,cS];rw[LW.yf l (λi=>decide (i∈m))]
 rfl
def wQ (hl:l.length<1000000):gB [vc m,vc l]=some (.bl (fL m l)):=by
 refine LW.eh rfl ?_;show sy [cJ m,cJ l,.n]=_;have key:i8 2 kO (dB GN (dg 2) (dg 0)) [cJ m,cJ l,.n] (l.map D.int)=some (l.map λi=>D.bl (decide (i∈m))):=ke l λi _=>Mp i m
 have lq:(l.map D.int).length<1000000:=by simpa using hl
 have e:fq (iT (cO 1)) 2 kO (dB GN (dg 2) (dg 0)) [cJ m,cJ l,.n]=some (l.map λi=>D.bl (decide (i∈m))):=by
  show(if(l.map D.int).length<1000000 then _ else _)=_
  rw[if_pos lq,key]
 unfold sy eB cV cM dL;rw[e];simp only[bC,aq,cS];rw[Cz l (λi=>decide (i∈m))]
 rfl
def W3 (hw:w=0\/w=1):eS [la Cf ls f b g,.int w]=some (.int (if w=0 then b else g)):=by
 rcases hw with rfl|rfl<;>rfl
def Io (h1:m.length+c.length<64) (h2:y.length+c.length<64):gT [vc m,vc y,.int w,vc c]=some (.t [vc (df m y w c).1,vc (df m y w c).2]):=U8 h1 h2
def ET (hn:ls.length<1000000) (hl:∀l∈ls,l.length<1000000):lX [la Cf ls f b g,vc m,vc y]=some (Cd (yg ls m y)):=by
 refine LW.eh rfl ?_;show wO (ub Cf ls f b g m y [.n,.n])=_;have e1:Aw (ub Cf ls f b g m y [.n,.n])=some (.next (ub Cf ls f b g m y [.d (.t (ls.map vc)),.n])):=rfl;have E7:(ls.map vc).length<1000000:=by simpa using hn
 have k1:i8 4 kO (cV jP (cM (cO 1) (cM (cO 4) cS))) (ub Cf ls f b g m y [.d (.t (ls.map vc)),.n]) (ls.map vc)=some (ls.map λl=>D.bl (iA m l)):=ke ls λl h=>ES (hl l h)
 have k2:i8 4 kO (cV gB (cM (cO 2) (cM (cO 4) cS))) (ub Cf ls f b g m y [.d (.t (ls.map vc)),.n]) (ls.map vc)=some (ls.map λl=>D.bl (fL y l)):=ke ls λl h=>wQ (hl l h)
 have q1:qB (cV Hv (cM (dL (fq (iT (cO 3)) 4 kO (cV jP (cM (cO 1) (cM (cO 4) cS))))) cS)) (ub Cf ls f b g m y [.d (.t (ls.map vc)),.n])=some (ls.any (iA m)):=by
  have e:fq (iT (cO 3)) 4 kO (cV jP (cM (cO 1) (cM (cO 4) cS))) (ub Cf ls f b g m y [.d (.t (ls.map vc)),.n])=some (ls.map λl=>D.bl (iA m l)):=by
   show(if(ls.map vc).length<1000000 then _ else _)=_
   rw[if_pos E7,k1]
  exact fQ ((mV e).trans (Cz ls (iA m)))
 have q2:qB (cV Fz (cM (dL (fq (iT (cO 3)) 4 kO (cV gB (cM (cO 2) (cM (cO 4) cS))))) cS)) (ub Cf ls f b g m y [.d (.t (ls.map vc)),.n])=some (ls.all (fL y)):=by
  have e:fq (iT (cO 3)) 4 kO (cV gB (cM (cO 2) (cM (cO 4) cS))) (ub Cf ls f b g m y [.d (.t (ls.map vc)),.n])=some (ls.map λl=>D.bl (fL y l)):=by
   show(if(ls.map vc).length<1000000 then _ else _)=_
   rw[if_pos E7,k2]
  exact fQ ((mV e).trans (LW.yf ls (fL y)))
 unfold wO;rw[LW.cR e1];unfold yg;have e3:uI (ub Cf ls f b g m y [.d (.t (ls.map vc)),.n])=if ls.any (iA m)then some (.ret (.int 0))else some (.next (ub Cf ls f b g m y [.d (.t (ls.map vc)),.n])):=by
  unfold uI kx;rw[q1];cases ls.any (iA m)<;>rfl
 have e5:uJ (ub Cf ls f b g m y [.d (.t (ls.map vc)),.n])=if ls.all (fL y)then some (.ret (.int 1))else some (.next (ub Cf ls f b g m y [.d (.t (ls.map vc)),.n])):=by
  unfold uJ kx;rw[q2];cases ls.all (fL y)<;>rfl
 unfold dP;rw[e3];cases ls.any (iA m)with
 |true=>rfl
 |false=>
  simp only[aJ,bF];rw[e5];cases ls.all (fL y)<;>rfl
theorem Mq (hp:nX ps k=some p):∀(cs υ:cp) (x:Sl),(∀c∈cs,c.length<1000)->υ.length+cs.length<1000000->
  ∃x',gL 4 (lF rc) (cs.map vc) [cJ ps,C,.o (υ.map vc),cI k,x]=some (.next [cJ ps,C,.o ((υ++cs.map (p:: ·)).map vc),cI k,x'])
 |[],υ,x,_,_=>⟨x,by simp[gL]⟩
 |c::cs,υ,x,hc,ha=>by
  simp only[az]at ha;have hx:fX (vc ps) (.int k)=some (.int p):=by
   show nX (ps.map D.int) k=_;have:nX (ps.map D.int) k=(nX ps k).map D.int:=by
    unfold nX Eh;simp only[ae];split
    .split
     .simp
     .rfl
    .split
     .simp
     .rfl
   rw[this,hp];rfl
  have e1:dB j6 (fy (cM (dB fX (dg 0) (dg 3)) cS)) (dg 4) [cJ ps,C,.o (υ.map vc),cI k,cJ c]=some (vc (p::c)):=by
   have e0:fy (cM (dB fX (dg 0) (dg 3)) cS) [cJ ps,C,.o (υ.map vc),cI k,cJ c]=some (vc [p]):=by
    have:dB fX (dg 0) (dg 3) [cJ ps,C,.o (υ.map vc),cI k,cJ c]=some (.int p):=hx;unfold fy cM;rw[this];rfl
   have:j6 (vc [p]) (vc c)=some (vc ([p]++c)):=by
    have h1:=hc c af;have:1+c.length<=1000000:=by omega
    simp[j6,vc,this]
   exact(gC e0 rfl).trans this
  have e2:uF rc [cJ ps,C,.o (υ.map vc),cI k,cJ c]=some (.next [cJ ps,C,.o ((υ++[p::c]).map vc),cI k,cJ c]):=by
   unfold uF JL;have hl:(υ.map vc).length<1000000:=by rw[ae];omega
   simp only[aL,aN];rw[e1];simp only[aq,if_pos hl,aZ,aY,map_append,aG,map_nil]
  obtain⟨x',ih⟩:=Mq (rc:=rc) (C:=C) hp cs (υ++[p::c]) (cJ c) (λd hd=>hc d (aj _ hd)) (by rw[aR];simp;omega)
  refine⟨x',?_⟩;simp only[aG,gL,aZ,aY];unfold lF at ih ⊢;rw[e2];simp only;rw[ih];simp
def Rf (ps:cq) (k:Nat) (h:k<ps.length):t7 (ps.map D.int) (some ((k:Int)+1)) none=(ps.drop (k+1)).map D.int:=by
 unfold t7;have e1:HT.i6 (ps.map D.int).length 0 (some ((k:Int)+1))=k+1:=by
  unfold HT.i6;simp only[ae];split<;>omega
 have e2:HT.i6 (ps.map D.int).length (ps.map D.int).length none=ps.length:=by simp[HT.i6]
 rw[e1,e2,take_of_length_le (by simp),map_drop]
theorem yo:∀(n:Nat) (lo:Int),eG lo n=(List.range n).map λ(k:Nat)=>lo+(k:Int)
 |0,_=>rfl
 |n+1,lo=>by
  rw[range_succ_eq_map,aG,aW];show lo::eG (lo+1) n=_;rw[yo n (lo+1)];simp only[Int.ofNat_zero,Int.add_zero,List.cons.injEq];refine⟨by simp,bT λk _=>?_⟩
  simp only[Function.comp];omega
theorem Ip {rc:cg}{ps:cq}{c:Nat}(hz:ps.length<=12):∀(ks:List Nat) (υ:cp) (x3 x4:Sl),
  (∀k∈ks,k<ps.length/\rc [vc (ps.drop (k+1)),.int (c:Int)]=some (.t ((Γ c (ps.drop (k+1))).map vc)))->υ.length+ks.length*4096<1000000->
  ∃x3' x4',gL 3 (lG rc) (ks.map λ(k:Nat)=>D.int (k:Int)) [cJ ps,cI ((c:Int)+1),.o (υ.map vc),x3,x4]=
   some (.next [cJ ps,cI ((c:Int)+1),.o ((υ++ks.flatMap (Cq c ps)).map vc),x3',x4'])
 |[],υ,x3,x4,_,_=>⟨x3,x4,by simp[gL]⟩
 |k::ks,υ,x3,x4,h,ha=>by
  obtain⟨hk,hr⟩:=h k af;simp only[az]at ha;have hp:ps[k]? =some ps[k]:=ah hk;have hat:nX ps (k:Int)=some ps[k]:=by rw[LW.xq ps k hk,hp]
  have hm:(Γ c (ps.drop (k+1))).length<=4096:=by
   refine aE (vw c _) ?_;have:(ps.drop (k+1)).length<=12:=by rw[length_drop];omega
   exact aE (Nat.pow_le_pow_right (by omega) this) (by decide)
  have et:Cq c ps k=(Γ c (ps.drop (k+1))).map (ps[k]:: ·):=by unfold Cq;rw[hp]
  obtain⟨x',e⟩:=Mq (rc:=rc) (C:=cI ((c:Int)+1)) hat (Γ c (ps.drop (k+1))) υ x4 (λd hd=>by
   have h1:=(qV c _ d hd).1;have h2:c<=(ps.drop (k+1)).length:=by
    rcases Nat.lt_or_ge (ps.drop (k+1)).length c with z|z
    .rw[oS c _ z]at hd;cases hd
    .exact z
   rw[length_drop]at h2;omega) (by omega)
  have e7:uG rc [cJ ps,cI ((c:Int)+1),.o (υ.map vc),cI (k:Int),x4]=some (.next [cJ ps,cI ((c:Int)+1),.o ((υ++Cq c ps k).map vc),cI (k:Int),x']):=by
   have i1:t8 (dg 0) (pJ (dB jW (dg 3) (dC (.int 1)))) Hd [cJ ps,cI ((c:Int)+1),.o (υ.map vc),cI (k:Int),x4]=some (vc (ps.drop (k+1))):=by
    show some (D.t (t7 (ps.map D.int) (some ((k:Int)+1)) none))=_;rw[Rf ps k hk];rfl
   have i2:dB ou (dg 1) (dC (.int 1)) [cJ ps,cI ((c:Int)+1),.o (υ.map vc),cI (k:Int),x4]=some (.int (c:Int)):=by
    show some (D.int ((c:Int)+1-1))=_
    congr 2;omega
   have i3:iT (cV rc (cM (t8 (dg 0) (pJ (dB jW (dg 3) (dC (.int 1)))) Hd) (cM (dB ou (dg 1) (dC (.int 1))) cS))) [cJ ps,cI ((c:Int)+1),.o (υ.map vc),cI (k:Int),x4]=some ((Γ c (ps.drop (k+1))).map vc):=by
    unfold iT;rw[di (iF i1 (pP i2)),hr]
   unfold uG nE;rw[i3];show gL 4 (lF rc) _ _=_;rw[e,et]
  obtain⟨y3,y4,ih⟩:=Ip (rc:=rc) hz ks (υ++Cq c ps k) (cI (k:Int)) x' (λj hj=>h j (aj _ hj)) (by rw[aR,et,ae];omega)
  refine⟨y3,y4,?_⟩;simp only[aG,gL,aZ,aY];unfold lG at ih ⊢;rw[e7];simp only;rw[ih];simp[append_assoc]
theorem zy:∀(n c:Nat) (ps:cq),c<n->ps.length<=12->fP n [vc ps,.int (c:Int)]=some (.t ((vM c ps).map vc))
 |0,c,ps,h,_=>by omega
 |n+1,c,ps,h,hz=>by
  unfold fP;refine LW.eh rfl ?_;show sA (fP n) [cJ ps,cI (c:Int),.n,.n,.n]=_;have q2:qB (dB geI (dg 1) (cV iQ (cM (dg 0) cS))) [cJ ps,cI (c:Int),.n,.n,.n]=some (decide (ps.length<=c)):=by
   have:cV iQ (cM (dg 0) cS) [cJ ps,cI (c:Int),.n,.n,.n]=some (.int (ps.length:Int)):=by
    show some (D.int ((ps.map D.int).length:Int))=_;rw[ae]
   refine fQ ((gC rfl this).trans ?_);show some (D.bl (decide ((ps.length:Int)<=(c:Int))))=_
   congr 2
   exact decide_eq_decide.mpr (by omega)
  unfold sA;by_cases h1:ps.length<=c
  .have e2:mL (fP n) [cJ ps,cI (c:Int),.n,.n,.n]=some (.ret (.t [vc ps])):=by
    unfold mL;rw[jm (by rw[q2,aS h1])]
    rfl
   rw[eP e2];unfold vM;rw[if_pos h1];rfl
  .have e2:mL (fP n) [cJ ps,cI (c:Int),.n,.n,.n]=some (.next [cJ ps,cI (c:Int),.n,.n,.n]):=by
    unfold mL;rw[jn (by rw[q2,aI h1])]
    rfl
   rw[LW.cR e2,Cp (by omega)]
   cases c with
   |zero=>cases ps<;>rfl
   |succ c=>
    have e4:uE (fP n) [cJ ps,cI ((c+1:Nat):Int),.n,.n,.n]=some (.next [cJ ps,cI ((c:Int)+1),.n,.n,.n]):=by
     unfold uE;have:qB (dB nF (dg 1) (dC (.int 0))) [cJ ps,cI ((c+1:Nat):Int),.n,.n,.n]=some false:=by
      refine fQ ((gC rfl rfl).trans ?_);show nF (.int ((c+1:Nat):Int)) (.int 0)=_;have:jK (.int ((c+1:Nat):Int)) (.int 0)=false:=by
       simp[jK];omega
      unfold nF;rw[this];rfl
     rw[jn this];rfl
    have e5:Av (fP n) [cJ ps,cI ((c:Int)+1),.n,.n,.n]=some (.next [cJ ps,cI ((c:Int)+1),.o (([]:cp).map vc),.n,.n]):=rfl;rw[LW.cR e4,LW.cR e5];obtain⟨x3,x4,e⟩:=Ip (rc:=fP n) (ps:=ps) (c:=c) hz (List.range (ps.length-c)) [] .n .n (λk hk=>by
     have:=mem_range.mp hk;refine⟨by omega,?_⟩
     rw[zy n c (ps.drop (k+1)) (by omega) (by rw[length_drop];omega),Cp (by rw[length_drop];omega)]) (by simp;omega)
    have it:Dg (cM (dB jW (dB ou (cV iQ (cM (dg 0) cS)) (dg 1)) (dC (.int 1))) cS) [cJ ps,cI ((c:Int)+1),.o (([]:cp).map vc),.n,.n]=some ((List.range (ps.length-c)).map λ(k:Nat)=>D.int (k:Int)):=by
     have:cM (dB jW (dB ou (cV iQ (cM (dg 0) cS)) (dg 1)) (dC (.int 1))) cS [cJ ps,cI ((c:Int)+1),.o (([]:cp).map vc),.n,.n]=some [.int ((ps.length:Int)-((c:Int)+1)+1)]:=by
      show some [D.int (((ps.map D.int).length:Int)-((c:Int)+1)+1)]=_;rw[ae]
     unfold Dg;rw[this];show(if _ then some ((eG 0 ((ps.length:Int)-((c:Int)+1)+1).toNat).map D.int)else none)=_
     rw[if_pos ⟨by omega,by omega⟩,show((ps.length:Int)-((c:Int)+1)+1).toNat=ps.length-c by omega,yo,aW]
     congr 1
     refine bT λk _=>?_
     simp
    have e8:uH (fP n) [cJ ps,cI ((c:Int)+1),.o (([]:cp).map vc),.n,.n]=some (.next [cJ ps,cI ((c:Int)+1),.o ((Γ (c+1) ps).map vc),x3,x4]):=by
     unfold uH nE;rw[it];show gL 3 (lG (fP n)) _ _=_;rw[e,nil_append,EM]
    rw[LW.cR e8];rfl
def T4 (hm0:0<=Cf) (hm:Cf<=12) (hl:m.length+y.length<64):j9 [.t [.int Cf,L],vc m,vc y]=some (vc (fN Cf m y)):=by
 refine LW.eh rfl ?_;show oT [.d (.t [.int Cf,L]),cJ m,cJ y,.n,.n]=_;have hf:=n9 Cf m y;have e1:tJ [.d (.t [.int Cf,L]),cJ m,cJ y,.n,.n]=some (.next [.d (.t [.int Cf,L]),cJ m,cJ y,cJ (m++y),.n]):=fA ((gC rfl rfl).trans (vp hl));have key:i8 4 (qB (dB vJ (dg 4) (dg 3))) (cO 4) [.d (.t [.int Cf,L]),cJ m,cJ y,cJ (m++y),.n] ((eG 0 Cf.toNat).map D.int)=some ((((eG 0 Cf.toNat).map D.int).filter λd=> !decide (intOf d∈m++y)).map id):=by
  refine LW.jO _ ?_ ?_
  .intro d hd;obtain⟨i,_,rfl⟩:=mem_map.mp hd;exact fQ ((gC rfl rfl).trans (yh i (m++y)))
  .intro d hd _;simp[cO]
 rw[mJ (λi=> !decide (i∈m++y)),map_id]at key
 have it:Dg (cM (dB fX (dg 0) (dC (.int 0))) cS) [.d (.t [.int Cf,L]),cJ m,cJ y,cJ (m++y),.n]=some ((eG 0 Cf.toNat).map D.int):=by
  have:cM (dB fX (dg 0) (dC (.int 0))) cS [.d (.t [.int Cf,L]),cJ m,cJ y,cJ (m++y),.n]=some [.int Cf]:=rfl;unfold Dg;rw[this];exact if_pos ⟨by omega,by omega⟩
 unfold oT;rw[LW.cR e1];refine eV ((mV (ds:=(fN Cf m y).map D.int) ?_).trans rfl);have π:((eG 0 Cf.toNat).map D.int).length<1000000:=by rw[ae,eQ];omega
 unfold fq;rw[it];simp only[aq,if_pos π];exact key
def NO {Cf:Int}{f b g w:Int}{m y:cq}(hm0:0<=Cf) (hm:Cf<=12) (hb:0<=b/\b<=4) (hg:0<=g/\g<=4) (hw:w=0\/w=1) (hl:m.length+y.length<64):jA [la Cf ls f b g,vc m,vc y,.int w]=some (.t ((sq Cf b g m y w).map vc)):=by
 refine LW.eh rfl ?_;show zx (ub Cf ls f b g m y [cI w])=_;have hf:=n9 Cf m y;have hk:0<=(if w=0 then b else g):=by split<;>omega
 have hk4:(if w=0 then b else g)<=4:=by split<;>omega
 unfold zx;rw[Cr hk];refine eV ?_;have ea:cV eS (cM (cO 0) (cM (cO 3) cS)) (ub Cf ls f b g m y [cI w])=some (.int ((if w=0 then b else g).toNat:Int)):=by
  refine(di (ds:=[la Cf ls f b g,.int w]) rfl).trans ((W3 hw).trans ?_)
  congr 2;omega
 have ef:cV j9 (cM (dB fX (dg 0) (dC (.int 0))) (cM (cO 1) (cM (cO 2) cS))) (ub Cf ls f b g m y [cI w])=some (vc (fN Cf m y)):=
  (di rfl).trans (T4 hm0 hm hl)
 exact(di (iF ef (pP ea))).trans (zy 5 _ _ (by omega) (by omega))
end PC
namespace PW
open DL
def Rg:cw->fi:=λds=>match ds with|d::_=>GP.specOf d|[]=>GP.uz
def MfS:D->fi:=λd=>GP.Rb d
end PW
namespace PW
open DL GP PC
open LW (eX gg hX)
open L2 (nX Eh)
def CA:cb:=
  (eB (dIf (qB (dB nF (dg 0) (dC (.int 0)))) (dC (.int 1)) (dC (.int 0))))
def DQ:cb:=
  CA
def dZ:cg:=gF 1 1 DQ
def v9:cb:=
  (eB (cV nA (cM (dL (fq (iT (cO 0)) 2 (qB (dB vJ (dg 2) (dg 1))) (cO 2))) cS)))
def sE:cb:=
  v9
def mM:cg:=gF 3 2 sE
def tM:cb:=
  (eB (cV Hv (cM (dL (fq (iS (cO 1)) 2 kO (JK (dB BG (dg 2) (dg 0)) (cV jP (cM (cO 0) (cM (cO 2) cS)))))) cS)))
def oV:cb:=
  tM
def mj:cg:=gF 3 2 oV
def CB:cb:=
  (eB (cV Fz (cM (dL (fq (iL (dg 1)) 2 kO (cV gB (cM (cO 0) (cM (cO 2) cS))))) cS)))
def zA:cb:=
  CB
def yp:cg:=gF 3 2 zA
def yq:cb:=
  (FY 1 (cO 3))
def gX:cb:=
  yq
def pQ:cb:=
  (nE 3 (iT (cO 2)) gX)
def f9:cb:=
  pQ
def lH:cb:=
  (nE 2 (iT (cO 0)) f9)
def pR:cb:=
  (eB (cV nA (cM (dL (zq 1)) cS)))
def gY:cb:=
  (dP lH
  pR)
def qY:cb:=
  (FW 1 gY)
def jb:cg:=gF 4 1 qY
def uK:cb:=
  (mw 3 (fq (iS (cO 0)) 5 (kN (qB (cV gB (cM (cO 2) (cM (cO 5) cS))))) (cV mM (cM (cO 5) (cM (cO 1) cS)))))
def oW:cb:=
  (mw 4 (yb (dg 3)))
def lI:cb:=
  (eB (cV nA (cM (dL (fq (iL (dg 4)) 5 (kN (qB (cV mj (cM (cO 5) (cM (cO 4) cS))))) (cO 5))) cS)))
def qq:cb:=
  (dP uK
  (vS 3 (dP oW
  (vS 4 lI))))
def fB:cg:=gF 6 3 qq
def lY (G:D):cb:=
  (g0 3 (cV (fP 5) (cM (cV jb (cM (cO 1) cS)) (cM (cV eS (cM (lB G 0) (cM (cO 2) cS))) cS))))
def zB (G:D):cb:=
  (eB (cO 3))
def lZ (G:D):cb:=
  (kx (qB (dB nF (dg 2) (dC (.int 0)))) (zB G) gq)
def qZ (G:D):cb:=
  (mw 4 (fq (iT (cO 1)) 5 (qB (dB Lp (cV iQ (cM (dg 5) cS)) (cV eS (cM (lB G 0) (cM (dC (.int 0)) cS))))) (cO 5)))
def l0 (G:D):cb:=
  (eB (cV nA (cM (dL (fq (iT (cO 3)) 6 (qB (cV yp (cM (cO 6) (cM (cO 4) cS)))) (cO 6))) cS)))
def kC (G:D):cb:=
  (dP (lY G)
  (dP (lZ G)
  (dP (qZ G)
  (vS 4 (l0 G)))))
def jB:cg:=i9 7 3 kC
def sF (G:D) (dQ:cg):cb:=
  (g0 3 (cV Hw (cM (dL (fq (iT (cO 1)) 6 kO (cV iQ (cM (dg 6) cS)))) cS)))
def Gb (G:D) (dQ:cg):cb:=
  (eB (dC (.int 0)))
def lJ (G:D) (dQ:cg):cb:=
  (kx (xy (qB (dB nF (dg 2) (dC (.int 0)))) (qB (dB Lp (dg 3) (cV eS (cM (lB G 0) (cM (dC (.int 0)) cS)))))) (Gb G dQ) gq)
def sG (G:D) (dQ:cg):cb:=
  (g0 5 (cV gT (cM (fy cS) (cM (fy cS) (cM (cO 2) (cM (cO 4) cS))))))
def Ge (G:D) (dQ:cg):cb:=
  (eB (cO 2))
def yr (G:D) (dQ:cg):cb:=
  (kx (qB (dB nF (gj 0 G dQ (cM (cV fB (cM (cO 1) (cM (dB fX (dg 5) (dC (.int 0))) (cM (dB fX (dg 5) (dC (.int 1))) cS)))) (cM (cV dZ (cM (cO 2) cS)) cS))) (dg 2))) (Ge G dQ) gq)
def gH (G:D) (dQ:cg):cb:=
  (dP (sG G dQ)
  (yr G dQ))
def sI (G:D) (dQ:cg):cb:=
  (nE 4 (iT (gj 0 G jB (cM (cO 1) (cM (cO 2) cS)))) (gH G dQ))
def yt (G:D) (dQ:cg):cb:=
  (eB (cV dZ (cM (cO 2) cS)))
def mN (G:D) (dQ:cg):cb:=
  (dP (sF G dQ)
  (dP (lJ G dQ)
  (dP (sI G dQ)
  (yt G dQ))))
def DR (G:D) (eT:cg):cb:=
  (eB (dC (.int 1)))
def ml (G:D) (eT:cg):cb:=
  (kx (qB (dB nF (cV iQ (cM (dg 1) cS)) (dC (.int 0)))) (DR G eT) gq)
def DS (G:D) (eT:cg):cb:=
  (eB (dC (.int 0)))
def kf (G:D) (eT:cg):cb:=
  (kx (qB (dB GN (fy cS) (dg 1))) (DS G eT) gq)
def qr (G:D) (eT:cg):cb:=
  (mE (MfS G) 0 (fy (cM (cO 1) (cM (cO 2) cS))) (gj 0 G eT (cM (cO 1) (cM (cO 2) cS))))
def qt (G:D) (eT:cg):cb:=
  (nL 0 [] (fy (cM (cO 1) (cM (cO 2) cS))) (qr G eT))
def wa (G:D) (eT:cg):cb:=
  (eB (j7 (MfS G) 0 (fy (cM (cO 1) (cM (cO 2) cS)))))
def lK (G:D) (eT:cg):cb:=
  (dP (ml G eT)
  (dP (kf G eT)
  (dP (qt G eT)
  (wa G eT))))
mutual
noncomputable def oX:Nat->cg
 |0=>λ_=>none
 |n+1=>i9 7 3 (λG=>mN G (iN n))
noncomputable def iN:Nat->cg
 |0=>λ_=>none
 |n+1=>i9 3 3 (λG=>lK G (oX n))
end
def wb (G:D):cb:=
  (eB (gj 0 G (iN 24) (cM (cV fB (cM (dB fX (dB fX (lB G 0) (dC (.int 0))) (dC (.int 1))) (cM (cO 1) (cM (cO 2) cS)))) (cM (cO 3) cS))))
def nS (G:D):cb:=
  (wb G)
def lg:cg:=i9 4 4 nS
def uL (G:D):cb:=
  (g0 5 (cV gT (cM (cO 1) (cM (cO 2) (cM (cO 3) (cM (cO 4) cS))))))
def Ax (G:D):cb:=
  (eB (dB nF (gj 0 G lg (cM (dB fX (dg 5) (dC (.int 0))) (cM (dB fX (dg 5) (dC (.int 1))) (cM (cV dZ (cM (cO 3) cS)) cS)))) (dg 3)))
def sJ (G:D):cb:=
  (dP (uL G)
  (Ax G))
def rg:cg:=i9 6 5 sJ
def mW (M:fi) (dv:cg):cb:=
  (g0 5 (cV hZ (cM (cO 0) (cM (cO 2) (cM (cO 3) cS)))))
def tN (M:fi) (dv:cg):cb:=
  (g0 5 (dB ou (dC (.int 1)) (dg 4)))
def mX (M:fi) (dv:cg):cb:=
  (Hk [7,8] (cV iq (cM (cO 2) (cM (cO 3) (cM (cO 4) (cM (cO 6) cS))))))
def tR (M:fi) (dv:cg):cb:=
  (g0 5 (BR 1 Rg dv M (cM (cO 0) (cM (cO 7) (cM (cO 8) (cM (dB ou (dC (.int 1)) (dg 4)) cS))))))
def mY (M:fi) (dv:cg):cb:=
  (kx (qB (dB BG (dg 5) (dg 4))) (tR M dv) gq)
def gN (M:fi) (dv:cg):cb:=
  (dP (mX M dv)
  (mY M dv))
def mZ (M:fi) (dv:cg):cb:=
  (nE 6 (iL (cV gh (cM (cO 0) (cM (cO 2) (cM (cO 3) (cM (cO 4) cS)))))) (gN M dv))
def m3 (M:fi) (dv:cg):cb:=
  (kx (qB (dB isO (dg 5) (dC .eZ))) (dP (tN M dv)
  (mZ M dv)) gq)
def m4 (M:fi) (dv:cg):cb:=
  (mE M 1 (fy (cM (cO 2) (cM (cO 3) (cM (cO 4) cS)))) (cO 5))
def m5 (M:fi) (dv:cg):cb:=
  (nL 1 [5,6,7,8] (fy (cM (cO 2) (cM (cO 3) (cM (cO 4) cS)))) (dP (mW M dv)
  (dP (m3 M dv)
  (m4 M dv))))
def rh (M:fi) (dv:cg):cb:=
  (eB (j7 M 1 (fy (cM (cO 2) (cM (cO 3) (cM (cO 4) cS))))))
def lL (M:fi) (dv:cg):cb:=
  (dP (m5 M dv)
  (rh M dv))
def ir:Nat->cg
 |0=>λ_=>none
 |n+1=>Ht 9 5 1 Rg (λM=>lL M (ir n))
end PW
namespace PC
open DL GP
open L2 (nX Eh)
def l4 (h:f (U.set j (.d d))=some (.next δ')):gL j f (d::ds) U=gL j f ds δ':=by simp only[gL,h]
def Rh (h:f (U.set j (.d d))=some (.ret r)):gL j f (d::ds) U=some (.ret r):=by simp only[gL,h]
def vz (h:i U=some ds) (h2:gL j f ds U=r):nE j i f U=r:=by
 unfold nE;rw[h];exact h2
def Mr {is:List Nat}{U:fW}{ds:cw}(h:f U=some (.t ds)) (hl:ds.length=is.length):Hk is f U=some (.next (wB is ds U)):=by
 unfold Hk;rw[h];simp only[hl,if_true]
theorem oY {α:Type}{j:Nat}{t:cf}{f:cc}{U:fW}{φ ψ:α->D}{p:α->Bool}:∀(l:List α),(∀a∈l,t (U.set j (.d (φ a)))=some (p a))->(∀a∈l,p a=true->f (U.set j (.d (φ a)))=some (ψ a))->i8 j t f U (l.map φ)=some ((l.filter p).map ψ)
 |[],_,_=>rfl
 |a::r,h1,h2=>by
  have ih:=oY r (λb hb=>h1 b (aj _ hb)) λb hb=>h2 b (aj _ hb)
  show i8 j t f U (φ a::r.map φ)=_;unfold i8;rw[h1 a af,bu];cases hp:p a with
  |true=>
   simp only[if_true];rw[h2 a af hp,ih];rfl
  |false=>simpa using ih
def kE (h:i U=some ds) (hl:ds.length<1000000) (h2:i8 j t f U ds=r):fq i j t f U=r:=by
 unfold fq;rw[h];simp only[aq,if_pos hl];exact h2
def CC {i:Nat}{f:bZ}{U:fW}{ds:cw}(h:f U=some ds):mw i f U=some (.next (U.set i (.o ds))):=by
 unfold mw;rw[h];rfl
def Iq (h:eN x<=30):BG x x=some (.bl false):=by
 unfold BG;rw[if_pos h,xC];rfl
def CG (h1:f U=some false) (h2:g U=r):Ep f g U=r:=by
 unfold Ep;rw[h1];exact h2
def Ri (h1:f U=some true) (h2:g U=r):xy f g U=r:=by
 unfold xy;rw[h1];exact h2
def W4 (h1:f U=some false):xy f g U=some false:=by
 unfold xy;rw[h1]
def Rj (a b:cq):BG (vc a) (vc b)=some (.bl (!decide (a=b))):=by
 unfold BG;rw[if_pos (by rw[LW.ux];omega),LW.B9]
def kF (a b:Int):nF (.int a) (.int b)=some (.bl (decide (a=b))):=by
 have:nF (.int a) (.int b)=some (.bl (a==b)):=rfl;rw[this]
 congr 2
def Ir (a:cq) (L:cp):GN (vc a) (.t (L.map vc))=some (.bl (decide (a∈L))):=by
 show(if jj (L.map vc)<=30 then some (D.bl (memD (vc a) (L.map vc)))else none)=_
 have:=LW.vo L;rw[if_pos (by omega),LW.zr]
end PC
namespace PW
open DL GP PC
open LW (eX gg hX)
open L2 (nX Eh)
open ST (iV B5)
def vA (hw:w=0\/w=1):dZ [.int w]=some (.int (1-w)):=by
 refine LW.eh rfl ?_;rcases hw with rfl|rfl<;>rfl
def Iu (hl:l.length<1000000):mM [vc l,vc m]=some (vc (Au m l)):=by
 refine LW.eh rfl ?_;show sE [cJ l,cJ m,.n]=_;unfold sE v9;refine eV ((mV (ds:=(Au m l).map D.int) ?_).trans rfl);exact kE (ds:=l.map D.int) rfl (by simpa using hl) (oY l (λi _=>fQ ((gC rfl rfl).trans (yh i m))) λi _ _=>rfl)
def Gf (hf:f U=some (.bl a)) (hg:g U=some (.bl b)):JK f g U=some (.bl (a&&b)):=by
 unfold JK;rw[hf];cases a
 .rfl
 .simpa using hg
def DT (hS:S=.t (L.map vc)\/S=.l (L.map vc)) (hn:L.length<1000000) (hl:∀o∈L,o.length<1000000):mj [vc l,S]=some (.bl (Q5 l L)):=by
 refine LW.eh rfl ?_;show oV [cJ l,.d S,.n]=_;unfold oV tM Q5;have it:iS (cO 1) [cJ l,.d S,.n]=some (L.map vc):=by rcases hS with rfl|rfl<;>rfl
 refine eV ((mV (ds:=L.map λo=>D.bl ((!decide (o=l))&&iA l o)) ?_).trans (Cz L _))
 exact kE it (by simpa using hn) (ke L λo ho=>Gf ((gC rfl rfl).trans (Rj o l)) ((di rfl).trans (ES (hl o ho))))
def Rk {c:cq}{L:cp}(hn:L.length<1000000) (hl:∀o∈L,o.length<1000000):yp [vc c,.l (L.map vc)]=some (.bl (L.all λl=>fL c l)):=by
 refine LW.eh rfl ?_;show zA [cJ c,.d (.l (L.map vc)),.n]=_;unfold zA CB;refine eV ((mV (ds:=L.map λo=>D.bl (fL c o)) ?_).trans (LW.yf L _))
 exact kE (ds:=L.map vc) rfl (by simpa using hn) (ke L λo ho=>(di rfl).trans (wQ (hl o ho)))
theorem yu {α:Type} [BEq α] [LawfulBEq α]:∀(n:Nat) (l:List α),l.length<=n->l.eraseDups.length<=l.length
 |_,[],_=>by simp
 |0,_::_,h=>by simp at h
 |n+1,a::l,h=>by
  rw[eraseDups_cons,az,az];have h1:=aX (λb=> !b==a) l
  have h2:=yu n (l.filter λb=> !b==a) (aE h1 (by simpa using h))
  omega
def KJ (hS:S=.t (L.map vc)\/S=.l (L.map vc)) (hn:L.length<=18) (hl:∀o∈L,o.length<1000000):fB [S,vc m,vc y]=some (.t ((hJ L m y).map vc)):=by
 refine LW.eh rfl ?_;show qq [.d S,cJ m,cJ y,.n,.n,.n]=_;have it:iS (cO 0) [.d S,cJ m,cJ y,.n,.n,.n]=some (L.map vc):=by rcases hS with rfl|rfl<;>rfl
 have k1:fq (iS (cO 0)) 5 (kN (qB (cV gB (cM (cO 2) (cM (cO 5) cS))))) (cV mM (cM (cO 5) (cM (cO 1) cS))) [.d S,cJ m,cJ y,.n,.n,.n]=some ((gw L m y).map vc):=by
  unfold gw;rw[aW];exact kE it (by rw[ae];omega) (oY L (λl lq=>nR (fQ ((di rfl).trans (wQ (hl l lq))))) λl lq _=>(di rfl).trans (Iu (hl l lq)))
 have e1:uK [.d S,cJ m,cJ y,.n,.n,.n]=some (.next [.d S,cJ m,cJ y,.o ((gw L m y).map vc),.n,.n]):=CC k1;have Xl:(gw L m y).length<=18:=by unfold gw;rw[ae];exact aE (aX _ _) hn
 have hnl:∀o∈gw L m y,o.length<1000000:=λo ho=>by
  obtain⟨l,lq,_,rfl⟩:=gR.mp ho;exact Nat.lt_of_le_of_lt (aX _ _) (hl l lq)
 have hul:∀o∈gP (gw L m y).eraseDups,o.length<1000000:=λo ho=>hnl o (Mj.mp ho)
 have hun:(gP (gw L m y).eraseDups).length<1000000:=by
  rw[(fZ _).length_eq];exact Nat.lt_of_le_of_lt (yu _ _ (av _)) (by omega)
 have k2:yb (dg 3) [.d S,cJ m,cJ y,.d (.l ((gw L m y).map vc)),.n,.n]=some ((gP (gw L m y).eraseDups).map vc):=by
  show(if((gw L m y).map vc).length<=18 then(wA ((gw L m y).map vc)).map _ else none)=_
  rw[if_pos (by rw[ae];exact Xl),BL];rfl
 have e2:oW [.d S,cJ m,cJ y,.d (.l ((gw L m y).map vc)),.n,.n]=some (.next [.d S,cJ m,cJ y,.d (.l ((gw L m y).map vc)),.o ((gP (gw L m y).eraseDups).map vc),.n]):=CC k2;unfold qq;rw[LW.cR e1];show(dP oW (vS 4 lI)) [.d S,cJ m,cJ y,.d (.l ((gw L m y).map vc)),.n,.n]=_;rw[LW.cR e2];show lI [.d S,cJ m,cJ y,.d (.l ((gw L m y).map vc)),.d (.l ((gP (gw L m y).eraseDups).map vc)),.n]=_;unfold lI;refine eV ((mV (ds:=(hJ L m y).map vc) ?_).trans rfl);unfold hJ Q6;exact kE (ds:=(gP (gw L m y).eraseDups).map vc) rfl (by rw[ae];exact hun) (oY _ (λl lq=>nR (fQ ((di rfl).trans (DT (.inr rfl) hun hul)))) λl _ _=>rfl)
def AO (ζ:List (Int×Int)) (L:cp):List (Int×Int):=L.foldl (λk l=>l.foldl qR k) ζ
def ft (L:cp):cq:=(gP (iV (AO [] L))).map λns=>ns.getD 1 0
def Rl (ζ:List (Int×Int)) (p:Int):(qR ζ p).map (·.1)=if p∈ζ.map (·.1)then ζ.map (·.1)else ζ.map (·.1)++[p]:=by
 have ha:(ζ.any λkv=>decide (kv.1=p))=decide (p∈ζ.map (·.1)):=by
  rw[Bool.eq_iff_iff];simp[bP]
 unfold qR;rw[ha];by_cases h:p∈ζ.map (·.1)
 .rw[if_pos (aS h),if_pos h,aW];refine bT λkv _=>?_
  simp only[Function.comp_apply];split<;>rfl
 .rw[if_neg (by rw[aI h];simp),if_neg h,map_append];rfl
def Ms (ζ:List (Int×Int)) (p:Int):(qR ζ p).length<=ζ.length+1:=by
 unfold qR;split
 .rw[ae];omega
 .simp
theorem EU:∀(l:cq) (ζ:List (Int×Int)),(ζ.map (·.1)).Nodup->((l.foldl qR ζ).map (·.1)).Nodup/\∀p,p∈(l.foldl qR ζ).map (·.1)↔p∈ζ.map (·.1)\/p∈l
 |[],ζ,h=>⟨h,λp=>by simp⟩
 |q::l,ζ,h=>by
  have e:=Rl ζ q;have hn:((qR ζ q).map (·.1)).Nodup:=by
   rw[e];split
   .exact h
   .rename_i hq;rw[nodup_append];exact⟨h,by simp,λa ha b hb=>by simp at hb;subst hb;intro z;subst z;exact hq ha⟩
  obtain⟨h1,h2⟩:=EU l (qR ζ q) hn;refine⟨h1,λp=>(h2 p).trans ?_⟩
  rw[e];by_cases hq:q∈ζ.map (·.1)
  .rw[if_pos hq,mem_cons];constructor
   .rintro(z|z)
    .exact .inl z
    .exact .inr (.inr z)
   .rintro(z|rfl|z)
    .exact .inl z
    .exact .inl hq
    .exact .inr z
  .rw[if_neg hq];simp only[mem_append,mem_cons,bJ,or_false];constructor
   .rintro((z|z)|z)
    .exact .inl z
    .exact .inr (.inl z)
    .exact .inr (.inr z)
   .rintro(z|z|z)
    .exact .inl (.inl z)
    .exact .inl (.inr z)
    .exact .inr z
theorem CH:∀(L:cp) (ζ:List (Int×Int)),(ζ.map (·.1)).Nodup->((AO ζ L).map (·.1)).Nodup/\∀p,p∈(AO ζ L).map (·.1)↔p∈ζ.map (·.1)\/∃l∈L,p∈l
 |[],ζ,h=>⟨h,λp=>by simp[AO]⟩
 |l::L,ζ,h=>by
  obtain⟨h1,h2⟩:=EU l ζ h;obtain⟨h3,h4⟩:=CH L (l.foldl qR ζ) h1;refine⟨h3,λp=>(h4 p).trans ?_⟩
  rw[h2];constructor
  .rintro((z|z)|⟨k,hk,z⟩)
   .exact .inl z
   .exact .inr ⟨l,af,z⟩
   .exact .inr ⟨k,aj _ hk,z⟩
  .rintro(z|⟨k,hk,z⟩)
   .exact .inl (.inl z)
   .rcases mem_cons.mp hk with rfl|hk
    .exact .inl (.inr z)
    .exact .inr ⟨k,hk,z⟩
def zC (L:cp):(ft L).Perm ((AO [] L).map (·.1)):=by
 unfold ft;refine((fZ _).map _).trans ?_;unfold iV;rw[aW];exact List.Perm.refl _
def l6 (L:cp):(ft L).Nodup:=(zC L).nodup_iff.mpr (CH L [] (by simp)).1
def jC (L:cp) (p:Int):p∈ft L↔∃l∈L,p∈l:=by
 rw[(zC L).mem_iff,(CH L [] (by simp)).2]
 simp
def CI (h9:Cf<=9) (h:∀l∈L,∀p∈l,0<=p/\p<Cf):(ft L).length<=9:=by
 have r:gD (ξ (ft L)):=LW.lV (l6 L);have:=j8 (Cf:=Cf) r λp hp=>by
  obtain⟨l,hl,N6⟩:=(jC L p).mp (dJ.mp hp);exact h l hl p N6
 rw[(sortI_perm _).length_eq]at this;omega
theorem Iv:∀(l:cq) (ζ:List (Int×Int)) (x3:Sl),ζ.length+l.length<=1000->(∀ks,x2≠.m ks)->(∀ks,x3≠.m ks)->∃y3,(∀ks,y3≠.m ks)/\
  gL 3 gX (l.map D.int) [.d Ls,.m [nN ζ],x2,x3]=some (.next [.d Ls,.m [nN (l.foldl qR ζ)],x2,y3])
 |[],ζ,x3,_,_,h3=>⟨x3,h3,rfl⟩
 |p::l,ζ,x3,hk,h2,h3=>by
  simp only[az]at hk;have nm:sd [.d Ls,.n,x2,cI p]=true:=by
   cases x2 with
   |m ks=>exact absurd rfl (h2 ks)
   |_=>rfl
  have e:gX [.d Ls,.m [nN ζ],x2,cI p]=some (.next [.d Ls,.m [nN (qR ζ p)],x2,cI p]):=by
   show(Kq (nN ζ)).bind _=_;rw[FV];show(if ζ.length<1000/\sd [.d Ls,.n,x2,cI p]=true then _ else _)=_
   rw[if_pos ⟨by omega,nm⟩]
   rfl
  have:=Ms ζ p;obtain⟨y3,hy,ih⟩:=Iv (Ls:=Ls) (x2:=x2) l (qR ζ p) (cI p) (by omega) h2 (λks z=>by cases z)
  refine⟨y3,hy,?_⟩;rw[aG,l4 (j:=3) (f:=gX) (d:=.int p) (U:=[.d Ls,.m [nN ζ],x2,x3]) e,ih];rfl
theorem EV:∀(l:cq) (ζ:List (Int×Int)),(l.foldl qR ζ).length<=ζ.length+l.length
 |[],_=>by simp
 |p::l,ζ=>by
  have:=Ms ζ p;have:=EV l (qR ζ p);simp only[foldl_cons,az];omega
theorem Iw:∀(L:cp) (ζ:List (Int×Int)) (x2 x3:Sl),ζ.length+(L.map (·.length)).sum<=1000->(∀ks,x3≠.m ks)->∃y2 y3,
  gL 2 f9 (L.map vc) [.d Ls,.m [nN ζ],x2,x3]=some (.next [.d Ls,.m [nN (AO ζ L)],y2,y3])
 |[],ζ,x2,x3,_,_=>⟨x2,x3,rfl⟩
 |l::L,ζ,x2,x3,hk,h3=>by
  simp only[aG,sum_cons]at hk;obtain⟨y3,hy,e⟩:=Iv (Ls:=Ls) (x2:=cJ l) l ζ x3 (by omega) (λks z=>by cases z) h3
  have e2:f9 [.d Ls,.m [nN ζ],cJ l,x3]=some (.next [.d Ls,.m [nN (l.foldl qR ζ)],cJ l,y3]):=by
   unfold f9 pQ;exact vz (ds:=l.map D.int) rfl e
  have:=EV l ζ;obtain⟨z2,z3,ih⟩:=Iw (Ls:=Ls) L (l.foldl qR ζ) (cJ l) y3 (by omega) hy
  refine⟨z2,z3,?_⟩;rw[aG,l4 (j:=2) (f:=f9) (d:=vc l) (U:=[.d Ls,.m [nN ζ],x2,x3]) e2,ih];rfl
abbrev _root_.DU (L:cp):DL.Sl:=.d (.t (L.map vc))
def Rm {L:cp}{Cf:Int}(h9:Cf<=9) (h:∀l∈L,∀p∈l,0<=p/\p<Cf) (hs:(L.map (·.length)).sum<=1000) (jI:∃l∈L,l≠[]):jb [.t (L.map vc)]=some (vc (ft L)):=by
 refine LW.eh rfl ?_;show qY [DU L,.n,.n,.n]=_;obtain⟨y2,y3,e⟩:=Iw (Ls:=.t (L.map vc)) L [] .n .n (by simpa using hs) (λks z=>by cases z)
 have e3:lH [DU L,.m [nN []],.n,.n]=some (.next [DU L,.m [nN (AO [] L)],y2,y3]):=by
  unfold lH;exact vz (ds:=L.map vc) rfl e
 have hl9:=CI h9 h;have fR:(AO [] L).length=(ft L).length:=by rw[(zC L).length_eq,ae]
 have h1:1<=(AO [] L).length:=by
  rw[fR];obtain⟨l,hl,G1⟩:=jI;cases l with
  |nil=>exact absurd rfl G1
  |cons p r=>
   have:=(jC L p).mpr ⟨_,hl,af⟩;exact length_pos_of_mem this
 have e4:gY [DU L,.m [nN []],.n,.n]=some (.ret (vc (ft L))):=by
  unfold gY;rw[LW.cR e3];unfold pR;refine eV ((mV (ds:=(ft L).map D.int) ?_).trans rfl);show(Kq (nN (AO [] L))).bind _=_;rw[FV];show(if 1<=(AO [] L).length/\(AO [] L).length<64 then _ else _)=_
  rw[if_pos ⟨h1,by omega⟩]
  unfold ft;rw[aW];rfl
 show(if noOwn [DU L,.n,.n,.n]=true/\1<4 then(gY [DU L,.m [nN []],.n,.n]).bind (DE 1)else none)=_
 rw[if_pos ⟨rfl,by decide⟩,e4]
 rfl
end PW
namespace PW
open DL GP PC
open LW (eX gg hX)
open L2 (nX Eh)
def dG (G:Gm) (f:Int):D:=la G.Cf G.ls f G.b G.g
def Mt (hG:G.Ok):hZ [dG G f,vc m,vc y]=some (Cd (G.over m y)):=WZ hG.ll
def EW (hG:G.Ok) (h:eK G.Cf m y) (hw:w=0\/w=1):gh [dG G f,vc m,vc y,.int w]=some (.l ((G.cY m y w).map vc)):=by
 have h1:=j8 h.rm h.im;have h2:=j8 h.ry h.iy;have:=hG.m9;have:=hG.m0;have:=hG.b1;have:=hG.b3;have:=hG.g1;have:=hG.g3;exact Rc hG.m0 (by omega) ⟨by omega,hG.b3⟩ ⟨by omega,hG.g3⟩ hw (by omega)
def Gg {G:Gm}(hG:G.Ok) (h:eK G.Cf m y) (hc:c∈G.cY m y w):iq [vc m,vc y,.int w,vc c]=some (.t [vc (df m y w c).1,vc (df m y w c).2]):=by
 have h1:=j8 h.rm h.im;have h2:=j8 h.ry h.iy;have h3:=mK h hc;have h4:=F8 hG m y;have:=hG.m9;exact U8 (by omega) (by omega)
section
variable {G:Gm}{f:Int}{ks:cw}
abbrev _root_.jD (G:GP.Gm) (f:Int):DL.Sl:=.d (dG G f)
def Rn (hG:G.Ok) (h:eK G.Cf m y) (hw:w=0\/w=1) {fo:Int}{x7 x8:Sl}(hc:c∈G.cY m y w) (XG:fo=w\/fo=1-w) (hr:rc [dG G f,vc (df m y w c).1,vc (df m y w c).2,.int (1-w)]=some (.int (G.gA (df m y w c).1 (df m y w c).2 (1-w)))):gN (jy G hG) rc [jD G f,.m ks,cJ m,cJ y,cI w,cI fo,cJ c,x7,x8]=
   some (.next [jD G f,.m ks,cJ m,cJ y,cI w,cI (if fo=w then w else G.gA (df m y w c).1 (df m y w c).2 (1-w)),cJ c,cJ (df m y w c).1,cJ (df m y w c).2]):=by
 have e3:mX (jy G hG) rc [jD G f,.m ks,cJ m,cJ y,cI w,cI fo,cJ c,x7,x8]=some (.next [jD G f,.m ks,cJ m,cJ y,cI w,cI fo,cJ c,cJ (df m y w c).1,cJ (df m y w c).2]):=by
  have a:cV iq (cM (cO 2) (cM (cO 3) (cM (cO 4) (cM (cO 6) cS)))) [jD G f,.m ks,cJ m,cJ y,cI w,cI fo,cJ c,x7,x8]=iq [vc m,vc y,.int w,vc c]:=rfl;unfold mX Hk;rw[a,Gg hG h hc];rfl
 unfold gN;rw[LW.cR e3];have q:∀r:Option R->Prop,True:=λ_=>trivial
 by_cases hf:fo=w
 .subst hf;rw[if_pos rfl];simp[mY,kx,gq,qB,dB,dg,BG,eN,jK]
 .rw[if_neg hf];have jI:(fo==w)=false:=by simpa using hf
  have a:BR 1 Rg rc (jy G hG) (cM (cO 0) (cM (cO 7) (cM (cO 8) (cM (dB ou (dC (.int 1)) (dg 4)) cS)))) [jD G f,.m ks,cJ m,cJ y,cI w,cI fo,cJ c,cJ (df m y w c).1,cJ (df m y w c).2]=some (.int (G.gA (df m y w c).1 (df m y w c).2 (1-w))):=by
   have b:cM (cO 0) (cM (cO 7) (cM (cO 8) (cM (dB ou (dC (.int 1)) (dg 4)) cS))) [jD G f,.m ks,cJ m,cJ y,cI w,cI fo,cJ c,cJ (df m y w c).1,cJ (df m y w c).2]=some [dG G f,vc (df m y w c).1,vc (df m y w c).2,.int (1-w)]:=rfl;unfold BR;rw[b];simp only[aL,aN,aq];rw[if_pos (show Rg [dG G f,vc (df m y w c).1,vc (df m y w c).2,.int (1-w)]=jy G hG from Aq hG f)]
   exact hr
  have t:qB (dB BG (dg 5) (dg 4)) [jD G f,.m ks,cJ m,cJ y,cI w,cI fo,cJ c,cJ (df m y w c).1,cJ (df m y w c).2]=some true:=by
   simp[qB,dB,dg,BG,eN,jK,jI]
  unfold mY kx;rw[t];simp only;unfold tR g0;rw[a];rfl
theorem Iy (hG:G.Ok) (h:eK G.Cf m y) (hw:w=0\/w=1):∀(cs:cp) (fo:Int) (x6 x7 x8:Sl),(fo=w\/fo=1-w)->(∀c∈cs,c∈G.cY m y w)->
  (∀c∈cs,rc [dG G f,vc (df m y w c).1,vc (df m y w c).2,.int (1-w)]=some (.int (G.gA (df m y w c).1 (df m y w c).2 (1-w))))->
  ∃x6' x7' x8',gL 6 (gN (jy G hG) rc) (cs.map vc) [jD G f,.m ks,cJ m,cJ y,cI w,cI fo,x6,x7,x8]=
   some (.next [jD G f,.m ks,cJ m,cJ y,cI w,cI (if fo=w\/cs.any (λc=>G.gA (df m y w c).1 (df m y w c).2 (1-w)==w)=true then w else 1-w),x6',x7',x8'])
 |[],fo,x6,x7,x8,XG,_,_=>⟨x6,x7,x8,by
   have:fo=(if fo=w\/([]:cp).any (λc=>G.gA (df m y w c).1 (df m y w c).2 (1-w)==w)=true then w else 1-w):=by
    rcases XG with rfl|rfl
    .simp
    .have:¬ (1-w=w):=by omega
     simp[this]
   rw[<-this];rfl⟩
 |c::cs,fo,x6,x7,x8,XG,hc,hr=>by
  have e:=Rn (f:=f) (ks:=ks) (x7:=x7) (x8:=x8) hG h hw (hc c af) XG (hr c af);have XH:=jY (w:=1-w) hG (gz h (hc c af)) (by omega)
  obtain⟨a,b,d,ih⟩:=Iy hG h hw cs (if fo=w then w else G.gA (df m y w c).1 (df m y w c).2 (1-w)) (cJ c) (cJ (df m y w c).1) (cJ (df m y w c).2) (by split<;>omega) (λc h=>hc c (aj _ h)) (λc h=>hr c (aj _ h))
  refine⟨a,b,d,?_⟩;simp only[aG,gL,aZ,aY];rw[e];simp only;rw[ih];have:((if fo=w then w else G.gA (df m y w c).1 (df m y w c).2 (1-w))=w\/cs.any (λc=>G.gA (df m y w c).1 (df m y w c).2 (1-w)==w)=true)↔(fo=w\/(c::cs).any (λc=>G.gA (df m y w c).1 (df m y w c).2 (1-w)==w)=true):=by
   rw[bH,Bool.or_eq_true,beq_iff_eq];by_cases hf:fo=w
   .simp[hf]
   .simp[hf]
  simp only[this]
def Ro (hG:G.Ok) (h:eK G.Cf m y) (hw:w=0\/w=1)
  (hr:G.over m y=none->∀c∈G.cY m y w,rc [dG G f,vc (df m y w c).1,vc (df m y w c).2,.int (1-w)]=some (.int (G.gA (df m y w c).1 (df m y w c).2 (1-w)))):
  lL (jy G hG) rc [jD G f,.m [],cJ m,cJ y,cI w,.n,.n,.n,.n]=some (.ret (.int (G.gA m y w))):=by
 have e1:mW (jy G hG) rc [jD G f,.m [],cJ m,cJ y,cI w,.n,.n,.n,.n]=some (.next [jD G f,.m [],cJ m,cJ y,cI w,.d (Cd (G.over m y)),.n,.n,.n]):=by
  have a:cV hZ (cM (cO 0) (cM (cO 2) (cM (cO 3) cS))) [jD G f,.m [],cJ m,cJ y,cI w,.n,.n,.n,.n]=hZ [dG G f,vc m,vc y]:=rfl;unfold mW g0;rw[a,Mt hG];rfl
 have e7:∃x6 x7 x8,m3 (jy G hG) rc [jD G f,.m [],cJ m,cJ y,cI w,.d (Cd (G.over m y)),.n,.n,.n]=some (.next [jD G f,.m [],cJ m,cJ y,cI w,cI (G.gA m y w),x6,x7,x8]):=by
  rw[Ci hG h];cases ho:G.over m y with
  |some i=>exact⟨.n,.n,.n,rfl⟩
  |none=>
   have e2:tN (jy G hG) rc [jD G f,.m [],cJ m,cJ y,cI w,.d .eZ,.n,.n,.n]=some (.next [jD G f,.m [],cJ m,cJ y,cI w,cI (1-w),.n,.n,.n]):=rfl;obtain⟨a,b,d,e⟩:=Iy (f:=f) (ks:=[]) (rc:=rc) hG h hw (G.cY m y w) (1-w) .n .n .n (.inr rfl) (λc hc=>hc) (hr ho)
   have e6:mZ (jy G hG) rc [jD G f,.m [],cJ m,cJ y,cI w,cI (1-w),.n,.n,.n]=gL 6 (gN (jy G hG) rc) ((G.cY m y w).map vc) [jD G f,.m [],cJ m,cJ y,cI w,cI (1-w),.n,.n,.n]:=by
    have z:cV gh (cM (cO 0) (cM (cO 2) (cM (cO 3) (cM (cO 4) cS)))) [jD G f,.m [],cJ m,cJ y,cI w,cI (1-w),.n,.n,.n]=gh [dG G f,vc m,vc y,.int w]:=rfl;unfold mZ nE iL;rw[z,EW hG h hw];rfl
   refine⟨a,b,d,?_⟩;have nw:¬ (1-w=w):=by omega
   simp only[nw,false_or]at e;unfold m3 kx;have t:qB (dB isO (dg 5) (dC .eZ)) [jD G f,.m [],cJ m,cJ y,cI w,.d (Cd none),.n,.n,.n]=some true:=rfl;rw[t];simp only;show dP _ _ [jD G f,.m [],cJ m,cJ y,cI w,.d .eZ,.n,.n,.n]=_;rw[LW.cR e2,e6,e]
 obtain⟨x6,x7,x8,e7⟩:=e7;have e8:m4 (jy G hG) rc [jD G f,.m [],cJ m,cJ y,cI w,cI (G.gA m y w),x6,x7,x8]=some (.next [jD G f,.m [t9 m y w],cJ m,cJ y,cI w,cI (G.gA m y w),x6,x7,x8]):=by
  have k:fy (cM (cO 2) (cM (cO 3) (cM (cO 4) cS))) [jD G f,.m [],cJ m,cJ y,cI w,cI (G.gA m y w),x6,x7,x8]=some (t9 m y w):=rfl;unfold m4 mE;rw[k];exact if_pos (HV h hw)
 have e9:m5 (jy G hG) rc [jD G f,.m [],cJ m,cJ y,cI w,.n,.n,.n,.n]=some (.next [jD G f,.m [t9 m y w],cJ m,cJ y,cI w,.n,.n,.n,.n]):=by
  have k:fy (cM (cO 2) (cM (cO 3) (cM (cO 4) cS))) [jD G f,.m [],cJ m,cJ y,cI w,.n,.n,.n,.n]=some (t9 m y w):=rfl;unfold m5 nL;rw[k,LW.cR e1,LW.cR e7,e8];have ko:=Kx m y w;refine if_pos ⟨ko.1,ko.2,rfl,λi s hs=>?_⟩
  match i,hs with
  |0,hs=>exact .inr (.inl hs)
  |1,hs=>exact .inr (.inl hs)
  |2,hs=>exact .inr (.inl hs)
  |3,hs=>exact .inr (.inl hs)
  |4,hs=>exact .inr (.inl hs)
  |5,hs=>cases hs;exact .inl rfl
  |6,hs=>cases hs;exact .inl rfl
  |7,hs=>cases hs;exact .inl rfl
  |8,hs=>cases hs;exact .inl rfl
  |(i+9),hs=>cases hs
 unfold lL;rw[LW.cR e9];have k:fy (cM (cO 2) (cM (cO 3) (cM (cO 4) cS))) [jD G f,.m [t9 m y w],cJ m,cJ y,cI w,.n,.n,.n,.n]=some (t9 m y w):=rfl;have gt:j7 (jy G hG) 1 (fy (cM (cO 2) (cM (cO 3) (cM (cO 4) cS)))) [jD G f,.m [t9 m y w],cJ m,cJ y,cI w,.n,.n,.n,.n]=some (.int (G.gA m y w)):=by
  have ko:=Kx m y w;unfold j7;rw[k];exact(if_pos ⟨ko.1,ko.2,bw.mpr rfl⟩).trans (HV h hw)
 unfold rh eB;rw[gt];rfl
end
theorem Iz (hG:G.Ok):∀(n:Nat) (m y:cq) (w:Int),eK G.Cf m y->(w=0\/w=1)->(G.free m y).length<n->ir n [dG G f,vc m,vc y,.int w]=some (.int (G.gA m y w))
 |0,_,_,_,_,_,h=>absurd h (by omega)
 |n+1,m,y,w,h,hw,hn=>by
  have e:=Ro (rc:=ir n) (f:=f) hG h hw λho c hc=>by
   have:=mK h hc;have:=qU hG ho hc;exact Iz hG n _ _ _ (gz h hc) (by omega) (by omega)
  have sp:Rg [dG G f,vc m,vc y,.int w]=jy G hG:=Aq hG f;unfold ir Ht;rw[if_pos ⟨rfl,by decide⟩,sp]
  have st:startM 9 5 1 [dG G f,vc m,vc y,.int w]=[jD G f,.m [],cJ m,cJ y,cI w,.n,.n,.n,.n]:=rfl;simp only[st,e]
def ji (hl:ds.length+1=np) (h:fb G (startM n np 0 ds)=some (.ret d)):i9 n np fb (G::ds)=some d:=by
 show(if ds.length+1=np/\0<np then _ else _)=_
 rw[if_pos ⟨hl,by omega⟩,h]
structure qu (G:Gm):Prop where
 ok:G.Ok
 AQ:G.ls.length<=18
 rise:∀l∈G.ls,gD l
structure SL (G:Gm) (L:cp):Prop where
 s:Q8 G L
 lo:TV G L
 rise:∀l∈L,gD l
 AQ:L.length<=18
 nine:∀l∈L,l.length<=9
 sum:(L.map (·.length)).sum<=1000
theorem Rp:∀(L:cp),(∀l∈L,l.length<=k)->(L.map (·.length)).sum<=L.length*k
 |[],_=>by simp
 |l::L,h=>by
  have:=Rp L λx hx=>h x (aj _ hx)
  have:=h l af;simp only[aG,sum_cons,az,Nat.add_mul,Nat.one_mul];omega
def qu.lo (h:qu G):TV G G.ls:=⟨h.ok.li,h.ok.ll⟩
def qu.sl (h:qu G) (s:Q8 G L):SL G L:=by
 obtain⟨m,y,p,rfl⟩:=s;have r:=NK (m:=m) (y:=y) h.rise;have lo:=Ie (m:=m) (y:=y) h.lo;have n:(hJ G.ls m y).length<=18:=by
  unfold hJ Q6;refine aE (aX _ _) ?_;rw[(fZ _).length_eq];refine aE (yu _ _ (av _)) ?_;unfold gw;rw[ae];exact aE (aX _ _) h.AQ
 have nine:∀l∈hJ G.ls m y,l.length<=9:=λl hl=>by
  have:=j8 (r l hl) (lo.li l hl);have:=h.ok.m9;omega
 have:=Rp _ nine;exact⟨⟨m,y,p,rfl⟩,lo,r,n,nine,by omega⟩
def hU (G:Gm) (L:cp) (w:Int):cp:=
 if w=0 then vM G.b.toNat (ft L)else(vM G.g.toNat (ft L)).filter λc=>(L.filter λl=>decide ((l.length:Int)<=G.b)).all λl=>fL c l
section
variable {L:cp}{w:Int}
abbrev _root_.pV (L:cp) (w:Int) (r:DL.fW):DL.fW:=.m []::.d (.t (L.map vc))::cI w::r
def T5 (hG:G.Ok) (sl:SL G L) (jI:∃l∈L,l≠[]) (hw:w=0\/w=1):jB [dG G f,.t (L.map vc),.int w]=some (.t ((hU G L w).map vc)):=by
 have b1:=hG.b1;have b3:=hG.b3;have g1:=hG.g1;have g3:=hG.g3;have AQ:=sl.AQ;refine ji rfl ?_;show kC (dG G f) (pV L w [.n,.n,.n,.n])=_;have hu:=CI hG.m9 sl.lo.li;have ea:∀v:Int,(v=0\/v=1)->eS [dG G f,.int v]=some (.int (((if v=0 then G.b else G.g).toNat:Nat):Int)):=λv hv=>by
  rw[show dG G f=la G.Cf G.ls f G.b G.g from rfl,W3 hv]
  congr 2
  rcases hv with rfl|rfl<;>simp<;>omega
 have e1:lY (dG G f) (pV L w [.n,.n,.n,.n])=some (.next (pV L w [.d (.t ((vM (if w=0 then G.b else G.g).toNat (ft L)).map vc)),.n,.n,.n])):=by
  have k1:cV jb (cM (cO 1) cS) (pV L w [.n,.n,.n,.n])=some (vc (ft L)):=(di rfl).trans (Rm hG.m9 sl.lo.li sl.sum jI);have k2:cV eS (cM (lB (dG G f) 0) (cM (cO 2) cS)) (pV L w [.n,.n,.n,.n])=some (.int (((if w=0 then G.b else G.g).toNat:Nat):Int)):=(di rfl).trans (ea w hw)
  unfold lY;rw[fA ((di (iF k1 (pP k2))).trans (zy 5 _ _ (by split<;>omega) (by omega)))]
  rfl
 unfold kC;rw[LW.cR e1];have acQ:∀k:Nat,(vM k (ft L)).length<1000000:=λk=>by
  have h1:=HY (c:=k) (ps:=ft L);have h2:2^(ft L).length<=2^9:=Nat.pow_le_pow_right (by decide) hu
  have:(2:Nat)^9=512:=by decide
  omega
 rcases hw with rfl|rfl
 .have e3:lZ (dG G f) [.m [],DU L,cI 0,.d (.t ((vM (if(0:Int)=0 then G.b else G.g).toNat (ft L)).map vc)),.n,.n,.n]=some (.ret (.t ((hU G L 0).map vc))):=rfl
  rw[eP e3]
 .have e3:lZ (dG G f) [.m [],DU L,cI 1,.d (.t ((vM (if(1:Int)=0 then G.b else G.g).toNat (ft L)).map vc)),.n,.n,.n]=some (.next [.m [],DU L,cI 1,.d (.t ((vM (if(1:Int)=0 then G.b else G.g).toNat (ft L)).map vc)),.n,.n,.n]):=rfl
  rw[LW.cR e3];have k4:fq (iT (cO 1)) 5 (qB (dB Lp (cV iQ (cM (dg 5) cS)) (cV eS (cM (lB (dG G f) 0) (cM (dC (.int 0)) cS))))) (cO 5) [.m [],DU L,cI 1,.d (.t ((vM (if(1:Int)=0 then G.b else G.g).toNat (ft L)).map vc)),.n,.n,.n]=some ((L.filter λl=>decide ((l.length:Int)<=G.b)).map vc):=by
   refine kE (ds:=L.map vc) rfl (by rw[ae];omega) (oY L (λl _=>?_) λl _ _=>rfl)
   have kl:cV iQ (cM (dg 5) cS) [.m [],DU L,cI 1,.d (.t ((vM (if(1:Int)=0 then G.b else G.g).toNat (ft L)).map vc)),.n,cJ l,.n]=some (.int (l.length:Int)):=by
    show some (D.int ((l.map D.int).length:Int))=_;rw[ae]
   have ka:cV eS (cM (lB (dG G f) 0) (cM (dC (.int 0)) cS)) [.m [],DU L,cI 1,.d (.t ((vM (if(1:Int)=0 then G.b else G.g).toNat (ft L)).map vc)),.n,cJ l,.n]=some (.int G.b):=by
    refine(di rfl).trans ((ea 0 (.inl rfl)).trans ?_)
    congr 2
    simp;omega
   exact fQ ((gC (o:=Lp) kl ka).trans rfl)
  have e4:qZ (dG G f) [.m [],DU L,cI 1,.d (.t ((vM (if(1:Int)=0 then G.b else G.g).toNat (ft L)).map vc)),.n,.n,.n]=some (.next [.m [],DU L,cI 1,.d (.t ((vM (if(1:Int)=0 then G.b else G.g).toNat (ft L)).map vc)),.o ((L.filter λl=>decide ((l.length:Int)<=G.b)).map vc),.n,.n]):=CC k4
  rw[LW.cR e4];show l0 (dG G f) [.m [],DU L,cI 1,.d (.t ((vM (if(1:Int)=0 then G.b else G.g).toNat (ft L)).map vc)),.d (.l ((L.filter λl=>decide ((l.length:Int)<=G.b)).map vc)),.n,.n]=_
  unfold l0;refine eV ((mV (ds:=(hU G L 1).map vc) ?_).trans rfl);have hf:(L.filter λl=>decide ((l.length:Int)<=G.b)).length<1000000:=Nat.lt_of_le_of_lt (aX _ _) (by omega)
  refine kE (ds:=(vM (if(1:Int)=0 then G.b else G.g).toNat (ft L)).map vc) rfl (by rw[ae];exact acQ _) ?_
  exact oY _ (λc _=>fQ ((di rfl).trans (Rk hf λo ho=>by have:=sl.nine o (mem_filter.mp ho).1;omega))) λc _ _=>rfl
def jV (L:cp) (w:Int) (c:cq):cp:=if w=0 then hJ L (ξ c) []else hJ L [] (ξ c)
def NP (h:c∈hU G L w):∃k,(k=G.b.toNat\/k=G.g.toNat)/\c∈vM k (ft L):=by
 unfold hU at h;split at h
 .exact⟨_,.inl rfl,h⟩
 .exact⟨_,.inr rfl,(mem_filter.mp h).1⟩
def oZ (hG:G.Ok) (sl:SL G L) (jI:∃l∈L,l≠[]) (h:c∈hU G L w):c.Nodup/\(∀p∈c,p∈ft L)/\c.length<=4/\c≠[]:=by
 have b1:=hG.b1;have b3:=hG.b3;have g1:=hG.g1;have g3:=hG.g3;obtain⟨k,hk,hc⟩:=NP h;obtain⟨h1,h2,h3⟩:=sr hc;refine⟨qW hG sl.lo (jC L) (l6 L) hc,h1,by omega,λz=>?_⟩
 subst z;rcases h3 with z|z
 .simp at z;omega
 .obtain⟨l,hl,G1⟩:=jI;cases l with
  |nil=>exact G1 rfl
  |cons p r=>
   have:=z p ((jC L p).mpr ⟨_,hl,af⟩);cases this
def IA (hF:qu G) (sl:SL G L) (hc:∀p∈c,p∈ft L) (hn:c.Nodup):Q8 G (jV L w c):=by
 obtain⟨m,y,p,e⟩:=sl.s;have xf:∀q∈c,(0<=q/\q<G.Cf)/\q∉m/\q∉y:=λq hq=>by
  obtain⟨l,hl,hql⟩:=(jC L q).mp (hc q hq);refine⟨sl.lo.li l hl q hql,?_⟩;rw[e]at hl;obtain⟨k,hk,Z0,rfl⟩:=gR.mp (jz.mp hl).1;obtain⟨h1,h2⟩:=gx.mp hql;exact⟨h2,Z0 q h1⟩
 have rs:gD (ξ c):=LW.lV hn;unfold jV;split
 .refine⟨ξ (m++ξ c),y,⟨vq p.rm rs λq hq=>(xf q (dJ.mp hq)).2.1,p.ry,λq hq=>?_,p.iy,λq hq=>?_⟩,?_⟩
  .rcases mem_append.mp (dJ.mp hq)with z|z
   .exact p.im q z
   .exact(xf q (dJ.mp z)).1
  .rcases mem_append.mp (dJ.mp hq)with z|z
   .exact p.dj q z
   .exact(xf q (dJ.mp z)).2.2
  .rw[e];exact ER hF.rise (λq=>by rw[dJ,mem_append]) (λq=>by simp) (λq hq=>by cases hq)
 .refine⟨m,ξ (y++ξ c),⟨p.rm,vq p.ry rs λq hq=>(xf q (dJ.mp hq)).2.2,p.im,λq hq=>?_,λq hq z=>?_⟩,?_⟩
  .rcases mem_append.mp (dJ.mp hq)with z|z
   .exact p.iy q z
   .exact(xf q (dJ.mp z)).1
  .rcases mem_append.mp (dJ.mp z)with z|z
   .exact p.dj q hq z
   .exact(xf q (dJ.mp z)).2.1 hq
  .rw[e];exact ER hF.rise (λq=>by simp) (λq=>by rw[dJ,mem_append]) (λq hq=>(xf q (dJ.mp hq)).2.1)
def KL (sl:SL G L) (hc:∀p∈c,p∈ft L) (jI:c≠[]):(ft (jV L w c)).length<(ft L).length:=by
 have sub:∀p∈ft (jV L w c),p∈ft L/\p∉c:=λp hp=>by
  obtain⟨l,hl,oj⟩:=(jC _ p).mp hp;unfold jV at hl;split at hl
  .obtain⟨k,hk,_,rfl⟩:=gR.mp (jz.mp hl).1;obtain⟨h1,h2⟩:=gx.mp oj;exact⟨(jC _ p).mpr ⟨k,hk,h1⟩,λz=>h2 (dJ.mpr z)⟩
  .obtain⟨k,hk,Z0,rfl⟩:=gR.mp (jz.mp hl).1;obtain⟨h1,h2⟩:=gx.mp oj;exact⟨(jC _ p).mpr ⟨k,hk,h1⟩,λz=>Z0 p h1 (dJ.mpr z)⟩
 obtain⟨q,r,rfl⟩:∃q r,c=q::r:=by
  cases c with
  |nil=>exact absurd rfl jI
  |cons q r=>exact⟨q,r,rfl⟩
 have ra:gD (ξ (ft (jV L w (q::r)))):=LW.lV (l6 _);have rb:gD (ξ (ft L)):=LW.lV (l6 _);have:=Ic ra rb (λp hp=>dJ.mpr (sub p (dJ.mp hp)).1) λz=>by
  have h1:q∈ξ (ft (jV L w (q::r))):=by rw[z];exact dJ.mpr (hc q af)
  exact(sub q (dJ.mp h1)).2 af
 rwa [(sortI_perm _).length_eq,(sortI_perm _).length_eq]at this
def yw (hF:qu G) (sl:SL G L) (hc:∀p∈c,p∈ft L) (hn:c.Nodup) (hv:v=0\/v=1):(G.at (jV L w c)).gA [] [] v=if w=0 then(G.at L).gA (ξ c) [] v else(G.at L).gA [] (ξ c) v:=by
 obtain⟨p1,p2⟩:=uB hF.ok sl.lo (jC L) hc hn;unfold jV;split
 .exact(Ct hF.ok sl.lo sl.rise p1 hv).symm
 .exact(Ct hF.ok sl.lo sl.rise p2 hv).symm
end
def KN (h:ns≠[]):Hw [.l (ns.map D.int)]=some (.int (jM ns)):=by
 show(χ (ns.map D.int)).bind _=_;rw[ij];cases ns with
 |nil=>exact absurd rfl h
 |cons a r=>rfl
def held_eq (c:cq) (hw:w=0\/w=1):hJ L (df [] [] w c).1 (df [] [] w c).2=jV L w c:=by
 rcases hw with rfl|rfl<;>rfl
def W5 (sl:SL G L) (hw:w=0\/w=1) (hc:c.length<=4) (hv:v=0\/v=1) (hr:rc [dG G f,.t ((jV L w c).map vc),.int (1-w)]=some (.int v)):∃y5,
  gH (dG G f) rc (pV L w [x3,cJ c,x5,x6])=(if v=w then some (.ret (.int w))else some (.next (pV L w [x3,cJ c,y5,x6]))):=by
 have AQ:=sl.AQ;have e4:sG (dG G f) rc (pV L w [x3,cJ c,x5,x6])=some (.next (pV L w [x3,cJ c,.d (.t [vc (df [] [] w c).1,vc (df [] [] w c).2]),x6])):=by
  unfold sG;rw[fA ((di rfl).trans (Io (m:=[]) (y:=[]) (c:=c) (w:=w) (by simp;omega) (by simp;omega)))]
  rfl
 refine⟨.d (.t [vc (df [] [] w c).1,vc (df [] [] w c).2]),?_⟩;unfold gH;rw[LW.cR e4];have ko:cV fB (cM (cO 1) (cM (dB fX (dg 5) (dC (.int 0))) (cM (dB fX (dg 5) (dC (.int 1))) cS))) (pV L w [x3,cJ c,.d (.t [vc (df [] [] w c).1,vc (df [] [] w c).2]),x6])=some (.t ((jV L w c).map vc)):=by
  rw[<-held_eq c hw];exact(di rfl).trans (KJ (.inl rfl) AQ sl.lo.ll)
 have kh:cV dZ (cM (cO 2) cS) (pV L w [x3,cJ c,.d (.t [vc (df [] [] w c).1,vc (df [] [] w c).2]),x6])=some (.int (1-w)):=(di rfl).trans (vA hw);have km:gj 0 (dG G f) rc (cM (cV fB (cM (cO 1) (cM (dB fX (dg 5) (dC (.int 0))) (cM (dB fX (dg 5) (dC (.int 1))) cS)))) (cM (cV dZ (cM (cO 2) cS)) cS)) (pV L w [x3,cJ c,.d (.t [vc (df [] [] w c).1,vc (df [] [] w c).2]),x6])=some (.int v):=by
  show(cM _ _ _).bind _=_;rw[iF ko (pP kh)];exact hr
 have kq:=fQ ((gC (o:=nF) (g:=dg 2) (y:=.int w) km rfl).trans (kF v w));unfold yr;by_cases e:v=w
 .rw[jm (by rw[kq,aS e]),if_pos e]
  rfl
 .rw[jn (by rw[kq,aI e]),if_neg e]
  rfl
theorem Rq (sl:SL G L) (hw:w=0\/w=1) (val:cq->Int):∀(cs:cp) (x4 x5:Sl),(∀c∈cs,c.length<=4)->(∀c∈cs,val c=0\/val c=1)->(∀c∈cs,rc [dG G f,.t ((jV L w c).map vc),.int (1-w)]=some (.int (val c)))->∃y4 y5,
  gL 4 (gH (dG G f) rc) (cs.map vc) (pV L w [x3,x4,x5,x6])=(if(cs.any λc=>val c==w)=true then some (.ret (.int w))else some (.next (pV L w [x3,y4,y5,x6])))
 |[],x4,x5,_,_,_=>⟨x4,x5,rfl⟩
 |c::cs,x4,x5,h4,XH,hr=>by
  obtain⟨z5,e⟩:=W5 (f:=f) sl hw (h4 c af) (rc:=rc) (x3:=x3) (x5:=x5) (x6:=x6) (XH c af) (hr c af);obtain⟨y4,y5,ih⟩:=Rq sl hw (rc:=rc) (x3:=x3) (x6:=x6) val cs (cJ c) z5 (λa h=>h4 a (aj _ h)) (λa h=>XH a (aj _ h)) (λa h=>hr a (aj _ h))
  refine⟨y4,y5,?_⟩;rw[aG,bH];by_cases hv:val c=w
  .rw[if_pos hv]at e;rw[Rh (j:=4) (f:=gH (dG G f) rc) (d:=vc c) (U:=(pV L w [x3,x4,x5,x6])) e,if_pos (by simp[hv])]
  .rw[if_neg hv]at e;rw[l4 (j:=4) (f:=gH (dG G f) rc) (d:=vc c) (U:=(pV L w [x3,x4,x5,x6])) e,ih];have:(val c==w)=false:=by simpa using hv
   rw[this,Bool.false_or]
def T6 (hF:qu G) (sl:SL G L) (h1:L≠[]) (h2:[]∉L) (hw:w=0\/w=1):(G.at L).gA [] [] w=if((hU G L w).any λc=>(G.at (jV L w c)).gA [] [] (1-w)==w)=true then w else 1-w:=by
 have hG:=hF.ok;have jI:∃l∈L,l≠[]:=by
  cases L with
  |nil=>exact absurd rfl h1
  |cons l r=>exact⟨l,af,λz=>h2 (by rw[<-z];exact af)⟩
 have XH:=jY (w:=w) (hG.at sl.lo) (iW (G.at L).Cf) hw;have key:(((hU G L w).any λc=>(G.at (jV L w c)).gA [] [] (1-w)==w)=true)↔(G.at L).gA [] [] w=w:=by
  rw[bP];rcases hw with rfl|rfl
  .rw[Q3 hG sl.lo h1 h2 (l6 L) (jC L)];constructor
   .rintro⟨c,hc,e⟩
    have co:=oZ hG sl jI hc;refine⟨c,by simpa [hU]using hc,?_⟩
    have:=yw (w:=0) hF sl co.2.1 co.1 (v:=1) (.inr rfl);rw[if_pos rfl]at this;rw[<-this]
    simpa using e
   .rintro⟨c,hc,e⟩
    have tZ:c∈hU G L 0:=by simpa [hU]using hc
    have co:=oZ hG sl jI tZ;refine⟨c,tZ,?_⟩;have:=yw (w:=0) hF sl co.2.1 co.1 (v:=1) (.inr rfl);rw[if_pos rfl,e]at this
    simpa using this
  .rw[Q4 hG sl.lo h1 h2 (l6 L) (jC L)];have sp:∀c,((L.filter λl=>decide ((l.length:Int)<=G.b)).all λl=>fL c l)=true↔∀l∈L,l.length<=G.b.toNat->∃p∈l,p∈c:=λc=>by
    have b1:=hG.b1;rw[all_eq_true];constructor
    .intro h l hl hb;have:=h l (mem_filter.mpr ⟨hl,aS (by omega)⟩)
     unfold fL at this;rw[bP]at this;obtain⟨p,hp,hq⟩:=this;exact⟨p,hp,bL hq⟩
    .intro h l hl;obtain⟨Ti,G1⟩:=mem_filter.mp hl;have hl3:=bL G1;obtain⟨p,hp,hq⟩:=h l Ti (by omega)
     unfold fL;rw[bP];exact⟨p,hp,aS hq⟩
   constructor
   .rintro⟨c,hc,e⟩
    have co:=oZ hG sl jI hc;have xn:c∈(vM G.g.toNat (ft L)).filter λc=>(L.filter λl=>decide ((l.length:Int)<=G.b)).all λl=>fL c l:=by simpa [hU]using hc
    obtain⟨c1,c2⟩:=mem_filter.mp xn;refine⟨c,c1,(sp c).mp c2,?_⟩;have:=yw (w:=1) hF sl co.2.1 co.1 (v:=0) (.inl rfl);rw[if_neg (by decide)]at this
    rw[<-this]
    simpa using e
   .rintro⟨c,c1,c2,e⟩
    have tZ:c∈hU G L 1:=by
     have:c∈(vM G.g.toNat (ft L)).filter λc=>(L.filter λl=>decide ((l.length:Int)<=G.b)).all λl=>fL c l:=mem_filter.mpr ⟨c1,(sp c).mpr c2⟩
     simpa [hU]using this
    have co:=oZ hG sl jI tZ;refine⟨c,tZ,?_⟩;have:=yw (w:=1) hF sl co.2.1 co.1 (v:=0) (.inl rfl);rw[if_neg (by decide),e]at this
    simpa using this
 by_cases hk:((hU G L w).any λc=>(G.at (jV L w c)).gA [] [] (1-w)==w)=true
 .rw[if_pos hk];exact key.mp hk
 .rw[if_neg hk];have hnk:(G.at L).gA [] [] w≠w:=λz=>hk (key.mpr z)
  rcases hw with rfl|rfl
  .rcases XH with h|h
   .exact absurd h hnk
   .rw[h];rfl
  .rcases XH with h|h
   .rw[h];rfl
   .exact absurd h hnk
def KO (hF:qu G) (sl:SL G L) (h1:L≠[]) (h2:[]∉L) (hw:w=0\/w=1) (hr:∀c∈hU G L w,rc [dG G f,.t ((jV L w c).map vc),.int (1-w)]=some (.int ((G.at (jV L w c)).gA [] [] (1-w)))):mN (dG G f) rc (pV L w [.n,.n,.n,.n])=some (.ret (.int ((G.at L).gA [] [] w))):=by
 have hG:=hF.ok;have b1:=hG.b1;have AQ:=sl.AQ;have jI:∃l∈L,l≠[]:=by
  cases L with
  |nil=>exact absurd rfl h1
  |cons l r=>exact⟨l,af,λz=>h2 (by rw[<-z];exact af)⟩
 have e1:sF (dG G f) rc (pV L w [.n,.n,.n,.n])=some (.next (pV L w [cI (jM (L.map λl=>(l.length:Int))),.n,.n,.n])):=by
  have k:fq (iT (cO 1)) 6 kO (cV iQ (cM (dg 6) cS)) (pV L w [.n,.n,.n,.n])=some ((L.map λl=>(l.length:Int)).map D.int):=by
   rw[aW];refine kE (ds:=L.map vc) rfl (by rw[ae];omega) (ke L λl _=>?_)
   show some (D.int ((l.map D.int).length:Int))=_;rw[ae];rfl
  have kl:cV Hw (cM (dL (fq (iT (cO 1)) 6 kO (cV iQ (cM (dg 6) cS)))) cS) (pV L w [.n,.n,.n,.n])=some (.int (jM (L.map λl=>(l.length:Int)))):=(mV k).trans (KN (by simpa using h1))
  unfold sF;rw[fA kl];rfl
 unfold mN;rw[LW.cR e1];have ka:cV eS (cM (lB (dG G f) 0) (cM (dC (.int 0)) cS)) (pV L w [cI (jM (L.map λl=>(l.length:Int))),.n,.n,.n])=some (.int G.b):=
  (di rfl).trans ((show eS [la G.Cf G.ls f G.b G.g,.int 0]=_ from W3 (.inl rfl)).trans rfl)
 have q1:qB (dB nF (dg 2) (dC (.int 0))) (pV L w [cI (jM (L.map λl=>(l.length:Int))),.n,.n,.n])=some (decide (w=0)):=fQ ((gC rfl rfl).trans (kF w 0))
 have q2:qB (dB Lp (dg 3) (cV eS (cM (lB (dG G f) 0) (cM (dC (.int 0)) cS)))) (pV L w [cI (jM (L.map λl=>(l.length:Int))),.n,.n,.n])=some (decide (jM (L.map λl=>(l.length:Int))<=G.b)):=fQ ((gC (o:=Lp) rfl ka).trans rfl)
 obtain⟨m1,m2⟩:=xV (L.map λl=>(l.length:Int)) (by simpa using h1)
 by_cases hq:w=0/\jM (L.map λl=>(l.length:Int))<=G.b
 .obtain⟨rfl,hb⟩:=hq;have e3:lJ (dG G f) rc [.m [],DU L,cI 0,cI (jM (L.map λl=>(l.length:Int))),.n,.n,.n]=some (.ret (.int 0)):=by
   unfold lJ;rw[jm (Ri (q1.trans (by simp)) (q2.trans (by rw[aS hb])))]
   rfl
  rw[eP e3];obtain⟨l,hl,e⟩:=mem_map.mp m1;have:(G.at L).gA [] [] 0=0:=quick (hG.at sl.lo) (iW _) (l:=l) hl (λp _ z=>by cases z) (by show l.length<=G.b.toNat;omega)
  rw[this]
 .have e3:lJ (dG G f) rc (pV L w [cI (jM (L.map λl=>(l.length:Int))),.n,.n,.n])=some (.next (pV L w [cI (jM (L.map λl=>(l.length:Int))),.n,.n,.n])):=by
   unfold lJ;rw[jn (by
    by_cases h0:w=0
    .exact Ri (q1.trans (by rw[aS h0])) (q2.trans (by rw[aI λz=>hq ⟨h0,z⟩]))
    .exact W4 (q1.trans (by rw[aI h0])))]
   rfl
  rw[LW.cR e3];have kt:iT (gj 0 (dG G f) jB (cM (cO 1) (cM (cO 2) cS))) (pV L w [cI (jM (L.map λl=>(l.length:Int))),.n,.n,.n])=some ((hU G L w).map vc):=by
   have:gj 0 (dG G f) jB (cM (cO 1) (cM (cO 2) cS)) (pV L w [cI (jM (L.map λl=>(l.length:Int))),.n,.n,.n])=some (.t ((hU G L w).map vc)):=T5 (f:=f) hG sl jI hw
   unfold iT;rw[this]
  have wok:∀c∈hU G L w,(G.at (jV L w c)).gA [] [] (1-w)=0\/(G.at (jV L w c)).gA [] [] (1-w)=1:=λc hc=>by
   have co:=oZ hG sl jI hc;have sn:=hF.sl (IA (w:=w) hF sl co.2.1 co.1);exact jY (hG.at sn.lo) (iW _) (by omega)
  obtain⟨y4,y5,e⟩:=Rq (f:=f) sl hw (rc:=rc) (x3:=cI (jM (L.map λl=>(l.length:Int)))) (x6:=.n) (λc=>(G.at (jV L w c)).gA [] [] (1-w)) (hU G L w) .n .n (λc hc=>(oZ hG sl jI hc).2.2.1) wok hr
  have e7:=(show sI (dG G f) rc (pV L w [cI (jM (L.map λl=>(l.length:Int))),.n,.n,.n])=gL 4 (gH (dG G f) rc) ((hU G L w).map vc) (pV L w [cI (jM (L.map λl=>(l.length:Int))),.n,.n,.n]) by
   unfold sI;exact vz kt rfl).trans e
  rw[T6 hF sl h1 h2 hw];by_cases ha:((hU G L w).any λc=>(G.at (jV L w c)).gA [] [] (1-w)==w)=true
  .rw[if_pos ha]at e7 ⊢;rw[eP e7]
  .rw[if_neg ha]at e7 ⊢;rw[LW.cR e7];unfold yt;exact eV ((di rfl).trans (vA hw))
section
variable {G:Gm}
def Rr:(G.at []).gA [] [] w=1:=by
 have ho:(G.at []).over [] []=some 1:=rfl;unfold Gm.gA Gm.AJ;rw[ho]
def NQ (h:[]∈L):(G.at L).gA [] [] w=0:=by
 have ho:(G.at L).over [] []=some 0:=vX.mpr ⟨[],h,λp hp=>by cases hp⟩
 unfold Gm.gA Gm.AJ;rw[ho]
def IB (hF:qu G) (sl:SL G L) (hw:w=0\/w=1) (hr:L≠[]->[]∉L->rc [dG G f,.t (L.map vc),.int w]=some (.int ((G.at L).gA [] [] w))):lK (dG G f) rc (pV L w [])=some (.ret (.int ((G.at L).gA [] [] w))):=by
 have hG:=hF.ok;unfold lK;have q2:qB (dB nF (cV iQ (cM (dg 1) cS)) (dC (.int 0))) (pV L w [])=some (decide (((L.length:Nat):Int)=0)):=by
  have k:cV iQ (cM (dg 1) cS) (pV L w [])=some (.int ((L.length:Nat):Int)):=by
   show some (D.int ((L.map vc).length:Int))=_;rw[ae]
  exact fQ ((gC (o:=nF) (g:=dC (.int 0)) (y:=.int 0) k rfl).trans (kF _ 0))
 by_cases h1:L=[]
 .subst h1;have e2:ml (dG G f) rc [.m [],.d (.t (([]:cp).map vc)),cI w]=some (.ret (.int 1)):=rfl;rw[eP e2,Rr]
 .have e2:ml (dG G f) rc (pV L w [])=some (.next (pV L w [])):=by
   unfold ml;rw[jn (q2.trans (by
    rw[aI];intro z;apply h1
    exact eq_nil_of_length_eq_zero (by omega)))]
   rfl
  rw[LW.cR e2];have q4:qB (dB GN (fy cS) (dg 1)) (pV L w [])=some (decide ([]∈L)):=fQ ((gC (o:=GN) (x:=vc []) (y:=.t (L.map vc)) rfl rfl).trans (Ir [] L));by_cases h2:[]∈L
  .have e4:kf (dG G f) rc (pV L w [])=some (.ret (.int 0)):=by
    unfold kf;rw[jm (q4.trans (by rw[aS h2]))]
    rfl
   rw[eP e4,NQ h2]
  .have e4:kf (dG G f) rc (pV L w [])=some (.next (pV L w [])):=by
    unfold kf;rw[jn (q4.trans (by rw[aI h2]))]
    rfl
   rw[LW.cR e4];have hM:MfS (dG G f)=Ra G hG:=Kz hG f;have k:∀ks,fy (cM (cO 1) (cM (cO 2) cS)) [.m ks,DU L,cI w]=some (AK L w):=λks=>rfl
   have hr':=hr h1 h2;have km:gj 0 (dG G f) rc (cM (cO 1) (cM (cO 2) cS)) (pV L w [])=some (.int ((G.at L).gA [] [] w)):=hr';have e5:qr (dG G f) rc (pV L w [])=some (.next [.m [AK L w],DU L,cI w]):=by
    unfold qr mE;rw[k,km,hM];exact if_pos (Q9 sl.s hw)
   have ko:=Ml L w;have e6:qt (dG G f) rc (pV L w [])=some (.next [.m [AK L w],DU L,cI w]):=by
    unfold qt nL;rw[k,e5];refine if_pos ⟨ko.1,ko.2,rfl,λi s hs=>?_⟩
    match i,hs with
    |0,hs=>exact .inr (.inl hs)
    |1,hs=>exact .inr (.inl hs)
    |2,hs=>exact .inr (.inl hs)
    |(i+3),hs=>cases hs
   rw[LW.cR e6];unfold wa;refine eV ?_;unfold j7;rw[k,hM];exact(if_pos ⟨ko.1,ko.2,bw.mpr rfl⟩).trans (Q9 sl.s hw)
theorem Ay (hF:qu G):∀(n:Nat),(∀L w,Q8 G L->(w=0\/w=1)->L≠[]->[]∉L->2*(ft L).length+2<=n->oX n [dG G f,.t (L.map vc),.int w]=some (.int ((G.at L).gA [] [] w)))/\
  (∀L w,Q8 G L->(w=0\/w=1)->2*(ft L).length+3<=n->iN n [dG G f,.t (L.map vc),.int w]=some (.int ((G.at L).gA [] [] w)))
 |0=>⟨λ_ _ _ _ _ _ h=>by omega,λ_ _ _ _ h=>by omega⟩
 |n+1=>by
  obtain⟨ih1,ih2⟩:=Ay hF n;refine⟨λL w s hw h1 h2 hn=>?_,λL w s hw hn=>?_⟩
  .have sl:=hF.sl s;have jI:∃l∈L,l≠[]:=by
    cases L with
    |nil=>exact absurd rfl h1
    |cons l r=>exact⟨l,af,λz=>h2 (by rw[<-z];exact af)⟩
   unfold oX;refine ji rfl ?_;show mN (dG G f) (iN n) (pV L w [.n,.n,.n,.n])=_;refine KO hF sl h1 h2 hw λc hc=>?_
   have co:=oZ hF.ok sl jI hc;have fw:=KL (w:=w) sl co.2.1 co.2.2.2;exact ih2 _ _ (IA hF sl co.2.1 co.1) (by omega) (by omega)
  .have sl:=hF.sl s;unfold iN;refine ji rfl ?_;show lK (dG G f) (oX n) (pV L w [])=_;exact IB hF sl hw λh1 h2=>ih1 L w s hw h1 h2 (by omega)
def Az (hF:qu G) (p:eK G.Cf m y) (hw:w=0\/w=1):lg [dG G f,vc m,vc y,.int w]=some (.int (G.gA m y w)):=by
 have hG:=hF.ok;have s:Q8 G (hJ G.ls m y):=⟨m,y,p,rfl⟩;have sl:=hF.sl s;have hu:=CI hG.m9 sl.lo.li;refine ji rfl ?_;show nS (dG G f) [.m [],cJ m,cJ y,cI w]=_;have ko:cV fB (cM (dB fX (dB fX (lB (dG G f) 0) (dC (.int 0))) (dC (.int 1))) (cM (cO 1) (cM (cO 2) cS))) [.m [],cJ m,cJ y,cI w]=some (.t ((hJ G.ls m y).map vc)):=(di rfl).trans (KJ (.inl rfl) hF.AQ hG.ll);unfold nS wb;refine eV ?_;show(cM _ _ _).bind _=_;rw[iF ko rfl];show iN 24 [dG G f,.t ((hJ G.ls m y).map vc),.int w]=_;rw[(Ay (f:=f) hF 24).2 _ w s hw (by omega),<-Ct hG hF.lo hF.rise p hw]
 rfl
def NR (hF:qu G) {m y c:cq}(p:eK G.Cf m y) (hw:w=0\/w=1) (hc:c∈G.cY m y w):rg [dG G f,vc m,vc y,.int w,vc c]=some (.bl (decide (G.gA (df m y w c).1 (df m y w c).2 (1-w)=w))):=by
 have hG:=hF.ok;have h1:=j8 p.rm p.im;have h2:=j8 p.ry p.iy;have h3:=mK p hc;have h4:=F8 hG m y;have:=hG.m9;refine ji rfl ?_;show sJ (dG G f) [.m [],cJ m,cJ y,cI w,cJ c,.n]=_;have e1:uL (dG G f) [.m [],cJ m,cJ y,cI w,cJ c,.n]=some (.next [.m [],cJ m,cJ y,cI w,cJ c,.d (.t [vc (df m y w c).1,vc (df m y w c).2])]):=by
  unfold uL;rw[fA ((di rfl).trans (Io (by omega) (by omega)))]
  rfl
 unfold sJ;rw[LW.cR e1];unfold Ax;refine eV ?_;have kh:cV dZ (cM (cO 3) cS) [.m [],cJ m,cJ y,cI w,cJ c,.d (.t [vc (df m y w c).1,vc (df m y w c).2])]=some (.int (1-w)):=(di rfl).trans (vA hw);have km:gj 0 (dG G f) lg (cM (dB fX (dg 5) (dC (.int 0))) (cM (dB fX (dg 5) (dC (.int 1))) (cM (cV dZ (cM (cO 3) cS)) cS))) [.m [],cJ m,cJ y,cI w,cJ c,.d (.t [vc (df m y w c).1,vc (df m y w c).2])]=some (.int (G.gA (df m y w c).1 (df m y w c).2 (1-w))):=by
  show(cM _ _ _).bind _=_;rw[iF (x:=vc (df m y w c).1) rfl (iF (x:=vc (df m y w c).2) rfl (pP kh))];exact Az hF (gz p hc) (by omega)
 exact(gC (o:=nF) (g:=dg 3) (y:=.int w) km rfl).trans (kF _ w)
end
end PW
namespace K5
open DL GP PC PW
open LW (eX gg hX)
open L2 (nX Eh)
def Gh:cb:=
  (eB (dC (.bl false)))
def yx:cb:=
  (kx (kN (qB (wz "tuple" (dg 4)))) Gh gq)
def Gi:cb:=
  (eB (dC (.bl false)))
def nU:cb:=
  (kx (kN (qB (cV Fz (cM (dL (fq (iT (cO 4)) 5 kO (cV lb (cM (cO 5) (cM (dC (.int 0)) (cM (dB ou (dB fX (dB fX (dg 0) (dC (.int 0))) (dC (.int 0))) (dC (.int 1))) cS)))))) cS)))) Gi gq)
def yy:cb:=
  (eB (dB GN (dg 4) (cV jA (cM (cO 0) (cM (cO 1) (cM (cO 2) (cM (cO 3) cS)))))))
def uM:cb:=
  (dP yx
  (dP nU
  yy))
def l7:cg:=gF 6 5 uM
def CJ:cb:=
  (eB (F3 (dL (fq (iT (cO 0)) 2 kO (cV iQ (cM (dg 2) cS))))))
def uN:cb:=
  (kx (qB (dB nF (dg 1) (dC (.int 0)))) CJ gq)
def CK:cb:=
  (eB (cV iQ (cM (dg 0) cS)))
def qv:cb:=
  (dP uN
  CK)
def nV:cg:=gF 3 2 qv
def jZ (G:D):cb:=
  (g0 1 (cV gT (cM (cO 2) (cM (cO 3) (cM (cO 4) (cM (cO 0) cS))))))
def vN (G:D):cb:=
  (eB (cV nV (cM (cV fB (cM (dB fX (dB fX (lB G 5) (dC (.int 0))) (dC (.int 1))) (cM (dB fX (dg 1) (dC (.int 0))) (cM (dB fX (dg 1) (dC (.int 1))) cS)))) (cM (cO 4) cS))))
def jc (G:D):cb:=
  (dP (jZ G)
  (vN G))
def l8 (G:D):cb:=
  (g0 6 (dC (.int 0)))
def zD (G:D):cb:=
  (g0 6 (dB jW (dg 6) (dC (.int 1))))
def pW (G:D):cb:=
  (zD G)
def rj (G:D):cb:=
  (BU 40 (kN (qB (gj 0 G rg (cM (cO 1) (cM (cO 2) (cM (cO 3) (cM (dB fX (dg 5) (dg 6)) cS))))))) (pW G))
def zE (G:D):cb:=
  (eB (dB fX (dg 5) (dg 6)))
def kG (G:D):cb:=
  (EG (cV jA (cM (lB G 0) (cM (cO 1) (cM (cO 2) (cM (cO 3) cS))))) (jc G) (vS 5 (dP (l8 G)
  (dP (rj G)
  (zE G)))))
def o6:cg:=i9 7 4 kG
def m6 (G:D) (iX:cg):cb:=
  (g0 6 (cV gT (cM (cO 2) (cM (cO 3) (cM (cO 4) (cM (cO 5) cS))))))
def tT (G:D) (iX:cg):cb:=
  (eB (gj 0 G iX (cM (cO 1) (cM (dB fX (dg 6) (dC (.int 0))) (cM (dB fX (dg 6) (dC (.int 1))) (cM (cV dZ (cM (cO 4) cS)) cS))))))
def iG (G:D) (iX:cg):cb:=
  (dP (m6 G iX)
  (tT G iX))
def DV (G:D) (dR:cg):cb:=
  (eB (fy cS))
def mn (G:D) (dR:cg):cb:=
  (kx (qB (dB Dy (cV lX (cM (lB G 0) (cM (cO 2) (cM (cO 3) cS)))) (dC .eZ))) (DV G dR) gq)
def we (G:D) (dR:cg):cb:=
  (g0 5 (gj 0 G o6 (cM (cO 2) (cM (cO 3) (cM (cO 1) cS)))))
def wg (G:D) (dR:cg):cb:=
  (eB (fy (cM (cO 5) (cM (gj 0 G dR (cM (cO 1) (cM (cO 2) (cM (cO 3) (cM (cO 4) (cM (cO 5) cS)))))) cS))))
def mq (G:D) (dR:cg):cb:=
  (kx (qB (dB nF (dg 4) (dg 1))) (dP (we G dR)
  (wg G dR)) gq)
def wj (G:D) (dR:cg):cb:=
  (g0 6 (cV jA (cM (lB G 0) (cM (cO 2) (cM (cO 3) (cM (cO 4) cS))))))
def DW (G:D) (dR:cg):cb:=
  (eB (cV nA (cM (dL (fq (iT (cO 6)) 5 kO (gj 0 G dR (cM (cO 1) (cM (cO 2) (cM (cO 3) (cM (cO 4) (cM (cO 5) cS)))))))) cS)))
def gG (G:D) (dR:cg):cb:=
  (dP (mn G dR)
  (dP (mq G dR)
  (dP (wj G dR)
  (DW G dR))))
mutual
noncomputable def eC:Nat->cg
 |0=>λ_=>none
 |n+1=>i9 7 6 (λG=>iG G (iO n))
noncomputable def iO:Nat->cg
 |0=>λ_=>none
 |n+1=>i9 7 5 (λG=>gG G (eC n))
end
def yz (G:D):cb:=
  (g0 2 (gj 1 G lg (cM (fy cS) (cM (fy cS) (cM (dB fX (dg 0) (dC (.int 1))) cS)))))
def yA (G:D):cb:=
  (eB (fy (cM (cO 2) (cM (gj 1 G (iO 14) (cM (cO 2) (cM (fy cS) (cM (fy cS) (cM (dB fX (dg 0) (dC (.int 1))) cS))))) cS))))
def kj (G:D):cb:=
  (dP (yz G)
  (yA G))
def IC:cb:=
  (FL 1 (cO 0) (λG=>(kj G)))
def sL:cg:=gF 3 1 IC
def yB (da:cg):cb:=
  (eB (dC (.bl false)))
def gy (da:cg):cb:=
  (kx (Ep (qB (dB BG (cV iQ (cM (dg 4) cS)) (dC (.int 2)))) (kN (qB (cV l7 (cM (cO 0) (cM (cO 2) (cM (cO 3) (cM (cO 1) (cM (dB fX (dg 4) (dC (.int 0))) cS))))))))) (yB da) gq)
def jo (da:cg):cb:=
  (g0 5 (cV gT (cM (cO 2) (cM (cO 3) (cM (cO 1) (cM (dB fX (dg 4) (dC (.int 0))) cS))))))
def lM (da:cg):cb:=
  (eB (cV da (cM (cO 0) (cM (cO 1) (cM (dB fX (dg 5) (dC (.int 0))) (cM (dB fX (dg 5) (dC (.int 1))) (cM (cV dZ (cM (cO 1) cS)) (cM (dB fX (dg 4) (dC (.int 1))) cS))))))))
def iH (da:cg):cb:=
  (dP (gy da)
  (dP (jo da)
  (lM da)))
def nu (da:cg):cb:=
  (g0 5 (cV dZ (cM (cO 1) cS)))
def nv (da:cg):cb:=
  (g0 6 (cV jA (cM (cO 0) (cM (cO 2) (cM (cO 3) (cM (cO 5) cS))))))
def vO (da:cg):cb:=
  (eB (dC (.bl false)))
def iB (da:cg):cb:=
  (kx (qB (dB BG (cV iQ (cM (dg 4) cS)) (cV iQ (cM (dg 6) cS)))) (vO da) gq)
def j3 (da:cg):cb:=
  (g0 9 (cV gT (cM (cO 2) (cM (cO 3) (cM (cO 5) (cM (cO 7) cS))))))
def vP (da:cg):cb:=
  (eB (dC (.bl false)))
def ny (da:cg):cb:=
  (kx (kN (qB (cV da (cM (cO 0) (cM (cO 1) (cM (dB fX (dg 9) (dC (.int 0))) (cM (dB fX (dg 9) (dC (.int 1))) (cM (cO 1) (cM (cO 8) cS))))))))) (vP da) gq)
def eF (da:cg):cb:=
  (dP (j3 da)
  (ny da))
def nz (da:cg):cb:=
  (LG [7,8] (iZ (cO 6) (cO 4)) (eF da))
def vQ (da:cg):cb:=
  (eB (dC (.bl true)))
def gZ (da:cg):cb:=
  (dP (nu da)
  (dP (nv da)
  (dP (iB da)
  (dP (nz da)
  (vQ da)))))
def rl (dA:cg) (dI:cg):cb:=
  (g0 6 (cV lX (cM (cO 0) (cM (cO 2) (cM (cO 3) cS)))))
def zF (dA:cg) (dI:cg):cb:=
  (eB (JK (dB nF (dg 6) (dg 1)) (dB nF (dg 5) (fy cS))))
def l9 (dA:cg) (dI:cg):cb:=
  (kx (qB (dB Dy (dg 6) (dC .eZ))) (zF dA dI) gq)
def zG (dA:cg) (dI:cg):cb:=
  (eB (dC (.bl false)))
def rn (dA:cg) (dI:cg):cb:=
  (kx (kN (qB (wz "tuple" (dg 5)))) (zG dA dI) gq)
def zH (dA:cg) (dI:cg):cb:=
  (eB (cV dI (cM (cO 0) (cM (cO 1) (cM (cO 2) (cM (cO 3) (cM (cO 5) cS)))))))
def jQ (dA:cg) (dI:cg):cb:=
  (kx (qB (dB nF (dg 4) (dg 1))) (zH dA dI) gq)
def zI (dA:cg) (dI:cg):cb:=
  (eB (cV dA (cM (cO 0) (cM (cO 1) (cM (cO 2) (cM (cO 3) (cM (cO 5) cS)))))))
def jd (dA:cg) (dI:cg):cb:=
  (dP (rl dA dI)
  (dP (l9 dA dI)
  (dP (rn dA dI)
  (dP (jQ dA dI)
  (zI dA dI)))))
mutual
noncomputable def tU:Nat->cg
 |0=>λ_=>none
 |n+1=>gF 6 5 (iH (iI n))
noncomputable def pX:Nat->cg
 |0=>λ_=>none
 |n+1=>gF 10 5 (gZ (iI n))
noncomputable def iI:Nat->cg
 |0=>λ_=>none
 |n+1=>gF 7 6 (jd (pX n) (tU n))
end
def ID:cb:=
  (eB (cV (iI 14) (cM (cO 0) (cM (cO 1) (cM (fy cS) (cM (fy cS) (cM (dB fX (dg 0) (dC (.int 1))) (cM (cO 2) cS))))))))
def KP:cb:=
  ID
def oh:cg:=gF 3 3 KP
def rq (cT:cg):cb:=
  (g0 6 (cV hZ (cM (cO 0) (cM (cO 1) (cM (cO 2) cS)))))
def zJ (cT:cg):cb:=
  (eB (dC (.bl false)))
def rA (cT:cg):cb:=
  (kx (kN (qB (wz "tuple" (dg 5)))) (zJ cT) gq)
def zK (cT:cg):cb:=
  (eB (JK (dB nF (dg 6) (dg 4)) (dB nF (cV iQ (cM (dg 5) cS)) (dC (.int 0)))))
def ma (cT:cg):cb:=
  (kx (qB (dB Dy (dg 6) (dC .eZ))) (zK cT) gq)
def rB (cT:cg):cb:=
  (g0 7 (cV gh (cM (cO 0) (cM (cO 1) (cM (cO 2) (cM (cO 3) cS))))))
def zL (cT:cg):cb:=
  (eB (dC (.bl false)))
def gb (cT:cg):cb:=
  (kx (Ep (qB (dB BG (cV iQ (cM (dg 5) cS)) (dC (.int 2)))) (Ep (kN (qB (wz "tuple" (dB fX (dg 5) (dC (.int 0)))))) (qB (dB vJ (dB fX (dg 5) (dC (.int 0))) (dg 7))))) (zL cT) gq)
def zM (cT:cg):cb:=
  (eB (dC (.bl false)))
def ie (cT:cg):cb:=
  (kx (qT (dL (fq (iT (dB fX (dg 5) (dC (.int 0)))) 12 (qB (wz "bool" (dg 12))) (cO 12)))) (zM cT) gq)
def lN (cT:cg):cb:=
  (Hk [8,9] (cV iq (cM (cO 1) (cM (cO 2) (cM (cO 3) (cM (dB fX (dg 5) (dC (.int 0))) cS))))))
def lO (cT:cg):cb:=
  (eB (cV cT (cM (cO 0) (cM (cO 8) (cM (cO 9) (cM (dB ou (dC (.int 1)) (dg 3)) (cM (cO 4) (cM (dB fX (dg 5) (dC (.int 1))) cS))))))))
def jq (cT:cg):cb:=
  (kx (qB (dB nF (dg 3) (dg 4))) (dP (gb cT)
  (dP (ie cT)
  (dP (lN cT)
  (lO cT)))) gq)
def yC (cT:cg):cb:=
  (eB (dC (.bl false)))
def jr (cT:cg):cb:=
  (kx (qB (dB BG (cV iQ (cM (dg 5) cS)) (cV iQ (cM (dg 7) cS)))) (yC cT) gq)
def pY (cT:cg):cb:=
  (Hk [8,9] (cV iq (cM (cO 1) (cM (cO 2) (cM (cO 3) (cM (cO 10) cS))))))
def yD (cT:cg):cb:=
  (eB (dC (.bl false)))
def pZ (cT:cg):cb:=
  (kx (kN (qB (cV cT (cM (cO 0) (cM (cO 8) (cM (cO 9) (cM (dB ou (dC (.int 1)) (dg 3)) (cM (cO 4) (cM (cO 11) cS))))))))) (yD cT) gq)
def eY (cT:cg):cb:=
  (dP (pY cT)
  (pZ cT))
def qa (cT:cg):cb:=
  (LG [10,11] (iZ (cO 7) (cO 5)) (eY cT))
def yE (cT:cg):cb:=
  (eB (dC (.bl true)))
def je (cT:cg):cb:=
  (dP (rq cT)
  (dP (rA cT)
  (dP (ma cT)
  (dP (rB cT)
  (dP (jq cT)
  (dP (jr cT)
  (dP (qa cT)
  (yE cT))))))))
def iJ:Nat->cg
 |0=>λ_=>none
 |n+1=>gF 13 6 (je (iJ n))
def AR (dW:cg):cb:=
  (eB (dB fX (dL (BE (cM (dC .eZ) (cM (fy (cM (fy cS) cS)) (cM (dL (BE cS)) (cM (dC (.int 0)) (cM (dC (.str "tree")) cS))))))) (dB vI (dg 1) (dC (.int 5)))))
def m7 (dW:cg):cb:=
  (kx (Ep (kN (qB (wz "tuple" (dg 0)))) (kN (qT (dg 0)))) (AR dW) gq)
def tV (dW:cg):cb:=
  (g0 2 (dB vI (dg 1) (cV iQ (cM (dg 0) cS))))
def tW (dW:cg):cb:=
  (g0 3 (dB vI (dB JJ (dg 1) (dC (.int 8))) (dC (.int 6))))
def AS (dW:cg):cb:=
  (eB (dB j6 (dB j6 (t8 (dg 0) Hd (pJ (dg 2))) (fy (cM (cV dW (cM (dB fX (dg 0) (dg 2)) (cM (dB JJ (dg 1) (dC (.int 64))) cS))) cS))) (t8 (dg 0) (pJ (dB jW (dg 2) (dC (.int 1)))) Hd)))
def kI (dW:cg):cb:=
  (kx (qB (dB ltD (dg 3) (dC (.int 3)))) (AS dW) gq)
def tX (dW:cg):cb:=
  (eB (dB fX (dL (BE (cM (dB j6 (t8 (dg 0) Hd (pJ (dg 2))) (t8 (dg 0) (pJ (dB jW (dg 2) (dC (.int 1)))) Hd)) (cM (dB j6 (dg 0) (t8 (dg 0) Hd (pJ (dC (.int 1))))) (cM (LK (dg 0)) cS))))) (dB ou (dg 3) (dC (.int 3)))))
def fO (dW:cg):cb:=
  (dP (m7 dW)
  (dP (tV dW)
  (dP (tW dW)
  (dP (kI dW)
  (tX dW)))))
def eW:Nat->cg
 |0=>λ_=>none
 |n+1=>gF 4 2 (fO (eW n))
def Gj:cb:=
  (g0 2 (cV hX (cM (cO 1) (cM (dC (.int 1)) (cM (dB jW (dC (.int 4)) (cV LI (cM (dB nF (dB vI (dg 1) (dC (.int 4))) (dC (.int 0))) cS))) (cM (dC (.int 5)) cS))))))
def Mu:cb:=
  (g0 3 (cV sL (cM (cO 2) cS)))
def Mv:cb:=
  (g0 4 (cV (ir 10) (cM (cO 2) (cM (fy cS) (cM (fy cS) (cM (dB fX (dg 2) (dC (.int 1))) cS))))))
def T7:cb:=
  (eB (dC (.bl false)))
def Gk:cb:=
  (kx (Ep (kN (qB (wz "tuple" (dg 3)))) (Ep (qB (dB BG (cV iQ (cM (dg 3) cS)) (dC (.int 2)))) (qB (dB BG (dB fX (dg 3) (dC (.int 0))) (dg 4))))) T7 gq)
def T8:cb:=
  (eB (dC (.bl false)))
def Gn:cb:=
  (kx (kN (qB (cV (iJ 7) (cM (cO 2) (cM (fy cS) (cM (fy cS) (cM (dB fX (dg 2) (dC (.int 1))) (cM (cO 4) (cM (dB fX (dg 3) (dC (.int 1))) cS))))))))) T8 gq)
def T9:cb:=
  (eB (dC (.bl false)))
def Gp:cb:=
  (kx (qB (dB Dy (cV oh (cM (cO 2) (cM (cO 4) (cM (dB fX (dg 3) (dC (.int 1))) cS)))) (dC (.bl true)))) T9 gq)
def Rt:cb:=
  (eB (dC (.bl false)))
def CL:cb:=
  (kx (qB (dB Dy (cV oh (cM (cO 2) (cM (dB ou (dC (.int 1)) (dg 4)) (cM (dB fX (dg 3) (dC (.int 1))) cS)))) (dC (.bl false)))) Rt gq)
def IE:cb:=
  (g0 6 (cV (eW 14) (cM (dB fX (dg 3) (dC (.int 1))) (cM (cO 5) cS))))
def IF:cb:=
  (g0 8 (cV oh (cM (cO 2) (cM (cO 7) (cM (cO 6) cS)))))
def IG:cb:=
  (g0 9 (cV (iJ 7) (cM (cO 2) (cM (fy cS) (cM (fy cS) (cM (dB fX (dg 2) (dC (.int 1))) (cM (cO 7) (cM (cO 6) cS))))))))
def Ru:cb:=
  (eB (dC (.bl false)))
def IH:cb:=
  (kx (Ep (kN (qB (wz "bool" (dg 8)))) (qB (dB BG (dg 8) (dg 9)))) Ru gq)
def rC:cb:=
  (dP IF
  (dP IG
  IH))
def Rv:cb:=
  (nE 7 (iT (fy (cM (dC (.int 0)) (cM (dC (.int 1)) cS)))) rC)
def rD:cb:=
  (dP IE
  Rv)
def Rw:cb:=
  (nE 5 (iL (dL (Na (dg 0) (pJ (dC (.int 3))) (pJ (dC (.int 9)))))) rD)
def rE:cb:=
  (dP Gj
  (dP Mu
  (dP Mv
  (dP Gk
  (dP Gn
  (dP Gp
  (dP CL
  Rw)))))))
def II:cb:=
  (nE 1 (iL (dL (Na (dg 0) Hd (pJ (dC (.int 3)))))) rE)
def Rx:cb:=
  (eB (dC (.bl true)))
def KQ:cb:=
  (dP II
  Rx)
def Mw:cg:=gF 10 1 KQ
end K5
namespace K5
open DL GP PC PW
open L2 (nX Eh)
def jR:D->Option (cq)
 |.t ds=>χ ds
 |_=>none
def KR (h:jR d=some c):d=vc c:=by
 cases d with
 |t ds=>exact congrArg D.t (fE h)
 |_=>cases h
def yF (c:cq):jR (vc c)=some c:=ij c
def Ry (cs:cp) (d:D):Bool:=match jR d with
 |some c=>decide (c∈cs)
 |none=>false
noncomputable def KS:D->Bool
 |.t []=>true
 |_=>false
noncomputable def IJ:D->Option (D×D)
 |.t [c,t]=>some (c,t)
 |_=>none
noncomputable def Rz:D->Option (cw)
 |.t ds=>some ds
 |_=>none
def jf (G:Gm) (h:Int):Nat->cq->cq->Int->D->Bool
 |0,_,_,_,_=>false
 |n+1,m,y,w,d=>match G.over m y with
  |some o=>decide (o=h)&&KS d
  |none=>if w=h then(match IJ d with
    |some (c,t)=>(match jR c with
     |some c=>decide (c∈G.cY m y w)&&jf G h n (df m y w c).1 (df m y w c).2 (1-w) t
     |none=>false)
    |none=>false)
   else(match Rz d with
    |some ds=>decide (ds.length=(G.cY m y w).length)&&((G.cY m y w).zip ds).all λp=>jf G h n (df m y w p.1).1 (df m y w p.1).2 (1-w) p.2
    |none=>false)
theorem CM {α β:Type}{a:α}:∀{l:List α}{k:List β},k.length=l.length->a∈l->∃b,(a,b)∈l.zip k
 |x::l,[],h,_=>by cases h
 |x::l,b::k,h,ha=>by
  rcases mem_cons.mp ha with rfl|ha
  .exact⟨b,.head _⟩
  .obtain⟨c,hc⟩:=CM (k:=k) (by simpa using h) ha
   exact⟨c,.tail _ hc⟩
section
variable {G:Gm}
def Gq (hG:G.Ok) (p:eK G.Cf m y) (hw:w=0\/w=1) (ho:G.over m y=none):G.gA m y w=w↔∃c∈G.cY m y w,G.gA (df m y w c).1 (df m y w c).2 (1-w)=w:=by
 rcases hw with rfl|rfl
 .exact HW hG p ho
 .have e:=Mh hG p ho;have l:=jY hG p (w:=1) (.inr rfl);constructor
  .intro z;refine bV λn=>?_
   have:G.gA m y 1=0:=e.mpr λc hc=>(jY hG (gz p hc) (w:=0) (.inl rfl)).resolve_right λq=>n ⟨c,hc,q⟩
   omega
  .rintro⟨c,hc,q⟩
   refine l.resolve_left λz=>?_
   have q':G.gA (df m y 1 c).1 (df m y 1 c).2 0=1:=q;rw[e.mp z c hc]at q';cases q'
def EX (hG:G.Ok) (p:eK G.Cf m y) (hw:w=0\/w=1) (ho:G.over m y=none):G.gA m y w=1-w↔∀c∈G.cY m y w,G.gA (df m y w c).1 (df m y w c).2 (1-w)=1-w:=by
 have e:=Gq hG p hw ho;have l:=jY hG p hw;constructor
 .intro z c hc;have:=jY hG (gz p hc) (w:=1-w) (by omega)
  have:¬ G.gA (df m y w c).1 (df m y w c).2 (1-w)=w:=λq=>by
   have:=e.mpr ⟨c,hc,q⟩;omega
  omega
 .intro z;have:¬ G.gA m y w=w:=λq=>by
   obtain⟨c,hc,q⟩:=e.mp q;have:=z c hc;omega
  omega
theorem wR (hG:G.Ok) (hh:h=0\/h=1):∀(n:Nat) (m y:cq) (w:Int) (d:D),eK G.Cf m y->(w=0\/w=1)->jf G h n m y w d=true->G.gA m y w=h
 |0,_,_,_,_,_,_,z=>by cases z
 |n+1,m,y,w,d,p,hw,z=>by
  unfold jf at z;split at z
  .rename_i o ho;rw[lD hG p ho];exact bL (Bool.and_eq_true_iff.mp z).1
  .rename_i ho;split at z
   .rename_i e;split at z
    .split at z
     .rename_i c t _ _ c' tZ;obtain⟨z1,z2⟩:=Bool.and_eq_true_iff.mp z;have hc:=bL z1;have r:=wR hG hh n _ _ _ t (gz p hc) (by omega) z2
      rw[<-e]at r ⊢;exact(Gq hG p hw ho).mpr ⟨c',hc,r⟩
     .cases z
    .cases z
   .rename_i e;have e':h=1-w:=by omega
    split at z
    .rename_i ds _;obtain⟨z1,z2⟩:=Bool.and_eq_true_iff.mp z;rw[e'];refine(EX hG p hw ho).mpr λc hc=>?_
     obtain⟨t,ht⟩:=CM (bL z1) hc;have:=wR hG hh n _ _ _ t (gz p hc) (by omega) (all_eq_true.mp z2 _ ht)
     omega
    .cases z
end
noncomputable def uO (w:Nat):Nat->D->Bool
 |0,.t _=>false
 |0,.l _=>false
 |n+1,.t ds=>decide (ds.length<=w)&&ds.all (uO w n)
 |n+1,.l ds=>decide (ds.length<=w)&&ds.all (uO w n)
 |_,_=>true
def wU (h:uO w n (.t ds)=true):∃k,n=k+1/\ds.length<=w/\∀d∈ds,uO w k d=true:=by
 cases n with
 |zero=>cases h
 |succ k=>
  obtain⟨h1,h2⟩:=Bool.and_eq_true_iff.mp (show(decide (ds.length<=w)&&ds.all (uO w k))=true from h)
  exact⟨k,rfl,bL h1,all_eq_true.mp h2⟩
def CN (h1:ds.length<=w) (h2:∀d∈ds,uO w n d=true):uO w (n+1) (.t ds)=true:=Bool.and_eq_true_iff.mpr ⟨aS h1,all_eq_true.mpr h2⟩
theorem Be:∀{ds:cw},(∀d∈ds,eN d<=n)->jj ds<=n
 |[],_=>by unfold jj;omega
 |d::ds,h=>by
  unfold jj;have h1:=h d (.head _);have h2:=Be λe he=>h e (.tail _ he)
  omega
theorem Gr:∀(n:Nat) (d:D),uO w n d=true->eN d<=n
 |n,.eZ,_=>by unfold eN;omega
 |n,.bl _,_=>by unfold eN;omega
 |n,.int _,_=>by unfold eN;omega
 |n,.str _,_=>by unfold eN;omega
 |0,.t _,h=>by cases h
 |0,.l _,h=>by cases h
 |n+1,.t ds,h=>by
  unfold eN;have:=Be λd hd=>Gr n d (all_eq_true.mp (Bool.and_eq_true_iff.mp (show(decide (ds.length<=w)&&ds.all (uO w n))=true from h)).2 d hd)
  omega
 |n+1,.l ds,h=>by
  unfold eN;have:=Be λd hd=>Gr n d (all_eq_true.mp (Bool.and_eq_true_iff.mp (show(decide (ds.length<=w)&&ds.all (uO w n))=true from h)).2 d hd)
  omega
def W6 (i:Int):uO w n (.int i)=true:=by cases n<;>rfl
def Mx (h:c.length<=w):uO w (n+1) (vc c)=true:=CN (by rw[ae];exact h) λd hd=>by
 obtain⟨i,_,rfl⟩:=mem_map.mp hd;exact W6 i
theorem yG (hw:w<=w'):∀{n k:Nat}{d:D},n<=k->uO w n d=true->uO w' k d=true
 |0,k,.t _,_,h=>by cases h
 |0,k,.l _,_,h=>by cases h
 |n+1,0,.t _,h,_=>by omega
 |n+1,0,.l _,h,_=>by omega
 |n+1,k+1,.t ds,hk,h=>by
  obtain⟨h1,h2⟩:=Bool.and_eq_true_iff.mp (show(decide (ds.length<=w)&&ds.all (uO w n))=true from h)
  exact Bool.and_eq_true_iff.mpr ⟨aS (aE (bL h1) hw),all_eq_true.mpr λd hd=>yG hw (by omega) (all_eq_true.mp h2 d hd)⟩
 |n+1,k+1,.l ds,hk,h=>by
  obtain⟨h1,h2⟩:=Bool.and_eq_true_iff.mp (show(decide (ds.length<=w)&&ds.all (uO w n))=true from h)
  exact Bool.and_eq_true_iff.mpr ⟨aS (aE (bL h1) hw),all_eq_true.mpr λd hd=>yG hw (by omega) (all_eq_true.mp h2 d hd)⟩
 |n,k,.eZ,_,_=>by cases k<;>rfl
 |n,k,.bl _,_,_=>by cases k<;>rfl
 |n,k,.int _,_,_=>by cases k<;>rfl
 |n,k,.str _,_,_=>by cases k<;>rfl
def yH (a b:Int):BG (.int a) (.int b)=some (.bl (!decide (a=b))):=by
 unfold BG;rw[if_pos (by unfold eN;omega)]
 unfold jK;by_cases h:a=b<;>simp[h]
noncomputable def DX (lo hi:Int):D->Bool
 |.int i=>decide (lo<=i)&&decide (i<=hi)
 |_=>false
def Z1 (d:D) (lo hi:Int):lb [d,.int lo,.int hi]=some (.bl (DX lo hi d)):=by
 cases d with
 |int i=>exact T3 i lo hi
 |_=>exact LW.eh rfl rfl
theorem IK {lo hi:Int}:∀{ds:cw},ds.all (DX lo hi)=true->∃c,χ ds=some c/\∀i∈c,lo<=i/\i<=hi
 |[],_=>⟨[],rfl,λi hi=>by cases hi⟩
 |d::ds,h=>by
  obtain⟨h1,h2⟩:=Bool.and_eq_true_iff.mp (show(DX lo hi d&&ds.all (DX lo hi))=true from h)
  obtain⟨c,e,hc⟩:=IK h2;cases d with
  |int i=>
   refine⟨i::c,by rw[fE e];exact ij (i::c),λj hj=>?_⟩
   rcases mem_cons.mp hj with rfl|hj
   .simpa [DX]using h1
   .exact hc j hj
  |_=>cases h1
section
variable {G:Gm}{f h:Int}{m y:cq}{d:D}
def vB (hG:G.Ok) (p:eK G.Cf m y) (hw:w=0\/w=1):jA [dG G f,vc m,vc y,.int w]=some (.t ((G.cY m y w).map vc)):=by
 have h1:=j8 p.rm p.im;have h2:=j8 p.ry p.iy;have m9:=hG.m9;have m0:=hG.m0;have b1:=hG.b1;have b3:=hG.b3;have g1:=hG.g1;have g3:=hG.g3;exact NO (by omega) (by omega) ⟨by omega,by omega⟩ ⟨by omega,by omega⟩ hw (by omega)
def vC (hG:G.Ok) (p:eK G.Cf m y) (hc:c∈G.cY m y w):gT [vc m,vc y,.int w,vc c]=some (.t [vc (df m y w c).1,vc (df m y w c).2]):=Gg hG p hc
def Z2 (hG:G.Ok) (p:eK G.Cf m y) (hw:w=0\/w=1) (hs:uO 40 k d=true):l7 [dG G f,vc m,vc y,.int w,d]=some (.bl (Ry (G.cY m y w) d)):=by
 refine LW.eh rfl ?_;show uM [jD G f,cJ m,cJ y,cI w,.d d,.n]=_;cases d with
 |t ds=>
  obtain⟨_,_,hl,_⟩:=wU hs;have q4:qB (cV Fz (cM (dL (fq (iT (cO 4)) 5 kO (cV lb (cM (cO 5) (cM (dC (.int 0)) (cM (dB ou (dB fX (dB fX (dg 0) (dC (.int 0))) (dC (.int 0))) (dC (.int 1))) cS)))))) cS)) [jD G f,cJ m,cJ y,cI w,.d (.t ds),.n]=some (ds.all (DX 0 (G.Cf-1))):=
   fQ ((mV (kE (ds:=ds) rfl (by omega) (by simpa using ke (φ:=id) (ψ:=λd=>D.bl (DX 0 (G.Cf-1) d)) ds λd _=>(di rfl).trans (Z1 d 0 (G.Cf-1))))).trans (LW.yf ds _))
  unfold uM;rw[LW.cR (show yx [jD G f,cJ m,cJ y,cI w,.d (.t ds),.n]=some (.next [jD G f,cJ m,cJ y,cI w,.d (.t ds),.n])from rfl)]
  cases ha:ds.all (DX 0 (G.Cf-1))with
  |false=>
   rw[ha]at q4;rw[eP (d:=.bl false) (by unfold nU;rw[jm (nR q4)];rfl)]
   have:Ry (G.cY m y w) (.t ds)=false:=by
    unfold Ry;split
    .rename_i c hc;refine aI λz=>?_
     have e:=fE hc;have:ds.all (DX 0 (G.Cf-1))=true:=all_eq_true.mpr λd hd=>by
      rw[e]at hd;obtain⟨i,hi,rfl⟩:=mem_map.mp hd;have:=(fJ.mp ((kQ.mp z).2.2 i hi)).1;simp only[DX,Bool.and_eq_true,decide_eq_true_eq];omega
     rw[ha]at this;cases this
    .rfl
   rw[this]
  |true=>
   rw[ha]at q4;rw[LW.cR (show nU [jD G f,cJ m,cJ y,cI w,.d (.t ds),.n]=some (.next [jD G f,cJ m,cJ y,cI w,.d (.t ds),.n]) by unfold nU;rw[jn (nR q4)];rfl)]
   obtain⟨c,hc,_⟩:=IK ha;have e:=fE hc;unfold yy;refine eV ((gC (o:=GN) (x:=vc c) (by rw[e];rfl) ((di rfl).trans (vB hG p hw))).trans ((Ir c _).trans ?_))
   have:Ry (G.cY m y w) (.t ds)=decide (c∈G.cY m y w):=by unfold Ry;rw[show jR (.t ds)=some c from hc]
   rw[this]
 |_=>rfl
noncomputable def KU:D->Bool
 |.t _=>true
 |_=>false
def W7 (hd:eN d<=30):nF d (.t [])=some (.bl (KS d)):=by
 unfold nF;rw[if_pos hd];cases d with
 |t ds=>cases ds<;>rfl
 |_=>rfl
abbrev _root_.sN (G:GP.Gm) (f h:Int) (m y:cq) (r:DL.fW):DL.fW:=.d (dG G f)::cI h::cJ m::cJ y::r
def Ua (hG:G.Ok) (AQ:G.ls.length<=18) (hd:eN d<=30) (hr:G.over m y=none->KU d=true->(if w=h then rW else rO) [dG G f,.int h,vc m,vc y,d]=some (.bl b)):gF 7 6 (jd rO rW) [dG G f,.int h,vc m,vc y,.int w,d]=some (.bl (match G.over m y with|some o=>decide (o=h)&&KS d|none=>KU d&&b)):=by
 refine LW.eh rfl ?_;show jd rO rW (sN G f h m y [cI w,.d d,.n])=_;unfold jd;rw[LW.cR (show rl rO rW (sN G f h m y [cI w,.d d,.n])=some (.next (sN G f h m y [cI w,.d d,.d (Cd (G.over m y))]))from fA ((di rfl).trans (ET (by omega) hG.ll)))]
 cases ho:G.over m y with
 |some o=>
  rw[eP (d:=.bl (decide (o=h)&&KS d)) ?_];unfold l9;rw[jm rfl];exact eV (Gf (kF o h) (W7 hd))
 |none=>
  show dP _ _ (sN G f h m y [cI w,.d d,.d .eZ])=_;rw[LW.cR (show l9 rO rW (sN G f h m y [cI w,.d d,.d .eZ])=some (.next (sN G f h m y [cI w,.d d,.d .eZ]))from rfl)]
  cases d with
  |t ds=>
   rw[LW.cR (show rn rO rW (sN G f h m y [cI w,.d (.t ds),.d .eZ])=some (.next (sN G f h m y [cI w,.d (.t ds),.d .eZ]))from rfl)]
   have hr:=hr ho rfl;have q7:qB (dB nF (dg 4) (dg 1)) (sN G f h m y [cI w,.d (.t ds),.d .eZ])=some (decide (w=h)):=fQ (kF w h);by_cases e:w=h
   .rw[if_pos e]at hr;rw[eP (d:=.bl b) ?_]
    .rfl
    unfold jQ;rw[jm (q7.trans (by rw[aS e]))]
    exact eV ((di rfl).trans hr)
   .rw[if_neg e]at hr;rw[LW.cR (show jQ rO rW (sN G f h m y [cI w,.d (.t ds),.d .eZ])=some (.next (sN G f h m y [cI w,.d (.t ds),.d .eZ])) by unfold jQ;rw[jn (q7.trans (by rw[aI e]))];rfl)]
    exact eV ((di rfl).trans hr)
  |_=>rfl
def IL (cs:cp) (B:cq->D->Bool) (d:D):Bool:=match IJ d with
 |some (c,t)=>(match jR c with
  |some c=>decide (c∈cs)&&B c t
  |none=>false)
 |none=>false
def RA (hG:G.Ok) (p:eK G.Cf m y) (hh:h=0\/h=1) (hs:uO 40 k (.t ds)=true) (hr:∀c t,c∈G.cY m y h->ds=[vc c,t]->rc [dG G f,.int h,vc (df m y h c).1,vc (df m y h c).2,.int (1-h),t]=some (.bl (B c t))):gF 6 5 (iH rc) [dG G f,.int h,vc m,vc y,.t ds]=some (.bl (IL (G.cY m y h) B (.t ds))):=by
 obtain⟨k',_,_,hk⟩:=wU hs;refine LW.eh rfl ?_;show iH rc (sN G f h m y [.d (.t ds),.n])=_;have q1:qB (dB BG (cV iQ (cM (dg 4) cS)) (dC (.int 2))) (sN G f h m y [.d (.t ds),.n])=some (!decide ((ds.length:Int)=2)):=fQ (yH _ 2);unfold iH IL;cases hp:IJ (.t ds)with
 |none=>
  have hn:¬ (ds.length:Int)=2:=λz=>by
   match ds,z with
   |[a,c],_=>cases hp
  rw[eP (d:=.bl false) ?_];unfold gy;rw[jm (by unfold Ep;rw[q1,aI hn];rfl)]
  rfl
 |some ct=>
  obtain⟨c,t⟩:=ct;obtain rfl:ds=[c,t]:=by
   match ds,hp with
   |[a,c'],hp=>cases hp;rfl
  have q2:kN (qB (cV l7 (cM (cO 0) (cM (cO 2) (cM (cO 3) (cM (cO 1) (cM (dB fX (dg 4) (dC (.int 0))) cS))))))) (sN G f h m y [.d (.t [c,t]),.n])=some (!Ry (G.cY m y h) c):=
   nR (fQ ((di rfl).trans (Z2 hG p hh (hk c (.head _)))))
  have q:=CG (g:=kN (qB (cV l7 (cM (cO 0) (cM (cO 2) (cM (cO 3) (cM (cO 1) (cM (dB fX (dg 4) (dC (.int 0))) cS)))))))) q1 q2;have no:Ry (G.cY m y h) c=false->dP (gy rc) (dP (jo rc) (lM rc)) (sN G f h m y [.d (.t [c,t]),.n])=some (.ret (.bl false)):=λz=>by
   rw[z]at q;rw[eP (d:=.bl false) ?_];unfold gy;rw[jm q];rfl
  show _=some (R.ret (.bl (match jR c with|some c=>decide (c∈G.cY m y h)&&B c t|none=>false)))
  cases hc:jR c with
  |none=>exact no (by unfold Ry;rw[hc])
  |some c'=>
   have ec:=KR hc;by_cases hm:c'∈G.cY m y h
   .have z:Ry (G.cY m y h) c=true:=by unfold Ry;rw[hc];exact aS hm
    rw[z]at q;rw[LW.cR (show gy rc (sN G f h m y [.d (.t [c,t]),.n])=some (.next (sN G f h m y [.d (.t [c,t]),.n])) by unfold gy;rw[jn q];rfl)]
    rw[LW.cR (show jo rc (sN G f h m y [.d (.t [c,t]),.n])=some (.next (sN G f h m y [.d (.t [c,t]),.d (.t [vc (df m y h c').1,vc (df m y h c').2])])) by
     unfold jo;rw[fA ((di (ds:=[vc m,vc y,.int h,c]) rfl).trans (by rw[ec];exact vC hG p hm))]
     rfl)]
    have kh:cV dZ (cM (cO 1) cS) (sN G f h m y [.d (.t [c,t]),.d (.t [vc (df m y h c').1,vc (df m y h c').2])])=some (.int (1-h)):=(di rfl).trans (vA hh);unfold lM;refine eV ((di (ds:=[dG G f,.int h,vc (df m y h c').1,vc (df m y h c').2,.int (1-h),t]) ?_).trans ((hr c' t hm (by rw[ec])).trans ?_))
    .exact iF rfl (iF rfl (iF rfl (iF rfl (iF kh rfl))))
    .show _=some (D.bl (decide (c'∈G.cY m y h)&&B c' t));rw[aS hm];rfl
   .rw[no (by unfold Ry;rw[hc];exact aI hm)]
    show _=some (R.ret (.bl (decide (c'∈G.cY m y h)&&B c' t)));rw[aI hm];rfl
end
noncomputable def Gs (cs:cp) (B:cq->D->Bool):D->Bool
 |.t ds=>decide (ds.length=cs.length)&&(cs.zip ds).all λp=>B p.1 p.2
 |_=>false
section
variable {G:Gm}{f h w:Int}{m y:cq}{d:D}{rc:cg}{B:cq->D->Bool}
theorem CO (hG:G.Ok) (p:eK G.Cf m y) (hw:w=0\/w=1):∀(cs:cp) (ds:cw) (x7 x8 x9:Sl),cs.length=ds.length->(∀c∈cs,c∈G.cY m y w)->
  (∀c t,(c,t)∈cs.zip ds->rc [dG G f,.int h,vc (df m y w c).1,vc (df m y w c).2,.int h,t]=some (.bl (B c t)))->
  ∃z7 z8 z9,wH [7,8] (eF rc) (qk (cs.map vc) ds) (sN G f h m y [.d br,cI w,.d an,x7,x8,x9])=
   if(cs.zip ds).all (λp=>B p.1 p.2)=true then some (.next (sN G f h m y [.d br,cI w,.d an,z7,z8,z9]))else some (.ret (.bl false))
 |[],[],x7,x8,x9,_,_,_=>⟨x7,x8,x9,rfl⟩
 |[],_::_,_,_,_,h,_,_=>by cases h
 |_::_,[],_,_,_,h,_,_=>by cases h
 |c::cs,t::ds,x7,x8,x9,hl,hc,hr=>by
  have N0:=hc c (.head _);have r:=hr c t (.head _);obtain⟨z7,z8,z9,ih⟩:=CO (br:=br) (an:=an) hG p hw cs ds (cJ c) (.d t) (.d (.t [vc (df m y w c).1,vc (df m y w c).2])) (by simpa using hl) (λc tZ=>hc c (.tail _ tZ)) λc t h=>hr c t (.tail _ h)
  have e5:j3 rc (sN G f h m y [.d br,cI w,.d an,cJ c,.d t,x9])=some (.next (sN G f h m y [.d br,cI w,.d an,cJ c,.d t,.d (.t [vc (df m y w c).1,vc (df m y w c).2])])):=by
   unfold j3;rw[fA ((di rfl).trans (vC hG p N0))];rfl
  have q:=nR (fQ ((di (f:=cM (cO 0) (cM (cO 1) (cM (dB fX (dg 9) (dC (.int 0))) (cM (dB fX (dg 9) (dC (.int 1))) (cM (cO 1) (cM (cO 8) cS)))))) (U:=(sN G f h m y [.d br,cI w,.d an,cJ c,.d t,.d (.t [vc (df m y w c).1,vc (df m y w c).2])])) rfl).trans r));refine⟨z7,z8,z9,?_⟩;show(match eF rc (sN G f h m y [.d br,cI w,.d an,cJ c,.d t,x9])with
   |some (.next δ')=>wH [7,8] (eF rc) (qk (cs.map vc) ds) δ'
   |some (.cont δ')=>wH [7,8] (eF rc) (qk (cs.map vc) ds) δ'
   |some (.brk δ')=>some (.next δ')
   |some (.ret r)=>some (.ret r)
   |none=>none)=if(B c t&&(cs.zip ds).all λp=>B p.1 p.2)=true then _ else _
  have e:eF rc (sN G f h m y [.d br,cI w,.d an,cJ c,.d t,x9])=if B c t=true then some (.next (sN G f h m y [.d br,cI w,.d an,cJ c,.d t,.d (.t [vc (df m y w c).1,vc (df m y w c).2])]))else some (.ret (.bl false)):=by
   unfold eF;rw[LW.cR e5];unfold ny;cases hb:B c t with
   |true=>rw[hb]at q;rw[jn q];rfl
   |false=>rw[hb]at q;rw[jm q];rfl
  rw[e];cases hb:B c t with
  |true=>exact ih
  |false=>rfl
def KW (hG:G.Ok) (p:eK G.Cf m y) (hh:h=0\/h=1) (hr:∀c t,(c,t)∈(G.cY m y (1-h)).zip ds->rc [dG G f,.int h,vc (df m y (1-h) c).1,vc (df m y (1-h) c).2,.int h,t]=some (.bl (B c t))):gF 10 5 (gZ rc) [dG G f,.int h,vc m,vc y,.t ds]=some (.bl (Gs (G.cY m y (1-h)) B (.t ds))):=by
 have hw:1-h=0\/1-h=1:=by omega
 refine LW.eh rfl ?_;show gZ rc (sN G f h m y [.d (.t ds),.n,.n,.n,.n,.n])=_;unfold gZ;rw[LW.cR (show nu rc (sN G f h m y [.d (.t ds),.n,.n,.n,.n,.n])=some (.next (sN G f h m y [.d (.t ds),cI (1-h),.n,.n,.n,.n]))from fA ((di rfl).trans (vA hh)))]
 rw[LW.cR (show nv rc (sN G f h m y [.d (.t ds),cI (1-h),.n,.n,.n,.n])=some (.next (sN G f h m y [.d (.t ds),cI (1-h),.d (.t ((G.cY m y (1-h)).map vc)),.n,.n,.n]))from fA ((di rfl).trans (vB hG p hw)))]
 have q:qB (dB BG (cV iQ (cM (dg 4) cS)) (cV iQ (cM (dg 6) cS))) (sN G f h m y [.d (.t ds),cI (1-h),.d (.t ((G.cY m y (1-h)).map vc)),.n,.n,.n])=some (!decide ((ds.length:Int)=((G.cY m y (1-h)).map vc).length)):=fQ (yH _ _);rw[ae]at q;show _=some (R.ret (.bl (decide (ds.length=(G.cY m y (1-h)).length)&&((G.cY m y (1-h)).zip ds).all λp=>B p.1 p.2)))
 by_cases hl:ds.length=(G.cY m y (1-h)).length
 .rw[aS (by omega)]at q
  rw[LW.cR (show iB rc (sN G f h m y [.d (.t ds),cI (1-h),.d (.t ((G.cY m y (1-h)).map vc)),.n,.n,.n])=some (.next (sN G f h m y [.d (.t ds),cI (1-h),.d (.t ((G.cY m y (1-h)).map vc)),.n,.n,.n])) by unfold iB;rw[jn q];rfl)]
  obtain⟨z7,z8,z9,e⟩:=CO (br:=.t ds) (an:=.t ((G.cY m y (1-h)).map vc)) hG p hw (G.cY m y (1-h)) ds .n .n .n hl.symm (λ_ h=>h) hr
  have e8:nz rc (sN G f h m y [.d (.t ds),cI (1-h),.d (.t ((G.cY m y (1-h)).map vc)),.n,.n,.n])=wH [7,8] (eF rc) (qk ((G.cY m y (1-h)).map vc) ds) (sN G f h m y [.d (.t ds),cI (1-h),.d (.t ((G.cY m y (1-h)).map vc)),.n,.n,.n]):=by
   show(iZ (cO 6) (cO 4) _).bind _=_;rw[show iZ (cO 6) (cO 4) (sN G f h m y [.d (.t ds),cI (1-h),.d (.t ((G.cY m y (1-h)).map vc)),.n,.n,.n])=some (qk ((G.cY m y (1-h)).map vc) ds)from if_pos (by rw[ae];exact hl.symm)]
   rfl
  rw[e]at e8;rw[aS hl,Bool.true_and];cases ha:((G.cY m y (1-h)).zip ds).all λp=>B p.1 p.2 with
  |true=>rw[ha]at e8;rw[LW.cR e8];rfl
  |false=>rw[ha]at e8;rw[eP e8]
 .rw[aI (by omega)]at q
  rw[eP (d:=.bl false) (by unfold iB;rw[jm q];rfl),aI hl]
  rfl
theorem o7:jf G h (n+1) m y w d=(match G.over m y with
  |some o=>decide (o=h)&&KS d
  |none=>KU d&&(if w=h then IL (G.cY m y w) (λc t=>jf G h n (df m y w c).1 (df m y w c).2 (1-w) t) d else Gs (G.cY m y w) (λc t=>jf G h n (df m y w c).1 (df m y w c).2 (1-w) t) d)):=by
 rw[jf];cases G.over m y with
 |some o=>rfl
 |none=>
  show(if w=h then _ else _)=(KU d&&_)
  cases d with
  |t ds=>rw[show KU (.t ds)=true from rfl,Bool.true_and];rfl
  |_=>by_cases e:w=h<;>simp[e,KU,IJ,Rz]
theorem yI {α β:Type}{a:α}{b:β}:∀{l:List α}{k:List β},(a,b)∈l.zip k->a∈l/\b∈k
 |[],_,h=>by cases h
 |_::_,[],h=>by cases h
 |x::l,z::k,h=>by
  rcases mem_cons.mp h with e|h
  .cases e;exact⟨.head _,.head _⟩
  .exact⟨.tail _ (yI h).1,.tail _ (yI h).2⟩
def uP (hG:G.Ok) (p:eK G.Cf m y) (ho:G.over m y=none) (hc:c∈G.cY m y w) (hn:(G.free m y).length<n+1):(G.free (df m y w c).1 (df m y w c).2).length<n:=by
 have:=mK p hc;have:=qU hG ho hc;omega
theorem o8 (hG:G.Ok) (AQ:G.ls.length<=18) (hh:h=0\/h=1):∀(n:Nat) (m y:cq) (w:Int) (d:D) (k:Nat),eK G.Cf m y->(w=0\/w=1)->(G.free m y).length<n->k<=30->uO 40 k d=true->
  iI (2*n) [dG G f,.int h,vc m,vc y,.int w,d]=some (.bl (jf G h n m y w d))
 |0,_,_,_,_,_,_,_,hn,_,_=>by omega
 |n+1,m,y,w,d,k,p,hw,hn,hk,hs=>by
  rw[o7];refine Ua hG AQ (aE (Gr k d hs) hk) λho ht=>?_
  obtain⟨ds,rfl⟩:∃ds,d=.t ds:=by
   cases d with
   |t ds=>exact⟨ds,rfl⟩
   |_=>cases ht
  obtain⟨k',rfl,_,pG⟩:=wU hs;by_cases e:w=h
  .rw[if_pos e,if_pos e];obtain rfl:=e.symm;refine RA hG p hw hs λc t hc ed=>o8 hG AQ hh n _ _ _ t k' (gz p hc) (by omega) (uP hG p ho hc hn) (by omega) (pG t (by rw[ed];exact .tail _ (.head _)))
  .rw[if_neg e,if_neg e];have e':w=1-h:=by omega
   have e2:1-(1-h)=h:=by omega
   subst e';refine KW hG p hh λc t hz=>?_
   obtain⟨hc,ht'⟩:=yI hz;have:=o8 hG AQ hh n _ _ (1-(1-h)) t k' (gz p hc) (by omega) (uP hG p ho hc hn) (by omega) (pG t ht')
   rw[e2]at this ⊢;exact this
def zN (hG:G.Ok) (AQ:G.ls.length<=18) (h5:G.Cf<=5) (hh:h=0\/h=1) (hf:f=0\/f=1) (hk:k<=30) (hs:uO 40 k d=true):oh [dG G f,.int h,d]=some (.bl (jf G h 7 [] [] f d)):=by
 refine LW.eh rfl ?_;have:=n9 G.Cf [] [];exact eV ((di (ds:=[dG G f,.int h,vc [],vc [],.int f,d]) rfl).trans (o8 hG AQ hh 7 [] [] f d k (iW _) hf (by show(fN G.Cf [] []).length<7;omega) hk hs))
end
noncomputable def CP:D->Bool
 |.bl _=>true
 |_=>false
theorem My:∀(a:cq) (cs:cw),kP (a.map D.int) cs=true->cs.any CP=false->cs=a.map D.int
 |[],[],_,_=>rfl
 |[],_::_,h,_=>by cases h
 |_::_,[],h,_=>by cases h
 |i::a,x::cs,h,hb=>by
  obtain⟨h1,h2⟩:=Bool.and_eq_true_iff.mp (show(jK (.int i) x&&kP (a.map D.int) cs)=true by rw[<-h];show _=kP (D.int i::a.map D.int) (x::cs);rw[kP])
  obtain⟨b1,b2⟩:=Bool.or_eq_false_iff.mp (show(CP x||cs.any CP)=false from hb)
  rw[My a cs h2 b2];cases x with
  |int j=>
   have:i=j:=by simpa [jK]using h1
   rw[this];rfl
  |bl b=>cases b1
  |_=>simp[jK]at h1
theorem Mz:∀(a:cq),kP (a.map D.int) (a.map D.int)=true
 |[]=>rfl
 |i::a=>by
  show kP (D.int i::a.map D.int) (D.int i::a.map D.int)=true;rw[kP,Mz a];simp[jK]
theorem RB {α:Type}(q:α->Bool):∀l:List α,(!(l.filter q).isEmpty)=l.any q
 |[]=>rfl
 |a::l=>by
  have:=RB q l;cases h:q a<;>simp[bu,h,this]
def U9 (a:cq):(a.map D.int).any CP=false:=by
 rw[any_map];exact any_eq_false.mpr λx _=>by simp[CP]
section
variable {G:Gm}{f h w:Int}{m y:cq}{d:D}{rc:cg}{B:cq->D->Bool}{L:cp}
def RC:(memD (.t cs) (L.map vc)=true/\cs.any CP=false)↔∃c∈L,cs=c.map D.int:=by
 unfold memD;rw[any_map,bP];constructor
 .rintro⟨⟨c,hc,e⟩,hb⟩
  exact⟨c,hc,My c cs (by simpa [vc,jK]using e) hb⟩
 .rintro⟨c,hc,rfl⟩
  exact⟨⟨c,hc,by simpa [vc,jK]using Mz c⟩,U9 c⟩
abbrev _root_.tY (G:GP.Gm) (f:Int) (m y:cq) (w h:Int) (r:DL.fW):DL.fW:=.d (dG G f)::cJ m::cJ y::cI w::cI h::r
theorem IM (hG:G.Ok) (p:eK G.Cf m y) (hw:w=0\/w=1):∀(cs:cp) (ds:cw) (x8 x9 x10 x11:Sl),cs.length=ds.length->(∀c∈cs,c∈G.cY m y w)->
  (∀c t,(c,t)∈cs.zip ds->rc [dG G f,vc (df m y w c).1,vc (df m y w c).2,.int (1-w),.int h,t]=some (.bl (B c t)))->
  ∃z8 z9 z10 z11,wH [10,11] (eY rc) (qk (cs.map vc) ds) (tY G f m y w h [.d th,.d ov,.d du,x8,x9,x10,x11,x12])=
   if(cs.zip ds).all (λp=>B p.1 p.2)=true then some (.next (tY G f m y w h [.d th,.d ov,.d du,z8,z9,z10,z11,x12]))else some (.ret (.bl false))
 |[],[],x8,x9,x10,x11,_,_,_=>⟨x8,x9,x10,x11,rfl⟩
 |[],_::_,_,_,_,_,h,_,_=>by cases h
 |_::_,[],_,_,_,_,h,_,_=>by cases h
 |c::cs,t::ds,x8,x9,x10,x11,hl,hc,hr=>by
  have N0:=hc c (.head _);have r:=hr c t (.head _);obtain⟨z8,z9,z10,z11,ih⟩:=IM (th:=th) (du:=du) (ov:=ov) (x12:=x12) hG p hw cs ds (cJ (df m y w c).1) (cJ (df m y w c).2) (cJ c) (.d t) (by simpa using hl) (λc tZ=>hc c (.tail _ tZ)) λc t h=>hr c t (.tail _ h)
  have e:eY rc (tY G f m y w h [.d th,.d ov,.d du,x8,x9,cJ c,.d t,x12])=if B c t=true then some (.next (tY G f m y w h [.d th,.d ov,.d du,cJ (df m y w c).1,cJ (df m y w c).2,cJ c,.d t,x12]))else some (.ret (.bl false)):=by
   unfold eY;rw[LW.cR (show pY rc (tY G f m y w h [.d th,.d ov,.d du,x8,x9,cJ c,.d t,x12])=some (.next (tY G f m y w h [.d th,.d ov,.d du,cJ (df m y w c).1,cJ (df m y w c).2,cJ c,.d t,x12]))from Mr ((di rfl).trans (Gg hG p N0)) rfl)]
   have q:=nR (fQ ((di (f:=cM (cO 0) (cM (cO 8) (cM (cO 9) (cM (dB ou (dC (.int 1)) (dg 3)) (cM (cO 4) (cM (cO 11) cS)))))) (U:=(tY G f m y w h [.d th,.d ov,.d du,cJ (df m y w c).1,cJ (df m y w c).2,cJ c,.d t,x12])) rfl).trans r));unfold pZ;cases hb:B c t with
   |true=>rw[hb]at q;rw[jn q];rfl
   |false=>rw[hb]at q;rw[jm q];rfl
  refine⟨z8,z9,z10,z11,?_⟩;show(match eY rc (tY G f m y w h [.d th,.d ov,.d du,x8,x9,cJ c,.d t,x12])with
   |some (.next δ')=>wH [10,11] (eY rc) (qk (cs.map vc) ds) δ'
   |some (.cont δ')=>wH [10,11] (eY rc) (qk (cs.map vc) ds) δ'
   |some (.brk δ')=>some (.next δ')
   |some (.ret r)=>some (.ret r)
   |none=>none)=if(B c t&&(cs.zip ds).all λp=>B p.1 p.2)=true then _ else _
  rw[e];cases hb:B c t with
  |true=>exact ih
  |false=>rfl
def Ub (hG:G.Ok) (p:eK G.Cf m y) (hw:w=0\/w=1) (hl:ds.length<=40) (hs:∀d∈ds,uO 40 k d=true) (hr:∀c t,c∈G.cY m y w->ds=[vc c,t]->rc [dG G f,vc (df m y w c).1,vc (df m y w c).2,.int (1-w),.int h,t]=some (.bl (B c t))):dP (gb rc) (dP (ie rc) (dP (lN rc) (lO rc))) (tY G f m y w h [.d (.t ds),.d ov,.d (.l ((G.cY m y w).map vc)),.n,.n,.n,.n,.n])=some (.ret (.bl (IL (G.cY m y w) B (.t ds)))):=by
 have q1:qB (dB BG (cV iQ (cM (dg 5) cS)) (dC (.int 2))) (tY G f m y w h [.d (.t ds),.d ov,.d (.l ((G.cY m y w).map vc)),.n,.n,.n,.n,.n])=some (!decide ((ds.length:Int)=2)):=fQ (yH _ 2);unfold IL;cases hp:IJ (.t ds)with
 |none=>
  have hn:¬ (ds.length:Int)=2:=λz=>by
   match ds,z with
   |[a,c],_=>cases hp
  rw[eP (d:=.bl false) ?_];unfold gb;rw[jm (by unfold Ep;rw[q1,aI hn];rfl)]
  rfl
 |some ct=>
  obtain⟨c,t⟩:=ct;obtain rfl:ds=[c,t]:=by
   match ds,hp with
   |[a,c'],hp=>cases hp;rfl
  show _=some (R.ret (.bl (match jR c with|some c=>decide (c∈G.cY m y w)&&B c t|none=>false)))
  cases c with
  |t cs=>
   have Uv:cs.length<=40:=by obtain⟨_,_,z,_⟩:=wU (hs (.t cs) (.head _));exact z
   have q2:qB (dB vJ (dB fX (dg 5) (dC (.int 0))) (dg 7)) (tY G f m y w h [.d (.t [.t cs,t]),.d ov,.d (.l ((G.cY m y w).map vc)),.n,.n,.n,.n,.n])=some (!memD (.t cs) ((G.cY m y w).map vc)):=by
    refine fQ ?_;show(if jj ((G.cY m y w).map vc)<=30 then some (D.bl (!memD (.t cs) ((G.cY m y w).map vc)))else none)=_
    rw[if_pos (Be λd hd=>?_)]
    obtain⟨c,_,rfl⟩:=mem_map.mp hd;exact aE (Gr (w:=c.length) 1 _ (Mx (n:=0) (av _))) (by decide)
   have q:=CG (g:=Ep (kN (qB (wz "tuple" (dB fX (dg 5) (dC (.int 0)))))) (qB (dB vJ (dB fX (dg 5) (dC (.int 0))) (dg 7)))) q1 (CG (f:=kN (qB (wz "tuple" (dB fX (dg 5) (dC (.int 0)))))) rfl q2);have q3:qT (dL (fq (iT (dB fX (dg 5) (dC (.int 0)))) 12 (qB (wz "bool" (dg 12))) (cO 12))) (tY G f m y w h [.d (.t [.t cs,t]),.d ov,.d (.l ((G.cY m y w).map vc)),.n,.n,.n,.n,.n])=some (cs.any CP):=by
    have e:=kE (i:=iT (dB fX (dg 5) (dC (.int 0)))) (j:=12) (t:=qB (wz "bool" (dg 12))) (f:=cO 12) (U:=(tY G f m y w h [.d (.t [.t cs,t]),.d ov,.d (.l ((G.cY m y w).map vc)),.n,.n,.n,.n,.n])) (ds:=cs) rfl (by omega) (by simpa using oY (φ:=id) (ψ:=id) (p:=CP) cs (λa _=>by cases a<;>rfl) λa _ _=>rfl)
    unfold qT dL;rw[e];show some (!(cs.filter CP).isEmpty)=some (cs.any CP);rw[RB]
   cases hm:memD (.t cs) ((G.cY m y w).map vc)with
   |false=>
    rw[hm]at q;rw[eP (d:=.bl false) (by unfold gb;rw[jm q];rfl)]
    cases hc:jR (.t cs)with
    |none=>rfl
    |some c'=>
     have:¬ c'∈G.cY m y w:=λz=>by
      have:=(RC (cs:=cs) (L:=G.cY m y w)).mpr ⟨c',z,fE hc⟩;rw[hm]at this;cases this.1
     show _=some (R.ret (.bl (decide (c'∈G.cY m y w)&&B c' t)));rw[aI this];rfl
   |true=>
    rw[hm]at q;rw[LW.cR (show gb rc (tY G f m y w h [.d (.t [.t cs,t]),.d ov,.d (.l ((G.cY m y w).map vc)),.n,.n,.n,.n,.n])=some (.next (tY G f m y w h [.d (.t [.t cs,t]),.d ov,.d (.l ((G.cY m y w).map vc)),.n,.n,.n,.n,.n])) by unfold gb;rw[jn q];rfl)]
    cases hb:cs.any CP with
    |true=>
     rw[hb]at q3;rw[eP (d:=.bl false) (by unfold ie;rw[jm q3];rfl)]
     cases hc:jR (.t cs)with
     |none=>rfl
     |some c'=>rw[show cs=c'.map D.int from fE hc,U9]at hb;cases hb
    |false=>
     rw[hb]at q3;rw[LW.cR (show ie rc (tY G f m y w h [.d (.t [.t cs,t]),.d ov,.d (.l ((G.cY m y w).map vc)),.n,.n,.n,.n,.n])=some (.next (tY G f m y w h [.d (.t [.t cs,t]),.d ov,.d (.l ((G.cY m y w).map vc)),.n,.n,.n,.n,.n])) by unfold ie;rw[jn q3];rfl)]
     obtain⟨c',tZ,rfl⟩:=RC.mp ⟨hm,hb⟩;rw[LW.cR (show lN rc (tY G f m y w h [.d (.t [.t (c'.map D.int),t]),.d ov,.d (.l ((G.cY m y w).map vc)),.n,.n,.n,.n,.n])=some (.next (tY G f m y w h [.d (.t [vc c',t]),.d ov,.d (.l ((G.cY m y w).map vc)),cJ (df m y w c').1,cJ (df m y w c').2,.n,.n,.n]))from Mr ((di rfl).trans (Gg hG p tZ)) rfl)]
     rw[show jR (.t (c'.map D.int))=some c' from yF c']
     unfold lO;refine eV ((di (ds:=[dG G f,vc (df m y w c').1,vc (df m y w c').2,.int (1-w),.int h,t]) rfl).trans ((hr c' t tZ rfl).trans ?_));show _=some (D.bl (decide (c'∈G.cY m y w)&&B c' t));rw[aS tZ];rfl
  |_=>
   rw[eP (d:=.bl false) ?_]
   .rfl
   unfold gb;rw[jm (by rw[CG q1 rfl];rfl)]
   rfl
theorem RD (hG:G.Ok) (p:eK G.Cf m y) (hw:w=0\/w=1) (hh:h=0\/h=1) (hs:uO 40 k d=true)
  (hr:∀c t,c∈G.cY m y w->(w=h->d=.t [vc c,t])->(w≠h->∃ds,d=.t ds/\(c,t)∈(G.cY m y w).zip ds)->G.over m y=none->rc [dG G f,vc (df m y w c).1,vc (df m y w c).2,.int (1-w),.int h,t]=some (.bl (B c t))):
  gF 13 6 (je rc) [dG G f,vc m,vc y,.int w,.int h,d]=some (.bl (match G.over m y with
   |some o=>decide (o=h)&&KS d
   |none=>KU d&&(if w=h then IL (G.cY m y w) B d else Gs (G.cY m y w) B d))):=by
 refine LW.eh rfl ?_;show je rc (tY G f m y w h [.d d,.n,.n,.n,.n,.n,.n,.n])=_;unfold je;rw[LW.cR (show rq rc (tY G f m y w h [.d d,.n,.n,.n,.n,.n,.n,.n])=some (.next (tY G f m y w h [.d d,.d (Cd (G.over m y)),.n,.n,.n,.n,.n,.n]))from fA ((di rfl).trans (Mt hG)))]
 cases d with
 |t ds=>
  obtain⟨k',_,hl,hk⟩:=wU hs;rw[LW.cR (show rA rc (tY G f m y w h [.d (.t ds),.d (Cd (G.over m y)),.n,.n,.n,.n,.n,.n])=some (.next (tY G f m y w h [.d (.t ds),.d (Cd (G.over m y)),.n,.n,.n,.n,.n,.n]))from rfl)]
  cases ho:G.over m y with
  |some o=>
   rw[eP (d:=.bl (decide (o=h)&&KS (.t ds))) ?_];unfold ma;rw[jm rfl];refine eV (Gf (kF o h) ((kF ds.length 0).trans ?_));cases ds with
   |nil=>rfl
   |cons a r=>rw[aI (by rw[az];omega)];rfl
  |none=>
   show dP _ _ (tY G f m y w h [.d (.t ds),.d .eZ,.n,.n,.n,.n,.n,.n])=some (R.ret (.bl (if w=h then IL (G.cY m y w) B (.t ds)else Gs (G.cY m y w) B (.t ds))))
   rw[LW.cR (show ma rc (tY G f m y w h [.d (.t ds),.d .eZ,.n,.n,.n,.n,.n,.n])=some (.next (tY G f m y w h [.d (.t ds),.d .eZ,.n,.n,.n,.n,.n,.n]))from rfl)]
   rw[LW.cR (show rB rc (tY G f m y w h [.d (.t ds),.d .eZ,.n,.n,.n,.n,.n,.n])=some (.next (tY G f m y w h [.d (.t ds),.d .eZ,.d (.l ((G.cY m y w).map vc)),.n,.n,.n,.n,.n]))from fA ((di rfl).trans (EW hG p hw)))]
   have q13:qB (dB nF (dg 3) (dg 4)) (tY G f m y w h [.d (.t ds),.d .eZ,.d (.l ((G.cY m y w).map vc)),.n,.n,.n,.n,.n])=some (decide (w=h)):=fQ (kF w h);by_cases e:w=h
   .rw[if_pos e];rw[aS e]at q13;rw[eP ?_];unfold jq;rw[jm q13];exact Ub hG p hw hl hk λc t hc ed=>hr c t hc (λ_=>by rw[ed]) (λn=>absurd e n) ho
   .rw[if_neg e];rw[aI e]at q13;rw[LW.cR (show jq rc (tY G f m y w h [.d (.t ds),.d .eZ,.d (.l ((G.cY m y w).map vc)),.n,.n,.n,.n,.n])=some (.next (tY G f m y w h [.d (.t ds),.d .eZ,.d (.l ((G.cY m y w).map vc)),.n,.n,.n,.n,.n])) by unfold jq;rw[jn q13];rfl)]
    have q:qB (dB BG (cV iQ (cM (dg 5) cS)) (cV iQ (cM (dg 7) cS))) (tY G f m y w h [.d (.t ds),.d .eZ,.d (.l ((G.cY m y w).map vc)),.n,.n,.n,.n,.n])=some (!decide ((ds.length:Int)=((G.cY m y w).map vc).length)):=fQ (yH _ _);rw[ae]at q;show _=some (R.ret (.bl (decide (ds.length=(G.cY m y w).length)&&((G.cY m y w).zip ds).all λp=>B p.1 p.2)))
    by_cases hl:ds.length=(G.cY m y w).length
    .rw[aS (by omega)]at q
     rw[LW.cR (show jr rc (tY G f m y w h [.d (.t ds),.d .eZ,.d (.l ((G.cY m y w).map vc)),.n,.n,.n,.n,.n])=some (.next (tY G f m y w h [.d (.t ds),.d .eZ,.d (.l ((G.cY m y w).map vc)),.n,.n,.n,.n,.n])) by unfold jr;rw[jn q];rfl)]
     obtain⟨z8,z9,z10,z11,e1⟩:=IM (f:=f) (th:=.t ds) (du:=.l ((G.cY m y w).map vc)) (ov:=.eZ) (x12:=.n) hG p hw (G.cY m y w) ds .n .n .n .n hl.symm (λ_ h=>h) λc t hz=>hr c t (yI hz).1 (λz=>absurd z e) (λ_=>⟨ds,rfl,hz⟩) ho
     have e8:qa rc (tY G f m y w h [.d (.t ds),.d .eZ,.d (.l ((G.cY m y w).map vc)),.n,.n,.n,.n,.n])=wH [10,11] (eY rc) (qk ((G.cY m y w).map vc) ds) (tY G f m y w h [.d (.t ds),.d .eZ,.d (.l ((G.cY m y w).map vc)),.n,.n,.n,.n,.n]):=by
      show(iZ (cO 7) (cO 5) _).bind _=_;rw[show iZ (cO 7) (cO 5) (tY G f m y w h [.d (.t ds),.d .eZ,.d (.l ((G.cY m y w).map vc)),.n,.n,.n,.n,.n])=some (qk ((G.cY m y w).map vc) ds)from if_pos (by rw[ae];exact hl.symm)]
      rfl
     rw[e1]at e8;rw[aS hl,Bool.true_and];cases ha:((G.cY m y w).zip ds).all λp=>B p.1 p.2 with
     |true=>rw[ha]at e8;rw[LW.cR e8];rfl
     |false=>rw[ha]at e8;rw[eP e8]
    .rw[aI (by omega)]at q
     rw[eP (d:=.bl false) (by unfold jr;rw[jm q];rfl),aI hl]
     rfl
 |_=>
  rw[eP (d:=.bl false) rfl];cases G.over m y with
  |none=>rfl
  |some o=>show _=some (R.ret (.bl (decide (o=h)&&false)));rw[Bool.and_false]
theorem wV (hG:G.Ok) (hh:h=0\/h=1):∀(n:Nat) (m y:cq) (w:Int) (d:D) (k:Nat),eK G.Cf m y->(w=0\/w=1)->(G.free m y).length<n->uO 40 k d=true->
  iJ n [dG G f,vc m,vc y,.int w,.int h,d]=some (.bl (jf G h n m y w d))
 |0,_,_,_,_,_,_,_,hn,_=>by omega
 |n+1,m,y,w,d,k,p,hw,hn,hs=>by
  rw[o7];refine RD hG p hw hh hs λc t hc h1 h2 ho=>?_
  obtain⟨ds,rfl,ht⟩:∃ds,d=.t ds/\t∈ds:=by
   by_cases e:w=h
   .exact⟨_,h1 e,.tail _ (.head _)⟩
   .obtain⟨ds,e1,hz⟩:=h2 e;exact⟨ds,e1,(yI hz).2⟩
  obtain⟨k',rfl,_,pG⟩:=wU hs;exact wV hG hh n _ _ _ t k' (gz p hc) (by omega) (uP hG p ho hc hn) (pG t ht)
end
def RE (hf:fe [.m ks,.d m,.d y,.d h,.n,x5,x6]=some (.t ds)) (h1:1<=ds.length) (h2:ds.length<64) (hk:vW (B7 fb m y h) ds=some kz):EG fe fb fr [.m ks,.d m,.d y,.d h,.n,x5,x6]=fr [.m ks,.d m,.d y,.d h,.n,.o (EF kz ds),x6]:=by
 unfold EG;rw[hf];show(if 1<=ds.length/\ds.length<64/\5<7 then _ else none)=_
 rw[if_pos ⟨h1,h2,by decide⟩,hk]
 rfl
theorem MA:∀(cs:cp),(∀c∈cs,∃i,g (vc c)=some (.int i))->∃ks,vW g (cs.map vc)=some ks
 |[],_=>⟨[],rfl⟩
 |c::cs,h=>by
  obtain⟨i,hi⟩:=h c (.head _);obtain⟨ks,hk⟩:=MA cs λc hc=>h c (.tail _ hc)
  refine⟨i::ks,?_⟩;show vW g (vc c::cs.map vc)=_;unfold vW;rw[hi];show(vW g (cs.map vc)).map _=_;rw[hk];rfl
def Uc (ks:cq) (cs:cp):∃L:cp,L.Perm cs/\EF ks (cs.map vc)=L.map vc:=by
 have pm:=L2.vm (lt:=ltK ks) (n:=cs.length) (rank:=λi=>ks.getD i 0) λi j=>rfl
 refine⟨(L2.lC (ltK ks) cs.length).map λi=>cs.getD i [],?_,?_⟩
 .have:=pm.map λi=>cs.getD i []
  rw[iC]at this;exact this
 .unfold EF;rw[ae,aW];refine bT λi hi=>?_
  have fR:i<cs.length:=by simpa using pm.mem_iff.mp hi
  simp[ao,ah fR]
section
variable {G:Gm}{f h w:Int}{m y:cq}
def W8 {L:cp}(hn:L.length<60) (hh:h=0\/h=1):∃i,nV [.t (L.map vc),.int h]=some (.int i):=by
 rcases hh with rfl|rfl
 .refine⟨if(L.map λl=>(l.length:Int))=[]then 0 else jM (L.map λl=>(l.length:Int)),LW.eh rfl ?_⟩
  show qv [DU L,cI 0,.n]=_;unfold qv;rw[eP ?_];unfold uN;rw[jm (fQ (kF 0 0))];refine eV ?_;have e:=kE (i:=iT (cO 0)) (j:=2) (t:=kO) (f:=cV iQ (cM (dg 2) cS)) (U:=[DU L,cI 0,.n]) (ds:=L.map vc) rfl (by rw[ae];omega) (ke (ψ:=λl=>D.int (l.length:Int)) L λl _=>by
   show some (D.int ((l.map D.int).length:Int))=_;rw[ae])
  unfold F3 dL;rw[e];show(if(L.map λl=>D.int (l.length:Int)).length<60 then _ else none)=_
  rw[if_pos (by rw[ae];exact hn),show(L.map λl=>D.int (l.length:Int))=(L.map λl=>(l.length:Int)).map D.int by rw[aW];rfl,ij]
  rfl
 .exact⟨(L.map vc).length,LW.eh rfl rfl⟩
def RF (L:cp) (m y:cq):(hJ L m y).length<=L.length:=by
 unfold hJ Q6;refine aE (aX _ _) ?_;rw[(fZ _).length_eq];refine aE (yu _ _ (av _)) ?_;unfold gw;rw[ae];exact aX _ _
def Ud (hF:qu G) (p:eK G.Cf m y) (hh:h=0\/h=1) (hc:c∈G.cY m y h):∃i,B7 (jc (dG G f)) (vc m) (vc y) (.int h) (vc c)=some (.int i):=by
 have AQ:=hF.AQ;obtain⟨i,hi⟩:=W8 (L:=hJ G.ls (df m y h c).1 (df m y h c).2) (by have:=RF G.ls (df m y h c).1 (df m y h c).2;omega) hh
 refine⟨i,?_⟩;have e1:jZ (dG G f) [cJ c,.n,cJ m,cJ y,cI h,.m []]=some (.next [cJ c,.d (.t [vc (df m y h c).1,vc (df m y h c).2]),cJ m,cJ y,cI h,.m []]):=by
  unfold jZ;rw[fA ((di rfl).trans (vC hF.ok p hc))];rfl
 have ko:cV fB (cM (dB fX (dB fX (lB (dG G f) 5) (dC (.int 0))) (dC (.int 1))) (cM (dB fX (dg 1) (dC (.int 0))) (cM (dB fX (dg 1) (dC (.int 1))) cS))) [cJ c,.d (.t [vc (df m y h c).1,vc (df m y h c).2]),cJ m,cJ y,cI h,.m []]=some (.t ((hJ G.ls (df m y h c).1 (df m y h c).2).map vc)):=(di rfl).trans (KJ (.inl rfl) hF.AQ hF.ok.ll);have e2:jc (dG G f) (d0 (vc c) (vc m) (vc y) (.int h))=some (.ret (.int i)):=by
  unfold jc d0;rw[LW.cR e1];exact eV ((di (iF ko rfl)).trans hi)
 unfold B7;rw[e2]
def MC (G:Gm) (m y:cq) (h:Int) (c:cq):Bool:=decide (G.gA (df m y h c).1 (df m y h c).2 (1-h)=h)
theorem EY (hF:qu G) (p:eK G.Cf m y) (hh:h=0\/h=1) {L:cp}(hL:∀c∈L,c∈G.cY m y h):∀(n k:Nat),(∃j c,k<=j/\L[j]? =some c/\MC G m y h c=true)->L.length-k<n->
  ∃(j:Nat) (c:cq),L[j]? =some c/\MC G m y h c=true/\BU n (kN (qB (gj 0 (dG G f) rg (cM (cO 1) (cM (cO 2) (cM (cO 3) (cM (dB fX (dg 5) (dg 6)) cS))))))) (pW (dG G f)) [.m [],cJ m,cJ y,cI h,.n,.d (.l (L.map vc)),cI (k:Nat)]=
   some (.next [.m [],cJ m,cJ y,cI h,.n,.d (.l (L.map vc)),cI (j:Nat)])
 |0,k,_,h=>by omega
 |n+1,k,⟨j,c,XD,hj,hg⟩,hn=>by
  have Xp:=(List.getElem?_eq_some_iff.mp hj).1;have hk:k<L.length:=by omega
  have DG:L[k]∈L:=getElem_mem hk;have hix:dB fX (dg 5) (dg 6) [.m [],cJ m,cJ y,cI h,.n,.d (.l (L.map vc)),cI (k:Nat)]=some (vc L[k]):=by
   show nX (L.map vc) (k:Int)=_;exact L2.xq (by rw[aw,ah hk];rfl)
  have q:kN (qB (gj 0 (dG G f) rg (cM (cO 1) (cM (cO 2) (cM (cO 3) (cM (dB fX (dg 5) (dg 6)) cS)))))) [.m [],cJ m,cJ y,cI h,.n,.d (.l (L.map vc)),cI (k:Nat)]=some (!MC G m y h L[k]):=by
   refine nR (fQ ?_);show(cM _ _ _).bind _=_;rw[iF rfl (iF rfl (iF rfl (pP hix)))];exact NR hF p hh (hL _ DG)
  cases hb:MC G m y h L[k]with
  |true=>
   rw[hb]at q;refine⟨k,L[k],ah hk,hb,?_⟩;unfold BU um;rw[q];rfl
  |false=>
   rw[hb]at q;have acR:k+1<=j:=by
    rcases Nat.lt_or_ge k j with z|z
    .exact z
    .have:k=j:=by omega
     subst this;rw[ah hk]at hj;cases hj;rw[hb]at hg;cases hg
   obtain⟨j',c',h1,h2,h3⟩:=EY hF p hh hL n (k+1) ⟨j,c,acR,hj,hg⟩ (by omega)
   refine⟨j',c',h1,h2,?_⟩;unfold BU um;rw[q];exact h3
def rF (hG:G.Ok) (h5:G.Cf<=5) (m y:cq) (hw:w=0\/w=1):(G.cY m y w).length<=32/\(G.free m y).length<=5:=by
 have b1:=hG.b1;have g1:=hG.g1;have h4:=n9 G.Cf m y;have hk:0<=(if w=0 then G.b else G.g):=by split<;>omega
 have h6:(G.free m y).length<=5:=by show(fN G.Cf m y).length<=5;omega
 refine⟨?_,h6⟩;unfold Gm.cY;rw[Cr hk];have h1:=HY (c:=(if w=0 then G.b else G.g).toNat) (ps:=fN G.Cf m y)
 have h2:2^(fN G.Cf m y).length<=2^5:=Nat.pow_le_pow_right (by decide) h6
 have:(2:Nat)^5=32:=by decide
 omega
def RG (hF:qu G) (h5:G.Cf<=5) (p:eK G.Cf m y) (hh:h=0\/h=1) (ho:G.over m y=none) (ym:G.gA m y h=h):
  ∃c∈G.cY m y h,G.gA (df m y h c).1 (df m y h c).2 (1-h)=h/\o6 [dG G f,vc m,vc y,.int h]=some (vc c):=by
 obtain⟨c0,hc0,hw0⟩:=(Gq hF.ok p hh ho).mp ym;have h32:=(rF hF.ok h5 m y hh).1;obtain⟨ks,hks⟩:=MA (g:=B7 (jc (dG G f)) (vc m) (vc y) (.int h)) (G.cY m y h) λc hc=>Ud hF p hh hc
 obtain⟨L,pm,hL⟩:=Uc ks (G.cY m y h);obtain⟨j0,hj0⟩:=bp (pm.mem_iff.mpr hc0);obtain⟨j,c,hj,hg,hl⟩:=EY (f:=f) hF p hh (L:=L) (λc hc=>pm.mem_iff.mp hc) 40 0 ⟨j0,c0,bM _,hj0,aS hw0⟩ (by have:=pm.length_eq;omega)
 refine⟨c,pm.mem_iff.mp (bj hj),bL hg,ji rfl ?_⟩;show kG (dG G f) [.m [],cJ m,cJ y,cI h,.n,.n,.n]=_;unfold kG;rw[RE ((di rfl).trans (vB hF.ok p hh)) (by rw[ae];exact length_pos_of_mem hc0) (by rw[ae];omega) hks,hL]
 show dP (l8 (dG G f)) _ [.m [],cJ m,cJ y,cI h,.n,.d (.l (L.map vc)),.n]=_;rw[LW.cR (show l8 (dG G f) [.m [],cJ m,cJ y,cI h,.n,.d (.l (L.map vc)),.n]=some (.next [.m [],cJ m,cJ y,cI h,.n,.d (.l (L.map vc)),cI ((0:Nat):Int)])from rfl)]
 unfold rj;rw[LW.cR hl];refine eV ?_;show nX (L.map vc) (j:Int)=_;exact L2.xq (by rw[aw,hj];rfl)
end
theorem IP {α:Type}{φ:α->D}{P:α->D->Prop}:∀(l:List α),(∀a∈l,∃t,f (U.set j (.d (φ a)))=some t/\P a t)->∃ts,i8 j kO f U (l.map φ)=some ts/\ts.length=l.length/\(∀q∈l.zip ts,P q.1 q.2)/\∀t∈ts,∃a,P a t
 |[],_=>⟨[],rfl,rfl,(λq hq=>by cases hq),λt ht=>by cases ht⟩
 |a::l,h=>by
  obtain⟨t,ht,hp⟩:=h a (.head _);obtain⟨ts,e,hl,h1,h2⟩:=IP l λx hx=>h x (.tail _ hx)
  refine⟨t::ts,?_,congrArg (·+1) hl,λq hq=>?_,λx hx=>?_⟩
  .rw[aG];unfold i8;have e0:kO (U.set j (.d (φ a)))=some true:=rfl;simp only[e0,ht,aq,e,bC]
  .rcases mem_cons.mp hq with rfl|hq
   .exact hp
   .exact h1 q hq
  .rcases mem_cons.mp hx with rfl|hx
   .exact⟨a,hp⟩
   .exact h2 x hx
def acS (n:Nat):iO (n+1)=i9 7 5 (λG=>gG G (eC n)):=by rw[iO]
def Z3 (n:Nat):eC (n+1)=i9 7 6 (λG=>iG G (iO n)):=by rw[eC]
section
variable {m:cq}
def CQ (hG:G.Ok) (p:eK G.Cf m y) (hw:w=0\/w=1) (hc:c∈G.cY m y w) (hr:rf [dG G f,.int h,vc (df m y w c).1,vc (df m y w c).2,.int (1-w)]=some t):i9 7 6 (λG=>iG G rf) [dG G f,.int h,vc m,vc y,.int w,vc c]=some t:=by
 refine ji rfl ?_;show iG (dG G f) rf [.m [],cI h,cJ m,cJ y,cI w,cJ c,.n]=_;have e1:m6 (dG G f) rf [.m [],cI h,cJ m,cJ y,cI w,cJ c,.n]=some (.next [.m [],cI h,cJ m,cJ y,cI w,cJ c,.d (.t [vc (df m y w c).1,vc (df m y w c).2])]):=by
  unfold m6;rw[fA ((di rfl).trans (vC hG p hc))];rfl
 unfold iG;rw[LW.cR e1];unfold tT;refine eV ?_;have kh:cV dZ (cM (cO 4) cS) [.m [],cI h,cJ m,cJ y,cI w,cJ c,.d (.t [vc (df m y w c).1,vc (df m y w c).2])]=some (.int (1-w)):=(di rfl).trans (vA hw);show(cM _ _ _).bind _=_;rw[iF rfl (iF (x:=vc (df m y w c).1) rfl (iF (x:=vc (df m y w c).2) rfl (pP kh)))];exact hr
theorem uQ (hF:qu G) (h5:G.Cf<=5) (hh:h=0\/h=1):∀(n:Nat) (m y:cq) (w:Int),eK G.Cf m y->(w=0\/w=1)->G.gA m y w=h->(G.free m y).length<n->
  ∃t,iO (2*n) [dG G f,.int h,vc m,vc y,.int w]=some t/\jf G h n m y w t=true/\uO 32 (n+1) t=true
 |0,_,_,_,_,_,_,hn=>by omega
 |n+1,m,y,w,p,hw,ym,hn=>by
  have hG:=hF.ok;have AQ:=hF.AQ;rw[show 2*(n+1)=2*n+1+1 by omega,acS]
  have kd:cV lX (cM (lB (dG G f) 0) (cM (cO 2) (cM (cO 3) cS))) [.m [],cI h,cJ m,cJ y,cI w,.n,.n]=some (Cd (G.over m y)):=(di rfl).trans (ET (by omega) hG.ll)
  have q2:=gC (o:=Dy) (g:=dC .eZ) (y:=.eZ) kd rfl;cases ho:G.over m y with
  |some o=>
   refine⟨.t [],ji rfl ?_,?_,rfl⟩
   .show gG (dG G f) (eC (2*n+1)) [.m [],cI h,cJ m,cJ y,cI w,.n,.n]=_;unfold gG;rw[eP ?_];unfold mn;rw[jm (fQ (q2.trans (by rw[ho];rfl)))]
    rfl
   .rw[o7,ho];show(decide (o=h)&&true)=true;rw[lD hG p ho]at ym;rw[aS ym];rfl
  |none=>
   have e2:mn (dG G f) (eC (2*n+1)) [.m [],cI h,cJ m,cJ y,cI w,.n,.n]=some (.next [.m [],cI h,cJ m,cJ y,cI w,.n,.n]):=by
    unfold mn;rw[jn (fQ (q2.trans (by rw[ho];rfl)))]
    rfl
   have q5:qB (dB nF (dg 4) (dg 1)) [.m [],cI h,cJ m,cJ y,cI w,.n,.n]=some (decide (w=h)):=fQ (kF w h);obtain⟨h32,hf5⟩:=rF hG h5 m y hw;by_cases e:w=h
   .rw[aS e]at q5;have Z4:G.gA m y h=h:=by rw[e]at ym;exact ym
    obtain⟨c,hc,hcw,ec⟩:=RG (f:=f) hF h5 p hh ho Z4;obtain⟨t,et,tb,ts⟩:=uQ hF h5 hh n _ _ (1-h) (gz p hc) (by omega) hcw (uP hG p ho hc hn)
    refine⟨.t [vc c,t],ji rfl ?_,?_,CN (show 2<=32 by decide) λd hd=>?_⟩
    .show gG (dG G f) (eC (2*n+1)) [.m [],cI h,cJ m,cJ y,cI w,.n,.n]=_;unfold gG;rw[LW.cR e2,eP ?_];unfold mq;rw[jm q5];rw[LW.cR (show we (dG G f) (eC (2*n+1)) [.m [],cI h,cJ m,cJ y,cI w,.n,.n]=some (.next [.m [],cI h,cJ m,cJ y,cI w,cJ c,.n])from fA ec)]
     have kb:gj 0 (dG G f) (eC (2*n+1)) (cM (cO 1) (cM (cO 2) (cM (cO 3) (cM (cO 4) (cM (cO 5) cS))))) [.m [],cI h,cJ m,cJ y,cI w,cJ c,.n]=some t:=by
      show eC (2*n+1) [dG G f,.int h,vc m,vc y,.int w,vc c]=_;rw[e,Z3];exact CQ hG p hh hc et
     unfold wg;refine eV ?_;show(cM _ _ _).bind _=_;rw[iF (x:=vc c) rfl (pP kb)];rfl
    .rw[o7,ho,if_pos e];show IL (G.cY m y w) _ (.t [vc c,t])=true;show(match jR (vc c)with|some c=>decide (c∈G.cY m y w)&&jf G h n (df m y w c).1 (df m y w c).2 (1-w) t|none=>false)=true
     rw[yF];show(decide (c∈G.cY m y w)&&jf G h n (df m y w c).1 (df m y w c).2 (1-w) t)=true;rw[e,aS hc,tb];rfl
    .rcases mem_cons.mp hd with rfl|hd
     .have:=mK p hc;exact Mx (by omega)
     .rw[bw.mp hd];exact ts
   .rw[aI e]at q5;have e':h=1-w:=by omega
    have yU:=(EX hG p hw ho).mp (ym.trans e');have e5:mq (dG G f) (eC (2*n+1)) [.m [],cI h,cJ m,cJ y,cI w,.n,.n]=some (.next [.m [],cI h,cJ m,cJ y,cI w,.n,.n]):=by
     unfold mq;rw[jn q5];rfl
    obtain⟨ts,ets,tl,tz,tm⟩:=IP (j:=5) (f:=gj 0 (dG G f) (eC (2*n+1)) (cM (cO 1) (cM (cO 2) (cM (cO 3) (cM (cO 4) (cM (cO 5) cS)))))) (U:=[.m [],cI h,cJ m,cJ y,cI w,.n,.d (.t ((G.cY m y w).map vc))]) (φ:=vc) (P:=λc t=>jf G h n (df m y w c).1 (df m y w c).2 (1-w) t=true/\uO 32 (n+1) t=true) (G.cY m y w) λc hc=>by
     obtain⟨t,et,tb,ts⟩:=uQ hF h5 hh n _ _ (1-w) (gz p hc) (by omega) ((yU c hc).trans e'.symm) (uP hG p ho hc hn)
     exact⟨t,by show eC (2*n+1) [dG G f,.int h,vc m,vc y,.int w,vc c]=_;rw[Z3];exact CQ hG p hw hc et,tb,ts⟩
    refine⟨.t ts,ji rfl ?_,?_,CN (by omega) λd hd=>(tm d hd).choose_spec.2⟩
    .show gG (dG G f) (eC (2*n+1)) [.m [],cI h,cJ m,cJ y,cI w,.n,.n]=_;unfold gG;rw[LW.cR e2,LW.cR e5];rw[LW.cR (show wj (dG G f) (eC (2*n+1)) [.m [],cI h,cJ m,cJ y,cI w,.n,.n]=some (.next [.m [],cI h,cJ m,cJ y,cI w,.n,.d (.t ((G.cY m y w).map vc))])from fA ((di rfl).trans (vB hG p hw)))]
     exact eV ((mV (kE rfl (by rw[ae];omega) ets)).trans rfl)
    .rw[o7,ho,if_neg e];show(decide (ts.length=(G.cY m y w).length)&&((G.cY m y w).zip ts).all λp=>jf G h n (df m y w p.1).1 (df m y w p.1).2 (1-w) p.2)=true
     rw[aS tl,Bool.true_and];exact all_eq_true.mpr λq hq=>(tz q hq).1
def KY (hF:qu G) (h5:G.Cf<=5) (hf:f=0\/f=1):∃t,sL [dG G f]=some (.t [.int (G.gA [] [] f),t])/\jf G (G.gA [] [] f) 7 [] [] f t=true/\uO 32 8 t=true:=by
 have hG:=hF.ok;have hh:=jY hG (iW G.Cf) hf;have:=(rF hG h5 [] [] hf).2;obtain⟨t,et,tb,ts⟩:=uQ (f:=f) hF h5 hh 7 [] [] f (iW _) hf rfl (by omega)
 refine⟨t,LW.eh rfl ?_,tb,ts⟩;show(if noOwn [jD G f,.n,.n]=true/\1<3 then(some (dG G f)).bind λGd=>(kj Gd [jD G f,.m [],.n]).bind (DE 1)else none)=_
 rw[if_pos ⟨rfl,by decide⟩]
 have e1:yz (dG G f) [jD G f,.m [],.n]=some (.next [jD G f,.m [],cI (G.gA [] [] f)]):=fA (Az hF (iW _) hf);have e2:kj (dG G f) [jD G f,.m [],.n]=some (.ret (.t [.int (G.gA [] [] f),t])):=by
  unfold kj;rw[LW.cR e1];unfold yA;refine eV ?_;show(cM _ _ _).bind _=_;rw[iF (x:=.int (G.gA [] [] f)) rfl (pP (x:=t) et)];rfl
 simp only[aq];rw[e2];rfl
end
def RH (ds:cw) {i:Nat}(h:i<=ds.length):t7 ds none (some (i:Int))=ds.take i:=by
 unfold t7;have e:HT.i6 ds.length ds.length (some (i:Int))=i:=(HT.Lh _ _ _).trans (Nat.min_eq_left h);have e0:HT.i6 ds.length 0 none=0:=rfl;rw[e,e0,drop_zero,Nat.sub_zero]
def W9 (ds:cw) {i:Nat}(h:i<=ds.length):t7 ds (some (i:Int)) none=ds.drop i:=by
 unfold t7;have e:HT.i6 ds.length 0 (some (i:Int))=i:=(HT.Lh _ _ _).trans (Nat.min_eq_left h);have e0:HT.i6 ds.length ds.length none=ds.length:=rfl;rw[e,e0,take_of_length_le (by rw[length_drop];omega)]
def Xa {i:Nat}(h:i<ds.length):fX (.t ds) (.int (i:Int))=some ds[i]:=L2.xq (ah h)
def Bf (h:a.length+b.length<=1000000):j6 (.t a) (.t b)=some (.t (a++b)):=by
 show(if a.length+b.length<=1000000 then _ else none)=_
 rw[if_pos h]
def Gu {f:cc}{l u:fW->Option (Option Int)}{U:fW}{ds:cw}{a b:Option Int}(hf:f U=some (.t ds)) (hl:l U=some a) (hu:u U=some b):t8 f l u U=some (.t (t7 ds a b)):=by
 unfold t8;rw[hf];show(l U).bind _=_;rw[hl];show(u U).map _=_;rw[hu];rfl
def acT (h0:0<=i) (h3:i<3):∃x∈[a,b,c],nX [a,b,c] i=some x:=by
 have:i=0\/i=1\/i=2:=by omega
 rcases this with rfl|rfl|rfl
 .exact⟨a,by simp,rfl⟩
 .exact⟨b,by simp,rfl⟩
 .exact⟨c,by simp,rfl⟩
noncomputable def EZ:cw:=[.eZ,.t [.t []],.l [],.int 0,.str "tree"]
def Ue (c:Int):∃x∈EZ,nX EZ (c%5)=some x:=by
 have h0:=Int.emod_nonneg c (show(5:Int)≠0 by decide)
 have h1:=Int.emod_lt_of_pos c (show(0:Int)<5 by decide)
 generalize c%5=i at *;have:i=0\/i=1\/i=2\/i=3\/i=4:=by omega
 unfold EZ;rcases this with rfl|rfl|rfl|rfl|rfl
 .exact⟨_,.head _,rfl⟩
 .exact⟨_,.tail _ (.head _),rfl⟩
 .exact⟨_,.tail _ (.tail _ (.head _)),rfl⟩
 .exact⟨_,.tail _ (.tail _ (.tail _ (.head _))),rfl⟩
 .exact⟨_,.tail _ (.tail _ (.tail _ (.tail _ (.head _)))),rfl⟩
def Ug (h:x∈EZ):uO 33 (k+2) x=true:=by
 unfold EZ at h;simp only[mem_cons,bJ,or_false]at h;rcases h with rfl|rfl|rfl|rfl|rfl<;>rfl
def Uh (h:∀x y,d≠.t (x::y)):∃x∈EZ,gF 4 2 (fO rc) [d,.int c]=some x:=by
 obtain⟨x,hx,e⟩:=Ue c;refine⟨x,hx,LW.eh rfl ?_⟩;show fO rc [.d d,cI c,.n,.n]=_;unfold fO;rw[eP ?_];unfold m7;rw[jm ?_]
 .exact eV e
 .cases d with
  |t ds=>
   cases ds with
   |nil=>rfl
   |cons a r=>exact absurd rfl (h a r)
  |_=>rfl
theorem IQ:∀(n k:Nat) (d:D) (c:Int),uO 32 k d=true->k<n->∃e,eW n [d,.int c]=some e/\uO 33 (k+2) e=true
 |0,_,_,_,_,h=>by omega
 |n+1,k,d,c,hs,hk=>by
  by_cases hd:∃x r,d=.t (x::r)
  .obtain⟨x,r,rfl⟩:=hd;obtain⟨k',rfl,hl,hm⟩:=wU hs;generalize MU:x::r=ds at hs hl hm;have Nl:0<ds.length:=by rw[<-MU];exact Nat.succ_pos _
   have a0:=Int.emod_nonneg c (show(ds.length:Int)≠0 by omega)
   have a1:=Int.emod_lt_of_pos c (show(0:Int)<ds.length by omega)
   obtain⟨i,hi⟩:∃i:Nat,c%(ds.length:Int)=i:=⟨(c%(ds.length:Int)).toNat,by omega⟩
   have hil:i<ds.length:=by omega
   have b0:=Int.emod_nonneg (c/8) (show(6:Int)≠0 by decide)
   have b1:=Int.emod_lt_of_pos (c/8) (show(0:Int)<6 by decide)
   generalize hw:c/8%6=wy at b0 b1;obtain⟨e',XA,Du⟩:=IQ n k' ds[i] (c/64) (hm _ (getElem_mem hil)) (by omega)
   have mono:∀d∈ds,uO 33 (k'+2) d=true:=λd hd=>yG (by decide) (by omega) (hm d hd)
   have e2:m7 (eW n) [.d (.t ds),cI c,.n,.n]=some (.next [.d (.t ds),cI c,.n,.n]):=by rw[<-MU];rfl
   have e3:tV (eW n) [.d (.t ds),cI c,.n,.n]=some (.next [.d (.t ds),cI c,cI (i:Nat),.n]):=by
    refine fA ?_;show(if decide (0<(ds.length:Int))=true then some (D.int (c%(ds.length:Int)))else none)=_
    rw[if_pos (aS (by omega)),hi]
   have e4:tW (eW n) [.d (.t ds),cI c,cI (i:Nat),.n]=some (.next [.d (.t ds),cI c,cI (i:Nat),cI wy]):=by
    refine fA ?_;show some (D.int (c/8%6))=_;rw[hw]
   have q6:qB (dB ltD (dg 3) (dC (.int 3))) [.d (.t ds),cI c,cI (i:Nat),cI wy]=some (decide (wy<3)):=fQ rfl;have t1:t8 (dg 0) Hd (pJ (dg 2)) [.d (.t ds),cI c,cI (i:Nat),cI wy]=some (.t (ds.take i)):=(Gu (ds:=ds) (a:=none) (b:=some (i:Int)) rfl rfl rfl).trans (by rw[RH ds (by omega)])
   have t2:t8 (dg 0) (pJ (dB jW (dg 2) (dC (.int 1)))) Hd [.d (.t ds),cI c,cI (i:Nat),cI wy]=some (.t (ds.drop (i+1))):=(Gu (ds:=ds) (a:=some ((i+1:Nat):Int)) (b:=none) rfl rfl rfl).trans (by rw[W9 ds (by omega)])
   have lt:(ds.take i).length<=32:=by rw[bK];omega
   have ld:(ds.drop (i+1)).length+i+1=ds.length:=by rw[length_drop];omega
   have lt':(ds.take i).length=i:=by rw[bK];omega
   by_cases h3:wy<3
   .rw[aS h3]at q6;have t3:fy (cM (cV (eW n) (cM (dB fX (dg 0) (dg 2)) (cM (dB JJ (dg 1) (dC (.int 64))) cS))) cS) [.d (.t ds),cI c,cI (i:Nat),cI wy]=some (.t [e']):=by
     show(cM _ _ _).bind _=_;rw[pP ((di (iF (x:=ds[i]) (Xa hil) (pP (x:=.int (c/64)) rfl))).trans XA)];rfl
    refine⟨.t (ds.take i++[e']++ds.drop (i+1)),LW.eh rfl ?_,CN (by simp only[aR,length_singleton];omega) λd hd=>?_⟩
    .show fO (eW n) [.d (.t ds),cI c,.n,.n]=_;unfold fO;rw[LW.cR e2,LW.cR e3,LW.cR e4,eP ?_];unfold kI;rw[jm q6];refine eV ((gC (o:=j6) ((gC (o:=j6) t1 t3).trans (Bf (by rw[length_singleton];omega))) t2).trans (Bf (by rw[aR,length_singleton];omega)))
    .rcases mem_append.mp hd with hd|hd
     .rcases mem_append.mp hd with hd|hd
      .exact mono d (mem_of_mem_take hd)
      .rw[bw.mp hd];exact Du
     .exact mono d (mem_of_mem_drop hd)
   .rw[aI h3]at q6;obtain⟨z,hz,ez⟩:=acT (a:=D.t (ds.take i++ds.drop (i+1))) (b:=.t (ds++ds.take 1)) (c:=.t ds.reverse) (i:=wy-3) (by omega) (by omega)
    refine⟨z,LW.eh rfl ?_,?_⟩
    .show fO (eW n) [.d (.t ds),cI c,.n,.n]=_;unfold fO;rw[LW.cR e2,LW.cR e3,LW.cR e4,LW.cR (show kI (eW n) [.d (.t ds),cI c,cI (i:Nat),cI wy]=some (.next [.d (.t ds),cI c,cI (i:Nat),cI wy]) by unfold kI;rw[jn q6];rfl)]
     unfold tX;have t4:t8 (dg 0) Hd (pJ (dC (.int 1))) [.d (.t ds),cI c,cI (i:Nat),cI wy]=some (.t (ds.take 1)):=(Gu (ds:=ds) (a:=none) (b:=some ((1:Nat):Int)) rfl rfl rfl).trans (by rw[RH ds (by omega)])
     have l3:dL (BE (cM (dB j6 (t8 (dg 0) Hd (pJ (dg 2))) (t8 (dg 0) (pJ (dB jW (dg 2) (dC (.int 1)))) Hd)) (cM (dB j6 (dg 0) (t8 (dg 0) Hd (pJ (dC (.int 1))))) (cM (LK (dg 0)) cS)))) [.d (.t ds),cI c,cI (i:Nat),cI wy]=some (.l [.t (ds.take i++ds.drop (i+1)),.t (ds++ds.take 1),.t ds.reverse]):=by
      unfold dL BE;rw[iF ((gC (o:=j6) t1 t2).trans (Bf (by omega))) (iF ((gC (o:=j6) (x:=.t ds) rfl t4).trans (Bf (by rw[bK];omega))) (pP (x:=.t ds.reverse) rfl))]
      rfl
     exact eV ((gC (o:=fX) l3 (y:=.int (wy-3)) rfl).trans ez)
    .simp only[mem_cons,bJ,or_false]at hz;rcases hz with rfl|rfl|rfl
     .refine CN (by rw[aR];omega) λd hd=>mono d ?_
      rcases mem_append.mp hd with hd|hd
      .exact mem_of_mem_take hd
      .exact mem_of_mem_drop hd
     .refine CN (by rw[aR,bK];omega) λd hd=>mono d ?_
      rcases mem_append.mp hd with hd|hd
      .exact hd
      .exact mem_of_mem_take hd
     .exact CN (by rw[length_reverse];omega) λd hd=>mono d (mem_reverse.mp hd)
  .obtain⟨x,hx,e⟩:=Uh (rc:=eW n) (d:=d) (c:=c) λx r z=>hd ⟨x,r,z⟩
   exact⟨x,e,Ug hx⟩
def IS (ns:cq) (lo hi:Option Int):∃L:cq,t7 (ns.map D.int) lo hi=L.map D.int:=⟨_,by unfold t7;rw[<-map_drop,<-map_take]⟩
section
variable {T Mo:Sl}
def E1 (hF:qu G) (h5:G.Cf<=5) (hf:f=0\/f=1) (hk:k<=30) (hs:uO 40 k d=true) (hh:s=0\/s=1):∃b:Bool,
  rC [S,C,jD G f,T,Hs,Mo,.d d,cI s,x8,x9]=some (.next [S,C,jD G f,T,Hs,Mo,.d d,cI s,.d (.bl b),.d (.bl b)]):=by
 have hG:=hF.ok;refine⟨jf G s 7 [] [] f d,?_⟩;unfold rC;rw[LW.cR (show IF [S,C,jD G f,T,Hs,Mo,.d d,cI s,x8,x9]=some (.next [S,C,jD G f,T,Hs,Mo,.d d,cI s,.d (.bl (jf G s 7 [] [] f d)),x9])from fA ((di rfl).trans (zN hG hF.AQ h5 hh hf hk hs)))]
 rw[LW.cR (show IG [S,C,jD G f,T,Hs,Mo,.d d,cI s,.d (.bl (jf G s 7 [] [] f d)),x9]=some (.next [S,C,jD G f,T,Hs,Mo,.d d,cI s,.d (.bl (jf G s 7 [] [] f d)),.d (.bl (jf G s 7 [] [] f d))])from fA ((di (ds:=[dG G f,vc [],vc [],.int f,.int s,d]) rfl).trans (wV hG hh 7 [] [] f d k (iW _) hf (by have:=(rF hG h5 [] [] hf).2;omega) hs)))]
 unfold IH;rw[jn (CG rfl (fQ (Iq (x:=.bl (jf G s 7 [] [] f d)) (by unfold eN;omega))))]
 rfl
def NS (hF:qu G) (h5:G.Cf<=5) (hf:f=0\/f=1) (ht:uO 32 8 t=true) (c:Int):∃z6 z7 z8 z9,
  rD [S,C,jD G f,.d (.t [.int h,t]),Hs,cI c,x6,x7,x8,x9]=some (.next [S,C,jD G f,.d (.t [.int h,t]),Hs,cI c,z6,z7,z8,z9]):=by
 obtain⟨e,he,hs⟩:=IQ 14 8 t c ht (by decide)
 have Du:uO 40 10 e=true:=yG (by decide) (by decide) hs
 obtain⟨b0,e0⟩:=E1 (S:=S) (C:=C) (T:=.d (.t [.int h,t])) (Hs:=Hs) (Mo:=cI c) hF h5 hf (by decide) Du (s:=0) (.inl rfl) (x8:=x8) (x9:=x9)
 obtain⟨b1,e1⟩:=E1 (S:=S) (C:=C) (T:=.d (.t [.int h,t])) (Hs:=Hs) (Mo:=cI c) hF h5 hf (by decide) Du (s:=1) (.inr rfl) (x8:=.d (.bl b0)) (x9:=.d (.bl b0))
 refine⟨.d e,cI 1,.d (.bl b1),.d (.bl b1),?_⟩;unfold rD;rw[LW.cR (show IE [S,C,jD G f,.d (.t [.int h,t]),Hs,cI c,x6,x7,x8,x9]=some (.next [S,C,jD G f,.d (.t [.int h,t]),Hs,cI c,.d e,x7,x8,x9])from fA ((di (ds:=[t,.int c]) rfl).trans he))]
 refine vz (ds:=[.int 0,.int 1]) rfl ?_;rw[l4 (j:=7) (f:=rC) (d:=.int 0) (U:=[S,C,jD G f,.d (.t [.int h,t]),Hs,cI c,.d e,x7,x8,x9]) e0,l4 (j:=7) (f:=rC) (d:=.int 1) (U:=[S,C,jD G f,.d (.t [.int h,t]),Hs,cI c,.d e,cI 0,.d (.bl b0),.d (.bl b0)]) e1];rfl
theorem E2 (hF:qu G) (h5:G.Cf<=5) (hf:f=0\/f=1) (ht:uO 32 8 t=true):∀(cs:cq) (x5 x6 x7 x8 x9:Sl),∃z5 z6 z7 z8 z9,
  gL 5 rD (cs.map D.int) [S,C,jD G f,.d (.t [.int h,t]),Hs,x5,x6,x7,x8,x9]=some (.next [S,C,jD G f,.d (.t [.int h,t]),Hs,z5,z6,z7,z8,z9])
 |[],x5,x6,x7,x8,x9=>⟨x5,x6,x7,x8,x9,rfl⟩
 |c::cs,x5,x6,x7,x8,x9=>by
  obtain⟨z6,z7,z8,z9,e⟩:=NS (S:=S) (C:=C) (h:=h) (Hs:=Hs) hF h5 hf ht c (x6:=x6) (x7:=x7) (x8:=x8) (x9:=x9);obtain⟨w5,w6,w7,w8,w9,ih⟩:=E2 hF h5 hf ht cs (cI c) z6 z7 z8 z9;exact⟨w5,w6,w7,w8,w9,by rw[aG,l4 (j:=5) (f:=rD) (d:=.int c) (U:=[S,C,jD G f,.d (.t [.int h,t]),Hs,x5,x6,x7,x8,x9]) e,ih]⟩
end
def RI (ns:cq) (c:Int) (x2 x3 x4 x5 x6 x7 x8 x9:Sl):∃z2 z3 z4 z5 z6 z7 z8 z9,
  rE [.d (.l (ns.map D.int)),cI c,x2,x3,x4,x5,x6,x7,x8,x9]=some (.next [.d (.l (ns.map D.int)),cI c,z2,z3,z4,z5,z6,z7,z8,z9]):=by
 have hz:(4:Int)+(if decide (c%4=0)then 1 else 0)<=5/\4<=(4:Int)+(if decide (c%4=0)then 1 else 0):=by split<;>omega
 obtain⟨Cf,ls,f,b,g,e,_,ok⟩:=LW.WV (c:=c) (least:=1) (most:=4+(if decide (c%4=0)then 1 else 0)) (lines:=5) (by omega) (by omega) (by omega) (by omega) (by omega)
 have h1:=ok.field.lo;have h6:=ok.field.hi;have hn:=ok.field.num;have b1:=ok.b1;have b2:=ok.b2;have g1:=ok.g1;have g2:=ok.g2;have f0:=ok.f0;have f1:=ok.f1;have hF:qu ⟨Cf,ls,b,g⟩:=⟨⟨by show 0<=Cf;omega,by show Cf<=9;omega,λl hl=>(ok.field.line l hl).inn,λl hl=>by have:=(ok.field.line l hl).four;omega,b1,by show b<=4;omega,g1,by show g<=4;omega⟩,by show ls.length<=18;omega,λl hl=>(ok.field.line l hl).rise⟩
 have e1:Gj [.d (.l (ns.map D.int)),cI c,x2,x3,x4,x5,x6,x7,x8,x9]=some (.next [.d (.l (ns.map D.int)),cI c,.d (dG ⟨Cf,ls,b,g⟩ f),x3,x4,x5,x6,x7,x8,x9]):=by
  have em:dB vI (dg 1) (dC (.int 4)) [.d (.l (ns.map D.int)),cI c,x2,x3,x4,x5,x6,x7,x8,x9]=some (.int (c%4)):=by
   simp[dB,dg,dC,vI,Lo,G9]
  have ei:cV LI (cM (dB nF (dB vI (dg 1) (dC (.int 4))) (dC (.int 0))) cS) [.d (.l (ns.map D.int)),cI c,x2,x3,x4,x5,x6,x7,x8,x9]=some (.int (if decide (c%4=0)then 1 else 0)):=(di (pP ((gC em (y:=.int 0) rfl).trans (kF _ 0)))).trans rfl
  unfold Gj;exact fA ((di (iF (x:=.int c) rfl (iF (x:=.int 1) rfl (iF (x:=.int (4+(if decide (c%4=0)then 1 else 0))) ((gC (x:=.int 4) rfl ei).trans rfl) (pP (x:=.int 5) rfl))))).trans e)
 have h5:(⟨Cf,ls,b,g⟩:Gm).Cf<=5:=by show Cf<=5;omega
 have hf:f=0\/f=1:=by omega
 generalize (⟨Cf,ls,b,g⟩:Gm)=G at hF e1 h5;have hG:=hF.ok;have hw:=jY hG (iW G.Cf) hf;have N3:=(rF hG h5 [] [] hf).2;obtain⟨t,et,tb,ts⟩:=KY (f:=f) hF h5 hf;have LA:uO 40 8 t=true:=yG (by decide) (av _) ts
 generalize hwv:G.gA [] [] f=v at hw et tb;have ef:jf G (1-v) 7 [] [] f t=false:=by
  cases hb:jf G (1-v) 7 [] [] f t with
  |false=>rfl
  |true=>
   have:=wR hG (by omega) 7 [] [] f t (iW _) hf hb
   omega
 obtain⟨L,eL⟩:=IS ns (some 3) (some 9);obtain⟨z5,z6,z7,z8,z9,el⟩:=E2 (S:=.d (.l (ns.map D.int))) (C:=cI c) (h:=v) (Hs:=cI v) hF h5 hf ts L x5 x6 x7 x8 x9;refine⟨.d (dG G f),.d (.t [.int v,t]),cI v,z5,z6,z7,z8,z9,?_⟩;unfold rE;rw[LW.cR e1];rw[LW.cR (show Mu [.d (.l (ns.map D.int)),cI c,jD G f,x3,x4,x5,x6,x7,x8,x9]=some (.next [.d (.l (ns.map D.int)),cI c,jD G f,.d (.t [.int v,t]),x4,x5,x6,x7,x8,x9])from fA ((di rfl).trans et))]
 rw[LW.cR (show Mv [.d (.l (ns.map D.int)),cI c,jD G f,.d (.t [.int v,t]),x4,x5,x6,x7,x8,x9]=some (.next [.d (.l (ns.map D.int)),cI c,jD G f,.d (.t [.int v,t]),cI v,x5,x6,x7,x8,x9])from fA ((di (ds:=[dG G f,vc [],vc [],.int f]) rfl).trans ((Iz hG 10 [] [] f (iW _) hf (by omega)).trans (by rw[hwv]))))]
 rw[LW.cR (show Gk [.d (.l (ns.map D.int)),cI c,jD G f,.d (.t [.int v,t]),cI v,x5,x6,x7,x8,x9]=some (.next [.d (.l (ns.map D.int)),cI c,jD G f,.d (.t [.int v,t]),cI v,x5,x6,x7,x8,x9]) by
  unfold Gk;rw[jn (CG rfl (CG (fQ (yH 2 2)) (fQ (Iq (x:=.int v) (by unfold eN;omega)))))]
  rfl)]
 rw[LW.cR (show Gn [.d (.l (ns.map D.int)),cI c,jD G f,.d (.t [.int v,t]),cI v,x5,x6,x7,x8,x9]=some (.next [.d (.l (ns.map D.int)),cI c,jD G f,.d (.t [.int v,t]),cI v,x5,x6,x7,x8,x9]) by
  unfold Gn;rw[jn (nR (b:=true) (fQ ((di (ds:=[dG G f,vc [],vc [],.int f,.int v,t]) rfl).trans ((wV hG hw 7 [] [] f t 8 (iW _) hf (by omega) LA).trans (by rw[tb])))))]
  rfl)]
 rw[LW.cR (show Gp [.d (.l (ns.map D.int)),cI c,jD G f,.d (.t [.int v,t]),cI v,x5,x6,x7,x8,x9]=some (.next [.d (.l (ns.map D.int)),cI c,jD G f,.d (.t [.int v,t]),cI v,x5,x6,x7,x8,x9]) by
  unfold Gp;rw[jn (fQ ((gC (o:=Dy) (x:=.bl true) (y:=.bl true) ((di (ds:=[dG G f,.int v,t]) rfl).trans ((zN hG hF.AQ h5 hw hf (by decide) LA).trans (by rw[tb]))) rfl).trans rfl))]
  rfl)]
 rw[LW.cR (show CL [.d (.l (ns.map D.int)),cI c,jD G f,.d (.t [.int v,t]),cI v,x5,x6,x7,x8,x9]=some (.next [.d (.l (ns.map D.int)),cI c,jD G f,.d (.t [.int v,t]),cI v,x5,x6,x7,x8,x9]) by
  unfold CL;rw[jn (fQ ((gC (o:=Dy) (x:=.bl false) (y:=.bl false) ((di (ds:=[dG G f,.int (1-v),t]) rfl).trans ((zN hG hF.AQ h5 (by omega) hf (by decide) LA).trans (by rw[ef]))) rfl).trans rfl))]
  rfl)]
 have it:iL (dL (Na (dg 0) (pJ (dC (.int 3))) (pJ (dC (.int 9))))) [.d (.l (ns.map D.int)),cI c,jD G f,.d (.t [.int v,t]),cI v,x5,x6,x7,x8,x9]=some (t7 (ns.map D.int) (some 3) (some 9)):=rfl;rw[eL]at it;exact vz it el
theorem E3 (ns:cq):∀(cs:cq) (x1 x2 x3 x4 x5 x6 x7 x8 x9:Sl),∃U,gL 1 rE (cs.map D.int) [.d (.l (ns.map D.int)),x1,x2,x3,x4,x5,x6,x7,x8,x9]=some (.next U)
 |[],_,_,_,_,_,_,_,_,_=>⟨_,rfl⟩
 |c::cs,x1,x2,x3,x4,x5,x6,x7,x8,x9=>by
  obtain⟨z2,z3,z4,z5,z6,z7,z8,z9,e⟩:=RI ns c x2 x3 x4 x5 x6 x7 x8 x9;obtain⟨U,ih⟩:=E3 ns cs (cI c) z2 z3 z4 z5 z6 z7 z8 z9;exact⟨U,by rw[aG,l4 (j:=1) (f:=rE) (d:=.int c) (U:=[.d (.l (ns.map D.int)),x1,x2,x3,x4,x5,x6,x7,x8,x9]) e,ih]⟩
def Ui (ns:cq) (_:ns.length<=63):Mw [.l (ns.map D.int)]=some (.bl true):=by
 refine LW.eh rfl ?_;show KQ [.d (.l (ns.map D.int)),.n,.n,.n,.n,.n,.n,.n,.n,.n]=_;obtain⟨L,eL⟩:=IS ns none (some 3);obtain⟨U,e⟩:=E3 ns L .n .n .n .n .n .n .n .n .n;have it:iL (dL (Na (dg 0) Hd (pJ (dC (.int 3))))) [.d (.l (ns.map D.int)),.n,.n,.n,.n,.n,.n,.n,.n,.n]=some (t7 (ns.map D.int) none (some 3)):=rfl;rw[eL]at it;unfold KQ;rw[LW.cR (show II [.d (.l (ns.map D.int)),.n,.n,.n,.n,.n,.n,.n,.n,.n]=some (.next U)from vz it e)]
 rfl
end K5
namespace DL
open L2
structure js (K:W.Frag) (x:Str) (st:cH):Prop where
 ex:∃f fd,W.nsIn K mainGlobals x=some (some (.ref f))/\Bs K x x st f fd
structure MD (K:W.Frag) (C:cF) (g k x q:Str) (st:cH):Prop where
 ex:∃f fd,Bs K x q st f fd/\Meth K C x f/\x≠g/\x≠k
section
variable {K:W.Frag}{x q:Str}{st:cH}{f:cF}{fd:cA}{an:cu}{kV doc pm fC ct:cy}
def Xb (a:W.nsIn K mainGlobals x=some (some (.ref f))) (l:K.lookup f=some ⟨oc,od,.func (W.fnOf x x (rM st) (gr st) (cZ st) .none kV doc pm an fC ct),sl⟩) (c:W.codeIn K fC x=true) (k:W.keepIn K (.ref f)=true):js K x st:=⟨⟨f,_,a,OS l c k⟩⟩
def Xc (a:W.findIn K (.ref C) x=some (some (.ref f))) (i:W.isFn K (.ref f)=true) (l:K.lookup f=some ⟨oc,od,.func (W.fnOf x q (rM st) (gr st) (cZ st) .none kV doc pm an fC ct),sl⟩) (c:W.codeIn K fC q=true) (k:W.keepIn K (.ref f)=true) (n:x≠gn/\x≠kn):MD K C gn kn x q st:=⟨⟨f,_,OS l c k,⟨a,i,k⟩,n⟩⟩
def js.get (p:js K x st) (X:K.In h) (G:h.Ns mainGlobals mg):∃f fd,mg x=some (.ref f)/\Bs K x x st f fd/\∀{c P:cF},W.tabIn K x=some (c,P)->fd.code=.ref c:=
 let ⟨f,fd,a,F⟩:=p.ex;⟨f,fd,aP X G a,F,λt=>let ⟨_,_,_,_,_,_,_,_,_,_,l,_⟩:=F.ex;QL a l t⟩
def RJ:Nat->(cx->Prop)->Prop
 |0,p=>p []
 |n+1,p=>∀u,RJ n λl=>p (u::l)
theorem RJ.all:∀{n:Nat}{p:cx->Prop},RJ n p->∀us:cx,us.length=n->p us
 |_,_,h,[],e=>by cases e;exact h
 |_,_,h,u::us,e=>by cases e;exact RJ.all (h u) us rfl
def Bd (x q:Str) (st:cH) (ps:List Str):Prop:=∀kV doc pm an fC ct,RJ ps.length λus=>bindArgs (W.fnOf x q (rM st) (gr st) (cZ st) .none kV doc pm an fC ct) ⟨us,[]⟩=pure (ps.zip us)
def RK {ps:List Str}(F:Bs K x q st f fd) (h:Bd x q st ps:=by unfold Bd;intros;(repeat refine λ_=>?_);exact rfl):Binds K fd ps []:=F.binds λ_ _ _ _ _ _ us hl=>(h ..).all us hl
structure Bx where
 P:cB
 w:cC
 K:W.Frag
 mg:cm
 Zc:Heap
variable {B:Bx}{k:Nat}{ps N:List Str}{sc:Scope}{sp:List V->Hp->VK->XK->Prop}{Y:OC}{g:cg}
def IT (B:Bx) (k:Nat) (x:Str) (sp:List V->Hp->VK->XK->Prop):Prop:=
 ∃f fd ps,gK B.P B.w B.K B.mg B.Zc nY k f fd ps sp/\B.mg x=some (.ref f)/\W.keepIn B.K (.ref f)=true/\Binds B.K fd ps []
theorem IT.mono (c:IT B k x sp) (h:k<=l:=by omega):IT B l x sp:=let ⟨f,fd,ps,F,r⟩:=c;⟨f,fd,ps,F.mono h,r⟩
abbrev sO (B:Bx):Nat->OC->Str->(cg)->Prop:=UJ B.P B.w B.K B.mg B.Zc
theorem sO.mono (c:sO B k Y x g) (h:k<=l:=by omega):sO B l Y x g:=let ⟨f,fd,ps,F,r⟩:=c;⟨f,fd,ps,F.mono h,r⟩
abbrev Ca (B:Bx) (k:Nat) (x:Str) (g:cg):Prop:=IT B k x (M8 g)
abbrev Uj (B:Bx) (k:Nat) (Y:OC) (x:Str) (g:cg):Prop:=IT B k x (P7 Y g)
abbrev CaM (B:Bx) (k:Nat) (x:Str) (j:Nat) (Mf:cw->fi) (g:cg):Prop:=IT B k x (Xx j Mf g)
def Bn (B:Bx):Prop:=∃h:Heap,B.K.In h/\h.Ns mainGlobals B.mg
def uR (M:Bn B) (p:js B.K x st) (ok:∀{f fd},Bs B.K x x st f fd->(∀{c P:cF},W.tabIn B.K x=some (c,P)->fd.code=.ref c)->gK B.P B.w B.K B.mg B.Zc nY k f fd ps sp) (hb:Bd x x st ps:=by unfold Bd;intros;(repeat refine λ_=>?_);exact rfl):IT B k x sp:=
 let ⟨_,X,G⟩:=M;let ⟨_,_,A,F,T⟩:=p.get X G;⟨_,_,_,ok F T,A,F.kp,RK F hb⟩
def Gv (M:Bn B) (p:js B.K x st) (S:dF N ps sc) (ok:∀{f fd},gK B.P B.w B.K B.mg B.Zc nY k f fd ps sp) (hb:Bd x x st ps:=by unfold Bd;intros;(repeat refine λ_=>?_);exact rfl):IT B k x sp:=uR M p (λ_ _=>ok) hb
def calm (M:Bn B) (p:MD B.K Y.cl Y.fG Y.fK x q st) (ok:∀{f fd},Bs B.K x q st f fd->gK B.P B.w B.K B.mg B.Zc nY k f fd ps (P7 Y g)) (hb:Bd x q st ps:=by unfold Bd;intros;(repeat refine λ_=>?_);exact rfl):sO B k Y x g:=
 let ⟨_,_,F,m,n⟩:=p.ex;⟨_,_,_,ok F,m,RK F hb,n⟩
def Va (M:Bn B) (p:MD B.K Y.cl Y.fG Y.fK x q st) (S:dF N ps sc) (ok:∀{f fd},gK B.P B.w B.K B.mg B.Zc nY k f fd ps (P7 Y g)) (hb:Bd x q st ps:=by unfold Bd;intros;(repeat refine λ_=>?_);exact rfl):sO B k Y x g:=calm M p (λ_=>ok) hb
end
end DL
namespace K5
open L2 DL LW PC PW
noncomputable def top (i:Nat):cH:=PySem.Challenge.pw_fieldclaim_k05_whole_trees.main.body.getD i (.Pass ⟨0,0,0,0⟩)
abbrev sP:cH:=top 1
def Gw:dF ["thing","least","most"] ["thing","least","most"] (cZ sP):={}
abbrev wW:cH:=top 12
def CS:dF ["points","line","point"] ["points","line"] (cZ wW):={}
abbrev uS:cH:=top 13
def AA:dF ["points","line","point"] ["points","line"] (cZ uS):={}
abbrev sQ:cH:=top 9
def Gx:dF ["game","whose"] ["game","whose"] (cZ sQ):={}
abbrev qw:cH:=top 10
def DY:dF ["hand"] ["hand"] (cZ qw):={}
abbrev wX:cH:=top 14
def o9:dF ["points","count","told","k","rest"] ["points","count"] (cZ wX):={}
abbrev pe:cH:=top 11
def pf:dF ["field","mine","yours","taken","point"] ["field","mine","yours"] (cZ pe):={}
abbrev zO:cH:=top 5
def NT:dF ["game","mine","yours","whose"] ["game","mine","yours","whose"] (cZ zO):={}
abbrev zP:cH:=top 8
def NU:dF ["mine","yours","whose","claim"] ["mine","yours","whose","claim"] (cZ zP):={}
abbrev wY:cH:=top 6
def sR:dF ["game","mine","yours","lines","line"] ["game","mine","yours"] (cZ wY):={}
abbrev uT:cH:=top 7
def AB:dF ["game","mine","yours","whose","thing","part"] ["game","mine","yours","whose","thing"] (cZ uT):={}
abbrev sU:cH:=top 18
def yJ:dF ["line","mine","point"] ["line","mine"] (cZ sU):={}
abbrev ph:cH:=top 19
def uU:dF ["line","lines","other"] ["line","lines"] (cZ ph):={}
abbrev zQ:cH:=top 20
def E4:dF ["points","lines","line"] ["points","lines"] (cZ zQ):={}
abbrev md:cH:=top 21
def jS:dF ["lines","uses","line","point"] ["lines"] (cZ md):={}
abbrev qx:cH:=top 17
def mr:dF ["lines","mine","yours","needed","unlike","line"] ["lines","mine","yours"] (cZ qx):={}
abbrev m8:cH:=inClass (top 16) 5
def jg:dF ["self","lines","whose","tried","pressing","line","claim"] ["self","lines","whose"] (cZ m8):={}
abbrev uV:cH:=inClass (top 16) 4
def lh:dF ["self","lines","whose","shortest","claim","held","line"] ["self","lines","whose"] (cZ uV):={}
abbrev sV:cH:=inClass (top 16) 3
def yK:dF ["self","lines","whose"] ["self","lines","whose"] (cZ sV):={}
abbrev sW:cH:=inClass (top 16) 1
def Gy:dF ["self","mine","yours","whose"] ["self","mine","yours","whose"] (cZ sW):={}
abbrev wZ:cH:=inClass (top 16) 2
def CT:dF ["self","mine","yours","whose","claim","held"] ["self","mine","yours","whose","claim"] (cZ wZ):={}
abbrev qy:cH:=top 28
def wm:dF ["lines","hand","line"] ["lines","hand"] (cZ qy):={}
abbrev ng:cH:=top 27
def kJ:dF ["search","mine","yours","hand","left_behind","ranked","place"] ["search","mine","yours","hand"] (cZ ng):={}
abbrev pj:cH:=top 26
def pq:dF ["search","hand","mine","yours","whose","claim","held"] ["search","hand","mine","yours","whose","claim"] (cZ pj):={}
abbrev sX:cH:=top 25
def lP:dF ["search","hand","mine","yours","whose","claim","answers"] ["search","hand","mine","yours","whose"] (cZ sX):={}
abbrev uW:cH:=top 23
def uX:dF ["game","search","hand"] ["game"] (cZ uW):={}
abbrev me:cH:=top 30
def mf:dF ["game","hand","mine","yours","pair","held"] ["game","hand","mine","yours","pair"] (cZ me):={}
abbrev kW:cH:=top 31
def fD:dF ["game","hand","mine","yours","branches","other","answers","claim","branch","held"] ["game","hand","mine","yours","branches"] (cZ kW):={}
abbrev nh:cH:=top 29
def ni:dF ["game","hand","mine","yours","whose","thing","ended"] ["game","hand","mine","yours","whose","thing"] (cZ nh):={}
abbrev w4:cH:=top 24
def KZ:dF ["game","hand","thing"] ["game","hand","thing"] (cZ w4):={}
abbrev uY:cH:=top 34
def IU:dF ["_law_cell_here","_law_prime","_law_many"] ["_law_cell_here","_law_prime","_law_many"] (cZ uY):={}
abbrev qz:cH:=top 35
def gJ:dF ["_law_cell_here","_law_least","_law_most","_law_lines","_law_many","_law_found","_law_k","_law_size","_law_left","_law_line","_law_n"] ["_law_cell_here","_law_least","_law_most","_law_lines"] (cZ qz):={}
abbrev sZ:cH:=top 36
def yL:dF ["_law_cell_here","_law_least","_law_most","_law_lines","_law_field_here"] ["_law_cell_here","_law_least","_law_most","_law_lines"] (cZ sZ):={}
abbrev tu:cH:=top 38
def lQ:dF ["_law_game_here","_law_mine","_law_yours","_law_line","_law_point"] ["_law_game_here","_law_mine","_law_yours"] (cZ tu):={}
abbrev pA:cH:=top 39
def gm:dF ["_law_game_here","_law_mine","_law_yours","_law_whose","_law_some","_law_found","_law_turn","_law_more","_law_claim","_law_point"] ["_law_game_here","_law_mine","_law_yours","_law_whose"] (cZ pA):={}
abbrev uZ:cH:=top 40
def IV:dF ["_law_mine","_law_yours","_law_whose","_law_claim"] ["_law_mine","_law_yours","_law_whose","_law_claim"] (cZ uZ):={}
abbrev pB:cH:=top 41
def gp:dF ["_law_game_here","_law_known","_law_mine","_law_yours","_law_whose","_law_found","_law_claim","_law_left","_law_right"] ["_law_game_here","_law_known","_law_mine","_law_yours","_law_whose"] (cZ pB):={}
abbrev nj:cH:=top 42
def eU:dF ["_law_game_here","_law_mine","_law_yours","_law_whose","_law_hand","_law_thing","_law_over_here","_law_due","_law_left","_law_right","_law_claim","_law_part","_law_point"] ["_law_game_here","_law_mine","_law_yours","_law_whose","_law_hand","_law_thing"] (cZ nj):={}
abbrev pC:cH:=top 43
def lR:dF ["_law_tree","_law_cell_here","_law_at","_law_way"] ["_law_tree","_law_cell_here"] (cZ pC):={}
abbrev K0:cH:=top 44
def qA:dF ["_law_script","_law_cell_here","_law_game_here","_law_told","_law_hand","_law_more","_law_bad","_law_side","_law_found","_law_due"] ["_law_script"] (cZ K0):={}
structure Bt (B:Bx):Prop where
 on:Bn B
 all:B.mg "all"=none
 any:B.mg "any"=none
 bool:B.mg "bool"=none
 int:B.mg "int"=none
 isinstance:B.mg "isinstance"=none
 len:B.mg "len"=none
 list:B.mg "list"=none
 min:B.mg "min"=none
 range:B.mg "range"=none
 set:B.mg "set"=none
 sorted:B.mg "sorted"=none
 tuple:B.mg "tuple"=none
 zip:B.mg "zip"=none
 dX:∃t,B.mg "BUILDER"=some (.int 0 t)
 nW:∃t,B.mg "GUARD"=some (.int 1 t)
abbrev u0:cH:=inClass (top 16) 0
def IW:dF ["self","game"] ["self","game"] (cZ u0):={}
abbrev dh (Cs:cF):OC:=⟨Cs,"game","known",MfS⟩
section
variable {B:Bx}
def Gz (M0:Bt B) (p:js B.K "is_number" sP):Ca B (1) "is_number" lb:=by
 refine uR M0.on p λF T=>fT F Gw (λm fC A ε s H E hr C0 H0=>?_)
 exact(cW (fu (Hm.pt (rV (iU (ip (qf SS Pq (cN 0) (by rfl) M0.isinstance (by rfl) M0.int))) (rT (ip (qf BH Fw (cN 0) (by rfl) M0.isinstance (by rfl) M0.bool))))) (cX (dr jU)) dU)
  (cX (dr (PJ SK SK (cN 1) (cN 0) (cN 2)))))
def K1 (M0:Bt B) (p:js B.K "has_all" wW):Ca B (1) "has_all" jP:=by
 refine uR M0.on p λF T=>fT F CS (λm fC A ε s H E hr C0 H0=>?_)
 exact(cX (dr (eO (Lw rfl) M0.all Fx (dD (WD.o (WF.d (mi 2 rfl ⟨rfl,rfl,rfl,CS.nd⟩ (Ae.weak (gf (eI 1))) (λ_ _ _ _ _=>(qe (Pn hr.units) (cN 2) (cN 0)))))) dM))))
def IX (M0:Bt B) (p:js B.K "has_some" uS):Ca B (1) "has_some" gB:=by
 refine uR M0.on p λF T=>fT F AA (λm fC A ε s H E hr C0 H0=>?_)
 exact(cX (dr (eO (P6 rfl) M0.any J6 (dD (WD.o (WF.d (mi 2 rfl ⟨rfl,rfl,rfl,AA.nd⟩ (Ae.weak (gf (eI 1))) (λ_ _ _ _ _=>(qe (Pn hr.units) (cN 2) (cN 0)))))) dM))))
def GA (M0:Bt B) (p:js B.K "at_a_time" sQ):Ca B (1) "at_a_time" eS:=by
 obtain⟨mh,dX⟩:=M0.dX;refine uR M0.on p λF T=>fT F Gx (λm fC A ε s H E hr C0 H0=>?_)
 exact(cX (dr (Ho (eE (qc hr.units) (cN 1) (WD.o (iR (by rfl) dX))) (dY (cN 0)) (dY (cN 0)))))
def DZ (M0:Bt B) (p:js B.K "other_hand" qw):Ca B (1) "other_hand" dZ:=by
 obtain⟨mh,dX⟩:=M0.dX;obtain⟨ME,nW⟩:=M0.nW;refine uR M0.on p λF T=>fT F DY (λm fC A ε s H E hr C0 H0=>?_)
 exact(cX (dr (Ho (eE (qc hr.units) (cN 0) (WD.o (iR (by rfl) dX))) (iR (by rfl) nW) (iR (by rfl) dX))))
def K2 (M0:Bt B) (p:js B.K "choices" wX) (rG:Ca B (0+n) "choices" dS):Ca B (0+n+1) "choices" (gF 5 2 (sA dS)):=by
 refine uR M0.on p λF T=>fT F o9 (λm fC A ε s H E hr C0 H0=>?_)
 exact(cW (fu (eE (abz) (cN 1) (WD.o (eO mB M0.len jv (dD (cN 0) dM)))) (cX (dr (eJ (cU 0 cQ)))) dU)
  (cW (fu (eE (qc hr.units) (cN 1) (WD.o dH)) (cX (dr (eJ (cP (eJ cQ) cQ)))) dU)
  (cW (rX 2 o9.nd (wF cQ))
  (cW (lA (f:=(lG dS)) bB rfl (lU (by rfl) M0.range (cP (jX (WD.o (oy (WD.o (eO mB M0.len jv (dD (cN 0) dM))) (cN 1))) (WD.o dH)) cQ)) (fx (i:=3) o9.nd rfl) (cX (lA (f:=(lF dS)) bB rfl (gf (dc rG hr (cP (zj (cN 0) (rS (WD.o (jX (cN 3) (WD.o dH)))) BN) (cP (oy (cN 1) (WD.o dH)) cQ)))) (fx (i:=4) o9.nd rfl) (cX (PL (pv 2) (ky (WD.o (eJ (cP (rY (cN 0) (cN 3) (λ_ _=>rfl)) cQ))) (cN 4)))))))
  (cX (dr (f7 jk M0.tuple fF (dD (cN 2) dM))))))))
def CU (M0:Bt B) (p:js B.K "free_points" pe):Ca B (1) "free_points" j9:=by
 refine uR M0.on p λF T=>fT F pf (λm fC A ε s H E hr C0 H0=>?_)
 exact(cW (fc 3 pf.nd (ky (cN 1) (cN 2)))
  (cX (dr (f7 jk M0.tuple fF (dD (WD.o (WF.d (jL 4 rfl ⟨rfl,rfl,rfl,pf.nd⟩ (Ae.weak (lU (by rfl) M0.range (cP (dY (cN 0)) cQ))) (λ_ _ _ _ _=>(eE (vg hr.units) (cN 4) (cN 3))) (λ_ _ _ _ _=>(eI 4))))) dM)))))
def NV (M0:Bt B) (p:js B.K "claims" zO) (lj:Ca B 6 "at_a_time" eS) (rG:Ca B 6 "choices" (fP 5)) (D3:Ca B 6 "free_points" j9):Ca B (7) "claims" jA:=by
 refine uR M0.on p λF T=>fT F NT (λm fC A ε s H E hr C0 H0=>?_)
 exact(cX (dr (dc rG hr (cP (dc D3 hr (cP (dY (cN 0)) (cU 1 (cU 2 cQ)))) (cP (dc lj hr (cU 0 (cU 3 cQ))) cQ)))))
def NW (M0:Bt B) (p:js B.K "behind" zP):Ca B (1) "behind" gT:=by
 obtain⟨mh,dX⟩:=M0.dX;refine uR M0.on p λF T=>fT F NU (λm fC A ε s H E hr C0 H0=>?_)
 have hu:=hr.units;exact(cW (fu (eE (qc hu) (cN 2) (WD.o (iR (by rfl) dX))) (cX (dr (eJ (cP (f7 jk M0.tuple fF (dD (WD.o (WF.d (oz (vj hu) M0.sorted jh (dD (WD.o (ky (cN 0) (cN 3))) dM)))) dM)) (cU 1 cQ))))) dU)
  (cX (dr (eJ (cU 0 (cP (f7 jk M0.tuple fF (dD (WD.o (WF.d (oz (vj hu) M0.sorted jh (dD (WD.o (ky (cN 1) (cN 3))) dM)))) dM)) cQ))))))
def K3 (M0:Bt B) (p:js B.K "decided" wY) (zR:Ca B 1 "has_all" jP) (pD:Ca B 1 "has_some" gB):Ca B (2) "decided" lX:=by
 obtain⟨mh,dX⟩:=M0.dX;obtain⟨ME,nW⟩:=M0.nW;refine uR M0.on p λF T=>fT F sR (λm fC A ε s H E hr C0 H0=>?_)
 exact(cW (fc 3 sR.nd (dY (WD.o (dY (cN 0)))))
  (cW (fu (ip (eO (P6 rfl) M0.any J6 (dD (WD.o (WF.d (mi 4 rfl ⟨rfl,rfl,rfl,sR.nd⟩ (Ae.weak (gf (eI 3))) (λ_ _ _ _ _=>(dc zR hr (cU 1 (cU 4 cQ))))))) dM))) (cX (dr (iR (by rfl) dX))) dU)
  (cW (fu (ip (eO (Lw rfl) M0.all Fx (dD (WD.o (WF.d (mi 4 rfl ⟨rfl,rfl,rfl,sR.nd⟩ (Ae.weak (gf (eI 3))) (λ_ _ _ _ _=>(dc pD hr (cU 2 (cU 4 cQ))))))) dM))) (cX (dr (iR (by rfl) nW))) dU)
  (cX (dr wC)))))
def IY (M0:Bt B) (p:js B.K "is_claim" uT) (pE:Ca B 7 "claims" jA) (IZ:Ca B 7 "is_number" lb):Ca B (8) "is_claim" l7:=by
 refine uR M0.on p λF T=>fT F AB (λm fC A ε s H E hr C0 H0=>?_)
 exact(cW (fu (iU (ip (qf kit_tuple fF (cN 4) (by rfl) M0.isinstance (by rfl) M0.tuple))) (cX (dr jU)) dU)
  (cW (fu (iU (ip (eO (Lw rfl) M0.all Fx (dD (WD.o (WF.d (mi 5 rfl ⟨rfl,rfl,rfl,AB.nd⟩ (Ae.weak (gf (eI 4))) (λ_ _ _ _ _=>(dc IZ hr (cU 5 (cP dH (cP (oy (WD.o (dY (WD.o (dY (cN 0))))) (WD.o dH)) cQ)))))))) dM)))) (cX (dr jU)) dU)
  (cX (dr (qe (Pn hr.units) (cN 4) (WD.o (dc pE hr (cU 0 (cU 1 (cU 2 (cU 3 cQ)))))))))))
def GB (M0:Bt B) (p:js B.K "free_part" sU):Ca B (1) "free_part" mM:=by
 refine uR M0.on p λF T=>fT F yJ (λm fC A ε s H E hr C0 H0=>?_)
 exact(cX (dr (f7 jk M0.tuple fF (dD (WD.o (WF.d (jL 2 rfl ⟨rfl,rfl,rfl,yJ.nd⟩ (Ae.weak (gf (eI 0))) (λ_ _ _ _ _=>(eE (vg hr.units) (cN 2) (cN 1))) (λ_ _ _ _ _=>(eI 2))))) dM))))
def CV (M0:Bt B) (p:js B.K "has_another" ph) (zR:Ca B 1 "has_all" jP):Ca B (2) "has_another" mj:=by
 refine uR M0.on p λF T=>fT F uU (λm fC A ε s H E hr C0 H0=>?_)
 exact(cX (dr (eO (P6 rfl) M0.any J6 (dD (WD.o (WF.d (mi 2 rfl ⟨rfl,rfl,rfl,uU.nd⟩ (Ae.weak (LM (eI 1))) (λ_ _ _ _ _=>(JX (qe (Fv hr.units) (cN 2) (cN 0)) (JW (dc zR hr (cU 0 (cU 2 cQ))))))))) dM))))
def NX (M0:Bt B) (p:js B.K "spoils" zQ) (pD:Ca B 1 "has_some" gB):Ca B (2) "spoils" yp:=by
 refine uR M0.on p λF T=>fT F E4 (λm fC A ε s H E hr C0 H0=>?_)
 exact(cX (dr (eO (Lw rfl) M0.all Fx (dD (WD.o (WF.d (mi 2 rfl ⟨rfl,rfl,rfl,E4.nd⟩ (FH (cN 1)) (λ_ _ _ _ _=>(dc pD hr (cU 0 (cU 2 cQ))))))) dM))))
def zS (M0:Bt B) (p:js B.K "points_by_use" md) (ht:W.tabIn B.K "points_by_use"=some (ct,Pt)):Ca B (1) "points_by_use" jb:=by
 refine uR M0.on p λF T=>Tw F jS (λA ε s H E hr C0 H0=>?_)
 have vG:=T ht;letI:=μ.keep
 have nr:=hr.ten;exact(Ks 1 jS.nd (λa C1 H1 hn=>by letI:=gk a;unfold gY;exact(cW (lA (f:=f9) bB rfl (gf (eI 0)) (fx (i:=2) jS.nd rfl) (cX (lA (f:=gX) bB rfl (gf (eI 2)) (fx (i:=3) jS.nd rfl) (cX (NA hn hr.units (pv 1) (eI 3) (pv 1) (eI 3))))))
  (cX (dr (f7 jk M0.tuple fF (dD (WD.o (WF.d (HJ (x:="points_by_use") rfl hr.units nr (by rfl) M0.sorted rfl rfl (by first|exact af|simp[vD]) ht (show(Str.ofString "points_by_use"++Str.ofString ".<locals>.")++Str.ofString "<lambda>"=Str.ofString "points_by_use.<locals>.<lambda>" by decide +kernel) vG (pv 1)))) dM)))))))
def D4 (M0:Bt B) (p:js B.K "open_lines" qx) (Ja:Ca B 2 "free_part" mM) (D5:Ca B 2 "has_another" mj) (pD:Ca B 2 "has_some" gB):Ca B (3) "open_lines" fB:=by
 refine uR M0.on p λF T=>fT F mr (λm fC A ε s H E hr C0 H0=>?_)
 exact(cW (xM 3 5 rfl ⟨rfl,rfl,rfl,mr.nd⟩ (Ae.weak (LM (eI 0))) (λ_ _ _ _ _=>(iU (ip (dc pD hr (cU 2 (cU 5 cQ)))))) (λ_ _ _ _ _=>(dc Ja hr (cU 5 (cU 1 cQ)))))
  (mD 3 (cW (rX 4 mr.nd (Ku rfl hr.units (by rfl) M0.sorted (by rfl) M0.set (cN 3)))
  (mD 4 (cX (dr (f7 jk M0.tuple fF (dD (WD.o (WF.d (jL 5 rfl ⟨rfl,rfl,rfl,mr.nd⟩ (FH (cN 4)) (λ_ _ _ _ _=>(iU (ip (dc D5 hr (cU 5 (cU 4 cQ)))))) (λ_ _ _ _ _=>(eI 5))))) dM))))))))
def AU (M0:Bt B) (p:MD B.K Cs "game" "known" "worth_trying" "Search.worth_trying" m8) (Z:qN B.K (dh Cs)) (lj:Ca B 6 "at_a_time" eS) (rG:Ca B 6 "choices" (fP 5)) (AV:Ca B 6 "points_by_use" jb) (RL:Ca B 6 "spoils" yp):sO B (7) (dh Cs) "worth_trying" (i9 7 3 kC):=by
 obtain⟨mh,dX⟩:=M0.dX;refine calm M0.on p λF=>se (dh Cs) F jg (λA G fC Ar ε s H E hr C0 H0=>?_)
 letI:=dq (dh Cs) A G
 exact(cW (fc 3 jg.nd (dc rG hr (cP (dc AV hr (cU 1 cQ)) (cP (dc lj hr (cP (pL (Y:=dh Cs) Z (pv 0)) (cU 2 cQ))) cQ))))
  (cW (fu (eE (qc hr.units) (cN 2) (WD.o (iR (by rfl) dX))) (cX (dr (eI 3))) dU)
  (cW (rX 4 jg.nd (jL 5 rfl ⟨rfl,rfl,rfl,jg.nd⟩ (Ae.weak (gf (eI 1))) (λ_ _ _ _ _=>(eE (SK) (WD.o (eO mB M0.len jv (dD (cN 5) dM))) (WD.o (dc lj hr (cP (pL (Y:=dh Cs) Z (pv 0)) (cP (iR (by rfl) dX) cQ)))))) (λ_ _ _ _ _=>(eI 5))))
  (mD 4 (cX (dr (f7 jk M0.tuple fF (dD (WD.o (WF.d (jL 6 rfl ⟨rfl,rfl,rfl,jg.nd⟩ (Ae.weak (gf (eI 3))) (λ_ _ _ _ _=>(ip (dc RL hr (cU 6 (cU 4 cQ))))) (λ_ _ _ _ _=>(eI 6))))) dM))))))))
def Jb (M0:Bt B) (p:MD B.K Cs "game" "known" "searched" "Search.searched" uV) (Z:qN B.K (dh Cs)) (lj:Ca B (7+n) "at_a_time" eS) (iK:Ca B (7+n) "behind" gT) (iY:Ca B (7+n) "open_lines" fB) (gi:Ca B (7+n) "other_hand" dZ) (u3:sO B (7+n) (dh Cs) "winner_of" dQ) (CW:sO B (7+n) (dh Cs) "worth_trying" jB):sO B (7+n+1) (dh Cs) "searched" (i9 7 3 (λG=>mN G dQ)):=by
 obtain⟨mh,dX⟩:=M0.dX;refine calm M0.on p λF=>se (dh Cs) F lh (λA G fC Ar ε s H E hr C0 H0=>?_)
 letI:=dq (dh Cs) A G
 exact(cW (fc 3 lh.nd (eO (Wj rfl) M0.min Fy (dD (WD.o (WF.d (mi 6 rfl ⟨rfl,rfl,rfl,lh.nd⟩ (Ae.weak (gf (eI 1))) (λ_ _ _ _ _=>(eO mB M0.len jv (dD (cN 6) dM)))))) dM)))
  (cW (fu (Hm.pt (FG (eE (qc hr.units) (cN 2) (WD.o (iR (by rfl) dX))) (Hn (eE (SK) (cN 3) (WD.o (dc lj hr (cP (pL (Y:=dh Cs) Z (pv 0)) (cP (iR (by rfl) dX) cQ)))))))) (cX (dr (iR (by rfl) dX))) dU)
  (cW (lA (f:=(gH G dQ)) bB rfl (gf (oB Z CW hr (pv 0) (cU 1 (cU 2 cQ)))) (fx (i:=4) lh.nd rfl) (cW (fc 5 lh.nd (dc iK hr (cP (eJ cQ) (cP (eJ cQ) (cU 2 (cU 4 cQ))))))
  (cX (fu (eE (qc hr.units) (WD.o (oB Z u3 hr (pv 0) (cP (dc iY hr (cU 1 (cP (dY (cN 5)) (cP (dY (cN 5)) cQ)))) (cP (dc gi hr (cU 2 cQ)) cQ)))) (cN 2)) (cX (dr (eI 2))) dU))))
  (cX (dr (dc gi hr (cU 2 cQ)))))))
def GC (M0:Bt B) (p:MD B.K Cs "game" "known" "winner_of" "Search.winner_of" sV) (Z:qN B.K (dh Cs)) (K4:sO B (7+n) (dh Cs) "searched" eT):sO B (7+n+1) (dh Cs) "winner_of" (i9 3 3 (λG=>lK G eT)):=by
 obtain⟨mh,dX⟩:=M0.dX;obtain⟨ME,nW⟩:=M0.nW;refine calm M0.on p λF=>se (dh Cs) F yK (λA G fC Ar ε s H E hr C0 H0=>?_)
 letI:=dq (dh Cs) A G
 have hu:=hr.units;exact(cW (fu (eE (qc hu) (WD.o (eO mB M0.len jv (dD (cN 1) dM))) (WD.o dH)) (cX (dr (iR (by rfl) nW))) dU)
  (cW (fu (eE (Pn hu) (WD.o (eJ cQ)) (cN 1)) (cX (dr (iR (by rfl) dX))) dU)
  (cW (Qb [] hu Z (eJ (cU 1 (cU 2 cQ))) (pv 0) (cX (Nk hu Z (oB Z K4 hr (pv 0) (cU 1 (cU 2 cQ))) (pv 0) (eJ (cU 1 (cU 2 cQ))))))
  (cX (dr (Nj hu Z (pv 0) (eJ (cU 1 (cU 2 cQ))) (λ_ _=>rfl)))))))
def GD (M0:Bt B) (p:MD B.K Cs "game" "known" "winner_at" "Search.winner_at" sW) (Z:qN B.K (dh Cs)) (iY:Ca B 32 "open_lines" fB) (u3:sO B 32 (dh Cs) "winner_of" (iN 24)):sO B (33) (dh Cs) "winner_at" (i9 4 4 nS):=by
 refine calm M0.on p λF=>se (dh Cs) F Gy (λA G fC Ar ε s H E hr C0 H0=>?_)
 letI:=dq (dh Cs) A G
 exact(cX (dr (oB Z u3 hr (pv 0) (cP (dc iY hr (cP (dY (WD.o (dY (WD.o (pL (Y:=dh Cs) Z (pv 0)))))) (cU 1 (cU 2 cQ)))) (cU 3 cQ)))))
def K6 (M0:Bt B) (p:MD B.K Cs "game" "known" "is_good" "Search.is_good" wZ) (Z:qN B.K (dh Cs)) (iK:Ca B 33 "behind" gT) (gi:Ca B 33 "other_hand" dZ) (u4:sO B 33 (dh Cs) "winner_at" lg):sO B (34) (dh Cs) "is_good" (i9 6 5 sJ):=by
 refine calm M0.on p λF=>se (dh Cs) F CT (λA G fC Ar ε s H E hr C0 H0=>?_)
 letI:=dq (dh Cs) A G
 exact(cW (fc 5 CT.nd (dc iK hr (cU 1 (cU 2 (cU 3 (cU 4 cQ))))))
  (cX (dr (qe (qc hr.units) (WD.o (oB Z u4 hr (pv 0) (cP (dY (cN 5)) (cP (dY (cN 5)) (cP (dc gi hr (cU 3 cQ)) cQ))))) (cN 3)))))
def D6 (M0:Bt B) (p:js B.K "left_to_do" qy):Ca B (1) "left_to_do" nV:=by
 obtain⟨mh,dX⟩:=M0.dX;refine uR M0.on p λF T=>fT F wm (λm fC A ε s H E hr C0 H0=>?_)
 exact(cW (fu (eE (qc hr.units) (cN 1) (WD.o (iR (by rfl) dX))) (cX (dr (QW rfl hr.units (by rfl) M0.min (WD.o (WF.d (mi 2 rfl ⟨rfl,rfl,rfl,wm.nd⟩ (Ae.weak (gf (eI 0))) (λ_ _ _ _ _=>(eO mB M0.len jv (dD (cN 2) dM))))))))) dU)
  (cX (dr (eO mB M0.len jv (dD (cN 0) dM)))))
def AW (M0:Bt B) (p:js B.K "chosen_claim" ng) (Z:qN B.K (dh Cs)) (ht:W.tabIn B.K "chosen_claim"=some (ct,Pt)) (iK:∀b:Heap,Ca ⟨B.P,B.w,B.K,B.mg,b⟩ 3 "behind" gT) (pE:Ca B 34 "claims" jA) (NY:sO B 34 (dh Cs) "is_good" rg) (tw:∀b:Heap,Ca ⟨B.P,B.w,B.K,B.mg,b⟩ 3 "left_to_do" nV) (iY:∀b:Heap,Ca ⟨B.P,B.w,B.K,B.mg,b⟩ 3 "open_lines" fB):Uj B (35) (dh Cs) "chosen_claim" (i9 7 4 kG):=by
 refine uR M0.on p λF T=>TN (dh Cs) F kJ (λA G Ar ε s H E hr C0 H0=>?_)
 have vG:=T ht;letI:=dq (dh Cs) A G
 exact(QX (xd:="chosen_claim") (kc:=3) (λ_=>rfl) kJ.nd ⟨rfl,rfl,rfl,rfl,rfl,rfl,rfl,rfl,rfl,rfl,ZT rfl,rfl,rfl,rfl,rfl,rfl,Tz rfl⟩ (hr.mono (by decide)) (by rfl) M0.sorted (by simp[vD]) ht (show(Str.ofString "chosen_claim"++Str.ofString ".<locals>.")++Str.ofString "left_behind"=Str.ofString "chosen_claim.<locals>.left_behind" by decide +kernel) vG (λZc f cd cl Ar ε s H hr C0 H0=>by have hr.units:=hr.units;have iK:=iK Zc;have iY:=iY Zc;have tw:=tw Zc;exact(cW (fc 1 ZY (dc iK hr (cU 2 (cU 3 (cU 4 (cU 0 cQ))))))
  (cX (dr (dc tw hr (cP (dc iY hr (cP (dY (WD.o (dY (WD.o (pL (Y:=dh Cs) Z (pv 5)))))) (cP (dY (cN 1)) (cP (dY (cN 1)) cQ)))) (cU 4 cQ))))))) (λ_ _ _ _ _ s us _ hl=>match us,hl with|[_],_=>.of_eq rfl) (dc pE hr (cP (pL (Y:=dh Cs) Z (pv 0)) (cU 1 (cU 2 (cU 3 cQ))))) (mD 5 (cW (fc 6 kJ.nd dH)
  (cW (PR 40 bB (iU (ip (oB Z NY hr (pv 0) (cU 1 (cU 2 (cU 3 (cP (rY (cN 5) (cN 6) (λ_ _=>rfl)) cQ))))))) (cX (fc 6 kJ.nd (jX (cN 6) (WD.o dH)))))
  (cX (dr (rY (cN 5) (cN 6) (λ_ _=>rfl))))))))
def CY (M0:Bt B) (p:js B.K "tree_behind" pj) (Z:qN B.K (dh Cs)) (iK:Ca B (35+n) "behind" gT) (gi:Ca B (35+n) "other_hand" dZ) (u7:Uj B (35+n) (dh Cs) "tree_from" iX):Uj B (35+n+1) (dh Cs) "tree_behind" (i9 7 6 (λG=>iG G iX)):=by
 refine uR M0.on p λF T=>se (dh Cs) F pq (λA G fC Ar ε s H E hr C0 H0=>?_)
 letI:=dq (dh Cs) A G
 exact(cW (fc 6 pq.nd (dc iK hr (cU 2 (cU 3 (cU 4 (cU 5 cQ))))))
  (cX (dr (uq u7 hr (by rfl) (qM (pv 0) (cU 1 (cP (dY (cN 6)) (cP (dY (cN 6)) (cP (dc gi hr (cU 4 cQ)) cQ)))))))))
def GF (M0:Bt B) (p:js B.K "tree_from" sX) (Z:qN B.K (dh Cs)) (CZ:Uj B (35+n) (dh Cs) "chosen_claim" o6) (pE:Ca B (35+n) "claims" jA) (zT:Ca B (35+n) "decided" lX) (wo:Uj B (35+n) (dh Cs) "tree_behind" dR):Uj B (35+n+1) (dh Cs) "tree_from" (i9 7 5 (λG=>gG G dR)):=by
 refine uR M0.on p λF T=>se (dh Cs) F lP (λA G fC Ar ε s H E hr C0 H0=>?_)
 letI:=dq (dh Cs) A G
 exact(cW (fu (eE (xF) (WD.o (dc zT hr (cP (pL (Y:=dh Cs) Z (pv 0)) (cU 2 (cU 3 cQ))))) (WD.o wC)) (cX (dr (eJ cQ))) dU)
  (cW (fu (eE (qc hr.units) (cN 4) (cN 1)) (cW (fc 5 lP.nd (uq CZ hr (by rfl) (qM (pv 0) (cU 2 (cU 3 (cU 1 cQ))))))
  (cX (dr (eJ (cU 5 (cP (uq wo hr (by rfl) (qM (pv 0) (cU 1 (cU 2 (cU 3 (cU 4 (cU 5 cQ))))))) cQ)))))) dU)
  (cW (fc 6 lP.nd (dc pE hr (cP (pL (Y:=dh Cs) Z (pv 0)) (cU 2 (cU 3 (cU 4 cQ))))))
  (cX (dr (f7 jk M0.tuple fF (dD (WD.o (WF.d (mi 5 rfl ⟨rfl,rfl,rfl,lP.nd⟩ (Ae.weak (gf (eI 6))) (λ_ _ _ _ _=>(uq wo hr (by rfl) (qM (pv 0) (cU 1 (cU 2 (cU 3 (cU 4 (cU 5 cQ))))))))))) dM)))))))
def Jc (M0:Bt B) (p:js B.K "tree_for" uW) (Z:qN B.K (dh Cs)) (RM:zk B.P B.w B.K B.mg B.Zc 49 (dh Cs) "Search") (u7:Uj B 50 (dh Cs) "tree_from" (iO 14)) (u4:sO B 50 (dh Cs) "winner_at" lg):Ca B (51) "tree_for" sL:=by
 refine uR M0.on p λF T=>P5 F uX (λfC A ε s H E hr C0 H0=>?_)
 letI:=μ.keep
 exact(Ka 1 uX.nd (abQ Z RM hr (by rfl) (eI 0)) (λA G C1 H1=>by letI:=dq (dh Cs) A G;unfold kj;exact(cW (fc 2 uX.nd (oB Z u4 hr (pv 1) (cP (eJ cQ) (cP (eJ cQ) (cP (dY (cN 0)) cQ)))))
  (cX (dr (eJ (cU 2 (cP (uq u7 hr (by rfl) (qM (pv 1) (cU 2 (cP (eJ cQ) (cP (eJ cQ) (cP (dY (cN 0)) cQ)))))) cQ))))))))
def zU (M0:Bt B) (p:js B.K "fits_own_turn" me) (iK:Ca B (8+n) "behind" gT) (K7:Ca B (8+n) "is_claim" l7) (jE:Ca B (8+n) "is_tree_from" da) (gi:Ca B (8+n) "other_hand" dZ):Ca B (8+n+1) "fits_own_turn" (gF 6 5 (iH da)):=by
 refine uR M0.on p λF T=>fT F mf (λm fC A ε s H E hr C0 H0=>?_)
 exact(cW (fu (Hm.pt (rV (eE (Fv hr.units) (WD.o (eO mB M0.len jv (dD (cN 4) dM))) (WD.o dH)) (rT (iU (ip (dc K7 hr (cU 0 (cU 2 (cU 3 (cU 1 (cP (dY (cN 4)) cQ))))))))))) (cX (dr jU)) dU)
  (cW (fc 5 mf.nd (dc iK hr (cU 2 (cU 3 (cU 1 (cP (dY (cN 4)) cQ))))))
  (cX (dr (dc jE hr (cU 0 (cU 1 (cP (dY (cN 5)) (cP (dY (cN 5)) (cP (dc gi hr (cU 1 cQ)) (cP (dY (cN 4)) cQ)))))))))))
def xb (M0:Bt B) (p:js B.K "fits_other_turn" kW) (iK:Ca B (8+n) "behind" gT) (pE:Ca B (8+n) "claims" jA) (jE:Ca B (8+n) "is_tree_from" da) (gi:Ca B (8+n) "other_hand" dZ):Ca B (8+n+1) "fits_other_turn" (gF 10 5 (gZ da)):=by
 refine uR M0.on p λF T=>fT F fD (λm fC A ε s H E hr C0 H0=>?_)
 exact(cW (fc 5 fD.nd (dc gi hr (cU 1 cQ)))
  (cW (fc 6 fD.nd (dc pE hr (cU 0 (cU 2 (cU 3 (cU 5 cQ))))))
  (cW (fu (eE (Fv hr.units) (WD.o (eO mB M0.len jv (dD (cN 4) dM))) (WD.o (eO mB M0.len jv (dD (cN 6) dM)))) (cX (dr jU)) dU)
  (cW (Ma [7,8] (f:=(eF da)) bB rfl (by rfl) M0.zip (eI 6) (eI 4) (j4 (fx (i:=7) fD.nd rfl) (j4 (fx (i:=8) fD.nd rfl) xj)) (cW (fc 9 fD.nd (dc iK hr (cU 2 (cU 3 (cU 5 (cU 7 cQ))))))
  (cX (fu (iU (ip (dc jE hr (cU 0 (cU 1 (cP (dY (cN 9)) (cP (dY (cN 9)) (cU 1 (cU 8 cQ))))))))) (cX (dr jU)) dU))))
  (cX (dr jU))))))
def AX (M0:Bt B) (p:js B.K "is_tree_from" nh) (zT:Ca B (8+n) "decided" lX) (yM:Ca B (8+n) "fits_other_turn" dA) (AY:Ca B (8+n) "fits_own_turn" dI):Ca B (8+n+1) "is_tree_from" (gF 7 6 (jd dA dI)):=by
 refine uR M0.on p λF T=>fT F ni (λm fC A ε s H E hr C0 H0=>?_)
 have hu:=hr.units;exact(cW (fc 6 ni.nd (dc zT hr (cU 0 (cU 2 (cU 3 cQ)))))
  (cW (fu (eE (xF) (cN 6) (WD.o wC)) (cX (dr (JX (qe (qc hu) (cN 6) (cN 1)) (JW (qe (qc hu) (cN 5) (WD.o (eJ cQ))))))) dU)
  (cW (fu (iU (ip (qf kit_tuple fF (cN 5) (by rfl) M0.isinstance (by rfl) M0.tuple))) (cX (dr jU)) dU)
  (cW (fu (eE (qc hu) (cN 4) (cN 1)) (cX (dr (dc AY hr (cU 0 (cU 1 (cU 2 (cU 3 (cU 5 cQ)))))))) dU)
  (cX (dr (dc yM hr (cU 0 (cU 1 (cU 2 (cU 3 (cU 5 cQ))))))))))))
def K8 (M0:Bt B) (p:js B.K "is_tree" w4) (jE:Ca B 23 "is_tree_from" (iI 14)):Ca B (24) "is_tree" oh:=by
 refine uR M0.on p λF T=>fT F KZ (λm fC A ε s H E hr C0 H0=>?_)
 exact(cX (dr (dc jE hr (cU 0 (cU 1 (cP (eJ cQ) (cP (eJ cQ) (cP (dY (cN 0)) (cU 2 cQ)))))))))
def Jd (M0:Bt B) (p:js B.K "_law_mix" uY):Ca B (1) "_law_mix" eX:=by
 refine uR M0.on p λF T=>fT F IU (λm fC A ε s H E hr C0 H0=>?_)
 exact(cX (dr (wD (WD.o (wD (WD.o (FE (cN 0) (WD.o dH))) (cN 1))) (cN 2))))
def D7 (M0:Bt B) (p:js B.K "_law_field" qz) (jF:Ca B 1 "_law_mix" eX):Ca B (2) "_law_field" gg:=by
 refine uR M0.on p λF T=>fT F gJ (λm fC A ε s H E hr C0 H0=>?_)
 have hu:=hr.units;exact(cW (fc 4 gJ.nd (jX (cN 1) (WD.o (dc jF hr (cU 0 (cP dH (cP (jX (WD.o (oy (cN 2) (cN 1))) (WD.o dH)) cQ)))))))
  (cW (rX 5 gJ.nd (wF cQ))
  (cW (lA (f:=ja) bB rfl (lU (by rfl) M0.range (cP (dc jF hr (cU 0 (cP dH (cP (jX (cN 3) (WD.o dH)) cQ)))) cQ)) (fx (i:=6) gJ.nd rfl) (cW (fc 7 gJ.nd (jX (WD.o dH) (WD.o (dc jF hr (cP (jX (cN 0) (WD.o (FE (WD.o dH) (cN 6)))) (cP dH (cP (eO (Pp rfl) M0.min Fy (dD (WD.o dH) (dD (cN 4) dM))) cQ)))))))
  (cW (fu (Hm.pt (FG (eE (VX) (WD.o (wD (cN 0) (WD.o dH))) (WD.o dH)) (FG (eE (qc hu) (cN 7) (WD.o dH)) (Hn (eE (VX) (cN 4) (WD.o dH)))))) (cX (fc 7 gJ.nd dH)) dU)
  (cW (rX 8 gJ.nd (FJ rfl (by rfl) M0.list (by rfl) M0.range (cU 4 cQ)))
  (cW (SW 9 10 8 rfl (by decide) ⟨rfl,rfl,rfl,gJ.nd⟩ (lU (by rfl) M0.range (cU 7 cQ)) (λ_ _ _ _ _=>pv 8) (λ_ _ _ _ _=>(dc jF hr (cP (jX (WD.o (jX (cN 0) (WD.o (FE (WD.o dH) (cN 6))))) (WD.o (FE (WD.o dH) (cN 10)))) (cP dH (cP (oy (cN 4) (cN 10)) cQ))))))
  (mD 9 (cX (fu (eE (vg hu) (WD.o (f7 jk M0.tuple fF (dD (WD.o (WF.d (oz (BM hu) M0.sorted jh (dD (cN 9) dM)))) dM))) (cN 5)) (cX (PL (pv 5) (f7 jk M0.tuple fF (dD (WD.o (WF.d (oz (BM hu) M0.sorted jh (dD (cN 9) dM)))) dM)))) dU))))))))
  (cX (dr (eJ (cU 4 (cP (f7 jk M0.tuple fF (dD (WD.o (WF.d (oz (BM hu) M0.sorted jh (dD (cN 5) dM)))) dM)) cQ))))))))
def GG (M0:Bt B) (p:js B.K "_law_game" sZ) (GH:Ca B 2 "_law_field" gg) (jF:Ca B 2 "_law_mix" eX):Ca B (3) "_law_game" hX:=by
 refine uR M0.on p λF T=>fT F yL (λm fC A ε s H E hr C0 H0=>?_)
 exact(cW (fc 4 yL.nd (dc GH hr (cU 0 (cU 1 (cU 2 (cU 3 cQ))))))
  (cX (dr (eJ (cU 4 (cP (dc jF hr (cU 0 (cP dH (cP dH cQ)))) (cP (jX (WD.o dH) (WD.o (FF (WD.o (dc jF hr (cU 0 (cP dH (cP dH cQ))))) (WD.o dH)))) (cP (jX (WD.o dH) (WD.o (FF (WD.o (dc jF hr (cU 0 (cP dH (cP dH cQ))))) (WD.o dH)))) cQ))))))))
def GI (M0:Bt B) (p:js B.K "_law_over" tu):Ca B (1) "_law_over" hZ:=by
 refine uR M0.on p λF T=>fT F lQ (λm fC A ε s H E hr C0 H0=>?_)
 exact(cW (lA (f:=gU) bB rfl (gf (dY (WD.o (dY (cN 0))))) (fx (i:=3) lQ.nd rfl) (cX (fu (iU (xP (WD.o (WF.d (jL 4 rfl ⟨rfl,rfl,rfl,lQ.nd⟩ (Ae.weak (gf (eI 3))) (λ_ _ _ _ _=>(eE (vg hr.units) (cN 4) (cN 1))) (λ_ _ _ _ _=>(eI 4))))))) (cX (dr dH)) dU)))
  (cW (lA (f:=gW) bB rfl (gf (dY (WD.o (dY (cN 0))))) (fx (i:=3) lQ.nd rfl) (cX (fu (iU (xP (WD.o (WF.d (jL 4 rfl ⟨rfl,rfl,rfl,lQ.nd⟩ (Ae.weak (gf (eI 3))) (λ_ _ _ _ _=>(eE (Pn hr.units) (cN 4) (cN 2))) (λ_ _ _ _ _=>(eI 4))))))) (cX (dr wC)) dU)))
  (cX (dr dH))))
def Dc (M0:Bt B) (p:js B.K "_law_claims" pA):Ca B (1) "_law_claims" gh:=by
 refine uR M0.on p λF T=>fT F gm (λm fC A ε s H E hr C0 H0=>?_)
 exact(cW (xM 4 9 rfl ⟨rfl,rfl,rfl,gm.nd⟩ (Ae.weak (lU (by rfl) M0.range (cP (dY (WD.o (dY (cN 0)))) cQ))) (λ_ _ _ _ _=>(eE (vg hr.units) (cN 9) (WD.o (ky (cN 1) (cN 2))))) (λ_ _ _ _ _=>(eI 9)))
  (mD 4 (cW (rX 5 gm.nd (wF (cP (eJ cQ) cQ)))
  (mD 5 (cW (lA (f:=gM) bB rfl (lU (by rfl) M0.range (cP (eO (Pp rfl) M0.min Fy (dD (WD.o (rY (cN 0) (WD.o (jX (WD.o dH) (cN 3))) (λ_ _=>rfl))) (dD (WD.o (eO mB M0.len jv (dD (cN 4) dM))) dM))) cQ)) (fx (i:=6) gm.nd rfl) (cW (rX 7 gm.nd (wF cQ))
  (cW (lA (f:=iE) bB rfl (xK (eI 5)) (fx (i:=8) gm.nd rfl) (cX (Wf (pv 7) (jL 9 rfl ⟨rfl,rfl,rfl,gm.nd⟩ (FH (cN 4)) (λ_ _ _ _ _=>(Hm.pt (rV (eE (qc hr.units) (cN 8) (WD.o (eJ cQ))) (rT (eE (VX) (cN 9) (WD.o (rY (cN 8) (WD.o (V9 (WD.o dH))) (λ_ _=>rfl)))))))) (λ_ _ _ _ _=>(ky (cN 8) (WD.o (eJ (cU 9 cQ)))))))))
  (mD 7 (cX (fc 5 gm.nd (eI 7)))))))
  (cX (dr (eI 5))))))))
def Je (M0:Bt B) (p:js B.K "_law_put" uZ):Ca B (1) "_law_put" iq:=by
 refine uR M0.on p λF T=>fT F IV (λm fC A ε s H E hr C0 H0=>?_)
 have hu:=hr.units;exact(cW (fu (eE (qc hu) (cN 2) (WD.o dH)) (cX (dr (eJ (cP (f7 jk M0.tuple fF (dD (WD.o (WF.d (oz (vj hu) M0.sorted jh (dD (WD.o (ky (cN 0) (cN 3))) dM)))) dM)) (cU 1 cQ))))) dU)
  (cX (dr (eJ (cU 0 (cP (f7 jk M0.tuple fF (dD (WD.o (WF.d (oz (vj hu) M0.sorted jh (dD (WD.o (ky (cN 1) (cN 3))) dM)))) dM)) cQ))))))
def Dd (M0:Bt B) (p:js B.K "_law_winner" pB) (qC:Ca B (1+n) "_law_claims" gh) (u9:Ca B (1+n) "_law_over" hZ) (tE:Ca B (1+n) "_law_put" iq) (qD:CaM B (1+n) "_law_winner" 1 Rg dv):CaM B (1+n+1) "_law_winner" 1 Rg (Ht 9 5 1 Rg (λM=>lL M dv)):=by
 refine uR M0.on p λF T=>S5 1 Rg F gp (λa M fC A ε s H E hr C0 H0=>?_)
 letI:=eM a M
 have hu:=hr.units;exact(cW (Ni [5,6,7,8] hu (eJ (cU 2 (cU 3 (cU 4 cQ)))) (pv 1) (cW (fc 5 gp.nd (dc u9 hr (cU 0 (cU 2 (cU 3 cQ)))))
  (cW (fu (eE (abF) (cN 5) (WD.o wC)) (cW (fc 5 gp.nd (oy (WD.o dH) (cN 4)))
  (cX (lA (f:=(gN M dv)) bB rfl (xK (dc qC hr (cU 0 (cU 2 (cU 3 (cU 4 cQ)))))) (fx (i:=6) gp.nd rfl) (cW (JZ [7,8] rfl (dc tE hr (cU 2 (cU 3 (cU 4 (cU 6 cQ))))) (j4 (fx (i:=7) gp.nd rfl) (j4 (fx (i:=8) gp.nd rfl) xj)))
  (cX (fu (eE (Fv hu) (cN 5) (cN 4)) (cX (fc 5 gp.nd (P0 qD hr (by rfl) (PX (eI 0) (qM (pv 1) (cU 7 (cU 8 (cP (oy (WD.o dH) (cN 4)) cQ)))))))) dU)))))) dU)
  (cX (J5 hu (eI 5) (pv 1) (eJ (cU 2 (cU 3 (cU 4 cQ)))))))))
  (cX (dr (J4 hu (pv 1) (eJ (cU 2 (cU 3 (cU 4 cQ)))) (λ_ _=>rfl)))))
def AZ (M0:Bt B) (p:js B.K "_law_is_tree" nj) (qC:Ca B (1+n) "_law_claims" gh) (jG:Ca B (1+n) "_law_is_tree" cT) (u9:Ca B (1+n) "_law_over" hZ) (tE:Ca B (1+n) "_law_put" iq):Ca B (1+n+1) "_law_is_tree" (gF 13 6 (je cT)):=by
 refine uR M0.on p λF T=>fT F eU (λm fC A ε s H E hr C0 H0=>?_)
 have hu:=hr.units;exact(cW (fc 6 eU.nd (dc u9 hr (cU 0 (cU 1 (cU 2 cQ)))))
  (cW (fu (iU (ip (qf kit_tuple fF (cN 5) (by rfl) M0.isinstance (by rfl) M0.tuple))) (cX (dr jU)) dU)
  (cW (fu (eE (xF) (cN 6) (WD.o wC)) (cX (dr (JX (qe (qc hu) (cN 6) (cN 4)) (JW (qe (qc hu) (WD.o (eO mB M0.len jv (dD (cN 5) dM))) (WD.o dH)))))) dU)
  (cW (fc 7 eU.nd (dc qC hr (cU 0 (cU 1 (cU 2 (cU 3 cQ))))))
  (cW (fu (eE (qc hu) (cN 3) (cN 4)) (cW (fu (Hm.pt (rV (eE (Fv hu) (WD.o (eO mB M0.len jv (dD (cN 5) dM))) (WD.o dH)) (rV (iU (ip (qf kit_tuple fF (WD.o (dY (cN 5))) (by rfl) M0.isinstance (by rfl) M0.tuple))) (rT (eE (vg hu) (WD.o (dY (cN 5))) (cN 7)))))) (cX (dr jU)) dU)
  (cW (fu (xP (WD.o (WF.d (jL 12 rfl ⟨rfl,rfl,rfl,eU.nd⟩ (Ae.weak (gf (dY (cN 5)))) (λ_ _ _ _ _=>(ip (qf BH Fw (cN 12) (by rfl) M0.isinstance (by rfl) M0.bool))) (λ_ _ _ _ _=>(eI 12)))))) (cX (dr jU)) dU)
  (cW (JZ [8,9] rfl (dc tE hr (cU 1 (cU 2 (cU 3 (cP (dY (cN 5)) cQ))))) (j4 (fx (i:=8) eU.nd rfl) (j4 (fx (i:=9) eU.nd rfl) xj)))
  (cX (dr (dc jG hr (cU 0 (cU 8 (cU 9 (cP (oy (WD.o dH) (cN 3)) (cU 4 (cP (dY (cN 5)) cQ)))))))))))) dU)
  (cW (fu (eE (Fv hu) (WD.o (eO mB M0.len jv (dD (cN 5) dM))) (WD.o (eO mB M0.len jv (dD (cN 7) dM)))) (cX (dr jU)) dU)
  (cW (Ma [10,11] (f:=(eY cT)) bB rfl (by rfl) M0.zip (eI 7) (eI 5) (j4 (fx (i:=10) eU.nd rfl) (j4 (fx (i:=11) eU.nd rfl) xj)) (cW (JZ [8,9] rfl (dc tE hr (cU 1 (cU 2 (cU 3 (cU 10 cQ))))) (j4 (fx (i:=8) eU.nd rfl) (j4 (fx (i:=9) eU.nd rfl) xj)))
  (cX (fu (iU (ip (dc jG hr (cU 0 (cU 8 (cU 9 (cP (oy (WD.o dH) (cN 3)) (cU 4 (cU 11 cQ))))))))) (cX (dr jU)) dU))))
  (cX (dr jU)))))))))
def De (M0:Bt B) (p:js B.K "_law_spoilt" pC) (qE:Ca B (0+n) "_law_spoilt" dW):Ca B (0+n+1) "_law_spoilt" (gF 4 2 (fO dW)):=by
 refine uR M0.on p λF T=>fT F lR (λm fC A ε s H E hr C0 H0=>?_)
 exact(cW (fu (Hm.pt (rV (iU (ip (qf kit_tuple fF (cN 0) (by rfl) M0.isinstance (by rfl) M0.tuple))) (rT (iU (xP (cN 0)))))) (cX (dr (rY (WD.o (WF.d (wF (cP wC (cP (eJ (cP (eJ cQ) cQ)) (cP (WF.d (wF cQ)) (cP dH (cP V7 cQ)))))))) (WD.o (wD (cN 1) (WD.o dH))) (λ_ _=>rfl)))) dU)
  (cW (fc 2 lR.nd (wD (cN 1) (WD.o (eO mB M0.len jv (dD (cN 0) dM)))))
  (cW (fc 3 lR.nd (wD (WD.o (FF (cN 1) (WD.o dH))) (WD.o dH)))
  (cW (fu (eE (YT hr.units) (cN 3) (WD.o dH)) (cX (dr (ky (WD.o (ky (WD.o (zj (cN 0) BN (rS (cN 2)))) (WD.o (eJ (cP (dc qE hr (cP (rY (cN 0) (cN 2) (λ_ _=>rfl)) (cP (FF (cN 1) (WD.o dH)) cQ))) cQ))))) (WD.o (zj (cN 0) (rS (WD.o (jX (cN 2) (WD.o dH)))) BN))))) dU)
  (cX (dr (rY (WD.o (WF.d (wF (cP (ky (WD.o (zj (cN 0) BN (rS (cN 2)))) (WD.o (zj (cN 0) (rS (WD.o (jX (cN 2) (WD.o dH)))) BN))) (cP (ky (cN 0) (WD.o (zj (cN 0) BN (rS (WD.o dH))))) (cP (S8 (cN 0)) cQ)))))) (WD.o (oy (cN 3) (WD.o dH))) (λ_ _=>rfl))))))))
def Xd (F:Bs B.K "law" "law" K0 f fd) (M0:Bt B) (Jf:Ca B 51 "_law_game" hX) (jG:Ca B 51 "_law_is_tree" (iJ 7)) (qE:Ca B 51 "_law_spoilt" (eW 14)) (qD:CaM B 51 "_law_winner" 1 Rg (ir 10)) (zV:Ca B 51 "is_tree" oh) (K9:Ca B 51 "tree_for" sL):gK B.P B.w B.K B.mg B.Zc nY (52) f fd ["_law_script"] (M8 Mw):=by
 refine P5 F qA (λfC A ε s H E hr C0 H0=>?_)
 letI:=μ.keep
 have hu:=hr.units;exact(cW (lA (f:=rE) bB rfl (xK (WF.d (PK (cN 0) BN (rS (WD.o dH))))) (fx (i:=1) qA.nd rfl) (cW (fc 2 qA.nd (dc Jf hr (cU 1 (cP dH (cP (jX (WD.o dH) (WD.o (f7 We M0.int Pq (dD (WD.o (qe (qc hu) (WD.o (wD (cN 1) (WD.o dH))) (WD.o dH))) dM)))) (cP dH cQ))))))
  (cW (fc 3 qA.nd (dc K9 hr (cU 2 cQ)))
  (cW (fc 4 qA.nd (P4 qD hr (by rfl) (PZ (eI 2) (PY (cP (eJ cQ) (cP (eJ cQ) (cP (dY (cN 2)) cQ)))))))
  (cW (fu (Hm.pt (rV (iU (ip (qf kit_tuple fF (cN 3) (by rfl) M0.isinstance (by rfl) M0.tuple))) (rV (eE (Fv hu) (WD.o (eO mB M0.len jv (dD (cN 3) dM))) (WD.o dH)) (rT (eE (Fv hu) (WD.o (dY (cN 3))) (cN 4)))))) (cX (dr jU)) dU)
  (cW (fu (iU (ip (dc jG hr (cU 2 (cP (eJ cQ) (cP (eJ cQ) (cP (dY (cN 2)) (cU 4 (cP (dY (cN 3)) cQ))))))))) (cX (dr jU)) dU)
  (cW (fu (eE (xF) (WD.o (dc zV hr (cU 2 (cU 4 (cP (dY (cN 3)) cQ))))) (WD.o jU)) (cX (dr jU)) dU)
  (cW (fu (eE (xF) (WD.o (dc zV hr (cU 2 (cP (oy (WD.o dH) (cN 4)) (cP (dY (cN 3)) cQ))))) (WD.o jU)) (cX (dr jU)) dU)
  (cX (lA (f:=rD) bB rfl (xK (WF.d (PK (cN 0) (rS (WD.o dH)) (rS (WD.o dH))))) (fx (i:=5) qA.nd rfl) (cW (fc 6 qA.nd (dc qE hr (cP (dY (cN 3)) (cU 5 cQ))))
  (cX (lA (f:=rC) bB rfl (gf (eJ (cP dH (cP dH cQ)))) (fx (i:=7) qA.nd rfl) (cW (fc 8 qA.nd (dc zV hr (cU 2 (cU 7 (cU 6 cQ)))))
  (cW (fc 9 qA.nd (dc jG hr (cU 2 (cP (eJ cQ) (cP (eJ cQ) (cP (dY (cN 2)) (cU 7 (cU 6 cQ))))))))
  (cX (fu (Hm.pt (rV (iU (ip (qf BH Fw (cN 8) (by rfl) M0.isinstance (by rfl) M0.bool))) (rT (eE (Fv hu) (cN 8) (cN 9))))) (cX (dr jU)) dU)))))))))))))))))
  (cX (dr jU)))
def Jg (F:Bs B.K "__init__" "Search.__init__" u0 f fd) (Z:qN B.K (dh Cs)):gK B.P B.w B.K B.mg B.Zc nY 1 f fd ["self","game"] (J8 (dh Cs)):=S7 (dh Cs) F IW rfl (λfC Ar ε s H E=>Qa Z (pv 0) (pv 1) (pv 0) rfl rfl)
end
def all_mk {P:cB}{w:cC}{K:W.Frag}{h:Heap}{mg:cm}(X:K.In h) (G:h.Ns mainGlobals mg) (hfa:mg "law"=some (.ref fa))
  {Cs:cF}(aC:W.nsIn K mainGlobals "Search"=some (some (.ref Cs)))
  (pgC:W.plainGet K Cs Str.empty=true)
  (hdC:W.hasDictIn K Cs=true)
  (poC:W.plainOver K Cs=true)
  (saC:W.findIn K (.ref Cs) "__setattr__"=some (some (.builtin "object.__setattr__")))
  (mkC:W.makesIn K Cs=true)
  (kcC:W.keepIn K (.ref Cs)=true)
  (nGC:W.findIn K (.ref Cs) "game"=some none)
  (nKC:W.findIn K (.ref Cs) "known"=some none)
  (pI:MD K Cs "game" "known" "__init__" "Search.__init__" u0)
  (p0:js K "is_number" sP)
  (p1:js K "has_all" wW)
  (p2:js K "has_some" uS)
  (p3:js K "at_a_time" sQ)
  (p4:js K "other_hand" qw)
  (p5:js K "choices" wX)
  (p6:js K "free_points" pe)
  (p7:js K "claims" zO)
  (p8:js K "behind" zP)
  (p9:js K "decided" wY)
  (p10:js K "is_claim" uT)
  (p11:js K "free_part" sU)
  (p12:js K "has_another" ph)
  (p13:js K "spoils" zQ)
  (p14:js K "points_by_use" md)
  (p15:js K "open_lines" qx)
  (p16:MD K Cs "game" "known" "worth_trying" "Search.worth_trying" m8)
  (p17:MD K Cs "game" "known" "searched" "Search.searched" uV)
  (p18:MD K Cs "game" "known" "winner_of" "Search.winner_of" sV)
  (p19:MD K Cs "game" "known" "winner_at" "Search.winner_at" sW)
  (p20:MD K Cs "game" "known" "is_good" "Search.is_good" wZ)
  (p21:js K "left_to_do" qy)
  (p22:js K "chosen_claim" ng)
  (p23:js K "tree_behind" pj)
  (p24:js K "tree_from" sX)
  (p25:js K "tree_for" uW)
  (p26:js K "fits_own_turn" me)
  (p27:js K "fits_other_turn" kW)
  (p28:js K "is_tree_from" nh)
  (p29:js K "is_tree" w4)
  (p30:js K "_law_mix" uY)
  (p31:js K "_law_field" qz)
  (p32:js K "_law_game" sZ)
  (p33:js K "_law_over" tu)
  (p34:js K "_law_claims" pA)
  (p35:js K "_law_put" uZ)
  (p36:js K "_law_winner" pB)
  (p37:js K "_law_is_tree" nj)
  (p38:js K "_law_spoilt" pC)
  (p39:js K "law" K0)
  (z0:W.nsIn K mainGlobals "all"=some none)
  (z1:W.nsIn K mainGlobals "any"=some none)
  (z2:W.nsIn K mainGlobals "bool"=some none)
  (z3:W.nsIn K mainGlobals "int"=some none)
  (z4:W.nsIn K mainGlobals "isinstance"=some none)
  (z5:W.nsIn K mainGlobals "len"=some none)
  (z6:W.nsIn K mainGlobals "list"=some none)
  (z7:W.nsIn K mainGlobals "min"=some none)
  (z8:W.nsIn K mainGlobals "range"=some none)
  (z9:W.nsIn K mainGlobals "set"=some none)
  (z10:W.nsIn K mainGlobals "sorted"=some none)
  (z11:W.nsIn K mainGlobals "tuple"=some none)
  (z12:W.nsIn K mainGlobals "zip"=some none)
  {t0:Tok}(y0:W.nsIn K mainGlobals "BUILDER"=some (some (.int 0 t0)))
  {t1:Tok}(y1:W.nsIn K mainGlobals "GUARD"=some (some (.int 1 t1)))
  (tq:(W.tabIn K "points_by_use").isSome=true)
  (A0:(W.tabIn K "chosen_claim").isSome=true)
  :∃fd:cA,(∀(s:cz) (v:cy),BindsTo s fd ⟨[v],[]⟩ [("_law_script",v)])/\∀Zc:Heap,K.In Zc->Zc.Ns mainGlobals mg->gK P w K mg Zc nY 65 fa fd ["_law_script"] (M8 Mw):=by
 obtain⟨_,_,FI,mI,nI⟩:=pI.ex;obtain⟨_,acU,A39,F39,T39⟩:=p39.get X G;cases hfa.symm.trans A39;have MB:∀b,Bt ⟨P,w,K,mg,b⟩:=λb=>⟨⟨_,X,G⟩,bG X G z0,bG X G z1,bG X G z2,bG X G z3,bG X G z4,bG X G z5,bG X G z6,bG X G z7,bG X G z8,bG X G z9,bG X G z10,bG X G z11,bG X G z12,⟨_,aP X G y0⟩,⟨_,aP X G y1⟩⟩
 refine⟨acU,λs v=>(by obtain⟨_,_,_,_,_,_,_,_,_,e,_⟩:=id F39.ex;rw[e];exact .of_eq rfl),λZc _ _=>?_⟩
 have M0:=MB Zc;have Z:qN K (dh Cs):=⟨⟨pgC,hdC,poC,saC⟩,nGC,nKC⟩;have RN:zk P w K mg Zc 1 (dh Cs) "Search":=⟨_,_,_,(Jg (B:=⟨P,w,K,mg,Zc⟩) FI Z),⟨mkC,mI.at_,mI.fn,kcC⟩,aP X G aC,RK FI,(show Str.ofString "known"≠Str.ofString "game" by decide +kernel)⟩
 obtain⟨⟨ctq,Ptq⟩,htq⟩:=Option.isSome_iff_exists.mp tq;obtain⟨⟨Ob,Oc⟩,A3⟩:=Option.isSome_iff_exists.mp A0;have C1:=λb=>K1 (MB b) p1
 have C2:=λb=>IX (MB b) p2
 have C8:=λb=>NW (MB b) p8
 have C11:=λb=>GB (MB b) p11
 have C12:=λb=>CV (MB b) p12 (C1 b).mono
 have C15:=λb=>D4 (MB b) p15 (C11 b).mono (C12 b).mono (C2 b).mono
 have C21:=λb=>D6 (MB b) p21
 have C0:=Gz M0 p0;have C3:=GA M0 p3;have C4:=DZ M0 p4;have C5:=Nat.rec (motive:=λn=>Ca _ (1+n) "choices" (fP n)) (Gv M0.on p5 o9 vi) (λn ih=>(K2 (n:=1+n) M0 p5 ih.mono).mono) 5
 have C6:=CU M0 p6;have C7:=NV M0 p7 C3.mono C5.mono C6.mono;have C9:=K3 M0 p9 (C1 Zc).mono (C2 Zc).mono;have C10:=IY M0 p10 C7.mono C0.mono;have C13:=NX M0 p13 (C2 Zc).mono;have C14:=zS M0 p14 htq;have C16:=AU M0 p16 Z C3.mono C5.mono C14.mono C13.mono;obtain⟨C17,C18⟩:=Nat.rec (motive:=λn=>(sO ⟨P,w,K,mg,Zc⟩ (8+n) (dh Cs) "searched" (oX n))/\(sO ⟨P,w,K,mg,Zc⟩ (8+n) (dh Cs) "winner_of" (iN n))) ⟨Va M0.on p17 lh xR,Va M0.on p18 yK xR⟩ (λn ih=>⟨(Jb (n:=1+n) M0 p17 Z C3.mono (C8 Zc).mono (C15 Zc).mono C4.mono ih.2.mono C16.mono).mono,(GC (n:=1+n) M0 p18 Z ih.1.mono).mono⟩) 24
 have C19:=GD M0 p19 Z (C15 Zc).mono C18.mono;have C20:=K6 M0 p20 Z (C8 Zc).mono C4.mono C19.mono;have C22:=AW M0 p22 Z A3 (λb=>(C8 b).mono) C7.mono C20.mono (λb=>(C21 b).mono) (λb=>(C15 b).mono)
 obtain⟨C23,C24⟩:=Nat.rec (motive:=λn=>(Uj _ (36+n) (dh Cs) "tree_behind" (eC n))/\(Uj _ (36+n) (dh Cs) "tree_from" (iO n))) ⟨Gv M0.on p23 pq xR,Gv M0.on p24 lP xR⟩ (λn ih=>⟨(CY (n:=1+n) M0 p23 Z (C8 Zc).mono C4.mono ih.2.mono).mono,(GF (n:=1+n) M0 p24 Z C22.mono C7.mono C9.mono ih.1.mono).mono⟩) 14
 have C25:=Jc M0 p25 Z RN.mono C24.mono C19.mono;obtain⟨C26,C27,C28⟩:=Nat.rec (motive:=λn=>(Ca _ (9+n) "fits_own_turn" (tU n))/\(Ca _ (9+n) "fits_other_turn" (pX n))/\(Ca _ (9+n) "is_tree_from" (iI n))) ⟨Gv M0.on p26 mf vi,Gv M0.on p27 fD vi,Gv M0.on p28 ni vi⟩ (λn ih=>⟨(zU (n:=1+n) M0 p26 (C8 Zc).mono C10.mono ih.2.2.mono C4.mono).mono,(xb (n:=1+n) M0 p27 (C8 Zc).mono C7.mono ih.2.2.mono C4.mono).mono,(AX (n:=1+n) M0 p28 C9.mono ih.2.1.mono ih.1.mono).mono⟩) 14
 have C29:=K8 M0 p29 C28.mono;have C30:=Jd M0 p30;have C31:=D7 M0 p31 C30.mono;have C32:=GG M0 p32 C31.mono C30.mono;have C33:=GI M0 p33;have C34:=Dc M0 p34;have C35:=Je M0 p35;have C36:=Nat.rec (motive:=λn=>CaM _ (2+n) "_law_winner" 1 Rg (ir n)) (Gv M0.on p36 gp PV) (λn ih=>(Dd (n:=1+n) M0 p36 C34.mono C33.mono C35.mono ih.mono).mono) 10
 have C37:=Nat.rec (motive:=λn=>Ca _ (2+n) "_law_is_tree" (iJ n)) (Gv M0.on p37 eU vi) (λn ih=>(AZ (n:=1+n) M0 p37 C34.mono ih.mono C33.mono C35.mono).mono) 7
 have C38:=Nat.rec (motive:=λn=>Ca _ (1+n) "_law_spoilt" (eW n)) (Gv M0.on p38 lR vi) (λn ih=>(De (n:=1+n) M0 p38 ih.mono).mono) 14
 exact(Xd (B:=⟨P,w,K,mg,Zc⟩) F39 M0 C32.mono C37.mono C38.mono C36.mono C29.mono C25.mono).mono (by decide)
end K5
def K5.view:PySem.Program:={PySem.Challenge.pw_fieldclaim_k05_whole_trees with main:={PySem.Challenge.pw_fieldclaim_k05_whole_trees.main with body:=[K5.top 1,K5.top 3,K5.top 4,K5.top 5,K5.top 6,K5.top 7,K5.top 8,K5.top 9,K5.top 10,K5.top 11,K5.top 12,K5.top 13,K5.top 14,K5.top 16,K5.top 17,K5.top 18,K5.top 19,K5.top 20,K5.top 21,K5.top 23,K5.top 24,K5.top 25,K5.top 26,K5.top 27,K5.top 28,K5.top 29,K5.top 30,K5.top 31,K5.top 33,K5.top 34,K5.top 35,K5.top 36,K5.top 37,K5.top 38,K5.top 39,K5.top 40,K5.top 41,K5.top 42,K5.top 43,K5.top 44]}}
open PySem.W
local macro_rules|`(tactic|o_head $H)=>do let hl:=Lean.mkIdent `hl;let hw:=Lean.mkIdent `hw;let hc:=Lean.mkIdent `hc;`(tactic|(refine holds_open (q:=K5.view) (loose:=[]) (Xt:=λs=>xlAt K5.view [] s&&recOk (RowW.records (OpenRow.toRowW (OpenLaw.row PySem.Challenge.rw_fieldclaim_k05_whole_trees))) s) (XP:=XL K5.view []) (Yf:=Hook.obs $H) (Ya:=Hook.val $H) (YP:=Hook.says $H) (N:=3100) ?$hl (Hook.of $H) (Hook.keeps $H) (λs e=>xl_of s (Bool.and_eq_true_iff.mp e).1) XL.keeps (by rfl) (by rfl) (by rfl) (λs e=>recFacts_of (Bool.and_eq_true_iff.mp e).2) (by rfl) (by first|assumption|decide +kernel) (by decide +kernel) ⟨rfl,rfl,rfl,rfl,rfl,by decide +kernel⟩ ?$hw ?$hc;(case $hl:ident=>intro w;kernel_rfl)))
set_option maxRecDepth 100000 in
set_option maxHeartbeats 0 in
theorem PySem.Challenge.cw_fieldclaim_k05_whole_trees_holds : PySem.Challenge.rw_fieldclaim_k05_whole_trees.Holds := by
 w_on;o_law;k_head;(case hw=>w_witness2)
 k_fill
 refine DL.Y1 (l:=PySem.Challenge.rw_fieldclaim_k05_whole_trees) (x:="_law_script") (g:=K5.Mw) rfl rfl (λw h Y=>by first|exact PySem.W.kIn_of Y|exact PySem.W.km_in_of Y) K5.Ui ?R ?F
 case R=>intro t ht;simp only[L2.vD,mem_cons,bJ,or_false]at ht;rcases ht with rfl|rfl<;>kernel_rfl
 case F=>
  intro w mg fa h KX G YA;refine⟨?z,?t,?r⟩
  case z=>kernel_rfl
  case t=>kernel_rfl
  case r=>
   refine' K5.all_mk KX G YA ?_ ?_ ?_ ?_ ?_ ?_ ?_ ?_ ?_ ?_ ?_ ?_ ?_ ?_ ?_ ?_ ?_ ?_ ?_ ?_ ?_ ?_ ?_ ?_ ?_ ?_ ?_ ?_ ?_ ?_ ?_ ?_ ?_ ?_ ?_ ?_ ?_ ?_ ?_ ?_ ?_ ?_ ?_ ?_ ?_ ?_ ?_ ?_ ?_ ?_ ?_ ?_ ?_ ?_ ?_ ?_ ?_ ?_ ?_ ?_ ?_ ?_ ?_ ?_ ?_ ?_ ?_
   all_goals first|(refine' DL.Xb ?a ?l ?c ?k;(case a=>k_is);(case l=>k_is);(case c=>k_is);case k=>k_is)|(refine' DL.Xc ?a ?i ?l ?c ?k ?n;(case a=>k_is);(case i=>k_is);(case l=>k_is);(case c=>k_is);(case k=>k_is);case n=>decide +kernel)|k_is|kernel_rfl|skip
