import PyProof.Rows.All
import Wide.All
import OpenK.AllK
import Wide.FinOn
import Lean
import PyProof.EqAt
import PyProof.EqKinds
import PyProof.TupleCall
import PySem.Challenge.RW_linepress_k08_rows_put_together
set_option Elab.async false
set_option genSizeOfSpec false
set_option genInjectivity false
def PySem.W.Fast.tw10071965311600328019:=()
def PySem.W.Fast.tw16784993004579857491:=()
def PySem.W.Fast.tw8922841616537894470:=()
def PySem.W.Fast.tw11797563027568405591:=()
def PySem.W.Fast.tw14247851123257028164:=()
def PySem.W.Fast.tw6904427187063443886:=()
def PySem.W.Fast.tw3134744712559399915:=()
def PySem.W.Fast.tw3837332548834558453:=()
def PySem.W.Fast.tw1694909462872497148:=()
def PySem.W.Fast.tw9798086385688077597:=()
def PySem.W.Fast.tw11340806441804803953:=()
def PySem.W.Fast.tw1369945586231264459:=()
def PySem.W.Fast.tw12562390903620984390:=()
def PySem.W.Fast.tw15683640915969629090:=()
def PySem.W.Fast.tw14931194776102078697:=()
def PySem.W.Fast.tw16839920974502400051:=()
def PySem.W.Fast.tw8077453458097855775:=()
def PySem.W.Fast.tw5636326876501809816:=()
def PySem.W.Fast.tw12248273833678147690:=()
def PySem.W.Fast.tw10025796805036075760:=()
def PySem.W.Fast.tw16834270187609326686:=()
def PySem.W.Fast.tw17235730719792642992:=()
def PySem.W.Fast.tw14616863672106800741:=()
def PySem.W.Fast.tw4038972258522205994:=()
def PySem.W.Fast.tw159576675581757929:=()
def PySem.W.Fast.tw9819576804976647848:=()
def PySem.W.Fast.tw15783590289610873176:=()
def PySem.W.Fast.tw3810305277600779925:=()
def PySem.W.Fast.tw13589760420527353983:=()
def PySem.W.Fast.tw6201551247970647959:=()
def PySem.W.Fast.tw14394280498679698514:=()
def PySem.W.Fast.tw16398261054595202364:=()
def PySem.W.Fast.tw5220178450644188135:=()
def PySem.W.Fast.tw17127919562472512271:=()
def PySem.W.Fast.tw8675405774302571818:=()
def PySem.W.Fast.tw15826559328184363750:=()
def PySem.W.Fast.tw3691172068008036894:=()
def PySem.W.Fast.tw931374063822753086:=()
def PySem.W.Fast.tw3580537528514824866:=()
set_option linter.all false
set_option maxRecDepth 100000
set_option maxHeartbeats 1000000
namespace L2
open PySem PySem.Spec PyProof.Rows
abbrev Key:=Sum Int Str
abbrev _root_.tz9:=Str->Addr
abbrev _root_.tz0:=PySem.W.Frag
abbrev _root_.tzA:=Str->Option Value
abbrev _root_.tzB:=List (Addr×Obj)
def wL:Key->Value->Bool
 | .inl k,v=>Value.isInt k v
 | .inr x,v=>Value.isStrOf x v
def xg7(w:World):Key->Int
 | .inl k=>hashInt k
 | .inr x=>hashStr w x
theorem iZ:∀{k:Key} {v:Value},wL k v=true->(∃i t,k=Sum.inl i/\v=Value.int i t)\/(∃x t,k=Sum.inr x/\v=Value.str x t)
 | .inl i,v,h=>by
  obtain⟨t,e⟩:=Value.isInt_shape (k:=i) (v:=v) h
  exact .inl ⟨i,t,rfl,e⟩
 | .inr x,v,h=>by
  obtain⟨t,e⟩:=Value.isStrOf_shape (x:=x) (v:=v) h
  exact .inr ⟨x,t,rfl,e⟩
theorem ya8(i:Int)(t:Tok):wL (.inl i) (.int i t)=true:=by simp [wL,Value.isInt]
theorem ya9(x:Str)(t:Tok):wL (.inr x) (.str x t)=true:=by simp [wL,Value.isStrOf]
theorem yv8(a b:Int):decide ((Sum.inl a:Key)=Sum.inl b)=(a==b):=by
 by_cases e:a=b
 ·subst e;simp
 ·have h:¬(Sum.inl a:Key)=Sum.inl b:=fun q=>e (Sum.inl.inj q)
  rw [decide_eq_false h]
  exact(beq_eq_false_iff_ne.mpr e).symm
theorem yv9(a b:Str):decide ((Sum.inr a:Key)=Sum.inr b)=decide (a=b):=by
 by_cases e:a=b
 ·subst e;simp
 ·have h:¬(Sum.inr a:Key)=Sum.inr b:=fun q=>e (Sum.inr.inj q)
  rw [decide_eq_false h,decide_eq_false e]
theorem yw0(a:Int)(b:Str):decide ((Sum.inl a:Key)=Sum.inr b)=false:=decide_eq_false (fun q=>nomatch q)
theorem yw1(a:Str)(b:Int):decide ((Sum.inr a:Key)=Sum.inl b)=false:=decide_eq_false (fun q=>nomatch q)
def gR(prog:Program)(w:World):PySem.KeyKind prog w Key where
 is:=wL
 hash:=xg7 w
 inj:=fun v a b ha hb=>by
  rcases iZ ha with ⟨i,t,rfl,rfl⟩|⟨x,t,rfl,rfl⟩
  ·rcases iZ hb with ⟨j,u,rfl,e⟩|⟨y,u,rfl,e⟩
   ·injection e with e1 _;rw [e1]
   ·exact nomatch e
  ·rcases iZ hb with ⟨j,u,rfl,e⟩|⟨y,u,rfl,e⟩
   ·exact nomatch e
   ·injection e with e1 _;rw [e1]
 byValue:=fun k v h=>by
  rcases iZ h with ⟨i,t,rfl,rfl⟩|⟨x,t,rfl,rfl⟩<;>rfl
 pyHash:=fun hv h=>by
  rcases iZ hv with ⟨i,t,rfl,rfl⟩|⟨x,t,rfl,rfl⟩
  ·exact wpAny_pyHash_int h
  ·exact wpAny_pyHash_str h
 eqBool:=fun hu hv h=>by
  rcases iZ hu with ⟨i,t,rfl,rfl⟩|⟨x,t,rfl,rfl⟩
  ·rcases iZ hv with ⟨j,u,rfl,rfl⟩|⟨y,u,rfl,rfl⟩
   ·rw [yv8] at h;exact wpAny_eqBool_int h
   ·rw [yw0] at h;exact SeqAt.EqAt.int_str i t y u _ _ _ _ h
  ·rcases iZ hv with ⟨j,u,rfl,rfl⟩|⟨y,u,rfl,rfl⟩
   ·rw [yw1] at h;exact SeqAt.EqAt.str_int x t j u _ _ _ _ h
   ·rw [yv9] at h;exact wpAny_eqBool_str h
 «strs»:=fun k x t v h=>by
  rcases iZ h with ⟨i,u,rfl,e⟩|⟨y,u,rfl,e⟩
  ·exact nomatch e
  ·injection e with e1 _
   subst e1
   cases v<;>rfl
theorem zq6(prog:Program)(w:World)(i:Int)(t:Tok):(gR prog w).is (.inl i) (.int i t)=true:=ya8 i t
theorem lU(prog:Program)(w:World)(x:Str)(t:Tok):(gR prog w).is (.inr x) (.str x t)=true:=ya9 x t
set_option genInjectivity true in
inductive V where
 |non|bl (b:Bool)|int (i:Int)|str (x:Str)|byt (b:Array UInt8)|flt (b:UInt64)|ref (a:Addr)|ty (n:String)
 deriving DecidableEq
def dQ:V->Value->Prop
 | .non,u=>u=Value.none
 | .bl b,u=>u=Value.bool b
 | .int i,u=>∃t,u=Value.int i t
 | .str x,u=>∃t,u=Value.str x t
 | .byt b,u=>∃t,u=Value.bytes b t
 | .flt b,u=>∃t,u=Value.float b t
 | .ref a,u=>u=Value.ref a
 | .ty n,u=>u=Value.type n
abbrev cV:List V->List Value->Prop:=Paired dQ
theorem cV.length{xs:List V}{us:List Value}(r:cV xs us):xs.length=us.length:=Paired.length r
theorem cV.get:∀{xs:List V} {us:List Value} {i:Nat} {x:V},cV xs us->xs[i]? =some x->∃u,us[i]? =some u/\dQ x u
 |_,_,_,_,.nil,e=>by simp at e
 |_,_,0,_,.cons r _,e=>by simp at e;subst e;exact⟨_,rfl,r⟩
 |_,_,i+1,x,.cons _ t,e=>by
  obtain⟨u,h1,h2⟩:=cV.get (i:=i) (x:=x) t (by simpa using e)
  exact⟨u,by simpa using h1,h2⟩
theorem cV.set{x:V}{u:Value}(r:dQ x u):∀{xs:List V} {us:List Value} (i:Nat),cV xs us->cV (xs.set i x) (us.set i u)
 |_,_,_,.nil=> .nil
 |_,_,0,.cons _ t=> .cons r t
 |_,_,i+1,.cons q t=> .cons q (cV.set r i t)
theorem cV.append:∀{xs ys:List V} {us ws:List Value},cV xs us->cV ys ws->cV (xs++ys) (us++ws)
 |_,_,_,_,.nil,s=>s
 |_,_,_,_,.cons r t,s=> .cons r (cV.append t s)
theorem cV.take:∀{xs:List V} {us:List Value} (n:Nat),cV xs us->cV (xs.take n) (us.take n)
 |_,_,0,_=> .nil
 |_,_,_+1,.nil=> .nil
 |_,_,n+1,.cons r t=> .cons r (cV.take n t)
theorem cV.drop:∀{xs:List V} {us:List Value} (n:Nat),cV xs us->cV (xs.drop n) (us.drop n)
 |_,_,0,r=>r
 |_,_,_+1,.nil=> .nil
 |_,_,n+1,.cons _ t=>cV.drop n t
def kR:Option V->Option Value->Prop
 |some v,some u=>dQ v u
 |none,none=>True
 |_,_=>False
def KV{κ:Type}:List (κ×V)->List (κ×Value)->Prop:=Paired fun(p:κ×V) (q:κ×Value)=>p.1=q.1/\dQ p.2 q.2
def kV:Key->V
 | .inl i=> .int i
 | .inr x=> .str x
inductive HO where
 |lst (xs:List V)
 |tup (xs:List V)
 |dK (kvs:List (Key×V))|dT (kvs:List (List Key×V))
 |set (S:Int->Bool) (n:Nat)
 |ins (C dx:Addr) (fs:List (Str×V))
 |own (x:Addr)
 |xd (fs:List (Str×V))
 |met (f x:Addr)
 |rng (lo hi:Int)
 |frz (o:Obj) (u:HO)
 |tbl (ps:Array Value)
 |ext (φ:Heap->Prop)
abbrev Hp:=Addr->Option HO
def upd(H:Hp)(a:Addr)(o:HO):Hp:=fun b=>if b=a then some o else H b
theorem eT{H:Hp}{a:Addr}{o:HO}:upd H a o a=some o:=by unfold upd;rw [if_pos rfl]
theorem dW{H:Hp}{a b:Addr}{o:HO}(h:b≠a):upd H a o b=H b:=by unfold upd;rw [if_neg h]
theorem zs2{H:Hp}{a:Addr}{o u:HO}:upd (upd H a o) a u=upd H a u:=by
 funext b;unfold upd;split<;>rfl
theorem yo5{H:Hp}{a b:Addr}{o u:HO}(h:H a=some o)(h':H b=some u)(d:o≠u):a≠b:=by
 intro e;subst e;rw [h] at h';exact d (Option.some.inj h')
theorem gK{H:Hp}{a b:Addr}{o:HO}(h:H a=some o)(h':H b=none):a≠b:=by
 intro e;subst e;rw [h] at h';cases h'
section
variable(P:Program)(w:World)
def fL(H:Hp)(h:Heap)(a:Addr):HO->Prop
 | .lst xs=>xs.length<=sizeLine/\∃(its:List Value) (n:Nat),cV xs its/\h.get? a=some {cls:= .type "list",data:= .seq its.toArray n}
 | .tup xs=>xs.length<=sizeLine/\∃its:List Value,cV xs its/\IsTup h a its.toArray
 | .dK kvs=>kvs.length<=sizeLine/\(a==sysModules)=false/\∃vs,KV kvs vs/\h.DictOf (gR P w) a vs
 | .dT kvs=>kvs.length<=sizeLine/\(a==sysModules)=false/\∃xs:List (List Key×Addr×Value),
   Paired (fun(p:List Key×V) (q:List Key×Addr×Value)=>p.1=q.1/\H q.2.1=some (.tup (p.1.map kV))/\dQ p.2 q.2.2) kvs xs/\
   ∃o es ep,h.get? a=some o/\o.ExactDict/\o.data= .dict es ep/\es.toList=xs.map (entryOfKey (tupleKind (gR P w)))/\(xs.map (·.1)).Nodup
 | .set S n=>h.SetOf (intKind P w) a S n
 | .ins C dx fs=>H dx=some (.own a)/\fs.length<=1000/\dx≠a/\h.get? a=some (PySem.W.instObj C dx)/\
   ∃mA,h.Ns1 dx mA/\(∀f,kR (fs.lookup f) (mA f))/\PySem.Within mA (fs.map (·.1))
 | .own _=>∃o,h.get? a=some o
 | .xd fs=>∃mA,h.Ns1 a mA/\∀f,kR (fs.lookup f) (mA f)
 | .rng lo hi=>∃t u v,h.get? a=some {cls:= .type "range",data:= .fields #[.int lo t,.int hi u,.int 1 v]}
 | .frz o u=>h.get? a=some o/\fL H h a u
 | .tbl ps=>h.get? a=some {cls:= .none,data:= .fields ps}
 | .met f x=>h.get? a=some (PySem.W.methodObj (.ref f) (.ref x))
 | .ext φ=>φ h/\(∃o,h.get? a=some o)/\∀h1 h2:Heap,φ h1->(∀o,h1.get? a=some o->h2.get? a=some o)->φ h2
def HOk(H:Hp)(h:Heap):Prop:=∀a o,H a=some o->fL P w H h a o
end
section
variable{P:Program}{w:World}{H H':Hp}{h h':Heap}{a:Addr}{o:HO}
theorem fL.lt(x:fL P w H h a o):a<h.objs.size:=by
 cases o with
 |lst xs=>obtain⟨_,_,_,_,e⟩:=x;exact Heap.lt_size e
 |tup xs=>obtain⟨_,_,_,p⟩:=x;exact p.lt
 |dK kvs=>obtain⟨_,_,_,_,o,_,_,e,_⟩:=x;exact Heap.lt_size e
 |dT kvs=>obtain⟨_,_,_,_,o,_,_,e,_⟩:=x;exact Heap.lt_size e
 |set S n=>obtain⟨o,_,_,_,e,_⟩:=x;exact Heap.lt_size e
 |ins C dx fs=>obtain⟨_,_,_,e,_⟩:=x;exact Heap.lt_size e
 |own y=>obtain⟨_,e⟩:=x;exact Heap.lt_size e
 |xd fs=>obtain⟨_,⟨_,_,_,e,_⟩,_⟩:=x;exact Heap.lt_size e
 |rng lo hi=>obtain⟨_,_,_,e⟩:=x;exact Heap.lt_size e
 |frz ob u=>obtain⟨e,_⟩:=x;exact Heap.lt_size e
 |tbl ps=>exact Heap.lt_size (show h.get? a=some _ from x)
 |met f y=>exact Heap.lt_size (show h.get? a=some _ from x)
 |ext φ=>obtain⟨_,⟨_,e⟩,_⟩:=x;exact Heap.lt_size e
theorem Paired.mapP{α β:Type}{F G:α->β->Prop}:∀{l₁:List α} {l₂:List β},Paired F l₁ l₂->(∀a b,F a b->G a b)->Paired G l₁ l₂
 |_,_,.nil,_=> .nil
 |_,_,.cons r t,f=> .cons (f _ _ r) (Paired.mapP t f)
theorem fL.stay(x:fL P w H h a o)(k:∀b u,(b=a\/H b=some (.own a))->h.get? b=some u->h'.get? b=some u)
  (ho:∀b,H b=some (.own a)->H' b=some (.own a)) (ht:∀b xs,H b=some (.tup xs)->H' b=some (.tup xs)):fL P w H' h' a o:=by
 induction o with
 |lst xs=>obtain⟨z,its,n,r,e⟩:=x;exact⟨z,its,n,r,k _ _ (.inl rfl) e⟩
 |tup xs=>obtain⟨z,its,r,ob,e,c⟩:=x;exact⟨z,its,r,ob,k _ _ (.inl rfl) e,c⟩
 |dK kvs=>obtain⟨z,y,vs,r,ob,es,ep,e,c⟩:=x;exact⟨z,y,vs,r,ob,es,ep,k _ _ (.inl rfl) e,c⟩
 |dT kvs=>
  obtain⟨z,y,xs,r,ob,es,ep,e,c⟩:=x
  exact⟨z,y,xs,Paired.mapP r fun p q z=>⟨z.1,ht _ _ z.2.1,z.2.2⟩,ob,es,ep,k _ _ (.inl rfl) e,c⟩
 |set S n=>obtain⟨ob,es,ep,t,e,c⟩:=x;exact⟨ob,es,ep,t,k _ _ (.inl rfl) e,c⟩
 |ins C dx fs=>
  obtain⟨d,z,ne,e,mA,⟨od,es,ep,e2,c⟩,r⟩:=x
  exact⟨ho _ d,z,ne,k _ _ (.inl rfl) e,mA,⟨od,es,ep,k _ _ (.inr d) e2,c⟩,r⟩
 |own y=>obtain⟨ob,e⟩:=x;exact⟨ob,k _ _ (.inl rfl) e⟩
 |xd fs=>obtain⟨mA,⟨od,es,ep,e,c⟩,r⟩:=x;exact⟨mA,⟨od,es,ep,k _ _ (.inl rfl) e,c⟩,r⟩
 |rng lo hi=>obtain⟨t,u,v,e⟩:=x;exact⟨t,u,v,k _ _ (.inl rfl) e⟩
 |frz ob u ih=>obtain⟨e,q⟩:=x;exact⟨k _ _ (.inl rfl) e,ih q⟩
 |tbl ps=>
  have e:h.get? a=some {cls:= .none,data:= .fields ps}:=x
  show h'.get? a=some {cls:= .none,data:= .fields ps}
  exact k a _ (.inl rfl) e
 |met f y=>
  have e:h.get? a=some (PySem.W.methodObj (.ref f) (.ref y)):=x
  show h'.get? a=some (PySem.W.methodObj (.ref f) (.ref y))
  exact k a _ (.inl rfl) e
 |ext φ=>obtain⟨p,⟨o,e⟩,st⟩:=x;exact⟨st _ _ p fun o q=>k _ _ (.inl rfl) q,⟨o,k _ _ (.inl rfl) e⟩,st⟩
theorem HOk.lt(x:HOk P w H h)(e:H a=some o):a<h.objs.size:=(x a o e).lt
theorem HOk.fresh(x:HOk P w H h)(e:h.objs.size<=a):H a=none:=by
 cases q:H a with
 |none=>rfl
 |some u=>exact absurd (Nat.lt_of_lt_of_le (x.lt q) e) (Nat.lt_irrefl _)
theorem HOk.kept(x:HOk P w H h)(k:∀b u,h.get? b=some u->h'.get? b=some u):HOk P w H h':=fun a o e=>
 (x a o e).stay (fun b u _ q=>k b u q) (fun _ q=>q) fun _ _ q=>q
theorem HOk.laid(x:HOk P w H h)(k:∀b u,h.get? b=some u->h'.get? b=some u)(hp:h.objs.size<=a)(new:fL P w (upd H a o) h' a o):HOk P w (upd H a o) h':=fun b u e=>by
 have hn:=x.fresh hp
 by_cases hb:b=a
 ·subst hb;rw [eT] at e;cases e;exact new
 ·rw [dW hb] at e
  exact(x b u e).stay (fun c v _ q=>k c v q) (fun c q=>by rw [dW (gK q hn)];exact q) fun c xs q=>by rw [dW (gK q hn)];exact q
end
def Rd(H:Hp)(a:Addr)(u:HO):Prop:=H a=some u\/∃o,H a=some (.frz o u)
theorem Rd.ok{P:Program}{w:World}{H:Hp}{h:Heap}{a:Addr}{u:HO}(r:Rd H a u)(x:HOk P w H h):fL P w H h a u:=by
 rcases r with r|⟨o,r⟩
 ·exact x a u r
 ·obtain⟨_,q⟩:=x a _ r
  exact q
def Mut:Option HO->Prop
 |some (.lst _)=>True
 |some (.dK _)=>True
 |some (.dT _)=>True
 |some (.set _ _)=>True
 |some (.ins _ _ _)=>True
 |some (.ext _)=>True
 |_=>False
section
variable{P:Program}{w:World}{H:Hp}{h h':Heap}{x e:Addr}{o':HO}
theorem HOk.write(ok:HOk P w H h)(mu:Mut (H x))(he:e=x\/H e=some (.own x))(k:∀b u,b≠e->h.get? b=some u->h'.get? b=some u)(heo:∃u,h'.get? e=some u)
  (new:fL P w (upd H x o') h' x o'):HOk P w (upd H x o') h':=fun b u q=>by
 have nown:∀c y,H c=some (.own y)->c≠x:=fun c y r z=>by subst z;rw [r] at mu;exact mu
 have ntup:∀c xs,H c=some (.tup xs)->c≠x:=fun c xs r z=>by subst z;rw [r] at mu;exact mu
 by_cases hb:b=x
 ·subst hb;rw [eT] at q;cases q;exact new
 ·rw [dW hb] at q
  by_cases hbe:b=e
  ·have q':H b=some (.own x):=by
    rcases he with z|z
    ·exact absurd (hbe.trans z) hb
    ·rw [hbe];exact z
   rw [q] at q';cases q'
   obtain⟨v,hv⟩:=heo
   exact⟨v,by rw [hbe];exact hv⟩
  ·refine(ok b u q).stay (fun c v hc r=>k c v ?_ r) (fun c r=>by rw [dW (nown c b r)];exact r) fun c xs r=>by rw [dW (ntup c xs r)];exact r
   rcases hc with rfl|hc
   ·exact hbe
   ·rintro rfl
    rcases he with z|z
    ·exact nown c b hc z
    ·rw [hc] at z;cases z;exact hb rfl
end
structure Un(fs ex:List Addr)(H H':Hp)(h h':Heap):Prop where
 keep:∀b o,h.get? b=some o->H b=none->b∉fs->b∉ex->h'.get? b=some o
 slot:∀b o,h.get? b=some o->H b=none->b∈fs->b∉ex->∃sl,h'.get? b=some {o with slots:=sl}
 free:∀b o,h.get? b=some o->H b=none->b∉ex->H' b=none
 there:∀b o,h.get? b=some o->b∉ex->∃o',h'.get? b=some o'
 tups:∀b xs,H b=some (.tup xs)->H' b=some (.tup xs)
 frzs:∀b o u,H b=some (.frz o u)->H' b=some (.frz o u)
 tbls:∀b ps,H b=some (.tbl ps)->∃more,H' b=some (.tbl (ps++more))
section
variable{fs fs' ex ex':List Addr}{H H1 H2:Hp}{h h1 h2 h':Heap}{a x e:Addr}{o:HO}
theorem Un.any(u:Un fs ex H H1 h h1){b:Addr}{ob:Obj}(q:h.get? b=some ob)(n:H b=none)(hx:b∉ex):∃sl,h1.get? b=some {ob with slots:=sl}:=by
 by_cases hb:b∈fs
 ·exact u.slot b ob q n hb hx
 ·exact⟨ob.slots,u.keep b ob q n hb hx⟩
theorem Un.trans(a:Un fs ex H H1 h h1)(b:Un fs ex H1 H2 h1 h2):Un fs ex H H2 h h2 where
 keep:=fun c ob q n hc hx=>b.keep c ob (a.keep c ob q n hc hx) (a.free c ob q n hx) hc hx
 slot:=fun c ob q n hc hx=>by
  obtain⟨sl,e1⟩:=a.slot c ob q n hc hx
  obtain⟨sl',e2⟩:=b.slot c _ e1 (a.free c ob q n hx) hc hx
  exact⟨sl',e2⟩
 free:=fun c ob q n hx=>by
  obtain⟨o',e1⟩:=a.there c ob q hx
  exact b.free c o' e1 (a.free c ob q n hx) hx
 there:=fun c ob q hx=>by
  obtain⟨o',e1⟩:=a.there c ob q hx
  exact b.there c o' e1 hx
 tups:=fun c xs q=>b.tups c xs (a.tups c xs q)
 frzs:=fun c ob xs q=>b.frzs c ob xs (a.frzs c ob xs q)
 tbls:=fun c ps q=>by
  obtain⟨m1,e1⟩:=a.tbls c ps q
  obtain⟨m2,e2⟩:=b.tbls c _ e1
  exact⟨m1++m2,by rw [e2,Array.append_assoc]⟩
theorem Un.kept(k:∀b u,h.get? b=some u->h'.get? b=some u):Un fs ex H H h h':=
 ⟨fun b ob q _ _ _=>k b ob q,fun b ob q _ _ _=>⟨ob.slots,k b ob q⟩,fun _ _ _ n _=>n,fun b ob q _=>⟨ob,k b ob q⟩,fun _ _ q=>q,fun _ _ _ q=>q,fun _ ps q=>⟨#[],by rw [q];simp⟩⟩
theorem Un.refl:Un fs ex H H h h:=Un.kept fun _ _ q=>q
theorem Un.laid(k:∀b u,h.get? b=some u->h'.get? b=some u)(hp:h.objs.size<=a)(hn:H a=none):Un fs ex H (upd H a o) h h' where
 keep:=fun b u q _ _ _=>k b u q
 slot:=fun b u q _ _ _=>⟨u.slots,k b u q⟩
 free:=fun b u q n _=>by rw [dW (Nat.ne_of_lt (Nat.lt_of_lt_of_le (Heap.lt_size q) hp))];exact n
 there:=fun b u q _=>⟨u,k b u q⟩
 tups:=fun b xs q=>by rw [dW (gK q hn)];exact q
 frzs:=fun b u xs q=>by rw [dW (gK q hn)];exact q
 tbls:=fun b ps q=>⟨#[],by rw [dW (gK q hn),q];simp⟩
theorem Un.write(mu:Mut (H x))(he:e=x\/H e=some (.own x))(k:∀b u,b≠e->h.get? b=some u->h'.get? b=some u)(heo:∃u,h'.get? e=some u):Un fs ex H (upd H x o) h h':=by
 have hx:∀b,H b=none->b≠x:=fun b n z=>by subst z;rw [n] at mu;exact mu
 have hb:∀b,H b=none->b≠e:=fun b n z=>by
  subst z
  rcases he with r|r
  ·exact hx b n r
  ·rw [n] at r;cases r
 have hm:∀b u,H b=some u->¬Mut (some u)->b≠x:=fun b u q nm z=>by subst z;rw [q] at mu;exact nm mu
 refine⟨fun b u q n _ _=>k b u (hb b n) q,fun b u q n _ _=>⟨u.slots,k b u (hb b n) q⟩,fun b u q n _=>by rw [dW (hx b n)];exact n,fun b u q _=> ?_,
  fun b xs q=>by rw [dW (hm b _ q fun z=>z)];exact q,fun b u xs q=>by rw [dW (hm b _ q fun z=>z)];exact q,fun b ps q=>⟨#[],by rw [dW (hm b _ q fun z=>z),q];simp⟩⟩
 by_cases hbe:b=e
 ·subst hbe;exact heo
 ·exact⟨u,k b u hbe q⟩
theorem Un.mono(u:Un fs ex H H1 h h1)(hs:∀b∈fs,b∈fs')(hx:∀b∈ex,b∈ex'):Un fs' ex' H H1 h h1:=
 ⟨fun b ob q n hb he=>u.keep b ob q n (fun z=>hb (hs b z)) fun z=>he (hx b z),fun _ _ q n _ he=>u.any q n fun z=>he (hx _ z),fun b ob q n he=>u.free b ob q n fun z=>he (hx b z),fun b ob q he=>u.there b ob q fun z=>he (hx b z),u.tups,u.frzs,u.tbls⟩
end
def trk(h:Heap)(H:Hp):List Addr:=(List.range h.objs.size).filter fun a=>(H a).isSome
def uG(h:Heap)(H:Hp):Heap:=PySem.W.hideAll h (trk h H)
theorem yb0(h:Heap)(H:Hp):(uG h H).objs.size=h.objs.size:=PySem.W.hideAll_size _ _
theorem yi6{h:Heap}{H:Hp}{b:Addr}{o:Obj}(e:h.get? b=some o)(n:H b=none):(uG h H).get? b=some o:=
 PySem.W.hideAll_get _ e fun hm=>by
  have q:(H b).isSome=true:=(List.mem_filter.mp hm).2
  rw [n] at q;simp at q
theorem yq0{h:Heap}{H:Hp}{b:Addr}{o:Obj}(e:(uG h H).get? b=some o):h.get? b=some o/\H b=none:=by
 have e':h.get? b=some o:=PySem.W.of_hideAll (trk h H) e
 refine⟨e',?_⟩
 cases q:H b with
 |none=>rfl
 |some x=>
  have hm:b∈trk h H:=List.mem_filter.mpr ⟨List.mem_range.mpr (Heap.lt_size e'),by simp [q]⟩
  have z:(uG h H).get? b=none:=PySem.W.hideAll_none (trk h H) hm
  rw [z] at e;cases e
def yv5(g h:Heap)(L:Addr):tzB:=(List.range h.objs.size).filterMap fun a=>if a=L\/(g.get? a).isSome=true then none else(h.get? a).map fun o=>(a,o)
def bY(g h:Heap)(L d:Addr):tzB:=(yv5 g h L).filter fun p=>decide (p.1≠d)
structure Mod(K:tz0)(mg:tzA)(base:Heap):Prop where
 kin:K.In base
 glob:base.Ns mainGlobals mg
 blt:∃mb,base.Ns builtinsNs mb/\∀x:Str,x≠"__name__"->mb x=bootBuiltins x
 nolimit:base.NoLimit
structure Cx where
 prog:Program
 w:World
 K:tz0
 mg:tzA
 base:Heap
 A:Around
 N:List Str
 s₀:Shared
 H₀:Hp
 env:Env
 outer:List Env
 stack:List Env
 ex:List Addr
 fn:Str->Bool
 calm:Bool
 pn:tzB
 xe:Value->Shared->Prop
def frs(l:List Env):List Addr:=l.filterMap (·.frame)
abbrev Cx.fs(X:Cx):List Addr:=frs X.outer
def Vis(sc:Scope)(x:Str):Prop:=sc.names.lookup x=some .local\/sc.names.lookup x=some .cell\/sc.names.lookup x=some .free
def Loc(sc:Scope)(x:Str):Prop:=sc.names.lookup x=some .local\/sc.names.lookup x=some .cell
def xb1(env:Env)(h:Heap)(m:tzA)(x:Str)(u:Value):Prop:=
 (env.kindOf x=some .local/\m x=some u)\/((env.kindOf x=some .cell\/env.kindOf x=some .free)/\∃c,env.cells.lookup x=some c/\h.IsCell c (some u))
structure Cx.Ok(X:Cx):Prop where
 mod:Mod X.K X.mg X.base
 kind:X.env.scope.kind= .function
 glob:X.env.globals=mainGlobals
 blt:X.env.builtins=builtinsNs
 above:X.s₀.heap.objs.size<=X.env.locals
 inj:∀x y c,X.env.cells.lookup x=some c->X.env.cells.lookup y=some c->x=y
 has:∀x,(X.env.kindOf x=some .cell\/X.env.kindOf x=some .free)->∃c,X.env.cells.lookup x=some c
 cab:∀x c,X.fn x=true->X.env.cells.lookup x=some c->X.s₀.heap.objs.size<=c
 hd:X.calm=true->X.A.handled=none
 frames:X.A.frames=some X.stack
 stk:X.stack=X.outer\/(X.stack=X.env::X.outer/\X.env.frame=some X.env.locals)
 exf:∀b∈X.ex,b≠X.env.locals/\∀x c,X.env.cells.lookup x=some c->c≠b
 bs:∀b o,X.base.get? b=some o->X.s₀.heap.get? b=some o/\X.H₀ b=none
 bsz:X.base.objs.size<=X.s₀.heap.objs.size
 noex:∀b o,X.base.get? b=some o->b∉X.ex
 exfs:∀b∈X.ex,b∉X.fs
 funs:X.s₀.heap.FunFrames X.base X.outer
 frf:∀b∈X.fs,X.H₀ b=none
structure Inv(X:Cx)(pins:tzB)(σ:List (Option V))(H:Hp)(s:Shared):Prop where
 ok:X.Ok
 os:s.os=X.s₀.os
 bare:AllBare s.gens
 base:Un X.fs X.ex X.H₀ H X.s₀.heap s.heap
 loc:∃m,s.heap.Ns X.env.locals m/\∀(i:Nat) (x:Str) (v:V),X.N[i]? =some x->σ[i]? =some (some v)->Vis X.env.scope x->∃u,dQ v u/\xb1 X.env s.heap m x u
 cell:∀x c,X.env.cells.lookup x=some c->∃v,s.heap.IsCell c v
 free:H X.env.locals=none
 freeC:∀x c,X.env.cells.lookup x=some c->H c=none
 pin:∀p∈X.pn++pins,s.heap.get? p.1=some p.2/\H p.1=none/\p.1≠X.env.locals/\p.1∉X.fs/\∀v,p.2.data≠ .cell v
 hok:HOk X.prog X.w H s.heap
 len:σ.length=X.N.length
section
variable{X:Cx}{pins:tzB}{σ:List (Option V)}{H H':Hp}{s:Shared}{h':Heap}
theorem Cx.Ok.nofr(ok:X.Ok){b:Addr}{o:Obj}(e:X.base.get? b=some o):b∉X.fs:=fun hb=>by
 have:=(ok.funs.mem hb).1
 rw [e] at this;cases this
theorem Inv.bs(I:Inv X pins σ H s):∀b o,X.base.get? b=some o->s.heap.get? b=some o/\H b=none:=fun b o e=>
 ⟨I.base.keep b o (I.ok.bs b o e).1 (I.ok.bs b o e).2 (I.ok.nofr e) (I.ok.noex b o e),I.base.free b o (I.ok.bs b o e).1 (I.ok.bs b o e).2 (I.ok.noex b o e)⟩
theorem Inv.bk(I:Inv X pins σ H s):∀b o,X.base.get? b=some o->s.heap.get? b=some o:=fun b o e=>(I.bs b o e).1
theorem Inv.mod(I:Inv X pins σ H s):Mod X.K X.mg X.base:=I.ok.mod
theorem Inv.kIn(I:Inv X pins σ H s):X.K.In s.heap:=I.ok.mod.kin.keeps I.bk
theorem Inv.lt(I:Inv X pins σ H s):X.env.locals<s.heap.objs.size:=let ⟨_,hn,_⟩:=I.loc;hn.lt
theorem Inv.sz(I:Inv X pins σ H s):X.s₀.heap.objs.size<=s.heap.objs.size:=Nat.le_trans I.ok.above (Nat.le_of_lt I.lt)
theorem Inv.nofs(I:Inv X pins σ H s){a:Addr}(h:s.heap.objs.size<=a):a∉X.fs:=fun hb=>by
 obtain⟨_,o,ho,_⟩:=I.ok.funs.mem hb
 exact absurd (Nat.lt_of_lt_of_le (Heap.lt_size ho) (Nat.le_trans I.sz h)) (Nat.lt_irrefl _)
theorem Inv.cne(I:Inv X pins σ H s):∀x c,X.env.cells.lookup x=some c->c≠X.env.locals:=fun x c e z=>by
 obtain⟨v,o,ho,hd⟩:=I.cell x c e
 obtain⟨m,⟨o',es,ep,ho',hd',_⟩,_⟩:=I.loc
 rw [z,ho'] at ho;cases ho;rw [hd'] at hd;cases hd
theorem Inv.funs(I:Inv X pins σ H s):s.heap.FunFrames X.base X.outer:=by
 have all:∀(l:List Env),(∀b∈frs l,b∈X.fs)->X.s₀.heap.FunFrames X.base l->s.heap.FunFrames X.base l:=by
  intro l
  induction l with
  |nil=>intro _ _;trivial
  |cons env r ih=>
   intro hs hl
   obtain⟨hk,⟨L,o,hf,hn,ho,hd⟩,hr⟩:=hl
   have hL:L∈X.fs:=hs L (by unfold frs;rw [List.filterMap_cons,hf];exact List.mem_cons_self)
   obtain⟨sl,e⟩:=I.base.slot L o ho (I.ok.frf L hL) hL fun z=>I.ok.exfs L z hL
   exact⟨hk,⟨L,_,hf,hn,e,hd⟩,ih (fun b hb=>hs b (by unfold frs;rw [List.filterMap_cons,hf];exact List.mem_cons_of_mem _ hb)) hr⟩
 exact all X.outer (fun _ hb=>hb) I.ok.funs
theorem Inv.stack(I:Inv X pins σ H s):s.heap.FunFrames X.base X.stack:=by
 rcases I.ok.stk with e|⟨e,hf⟩
 ·rw [e];exact I.funs
 ·rw [e]
  obtain⟨m,hn,_⟩:=I.loc
  refine .cons (by rw [I.ok.kind];decide) hf hn ?_ I.funs
  exact Heap.get?_none_of_le (Nat.le_trans I.ok.bsz I.ok.above)
theorem Inv.stkSub(I:Inv X pins σ H s):∀b∈frs X.stack,b∈X.env.locals::X.fs:=fun b hb=>by
 rcases I.ok.stk with e|⟨e,hf⟩
 ·rw [e] at hb;exact List.mem_cons_of_mem _ hb
 ·rw [e] at hb
  unfold frs at hb
  rw [List.filterMap_cons,hf] at hb
  exact hb
theorem Inv.stkFree(I:Inv X pins σ H s):∀b∈frs X.stack,H b=none:=fun b hb=>by
 rcases List.mem_cons.mp (I.stkSub b hb) with e|hb
 ·rw [e];exact I.free
 ·obtain⟨_,o,ho,_⟩:=I.ok.funs.mem hb
  exact I.base.free b o ho (I.ok.frf b hb) fun z=>I.ok.exfs b z hb
theorem Inv.step{g':Array GenState}{t':Nat}{d':Drawn}{ch:List Addr}(I:Inv X pins σ H s)
  (hch:∀b∈ch,(b∈X.ex\/X.s₀.heap.objs.size<=b)/\b≠X.env.locals/\(∀x c,X.env.cells.lookup x=some c->c≠b)/\∀p∈X.pn++pins,p.1≠b)
  (keep:∀b o,b≠X.env.locals->b∉X.fs->b∉ch->s.heap.get? b=some o->H b=none->h'.get? b=some o)
  (slot:∀b o,b≠X.env.locals->b∈X.fs->b∉ch->s.heap.get? b=some o->H b=none->∃sl,h'.get? b=some {o with slots:=sl}) (free:∀b o,b∉ch->s.heap.get? b=some o->H b=none->H' b=none)
  (there:∀b o,b∉ch->s.heap.get? b=some o->∃o',h'.get? b=some o')
  (tups:∀b xs,H b=some (.tup xs)->H' b=some (.tup xs)) (frzs:∀b o u,H b=some (.frz o u)->H' b=some (.frz o u)) (tbls:∀b ps,H b=some (.tbl ps)->∃more,H' b=some (.tbl (ps++more)))
  (ns:∀m,s.heap.Ns X.env.locals m->h'.Ns X.env.locals m) (hok:HOk X.prog X.w H' h') (hg:AllBare g'):
  Inv X pins σ H' {s with heap:=h',gens:=g',drawn:=d',toks:=t'}:=by
 have neL:∀b o,X.s₀.heap.get? b=some o->b≠X.env.locals:=fun b o e=>Nat.ne_of_lt (Nat.lt_of_lt_of_le (Heap.lt_size e) I.ok.above)
 have neC:∀b o,X.s₀.heap.get? b=some o->b∉X.ex->b∉ch:=fun b o e hx hb=>by
  rcases(hch b hb).1 with z|z
  ·exact hx z
  ·exact absurd (Nat.lt_of_lt_of_le (Heap.lt_size e) z) (Nat.lt_irrefl _)
 have cellK:∀x c,X.env.cells.lookup x=some c->∀v,s.heap.IsCell c v->h'.IsCell c v:=fun x c e v ⟨o,ho,hd⟩=>by
  have nch:c∉ch:=fun z=>(hch c z).2.2.1 x c e rfl
  by_cases hc:c∈X.fs
  ·obtain⟨sl,q⟩:=slot c o (I.cne x c e) hc nch ho (I.freeC x c e)
   exact⟨_,q,hd⟩
  ·exact⟨o,keep c o (I.cne x c e) hc nch ho (I.freeC x c e),hd⟩
 refine⟨I.ok,I.os,hg,⟨fun b o e n hb hx=> ?_,fun b o e n hb hx=> ?_,fun b o e n hx=> ?_,fun b o e hx=> ?_,fun b xs e=>tups b xs (I.base.tups b xs e),fun b o xs e=>frzs b o xs (I.base.frzs b o xs e),fun b ps e=> ?_⟩,?_,fun x c e=> ?_,?_,fun x c e=> ?_,fun p hp=> ?_,hok,I.len⟩
 ·exact keep b o (neL b o e) hb (neC b o e hx) (I.base.keep b o e n hb hx) (I.base.free b o e n hx)
 ·obtain⟨sl,e1⟩:=I.base.slot b o e n hb hx
  obtain⟨sl',e2⟩:=slot b _ (neL b o e) hb (neC b o e hx) e1 (I.base.free b o e n hx)
  exact⟨sl',e2⟩
 ·obtain⟨o',e1⟩:=I.base.there b o e hx
  exact free b o' (neC b o e hx) e1 (I.base.free b o e n hx)
 ·obtain⟨o',e1⟩:=I.base.there b o e hx
  exact there b o' (neC b o e hx) e1
 ·obtain⟨m1,e1⟩:=I.base.tbls b ps e
  obtain⟨m2,e2⟩:=tbls b _ e1
  exact⟨m1++m2,by rw [e2,Array.append_assoc]⟩
 ·obtain⟨m,hn,hl⟩:=I.loc
  refine⟨m,ns m hn,fun i x v e1 e2 e3=> ?_⟩
  obtain⟨u,r,l⟩:=hl i x v e1 e2 e3
  refine⟨u,r,?_⟩
  rcases l with l|⟨k,c,e,z⟩
  ·exact .inl l
  ·exact .inr ⟨k,c,e,cellK x c e _ z⟩
 ·obtain⟨v,z⟩:=I.cell x c e
  exact⟨v,cellK x c e v z⟩
 ·obtain⟨m,⟨o,_,_,ho,_⟩,_⟩:=I.loc
  exact free _ o (fun z=>(hch _ z).2.1 rfl) ho I.free
 ·obtain⟨v,o,ho,hd⟩:=I.cell x c e
  exact free c o (fun z=>(hch c z).2.2.1 x c e rfl) ho (I.freeC x c e)
 ·obtain⟨e,n,ne,nf,d⟩:=I.pin p hp
  have nch:p.1∉ch:=fun z=>(hch p.1 z).2.2.2 p hp rfl
  exact⟨keep p.1 p.2 ne nf nch e n,free p.1 p.2 nch e n,ne,nf,d⟩
theorem Inv.un{t':Nat}(I:Inv X pins σ H s)(u:Un X.fs [] H H' s.heap h')(hok:HOk X.prog X.w H' h'):Inv X pins σ H' {s with heap:=h',toks:=t'}:=by
 obtain⟨m,⟨o,es,ep,ho,r⟩,_⟩:=id I.loc
 obtain⟨sl,hL⟩:=u.any ho I.free (by simp)
 exact I.step (g':=s.gens) (d':=s.drawn) (ch:=[]) (fun _ z=>nomatch z) (fun b o _ hb _ e n=>u.keep b o e n hb (by simp)) (fun b o _ hb _ e n=>u.slot b o e n hb (by simp)) (fun b o _ e n=>u.free b o e n (by simp)) (fun b o _ e=>u.there b o e (by simp)) u.tups u.frzs u.tbls (fun m' hm=>by
  obtain⟨o',es',ep',ho',r'⟩:=hm
  rw [ho] at ho';cases ho'
  exact⟨_,es',ep',hL,r'⟩) hok I.bare
theorem Inv.call{g':Array GenState}{t':Nat}{d':Drawn}{ch:List Addr}(I:Inv X pins σ H s)(u:Un (frs X.stack) ch H H' s.heap h')(hok:HOk X.prog X.w H' h')(hg:AllBare g')
  (hch:∀b∈ch,(b∈X.ex\/X.s₀.heap.objs.size<=b)/\b≠X.env.locals/\(∀x c,X.env.cells.lookup x=some c->c≠b)/\∀p∈X.pn++pins,p.1≠b):
  Inv X pins σ H' {s with heap:=h',gens:=g',drawn:=d',toks:=t'}:=by
 obtain⟨m,⟨o,es,ep,ho,r⟩,_⟩:=id I.loc
 obtain⟨sl,hL⟩:=u.any ho I.free fun z=>(hch _ z).2.1 rfl
 exact I.step (ch:=ch) hch (fun b o hL hb hc e n=>u.keep b o e n (fun z=>(List.mem_cons.mp (I.stkSub b z)).elim hL hb) hc) (fun b o _ _ hc e n=>u.any e n hc) (fun b o hc e n=>u.free b o e n hc) (fun b o hc e=>u.there b o e hc) u.tups u.frzs u.tbls (fun m' hm=>by
  obtain⟨o',es',ep',ho',r'⟩:=hm
  rw [ho] at ho';cases ho'
  exact⟨_,es',ep',hL,r'⟩) hok hg
theorem Inv.turned{t':Nat}{it:Addr}(I:Inv X pins σ H s)(k:∀b o,b≠it->s.heap.get? b=some o->h'.get? b=some o)(hn:H it=none)(hL:it≠X.env.locals)
  (h1:it∈X.ex\/X.s₀.heap.objs.size<=it) (h2:∀x c,X.env.cells.lookup x=some c->c≠it) (h3:∀p∈X.pn++pins,p.1≠it):Inv X pins σ H {s with heap:=h',toks:=t'}:=by
 have nit:∀b u,H b=some u->b≠it:=fun b u e z=>by rw [z,hn] at e;cases e
 refine I.step (g':=s.gens) (d':=s.drawn) (ch:=[it]) (fun b hb=> ?_) (fun b o _ _ hc e _=>k b o (fun z=>hc (by simp [z])) e) (fun b o _ _ hc e _=>⟨o.slots,k b o (fun z=>hc (by simp [z])) e⟩) (fun _ _ _ _ n=>n)
  (fun b o hc e=>⟨o,k b o (fun z=>hc (by simp [z])) e⟩) (fun _ _ e=>e) (fun _ _ _ e=>e) (fun b ps e=>⟨#[],by rw [e];simp⟩) (fun m hm=> ?_) (fun b u e=> ?_) I.bare
 ·have e:b=it:=by simpa using hb
  subst e
  exact⟨h1,hL,h2,h3⟩
 ·obtain⟨o,es,ep,ho,r⟩:=hm
  exact⟨o,es,ep,k _ o (Ne.symm hL) ho,r⟩
 ·refine(I.hok b u e).stay (fun c v hc q=>k c v ?_ q) (fun _ q=>q) fun _ _ q=>q
  rcases hc with z|z
  ·rw [z];exact nit b u e
  ·exact nit c _ z
theorem Inv.tok(I:Inv X pins σ H s)(t:Nat):Inv X pins σ H {s with toks:=t}:=I.un (h':=s.heap) (t':=t) Un.refl I.hok
theorem Inv.kept{t':Nat}(I:Inv X pins σ H s)(k:∀b u,s.heap.get? b=some u->h'.get? b=some u):Inv X pins σ H {s with heap:=h',toks:=t'}:=I.un (Un.kept k) (I.hok.kept k)
theorem Inv.laid{a:Addr}{o:HO}{t':Nat}(I:Inv X pins σ H s)(k:∀b u,s.heap.get? b=some u->h'.get? b=some u)(hp:s.heap.objs.size<=a)(new:fL X.prog X.w (upd H a o) h' a o):
  Inv X pins σ (upd H a o) {s with heap:=h',toks:=t'}:=I.un (Un.laid k hp (I.hok.fresh hp)) (I.hok.laid k hp new)
theorem Inv.write{x e:Addr}{o:HO}{t':Nat}(I:Inv X pins σ H s)(mu:Mut (H x))(he:e=x\/H e=some (.own x))(k:∀b u,b≠e->s.heap.get? b=some u->h'.get? b=some u)(heo:∃u,h'.get? e=some u)
  (new:fL X.prog X.w (upd H x o) h' x o):Inv X pins σ (upd H x o) {s with heap:=h',toks:=t'}:=I.un (Un.write mu he k heo) (I.hok.write mu he k heo new)
theorem Inv.pins_of{pins':tzB}(I:Inv X pins σ H s)(h:∀p∈pins',s.heap.get? p.1=some p.2/\H p.1=none/\p.1≠X.env.locals/\p.1∉X.fs/\∀v,p.2.data≠ .cell v):Inv X pins' σ H s:=
 ⟨I.ok,I.os,I.bare,I.base,I.loc,I.cell,I.free,I.freeC,fun p hp=>(List.mem_append.mp hp).elim (fun z=>I.pin p (List.mem_append_left _ z)) (h p),I.hok,I.len⟩
theorem zj6{N:List Str}(hN:N.Nodup){i j:Nat}{x:Str}(a:N[i]? =some x)(b:N[j]? =some x):i=j:=by
 obtain⟨h1,e1⟩:=List.getElem?_eq_some_iff.mp a
 obtain⟨h2,e2⟩:=List.getElem?_eq_some_iff.mp b
 exact(List.getElem_inj hN).mp (e1.trans e2.symm)
theorem yb1{M:Model}{A:Around}{E:Value->Shared->Prop}{i:Nat}{x:Str}{v:V}{u:Value}{Q:Unit->Shared->Prop}(I:Inv X pins σ H s)(hN:X.N.Nodup)(hi:X.N[i]? =some x)(hx:Loc X.env.scope x)(r:dQ v u)
  (h:∀s',Inv X pins (σ.set i (some v)) H s'->(∃a,Heap.SameBut a s.heap s'.heap/\(a=X.env.locals\/X.env.cells.lookup x=some a))->Q () s') (hf:X.fn x=true\/X.env.scope.names.lookup x=some .local:=by first|exact .inl rfl|exact .inr rfl|assumption):wpAny M A (storeName X.env x u) Q E s:=by
 obtain⟨m,hn,hl⟩:=id I.loc
 have hcls:(X.env.scope.kind== .class||(X.env.scope.kind== .module&&X.env.locals !=X.env.globals))=false:=by rw [I.ok.kind];rfl
 have hiσ:i<σ.length:=by rw [I.len];exact(List.getElem?_eq_some_iff.mp hi).1
 have cne:=I.cne
 have tracked:∀{a:Addr} {h':Heap},(∃o,s.heap.get? a=some o/\H a=none)->Heap.SameBut a s.heap h'->HOk X.prog X.w H h':=fun {a h'} ha hs b ob e=>by
  obtain⟨_,_,hfree⟩:=ha
  refine(I.hok b ob e).stay (fun c w' hc q=>(hs.2 c ?_).trans q) (fun _ q=>q) fun _ _ q=>q
  rintro rfl
  rcases hc with rfl|hc
  ·rw [hfree] at e;cases e
  ·rw [hfree] at hc;cases hc
 rcases hx with hk|hk
 ·refine wpAny_storeName_local hk hn (fun h' hn' hs=> ?_) hcls
  obtain⟨oL,_,_,hoL,_⟩:=id hn
  refine h _ ⟨I.ok,I.os,I.bare,⟨fun b o e n hb hx=> ?_,fun b o e n hb hx=> ?_,I.base.free,fun b o e hx=> ?_,I.base.tups,I.base.frzs,I.base.tbls⟩,⟨_,hn',fun j y v' e1 e2 e3=> ?_⟩,fun y c e=> ?_,I.free,I.freeC,fun p hp=> ?_,tracked ⟨oL,hoL,I.free⟩ hs,by simpa using I.len⟩ ⟨_,hs,.inl rfl⟩
  ·exact(hs.2 b (Nat.ne_of_lt (Nat.lt_of_lt_of_le (Heap.lt_size e) I.ok.above))).trans (I.base.keep b o e n hb hx)
  ·obtain⟨sl,e1⟩:=I.base.slot b o e n hb hx
   exact⟨sl,(hs.2 b (Nat.ne_of_lt (Nat.lt_of_lt_of_le (Heap.lt_size e) I.ok.above))).trans e1⟩
  ·obtain⟨o',e1⟩:=I.base.there b o e hx
   exact⟨o',(hs.2 b (Nat.ne_of_lt (Nat.lt_of_lt_of_le (Heap.lt_size e) I.ok.above))).trans e1⟩
  ·by_cases hj:j=i
   ·subst hj
    rw [hi] at e1;cases e1
    rw [List.getElem?_set_self hiσ] at e2
    cases e2
    exact⟨u,r,.inl ⟨hk,by simp⟩⟩
   ·rw [List.getElem?_set_ne (Ne.symm hj)] at e2
    obtain⟨u',r',q⟩:=hl j y v' e1 e2 e3
    refine⟨u',r',?_⟩
    rcases q with ⟨k,e⟩|⟨k,c,e,z⟩
    ·refine .inl ⟨k,?_⟩
     have:y≠x:=fun e=>hj (zj6 hN e1 (e▸hi))
     simp [this,e]
    ·exact .inr ⟨k,c,e,z.sameBut hs (cne y c e)⟩
  ·obtain⟨w',z⟩:=I.cell y c e
   exact⟨w',z.sameBut hs (cne y c e)⟩
  ·obtain⟨e,n,ne,nf,d⟩:=I.pin p hp
   exact⟨(hs.2 p.1 ne).trans e,n,ne,nf,d⟩
 ·have hfn:X.fn x=true:=by
   rcases hf with z|z
   ·exact z
   ·rw [z] at hk;cases hk
  obtain⟨c,hc⟩:=I.ok.has x (.inl hk)
  obtain⟨w',z⟩:=I.cell x c hc
  refine wpAny_storeName_cell I.ok.kind hk hc z (fun h' hc' hs=> ?_)
  obtain⟨oc,hoc,hocd⟩:=id z
  refine h {s with heap:=h'} ⟨I.ok,I.os,I.bare,⟨fun b o e n hb hx=> ?_,fun b o e n hb hx=> ?_,I.base.free,fun b o e hx=> ?_,I.base.tups,I.base.frzs,I.base.tbls⟩,⟨m,hn.sameBut hs (Ne.symm (cne x c hc)),fun j y v' e1 e2 e3=> ?_⟩,fun y c' e=> ?_,I.free,I.freeC,fun p hp=> ?_,tracked ⟨oc,hoc,I.freeC x c hc⟩ hs,by simpa using I.len⟩ ⟨c,hs,.inr hc⟩
  ·exact(hs.2 b (Nat.ne_of_lt (Nat.lt_of_lt_of_le (Heap.lt_size e) (I.ok.cab x c hfn hc)))).trans (I.base.keep b o e n hb hx)
  ·obtain⟨sl,e1⟩:=I.base.slot b o e n hb hx
   exact⟨sl,(hs.2 b (Nat.ne_of_lt (Nat.lt_of_lt_of_le (Heap.lt_size e) (I.ok.cab x c hfn hc)))).trans e1⟩
  ·obtain⟨o',e1⟩:=I.base.there b o e hx
   exact⟨o',(hs.2 b (Nat.ne_of_lt (Nat.lt_of_lt_of_le (Heap.lt_size e) (I.ok.cab x c hfn hc)))).trans e1⟩
  ·by_cases hj:j=i
   ·subst hj
    rw [hi] at e1;cases e1
    rw [List.getElem?_set_self hiσ] at e2
    cases e2
    exact⟨u,r,.inr ⟨.inl hk,c,hc,hc'⟩⟩
   ·rw [List.getElem?_set_ne (Ne.symm hj)] at e2
    obtain⟨u',r',q⟩:=hl j y v' e1 e2 e3
    refine⟨u',r',?_⟩
    rcases q with q|⟨k,c',e,z'⟩
    ·exact .inl q
    ·refine .inr ⟨k,c',e,z'.sameBut hs ?_⟩
     rintro rfl
     exact hj (zj6 hN e1 (I.ok.inj _ _ _ e hc▸hi))
  ·by_cases hcc:c'=c
   ·subst hcc;exact⟨_,hc'⟩
   ·obtain⟨w2,z2⟩:=I.cell y c' e
    exact⟨w2,z2.sameBut hs hcc⟩
  ·obtain⟨e,n,ne,nf,d⟩:=I.pin p hp
   refine⟨(hs.2 p.1 ?_).trans e,n,ne,nf,d⟩
   intro q
   rw [q,hoc] at e
   have q':oc=p.2:=Option.some.inj e
   exact d w' (by rw [<-q'];exact hocd)
theorem sR{M:Model}{A:Around}{E:Value->Shared->Prop}{i:Nat}{x:Str}{v:V}{u:Value}{Q:Unit->Shared->Prop}(I:Inv X pins σ H s)(hN:X.N.Nodup)(hi:X.N[i]? =some x)(hx:Loc X.env.scope x)(r:dQ v u)
  (h:∀s',Inv X pins (σ.set i (some v)) H s'->Q () s') (hf:X.fn x=true\/X.env.scope.names.lookup x=some .local:=by first|exact .inl rfl|exact .inr rfl|assumption):wpAny M A (storeName X.env x u) Q E s:=
 yb1 I hN hi hx r (fun s' I' _=>h s' I') hf
theorem Inv.call'{s':Shared}{ch:List Addr}(I:Inv X pins σ H s)(ho:s'.os=s.os)(u:Un (frs X.stack) ch H H' s.heap s'.heap)(hok:HOk X.prog X.w H' s'.heap)(hg:AllBare s'.gens)
  (hch:∀b∈ch,(b∈X.ex\/X.s₀.heap.objs.size<=b)/\b≠X.env.locals/\(∀x c,X.env.cells.lookup x=some c->c≠b)/\∀p∈X.pn++pins,p.1≠b):Inv X pins σ H' s':=by
 obtain⟨h',g',d',t',o'⟩:=s'
 have e:o'=s.os:=ho
 subst e
 exact I.call (g':=g') (t':=t') (d':=d') u hok hg hch
end
abbrev XK:=Value->Option Addr->Hp->Prop
abbrev St:=List (Option V)
abbrev VK:=V->Hp->Prop
abbrev TE:=St->Hp->VK->Prop
abbrev TT:=St->Hp->(Bool->Hp->Prop)->Prop
abbrev TA:=St->Hp->(List V->Hp->Prop)->Prop
structure Ends where
 nx:St->Hp->Prop
 rt:VK
 bk:St->Hp->Prop:=fun _ _=>False
 ct:St->Hp->Prop:=fun _ _=>False
abbrev TS:=Ends->St->Hp->Prop
def EP(X:Cx)(pins:tzB)(σ:St)(Q:VK)(u:Value)(s':Shared):Prop:=∃v H',Inv X pins σ H' s'/\dQ v u/\Q v H'
def TP(X:Cx)(pins:tzB)(σ:St)(Q:Bool->Hp->Prop)(b:Bool)(s':Shared):Prop:=∃H',Inv X pins σ H' s'/\Q b H'
def AP(X:Cx)(pins:tzB)(σ:St)(Q:List V->Hp->Prop)(us:List Value)(s':Shared):Prop:=∃vs H',Inv X pins σ H' s'/\cV vs us/\Q vs H'
def SP(X:Cx)(pins:tzB)(D:Ends)(f:Flow)(s':Shared):Prop:=
 match f with
 | .next=>∃σ' H',Inv X pins σ' H' s'/\D.nx σ' H'
 | .brk=>∃σ' H',Inv X pins σ' H' s'/\D.bk σ' H'
 | .cont=>∃σ' H',Inv X pins σ' H' s'/\D.ct σ' H'
 | .ret u=>∃v σ' H',Inv X pins σ' H' s'/\dQ v u/\D.rt v H'
def PE(X:Cx)(e:Expr)(t:TE):Prop:=
 ∀(pins:tzB) (s:Shared) (σ:St) (H:Hp) (Q:VK),Inv X pins σ H s->t σ H Q->wpAny (model X.prog X.w) X.A (eval e X.env) (EP X pins σ Q) X.xe s
def PT(X:Cx)(e:Expr)(t:TT):Prop:=
 ∀(pins:tzB) (s:Shared) (σ:St) (H:Hp) (Q:Bool->Hp->Prop),Inv X pins σ H s->t σ H Q->wpAny (model X.prog X.w) X.A (isTrue e X.env (eval e X.env)) (TP X pins σ Q) X.xe s
def PW(X:Cx)(e:Expr)(t:TT):Prop:=
 ∀(whole:Sem Value) (pins:tzB) (s:Shared) (σ:St) (H:Hp) (Q:Bool->Hp->Prop),Inv X pins σ H s->t σ H Q->wpAny (model X.prog X.w) X.A (isTrue e X.env whole) (TP X pins σ Q) X.xe s
theorem PW.pt{X:Cx}{e:Expr}{t:TT}(h:PW X e t):PT X e t:=h _
def PA(X:Cx)(es:List Expr)(t:TA):Prop:=
 ∀(pos:Pos) (pins:tzB) (s:Shared) (σ:St) (H:Hp) (Q:List V->Hp->Prop),Inv X pins σ H s->t σ H Q->wpAny (model X.prog X.w) X.A (spliced (backTo pos (starEach es X.env))) (AP X pins σ Q) X.xe s
def PS(X:Cx)(st:Stmt)(t:TS):Prop:=
 ∀(pins:tzB) (s:Shared) (σ:St) (H:Hp) (D:Ends),Inv X pins σ H s->t D σ H->wpAny (model X.prog X.w) X.A (exec st X.env) (SP X pins D) X.xe s
def PSs(X:Cx)(st:List Stmt)(t:TS):Prop:=
 ∀(pins:tzB) (s:Shared) (σ:St) (H:Hp) (D:Ends),Inv X pins σ H s->t D σ H->wpAny (model X.prog X.w) X.A (execs st X.env) (SP X pins D) X.xe s
theorem thn{α:Type}{t:Sem α}{Q Q':α->Shared->Prop}{M:Model}{A:Around}{E:Value->Shared->Prop}{s:Shared}(h:wpAny M A t Q E s)(hQ:∀a s,Q a s->Q' a s):wpAny M A t Q' E s:=wpAny_mono h hQ fun _ _ x=>x
section
variable{X:Cx}
def xb2(i:Nat):TE:=fun σ H Q=>∃v,σ[i]? =some (some v)/\Q v H
def tC(v:V):TE:=fun _ H Q=>Q v H
theorem jX{i:Nat}{x:Str}{pos:Pos}(hN:X.N[i]? =some x)(hv:Vis X.env.scope x)(hd:(x==("__debug__":Str))=false:=by decide)(hcd:(x==("__classdict__":Str))=false:=by decide):PE X (.Name x pos) (xb2 i):=by
 intro pins s σ H Q I h
 obtain⟨v,e,h⟩:=h
 obtain⟨m,hn,hl⟩:=I.loc
 obtain⟨u,r,l⟩:=hl i x v hN e hv
 have fin:EP X pins σ Q u s:=⟨v,H,I,r,h⟩
 rcases l with ⟨hk,hm⟩|⟨hk,c,hc,hcell⟩
 ·exact wpAny_Name (wpAny_loadName_local I.ok.kind hk hn hm fin) hd
 ·rcases hk with hk|hk
  ·exact wpAny_Name (wpAny_loadName_cell I.ok.kind hk hc hcell fin) hd
  ·exact wpAny_Name (wpAny_loadName_free I.ok.kind hk hc hcell fin hcd) hd
theorem jY{i j pos}:PE X (.Constant (.int i) j pos) (tC (.int i)):=fun _ _ _ H _ I h=>wpAny_Constant_int ⟨.int i,H,I.tok _,⟨_,rfl⟩,h⟩
theorem yo6{b j pos}:PE X (.Constant (.bool b) j pos) (tC (.bl b)):=fun _ _ _ H _ I h=>Constant_bool ⟨.bl b,H,I,rfl,h⟩
theorem yb2{j pos}:PE X (.Constant .none j pos) (tC .non):=fun _ _ _ H _ I h=>Constant_none ⟨.non,H,I,rfl,h⟩
theorem yb3{x j pos}:PE X (.Constant (.str x) j pos) (tC (.str x)):=fun _ _ _ H _ I h=>Calls.Constant_str ⟨.str x,H,I.tok _,⟨_,rfl⟩,h⟩
def Gl(X:Cx)(x:Str):Prop:=X.env.kindOf x=some .globalImplicit
theorem oY{E:Value->Shared->Prop}{pins:tzB}{s:Shared}{σ:St}{H:Hp}{x:Str}{u:Value}{pos:Pos}{Q:Value->Shared->Prop}(I:Inv X pins σ H s)(hg:Gl X x)(hm:X.mg x=some u)(h:Q u s)
  (hd:(x==("__debug__":Str))=false:=by decide):wpAny (model X.prog X.w) X.A (eval (.Name x pos) X.env) Q E s:=
 Calls.Name_function_global I.ok.kind hg (Calls.loadGlobal_global (by rw [I.ok.glob];exact I.mod.glob.keeps I.bk) hm h) hd
theorem qE{E:Value->Shared->Prop}{pins:tzB}{s:Shared}{σ:St}{H:Hp}{x:Str}{u:Value}{pos:Pos}{Q:Value->Shared->Prop}(I:Inv X pins σ H s)(hg:Gl X x)(hm:X.mg x=none)(hv:bootBuiltins x=some u)(h:Q u s)
  (hn:x≠"__name__":=by decide) (hd:(x==("__debug__":Str))=false:=by decide):wpAny (model X.prog X.w) X.A (eval (.Name x pos) X.env) Q E s:=by
 obtain⟨mb,h1,h2⟩:=I.mod.blt
 exact Calls.Name_function_global I.ok.kind hg (Calls.loadGlobal_builtin (by rw [I.ok.glob];exact I.mod.glob.keeps I.bk) hm (by rw [I.ok.blt];exact h1.keeps I.bk) ((h2 x hn).trans hv) h) hd
theorem nQ{x:Str}{v:V}{u:Value}{pos:Pos}(hg:Gl X x)(hm:X.mg x=some u)(r:dQ v u)(hd:(x==("__debug__":Str))=false:=by decide):PE X (.Name x pos) (tC v):=
 fun _ _ _ H _ I h=>oY I hg hm ⟨v,H,I,r,h⟩ hd
theorem vQ{x:Str}{v:V}{u:Value}{pos:Pos}(hg:Gl X x)(hm:X.mg x=none)(hv:bootBuiltins x=some u)(r:dQ v u)(hn:x≠"__name__":=by decide)(hd:(x==("__debug__":Str))=false:=by decide):PE X (.Name x pos) (tC v):=
 fun _ _ _ H _ I h=>qE I hg hm hv ⟨v,H,I,r,h⟩ hn hd
variable{a b:Expr}{ta tb:TE}{pos:Pos}
def PC(X:Cx)(op:CmpOp)(a b:Expr)(t:TE):Prop:=
 ∀(pins:tzB) (s:Shared) (σ:St) (H:Hp) (Q:VK),Inv X pins σ H s->t σ H Q->
  wpAny (model X.prog X.w) X.A (eval a X.env) (fun v s₁=>wpAny (model X.prog X.w) X.A (eval b X.env) (fun u s₂=>wpAny (model X.prog X.w) X.A (compareOp op v u) (EP X pins σ Q) X.xe s₂) X.xe s₁) X.xe s
theorem yi7(b:Expr){op:CmpOp}(h:op≠ .In)(h2:op≠ .NotIn):behindInMarks op b=false:=by
 have e1:(op==CmpOp.In)=false:=by cases op<;>first|rfl|exact absurd rfl h
 have e2:(op==CmpOp.NotIn)=false:=by cases op<;>first|rfl|exact absurd rfl h2
 cases b<;>simp [behindInMarks,e1,e2]
def xg8(ta:TE):TE:=fun σ H Q=>ta σ H fun x H1=>Q (.bl (decide (x= .non))) H1
theorem dQ.none_iff{x:V}{v:Value}(r:dQ x v):(v==Value.none)=decide (x= .non):=by
 cases x with
 |non=>cases r;rfl
 |bl _=>cases r;rfl
 |int _=>obtain⟨t,rfl⟩:=r;rfl
 |str _=>obtain⟨t,rfl⟩:=r;rfl
 |byt _=>obtain⟨t,rfl⟩:=r;rfl
 |flt _=>obtain⟨t,rfl⟩:=r;rfl
 |ref _=>cases r;rfl
 |ty _=>cases r;rfl
theorem yw2{j pos'}(ha:PE X a ta):PC X .Is a (.Constant .none j pos') (xg8 ta):=by
 intro pins s σ H Q I h
 refine thn (ha pins s σ H _ I h) fun v s1 ⟨x,H1,I1,r1,q1⟩=> ?_
 exact Constant_none (is_none_gen ⟨.bl _,H1,I1,by rw [r1.none_iff];rfl,q1⟩)
def tB(t:TE):TT:=fun σ H Q=>t σ H fun x H1=>∃c,x= .bl c/\Q c H1
theorem yb4{op:CmpOp}{t:TE}(h:PC X op a b t)(h1:behindInMarks op b=false:=by first|exact yi7 _ (by decide) (by decide)|rfl):PT X (.Compare a [op] [b] pos) (tB t):=by
 intro pins s σ H Q I hw
 refine wpAny_isTrue_Compare1 (thn (h pins s σ H _ I hw) fun v s1 h1=>thn h1 fun u s2 h2=>thn h2 fun c s3 ⟨x,H1,I1,r1,q1⟩=> ?_) h1
 obtain⟨d,rfl,q⟩:=q1
 cases r1
 exact wpAny_truthy_bool ⟨H1,I1,q⟩
theorem yG{e:Expr}{t:TE}(h:PE X e t)(he:∀whole,isTrue e X.env whole=(do let v<-whole;standAt e.pos;holding [v] (truthy v)):=by intro _;rfl):PT X e (tB t):=by
 intro pins s σ H Q I hw
 refine isTrue_plain (thn (h pins s σ H _ I hw) fun v s1 ⟨x,H1,I1,r1,q1⟩=> ?_) (he _)
 obtain⟨d,rfl,q⟩:=q1
 cases r1
 exact wpAny_truthy_bool ⟨H1,I1,q⟩
variable{tA tB':TT}{bY:List Expr}
def xg9(t u:TT):TT:=fun σ H Q=>t σ H fun c H1=>if c=true then u σ H1 Q else Q false H1
def tOr(t u:TT):TT:=fun σ H Q=>t σ H fun c H1=>if c=true then Q true H1 else u σ H1 Q
def xh0(t:TT):TT:=fun σ H Q=>t σ H fun c H1=>Q (!c) H1
theorem yq1(ha:PT X a tA):PW X (.BoolOp .And [a] pos) tA:=by
 intro wh pins s σ H Q I h
 refine isTrue_and (thn (ha pins s σ H Q I h) fun c s1 e=> ?_)
 cases c with
 |true=>exact isTrue_and_nil e
 |false=>exact e
theorem zj7(ha:PT X a tA):PW X (.BoolOp .Or [a] pos) tA:=by
 intro wh pins s σ H Q I h
 refine isTrue_or (thn (ha pins s σ H Q I h) fun c s1 e=> ?_)
 cases c with
 |false=>exact isTrue_or_nil e
 |true=>exact e
theorem yw3(ha:PT X a tA)(hb:PW X (.BoolOp .And (b::bY) pos) tB'):PW X (.BoolOp .And (a::b::bY) pos) (xg9 tA tB'):=by
 intro wh pins s σ H Q I h
 refine isTrue_and (thn (ha pins s σ H _ I h) fun c s1 ⟨H1,I1,q1⟩=> ?_)
 cases c with
 |true=>exact hb wh pins s1 σ H1 Q I1 q1
 |false=>exact⟨H1,I1,q1⟩
theorem zi0(ha:PT X a tA)(hb:PW X (.BoolOp .Or (b::bY) pos) tB'):PW X (.BoolOp .Or (a::b::bY) pos) (tOr tA tB'):=by
 intro wh pins s σ H Q I h
 refine isTrue_or (thn (ha pins s σ H _ I h) fun c s1 ⟨H1,I1,q1⟩=> ?_)
 cases c with
 |true=>exact⟨H1,I1,q1⟩
 |false=>exact hb wh pins s1 σ H1 Q I1 q1
theorem yH(ha:PT X a tA):PT X (.UnaryOp .Not a pos) (xh0 tA):=by
 intro pins s σ H Q I h
 exact isTrue_not (ha pins s σ H (fun c H1=>Q (!c) H1) I h)
def xe0(ta tb:TE):TE:=fun σ H Q=>ta σ H fun x H1=>∃c,x= .bl c/\if c=true then tb σ H1 Q else Q (.bl false) H1
def xe1(ta:TE):TE:=fun σ H Q=>ta σ H fun x H1=>∃c,x= .bl c/\Q (.bl (!c)) H1
theorem yw4{op}{t:TE}(h:PE X a t):PE X (.BoolOp op [a] pos) t:=fun pins s σ H Q I hw=>BoolOp_one (h pins s σ H Q I hw)
theorem yw5(ha:PE X a ta)(hb:PE X (.BoolOp .And (b::bY) pos) tb):PE X (.BoolOp .And (a::b::bY) pos) (xe0 ta tb):=by
 intro pins s σ H Q I h
 refine BoolOp_and (thn (ha pins s σ H _ I h) fun v s1 ⟨x,H1,I1,r1,q1⟩=> ?_)
 obtain⟨c,rfl,q1⟩:=q1
 cases r1
 refine wpAny_truthy_bool ?_
 cases c with
 |true=>exact hb pins s1 σ H1 Q I1 q1
 |false=>exact⟨.bl false,H1,I1,rfl,q1⟩
theorem yw6(ha:PE X a ta):PE X (.UnaryOp .Not a pos) (xe1 ta):=by
 intro pins s σ H Q I h
 refine UnaryOp_ (thn (ha pins s σ H _ I h) fun v s1 ⟨x,H1,I1,r1,q1⟩=> ?_)
 obtain⟨c,rfl,q1⟩:=q1
 cases r1
 exact not_of (wpAny_truthy_bool ⟨.bl (!c),H1,I1,rfl,q1⟩)
end
def SqL(K:tz0)(H:Hp)(a:Addr)(xs:List V):Prop:=
 Rd H a (.lst xs)\/
  ∃(o:Obj) (its:Array Value) (n:Nat),K.lookup a=some o/\o.cls= .type "list"/\o.dict=none/\o.data= .seq its n/\its.size<=sizeLine/\cV xs its.toList
def SqT(K:tz0)(H:Hp)(a:Addr)(xs:List V):Prop:=
 Rd H a (.tup xs)\/
  ∃(o:Obj) (its:Array Value) (n:Nat),K.lookup a=some o/\o.cls= .type "tuple"/\o.data= .seq its n/\its.size<=sizeLine/\cV xs its.toList
def xh1:Value->Option V
 | .none=>some .non
 | .bool b=>some (.bl b)
 | .int i _=>some (.int i)
 | .str x _=>some (.str x)
 | .bytes b _=>some (.byt b)
 | .float b _=>some (.flt b)
 | .ref a=>some (.ref a)
 | .type n=>some (.ty n)
 |_=>none
theorem dQ.abs{x:V}{u:Value}(r:dQ x u):xh1 u=some x:=by
 cases x with
 |non=>cases r;rfl
 |bl _=>cases r;rfl
 |int _=>obtain⟨t,rfl⟩:=r;rfl
 |str _=>obtain⟨t,rfl⟩:=r;rfl
 |byt _=>obtain⟨t,rfl⟩:=r;rfl
 |flt _=>obtain⟨t,rfl⟩:=r;rfl
 |ref _=>cases r;rfl
 |ty _=>cases r;rfl
theorem dQ.inj{x y:V}{u:Value}(r:dQ x u)(q:dQ y u):x=y:=Option.some.inj (r.abs.symm.trans q.abs)
theorem cV.inj:∀{xs ys:List V} {us:List Value},cV xs us->cV ys us->xs=ys
 |_,_,_,.nil,.nil=>rfl
 |_,_,_,.cons r t,.cons r' t'=>by rw [r.inj r',cV.inj t t']
section
variable{X:Cx}{pins:tzB}{σ:St}{H:Hp}{s:Shared}{a:Addr}{xs ys:List V}
theorem Inv.list(I:Inv X pins σ H s)(h:SqL X.K H a xs):∃its:List Value,cV xs its/\PlainL s.heap a its.toArray/\xs.length<=sizeLine:=by
 rcases h with h|⟨o,its,n,hk,hc,hd,hs,hz,r⟩
 ·obtain⟨z,its,n,r,e⟩:=h.ok I.hok
  exact⟨its,r,⟨_,n,e,rfl,rfl,rfl⟩,z⟩
 ·refine⟨its.toList,r,⟨o,n,I.kIn a o hk,hc,hd,by simpa using hs⟩,?_⟩
  have e:=r.length
  simp only [Array.length_toList] at e
  omega
theorem Inv.tuple(I:Inv X pins σ H s)(h:SqT X.K H a xs):∃its:List Value,cV xs its/\IsTup s.heap a its.toArray/\xs.length<=sizeLine:=by
 rcases h with h|⟨o,its,n,hk,hc,hs,hz,r⟩
 ·obtain⟨z,its,r,p⟩:=h.ok I.hok
  exact⟨its,r,p,z⟩
 ·refine⟨its.toList,r,⟨o,I.kIn a o hk,hc,n,by simpa using hs⟩,?_⟩
  have e:=r.length
  simp only [Array.length_toList] at e
  omega
theorem Inv.list_inj(I:Inv X pins σ H s)(h:SqL X.K H a xs)(h':SqL X.K H a ys):xs=ys:=by
 obtain⟨its,r,⟨o,n,e,_,_,d⟩,_⟩:=I.list h
 obtain⟨its',r',⟨o',n',e',_,_,d'⟩,_⟩:=I.list h'
 rw [e] at e';cases e'
 rw [d] at d'
 injection d' with d1 _
 have:its=its':=by simpa using congrArg Array.toList d1
 subst this
 exact r.inj r'
theorem Inv.tuple_inj(I:Inv X pins σ H s)(h:SqT X.K H a xs)(h':SqT X.K H a ys):xs=ys:=by
 obtain⟨its,r,⟨o,e,_,n,d⟩,_⟩:=I.tuple h
 obtain⟨its',r',⟨o',e',_,n',d'⟩,_⟩:=I.tuple h'
 rw [e] at e';cases e'
 rw [d] at d'
 injection d' with d1 _
 have:its=its':=by simpa using congrArg Array.toList d1
 subst this
 exact r.inj r'
end
abbrev Cx.wish(X:Cx)(E:Value->Shared->Prop):Cx:={X with xe:=E}
abbrev Cx.nox(X:Cx):Cx:=X.wish fun _ _=>False
theorem Cx.Ok.wish{X:Cx}(ok:X.Ok)(E:Value->Shared->Prop):(X.wish E).Ok:=
 ⟨ok.mod,ok.kind,ok.glob,ok.blt,ok.above,ok.inj,ok.has,ok.cab,ok.hd,ok.frames,ok.stk,ok.exf,ok.bs,ok.bsz,ok.noex,ok.exfs,ok.funs,ok.frf⟩
theorem Cx.Ok.unwish{X:Cx}{E:Value->Shared->Prop}(ok:(X.wish E).Ok):X.Ok:=
 ⟨ok.mod,ok.kind,ok.glob,ok.blt,ok.above,ok.inj,ok.has,ok.cab,ok.hd,ok.frames,ok.stk,ok.exf,ok.bs,ok.bsz,ok.noex,ok.exfs,ok.funs,ok.frf⟩
section
variable{X:Cx}{pins:tzB}{σ:St}{H:Hp}{s:Shared}{E:Value->Shared->Prop}
theorem Inv.wish(I:Inv X pins σ H s)(E:Value->Shared->Prop):Inv (X.wish E) pins σ H s:=⟨I.ok.wish E,I.os,I.bare,I.base,I.loc,I.cell,I.free,I.freeC,I.pin,I.hok,I.len⟩
theorem Inv.unwish(I:Inv (X.wish E) pins σ H s):Inv X pins σ H s:=⟨I.ok.unwish,I.os,I.bare,I.base,I.loc,I.cell,I.free,I.freeC,I.pin,I.hok,I.len⟩
theorem SP.unwish{D:Ends}{f:Flow}{s':Shared}(h:SP (X.wish E) pins D f s'):SP X pins D f s':=by
 cases f with
 |next=>obtain⟨σ',H',I,q⟩:=h;exact⟨σ',H',I.unwish,q⟩
 |brk=>obtain⟨σ',H',I,q⟩:=h;exact⟨σ',H',I.unwish,q⟩
 |cont=>obtain⟨σ',H',I,q⟩:=h;exact⟨σ',H',I.unwish,q⟩
 |ret u=>obtain⟨v,σ',H',I,r,q⟩:=h;exact⟨v,σ',H',I.unwish,r,q⟩
theorem PE.nox{e:Expr}{t:TE}(h:PE X.nox e t):PE X e t:=fun pins s σ H Q I hw=>
 wpAny_mono (h pins s σ H Q (I.wish _) hw) (fun _ _ ⟨v,H',I',r,q⟩=>⟨v,H',I'.unwish,r,q⟩) fun _ _ z=>False.elim z
theorem PT.nox{e:Expr}{t:TT}(h:PT X.nox e t):PT X e t:=fun pins s σ H Q I hw=>
 wpAny_mono (h pins s σ H Q (I.wish _) hw) (fun _ _ ⟨H',I',q⟩=>⟨H',I'.unwish,q⟩) fun _ _ z=>False.elim z
theorem PSs.nox{st:List Stmt}{t:TS}(h:PSs X.nox st t):PSs X st t:=fun pins s σ H D I hw=>
 wpAny_mono (h pins s σ H D (I.wish _) hw) (fun _ _ q=>q.unwish) fun _ _ z=>False.elim z
end
section
variable{X:Cx}{st:Stmt}{bY:List Stmt}{t u:TS}{e:Expr}{te:TE}{pos:Pos}
def xe2:TS:=fun D σ H=>D.nx σ H
def xh2(t u:TS):TS:=fun D σ H=>t {D with nx:=u D} σ H
theorem vR:PSs X [] xe2:=fun _ _ σ H _ I h=>wpAny_execs_nil ⟨σ,H,I,h⟩
theorem jG(h1:PS X st t)(h2:PSs X bY u):PSs X (st::bY) (xh2 t u):=by
 intro pins s σ H D I h
 refine wpAny_execs_cons (thn (h1 pins s σ H {D with nx:=u D} I h) fun f s1 q=> ?_)
 cases f with
 |next=>
  obtain⟨σ',H',I',q⟩:=q
  exact h2 pins s1 σ' H' D I' q
 |ret v=>exact q
 |brk=>exact q
 |cont=>exact q
theorem qB(h1:PS X st t):PSs X [st] t:=by
 intro pins s σ H D I h
 refine wpAny_execs_cons (thn (h1 pins s σ H D I h) fun f s1 q=> ?_)
 cases f with
 |next=>exact wpAny_execs_nil q
 |ret v=>exact q
 |brk=>exact q
 |cont=>exact q
theorem Inv.quiet{pins:tzB}{σ:St}{H:Hp}{s:Shared}(I:Inv X pins σ H s):interactive X.env=false:=by simp [interactive,I.ok.kind]
def xe3(te:TE):TS:=fun D σ H=>te σ H fun _ H1=>D.nx σ H1
theorem zs3(he:PE X e te)(hs:swapsWith e none pos.line X.env=pure false:=by rfl):PS X (.Expr e pos) (xe3 te):=by
 intro pins s σ H D I h
 exact wpAny_Expr_any (thn (he pins s σ H _ I h) fun v s1 ⟨x,H1,I1,r1,q1⟩=>⟨σ,H1,I1,q1⟩) I.quiet hs
def xh3(te:TE):TS:=fun D σ H=>te σ H D.rt
theorem qF(he:PE X e te):PS X (.Return (some e) pos) (xh3 te):=by
 intro pins s σ H D I h
 exact wpAny_Return_some (thn (he pins s σ H _ I h) fun v s1 ⟨x,H1,I1,r1,q1⟩=>⟨x,σ,H1,I1,r1,q1⟩)
def xh4(c:TT)(t u:TS):TS:=fun D σ H=>c σ H fun b H1=>if b=true then t D σ H1 else u D σ H1
theorem yI{c:Expr}{a b:List Stmt}{tc:TT}(hc:PT X c tc)(ha:PSs X a t)(hb:PSs X b u):PS X (.If c a b pos) (xh4 tc t u):=by
 intro pins s σ H D I h
 refine wpAny_If (thn (hc pins s σ H _ I h) fun d s1 ⟨H1,I1,q1⟩=> ?_)
 cases d with
 |true=>exact ha pins s1 σ H1 D I1 q1
 |false=>exact hb pins s1 σ H1 D I1 q1
def xb3:TS:=fun _ _ _=>False
theorem yi8:PS X st xb3:=fun _ _ _ _ _ _ h=>h.elim
end
abbrev TG:=V->St->Hp->(St->Hp->Prop)->Prop
abbrev TGs:=List V->St->Hp->(St->Hp->Prop)->Prop
def PG(X:Cx)(target:Expr)(t:TG):Prop:=
 ∀(pins:tzB) (s:Shared) (σ:St) (H:Hp) (v:V) (u:Value) (Q:St->Hp->Prop),Inv X pins σ H s->dQ v u->t v σ H Q->
  wpAny (model X.prog X.w) X.A (assign target X.env u) (fun _ s'=>∃σ' H',Inv X pins σ' H' s'/\Q σ' H') X.xe s
def PGs(X:Cx)(ts:List Expr)(t:TGs):Prop:=
 ∀(pins:tzB) (s:Shared) (σ:St) (H:Hp) (vs:List V) (us:List Value) (Q:St->Hp->Prop),Inv X pins σ H s->cV vs us->t vs σ H Q->
  wpAny (model X.prog X.w) X.A (assignInOrder ((assignEach ts X.env).map (·.2)) us) (fun _ s'=>∃σ' H',Inv X pins σ' H' s'/\Q σ' H') X.xe s
abbrev yn6:=V->V->V->Hp->(Hp->Prop)->Prop
def xb4(X:Cx)(t:yn6):Prop:=
 ∀(pins:tzB) (s:Shared) (σ:St) (H:Hp) (o i v:V) (ov iv u:Value) (Q:Hp->Prop),Inv X pins σ H s->dQ o ov->dQ i iv->dQ v u->t o i v H Q->
  wpAny (model X.prog X.w) X.A (setItem ov iv u) (fun _ s'=>∃H',Inv X pins σ H' s'/\Q H') X.xe s
section
variable{X:Cx}{pos:Pos}
def oM(i:Nat):TG:=fun v σ H Q=>Q (σ.set i (some v)) H
theorem kX{i:Nat}{x:Str}(hN:X.N.Nodup)(hi:X.N[i]? =some x)(hx:Loc X.env.scope x)(hf:X.fn x=true\/X.env.scope.names.lookup x=some .local:=by first|exact .inl rfl|exact .inr rfl|assumption):PG X (.Name x pos) (oM i):=by
 intro pins s σ H v u Q I r h
 exact wpAny_assign_Name (sR I hN hi hx r (fun s' I'=>⟨_,H,I',h⟩) hf)
def yn7:TGs:=fun vs σ H Q=>vs=[]/\Q σ H
def zz7(t:TG)(u:TGs):TGs:=fun vs σ H Q=>∃v r,vs=v::r/\t v σ H fun σ' H'=>u r σ' H' Q
theorem vS:PGs X [] yn7:=by
 intro pins s σ H vs us Q I r h
 obtain⟨e,h⟩:=h
 subst e
 cases r
 exact assignInOrder_nil ⟨σ,H,I,h⟩
theorem nI{e:Expr}{es:List Expr}{t:TG}{u:TGs}(h1:PG X e t)(h2:PGs X es u)
  (hs:(assignEach (e::es) X.env).map (·.2)=assign e X.env::(assignEach es X.env).map (·.2):=by rfl):PGs X (e::es) (zz7 t u):=by
 intro pins s σ H vs us Q I r h
 obtain⟨v,vr,e1,h⟩:=h
 subst e1
 cases r with
 |cons r rr=>
  rw [hs]
  refine assignInOrder_cons (thn (h1 pins s σ H _ _ _ I r h) fun _ s1 ⟨σ1,H1,I1,q1⟩=> ?_)
  exact h2 pins s1 σ1 H1 _ _ Q I1 rr q1
def xb5(K:tz0)(n:Nat)(t:TGs):TG:=fun v σ H Q=>∃a xs,v= .ref a/\SqT K H a xs/\xs.length=n/\t xs σ H Q
theorem yw7{es:List Expr}{k:Nat}{t:TGs}{n:Nat}(hc:X.calm=true)(h:PGs X es t)
  (hn:(assignEach es X.env).length=n:=by rfl) (hst:(assignEach es X.env).findIdx? (·.1)=none:=by rfl):PG X (.Tuple es k pos) (xb5 X.K n t):=by
 intro pins s σ H v u Q I r hw
 obtain⟨a,xs,e1,hq,hl,hw⟩:=hw
 subst e1
 cases r
 obtain⟨its,rv,ht,hz⟩:=I.tuple hq
 refine assign_Tuple_tuple (I.ok.hd hc) ht (by simp [hn,<-hl,rv.length]) hst fun h' hx=> ?_
 have I1:Inv X pins σ H {s with heap:=h'}:=I.kept (t':=s.toks) fun b o e=>hx b o (Nat.ne_of_lt (Heap.lt_size e)) e
 exact h pins _ σ H xs _ Q I1 (by simpa using rv) hw
def xh5(to ti:TE)(t:yn6):TG:=fun v σ H Q=>to σ H fun o H1=>ti σ H1 fun i H2=>t o i v H2 fun H3=>Q σ H3
theorem yw8{o i:Expr}{to ti:TE}{t:yn6}(ho:PE X o to)(hi:PE X i ti)(hs:xb4 X t)
  (ha:∀v,assign (.Subscript o i pos) X.env v=(do
   let ov<-holding [v] (eval o X.env)
   let iv<-holding [v,ov] (eval i X.env)
   standAt pos
   holding [v,ov,iv] (setItem ov iv v)
   release [v,ov,iv] []):=by intro _;rfl):PG X (.Subscript o i pos) (xh5 to ti t):=by
 intro pins s σ H v u Q I r h
 rw [ha]
 refine wpAny_bind (wpAny_holding (thn (ho pins s σ H _ I h) fun ov s1 ⟨x,H1,I1,r1,q1⟩=> ?_))
 refine wpAny_bind (wpAny_holding (thn (hi pins s1 σ H1 _ I1 q1) fun iv s2 ⟨y,H2,I2,r2,q2⟩=> ?_))
 refine wpAny_bind (wpAny_standAt (wpAny_bind (wpAny_holding (thn (hs pins s2 σ H2 x y v ov iv u _ I2 r1 r2 r q2) fun _ s3 ⟨H3,I3,q3⟩=> ?_))))
 exact wpAny_release ⟨σ,H3,I3,q3⟩
def xb6(te:TE)(g:TG):TS:=fun D σ H=>te σ H fun x H1=>g x σ H1 D.nx
theorem yb5{tg e:Expr}{te:TE}{g:TG}(he:PE X e te)(hg:PG X tg g)(hs:swapsWithSole [tg] e pos.line X.env=pure false:=by rfl)(hw:swappedStores [tg] e X.env=pure none:=by rfl)
  (h1:(assignEach [tg] X.env).map (·.2)=[assign tg X.env]:=by rfl):PS X (.Assign [tg] e pos) (xb6 te g):=by
 intro pins s σ H D I h
 refine wpAny_Assign_stores (thn (he pins s σ H _ I h) fun v s1 ⟨x,H1,I1,r1,q1⟩=> ?_) hs hw
 rw [h1]
 exact thn (hg pins s1 σ H1 x v _ I1 r1 q1) fun _ s2 q=>q
theorem rS{i:Nat}{x:Str}{e:Expr}{te:TE}{pos':Pos}(hN:X.N.Nodup)(hi:X.N[i]? =some x)(hx:Loc X.env.scope x)(he:PE X e te)(hs:swapsWith e (some (.Name x pos')) pos.line X.env=pure false:=by rfl)(hf:X.fn x=true\/X.env.scope.names.lookup x=some .local:=by first|exact .inl rfl|exact .inr rfl|assumption):
  PS X (.Assign [.Name x pos'] e pos) (xb6 te (oM i)):=by
 intro pins s σ H D I h
 refine wpAny_Assign_Name (thn (he pins s σ H _ I h) fun v s1 ⟨y,H1,I1,r1,q1⟩=> ?_) hs
 exact sR I1 hN hi hx r1 (fun s2 I2=>⟨_,H1,I2,q1⟩) hf
def xb7(c:TT)(tb:TS):TS:=fun D σ H=>∃W:Nat->St->Hp->Prop,(∃m,W m σ H)/\∀m σ H,W m σ H->
 c σ H fun b H1=>if b=true then ∃N:St->Hp->Prop,(∀σ' H',N σ' H'->∃m',m'<m/\W m' σ' H')/\tb {D with nx:=N,ct:=N,bk:=D.nx} σ H1 else D.nx σ H1
theorem yi9{c:Expr}{body:List Stmt}{tc:TT}{tb:TS}(hp:PassesOwn (model X.prog X.w) X.A X.env X.xe)(hc:PT X c tc)(hb:PSs X body tb):PS X (.While c body [] pos) (xb7 tc tb):=by
 intro pins s σ H D I h
 obtain⟨W,⟨m0,w0⟩,turn⟩:=h
 refine wpAny_While (codeAny_whileLoop (fun n s'=>∃σ' H',Inv X pins σ' H' s'/\W n σ' H') ?_ m0 ⟨σ,H,I,w0⟩)
 rintro n s1 ⟨σ1,H1,I1,w1⟩
 refine wpAny_passesOwn hp (thn (hc pins s1 σ1 H1 _ I1 (turn n σ1 H1 w1)) fun b s2 ⟨H2,I2,q2⟩=> ?_)
 cases b with
 | true=>
  obtain⟨N,hN,q2⟩:=q2
  rw [if_pos rfl]
  refine wpAny_passesOwn hp (thn (hb pins s2 σ1 H2 _ I2 q2) fun f s3 q3=> ?_)
  cases f with
  |next=>
   obtain⟨σ3,H3,I3,n3⟩:=q3
   obtain⟨m',hm,w3⟩:=hN σ3 H3 n3
   exact⟨m',hm,σ3,H3,I3,w3⟩
  |cont=>
   obtain⟨σ3,H3,I3,n3⟩:=q3
   obtain⟨m',hm,w3⟩:=hN σ3 H3 n3
   exact⟨m',hm,σ3,H3,I3,w3⟩
  |brk=>exact q3
  |ret v=>exact q3
 |false=>
  rw [if_neg Bool.false_ne_true]
  exact wpAny_execs_nil ⟨σ1,H2,I2,q2⟩
end
structure It where
 go:Nat->Hp->Prop
 yld:Nat->Hp->V->Hp->Prop
 stop:Nat->Hp->Prop
def qR(X:Cx)(pins:tzB)(H:Hp)(b:Addr):Prop:=
 H b=none/\b≠X.env.locals/\b∉X.fs/\(b∈X.ex\/X.s₀.heap.objs.size<=b)/\(∀x c,X.env.cells.lookup x=some c->c≠b)/\∀p∈X.pn++pins,p.1≠b
theorem Inv.fpOk{X:Cx}{pins:tzB}{σ:St}{H H':Hp}{s:Shared}{b:Addr}(I:Inv X pins σ H s)(hb:s.heap.objs.size<=b)(hn:H' b=none):qR X pins H' b:=by
 refine⟨hn,Nat.ne_of_gt (Nat.lt_of_lt_of_le I.lt hb),I.nofs hb,.inr (Nat.le_trans I.sz hb),fun x c e z=> ?_,fun p hp z=> ?_⟩
 ·obtain⟨v,q⟩:=I.cell x c e
  exact absurd (Nat.lt_of_lt_of_le q.lt (by rw [z];exact hb)) (Nat.lt_irrefl _)
 ·exact absurd (Nat.lt_of_lt_of_le (Heap.lt_size (I.pin p hp).1) (by rw [z];exact hb)) (Nat.lt_irrefl _)
structure Turn(P:Program)(w:World)(K:tz0)(tg:Expr)(J:It)(fp:List Addr)(it:Addr)(tn:Nat->Heap->Prop):Prop where
 mem:it∈fp
 obj:∀i h,tn i h->∀b∈fp,∃o,h.get? b=some o/\∀v,o.data≠ .cell v
 keep:∀i h h',tn i h->(∀b∈fp,∀o,h.get? b=some o->h'.get? b=some o)->tn i h'
 item:∀(X:Cx),X.prog=P->X.w=w->X.K=K->X.calm=true->∀(i:Nat) (pins:tzB) (s:Shared) (σ:St) (H:Hp) (E:Value->Shared->Prop),Inv X pins σ H s->(∀b∈fp,qR X pins H b)->tn i s.heap->J.go i H->
  wpAny (model P w) X.A (pyNext (.ref it)) (fun r s1=>∃u,r=some u/\
   wpAny (model P w) X.A (letOwnedTupleGo tg (.ref it) u) (fun _ s2=>∃x H',Inv X pins σ H' s2/\dQ x u/\J.yld i H x H'/\tn (i+1) s2.heap/\∀b∈fp,H' b=none) E s1) E s
 done:∀(X:Cx),X.prog=P->X.w=w->X.K=K->X.calm=true->∀(i:Nat) (pins:tzB) (s:Shared) (σ:St) (H:Hp) (E:Value->Shared->Prop),Inv X pins σ H s->(∀b∈fp,qR X pins H b)->tn i s.heap->J.stop i H->
  wpAny (model P w) X.A (pyNext (.ref it)) (fun r s1=>r=none/\Inv X pins σ H s1) E s
 self:∀(A:Around) (i:Nat) (s:Shared) (Q:Value->Shared->Prop) (E:Value->Shared->Prop),tn i s.heap->Q (.ref it) s->wpAny (model P w) A (pyIter (.ref it)) Q E s
abbrev TI:=St->Hp->(It->Hp->Prop)->Prop
def PIE(X:Cx)(pins:tzB)(σ:St)(tg:Expr)(R:It->Hp->Prop)(itv:Value)(s2:Shared):Prop:=
 ∃(it:Addr) (fp:List Addr) (tn:Nat->Heap->Prop) (J:It) (H':Hp),itv= .ref it/\Inv X pins σ H' s2/\Turn X.prog X.w X.K tg J fp it tn/\tn 0 s2.heap/\(∀b∈fp,qR X pins H' b)/\R J H'
def PI(X:Cx)(tg iter:Expr)(wi:TI):Prop:=
 ∀(pins:tzB) (s:Shared) (σ:St) (H:Hp) (R:It->Hp->Prop),Inv X pins σ H s->wi σ H R->
  wpAny (model X.prog X.w) X.A (eval iter X.env) (fun v s1=>wpAny (model X.prog X.w) X.A (pyIter v) (PIE X pins σ tg R) X.xe s1) X.xe s
theorem zv1{M:Model}{A:Around}{E:Value->Shared->Prop}{s:Shared}{tg:Expr}{it:Addr}{u:Value}{o:Obj}{n:String}{vs:Array Value}{Q:Unit->Shared->Prop}(ho:s.heap.get? it=some o)(hc:o.cls= .type n)(hd:o.data= .fields vs)
  (hn:["enumerate","zip","dict_itemiterator","dict_reverseitemiterator","odict_iterator","itertools.zip_longest","itertools.pairwise"].contains n=false) (hQ:Q () s):wpAny M A (letOwnedTupleGo tg (.ref it) u) Q E s:=by
 unfold letOwnedTupleGo
 cases tg<;>first
  |exact wpAny_pure hQ
  | (cases u<;>first
    |exact wpAny_pure hQ
    | (refine wpAny_bind (wpAny_load ho ?_)
       rw [hc,hd]
       show wpAny M A (if (["enumerate","zip","dict_itemiterator","dict_reverseitemiterator","odict_iterator","itertools.zip_longest","itertools.pairwise"].contains n&&vs[0]? ==some (rawInt _))=true then _ else _) Q E s
       rw [if_neg (by intro h;rw [hn,Bool.false_and] at h;cases h)]
       exact wpAny_pure hQ))
def Itl(K:tz0)(a:Addr):It:=
 ⟨fun i H=>∃xs x,SqL K H a xs/\xs[i]? =some x,fun i H x H'=>H'=H/\∀xs,SqL K H a xs->xs[i]? =some x,fun i H=>∃xs,SqL K H a xs/\xs.length<=i⟩
def Itt(K:tz0)(a:Addr):It:=
 ⟨fun i H=>∃xs x,SqT K H a xs/\xs[i]? =some x,fun i H x H'=>H'=H/\∀xs,SqT K H a xs->xs[i]? =some x,fun i H=>∃xs,SqT K H a xs/\xs.length<=i⟩
def Itr(lo:Int)(n:Nat):It:=⟨fun i _=>i<n,fun i H x H'=>H'=H/\x= .int (lo+i),fun i _=>n<=i⟩
theorem yb6{P:Program}{w:World}{K:tz0}{tg:Expr}(a it:Addr):Turn P w K tg (Itl K a) [it] it (fun i h=>h.IsListIter it a i) where
 mem:=by simp
 obj:=fun i h st b hb=>by
  have e:b=it:=by simpa using hb
  subst e
  obtain⟨o,e,c,d⟩:=st
  exact⟨o,e,fun v z=>by rw [d] at z;cases z⟩
 keep:=fun i h h' st k=>st.at fun o e=>k it (by simp) o e
 item:=by
  intro X hP hw hK hc i pins s σ H E I hf st hg
  subst hP hw hK
  obtain⟨xs,x,hq,hx⟩:=hg
  obtain⟨its,rv,p,hz⟩:=I.list hq
  obtain⟨u,hu,ru⟩:=rv.get hx
  obtain⟨f0,f1,f2,f3,f4,f5⟩:=hf it (by simp)
  refine wpAny_pyNext_list_item st p.isList (x:=u) (by simpa using hu) fun h' st' sb=> ?_
  have I1:Inv X pins σ H {s with heap:=h'}:=I.turned (t':=s.toks) (fun b o hb e=>(sb.2 b hb).trans e) f0 f1 f3 f4 f5
  obtain⟨o,e,c,d⟩:=id st'
  exact⟨u,rfl,zv1 (s:={s with heap:=h'}) e c d (by decide) ⟨x,H,I1,ru,⟨rfl,fun ys hy=>by rw [I.list_inj hy hq];exact hx⟩,st',fun b hb=>(hf b hb).1⟩⟩
 done:=by
  intro X hP hw hK hc i pins s σ H E I hf st hg
  subst hP hw hK
  obtain⟨xs,hq,hx⟩:=hg
  obtain⟨its,rv,p,hz⟩:=I.list hq
  obtain⟨f0,f1,f2,f3,f4,f5⟩:=hf it (by simp)
  have hl:=rv.length
  exact wpAny_pyNext_list_end (I.ok.hd hc) st p.isList (by simp;omega) fun h' eb=>⟨rfl,I.turned (t':=s.toks) (fun b o hb e=>eb b o hb e) f0 f1 f3 f4 f5⟩
 self:=fun _ _ _ _ _ st h=>wpAny_pyIter_listiter st h
theorem zv2{P:Program}{w:World}{K:tz0}{tg:Expr}(a it:Addr):Turn P w K tg (Itt K a) [it] it (fun i h=>h.IsTupleIter it a i) where
 mem:=by simp
 obj:=fun i h st b hb=>by
  have e:b=it:=by simpa using hb
  subst e
  obtain⟨o,e,c,d⟩:=st
  exact⟨o,e,fun v z=>by rw [d] at z;cases z⟩
 keep:=fun i h h' st k=>st.at fun o e=>k it (by simp) o e
 item:=by
  intro X hP hw hK hc i pins s σ H E I hf st hg
  subst hP hw hK
  obtain⟨xs,x,hq,hx⟩:=hg
  obtain⟨its,rv,p,hz⟩:=I.tuple hq
  obtain⟨u,hu,ru⟩:=rv.get hx
  obtain⟨f0,f1,f2,f3,f4,f5⟩:=hf it (by simp)
  refine wpAny_pyNext_tuple_item st (show s.heap.IsTuple a its.toArray from p) (x:=u) (by simpa using hu) fun h' st' sb=> ?_
  have I1:Inv X pins σ H {s with heap:=h'}:=I.turned (t':=s.toks) (fun b o hb e=>(sb.2 b hb).trans e) f0 f1 f3 f4 f5
  obtain⟨o,e,c,d⟩:=id st'
  exact⟨u,rfl,zv1 (s:={s with heap:=h'}) e c d (by decide) ⟨x,H,I1,ru,⟨rfl,fun ys hy=>by rw [I.tuple_inj hy hq];exact hx⟩,st',fun b hb=>(hf b hb).1⟩⟩
 done:=by
  intro X hP hw hK hc i pins s σ H E I hf st hg
  subst hP hw hK
  obtain⟨xs,hq,hx⟩:=hg
  obtain⟨its,rv,p,hz⟩:=I.tuple hq
  obtain⟨f0,f1,f2,f3,f4,f5⟩:=hf it (by simp)
  have hl:=rv.length
  exact wpAny_pyNext_tuple_end (I.ok.hd hc) st (show s.heap.IsTuple a its.toArray from p) (by simp;omega) fun h' eb=>⟨rfl,I.turned (t':=s.toks) (fun b o hb e=>eb b o hb e) f0 f1 f3 f4 f5⟩
 self:=fun _ _ _ _ _ st h=>wpAny_pyIter_tupleiter st h
theorem zv3{P:Program}{w:World}{K:tz0}{tg:Expr}(it:Addr)(lo:Int)(n:Nat):Turn P w K tg (Itr lo n) [it] it (fun i h=>IsRangeIter h it (lo+(i:Nat)*1) ((n:Int)-(i:Nat)) 1) where
 mem:=by simp
 obj:=fun i h st b hb=>by
  have e:b=it:=by simpa using hb
  subst e
  exact⟨_,st,fun v z=>by
   have z':Data.fields _=Data.cell v:=z
   cases z'⟩
 keep:=fun i h h' st k=>k it (by simp) _ st
 item:=by
  intro X hP hw hK hc i pins s σ H E I hf st hg
  subst hP hw hK
  obtain⟨f0,f1,f2,f3,f4,f5⟩:=hf it (by simp)
  have W:=Walks.range (prog:=X.prog) (w:=X.w) (I.ok.hd hc) it lo 1 n
  refine W.item i s _ _ hg st fun v h' tk hv st' kk=> ?_
  obtain⟨t,rfl⟩:=hv
  have I1:Inv X pins σ H {s with heap:=h',toks:=tk}:=I.turned (fun b o hb e=>kk b o (by simpa using hb) e) f0 f1 f3 f4 f5
  refine⟨_,rfl,zv1 (s:={s with heap:=h',toks:=tk}) (n:="range_iterator") st' rfl rfl (by decide) ⟨.int (lo+i),H,I1,⟨t,?_⟩,⟨rfl,rfl⟩,st',fun b hb=>(hf b hb).1⟩⟩
  rw [Int.mul_one]
 done:=by
  intro X hP hw hK hc i pins s σ H E I hf st hg
  subst hP hw hK
  obtain⟨f0,f1,f2,f3,f4,f5⟩:=hf it (by simp)
  exact wpAny_pyNext_range_end (I.ok.hd hc) st (by have:n<=i:=hg;omega) fun h' eb=>⟨rfl,I.turned (t':=s.toks) (fun b o hb e=>eb b o hb e) f0 f1 f3 f4 f5⟩
 self:=fun _ _ _ _ _ st h=>wpAny_pyIter_rangeiter st h
section
variable{X:Cx}{tg:Expr}
theorem zj8{pins:tzB}{σ:St}{H:Hp}{s:Shared}{R:It->Hp->Prop}{E:Value->Shared->Prop}{lo hi:Int}{t u v:Tok}{tk:Nat}(I:Inv X pins σ H s)(h1: -(2^62)<=lo)(h2:lo<2^62)(h3: -(2^62)<=hi)(h4:hi<2^62)
  (q:R (Itr lo (hi-lo).toNat) H):wpAny (model X.prog X.w) X.A (pyIter (.ref s.heap.objs.size)) (PIE X pins σ tg R) E {s with heap:=s.heap.push {cls:= .type "range",data:= .fields #[.int lo t,.int hi u,.int 1 v]},toks:=tk}:=by
 refine wpAny_pyIter_range (IsRange.new ..) (small_one h1 h2 h3 h4) ?_
 have I1:Inv X pins σ H {s with heap:=s.heap.push {cls:= .type "range",data:= .fields #[.int lo t,.int hi u,.int 1 v]},toks:=tk}:=I.kept fun b o e=>Heap.get?_push_of_some _ e
 refine⟨(s.heap.push {cls:= .type "range",data:= .fields #[.int lo t,.int hi u,.int 1 v]}).objs.size,[(s.heap.push {cls:= .type "range",data:= .fields #[.int lo t,.int hi u,.int 1 v]}).objs.size],_,_,H,rfl,
  I1.kept (t':=tk) fun b o e=>Heap.get?_push_of_some _ e,zv3 _ lo (hi-lo).toNat,?_,fun b hb=> ?_,q⟩
 ·have e1:lo+((0:Nat):Int)*1=lo:=by simp
  have e2:(((hi-lo).toNat:Nat):Int)-((0:Nat):Int)=Builtin.Range.rangeSize lo hi 1:=by rw [rangeSize_one];split<;>omega
  show IsRangeIter _ _ (lo+((0:Nat):Int)*1) ((((hi-lo).toNat:Nat):Int)-((0:Nat):Int)) 1
  rw [e1,e2]
  exact Heap.get?_push_size _ rfl
 ·have e:b=(s.heap.push {cls:= .type "range",data:= .fields #[.int lo t,.int hi u,.int 1 v]}).objs.size:=by simpa using hb
  subst e
  exact I1.fpOk (Nat.le_refl _) (I1.hok.fresh (Nat.le_refl _))
def xe4(ta:TA):TI:=fun σ H R=>ta σ H fun vs H1=>∃j:Int,vs=[.int j]/\ -(2^62)<=j/\j<2^62/\R (Itr 0 j.toNat) H1
def xe5(ta:TA):TI:=fun σ H R=>ta σ H fun vs H1=>∃i j:Int,vs=[.int i,.int j]/\(-(2^62)<=i/\i<2^62/\ -(2^62)<=j/\j<2^62)/\R (Itr i (j-i).toNat) H1
theorem yb7{a:Expr}{ta:TA}{p pos:Pos}(hg:Gl X "range")(hm:X.mg "range"=none)(ha:PA X [a] ta)(hs:starEach [a] X.env=[(false,eval a X.env)]:=by rfl):PI X tg (.Call (.Name "range" p) [a] [] pos) (xe4 ta):=by
 intro pins s σ H R I h
 refine Call_ (qE I hg hm boot_range (PyProof.Rows.callWith_type1 (thn (ha pos pins s σ H _ I h) fun us s1 ⟨vs,H1,I1,r1,q1⟩=> ?_) hs rfl))
 obtain⟨j,e,q1,q2,q⟩:=q1
 subst e
 cases r1 with
 |cons r rr=>
  cases rr
  obtain⟨t,rfl⟩:=r
  exact call_range_1 (zj8 I1 (by omega) (by omega) q1 q2 (by simpa using q))
theorem yb8{a b:Expr}{ta:TA}{p pos:Pos}(hg:Gl X "range")(hm:X.mg "range"=none)(ha:PA X [a,b] ta)(hs:starEach [a,b] X.env=[(false,eval a X.env),(false,eval b X.env)]:=by rfl)(hs2:starEach [b] X.env=[(false,eval b X.env)]:=by rfl):
  PI X tg (.Call (.Name "range" p) [a,b] [] pos) (xe5 ta):=by
 intro pins s σ H R I h
 refine Call_ (qE I hg hm boot_range (PyProof.Rows.callWith_type1 (thn (ha pos pins s σ H _ I h) fun us s1 ⟨vs,H1,I1,r1,q1⟩=> ?_) (by rw [hs,hs2]) (by rw [hs2];rfl)))
 obtain⟨i,j,e,⟨q1,q2,q3,q4⟩,q⟩:=q1
 subst e
 cases r1 with
 | cons r rr=>
  cases rr with
  |cons r' rr=>
   cases rr
   obtain⟨t,rfl⟩:=r
   obtain⟨t',rfl⟩:=r'
   exact call_range_2 (zj8 I1 q1 q2 q3 q4 q)
def xh6(wi:TI)(g:TG)(tb:TS):TS:=fun D σ H=>wi σ H fun J H1=>∃W:Nat->Nat->St->Hp->Prop,(∃m,W 0 m σ H1)/\∀i m σ H,W i m σ H->
 (J.stop i H/\D.nx σ H)\/(J.go i H/\∃N:St->Hp->Prop,(∀σ' H',N σ' H'->∃m',m'<m/\W (i+1) m' σ' H')/\∀x H',J.yld i H x H'->g x σ H' fun σ2 H2=>tb {D with nx:=N,ct:=N,bk:=D.nx} σ2 H2)
def sP(fp:List Addr)(h:Heap):tzB:=fp.filterMap fun b=>(h.get? b).map fun o=>(b,o)
theorem pW{fp:List Addr}{h:Heap}{b:Addr}{o:Obj}(hb:b∈fp)(e:h.get? b=some o):(b,o)∈sP fp h:=List.mem_filterMap.mpr ⟨b,hb,by rw [e];rfl⟩
theorem yb9{fp:List Addr}{h:Heap}{p:Addr×Obj}(hp:p∈sP fp h):p.1∈fp/\h.get? p.1=some p.2:=by
 obtain⟨b,hb,e⟩:=List.mem_filterMap.mp hp
 cases q:h.get? b with
 |none=>rw [q] at e;cases e
 |some o=>
  rw [q] at e
  have e':(b,o)=p:=Option.some.inj e
  subst e'
  exact⟨hb,q⟩
theorem Inv.pinned{pins:tzB}{σ:St}{H:Hp}{s:Shared}{fp:List Addr}(I:Inv X pins σ H s)(hf:∀b∈fp,qR X pins H b)(ho:∀b∈fp,∃o,s.heap.get? b=some o/\∀v,o.data≠ .cell v):Inv X (pins++sP fp s.heap) σ H s:=
 I.pins_of fun p hp=>(List.mem_append.mp hp).elim (fun z=>I.pin p (List.mem_append_right _ z)) fun z=>by
  obtain⟨hb,e⟩:=yb9 z
  obtain⟨f0,f1,f2,_⟩:=hf p.1 hb
  obtain⟨o,e',d⟩:=ho p.1 hb
  rw [e] at e';cases e'
  exact⟨e,f0,f1,f2,d⟩
theorem Inv.unpinned{pins pl:tzB}{σ:St}{H:Hp}{s:Shared}(I:Inv X (pins++pl) σ H s):Inv X pins σ H s:=I.pins_of fun p hp=>I.pin p (List.mem_append_right _ (List.mem_append_left _ hp))
theorem zj9{iter:Expr}{body:List Stmt}{wi:TI}{g:TG}{tb:TS}{pos:Pos}(hp:PassesOwn (model X.prog X.w) X.A X.env X.xe)(hc:X.calm=true)(hi:PI X tg iter wi)(hg:PG X tg g)(hb:PSs X body tb)
  (hs:∀x,foldedSetIterable iter X.env x=pure x:=by intro _;rfl):PS X (.For tg iter body [] pos) (xh6 wi g tb):=by
 intro pins s σ H D I h
 refine wpAny_For (thn (hi pins s σ H _ I h) fun v s1 h1=>thn h1 fun itv s2 h2=> ?_) hs
 obtain⟨it,fp,tn,J,H2,e,I2,T,st2,f2,W,⟨m0,w0⟩,turn⟩:=h2
 subst e
 have stat:∀{H':Hp},(∀b∈fp,H' b=none)->∀b∈fp,qR X pins H' b:=fun hn b hb=>⟨hn b hb,(f2 b hb).2⟩
 refine codeAny_forLoop_any (fun n s'=>∃i σ' H',Inv X pins σ' H' s'/\tn i s'.heap/\(∀b∈fp,H' b=none)/\W i n σ' H') ?_ m0 ⟨0,σ,H2,I2,st2,fun b hb=>(f2 b hb).1,w0⟩
 rintro n s3 ⟨i,σ3,H3,I3,st3,fr3,w3⟩
 rcases turn i n σ3 H3 w3 with ⟨stop,qn⟩|⟨go,N,hN,step⟩
 ·refine wpAny_passesOwn hp (thn (T.done X rfl rfl rfl hc i pins s3 σ3 H3 X.xe I3 (stat fr3) st3 stop) fun r s4 ⟨hr,I4⟩=> ?_)
  subst hr
  exact wpAny_execs_nil ⟨σ3,H3,I4,qn⟩
 ·refine wpAny_passesOwn hp (thn (T.item X rfl rfl rfl hc i pins s3 σ3 H3 X.xe I3 (stat fr3) st3 go) fun r s4 ⟨u,hr,h4⟩=> ?_)
  subst hr
  refine wpAny_passesOwn hp (thn h4 fun _ s5 ⟨x,H5,I5,r5,y5,st5,fr5⟩=> ?_)
  have I5':=I5.pinned (stat fr5) (T.obj _ _ st5)
  refine wpAny_passesOwn hp (thn (hg _ s5 σ3 H5 x u _ I5' r5 (step x H5 y5)) fun _ s6 ⟨σ6,H6,I6,q6⟩=> ?_)
  refine wpAny_passesOwn hp (thn (hb _ s6 σ6 H6 _ I6 q6) fun f s7 q7=> ?_)
  have again:∀{σ7:St} {H7:Hp},Inv X (pins++sP fp s5.heap) σ7 H7 s7->N σ7 H7->∃m,m<n/\∃i σ' H',Inv X pins σ' H' s7/\tn i s7.heap/\(∀b∈fp,H' b=none)/\W i m σ' H':=fun {σ7 H7} I7 n7=>by
   obtain⟨m',hm,w7⟩:=hN σ7 H7 n7
   refine⟨m',hm,i+1,σ7,H7,I7.unpinned,T.keep _ _ _ st5 fun b hb o e=>(I7.pin (b,o) (List.mem_append_right _ (List.mem_append_right _ (pW hb e)))).1,fun b hb=> ?_,w7⟩
   obtain⟨o,e,d⟩:=T.obj _ _ st5 b hb
   exact(I7.pin (b,o) (List.mem_append_right _ (List.mem_append_right _ (pW hb e)))).2.1
  cases f with
  |next=>obtain⟨σ7,H7,I7,n7⟩:=q7;exact again I7 n7
  |cont=>obtain⟨σ7,H7,I7,n7⟩:=q7;exact again I7 n7
  |brk=>obtain⟨σ7,H7,I7,q7⟩:=q7;exact⟨σ7,H7,I7.unpinned,q7⟩
  |ret v=>obtain⟨x7,σ7,H7,I7,r7,q7⟩:=q7;exact⟨x7,σ7,H7,I7.unpinned,r7,q7⟩
end
abbrev R2:=V->V->Hp->VK->Prop
def OpR(X:Cx)(f:Value->Value->Sem Value)(r:R2):Prop:=
 ∀(pins:tzB) (s:Shared) (σ:St) (H:Hp) (x y:V) (v u:Value) (Q:VK),Inv X pins σ H s->dQ x v->dQ y u->r x y H Q->
  wpAny (model X.prog X.w) X.A (f v u) (EP X pins σ Q) X.xe s
def UnR(X:Cx)(f:Value->Sem Value)(r:V->Hp->VK->Prop):Prop:=
 ∀(pins:tzB) (s:Shared) (σ:St) (H:Hp) (x:V) (v:Value) (Q:VK),Inv X pins σ H s->dQ x v->r x H Q->
  wpAny (model X.prog X.w) X.A (f v) (EP X pins σ Q) X.xe s
def gB(X:Cx)(f:Value)(r:List V->Hp->VK->Prop):Prop:=
 ∀(pins:tzB) (s:Shared) (σ:St) (H:Hp) (xs:List V) (us:List Value) (Q:VK),Inv X pins σ H s->cV xs us->r xs H Q->
  wpAny (model X.prog X.w) X.A (call f us) (EP X pins σ Q) X.xe s
def xh7(X:Cx)(r:V->Hp->(Bool->Hp->Prop)->Prop):Prop:=
 ∀(pins:tzB) (s:Shared) (σ:St) (H:Hp) (x:V) (v:Value) (Q:Bool->Hp->Prop),Inv X pins σ H s->dQ x v->r x H Q->
  wpAny (model X.prog X.w) X.A (truthy v) (TP X pins σ Q) X.xe s
def tOp(r:R2)(ta tb:TE):TE:=fun σ H Q=>ta σ H fun x H1=>tb σ H1 fun y H2=>r x y H2 Q
def tUn(r:V->Hp->VK->Prop)(ta:TE):TE:=fun σ H Q=>ta σ H fun x H1=>r x H1 Q
def rI(C:Int->Int->Prop)(g:Int->Int->V):R2:=fun x y H Q=>∃i j,x= .int i/\y= .int j/\C i j/\Q (g i j) H
def rI0(g:Int->Int->V):R2:=fun x y H Q=>∃i j,x= .int i/\y= .int j/\Q (g i j) H
def rU(g:Int->V):V->Hp->VK->Prop:=fun x H Q=>∃i,x= .int i/\Q (g i) H
section
variable{X:Cx}{a b c:Expr}{ta tb tc:TE}{pos:Pos}
theorem yj0(ha:PE X a ta)(hb:PE X b tb){pins:tzB}{s:Shared}{σ:St}{H:Hp}{R:V->V->Hp->Prop}(I:Inv X pins σ H s)
  (h:ta σ H fun x H1=>tb σ H1 fun y H2=>R x y H2) {Q:Value->Shared->Prop} {f:Value->Value->Sem Value}
  (hf:∀v u s2 x y H2,Inv X pins σ H2 s2->dQ x v->dQ y u->R x y H2->wpAny (model X.prog X.w) X.A (f v u) Q X.xe s2):
  wpAny (model X.prog X.w) X.A (eval a X.env) (fun v s₁=>wpAny (model X.prog X.w) X.A (eval b X.env) (fun u s₂=>wpAny (model X.prog X.w) X.A (f v u) Q X.xe s₂) X.xe s₁) X.xe s:=by
 refine thn (ha pins s σ H _ I h) fun v s1 ⟨x,H1,I1,r1,q1⟩=> ?_
 refine thn (hb pins s1 σ H1 _ I1 q1) fun u s2 ⟨y,H2,I2,r2,q2⟩=> ?_
 exact hf v u s2 x y H2 I2 r1 r2 q2
theorem jA{op:Operator}{r:R2}(ho:OpR X (binaryOp op) r)(ha:PE X a ta)(hb:PE X b tb):PE X (.BinOp a op b pos) (tOp r ta tb):=by
 intro pins s σ H Q I h
 exact wpAny_BinOp (yj0 ha hb I h fun v u s2 x y H2 I2 rx ry q=>ho pins s2 σ H2 x y v u Q I2 rx ry q)
theorem xc8{op:UnaryOp}{r:V->Hp->VK->Prop}(ho:UnR X (unaryOp op) r)(ha:PE X a ta):PE X (.UnaryOp op a pos) (tUn r ta):=by
 intro pins s σ H Q I h
 exact UnaryOp_ (thn (ha pins s σ H _ I h) fun v s1 ⟨x,H1,I1,r1,q1⟩=>ho pins s1 σ H1 x v Q I1 r1 q1)
theorem opI{f:Value->Value->Sem Value}{C:Int->Int->Prop}{g:Int->Int->Int}
  (rule:∀(i j:Int) (t u:Tok) (s:Shared) (Q:Value->Shared->Prop) (E:Value->Shared->Prop),C i j->Q (.int (g i j) s.toks) {s with toks:=s.toks+1}->wpAny (model X.prog X.w) X.A (f (.int i t) (.int j u)) Q E s):
  OpR X f (rI C fun i j=> .int (g i j)):=by
 intro pins s σ H x y v u Q I rx ry h
 obtain⟨i,j,rfl,rfl,hc,q⟩:=h
 obtain⟨t,rfl⟩:=rx
 obtain⟨t',rfl⟩:=ry
 exact rule i j t t' s _ _ hc ⟨.int (g i j),H,I.tok _,⟨_,rfl⟩,q⟩
theorem yj1{f:Value->Value->Sem Value}{g:Int->Int->Int}
  (rule:∀(i j:Int) (t u:Tok) (s:Shared) (Q:Value->Shared->Prop) (E:Value->Shared->Prop),Q (.int (g i j) s.toks) {s with toks:=s.toks+1}->wpAny (model X.prog X.w) X.A (f (.int i t) (.int j u)) Q E s):
  OpR X f (rI0 fun i j=> .int (g i j)):=by
 intro pins s σ H x y v u Q I rx ry h
 obtain⟨i,j,rfl,rfl,q⟩:=h
 obtain⟨t,rfl⟩:=rx
 obtain⟨t',rfl⟩:=ry
 exact rule i j t t' s _ _ ⟨.int (g i j),H,I.tok _,⟨_,rfl⟩,q⟩
theorem yj2{f:Value->Value->Sem Value}{g:Int->Int->Bool}
  (rule:∀(i j:Int) (t u:Tok) (s:Shared) (Q:Value->Shared->Prop) (E:Value->Shared->Prop),Q (.bool (g i j)) s->wpAny (model X.prog X.w) X.A (f (.int i t) (.int j u)) Q E s):
  OpR X f (rI0 fun i j=> .bl (g i j)):=by
 intro pins s σ H x y v u Q I rx ry h
 obtain⟨i,j,rfl,rfl,q⟩:=h
 obtain⟨t,rfl⟩:=rx
 obtain⟨t',rfl⟩:=ry
 exact rule i j t t' s _ _ ⟨.bl (g i j),H,I,rfl,q⟩
def xh8(i j:Int):Prop:=0<j/\j<1073741824
def yn8(i j:Int):Prop:=(-(2^64)<i/\i<2^64)\/(-(2^64)<j/\j<2^64)
theorem yn8.ok{i j:Int}(h:yn8 i j):IntMulOk i j:=by
 rcases h with ⟨h1,h2⟩|⟨h1,h2⟩
 ·exact .of_left (intBits_le_64 h1 h2)
 ·exact .of_right (intBits_le_64 h1 h2)
theorem zv4(k:Nat):(0:Int)<=2^k:=by
 rw [two_pow_cast]
 exact Int.natCast_nonneg _
theorem rT:OpR X (binaryOp .Add) (rI0 fun i j=> .int (i+j)):=yj1 fun _ _ _ _ _ _ _ q=>add_int q
theorem yw9:OpR X (binaryOp .Sub) (rI0 fun i j=> .int (i-j)):=yj1 fun _ _ _ _ _ _ _ q=>sub_int q
theorem nY:OpR X (binaryOp .Mult) (rI yn8 fun i j=> .int (i*j)):=opI fun _ _ _ _ _ _ _ hc q=>mul_int q hc.ok
theorem zs4:OpR X (binaryOp .FloorDiv) (rI xh8 fun i j=> .int (i/j)):=opI fun i j _ _ _ _ _ hc q=>by
 have h1:(0:Int)<j:=hc.1
 have h2:j<1073741824:=hc.2
 exact floordiv_int (by omega) (by rw [Int.fdiv_eq_ediv_of_nonneg i (by omega)];exact q) (.inl (PyProof.noPylong_small (by omega)))
theorem yJ:OpR X (binaryOp .Mod) (rI (fun _ j=>0<j) fun i j=> .int (i % j)):=opI fun i j _ _ _ _ _ hc q=>by
 have h1:(0:Int)<j:=hc
 exact mod_int' (by omega) (by rw [Int.fmod_eq_emod_of_nonneg i (by omega)];exact q)
theorem yx0:OpR X (binaryOp .RShift) (rI (fun _ j=>0<=j) fun i j=> .int (i/2^j.toNat)):=opI fun i j _ _ _ _ _ hc q=>
 rshift_int hc (by rw [Int.fdiv_eq_ediv_of_nonneg i (zv4 _)];exact q)
theorem yc0:OpR X (binaryOp .BitAnd) (rI0 fun i j=> .int (Builtin.bitAnd i j)):=yj1 fun _ _ _ _ _ _ _ q=>and_int q
theorem unI{f:Value->Sem Value}{g:Int->Int}
  (rule:∀(i:Int) (t:Tok) (s:Shared) (Q:Value->Shared->Prop) (E:Value->Shared->Prop),Q (.int (g i) s.toks) {s with toks:=s.toks+1}->wpAny (model X.prog X.w) X.A (f (.int i t)) Q E s):
  UnR X f (rU fun i=> .int (g i)):=by
 intro pins s σ H x v Q I rx h
 obtain⟨i,rfl,q⟩:=h
 obtain⟨t,rfl⟩:=rx
 exact rule i t s _ _ ⟨.int (g i),H,I.tok _,⟨_,rfl⟩,q⟩
theorem yx1:UnR X (unaryOp .USub) (rU fun i=> .int (-i)):=unI fun _ _ _ _ _ q=>neg_int q
end
def xb8:V->V->Bool
 | .non,.non=>true| .non,.int _=>true| .int _,.non=>true| .non,.bl _=>true| .bl _,.non=>true| .non,.str _=>true| .str _,.non=>true
 | .int _,.int _=>true| .bl _,.bl _=>true| .str _,.str _=>true| .byt _,.byt _=>true
 | .int _,.str _=>true| .str _,.int _=>true| .bl _,.str _=>true| .str _,.bl _=>true
 |_,_=>false
def rEq:R2:=fun x y H Q=>xb8 x y=true/\Q (.bl (decide (x=y))) H
def rNe:R2:=fun x y H Q=>xb8 x y=true/\Q (.bl (!decide (x=y))) H
theorem zs5{i j:Int}:decide (V.int i=V.int j)=(i==j):=by
 rw [Bool.eq_iff_iff]
 simp
theorem yc1{i j:Bool}:decide (V.bl i=V.bl j)=(i==j):=by
 rw [Bool.eq_iff_iff]
 simp
theorem zs6{i j:Str}:decide (V.str i=V.str j)=(i==j):=by
 rw [Bool.eq_iff_iff]
 simp
theorem zs7{i j:Array UInt8}:decide (V.byt i=V.byt j)=(i.toList==j.toList):=by
 rw [Bool.eq_iff_iff]
 cases i
 cases j
 simp
section
variable{X:Cx}{a b c:Expr}{ta tb tc:TE}{pos:Pos}
theorem fK{pins:tzB}{σ:St}{H:Hp}{s:Shared}{Q:VK}{k k':Bool}(I:Inv X pins σ H s)(q:Q (.bl k) H)(e:k=k'):EP X pins σ Q (.bool k') s:=by
 subst e
 exact⟨.bl k,H,I,rfl,q⟩
theorem zv5:OpR X (compareOp .Eq) rEq:=by
 intro pins s σ H x y v u Q I rx ry h
 obtain⟨hs,q⟩:=h
 cases x with
 |non=>
  cases rx
  cases y with
  |non=>cases ry;exact PySem.EqNone.eq_none_none (fK I q (by simp))
  |bl j=>cases ry;exact PySem.EqNone.eq_none_bool (fK I q (by simp))
  |int j=>obtain⟨t',rfl⟩:=ry;exact PySem.EqNone.eq_none_int (fK I q (by simp))
  |str j=>obtain⟨t',rfl⟩:=ry;exact PySem.EqNone.eq_none_str (fK I q (by simp))
  |_=>exact absurd (show false=true from hs) Bool.false_ne_true
 |bl i=>
  cases rx
  cases y with
  |non=>cases ry;exact PySem.EqNone.eq_bool_none (fK I q (by simp))
  |bl j=>cases ry;exact eq_bool (fK I q yc1)
  |str j=>obtain⟨t',rfl⟩:=ry;exact PySem.EqMixed.eq_bool_str (fK I q (by simp))
  |_=>exact absurd (show false=true from hs) Bool.false_ne_true
 |int i=>
  obtain⟨t,rfl⟩:=rx
  cases y with
  |non=>cases ry;exact PySem.EqNone.eq_int_none (fK I q (by simp))
  |int j=>obtain⟨t',rfl⟩:=ry;exact eq_int (fK I q zs5)
  |str j=>obtain⟨t',rfl⟩:=ry;exact PySem.EqMixed.eq_int_str (fK I q (by simp))
  |_=>exact absurd (show false=true from hs) Bool.false_ne_true
 |str i=>
  obtain⟨t,rfl⟩:=rx
  cases y with
  |non=>cases ry;exact PySem.EqNone.eq_str_none (fK I q (by simp))
  |bl j=>cases ry;exact PySem.EqMixed.eq_str_bool (fK I q (by simp))
  |int j=>obtain⟨t',rfl⟩:=ry;exact PySem.EqMixed.eq_str_int (fK I q (by simp))
  |str j=>obtain⟨t',rfl⟩:=ry;exact eq_str (fK I q zs6)
  |_=>exact absurd (show false=true from hs) Bool.false_ne_true
 |byt i=>
  obtain⟨t,rfl⟩:=rx
  cases y with
  |byt j=>obtain⟨t',rfl⟩:=ry;exact PySem.W.eq_bytes (fK I q zs7)
  |_=>exact absurd (show false=true from hs) Bool.false_ne_true
 |_=>cases y<;>exact absurd (show false=true from hs) Bool.false_ne_true
theorem yo7:OpR X (compareOp .NotEq) rNe:=by
 intro pins s σ H x y v u Q I rx ry h
 obtain⟨hs,q⟩:=h
 cases x with
 |non=>
  cases rx
  cases y with
  |non=>cases ry;exact PySem.EqNone.ne_none_none (fK I q (by simp))
  |bl j=>cases ry;exact PySem.EqNone.ne_none_bool (fK I q (by simp))
  |int j=>obtain⟨t',rfl⟩:=ry;exact PySem.EqNone.ne_none_int (fK I q (by simp))
  |str j=>obtain⟨t',rfl⟩:=ry;exact PySem.EqNone.ne_none_str (fK I q (by simp))
  |_=>exact absurd (show false=true from hs) Bool.false_ne_true
 |bl i=>
  cases rx
  cases y with
  |non=>cases ry;exact PySem.EqNone.ne_bool_none (fK I q (by simp))
  |bl j=>cases ry;exact ne_bool (fK I q (congrArg not yc1))
  |str j=>obtain⟨t',rfl⟩:=ry;exact PySem.EqMixed.ne_bool_str (fK I q (by simp))
  |_=>exact absurd (show false=true from hs) Bool.false_ne_true
 |int i=>
  obtain⟨t,rfl⟩:=rx
  cases y with
  |non=>cases ry;exact PySem.EqNone.ne_int_none (fK I q (by simp))
  |int j=>obtain⟨t',rfl⟩:=ry;exact ne_int (fK I q (congrArg not zs5))
  |str j=>obtain⟨t',rfl⟩:=ry;exact PySem.EqMixed.ne_int_str (fK I q (by simp))
  |_=>exact absurd (show false=true from hs) Bool.false_ne_true
 |str i=>
  obtain⟨t,rfl⟩:=rx
  cases y with
  |non=>cases ry;exact PySem.EqNone.ne_str_none (fK I q (by simp))
  |bl j=>cases ry;exact PySem.EqMixed.ne_str_bool (fK I q (by simp))
  |int j=>obtain⟨t',rfl⟩:=ry;exact PySem.EqMixed.ne_str_int (fK I q (by simp))
  |str j=>obtain⟨t',rfl⟩:=ry;exact ne_str (fK I q (congrArg not zs6))
  |_=>exact absurd (show false=true from hs) Bool.false_ne_true
 |byt i=>
  obtain⟨t,rfl⟩:=rx
  cases y with
  |byt j=>obtain⟨t',rfl⟩:=ry;exact PySem.W.ne_bytes (fK I q (congrArg not zs7))
  |_=>exact absurd (show false=true from hs) Bool.false_ne_true
 |_=>cases y<;>exact absurd (show false=true from hs) Bool.false_ne_true
theorem xc9:OpR X (compareOp .Lt) (rI0 fun i j=> .bl (decide (i<j))):=yj2 fun _ _ _ _ _ _ _ q=>lt_int q
theorem xd0:OpR X (compareOp .Gt) (rI0 fun i j=> .bl (decide (j<i))):=yj2 fun _ _ _ _ _ _ _ q=>gt_int q
theorem xd1:OpR X (compareOp .GtE) (rI0 fun i j=> .bl (decide (j<=i))):=yj2 fun _ _ _ _ _ _ _ q=>ge_int q
theorem cZ(b:Expr){op:CmpOp}(h:op≠ .In:=by decide)(h2:op≠ .NotIn:=by decide):behindInMarks op b=false:=by
 have e1:(op==CmpOp.In)=false:=by cases op<;>first|rfl|exact absurd rfl h
 have e2:(op==CmpOp.NotIn)=false:=by cases op<;>first|rfl|exact absurd rfl h2
 cases b<;>simp [behindInMarks,e1,e2]
theorem yq2{op:CmpOp}{r:R2}(ho:OpR X (compareOp op) r)(ha:PE X a ta)(hb:PE X b tb)(hm:behindInMarks op b=false):PE X (.Compare a [op] [b] pos) (tOp r ta tb):=by
 intro pins s σ H Q I h
 exact wpAny_Compare1 (yj0 ha hb I h fun v u s2 x y H2 I2 rx ry q=>ho pins s2 σ H2 x y v u Q I2 rx ry q) hm
def xe6(t:TE):TT:=fun σ H Q=>t σ H fun x H'=>∃k,x= .bl k/\Q k H'
theorem zs8{op:CmpOp}{r:R2}(ho:OpR X (compareOp op) r)(ha:PE X a ta)(hb:PE X b tb)(hm:behindInMarks op b=false):PT X (.Compare a [op] [b] pos) (xe6 (tOp r ta tb)):=by
 intro pins s σ H Q I h
 refine wpAny_isTrue_Compare1 (thn (ha pins s σ H _ I h) fun v s1 ⟨x,H1,I1,r1,q1⟩=>thn (hb pins s1 σ H1 _ I1 q1) fun u s2 ⟨y,H2,I2,r2,q2⟩=>
  thn (ho pins s2 σ H2 x y v u _ I2 r1 r2 q2) fun c s3 ⟨z,H3,I3,r3,k,e,q3⟩=> ?_) hm
 subst e
 cases r3
 exact wpAny_truthy_bool ⟨H3,I3,q3⟩
def yn9(K:tz0)(x:V)(H:Hp)(k:Bool):Prop:=
 match x with
 | .non=>k=false
 | .bl b=>k=b
 | .int i=>k=(i !=0)
 | .str y=>y.length<=sizeLine/\k=((y.length:Int) !=0)
 | .byt y=>y.size<=sizeLine/\k=((y.size:Int) !=0)
 | .ref p=>(∃xs,SqL K H p xs/\k= !xs.isEmpty)\/(∃xs,SqT K H p xs/\k= !xs.isEmpty)\/∃kvs,H p=some (.dK kvs)/\k= !kvs.isEmpty
 |_=>False
theorem zv6{κ:Type}{kvs:List (κ×V)}{vs:List (κ×Value)}(r:KV kvs vs):(!vs.isEmpty)= !kvs.isEmpty:=by
 cases r<;>rfl
theorem yK{xs:List V}{its:List Value}(r:cV xs its):(!its.toArray.isEmpty)= !xs.isEmpty:=by
 cases r<;>simp
theorem qG:(sizeLine:Nat)<2^63:=by rw [sizeLine_eq];decide
theorem yx2:xh7 X (fun x H Q=>∃k,yn9 X.K x H k/\Q k H):=by
 intro pins s σ H x v Q I rx h
 obtain⟨k,e,q⟩:=h
 have hl:=qG
 have hs:sizeLine=16777216:=sizeLine_eq
 cases x with
 |non=>
  cases rx
  have e':k=false:=e
  subst e'
  exact truthy_none ⟨H,I,q⟩
 |bl b=>
  cases rx
  have e':k=b:=e
  subst e'
  exact wpAny_truthy_bool ⟨H,I,q⟩
 |int i=>
  obtain⟨t,rfl⟩:=rx
  have e':k=(i !=0):=e
  subst e'
  exact PySem.P.truthy_int ⟨H,I,q⟩
 |str y=>
  obtain⟨t,rfl⟩:=rx
  obtain⟨hy,e'⟩:y.length<=sizeLine/\k=((y.length:Int) !=0):=e
  subst e'
  exact PySem.P.truthy_str (by omega) ⟨H,I.tok _,q⟩
 |byt y=>
  obtain⟨t,rfl⟩:=rx
  obtain⟨hy,e'⟩:y.size<=sizeLine/\k=((y.size:Int) !=0):=e
  subst e'
  exact PySem.W.truthy_bytes (by omega) ⟨H,I.tok _,q⟩
 | ref p=>
  cases rx
  have e':(∃xs,SqL X.K H p xs/\k= !xs.isEmpty)\/(∃xs,SqT X.K H p xs/\k= !xs.isEmpty)\/∃kvs,H p=some (.dK kvs)/\k= !kvs.isEmpty:=e
  rcases e' with ⟨xs,hx,e'⟩|⟨xs,hx,e'⟩|⟨kvs,hx,e'⟩
  ·subst e'
   obtain⟨its,r,pl,hz⟩:=I.list hx
   have hlen:=r.length
   exact wpAny_truthy_list pl.isList (by simp only [List.size_toArray];omega) ⟨H,I.tok _,by rw [yK r];exact q⟩
  ·subst e'
   obtain⟨its,r,pl,hz⟩:=I.tuple hx
   have hlen:=r.length
   exact truthy_tuple pl (by simp only [List.size_toArray];omega) ⟨H,I.tok _,by rw [yK r];exact q⟩
  ·subst e'
   obtain⟨hz,hS,vs,r,m⟩:kvs.length<=sizeLine/\(p==sysModules)=false/\∃vs,KV kvs vs/\s.heap.DictOf (gR X.prog X.w) p vs:=I.hok p _ hx
   have hlen:kvs.length=vs.length:=Paired.length r
   exact wpAny_truthy_dict hS m (by omega) ⟨H,I.tok _,by rw [zv6 r];exact q⟩
 |_=>exact(show False from e).elim
theorem yj3(ha:PE X a ta)(he:∀whole,isTrue a X.env whole=(do let v<-whole;standAt a.pos;holding [v] (truthy v))):
  PT X a (fun σ H Q=>ta σ H fun x H'=>∃k,yn9 X.K x H' k/\Q k H'):=by
 intro pins s σ H Q I h
 exact isTrue_plain (thn (ha pins s σ H _ I h) fun v s1 ⟨x,H1,I1,r1,q1⟩=>yx2 pins s1 σ H1 x v Q I1 r1 q1) (he _)
theorem zv7:OpR X (binaryOp .Add) (fun x y H Q=>∃i j,x= .str i/\y= .str j/\i.length+j.length<=sizeLine/\Q (.str (i++j)) H):=by
 intro pins s σ H x y v u Q I rx ry h
 obtain⟨i,j,rfl,rfl,hz,q⟩:=h
 obtain⟨t,rfl⟩:=rx
 obtain⟨t',rfl⟩:=ry
 exact add_str (fun t' tk=>⟨.str (i++j),H,I.tok _,⟨_,rfl⟩,q⟩) hz
theorem vT{x:V}{us:List Value}(r:cV [x] us):∃u,us=[u]/\dQ x u:=by
 cases r with
 |cons r1 r2=>cases r2;exact⟨_,rfl,r1⟩
theorem zi1{x y:V}{us:List Value}(r:cV [x,y] us):∃u w',us=[u,w']/\dQ x u/\dQ y w':=by
 cases r with
 |cons r1 r2=>
  cases r2 with
  |cons r3 r4=>cases r4;exact⟨_,_,rfl,r1,r3⟩
theorem zd4(hc:X.calm=true):gB X (.builtin "max") (fun xs H Q=>∃i j,xs=[.int i,.int j]/\Q (.int (if j>i then j else i)) H):=by
 intro pins s σ H xs us Q I r h
 obtain⟨i,j,rfl,q⟩:=h
 obtain⟨u,w',rfl,⟨t,rfl⟩,⟨t',rfl⟩⟩:=zi1 r
 refine max_two_ints (I.ok.hd hc) fun h' tk k=>⟨_,H,I.kept k,?_,q⟩
 by_cases hj:j>i
 ·rw [if_pos hj,if_pos hj];exact⟨_,rfl⟩
 ·rw [if_neg hj,if_neg hj];exact⟨_,rfl⟩
theorem yc2(hc:X.calm=true):gB X (.builtin "min") (fun xs H Q=>∃i j,xs=[.int i,.int j]/\Q (.int (if j<i then j else i)) H):=by
 intro pins s σ H xs us Q I r h
 obtain⟨i,j,rfl,q⟩:=h
 obtain⟨u,w',rfl,⟨t,rfl⟩,⟨t',rfl⟩⟩:=zi1 r
 refine min_two_ints (I.ok.hd hc) fun h' tk k=>⟨_,H,I.kept k,?_,q⟩
 by_cases hj:j<i
 ·rw [if_pos hj,if_pos hj];exact⟨_,rfl⟩
 ·rw [if_neg hj,if_neg hj];exact⟨_,rfl⟩
theorem zd5:gB X (.type "int") (fun xs H Q=>(∃i,xs=[.int i]/\Q (.int i) H)\/∃k,xs=[.bl k]/\Q (.int (if k then 1 else 0)) H):=by
 intro pins s σ H xs us Q I r h
 rcases h with ⟨i,rfl,q⟩|⟨k,rfl,q⟩
 ·obtain⟨u,rfl,t,rfl⟩:=vT r
  exact call_int_int ⟨.int i,H,I,⟨_,rfl⟩,q⟩
 ·obtain⟨u,rfl,r1⟩:=vT r
  cases r1
  exact call_int_bool ⟨.int (if k then 1 else 0),H,I.tok _,⟨_,rfl⟩,q⟩
end
structure ObjM(h:Heap)(x dx C:Addr)(mA:tzA):Prop where
 obj:h.get? x=some (PySem.W.instObj C dx)
 ns:h.Ns1 dx mA
 ne:dx≠x
theorem yc3{h:Heap}{dx:Addr}{mA:tzA}(n:h.Ns1 dx mA):∃od,h.get? dx=some od/\∀name,PySem.W.lookIn name od=some (mA name):=by
 obtain⟨o,es,ep,ho,hd,hk,_,hm⟩:=n
 refine⟨o,ho,fun name=> ?_⟩
 have e:=hm name
 unfold nsFind findBy at e
 rw [<-Array.find?_toList] at e
 unfold PySem.W.lookIn
 rw [hd]
 dsimp only
 split
 ·rename_i y q
  rw [q] at e
  exact congrArg some e
 ·rename_i q
  rw [q] at e
  have a:es.toList.any (·.refKey)=false:=by
   rw [List.any_eq_false]
   intro y hy
   obtain⟨z,t,hkey⟩:=hk y (Array.mem_toList_iff.mp hy)
   simp [DictEntry.refKey,hkey]
  have a':¬es.toList.any (·.refKey)=true:=by rw [a];exact Bool.false_ne_true
  rw [if_neg a']
  exact congrArg some e
theorem ObjM.look{h:Heap}{x dx C:Addr}{mA:tzA}(I:ObjM h x dx C mA):∃od,PySem.W.InstAt h x (PySem.W.instObj C dx) C (some od)/\∀name,PySem.W.lookIn name od=some (mA name):=
 let ⟨od,ho,hl⟩:=yc3 I.ns
 ⟨od,⟨I.obj,rfl,rfl,ho⟩,hl⟩
section
variable{prog:Program}{w:World}{A:Around}{E:Value->Shared->Prop}{s:Shared}{K:tz0}{x dx C f:Addr}{mA:tzA}{name:Str}{v:Value}
theorem zs9{expr:Bool}{Q:Value->Shared->Prop}(X:K.In s.heap)(I:ObjM s.heap x dx C mA)(hg:PySem.W.plainGet K C name=true)(hh:PySem.W.hasDictIn K C=true)
  (ha:PySem.W.findIn K (.ref C) name=some none) (hv:mA name=some v) (hv':PySem.W.handedIn v=true) (h:Q v {s with toks:=s.toks+1}):
  wpAny (model prog w) A (getAttr (.ref x) name expr) Q E s:=by
 obtain⟨od,J,hl⟩:=I.look
 exact PySem.W.get_value X J (PySem.W.plainGet_of hg).1 (PySem.W.findObj_own hh ha rfl (by rw [hl,hv])) hv' h
theorem yj4{pl:Sem Bool}{Q:Value×List Value->Shared->Prop}(X:K.In s.heap)(I:ObjM s.heap x dx C mA)(hg:PySem.W.plainGet K C name=true)
  (hf:PySem.W.findIn K (.ref C) name=some (some (.ref f))) (ht:PySem.W.isFn K (.ref f)=true) (hv:mA name=none) (h:Q (.ref f,[.ref x]) s):
  wpAny (model prog w) A (getMethod (.ref x) name pl) Q E s:=by
 obtain⟨od,J,hl⟩:=I.look
 exact PySem.W.method_fn X J (PySem.W.plainGet_of hg).1 (PySem.W.plainGet_of hg).2 hf (beq_iff_eq.mp ht) (by show(PySem.W.lookIn name od).map (·.isSome)=some false;rw [hl,hv];rfl) h
theorem yq3{ns:List Str}{Q:Unit->Shared->Prop}(X:K.In s.heap)(I:ObjM s.heap x dx C mA)
  (hs:PySem.W.findIn K (.ref C) "__setattr__"=some (some (.builtin "object.__setattr__"))) (hp:PySem.W.plainOver K C=true) (ht:PySem.W.takerIn K C name=some none) (hh:PySem.W.hasDictIn K C=true)
  (hw:PySem.Within mA ns) (hsz:ns.length<=sizeLine)
  (h:∀h',ObjM h' x dx C (fun y=>if y=name then some v else mA y)->Heap.SameBut dx s.heap h'->Q () {s with heap:=h',toks:=s.toks+2}):
  wpAny (model prog w) A (setAttr (.ref x) name v) Q E s:=by
 obtain⟨od,J,hl⟩:=I.look
 refine PySem.W.set_plain X J hs (PySem.W.osa_open (s:={s with toks:=s.toks+1}) (r:=none) X J hp ht fun b=> ?_)
 obtain⟨cd,hc,hd'⟩:=PySem.W.any_some hh
 have hx:s.heap.get? x=some ⟨.ref C,some dx,.plain,#[]⟩:=I.obj
 refine wpAny_bind (wpAny_pure (wpAny_bind (wpAny_bind (wpAny_loadPart hx (wpAny_bind (PySem.W.Looks.here (s:={s with toks:=s.toks+1}) (PySem.W.looks_clsIn X hc) ?_))))))
 rw [hd']
 refine wpAny_pure (a:=some dx) (wpAny_bind (wpAny_pure (wpAny_bind ?_)))
 refine wpAny_nsSet1 (s:={s with toks:=s.toks+1}) I.ns fun h' hn2 hs2=> ?_
 obtain⟨oD,esD,epD,hoD,hdD,hcD⟩:=hn2.count (PySem.Within.cons name v hw)
 refine wpAny_bind (wpAny_lookBehind hoD (by rw [hdD];exact pastItsLine_dict (Nat.le_trans hcD (by rw [List.length_cons];omega))) ?_)
 exact wpAny_pure (h _ ⟨(hs2.2 _ (Ne.symm I.ne)).trans I.obj,hn2,I.ne⟩ hs2)
theorem yj5{R:Result->Shared->Prop}{vs:List Value}{kw:List (Str×Value)}(X:K.In s.heap)(hm:PySem.W.makesIn K C=true)
  (hi:PySem.W.findIn K (.ref C) "__init__"=some (some (.ref f))) (hf:PySem.W.typeIn K (.ref f)=some (.type "function"))
  (h:codeAny (model prog w) (A.under (.builtin "type.__call__" ⟨.ref C::vs,kw⟩)) (.call (.ref f) ⟨.ref (s.heap.objs.size+1)::vs,kw⟩) (PySem.W.InitBack (s.heap.objs.size+1) R)
   {s with heap:=(s.heap.push PySem.W.emptyDict).push (PySem.W.instObj C s.heap.objs.size)}):
  codeAny (model prog w) A (.call (.ref C) ⟨vs,kw⟩) R s:=by
 obtain⟨hh,g,d,t,os⟩:=s
 exact PySem.W.make_core (PySem.W.makes_of X hm) (PySem.W.looks_findIn X hi) (fun self=>PySem.W.bind_fn X self hf) (.inl rfl) h
end
def jD(f:Str)(v:V):List (Str×V)->List (Str×V)
 |[]=>[(f,v)]
 |(g,x)::r=>if g=f then(g,v)::r else(g,x)::jD f v r
theorem wT(f g:Str)(v:V):∀fs:List (Str×V),(jD f v fs).lookup g=if g=f then some v else fs.lookup g
 | []=>by
  show List.lookup g [(f,v)]=_
  by_cases h:g=f
  ·have hb:(g==f)=true:=beq_iff_eq.mpr h
   simp only [List.lookup,hb,if_pos h]
  ·have hb:(g==f)=false:=beq_eq_false_iff_ne.mpr h
   simp only [List.lookup,hb,if_neg h]
 | (k,x)::r=>by
  have ih:=wT f g v r
  rw [show jD f v ((k,x)::r)=(if k=f then(k,v)::r else(k,x)::jD f v r) from rfl]
  by_cases hk:k=f
  ·rw [if_pos hk]
   by_cases h:g=k
   ·have hb:(g==k)=true:=beq_iff_eq.mpr h
    simp only [List.lookup,hb,if_pos (h.trans hk)]
   ·have hb:(g==k)=false:=beq_eq_false_iff_ne.mpr h
    simp only [List.lookup,hb,if_neg (fun e:g=f=>h (e.trans hk.symm))]
  ·rw [if_neg hk]
   by_cases h:g=k
   ·have hb:(g==k)=true:=beq_iff_eq.mpr h
    simp only [List.lookup,hb,if_neg (fun e:g=f=>hk (h.symm.trans e))]
   ·have hb:(g==k)=false:=beq_eq_false_iff_ne.mpr h
    simp only [List.lookup,hb]
    exact ih
theorem uW(f:Str)(v:V):∀fs:List (Str×V),f∈(jD f v fs).map (·.1)/\∀g,g∈fs.map (·.1)->g∈(jD f v fs).map (·.1)
 |[]=>⟨by simp [jD],fun g h=>by simp at h⟩
 | (k,x)::r=>by
  obtain⟨i1,i2⟩:=uW f v r
  rw [show jD f v ((k,x)::r)=(if k=f then(k,v)::r else(k,x)::jD f v r) from rfl]
  by_cases hk:k=f
  ·rw [if_pos hk]
   subst hk
   exact⟨by simp,fun g h=>by simpa using h⟩
  ·rw [if_neg hk]
   refine⟨?_,fun g h=> ?_⟩
   ·rw [List.map_cons]
    exact List.mem_cons_of_mem _ i1
   ·rw [List.map_cons] at h|-
    rcases List.mem_cons.mp h with e|e
    ·exact List.mem_cons.mpr (.inl e)
    ·exact List.mem_cons_of_mem _ (i2 g e)
theorem wU(f:Str)(v:V):∀fs:List (Str×V),(jD f v fs).length<=fs.length+1
 |[]=>by simp [jD]
 |(k,x)::r=>by
  have ih:=wU f v r
  rw [show jD f v ((k,x)::r)=(if k=f then(k,v)::r else(k,x)::jD f v r) from rfl]
  by_cases hk:k=f
  ·rw [if_pos hk,List.length_cons,List.length_cons];omega
  ·rw [if_neg hk,List.length_cons,List.length_cons];omega
theorem kR.some_of{v:V}{o:Option Value}(r:kR (some v) o):∃u,o=some u/\dQ v u:=by
 cases o with
 |none=>exact(show False from r).elim
 |some u=>exact⟨u,rfl,r⟩
theorem kR.none_of{o:Option Value}(r:kR none o):o=none:=by
 cases o with
 |none=>rfl
 |some u=>exact(show False from r).elim
theorem uX{v:V}{u:Value}(r:dQ v u):PySem.W.handedIn u=true:=by
 cases v with
 |non=>cases(show u=Value.none from r);rfl
 |bl b=>cases(show u=Value.bool b from r);rfl
 |int i=>obtain⟨t,e⟩:=(show ∃t,u=Value.int i t from r);cases e;rfl
 |str x=>obtain⟨t,e⟩:=(show ∃t,u=Value.str x t from r);cases e;rfl
 |byt b=>obtain⟨t,e⟩:=(show ∃t,u=Value.bytes b t from r);cases e;rfl
 |flt b=>obtain⟨t,e⟩:=(show ∃t,u=Value.float b t from r);cases e;rfl
 |ref a=>cases(show u=Value.ref a from r);rfl
 |ty n=>cases(show u=Value.type n from r);rfl
section
variable{P:Program}{w:World}{H H':Hp}{h h':Heap}{a C dx:Addr}{fs fs':List (Str×V)}
theorem vU(hok:HOk P w H h)(e:H a=some (.ins C dx fs)):∃mA,ObjM h a dx C mA/\(∀f,kR (fs.lookup f) (mA f))/\PySem.Within mA (fs.map (·.1))/\fs.length<=1000/\H dx=some (.own a):=by
 obtain⟨d,z,ne,ob,mA,n,r,q⟩:=(show fL P w H h a (.ins C dx fs) from hok a _ e)
 exact⟨mA,⟨ob,n,ne⟩,r,q,z,d⟩
end
structure Cls(K:tz0)(C:Addr):Prop where
 pg:PySem.W.plainGet K C Str.empty=true
 hd:PySem.W.hasDictIn K C=true
 po:PySem.W.plainOver K C=true
 sa:PySem.W.findIn K (.ref C) "__setattr__"=some (some (.builtin "object.__setattr__"))
theorem Cls.get{K:tz0}{C:Addr}(c:Cls K C)(f:Str):PySem.W.plainGet K C f=true:=c.pg
def dZ(K:tz0)(C:Addr)(f:Str):Prop:=PySem.W.findIn K (.ref C) f=some none
theorem dZ.taker{K:tz0}{C:Addr}{f:Str}(n:dZ K C f):PySem.W.takerIn K C f=some none:=by
 unfold PySem.W.takerIn
 rw [show PySem.W.findIn K (.ref C) f=some none from n]
 rfl
structure Con(K:tz0)(C:Addr)(f:Str)(v:V)(u:Value):Prop where
 at_:PySem.W.findIn K (.ref C) f=some (some u)
 rel:dQ v u
 get:PySem.W.specialIn K u "__get__"=some none
 cp:PySem.W.copiedNames.contains f=false
structure Meth(K:tz0)(C:Addr)(m:Str)(f:Addr):Prop where
 at_:PySem.W.findIn K (.ref C) m=some (some (.ref f))
 fn:PySem.W.isFn K (.ref f)=true
 kp:PySem.W.keepIn K (.ref f)=true
section
variable{X:Cx}{pins:tzB}{σ:St}{H:Hp}{s:Shared}{a C dx:Addr}{fs:List (Str×V)}{f:Str}{v:V}{A:Around}{E:Value->Shared->Prop}
theorem zv8{b:Bool}{Q:Value->Shared->Prop}(I:Inv X pins σ H s)(e:H a=some (.ins C dx fs))(c:Cls X.K C)(n:dZ X.K C f)(l:fs.lookup f=some v)
  (h:∀u s',Inv X pins σ H s'->dQ v u->Q u s'):wpAny (model X.prog X.w) A (getAttr (.ref a) f b) Q E s:=by
 obtain⟨mA,O,r,_,_,_⟩:=vU I.hok e
 obtain⟨u,hu,ru⟩:=kR.some_of (v:=v) (o:=mA f) (by rw [<-l];exact r f)
 exact zs9 I.kIn O (c.get f) c.hd n hu (uX ru) (h u _ (I.tok _) ru)
theorem yL{m:Str}{g:Addr}{pl:Sem Bool}{Q:Value×List Value->Shared->Prop}(I:Inv X pins σ H s)(e:H a=some (.ins C dx fs))(c:Cls X.K C)(k:Meth X.K C m g)(l:fs.lookup m=none)
  (h:Q (.ref g,[.ref a]) s):wpAny (model X.prog X.w) A (getMethod (.ref a) m pl) Q E s:=by
 obtain⟨mA,O,r,_,_,_⟩:=vU I.hok e
 have hn:mA m=none:=kR.none_of (by rw [<-l];exact r m)
 exact yj4 I.kIn O (c.get m) k.at_ k.fn hn h
theorem zv9{y:V}{u:Value}{Q:Unit->Shared->Prop}(I:Inv X pins σ H s)(e:H a=some (.ins C dx fs))(c:Cls X.K C)(n:dZ X.K C f)(hl:fs.length<1000)(ry:dQ y u)
  (h:∀s',Inv X pins σ (upd H a (.ins C dx (jD f y fs))) s'->Q () s'):wpAny (model X.prog X.w) A (setAttr (.ref a) f u) Q E s:=by
 obtain⟨mA,O,r,wi,_,ho⟩:=vU I.hok e
 have hz:(fs.map (·.1)).length<=sizeLine:=by rw [List.length_map,sizeLine_eq];omega
 refine yq3 I.kIn O c.sa c.po n.taker c.hd wi hz fun h' O' sb=>h _ ?_
 have hd:∃o,h'.get? dx=some o:=let ⟨o,_,_,e',_⟩:=O'.ns;⟨o,e'⟩
 refine I.write (x:=a) (e:=dx) (by rw [e];exact True.intro) (.inr ho) (fun b q hb z=>(sb.2 b hb).trans z) hd ?_
 refine⟨by rw [dW O.ne];exact ho,?_,O.ne,O'.obj,_,O'.ns,fun g=> ?_,fun g hg=> ?_⟩
 ·have:=wU f y fs;omega
 ·show kR ((jD f y fs).lookup g) (if g=f then some u else mA g)
  rw [wT]
  by_cases q:g=f
  ·rw [if_pos q,if_pos q];exact ry
  ·rw [if_neg q,if_neg q];exact r g
 ·by_cases q:g=f
  ·rw [q];exact(uW f y fs).1
  ·refine(uW f y fs).2 g (wi g fun z=>hg ?_)
   show(if g=f then some u else mA g)=none
   rw [if_neg q];exact z
theorem Inv.made(I:Inv X pins σ H s):Inv X pins σ (upd (upd H s.heap.objs.size (.own (s.heap.objs.size+1))) (s.heap.objs.size+1) (.ins C s.heap.objs.size []))
  {s with heap:=(s.heap.push PySem.W.emptyDict).push (PySem.W.instObj C s.heap.objs.size)}:=by
 have e1:(s.heap.push PySem.W.emptyDict).get? s.heap.objs.size=some PySem.W.emptyDict:=Heap.get?_push_size s.heap rfl
 have e2:((s.heap.push PySem.W.emptyDict).push (PySem.W.instObj C s.heap.objs.size)).get? (s.heap.objs.size+1)=some (PySem.W.instObj C s.heap.objs.size):=by
  have:=Heap.get?_push_size (s.heap.push PySem.W.emptyDict) (o:=PySem.W.instObj C s.heap.objs.size) rfl
  rwa [Heap.size_push] at this
 have e3:(s.heap.push PySem.W.emptyDict).Ns s.heap.objs.size (fun _=>none):=⟨PySem.W.emptyDict,#[],_,e1,rfl,(fun e he=>absurd he (by simp)),fun _=>rfl⟩
 have I1:=I.laid (a:=s.heap.objs.size) (o:= .own (s.heap.objs.size+1)) (h':=s.heap.push PySem.W.emptyDict) (t':=s.toks) (fun b u q=>Heap.get?_push_of_some _ q) (Nat.le_refl _) ⟨_,e1⟩
 refine I1.laid (a:=s.heap.objs.size+1) (o:= .ins C s.heap.objs.size []) (t':=s.toks) (fun b u q=>Heap.get?_push_of_some _ q) (Nat.le_of_eq (Heap.size_push _ _)) ?_
 have ne:s.heap.objs.size≠s.heap.objs.size+1:=Nat.ne_of_lt (Nat.lt_succ_self _)
 refine⟨by rw [dW ne,eT],Nat.zero_le _,ne,e2,fun _=>none,(Heap.Ns1.of_empty e3).at fun o q=>Heap.get?_push_of_some _ q,fun _=>True.intro,fun y hy=>absurd rfl hy⟩
theorem zt0{prog:Program}{w:World}{env:Env}{e:Expr}{f:Str}{pos:Pos}{s:Shared}{Q:Value->Shared->Prop}(hb:attributeBase e f env (eval e env)=eval e env)
  (h:wpAny (model prog w) A (eval e env) (fun o s₁=>wpAny (model prog w) A (getAttr o f true) Q E s₁) E s):wpAny (model prog w) A (eval (.Attribute e f pos) env) Q E s:=
 Attribute_any_ h (by rw [arm_eval_Attribute,hb])
end
def xh9(K:tz0)(ta:TE)(f:Str):TE:=fun σ H Q=>ta σ H fun x H1=>∃a C dx fs v,x= .ref a/\H1 a=some (.ins C dx fs)/\Cls K C/\dZ K C f/\fs.lookup f=some v/\Q v H1
def xi0(K:tz0)(ta tv:TE)(f:Str):TS:=fun D σ H=>tv σ H fun y H1=>ta σ H1 fun x H2=>∃a C dx fs,x= .ref a/\H2 a=some (.ins C dx fs)/\Cls K C/\dZ K C f/\fs.length<1000/\
 D.nx σ (upd H2 a (.ins C dx (jD f y fs)))
section
variable{X:Cx}{o e value:Expr}{f:Str}{pos pos' tpos:Pos}{ta tv:TE}
theorem yx3(he:PE X e ta)(hb:attributeBase e f X.env (eval e X.env)=eval e X.env):PE X (.Attribute e f pos) (xh9 X.K ta f):=by
 intro pins s σ H Q I h
 refine zt0 hb (thn (he pins s σ H _ I h) fun u s1 ⟨x,H1,I1,rx,a,C,dx,fs,v,ex,ea,c,n,l,q⟩=> ?_)
 subst ex
 obtain rfl:u=Value.ref a:=rx
 exact zv8 I1 ea c n l fun u' s2 I2 ru=>⟨v,H1,I2,ru,q⟩
theorem yx4(ha:PE X o ta)(hv:PE X value tv)(hs:swapsWith value (some (.Attribute o f pos')) pos.line X.env=pure false):PS X (.Assign [.Attribute o f pos'] value pos) (xi0 X.K ta tv f):=by
 intro pins s σ H D I h
 refine plainObj_wpAny_Assign_Attribute (thn (hv pins s σ H _ I h) fun u s1 ⟨y,H1,I1,ry,q⟩=>thn (ha pins s1 σ H1 _ I1 q) fun ov s2 ⟨x,H2,I2,rx,a,C,dx,fs,ex,ea,c,n,l,q2⟩=> ?_) hs
 subst ex
 obtain rfl:ov=Value.ref a:=rx
 exact zv9 I2 ea c n l ry fun s3 I3=>⟨σ,_,I3,q2⟩
end
section
variable{X:Cx}{pins:tzB}{σ:St}{H:Hp}{s:Shared}{A:Around}{E:Value->Shared->Prop}{Q:Value->Shared->Prop}{c:Value}{b:Bool}
inductive TyOf(K:tz0)(H:Hp):V->Value->Prop where
 |non:TyOf K H .non (.type "NoneType")
 |bl (x:Bool):TyOf K H (.bl x) (.type "bool")
 |int (i:Int):TyOf K H (.int i) (.type "int")
 |str (x:Str):TyOf K H (.str x) (.type "str")
 |flt (x:UInt64):TyOf K H (.flt x) (.type "float")
 |lst {a:Addr} {xs:List V} (e:H a=some (.lst xs)):TyOf K H (.ref a) (.type "list")
 |frz {a:Addr} {o:Obj} {xs:List V} (e:H a=some (.frz o (.lst xs))):TyOf K H (.ref a) (.type "list")
 |tup {a:Addr} {xs:List V} (e:H a=some (.tup xs)):TyOf K H (.ref a) (.type "tuple")
 |dK {a:Addr} {kvs:List (Key×V)} (e:H a=some (.dK kvs)):TyOf K H (.ref a) (.type "dict")
 |dT {a:Addr} {kvs:List (List Key×V)} (e:H a=some (.dT kvs)):TyOf K H (.ref a) (.type "dict")
 | ins {a C dx:Addr} {fs:List (Str×V)} (e:H a=some (.ins C dx fs)) (cl:Cls K C) (ha:PySem.W.findIn K (.ref C) "__class__"=some (some (.builtin "object.__class__")))
   (hn:PySem.W.specialIn K (.builtin "object.__class__") "__get__"=some (some (.builtin "getset_descriptor.__get__"))) (htk:PySem.W.takesIn K (.builtin "object.__class__")=some true)
   (hm:PySem.W.mroIn K C (.type "object")=some true):TyOf K H (.ref a) (.ref C)
theorem yc4{x:V}{u t:Value}(I:Inv X pins σ H s)(rx:dQ x u)(ty:TyOf X.K H x t)(e:PySem.W.kitOne X.K t c=some b)(h:∀tk,Q (.bool b) {s with toks:=tk}):
  wpAny (model X.prog X.w) A (call (.builtin "isinstance") [u,c]) Q E s:=by
 cases ty with
 |non=>cases(show u=Value.none from rx);exact PySem.W.kia_one PySem.W.kitx_none I.kIn True.intro e (fun z=>nomatch z) h
 |bl y=>cases(show u=Value.bool y from rx);exact PySem.W.kia_one PySem.W.kitx_bool I.kIn True.intro e (fun z=>nomatch z) h
 |int i=>obtain⟨t,q⟩:=(show ∃t,u=Value.int i t from rx);cases q;exact PySem.W.kia_one PySem.W.kitx_int I.kIn True.intro e (fun z=>nomatch z) h
 |str y=>obtain⟨t,q⟩:=(show ∃t,u=Value.str y t from rx);cases q;exact PySem.W.kia_one PySem.W.kitx_str I.kIn True.intro e (fun z=>nomatch z) h
 |flt y=>obtain⟨t,q⟩:=(show ∃t,u=Value.float y t from rx);cases q;exact PySem.W.kia_one PySem.W.kitx_float I.kIn True.intro e (fun z=>nomatch z) h
 | @lst a xs ea=>
  cases(show u=Value.ref a from rx)
  obtain⟨_,_,n,_,h1⟩:=(show fL X.prog X.w H s.heap a (.lst xs) from I.hok a _ ea)
  exact PySem.W.kia_one PySem.W.kitx_list I.kIn ⟨_,h1,rfl⟩ e (fun z=>nomatch z) h
 | @frz a ob xs ea=>
  cases(show u=Value.ref a from rx)
  obtain⟨_,_,_,n,_,h1⟩:=(show fL X.prog X.w H s.heap a (.frz ob (.lst xs)) from I.hok a _ ea)
  exact PySem.W.kia_one PySem.W.kitx_list I.kIn ⟨_,h1,rfl⟩ e (fun z=>nomatch z) h
 | @tup a xs ea=>
  cases(show u=Value.ref a from rx)
  obtain⟨_,_,_,p⟩:=(show fL X.prog X.w H s.heap a (.tup xs) from I.hok a _ ea)
  obtain⟨o,h1,h2,_⟩:=p
  exact PySem.W.kia_one PySem.W.kitx_tuple I.kIn ⟨o,h1,h2⟩ e (fun z=>nomatch z) h
 | @dK a kvs ea=>
  cases(show u=Value.ref a from rx)
  obtain⟨_,_,vs,_,p⟩:=(show fL X.prog X.w H s.heap a (.dK kvs) from I.hok a _ ea)
  obtain⟨o,es,ep,h1,h2,_⟩:=p
  exact PySem.W.kia_one PySem.W.kitx_dict I.kIn ⟨o,h1,h2.1⟩ e (fun z=>nomatch z) h
 | @dT a kvs ea=>
  cases(show u=Value.ref a from rx)
  obtain⟨_,_,xs,_,o,es,ep,h1,h2,_⟩:=(show fL X.prog X.w H s.heap a (.dT kvs) from I.hok a _ ea)
  exact PySem.W.kia_one PySem.W.kitx_dict I.kIn ⟨o,h1,h2.1⟩ e (fun z=>nomatch z) h
 | @ins a C dx fs ea cl ha hn htk hm=>
  cases(show u=Value.ref a from rx)
  obtain⟨mA,O,_⟩:=vU I.hok ea
  obtain⟨od,J,_⟩:=O.look
  exact PySem.W.kia_one (PySem.W.kitx_own (cl.get _) cl.hd ha hn htk hm) I.kIn J e (fun z=>nomatch z) h
end
structure Room(k:Nat)(A:Around):Prop where
 hd:A.handled=none
 dp:A.depth+3*k+5<recursionLimit
 un:A.units+16*k+200<cLine
theorem Room.mono{j k:Nat}{A:Around}(r:Room k A)(h:j<=k):Room j A:=⟨r.hd,by have:=r.dp;omega,by have:=r.un;omega⟩
theorem Room.deeper{k:Nat}{A:Around}(r:Room (k+1) A)(env:Env):Room k (A.deeper env):=
 ⟨r.hd,by have:=r.dp;show A.depth+1+3*k+5<_;omega,by have:=r.un;show A.units+3+16*k+200<_;omega⟩
theorem zw0{A:Around}{C:Addr}{us:List Value}{kw:List (Str×Value)}:(A.under (.builtin "type.__call__" ⟨.ref C::us,kw⟩)).depth=A.depth+1:=by
 first|rfl|simp [Around.under,Code.weight,Code.isCreation,Code.isGuard,Code.isCaller,Code.frames,Code.isFrame,guardIds]
theorem zw1{A:Around}{C:Addr}{us:List Value}{kw:List (Str×Value)}:(A.under (.builtin "type.__call__" ⟨.ref C::us,kw⟩)).units=A.units+1:=by
 first|rfl|simp [Around.under,Code.cUnits,Code.frames,Code.isFrame]
theorem Room.make{k:Nat}{A:Around}(r:Room (k+1) A)(C:Addr)(us:List Value)(kw:List (Str×Value)):Room k (A.under (.builtin "type.__call__" ⟨.ref C::us,kw⟩)):=
 ⟨r.hd,by have:=r.dp;rw [zw0];omega,by have:=r.un;rw [zw1];omega⟩
theorem Room.depth{k:Nat}{A:Around}(r:Room k A):A.depth<recursionLimit:=by have:=r.dp;omega
theorem Room.units{k:Nat}{A:Around}(r:Room k A):A.units+64<cLine:=by have:=r.un;omega
theorem Room.units0{k:Nat}{A:Around}(r:Room k A):A.units<cLine:=by have:=r.un;omega
def yo0:TA:=fun _ H Q=>Q [] H
def xe7(ta:TE)(tr:TA):TA:=fun σ H Q=>ta σ H fun x H1=>tr σ H1 fun xs H2=>Q (x::xs) H2
section
variable{X:Cx}{e:Expr}{es:List Expr}{te:TE}{t:TA}{pos:Pos}
theorem kY:PA X [] yo0:=fun _ _ _ _ H Q I h=>Calls.spliced_nil ⟨[],H,I,.nil,h⟩
theorem gD(ha:PE X e te)(hr:PA X es t)(hs:starEach (e::es) X.env=(false,eval e X.env)::starEach es X.env:=by rfl):PA X (e::es) (xe7 te t):=by
 intro pos pins s σ H Q I h
 rw [hs]
 show wpAny _ _ (spliced ((false,eval e X.env)::backTo pos (starEach es X.env))) _ _ s
 refine Calls.spliced_cons (thn (ha pins s σ H _ I h) fun u s1 ⟨x,H1,I1,r1,q1⟩=> ?_)
 exact thn (hr pos pins s1 σ H1 _ I1 q1) fun us s2 ⟨xs,H2,I2,r2,q2⟩=>⟨x::xs,H2,I2,.cons r1 r2,q2⟩
def xi1(t:TA):TE:=fun σ H Q=>t σ H fun xs H1=>xs.length<=sizeLine/\∀p,H1 p=none->Q (.ref p) (upd H1 p (.tup xs))
def xi2(t:TA):TE:=fun σ H Q=>t σ H fun xs H1=>xs.length<=sizeLine/\∀p,H1 p=none->Q (.ref p) (upd H1 p (.lst xs))
theorem yc5{x1}(h:PA X es t):PE X (.Tuple es x1 pos) (xi1 t):=by
 intro pins s σ H Q I hq
 refine wpAny_Tuple_spliced (thn (h pos pins s σ H _ I hq) fun us s1 ⟨xs,H1,I1,r,z,q⟩=>⟨by rw [<-r.length];exact z,?_⟩)
 have hf:H1 s1.heap.objs.size=none:=I1.hok.fresh (Nat.le_refl _)
 refine⟨.ref s1.heap.objs.size,upd H1 s1.heap.objs.size (.tup xs),I1.laid (t':=s1.toks) (fun b u e=>Heap.get?_push_of_some _ e) (Nat.le_refl _) ?_,rfl,q _ hf⟩
 exact⟨z,us,r,⟨_,Heap.get?_push_size _ rfl,rfl,_,rfl⟩⟩
theorem yx5(h:PA X es t):PE X (.List es pos) (xi2 t):=by
 intro pins s σ H Q I hq
 refine wpAny_List_spliced (thn (h pos pins s σ H _ I hq) fun us s1 ⟨xs,H1,I1,r,z,q⟩=>⟨by rw [<-r.length];exact z,?_⟩)
 have hf:H1 s1.heap.objs.size=none:=I1.hok.fresh (Nat.le_refl _)
 refine⟨.ref s1.heap.objs.size,upd H1 s1.heap.objs.size (.lst xs),I1.laid (t':=s1.toks) (fun b u e=>Heap.get?_push_of_some _ e) (Nat.le_refl _) ?_,rfl,q _ hf⟩
 exact⟨z,us,0,r,Heap.get?_push_size _ rfl⟩
end
abbrev Sp:=List V->Hp->VK->XK->Prop
abbrev CXT:=List Env->Hp->Shared->XK->Value->Shared->Prop
structure Env0(P:Program)(w:World)(K:tz0)(mg:tzA)(base:Heap)(A:Around)(outer:List Env)(s:Shared)(H:Hp):Prop where
 frames:A.frames=some outer
 mod:Mod K mg base
 bs:∀b o,base.get? b=some o->s.heap.get? b=some o/\H b=none
 bsz:base.objs.size<=s.heap.objs.size
 funs:s.heap.FunFrames base outer
 frf:∀b∈frs outer,H b=none
 hok:HOk P w H s.heap
 bare:AllBare s.gens
def CE(outer:List Env)(P:Program)(w:World)(H:Hp)(s:Shared)(Q:VK)(u:Value)(s':Shared):Prop:=
 ∃v H',s'.os=s.os/\AllBare s'.gens/\Un (frs outer) [] H H' s.heap s'.heap/\HOk P w H' s'.heap/\dQ v u/\Q v H'
def CR(CX:CXT)(outer:List Env)(P:Program)(w:World)(H:Hp)(s:Shared)(Q:VK)(E:XK)(r:Result)(s':Shared):Prop:=
 match r with
 | .ok (.ret u)=>CE outer P w H s Q u s'
 | .ok _=>False
 | .error e=>CX outer H s E e s'
structure FnOk(P:Program)(w:World)(K:tz0)(mg:tzA)(base:Heap)(CX:CXT)(k:Nat)(f:Addr)(fd:FuncData)(ps:List Str)(sp:Sp):Prop where
 len:∀vs H Q E,sp vs H Q E->vs.length=ps.length
 run:∀(A:Around) (outer:List Env) (s:Shared) (H:Hp) (args:Args) (us:List Value) (vs:List V) (Q:VK) (E:XK),Room k A->Env0 P w K mg base A outer s H->BindsTo s fd args (ps.zip us)->cV vs us->sp vs H Q E->
  codeAny (model P w) A (.call (.ref f) args) (CR CX outer P w H s Q E) s
theorem FnOk.mono{P:Program}{w:World}{K:tz0}{mg:tzA}{base:Heap}{CX:CXT}{j k:Nat}{f:Addr}{fd:FuncData}{ps:List Str}{sp:Sp}(F:FnOk P w K mg base CX j f fd ps sp)(h:j<=k):
  FnOk P w K mg base CX k f fd ps sp:=⟨F.len,fun A outer s H args us vs Q E hr=>F.run A outer s H args us vs Q E (hr.mono h)⟩
theorem FnOk.imp{P:Program}{w:World}{K:tz0}{mg:tzA}{base:Heap}{CX:CXT}{k:Nat}{f:Addr}{fd:FuncData}{ps:List Str}{sp sp':Sp}(F:FnOk P w K mg base CX k f fd ps sp)
  (h:∀vs H Q E,sp' vs H Q E->sp vs H Q E):FnOk P w K mg base CX k f fd ps sp':=
 ⟨fun vs H Q E q=>F.len vs H Q E (h _ _ _ _ q),fun A outer s H args us vs Q E hr he hb hv hs=>F.run A outer s H args us vs Q E hr he hb hv (h _ _ _ _ hs)⟩
theorem Env0.make{P:Program}{w:World}{K:tz0}{mg:tzA}{base:Heap}{A:Around}{outer:List Env}{s:Shared}{H:Hp}(e:Env0 P w K mg base A outer s H)(C:Addr)(us:List Value)(kw:List (Str×Value)):
  Env0 P w K mg base (A.under (.builtin "type.__call__" ⟨.ref C::us,kw⟩)) outer s H:=⟨by first|exact e.frames|(simpa [Around.under,Code.envs,Code.isFrame,pushEnvs] using e.frames),e.mod,e.bs,e.bsz,e.funs,e.frf,e.hok,e.bare⟩
section
variable{X:Cx}{pins:tzB}{σ:St}{H:Hp}{s s':Shared}
theorem Inv.env0(I:Inv X pins σ H s):Env0 X.prog X.w X.K X.mg X.base X.A X.stack s H:=
 ⟨I.ok.frames,I.ok.mod,I.bs,Nat.le_trans I.ok.bsz I.sz,I.stack,I.stkFree,I.hok,I.bare⟩
theorem Inv.after{Q:VK}{u:Value}(I:Inv X pins σ H s)(h:CE X.stack X.prog X.w H s Q u s'):EP X pins σ Q u s':=by
 obtain⟨v,H',os,bare,un,hok,r,q⟩:=h
 obtain⟨hh,g,d,t,os'⟩:=s'
 obtain rfl:os'=s.os:=os
 exact⟨v,H',I.call (h':=hh) (g':=g) (d':=d) (t':=t) (ch:=[]) un hok bare (fun b z=>absurd z (by simp)),r,q⟩
end
def yp4(sp:Sp)(dvs:List V)(E:XK)(t:TA):TE:=fun σ H Q=>t σ H fun vs H1=>sp (vs++dvs) H1 Q E
def yp5(C:Addr)(m:Str)(sp:Sp)(dvs:List V)(E:XK)(ta:TE)(t:TA):TE:=fun σ H Q=>ta σ H fun x H1=>∃a dx fs,x= .ref a/\H1 a=some (.ins C dx fs)/\fs.lookup m=none/\
 t σ H1 fun vs H2=>sp (x::(vs++dvs)) H2 Q E
def yp6(C:Addr)(sp:Sp)(dvs:List V)(E:XK)(t:TA):TE:=fun σ H Q=>t σ H fun vs H1=>∀x dx,H1 x=none->H1 dx=none->dx≠x->
 sp (.ref x::(vs++dvs)) (upd (upd H1 dx (.own x)) x (.ins C dx [])) (fun v H2=>v= .non/\Q (.ref x) H2) E
def mC(K:tz0)(fd:FuncData)(ps:List Str)(ds:List Value):Prop:=
 ∀(s:Shared) (us:List Value),K.In s.heap->(us++ds).length=ps.length->BindsTo s fd ⟨us,[]⟩ (ps.zip (us++ds))
theorem mC.all{K:tz0}{fd:FuncData}{ps:List Str}(h:∀us:List Value,us.length=ps.length->bindArgs fd ⟨us,[]⟩=pure (ps.zip us)):mC K fd ps []:=fun s us _ hl=>by
 rw [List.append_nil] at hl|-
 exact .of_eq (h us hl)
def oN(CX:CXT)(X:Cx)(E:XK):Prop:=∀(pins:tzB) (σ:St) (H:Hp) (s:Shared) (e:Value) (s':Shared),Inv X pins σ H s->CX X.stack H s E e s'->X.xe e s'
section
variable{X:Cx}{CX:CXT}{k:Nat}{f C:Addr}{fd:FuncData}{ps:List Str}{sp:Sp}{dvs:List V}{ds:List Value}{E:XK}{x m:Str}{p pos apos:Pos}{e o:Expr}{es:List Expr}{ta:TE}{t:TA}
theorem zk0{pins:tzB}{σ:St}{H:Hp}{s:Shared}{Q:VK}{us:List Value}{vs:List V}(F:FnOk X.prog X.w X.K X.mg X.base CX k f fd ps sp)(hr:Room k X.A)(hb:mC X.K fd ps ds)(hd:cV dvs ds)(hx:oN CX X E)
  (I:Inv X pins σ H s) (r:cV vs us) (h:sp (vs++dvs) H Q E):wpAny (model X.prog X.w) X.A (call (.ref f) us) (EP X pins σ Q) X.xe s:=by
 have r2:cV (vs++dvs) (us++ds):=r.append hd
 have hl:(us++ds).length=ps.length:=by rw [<-r2.length];exact F.len _ _ _ _ h
 refine wpAny_call (codeAny_mono (F.run X.A X.stack s H ⟨us,[]⟩ (us++ds) (vs++dvs) Q E hr I.env0 (hb s us I.kIn hl) r2 h) fun r s' hq=> ?_)
 cases r with
 |error e=>exact hx pins σ H s e s' I hq
 |ok fl=>
  cases fl with
  |ret u=>exact I.after hq
  |next=>exact False.elim hq
  |brk=>exact False.elim hq
  |cont=>exact False.elim hq
theorem yq4(F:FnOk X.prog X.w X.K X.mg X.base CX k f fd ps sp)(hr:Room k X.A)(hg:Gl X x)(hm:X.mg x=some (.ref f))(hk:PySem.W.keepIn X.K (.ref f)=true)(hb:mC X.K fd ps ds)(hd:cV dvs ds)(hx:oN CX X E)
  (ha:PA X (e::es) t) (hdb:(x==("__debug__":Str))=false:=by decide) (he:starEach (e::es) X.env=(false,eval e X.env)::starEach es X.env:=by rfl) (hpl:(backTo pos (starEach es X.env)).any (·.1)=false:=by rfl):
  PE X (.Call (.Name x p) (e::es) [] pos) (yp4 sp dvs E t):=by
 intro pins s σ H Q I h
 refine wpAny_Call_Name_kw (oY I hg hm ?_ hdb)
 refine PySem.W.callWith_K (h₀:=X.base) I.ok.mod.kin hk (thn (ha pos pins s σ H _ I h) fun us s1 ⟨vs,H1,I1,r,q⟩=>⟨I1.kIn,?_⟩) he hpl
 exact zk0 F hr hb hd hx I1 r q
theorem za1{pl:Sem Bool}(he:PE X o ta)(c:Cls X.K C)(hm:Meth X.K C m f)(F:FnOk X.prog X.w X.K X.mg X.base CX k f fd ps sp)(hr:Room k X.A)(hb:mC X.K fd ps ds)(hd:cV dvs ds)(hx:oN CX X E)(ha:PA X (e::es) t)
  (hst:starEach (e::es) X.env=(false,eval e X.env)::starEach es X.env:=by rfl) (hpl:(backTo pos (starEach es X.env)).any (·.1)=false:=by rfl)
  (ht:eval (.Call (.Attribute o m apos) (e::es) [] pos) X.env=(do
   let ov<-eval o X.env
   standAt apos.atName
   let (f,first)<-holding [ov] (getMethod ov m pl)
   callWith pos f first (backTo pos (starEach (e::es) X.env)) (backToKw pos (keywordEach [] X.env))):=by rfl):
  PE X (.Call (.Attribute o m apos) (e::es) [] pos) (yp5 C m sp dvs E ta t):=by
 intro pins s σ H Q I h
 refine PySem.W.methodCall_KW (pl:=pl) (thn (he pins s σ H _ I h) fun u s1 ⟨x,H1,I1,rx,a,dx,fs,ex,ea,l,q⟩=> ?_) ht
 subst ex
 obtain rfl:u=Value.ref a:=rx
 refine yL I1 ea c hm l ?_
 refine PySem.W.callWith_K (first:=[.ref a]) (h₀:=X.base) I.ok.mod.kin hm.kp (thn (ha pos pins s1 σ H1 _ I1 q) fun us s2 ⟨vs,H2,I2,r,q2⟩=>⟨I2.kIn,?_⟩) hst hpl
 exact zk0 (us:= .ref a::us) (vs:= .ref a::vs) F hr hb hd hx I2 (.cons rfl r) q2
theorem wZ{pl:Sem Bool}(he:PE X o ta)(c:Cls X.K C)(hm:Meth X.K C m f)(F:FnOk X.prog X.w X.K X.mg X.base CX k f fd ps sp)(hr:Room k X.A)(hb:mC X.K fd ps ds)(hd:cV dvs ds)(hx:oN CX X E)
  (ht:eval (.Call (.Attribute o m apos) [] [] pos) X.env=(do
   let ov<-eval o X.env
   standAt apos.atName
   let (f,first)<-holding [ov] (getMethod ov m pl)
   callWith pos f first (backTo pos (starEach [] X.env)) (backToKw pos (keywordEach [] X.env))):=by rfl):
  PE X (.Call (.Attribute o m apos) [] [] pos) (yp5 C m sp dvs E ta yo0):=by
 intro pins s σ H Q I h
 refine PySem.W.methodCall_KW (pl:=pl) (thn (he pins s σ H _ I h) fun u s1 ⟨x,H1,I1,rx,a,dx,fs,ex,ea,l,q⟩=> ?_) ht
 subst ex
 obtain rfl:u=Value.ref a:=rx
 refine yL I1 ea c hm l ?_
 exact PySem.W.callWith_K0 (first:=[.ref a]) I1.kIn hm.kp (zk0 (us:=[.ref a]) (vs:=[.ref a]) F hr hb hd hx I1 (.cons rfl .nil) q)
structure Mk(K:tz0)(C f:Addr):Prop where
 makes:PySem.W.makesIn K C=true
 init:PySem.W.findIn K (.ref C) "__init__"=some (some (.ref f))
 fn:PySem.W.isFn K (.ref f)=true
 kp:PySem.W.keepIn K (.ref C)=true
theorem zk1{pins:tzB}{σ:St}{H:Hp}{s:Shared}{Q:VK}{us:List Value}{vs:List V}(M:Mk X.K C f)(F:FnOk X.prog X.w X.K X.mg X.base CX k f fd ps sp)(hr:Room (k+1) X.A)(hb:mC X.K fd ps ds)(hd:cV dvs ds)
  (hx:oN CX X E) (I:Inv X pins σ H s) (r:cV vs us)
  (h:∀x dx,H x=none->H dx=none->dx≠x->sp (.ref x::(vs++dvs)) (upd (upd H dx (.own x)) x (.ins C dx [])) (fun v H2=>v= .non/\Q (.ref x) H2) E):
  wpAny (model X.prog X.w) X.A (call (.ref C) us) (EP X pins σ Q) X.xe s:=by
 have hq:=h (s.heap.objs.size+1) s.heap.objs.size (I.hok.fresh (Nat.le_succ _)) (I.hok.fresh (Nat.le_refl _)) (Nat.ne_of_lt (Nat.lt_succ_self _))
 have I2:=Inv.made (C:=C) I
 have r2:cV (V.ref (s.heap.objs.size+1)::(vs++dvs)) (Value.ref (s.heap.objs.size+1)::(us++ds)):= .cons rfl (r.append hd)
 have hl:(Value.ref (s.heap.objs.size+1)::us++ds).length=ps.length:=by
  have e:=r2.length
  rw [F.len _ _ _ _ hq] at e
  exact e.symm
 refine wpAny_call (yj5 (f:=f) I.kIn M.makes M.init (beq_iff_eq.mp M.fn) (codeAny_mono (F.run _ X.stack _ _ ⟨Value.ref (s.heap.objs.size+1)::us,[]⟩ (Value.ref (s.heap.objs.size+1)::(us++ds)) _ _ E (hr.make C us [])
  (I2.env0.make C us []) (hb _ (Value.ref (s.heap.objs.size+1)::us) I2.kIn hl) r2 hq) fun r s' hq'=> ?_))
 cases r with
 |error e=>exact hx pins σ _ _ e s' I2 hq'
 | ok fl=>
  cases fl with
  |ret u=>
   obtain⟨v,H',I3,rv,ev,q3⟩:=I2.after hq'
   subst ev
   exact⟨rv,⟨V.ref (s.heap.objs.size+1),H',I3,rfl,q3⟩⟩
  |next=>exact False.elim hq'
  |brk=>exact False.elim hq'
  |cont=>exact False.elim hq'
theorem yq5(M:Mk X.K C f)(F:FnOk X.prog X.w X.K X.mg X.base CX k f fd ps sp)(hr:Room (k+1) X.A)(hg:Gl X x)(hm:X.mg x=some (.ref C))(hb:mC X.K fd ps ds)(hd:cV dvs ds)(hx:oN CX X E)
  (ha:PA X (e::es) t) (hdb:(x==("__debug__":Str))=false:=by decide) (he:starEach (e::es) X.env=(false,eval e X.env)::starEach es X.env:=by rfl) (hpl:(backTo pos (starEach es X.env)).any (·.1)=false:=by rfl):
  PE X (.Call (.Name x p) (e::es) [] pos) (yp6 C sp dvs E t):=by
 intro pins s σ H Q I h
 refine wpAny_Call_Name_kw (oY I hg hm ?_ hdb)
 refine PySem.W.callWith_K (h₀:=X.base) I.ok.mod.kin M.kp (thn (ha pos pins s σ H _ I h) fun us s1 ⟨vs,H1,I1,r,q⟩=>⟨I1.kIn,?_⟩) he hpl
 exact zk1 M F hr hb hd hx I1 r q
theorem yj6(M:Mk X.K C f)(F:FnOk X.prog X.w X.K X.mg X.base CX k f fd ps sp)(hr:Room (k+1) X.A)(hg:Gl X x)(hm:X.mg x=some (.ref C))(hb:mC X.K fd ps ds)(hd:cV dvs ds)(hx:oN CX X E)
  (hdb:(x==("__debug__":Str))=false:=by decide):PE X (.Call (.Name x p) [] [] pos) (yp6 C sp dvs E yo0):=by
 intro pins s σ H Q I h
 refine wpAny_Call_Name_kw (oY I hg hm ?_ hdb)
 exact PySem.W.callWith_K0 I.kIn M.kp (zk1 (us:=[]) M F hr hb hd hx I .nil h)
end
section
variable{X:Cx}{CX:CXT}{k:Nat}{f C:Addr}{fd:FuncData}{ps ks:List Str}{sp:Sp}{E:XK}{x m:Str}{p pos apos kpos:Pos}{e o:Expr}{es:List Expr}{kws:List Keyword}{te ta:TE}{t tk:TA}{nm:Option Str}
structure KBinds(K:tz0)(fd:FuncData)(ps ks:List Str)(g:List Value->List Value->List Value)(gV:List V->List V->List V):Prop where
 to:∀(s:Shared) (us ws:List Value),K.In s.heap->(g us ws).length=ps.length->BindsTo s fd ⟨us,ks.zip ws⟩ (ps.zip (g us ws))
 rel:∀{vs:List V} {us:List Value} {zs:List V} {ws:List Value},cV vs us->cV zs ws->cV (gV vs zs) (g us ws)
variable{g:List Value->List Value->List Value}{gV:List V->List V->List V}
end
structure FnScope(N P:List Str)(sc:Scope):Prop where
 kind:sc.kind= .function
 co:sc.isCoroutine=false
 gen:sc.isGenerator=false
 nd:N.Nodup
 pre:N.take P.length=P
 par:∀x∈P,sc.names.lookup x=some .local\/sc.names.lookup x=some .cell
 nofree:∀y∈sc.names,y.2≠ .free
theorem zd6{kindOf:Str->Option NameKind}{x:Str}:∀{binds:List (Str×Value)} {m:tzA},(∀v,(x,v)∉binds)->bindL kindOf binds m x=m x
 |[],_,_=>rfl
 | (n,v)::r,m,h=>by
  unfold bindL
  rw [zd6 fun w hw=>h w (List.mem_cons_of_mem _ hw)]
  split
  ·have:x≠n:=by rintro rfl;exact h v List.mem_cons_self
   simp [this]
  ·rfl
theorem zd7{kindOf:Str->Option NameKind}{x:Str}:∀{binds:List (Str×Value)} {m:tzA},(∀v,(x,v)∉binds)->bindC kindOf binds m x=m x
 |[],_,_=>rfl
 | (n,v)::r,m,h=>by
  unfold bindC
  rw [zd7 fun w hw=>h w (List.mem_cons_of_mem _ hw)]
  split
  ·rfl
  ·have:x≠n:=by rintro rfl;exact h v List.mem_cons_self
   simp [this]
theorem zd8{kindOf:Str->Option NameKind}{x:Str}{v:Value}:∀{P:List Str} {vs:List Value} {i:Nat} {m:tzA},P.Nodup->P[i]? =some x->vs[i]? =some v->kindOf x=some .local->
  bindL kindOf (P.zip vs) m x=some v
 |[],_,_,_,_,h,_,_=>by simp at h
 |_::_,[],_,_,_,_,h,_=>by simp at h
 |p::P,w::vs,0,m,nd,h1,h2,hk=>by
  simp at h1 h2;subst h1;subst h2
  show bindL kindOf ((p,w)::P.zip vs) m p=_
  unfold bindL
  rw [zd6 fun v hv=>(List.nodup_cons.mp nd).1 (List.of_mem_zip hv).1,if_pos hk]
  simp
 |p::P,w::vs,i+1,m,nd,h1,h2,hk=>by
  show bindL kindOf ((p,w)::P.zip vs) m x=_
  unfold bindL
  exact zd8 (i:=i) (List.nodup_cons.mp nd).2 (by simpa using h1) (by simpa using h2) hk
theorem zd9{kindOf:Str->Option NameKind}{x:Str}{v:Value}:∀{P:List Str} {vs:List Value} {i:Nat} {m:tzA},P.Nodup->P[i]? =some x->vs[i]? =some v->kindOf x≠some .local->
  bindC kindOf (P.zip vs) m x=some v
 |[],_,_,_,_,h,_,_=>by simp at h
 |_::_,[],_,_,_,_,h,_=>by simp at h
 |p::P,w::vs,0,m,nd,h1,h2,hk=>by
  simp at h1 h2;subst h1;subst h2
  show bindC kindOf ((p,w)::P.zip vs) m p=_
  unfold bindC
  rw [zd7 fun v hv=>(List.nodup_cons.mp nd).1 (List.of_mem_zip hv).1,if_neg hk]
  simp
 |p::P,w::vs,i+1,m,nd,h1,h2,hk=>by
  show bindC kindOf ((p,w)::P.zip vs) m x=_
  unfold bindC
  exact zd9 (i:=i) (List.nodup_cons.mp nd).2 (by simpa using h1) (by simpa using h2) hk
def start(N:List Str)(vs:List V):St:=vs.map some++List.replicate (N.length-vs.length) none
def gG(CX:CXT)(P:Program)(w:World)(K:tz0)(mg:tzA)(base:Heap)(N:List Str)(qual:Str)(scope:Scope)(f:Addr)(cd:Value)(A:Around)(outer:List Env)(s:Shared)(H:Hp)(E:XK):Cx where
 prog:=P
 w:=w
 K:=K
 mg:=mg
 base:=base
 A:=A.deeper (envOfC qual scope s.heap.objs.size f cd)
 N:=N
 s₀:=s
 H₀:=H
 env:=envOfC qual scope s.heap.objs.size f cd
 outer:=outer
 stack:=envOfC qual scope s.heap.objs.size f cd::outer
 ex:=[]
 calm:=true
 fn:=fun _=>true
 pn:=[]
 xe:=fun e s'=>wpAny (model P w) (A.deeper (envOfC qual scope s.heap.objs.size f cd)) (leaving (envOfC qual scope s.heap.objs.size f cd) e) (fun _ s''=>CX outer H s E e s'') (fun e' s''=>CX outer H s E e' s'') s'
theorem zk2{sc:Scope}{n:Nat}{x:Str}(h:sc.names.lookup x=some .cell):∃c,(cellsFrom n sc.names []).lookup x=some c:=by
 have q:=PySem.W.cellsFrom_some sc.names n [] (.inl h)
 exact Option.isSome_iff_exists.mp q
theorem yc6{CX:CXT}{P:Program}{w:World}{K:tz0}{mg:tzA}{base:Heap}{N ps:List Str}{qual:Str}{scope:Scope}{f:Addr}{cd:Value}{A:Around}{outer:List Env}{s s1:Shared}{H:Hp}{E:XK}{us:List Value}{vs:List V}
  (S:FnScope N ps scope) (hd:A.handled=none) (e0:Env0 P w K mg base A outer s H) (hl:vs.length=ps.length) (r:cV vs us)
  (x:InCallC s s.heap.objs.size (bindL (envOfC qual scope s.heap.objs.size f cd).kindOf (ps.zip us) fun _=>none) (cellsFrom (s.heap.objs.size+1) scope.names []) (bindC (envOfC qual scope s.heap.objs.size f cd).kindOf (ps.zip us) fun _=>none) s1):
  Inv (gG CX P w K mg base N qual scope f cd A outer s H E) [] (start N vs) H s1:=by
 have hpl:ps.length<=N.length:=by have:=congrArg List.length S.pre;rw [List.length_take] at this;omega
 obtain⟨h1,tk,rfl,hk⟩:=x.done
 have noA:∀b:Addr,b∉(gG CX P w K mg base N qual scope f cd A outer s H E).ex:=fun b z=>absurd (show b∈([]:List Addr) from z) (by simp)
 refine⟨⟨e0.mod,S.kind,rfl,rfl,Nat.le_refl _,fun y z c h1 h2=> ?_,fun y hy=> ?_,fun y c _ h=> ?_,fun _=>hd,Around.frames_deeper e0.frames,.inr ⟨rfl,rfl⟩,fun b z=>absurd z (noA b),e0.bs,e0.bsz,fun b _ _=>noA b,fun b z=>absurd z (noA b),e0.funs,e0.frf⟩,
  rfl,e0.bare,Un.kept hk,⟨_,x.toInCall.ns,fun i y v h1 h2 h3=> ?_⟩,fun y c h=>⟨_,x.cell y c h⟩,e0.hok.fresh (Nat.le_refl _),fun y c h=> ?_,fun p hp=>absurd (show p∈([]:tzB) from hp) (by simp),e0.hok.kept hk,?_⟩
 ·exact name_of_addr x.apart (PySem.mem_of_lookup h1) (PySem.mem_of_lookup h2)
 ·have hy:scope.names.lookup y=some .cell\/scope.names.lookup y=some .free:=hy
  rcases hy with hy|hy
  ·exact zk2 hy
  ·exact absurd rfl (S.nofree _ (PySem.mem_of_lookup hy))
 ·exact Nat.le_of_lt (x.above y c (PySem.mem_of_lookup h))
 ·have hi:i<vs.length:=by
   unfold start at h2
   by_cases hi:i<vs.length
   ·exact hi
   ·rw [List.getElem?_append_right (by simpa using hi)] at h2
    rw [List.getElem?_replicate] at h2
    split at h2<;>cases h2
  have ha:vs[i]? =some v:=by
   unfold start at h2
   rw [List.getElem?_append_left (by simpa using hi),List.getElem?_map] at h2
   cases e:vs[i]? with
   |none=>rw [e] at h2;cases h2
   |some a=>rw [e] at h2;cases h2;rfl
  obtain⟨u,hu,rv⟩:=r.get ha
  have hp:ps[i]? =some y:=by
   rw [<-S.pre,List.getElem?_take_of_lt (by omega)];exact h1
  have ndP:ps.Nodup:=by rw [<-S.pre];exact S.nd.sublist (List.take_sublist _ _)
  refine⟨u,rv,?_⟩
  rcases S.par y (List.mem_of_getElem? hp) with k|k
  ·exact .inl ⟨k,zd8 ndP hp hu k⟩
  ·obtain⟨c,e⟩:=zk2 (n:=s.heap.objs.size+1) k
   refine .inr ⟨.inl k,c,e,?_⟩
   have q:=x.cell y c e
   rw [zd9 ndP hp hu (by show scope.names.lookup y≠_;rw [k];decide)] at q
   exact q
 ·exact e0.hok.fresh (Nat.le_of_lt (x.above y c (PySem.mem_of_lookup h)))
 ·unfold start
  show _=N.length
  rw [List.length_append,List.length_map,List.length_replicate]
  omega
theorem zi2{CX:CXT}{P:Program}{w:World}{K:tz0}{mg:tzA}{base:Heap}{k:Nat}{f:Addr}{name qual:Str}{params:Arguments}{body:List Stmt}{scope:Scope}{dV kV doc pm cdv ct oc:Value}{an od:Option Addr}
  {osl:Array (Option Value)} {N ps:List Str} {sp:Sp} (lk:K.lookup f=some ⟨oc,od,.func (PySem.W.fnOf name qual params body scope dV kV doc pm an cdv ct),osl⟩) (hcd:PySem.W.codeIn K cdv qual=true) (S:FnScope N ps scope)
  (len:∀vs H Q E,sp vs H Q E->vs.length=ps.length)
  (hbody:∀(A:Around) (outer:List Env) (s:Shared) (H:Hp) (vs:List V) (Q:VK) (E:XK),Room k (A.deeper (envOfC qual scope s.heap.objs.size f cdv))->sp vs H Q E->
   ∃t,PSs (gG CX P w K mg base N qual scope f cdv A outer s H E) body t/\t {nx:=fun _ H'=>Q .non H',rt:=Q} (start N vs) H):
  FnOk P w K mg base CX (k+1) f (PySem.W.fnOf name qual params body scope dV kV doc pm an cdv ct) ps sp:=by
 refine⟨len,fun A outer s H args us vs Q E hr e0 hb r hsp=> ?_⟩
 have hl:=len _ _ _ _ hsp
 have KX:K.In s.heap:=e0.mod.kin.keeps fun b o e=>(e0.bs b o e).1
 have lim:s.heap.NoLimit:=e0.mod.nolimit.keeps fun b o e=>(e0.bs b o e).1
 have hkind:∀y∈ps.zip us,scope.names.lookup y.1=some .local\/(scope.names.lookup y.1=some .cell/\((cellsFrom (s.heap.objs.size+1) scope.names []).lookup y.1).isSome=true):=fun⟨n,v⟩ hy=>by
  rcases S.par n (List.of_mem_zip hy).1 with q|q
  ·exact .inl q
  ·exact .inr ⟨q,PySem.W.cellsFrom_some _ _ _ (.inl q)⟩
 refine codeAny_call_function hr.depth (KX _ _ lk) rfl S.co S.gen rfl (PySem.W.codeRec_of KX hcd) (hb _ _ _ _ ?_)
 refine wpAny_newFunctionEnv_cells S.kind hkind fun env he s1 x=> ?_
 subst he
 refine⟨lim.keeps x.toInCall.keep,codeAny_func ?_⟩
 obtain⟨t,ht,hq⟩:=hbody A outer s H vs Q E (hr.deeper _) hsp
 have I:Inv (gG CX P w K mg base N qual scope f cdv A outer s H E) [] (start N vs) H s1:=yc6 S hr.hd e0 hl r x
 refine wpAny_mono (ht [] s1 (start N vs) H _ I hq) (fun fl s' hs=> ?_) fun e s' hs=>hs
 have fin:∀{σ':St} {H':Hp} {v:V} {u:Value},Inv (gG CX P w K mg base N qual scope f cdv A outer s H E) [] σ' H' s'->dQ v u->Q v H'->CE outer P w H s Q u s':=
  fun {σ' H' v u} J rv q=>⟨v,H',J.os,J.bare,J.base,J.hok,rv,q⟩
 cases fl with
 |ret u=>
  obtain⟨v,σ',H',J,rv,q⟩:=hs
  exact fin J rv q
 |next=>
  obtain⟨σ',H',J,q⟩:=hs
  exact fin (v:=V.non) (u:=Value.none) J rfl q
 |brk=>
  obtain⟨_,_,_,q⟩:=hs
  exact False.elim q
 |cont=>
  obtain⟨_,_,_,q⟩:=hs
  exact False.elim q
section
variable{X:Cx}{x:Str}{p pos:Pos}{e:Expr}{es:List Expr}{t:TA}{id T:String}{r:List V->Hp->VK->Prop}
def tCB(r:List V->Hp->VK->Prop)(t:TA):TE:=fun σ H Q=>t σ H fun vs H1=>r vs H1 Q
theorem nJ(hc:gB X (.builtin id) r)(hg:Gl X x)(hm:X.mg x=none)(hv:bootBuiltins x=some (.builtin id))(ha:PA X (e::es) t)(hn:x≠"__name__":=by decide)(hdb:(x==("__debug__":Str))=false:=by decide)
  (he:starEach (e::es) X.env=(false,eval e X.env)::starEach es X.env:=by rfl) (hpl:(backTo pos (starEach es X.env)).any (·.1)=false:=by rfl):PE X (.Call (.Name x p) (e::es) [] pos) (tCB r t):=by
 intro pins s σ H Q I h
 refine wpAny_Call_Name_kw (qE I hg hm hv ?_ hn hdb)
 exact PyProof.Rows.callWith_builtin1 (thn (ha pos pins s σ H _ I h) fun us s1 ⟨vs,H1,I1,r1,q1⟩=>hc pins s1 σ H1 vs us Q I1 r1 q1) he hpl
theorem yc7(hc:gB X (.type T) r)(hg:Gl X x)(hm:X.mg x=none)(hv:bootBuiltins x=some (.type T))(ha:PA X (e::es) t)(hn:x≠"__name__":=by decide)(hdb:(x==("__debug__":Str))=false:=by decide)
  (he:starEach (e::es) X.env=(false,eval e X.env)::starEach es X.env:=by rfl) (hpl:(backTo pos (starEach es X.env)).any (·.1)=false:=by rfl):PE X (.Call (.Name x p) (e::es) [] pos) (tCB r t):=by
 intro pins s σ H Q I h
 refine wpAny_Call_Name_kw (qE I hg hm hv ?_ hn hdb)
 exact PyProof.Rows.callWith_type1 (thn (ha pos pins s σ H _ I h) fun us s1 ⟨vs,H1,I1,r1,q1⟩=>hc pins s1 σ H1 vs us Q I1 r1 q1) he hpl
end
end L2
namespace HT
open PySem PyProof.Rows
section
open PySem.SeqAt
open PySem.AutoSeq1 (wpAny_loadPart')
open PySem.MeetsSeq PySem.MeetsSeq2 PySem.MeetsSeq3
end
section
variable{prog:Program}{w:World}{A:Around}{E:Value->Shared->Prop}{s:Shared}
theorem cat_tup{t b:Addr}{vs ws:List Value}{Q:Value->Shared->Prop}(ht:IsTup s.heap t vs.toArray)(hb:IsTup s.heap b ws.toArray)(hv:vs≠[])
  (h1:ws=[]->Q (.ref t) s) (h2:ws≠[]->Q (.ref s.heap.objs.size) {s with heap:=s.heap.push {cls:= .type "tuple",data:= .seq (vs++ws).toArray}})
  (hsz:vs.length+ws.length<=sizeLine):wpAny (model prog w) A (binaryOp .Add (.ref t) (.ref b)) Q E s:=by
 obtain⟨⟨cls,dd,data,sl⟩,ho,hc,n,hd⟩:=id ht
 obtain⟨⟨cls2,dd2,data2,sl2⟩,ho2,hc2,n2,hd2⟩:=id hb
 simp only at hc hd hc2 hd2
 subst hc hd hc2 hd2
 have e:vs.toArray++ws.toArray=(vs++ws).toArray:=by simp
 by_cases hw:ws=[]
 ·exact concat_meets ⟨_,ho,rfl⟩ ⟨_,ho2,rfl⟩ noFill_tuple_add seq_tuple_add PySem.F.slot_tuple_add PySem.F.entry_tuple_add (PySem.F.args_tuple_add_2 _ _)
   (tuple_addW1 t b vs.toArray ws.toArray n n2 dd dd2 sl sl2 (by simpa using hv) (by simp [hw])) ⟨ho,ho2,h1 hw⟩
 ·refine concat_meets ⟨_,ho,rfl⟩ ⟨_,ho2,rfl⟩ noFill_tuple_add seq_tuple_add PySem.F.slot_tuple_add PySem.F.entry_tuple_add (PySem.F.args_tuple_add_2 _ _)
   (tuple_addW2 t b vs.toArray ws.toArray n n2 dd dd2 sl sl2 (by simpa using hv) (by simpa using hw) (by rw [List.size_toArray,List.size_toArray];exact hsz)) ⟨ho,ho2,?_⟩
  rw [e]
  exact h2 hw
def sIx(n d:Nat):Option Int->Nat
 |none=>d
 |some v=>if v<0 then(v+(n:Int)).toNat else min v.toNat n
theorem sIx_none(n d:Nat):sIx n d none=d:=rfl
theorem sIx_nat(n d k:Nat):sIx n d (some (k:Int))=min k n:=by
 show(if (k:Int)<0 then((k:Int)+(n:Int)).toNat else min (k:Int).toNat n)=min k n
 rw [if_neg (by omega),Int.toNat_natCast]
theorem yx6(n d:Nat)(hd:d<=n)(o:Option Int):sIx n d o<=n:=by
 cases o with
 |none=>exact hd
 |some v=>
  show(if v<0 then(v+(n:Int)).toNat else min v.toNat n)<=n
  by_cases hv:v<0
  ·rw [if_pos hv];omega
  ·rw [if_neg hv];exact Nat.min_le_right _ _
theorem zt1(v:Int)(n d:Nat):(if v<0 then max (v+(n:Int)) 0 else min v (n:Int))=((sIx n d (some v):Nat):Int):=by
 show(if v<0 then max (v+(n:Int)) 0 else min v (n:Int))=(((if v<0 then(v+(n:Int)).toNat else min v.toNat n):Nat):Int)
 by_cases hv:v<0
 ·simp only [if_pos hv];omega
 ·simp only [if_neg hv];omega
theorem zw2(lo hi:Option Int)(n:Nat):Builtin.Slice.sliceAdjust lo hi 1 (n:Int)=(((sIx n 0 lo:Nat):Int),((sIx n n hi:Nat):Int)):=by
 have h1:¬((1:Int)<0):=by omega
 unfold Builtin.Slice.sliceAdjust
 simp only [h1,if_false]
 refine Prod.ext ?_ ?_
 ·cases lo with
  |none=>rfl
  |some v=>exact zt1 v n 0
 ·cases hi with
  |none=>rfl
  |some v=>exact zt1 v n n
theorem zw3(i j:Nat):Builtin.Slice.slicePlaces (i:Int) (j:Int) 1=j-i:=by
 unfold Builtin.Slice.slicePlaces
 have h1:(1:Int)>0:=by omega
 simp only [h1,if_true,Int.ediv_one]
 split<;>omega
theorem yM{v:Value}{o:Option Int}{Q:Option Int->Shared->Prop}(p:IsPart v o)(h:Q o s):wpAny (model prog w) A (Builtin.Slice.slicePartIndex v) Q E s:=by
 cases p with
 |none=>exact slicePart_none h
 |int i t=>exact slicePart_int h
theorem sliceApplied_gen{sl:Addr}{vl vu:Value}{lo hi:Option Int}{n:Nat}{Q:Int×Int×Nat->Shared->Prop}(hs:s.heap.IsSliceOf sl vl vu .none)(pl:IsPart vl lo)(pu:IsPart vu hi)
  (h:Q (((sIx n 0 lo:Nat):Int),1,sIx n n hi-sIx n 0 lo) s):wpAny (model prog w) A (Builtin.Slice.sliceApplied (.ref sl) (pure (n:Int))) Q E s:=by
 obtain⟨os,hos,hcs,hds⟩:=id hs
 unfold Builtin.Slice.sliceApplied Builtin.Slice.sliceFields
 refine wpAny_bind (wpAny_bind (wpAny_field hos hds (x:=vl) rfl (wpAny_bind (wpAny_field hos hds (x:=vu) rfl (wpAny_bind (wpAny_field hos hds (x:= .none) rfl (wpAny_pure ?_)))))))
 refine wpAny_bind (slicePart_none ?_)
 show wpAny _ _ (if ((1:Int)==0)=true then _ else _) _ _ s
 rw [if_neg (by decide)]
 refine wpAny_bind (yM pl (wpAny_bind (yM pu (wpAny_bind (wpAny_pure ?_)))))
 show wpAny _ _ (match Builtin.Slice.sliceAdjust lo hi 1 (n:Int) with|(lo,hi)=>pure (lo,(1:Int),Builtin.Slice.slicePlaces lo hi 1)) _ _ s
 rw [zw2 lo hi n]
 show wpAny _ _ (pure (((sIx n 0 lo:Nat):Int),(1:Int),Builtin.Slice.slicePlaces ((sIx n 0 lo:Nat):Int) ((sIx n n hi:Nat):Int) 1)) _ _ s
 rw [zw3]
 exact wpAny_pure h
theorem yj7(xs:Array Value)(i k:Nat):((List.range k).filterMap fun(m:Nat)=>xs[((i:Int)+(m:Int)*1).toNat]?).toArray=((xs.toList.drop i).take k).toArray:=by
 have e:(fun(m:Nat)=>xs[((i:Int)+(m:Int)*1).toNat]?)=fun m=>xs[i+m]? :=by
  funext m
  have:((i:Int)+(m:Int)*1).toNat=i+m:=by omega
  rw [this]
 rw [e]
 have:=pick_run xs i k
 rw [List.filterMap_map] at this
 have e2:((fun x=>xs[x]?)∘fun x=>i+x)=fun m=>xs[i+m]? :=rfl
 rw [e2] at this
 rw [this]
theorem getItem_tuple_cut{t sl:Addr}{items:Array Value}{vl vu:Value}{lo hi:Option Int}{Q:Value->Shared->Prop}(ht:IsTup s.heap t items)(hs:s.heap.IsSliceOf sl vl vu .none)(pl:IsPart vl lo)(pu:IsPart vu hi)
  (hw:¬(sIx items.size 0 lo=0/\sIx items.size items.size hi=items.size))
  (h:Q (.ref s.heap.objs.size) {s with heap:=s.heap.push {cls:= .type "tuple",data:= .seq ((items.toList.drop (sIx items.size 0 lo)).take (sIx items.size items.size hi-sIx items.size 0 lo)).toArray}})
  (hsz:items.size<=sizeLine):wpAny (model prog w) A (getItem (.ref t) (.ref sl)) Q E s:=by
 have htake:sizeOk (.seq ((items.toList.drop (sIx items.size 0 lo)).take (sIx items.size items.size hi-sIx items.size 0 lo)).toArray):=by
  show((items.toList.drop (sIx items.size 0 lo)).take (sIx items.size items.size hi-sIx items.size 0 lo)).toArray.size<=sizeLine
  rw [List.size_toArray,List.length_take,List.length_drop,Array.length_toList]
  omega
 have hj:sIx items.size items.size hi<=items.size:=yx6 _ _ (Nat.le_refl _) hi
 obtain⟨os,hos,hcs,hds⟩:=id hs
 have hTs:s.TypeIs (.ref sl) "slice":=⟨os,hos,hcs⟩
 unfold getItem
 try with_reducible refine wpAny_holding ?_
 first|refine wpAny_bind (wpAny_pure ?_)|skip
 refine wpAny_bind (wpAny_sequenceKey ht.typeIs (by decide) ?_)
 refine wpAny_bind (wpAny_callSpecial?_slot (name:=Str.ofString "__getitem__") ht.typeIs PyProof.Rows.slot_tuple_getitem
  (wpAny_call_entry PyProof.Rows.slot_tuple_getitem ht.typeIs entry_tuple_getitem ?_ (args_tuple_getitem _ _)))
 show wpAny _ _ (Builtin.Tuple.tupleItemsOf (.ref t)>>=_) _ _ s
 refine wpAny_bind (tupleItemsOf_ ht ?_)
 refine wpAny_bind (wpAny_typeOf hTs ?_)
 rw [if_pos (by decide)]
 refine wpAny_bind (sliceApplied_gen hs pl pu ?_)
 have hno:¬((((sIx items.size 0 lo:Nat):Int)==0&&(1:Int)==1&&(sIx items.size items.size hi-sIx items.size 0 lo)==items.size)=true):=by
  intro q
  rw [Bool.and_eq_true,Bool.and_eq_true] at q
  have q1:((sIx items.size 0 lo:Nat):Int)=0:=eq_of_beq q.1.1
  have q2:sIx items.size items.size hi-sIx items.size 0 lo=items.size:=eq_of_beq q.2
  exact hw ⟨by omega,by omega⟩
 show wpAny _ _ (if (((sIx items.size 0 lo:Nat):Int)==0&&(1:Int)==1&&(sIx items.size items.size hi-sIx items.size 0 lo)==items.size)=true then _ else _) _ _ s
 rw [if_neg hno,yj7]
 first
  |exact wpAny_bind (m:=Builtin.Tuple.tupleExact _) (wpAny_newObj_type (wpAny_pure ⟨_,rfl,wpAny_pure h⟩) htake)
  |exact wpAny_bind (m:=Builtin.Tuple.tupleExact _) (wpAny_newObj_type (wpAny_bind (wpAny_pure (wpAny_pure ⟨_,rfl,wpAny_pure h⟩))) htake)
  |exact wpAny_bind (wpAny_bind (m:=Builtin.Tuple.tupleExact _) (wpAny_newObj_type (wpAny_pure (wpAny_pure ⟨_,rfl,wpAny_pure h⟩)) htake))
  |exact wpAny_bind (wpAny_bind (m:=Builtin.Tuple.tupleExact _) (wpAny_newObj_type (wpAny_pure ⟨_,rfl,wpAny_pure h⟩) htake))
end
end HT
namespace L2
open PySem PySem.Spec PyProof.Rows
abbrev TO:=St->Hp->(Option Int->Hp->Prop)->Prop
def PO(X:Cx)(e:Option Expr)(t:TO):Prop:=
 ∀(pins:tzB) (s:Shared) (σ:St) (H:Hp) (Q:Option Int->Hp->Prop),Inv X pins σ H s->t σ H Q->
  wpAny (model X.prog X.w) X.A (evalPart e X.env) (fun u s'=>∃o H',Inv X pins σ H' s'/\IsPart u o/\Q o H') X.xe s
def yv6:TO:=fun _ H Q=>Q none H
def xe8(t:TE):TO:=fun σ H Q=>t σ H fun x H1=>∃i,x= .int i/\Q (some i) H1
section
variable{X:Cx}{e:Expr}{te:TE}{lo hi:Option Expr}{tl th:TO}{pos p2:Pos}
theorem yq6:PO X none yv6:=by
 intro pins s σ H Q I h
 rw [evalPart_none]
 exact wpAny_pure ⟨none,H,I,.none,h⟩
theorem yq7(h:PE X e te):PO X (some e) (xe8 te):=by
 intro pins s σ H Q I hw
 rw [evalPart_some]
 refine thn (h pins s σ H _ I hw) fun u s1 ⟨x,H1,I1,r1,q1⟩=> ?_
 obtain⟨i,rfl,q⟩:=q1
 obtain⟨t,rfl⟩:=r1
 exact⟨some i,H1,I1,.int i t,q⟩
def SlR(X:Cx)(r:V->Option Int->Option Int->Hp->VK->Prop):Prop:=
 ∀(pins:tzB) (s:Shared) (σ:St) (H:Hp) (x:V) (v vl vu:Value) (lo hi:Option Int) (sl:Addr) (Q:VK),Inv X pins σ H s->dQ x v->s.heap.IsSliceOf sl vl vu .none->IsPart vl lo->IsPart vu hi->r x lo hi H Q->
  ∃T id,typeLookup (.type T) "__getitem__"=pure (some (.builtin id))/\s.TypeIs v T/\wpAny (model X.prog X.w) X.A (getItem v (.ref sl)) (EP X pins σ Q) X.xe s
def tSl(r:V->Option Int->Option Int->Hp->VK->Prop)(te:TE)(tl th:TO):TE:=fun σ H Q=>te σ H fun x H1=>tl σ H1 fun l H2=>th σ H2 fun u H3=>r x l u H3 Q
theorem yj8{r:V->Option Int->Option Int->Hp->VK->Prop}(hr:SlR X r)(he:PE X e te)(hl:PO X lo tl)(hu:PO X hi th):PE X (.Subscript e (.Slice lo hi none p2) pos) (tSl r te tl th):=by
 intro pins s σ H Q I h
 refine Subscript_ (thn (he pins s σ H _ I h) fun v s1 ⟨x,H1,I1,r1,q1⟩=> ?_)
 refine wpAny_Slice (thn (hl pins s1 σ H1 _ I1 q1) fun vl s2 ⟨l,H2,I2,pl,q2⟩=>thn (hu pins s2 σ H2 _ I2 q2) fun vu s3 ⟨u,H3,I3,pu,q3⟩=> ?_)
 rw [evalPart_none]
 refine wpAny_pure ?_
 have I4:Inv X pins σ H3 {s3 with heap:=s3.heap.push {cls:= .type "slice",data:= .fields #[vl,vu,.none]}}:=I3.kept (t':=s3.toks) fun b ob q=>Heap.get?_push_of_some _ q
 obtain⟨T,id,hT,ht,hg⟩:=hr pins {s3 with heap:=s3.heap.push {cls:= .type "slice",data:= .fields #[vl,vu,.none]}} σ H3 x v vl vu l u s3.heap.objs.size Q I4 r1 (Heap.IsSliceOf.new ..) pl pu q3
 show wpAny (model X.prog X.w) X.A (subscriptTail e (.Slice lo hi none p2) v (.ref s3.heap.objs.size)) (EP X pins σ Q) X.xe {s3 with heap:=s3.heap.push {cls:= .type "slice",data:= .fields #[vl,vu,.none]}}
 exact tail_any (ops:=[.ref s3.heap.objs.size,v]) ht hT hg (by with_unfolding_all rfl)
def uH(xs:List V)(lo hi:Option Int):List V:=(xs.drop (HT.sIx xs.length 0 lo)).take (HT.sIx xs.length xs.length hi-HT.sIx xs.length 0 lo)
theorem wV(xs:List V)(lo hi:Option Int):(uH xs lo hi).length<=xs.length:=by
 unfold uH
 rw [List.length_take,List.length_drop]
 omega
def xi3(K:tz0):V->Option Int->Option Int->Hp->VK->Prop:=fun x lo hi H Q=>∃a xs,x= .ref a/\SqT K H a xs/\
 ¬(HT.sIx xs.length 0 lo=0/\HT.sIx xs.length xs.length hi=xs.length)/\∀p,H p=none->Q (.ref p) (upd H p (.tup (uH xs lo hi)))
theorem yx7:SlR X (xi3 X.K):=by
 intro pins s σ H x v vl vu lo hi sl Q I rx hs pl pu h
 obtain⟨a,xs,rfl,hx,hw,q⟩:=h
 cases rx
 obtain⟨its,r,ht,hz⟩:=I.tuple hx
 have hlen:its.toArray.size=xs.length:=by rw [List.size_toArray];exact r.length.symm
 refine⟨"tuple",_,PyProof.Rows.slot_tuple_getitem.lookup,ht.typeIs,?_⟩
 refine HT.getItem_tuple_cut ht hs pl pu (by rw [hlen];exact hw) ?_ (by rw [hlen];exact hz)
 rw [hlen]
 refine⟨.ref s.heap.objs.size,_,I.laid (t':=s.toks) (o:= .tup (uH xs lo hi)) (fun b ob q=>Heap.get?_push_of_some _ q) (Nat.le_refl _) ?_,rfl,q _ (I.hok.fresh (Nat.le_refl _))⟩
 exact⟨Nat.le_trans (wV xs lo hi) hz,_,(r.drop (HT.sIx xs.length 0 lo)).take (HT.sIx xs.length xs.length hi-HT.sIx xs.length 0 lo),IsTup.new _ _⟩
def xe9(K:tz0):R2:=fun x y H Q=>∃a b xs ys,x= .ref a/\y= .ref b/\SqT K H a xs/\SqT K H b ys/\xs≠[]/\xs.length+ys.length<=sizeLine/\
 (ys=[]->Q (.ref a) H)/\(ys≠[]->∀p,H p=none->Q (.ref p) (upd H p (.tup (xs++ys))))
theorem cV.nil_iff{xs:List V}{us:List Value}(r:cV xs us):us=[]↔xs=[]:=by
 cases r with
 |nil=>simp
 |cons _ _=>simp
theorem yq8:OpR X (binaryOp .Add) (xe9 X.K):=by
 intro pins s σ H x y v u Q I rx ry h
 obtain⟨a,b,xs,ys,rfl,rfl,ha,hb,hx,hz,q1,q2⟩:=h
 cases rx
 cases ry
 obtain⟨its,r1,p1,_⟩:=I.tuple ha
 obtain⟨its2,r2,p2,_⟩:=I.tuple hb
 refine HT.cat_tup p1 p2 (fun z=>hx (r1.nil_iff.mp z)) (fun z=>⟨.ref a,H,I,rfl,q1 (r2.nil_iff.mp z)⟩) (fun z=> ?_) (by rw [<-r1.length,<-r2.length];exact hz)
 refine⟨.ref s.heap.objs.size,_,I.laid (t':=s.toks) (o:= .tup (xs++ys)) (fun b ob q=>Heap.get?_push_of_some _ q) (Nat.le_refl _) ?_,rfl,q2 (fun w=>z (r2.nil_iff.mpr w)) _ (I.hok.fresh (Nat.le_refl _))⟩
 exact⟨by rw [List.length_append];exact hz,_,r1.append r2,IsTup.new _ _⟩
end
def ixN(n:Nat)(i:Int):Option Nat:=if 0<=i then(if i<n then some i.toNat else none) else if-(n:Int)<=i then some (i+n).toNat else none
def atI{α:Type}(xs:List α)(i:Int):Option α:=(ixN xs.length i).bind fun j=>xs[j]?
theorem vV{n:Nat}{i:Int}{j:Nat}(h:ixN n i=some j):seqIndex? i n=some j/\j<n/\ -(n:Int)<=i/\i<n:=by
 unfold ixN at h
 by_cases h0:0<=i
 ·rw [if_pos h0] at h
  by_cases h1:i<n
  ·rw [if_pos h1] at h
   have e:i.toNat=j:=Option.some.inj h
   exact⟨by rw [seqIndex_of h0 h1,e],by omega,by omega,h1⟩
  ·rw [if_neg h1] at h;cases h
 ·rw [if_neg h0] at h
  by_cases h1: -(n:Int)<=i
  ·rw [if_pos h1] at h
   have e:(i+n).toNat=j:=Option.some.inj h
   exact⟨by rw [seqIndex_neg (by omega) h1,e],by omega,h1,by omega⟩
  ·rw [if_neg h1] at h;cases h
theorem za2{α:Type}{xs:List α}{i:Int}{v:α}(h:atI xs i=some v):∃j,seqIndex? i xs.length=some j/\xs[j]? =some v/\j<xs.length/\ -(xs.length:Int)<=i/\i<xs.length:=by
 unfold atI at h
 cases e:ixN xs.length i with
 |none=>rw [e] at h;cases h
 |some j=>
  rw [e] at h
  obtain⟨h1,h2,h3,h4⟩:=vV e
  exact⟨j,h1,h,h2,h3,h4⟩
theorem rV{α:Type}{xs:List α}{j:Nat}{v:α}(h:xs[j]? =some v):atI xs (j:Int)=some v:=by
 have hj:j<xs.length:=(List.getElem?_eq_some_iff.mp h).1
 have e:ixN xs.length (j:Int)=some j:=by
  unfold ixN
  rw [if_pos (by omega),if_pos (by omega)];simp
 unfold atI;rw [e];exact h
theorem aS{α:Type}(xs:List α)(v:α):atI (xs++[v]) (-1)=some v:=by
 have hl:(xs++[v]).length=xs.length+1:=by simp
 have e:ixN (xs++[v]).length (-1)=some xs.length:=by
  unfold ixN
  rw [hl,if_neg (by decide),if_pos (by omega)]
  congr 1
  omega
 unfold atI
 rw [e]
 show(xs++[v])[xs.length]? =some v
 simp
def pD(b:Expr):Prop:=∀o i,subscripted b false o i=operate [o,i] (getItem o i)
def IxR(X:Cx)(r:R2):Prop:=
 ∀(value slice:Expr) (pins:tzB) (s:Shared) (σ:St) (H:Hp) (x y:V) (v u:Value) (Q:VK),Inv X pins σ H s->dQ x v->dQ y u->r x y H Q->
  subscripted slice false v u=operate [v,u] (getItem v u)->wpAny (model X.prog X.w) X.A (subscriptTail value slice v u) (EP X pins σ Q) X.xe s
def MtR(X:Cx)(id:String)(r:V->List V->Hp->VK->Prop):Prop:=
 ∀(pins:tzB) (s:Shared) (σ:St) (H:Hp) (x:V) (xs:List V) (v:Value) (us:List Value) (Q:VK),Inv X pins σ H s->dQ x v->cV xs us->r x xs H Q->
  wpAny (model X.prog X.w) X.A (call (.builtin id) (v::us)) (EP X pins σ Q) X.xe s
section
variable{X:Cx}{a b:Expr}{ta tb:TE}{pos:Pos}
theorem IxR.or{r r':R2}(h:IxR X r)(h':IxR X r'):IxR X (fun x y H Q=>r x y H Q\/r' x y H Q):=by
 intro value slice pins s σ H x y v u Q I rx ry q hs
 rcases q with q|q
 ·exact h value slice pins s σ H x y v u Q I rx ry q hs
 ·exact h' value slice pins s σ H x y v u Q I rx ry q hs
theorem zi3{r:R2}(hr:IxR X r)(ha:PE X a ta)(hb:PE X b tb)(hs:pD b):PE X (.Subscript a b pos) (tOp r ta tb):=by
 intro pins s σ H Q I h
 exact Subscript_ (yj0 ha hb I h fun v u s2 x y H2 I2 rx ry q=>hr a b pins s2 σ H2 x y v u Q I2 rx ry q (hs _ _))
def xb9(K:tz0):R2:=fun x y H Q=>∃p xs i v,x= .ref p/\y= .int i/\SqL K H p xs/\atI xs i=some v/\Q v H
def xc0(K:tz0):R2:=fun x y H Q=>∃p xs i v,x= .ref p/\y= .int i/\SqT K H p xs/\atI xs i=some v/\Q v H
def xc1:R2:=fun x y H Q=>∃z i c,x= .str z/\y= .int i/\z.length<=sizeLine/\atI z.cps.toList i=some c/\Q (.str ⟨#[c]⟩) H
theorem za3:IxR X (xb9 X.K):=by
 intro value slice pins s σ H x y v u Q I rx ry h hs
 obtain⟨p,xs,i,z,rfl,rfl,hq,he,q⟩:=h
 cases rx
 obtain⟨t,rfl⟩:=ry
 obtain⟨its,r,pl,hz⟩:=I.list hq
 obtain⟨j,h1,h2,h3,h4,h5⟩:=za2 he
 obtain⟨w,ew,rw'⟩:=r.get h2
 have hl:=r.length
 have hn:=qG
 have fin:EP X pins σ Q w s:=⟨z,H,I,rw',q⟩
 by_cases h0:0<=i
 ·have hj:i.toNat=j:=by
   rw [seqIndex_of h0 h5] at h1
   exact Option.some.inj h1
  exact item_listR pl.isList h0 (by omega) (by rw [hj];simpa using ew) fin hs
 ·have hj:(i+(its.toArray.size:Int)).toNat=j:=by
   rw [seqIndex_neg (by omega) h4] at h1
   rw [List.size_toArray,<-hl]
   exact Option.some.inj h1
  exact subscriptTail_builtinR (x:=w) pl.isList.typeIs slot_list_getitem.lookup
   (wpAny_getItem_list_neg (Q:=fun r s'=>r=w/\EP X pins σ Q r s') pl.isList (by omega) (by rw [List.size_toArray]<;>omega) (by omega) (by rw [hj];simpa using ew) ⟨rfl,fin⟩) hs
theorem yx8:IxR X (xc0 X.K):=by
 intro value slice pins s σ H x y v u Q I rx ry h hs
 obtain⟨p,xs,i,z,rfl,rfl,hq,he,q⟩:=h
 cases rx
 obtain⟨t,rfl⟩:=ry
 obtain⟨its,r,pl,hz⟩:=I.tuple hq
 obtain⟨j,h1,h2,h3,h4,h5⟩:=za2 he
 obtain⟨w,ew,rw'⟩:=r.get h2
 have hl:=r.length
 have hn:=qG
 have fin:EP X pins σ Q w s:=⟨z,H,I,rw',q⟩
 exact subscriptTail_builtinR (x:=w) pl.typeIs slot_tuple_getitem.lookup
  (getItem_tuple (j:=j) (Q:=fun r s'=>r=w/\EP X pins σ Q r s') pl (by omega) (by omega) (by rw [List.size_toArray,<-hl];exact h1) (by simpa using ew) ⟨rfl,fin⟩) hs
theorem yx9:IxR X xc1:=by
 intro value slice pins s σ H x y v u Q I rx ry h hs
 obtain⟨z,i,c,rfl,rfl,hz,he,q⟩:=h
 obtain⟨t,rfl⟩:=rx
 obtain⟨t',rfl⟩:=ry
 obtain⟨j,h1,h2,h3,h4,h5⟩:=za2 he
 have hl:z.cps.toList.length=z.length:=by simp [Str.length]
 rw [hl] at h1 h4 h5
 have hn:=qG
 exact tail_any (typeIs_str s z t) slot_str_getitem.lookup (getItem_str (c:=c) (by
  have e1:decide (i< -(2^63:Int))=false:=decide_eq_false (by omega)
  have e2:decide (i>=2^63)=false:=decide_eq_false (by omega)
  rw [e1,e2,Bool.or_false]) (by rw [h1];simpa using h2) ⟨.str ⟨#[c]⟩,H,I.tok _,⟨_,rfl⟩,q⟩) hs
def rIx(K:tz0):R2:=fun x y H Q=>xb9 K x y H Q\/xc0 K x y H Q\/xc1 x y H Q
theorem yc8:IxR X (rIx X.K):=za3.or (yx8.or yx9)
theorem zw4(its:List Value)(n j:Nat)(u:Value):Obj.mapSeq (·.setIfInBounds j u) {cls:= .type "list",data:= .seq its.toArray n}={cls:= .type "list",data:= .seq (its.set j u).toArray n}:=by
 simp [Obj.mapSeq]
theorem Inv.lst{pins:tzB}{σ:St}{H:Hp}{s:Shared}{p:Addr}{xs:List V}(I:Inv X pins σ H s)(h:H p=some (.lst xs)):
  ∃(its:List Value) (n:Nat),cV xs its/\s.heap.get? p=some {cls:= .type "list",data:= .seq its.toArray n}/\xs.length<=sizeLine:=by
 obtain⟨z,its,n,r,e⟩:=I.hok p _ h
 exact⟨its,n,r,e,z⟩
theorem Inv.lstUpd{pins:tzB}{σ:St}{H:Hp}{s:Shared}{p:Addr}{xs ys:List V}{its its':List Value}{n n':Nat}{f:Obj->Obj}(I:Inv X pins σ H s)(h:H p=some (.lst xs))
  (ho:s.heap.get? p=some {cls:= .type "list",data:= .seq its.toArray n}) (hf:f {cls:= .type "list",data:= .seq its.toArray n}={cls:= .type "list",data:= .seq its'.toArray n'}) (r:cV ys its') (hz:ys.length<=sizeLine) (t:Nat):
  Inv X pins σ (upd H p (.lst ys)) {s with heap:=s.heap.update p f,toks:=t}:=by
 have e:(s.heap.update p f).get? p=some {cls:= .type "list",data:= .seq its'.toArray n'}:=by
  rw [Heap.get?_update_self f ho (by rw [hf]<;>rfl),hf]
 refine I.write (x:=p) (e:=p) (by rw [h];trivial) (.inl rfl) (fun b u hb q=>(Heap.get?_update_other _ _ (Ne.symm hb)).trans q) ⟨_,e⟩ ?_
 exact⟨hz,its',n',r,e⟩
def xf0:V->V->V->Hp->(Hp->Prop)->Prop:=fun o i v H Q=>∃p xs k j,o= .ref p/\i= .int k/\H p=some (.lst xs)/\ixN xs.length k=some j/\Q (upd H p (.lst (xs.set j v)))
theorem yj9:xb4 X xf0:=by
 intro pins s σ H o i v ov iv u Q I ro ri rv h
 obtain⟨p,xs,k,j,rfl,rfl,hp,hj,q⟩:=h
 cases ro
 obtain⟨t,rfl⟩:=ri
 obtain⟨its,n,r,ho,hz⟩:=I.lst hp
 obtain⟨h1,h2,h3,h4⟩:=vV hj
 have hl:=r.length
 have hn:=qG
 have I':Inv X pins σ (upd H p (.lst (xs.set j v))) {s with heap:=s.heap.update p (Obj.mapSeq (·.setIfInBounds j u))}:=
  I.lstUpd hp ho (zw4 its n j u) (r.set rv j) (by rw [List.length_set];exact hz) s.toks
 by_cases h0:0<=k
 ·have hk:k.toNat=j:=by
   rw [seqIndex_of h0 h4] at h1
   exact Option.some.inj h1
  exact PySem.W.ki_setAt ho h0 (by omega) (by rw [List.size_toArray,<-hl];exact h4) (by rw [hk];exact⟨_,I',q⟩)
 ·have hk:(k+(its.toArray.size:Int)).toNat=j:=by
   rw [seqIndex_neg (by omega) h3] at h1
   rw [List.size_toArray,<-hl]
   exact Option.some.inj h1
  exact PySem.W.ki_setBack ho (by omega) (by rw [List.size_toArray,<-hl];exact h3) (by omega) (by rw [hk];exact⟨_,I',q⟩)
theorem zk3(lo hi:Option Int)(n:Nat):(sliceBounds lo hi none n).1=((HT.sIx n 0 lo:Nat):Int)/\(sliceBounds lo hi none n).2.1=((HT.sIx n n hi:Nat):Int)/\(sliceBounds lo hi none n).2.2=1:=by
 refine⟨?_,?_,rfl⟩
 ·cases lo with
  |none=>simp [sliceBounds,HT.sIx]
  |some i=>
   simp only [sliceBounds,HT.sIx,Option.getD_none,show(1:Int)>0 by decide,if_true]
   by_cases h:i<0
   ·simp only [h,if_true]<;>omega
   ·simp only [h,if_false]<;>omega
 ·cases hi with
  |none=>simp [sliceBounds,HT.sIx]
  |some i=>
   simp only [sliceBounds,HT.sIx,Option.getD_none,show(1:Int)>0 by decide,if_true]
   by_cases h:i<0
   ·simp only [h,if_true]<;>omega
   ·simp only [h,if_false]<;>omega
theorem zh2(its:List Value)(lo hi:Option Int):slicePick its.toArray lo hi none=((its.drop (HT.sIx its.length 0 lo)).take (HT.sIx its.length its.length hi-HT.sIx its.length 0 lo)).toArray:=by
 obtain⟨h1,h2,h3⟩:=zk3 lo hi its.toArray.size
 unfold slicePick
 rw [h1,h2,h3]
 simp only [sliceRange_one,pick_run,List.size_toArray]<;>rfl
def xi4(K:tz0):V->Option Int->Option Int->Hp->VK->Prop:=fun x lo hi H Q=>∃a xs,x= .ref a/\SqL K H a xs/\∀p,H p=none->Q (.ref p) (upd H p (.lst (uH xs lo hi)))
theorem yq9:SlR X (xi4 X.K):=by
 intro pins s σ H x v vl vu lo hi sl Q I rx hs pl pu h
 obtain⟨a,xs,rfl,hx,q⟩:=h
 cases rx
 obtain⟨its,r,ht,hz⟩:=I.list hx
 have hlen:=r.length
 refine⟨"list",_,slot_list_getitem.lookup,ht.isList.typeIs,?_⟩
 refine wpAny_getItem_list_slice ht.isList hs pl pu .none (by simp) ?_ (by rw [List.size_toArray]<;>omega)
 rw [zh2,<-hlen]
 refine⟨.ref s.heap.objs.size,_,I.laid (t':=s.toks) (o:= .lst (uH xs lo hi)) (fun b ob q=>Heap.get?_push_of_some _ q) (Nat.le_refl _) ?_,rfl,q _ (I.hok.fresh (Nat.le_refl _))⟩
 exact⟨Nat.le_trans (wV xs lo hi) hz,_,0,(r.drop (HT.sIx xs.length 0 lo)).take (HT.sIx xs.length xs.length hi-HT.sIx xs.length 0 lo),Heap.get?_push_size _ rfl⟩
def mD:V->Bool
 | .non=>true
 | .bl _=>true
 | .int _=>true
 | .str _=>true
 |_=>false
def eqV:V->V->Bool
 | .non,.non=>true
 | .bl a,.bl b=>a==b
 | .bl a,.int b=>(if a then 1 else 0)==b
 | .int a,.bl b=>a==(if b then 1 else 0)
 | .int a,.int b=>a==b
 | .str a,.str b=>a==b
 |_,_=>false
theorem yy0{A:Around}{s:Shared}{y x:V}{u v:Value}(ry:dQ y u)(rx:dQ x v)(fy:mD y=true)(fx:mD x=true):SeqAt.EqAt A s u v (eqV y x):=by
 cases y with
 |non=>
  cases ry
  cases x with
  |non=>cases rx;exact SeqAt.EqAt.same _
  |bl b=>cases rx;exact SeqAt.EqAt.none_bool b
  |int b=>obtain⟨t,rfl⟩:=rx;exact SeqAt.EqAt.none_int b t
  |str b=>obtain⟨t,rfl⟩:=rx;exact SeqAt.EqAt.none_str b t
  |_=>exact absurd (show false=true from fx) Bool.false_ne_true
 |bl a=>
  cases ry
  cases x with
  |non=>cases rx;exact SeqAt.EqAt.bool_none a
  |bl b=>cases rx;exact SeqAt.EqAt.bool_bool a b
  |int b=>obtain⟨t,rfl⟩:=rx;exact SeqAt.EqAt.bool_int a b t
  |str b=>obtain⟨t,rfl⟩:=rx;exact SeqAt.EqAt.bool_str a b t
  |_=>exact absurd (show false=true from fx) Bool.false_ne_true
 |int a=>
  obtain⟨t',rfl⟩:=ry
  cases x with
  |non=>cases rx;exact SeqAt.EqAt.int_none a t'
  |bl b=>cases rx;exact SeqAt.EqAt.int_bool a t' b
  |int b=>obtain⟨t,rfl⟩:=rx;exact SeqAt.EqAt.int_int a t' b t
  |str b=>obtain⟨t,rfl⟩:=rx;exact SeqAt.EqAt.int_str a t' b t
  |_=>exact absurd (show false=true from fx) Bool.false_ne_true
 |str a=>
  obtain⟨t',rfl⟩:=ry
  cases x with
  |non=>cases rx;exact SeqAt.EqAt.str_none a t'
  |bl b=>cases rx;exact SeqAt.EqAt.str_bool a t' b
  |int b=>obtain⟨t,rfl⟩:=rx;exact SeqAt.EqAt.str_int a t' b t
  |str b=>obtain⟨t,rfl⟩:=rx;exact SeqAt.EqAt.str_str a t' b t
  |_=>exact absurd (show false=true from fx) Bool.false_ne_true
 |_=>exact absurd (show false=true from fy) Bool.false_ne_true
def eqU(x:V)(u:Value):Bool:=match u with
 | .none=>eqV .non x
 | .bool b=>eqV (.bl b) x
 | .int i _=>eqV (.int i) x
 | .str z _=>eqV (.str z) x
 |_=>false
theorem yc9{x y:V}{u:Value}(r:dQ y u)(f:mD y=true):eqU x u=eqV y x:=by
 cases y with
 |non=>cases r;rfl
 |bl b=>cases r;rfl
 |int i=>obtain⟨t,rfl⟩:=r;rfl
 |str z=>obtain⟨t,rfl⟩:=r;rfl
 |_=>exact absurd (show false=true from f) Bool.false_ne_true
theorem za4{x:V}:∀{xs:List V} {us:List Value},cV xs us->xs.all mD=true->us.any (eqU x)=xs.any fun y=>eqV y x
 |_,_,.nil,_=>rfl
 |y::xs,u::us,.cons r t,f=>by
  rw [List.all_cons,Bool.and_eq_true] at f
  rw [List.any_cons,List.any_cons,yc9 r f.1,za4 t f.2]
theorem xA{A:Around}{s:Shared}{x:V}{v:Value}(rx:dQ x v)(fx:mD x=true):∀{xs:List V} {us:List Value},cV xs us->xs.all mD=true->∀u∈us,SeqAt.EqAt A s u v (eqU x u)
 |_,_,.nil,_=>fun u hu=>by cases hu
 |y::xs,u::us,.cons r t,f=>fun u' hu=>by
  rw [List.all_cons,Bool.and_eq_true] at f
  rcases List.mem_cons.mp hu with rfl|hu
  ·rw [yc9 r f.1];exact yy0 r rx f.1 fx
  ·exact xA rx fx t f.2 u' hu
def inV(x:V)(xs:List V):Bool:=xs.any fun y=>eqV y x
def rIn(K:tz0)(neg:Bool):R2:=fun x y H Q=>∃p xs,y= .ref p/\(SqL K H p xs\/SqT K H p xs)/\mD x=true/\xs.all mD=true/\Q (.bl (if neg then !inV x xs else inV x xs)) H
theorem yd0:OpR X (compareOp .In) (rIn X.K false):=by
 intro pins s σ H x y v u Q I rx ry h
 obtain⟨p,xs,rfl,hq,fx,fs,q⟩:=h
 cases ry
 rcases hq with hq|hq
 ·obtain⟨its,r,pl,hz⟩:=I.list hq
  refine SeqAt.in_listAt (eqU x) pl.isList (fun w hw=>xA rx fx r fs w (by simpa using hw)) ⟨.bl _,H,I,rfl,?_⟩
  rw [show its.toArray.any (eqU x)=its.any (eqU x) by simp,za4 r fs]
  exact q
 ·obtain⟨its,r,pl,hz⟩:=I.tuple hq
  refine SeqAt.in_tupleAt (eqU x) pl (fun w hw=>xA rx fx r fs w (by simpa using hw)) ⟨.bl _,H,I,rfl,?_⟩
  rw [show its.toArray.any (eqU x)=its.any (eqU x) by simp,za4 r fs]
  exact q
theorem kZ:gB X (.builtin "len") (fun xs H Q=>∃p ys,xs=[.ref p]/\(SqL X.K H p ys\/SqT X.K H p ys)/\Q (.int ys.length) H):=by
 intro pins s σ H xs us Q I r h
 obtain⟨p,ys,rfl,hq,q⟩:=h
 obtain⟨u,rfl,rx⟩:=vT r
 cases rx
 have hn:=qG
 rcases hq with hq|hq
 ·obtain⟨its,r',pl,hz⟩:=I.list hq
  have hlen:=r'.length
  exact Calls.call_len_list pl.isList (by simp only [List.size_toArray]<;>omega) ⟨.int ys.length,H,I.tok _,⟨s.toks+1,by rw [List.size_toArray,hlen]⟩,q⟩
 ·obtain⟨its,r',pl,hz⟩:=I.tuple hq
  have hlen:=r'.length
  exact len_tuple pl (by simp only [List.size_toArray]<;>omega) ⟨.int ys.length,H,I.tok _,⟨s.toks+1,by rw [List.size_toArray,hlen]⟩,q⟩
theorem zk4:gB X (.builtin "len") (fun xs H Q=>∃z,xs=[.str z]/\z.length<=sizeLine/\Q (.int z.length) H):=by
 intro pins s σ H xs us Q I r h
 obtain⟨z,rfl,hz,q⟩:=h
 obtain⟨u,rfl,t,rfl⟩:=vT r
 have hn:=qG
 exact len_str (by omega) ⟨.int z.length,H,I.tok _,⟨_,rfl⟩,q⟩
theorem uY:gB X (.type "list") (fun xs H Q=>∃p ys,xs=[.ref p]/\(SqL X.K H p ys\/SqT X.K H p ys)/\∀l,H l=none->Q (.ref l) (upd H l (.lst ys))):=by
 intro pins s σ H xs us Q I r h
 obtain⟨p,ys,rfl,hq,q⟩:=h
 obtain⟨u,rfl,rx⟩:=vT r
 cases rx
 have fin:∀(its:List Value),cV ys its->ys.length<=sizeLine->∀(h':Heap) (c':Nat),(∀b o',s.heap.get? b=some o'->h'.get? b=some o')->
   h'.get? s.heap.objs.size=some {cls:= .type "list",dict:=none,data:= .seq its.toArray c',slots:= #[]}->EP X pins σ Q (.ref s.heap.objs.size) {s with heap:=h'}:=fun its r' hz h' c' kp e=>
  ⟨.ref s.heap.objs.size,_,I.laid (t':=s.toks) kp (Nat.le_refl _) (show fL X.prog X.w _ h' _ (.lst ys) from⟨hz,its,c',r',e⟩),rfl,q _ (I.hok.fresh (Nat.le_refl _))⟩
 rcases hq with hq|hq
 ·obtain⟨its,r',pl,hz⟩:=I.list hq
  have hlen:=r'.length
  obtain⟨o,ho,hc,n,hd⟩:=pl.isList
  exact call_list_seq p (.inl rfl) ho hc hd (fun h' c' kp e=>fin its r' hz h' c' kp e) (by simp only [List.size_toArray]<;>omega)
 ·obtain⟨its,r',pl,hz⟩:=I.tuple hq
  have hlen:=r'.length
  obtain⟨o,ho,hc,n,hd⟩:=pl
  exact call_list_seq p (.inr rfl) ho hc hd (fun h' c' kp e=>fin its r' hz h' c' kp e) (by simp only [List.size_toArray]<;>omega)
theorem uS:gB X (.type "tuple") (fun xs H Q=>∃p ys,xs=[.ref p]/\((SqL X.K H p ys/\∀l,H l=none->Q (.ref l) (upd H l (.tup ys)))\/(SqT X.K H p ys/\Q (.ref p) H))):=by
 intro pins s σ H xs us Q I r h
 obtain⟨p,ys,rfl,h⟩:=h
 obtain⟨u,rfl,rx⟩:=vT r
 cases rx
 rcases h with ⟨hq,q⟩|⟨hq,q⟩
 ·obtain⟨its,r',pl,hz⟩:=I.list hq
  have hlen:=r'.length
  refine call_tuple_list pl.isList (fun h' kp=> ?_) (by simp only [List.size_toArray]<;>omega)
  have I1:Inv X pins σ H {s with heap:=h'}:=I.kept (t':=s.toks) kp
  have I2:Inv X pins σ (upd H h'.objs.size (.tup ys)) {s with heap:=h'.push {cls:= .type "tuple",data:= .seq its.toArray}}:=
   I1.laid (t':=s.toks) (fun b o e=>Heap.get?_push_of_some _ e) (Nat.le_refl _) (show fL X.prog X.w _ _ _ (.tup ys) from⟨hz,its,r',IsTup.new _ _⟩)
  exact⟨.ref h'.objs.size,_,I2,rfl,q _ (I1.hok.fresh (Nat.le_refl _))⟩
 ·obtain⟨its,r',pl,hz⟩:=I.tuple hq
  exact call_tuple_same pl ⟨.ref p,H,I,rfl,q⟩
def tyV(K:tz0)(T:String)(x:V)(H:Hp):Prop:=match x with
 | .str _=>T="str"
 | .int _=>T="int"
 | .ref p=>(T="list"/\∃xs,SqL K H p xs)\/(T="tuple"/\∃o,K.lookup p=some o/\o.cls= .type "tuple"/\o.dict=none)\/
   (T="dict"/\((∃kvs,H p=some (.dK kvs))\/∃kvs,H p=some (.dT kvs)))\/(T="set"/\∃S n,H p=some (.set S n))
 |_=>False
theorem yd1{pins:tzB}{σ:St}{H:Hp}{s:Shared}{T:String}{x:V}{v:Value}(I:Inv X pins σ H s)(r:dQ x v)(ty:tyV X.K T x H):
  s.TypeIs v T/\∀a,v= .ref a->∃ob,s.heap.get? a=some ob/\ob.dict=none:=by
 cases x with
 |str z=>
  obtain⟨t,rfl⟩:=r
  cases(show T="str" from ty)
  exact⟨typeIs_str s z t,fun _ e=>nomatch e⟩
 |int i=>
  obtain⟨t,rfl⟩:=r
  cases(show T="int" from ty)
  exact⟨typeIs_int s i t,fun _ e=>nomatch e⟩
 | ref p=>
  cases r
  rcases ty with ⟨rfl,xs,hq⟩|⟨rfl,o,hk,hc,hd⟩|⟨rfl,hk⟩|⟨rfl,S,n,hk⟩
  ·obtain⟨its,_,pl,_⟩:=I.list hq
   refine⟨pl.isList.typeIs,fun a e=> ?_⟩
   cases e
   obtain⟨o,n,e,c,hd,_⟩:=pl
   exact⟨o,e,hd⟩
  ·refine⟨⟨o,I.kIn p o hk,hc⟩,fun a e=> ?_⟩
   cases e
   exact⟨o,I.kIn _ o hk,hd⟩
  ·have z:∃o,s.heap.get? p=some o/\o.ExactDict:=by
    rcases hk with ⟨kvs,hk⟩|⟨kvs,hk⟩
    ·obtain⟨_,_,_,_,o,_,_,e,ex,_⟩:=I.hok p _ hk
     exact⟨o,e,ex⟩
    ·obtain⟨_,_,_,_,o,_,_,e,ex,_⟩:=I.hok p _ hk
     exact⟨o,e,ex⟩
   obtain⟨o,e,ex⟩:=z
   refine⟨⟨o,e,ex.1⟩,fun a e2=> ?_⟩
   cases e2
   exact⟨o,e,ex.2.1⟩
  ·obtain⟨o,_,_,_,e,ex,_⟩:=I.hok p _ hk
   refine⟨⟨o,e,ex.1⟩,fun a e2=> ?_⟩
   cases e2
   exact⟨o,e,ex.2.1⟩
 |_=>exact False.elim ty
def xi5(K:tz0)(T:String)(r:V->List V->Hp->VK->Prop)(to:TE):TE:=fun σ H Q=>to σ H fun x H1=>tyV K T x H1/\r x [] H1 Q
def tBM(K:tz0)(T:String)(r:V->List V->Hp->VK->Prop)(to:TE)(t:TA):TE:=fun σ H Q=>to σ H fun x H1=>tyV K T x H1/\t σ H1 fun xs H2=>r x xs H2 Q
variable{o e:Expr}{es:List Expr}{to:TE}{t:TA}{name:Str}{apos cpos:Pos}{T id:String}{r:V->List V->Hp->VK->Prop}
theorem yy1(pa:PlainAttrs T)(slot:Slot T name id)(hty:typeOf (.builtin id)=pure (.type "method_descriptor"))(hm:MtR X id r)(ho:PE X o to)
  (hbase:attributeBase o name X.env (eval o X.env)=eval o X.env:=by rfl) (hline:(apos.endLine==cpos.line)=true:=by rfl):PE X (.Call (.Attribute o name apos) [] [] cpos) (xi5 X.K T r to):=by
 intro pins s σ H Q I h
 refine wpAny_Call_method0_late hbase hline (thn (ho pins s σ H _ I h) fun v s1 ⟨x,H1,I1,r1,ty,q1⟩=> ?_)
 obtain⟨h1,h2⟩:=yd1 I1 r1 ty
 exact⟨T,id,pa,slot,hty,h1,h2,Calls.callWith_builtin rfl (PySem.evalArgs_none (hm pins s1 σ H1 x [] v [] Q I1 r1 .nil q1))⟩
theorem xd2(pa:PlainAttrs T)(slot:Slot T name id)(hty:typeOf (.builtin id)=pure (.type "method_descriptor"))(hm:MtR X id r)(ho:PE X o to)(ha:PA X (e::es) t)
  (hbase:attributeBase o name X.env (eval o X.env)=eval o X.env:=by rfl)
  (hfew:((backTo cpos (starEach (e::es) X.env)).all (fun x=> !x.1)&&(backToKw cpos (keywordEach [] X.env)).all (fun x=>x.1.isSome)
   &&decide ((e::es).length+([]:List Keyword).length+(if ([]:List Keyword).isEmpty then 0 else 1)<30))=true:=by rfl)
  (hline:(apos.endLine==cpos.line)=true:=by rfl) (hs:starEach (e::es) X.env=(false,eval e X.env)::starEach es X.env:=by rfl) (hplain:(backTo cpos (starEach es X.env)).any (·.1)=false:=by rfl):
  PE X (.Call (.Attribute o name apos) (e::es) [] cpos) (tBM X.K T r to t):=by
 intro pins s σ H Q I h
 refine wpAny_Call_method_late hbase hfew hline rfl (thn (ho pins s σ H _ I h) fun v s1 ⟨x,H1,I1,r1,ty,q1⟩=> ?_)
 obtain⟨h1,h2⟩:=yd1 I1 r1 ty
 refine⟨T,id,pa,slot,hty,h1,h2,?_⟩
 have hA:=ha cpos pins s1 σ H1 _ I1 q1
 rw [hs] at hA|-
 refine Calls.callWith_builtin (by show(false||(backTo cpos (starEach es X.env)).any (·.1))=false;rw [hplain]<;>rfl) (Calls.evalArgs_plain ?_)
 exact thn hA fun us s2 ⟨vs,H2,I2,r2,q2⟩=>hm pins s2 σ H2 x vs v us Q I2 r1 r2 q2
end
def MtM(X:Cx)(id:String)(r:V->List V->Hp->VK->Prop):Prop:=
 ∀(pins:tzB) (s:Shared) (σ:St) (H:Hp) (x:V) (xs:List V) (v:Value) (us:List Value) (Q:VK),Inv X pins σ H s->dQ x v->cV xs us->r x xs H Q->
  wpAny (model X.prog X.w) X.A (call (.builtin id) (v::us)) (EP X pins σ Q) X.xe s
theorem cV.one:∀{x:V} {us:List Value},cV [x] us->∃u,us=[u]/\dQ x u
 |_,_,.cons r .nil=>⟨_,rfl,r⟩
theorem cV.zero:∀{us:List Value},cV [] us->us=[]
 |_,.nil=>rfl
theorem cV.dropLast{xs:List V}{us:List Value}(h:cV xs us):cV xs.dropLast us.dropLast:=by
 induction h with
 |nil=>exact .nil
 |cons r t ih=>
  cases t with
  |nil=>exact .nil
  |cons q t'=>exact .cons r ih
theorem cV.rep{xs:List V}{us:List Value}(h:cV xs us):∀k:Nat,cV (List.replicate k xs).flatten (List.replicate k us).flatten
 |0=> .nil
 |k+1=>by
  rw [List.replicate_succ,List.replicate_succ,List.flatten_cons,List.flatten_cons]
  exact cV.append h (cV.rep h k)
theorem zw5{α:Type}(l:List α):l.eraseIdx (l.length-1)=l.dropLast:=by
 induction l with
 |nil=>rfl
 | cons a r ih=>
  cases r with
  |nil=>rfl
  | cons b r=>
   have e:(a::b::r).length-1=((b::r).length-1)+1:=by
    have h1:(a::b::r).length=r.length+2:=rfl
    have h2:(b::r).length=r.length+1:=rfl
    omega
   rw [e,List.eraseIdx_cons_succ,ih]
   all_goals rfl
theorem ze0(its:List Value):∀(k:Nat) (acc:List Value),
  List.foldl (fun x1 x2=>x1++x2) acc.toArray (List.replicate k its.toArray)=(acc++(List.replicate k its).flatten).toArray
 |0,acc=>by simp
 | k+1,acc=>by
  have e:acc.toArray++its.toArray=(acc++its).toArray:=by simp
  have e2:(acc++its)++(List.replicate k its).flatten=acc++(List.replicate (k+1) its).flatten:=by
   rw [List.replicate_succ,List.flatten_cons,List.append_assoc]
  rw [<-e2,<-ze0 its k (acc++its),<-e,List.replicate_succ,List.foldl_cons]
section
variable{X:Cx}{pins:tzB}{σ:St}{H:Hp}{s:Shared}{l b:Addr}{xs ys zs:List V}
theorem Inv.lset{its its':List Value}{n:Nat}{f:Array Value->Array Value}{t':Nat}(I:Inv X pins σ H s)(hH:H l=some (.lst xs))
  (e:s.heap.get? l=some {cls:= .type "list",data:= .seq its.toArray n}) (hf:f its.toArray=its'.toArray) (hv:cV ys its') (hz:ys.length<=sizeLine):
  Inv X pins σ (upd H l (.lst ys)) {s with heap:=s.heap.update l (Obj.mapSeq f),toks:=t'}:=by
 have q:=PySem.IsL.update e f
 rw [hf] at q
 refine I.write (x:=l) (e:=l) (by rw [hH];exact trivial) (.inl rfl) (fun b' u hb hu=>(Heap.get?_update_other s.heap (Obj.mapSeq f) (Ne.symm hb)).trans hu) ⟨_,q⟩ ?_
 exact⟨hz,its',_,hv,q⟩
theorem Inv.lnew{its:List Value}{t':Nat}(I:Inv X pins σ H s)(hv:cV ys its)(hz:ys.length<=sizeLine):
  Inv X pins σ (upd H s.heap.objs.size (.lst ys)) {s with heap:=s.heap.push {cls:= .type "list",data:= .seq its.toArray},toks:=t'}:=
 I.laid (fun _ _ q=>Heap.get?_push_of_some _ q) (Nat.le_refl _) ⟨hz,its,0,hv,Heap.get?_push_size _ rfl⟩
theorem Inv.fresh(I:Inv X pins σ H s):H s.heap.objs.size=none:=I.hok.fresh (Nat.le_refl _)
theorem Inv.lstM(I:Inv X pins σ H s)(hH:H l=some (.lst xs)):xs.length<=sizeLine/\∃(its:List Value) (n:Nat),cV xs its/\xs.length=its.length/\s.heap.get? l=some {cls:= .type "list",data:= .seq its.toArray n}:=by
 obtain⟨z,its,n,r,e⟩:=I.hok l _ hH
 exact⟨z,its,n,r,r.length,e⟩
theorem yk0{n:Nat}(h:n<=sizeLine):Builtin.List.listTooLong n=false:=by
 unfold Builtin.List.listTooLong
 exact decide_eq_false (by omega)
end
section
variable{X:Cx}
def yv7:V->List V->Hp->VK->Prop:=fun x vs H Q=>∃l xs y,x= .ref l/\vs=[y]/\H l=some (.lst xs)/\xs.length<sizeLine/\Q .non (upd H l (.lst (xs++[y])))
theorem ze1:MtM X "list.append" yv7:=by
 intro pins s σ H x vs v us Q I rx rv h
 obtain⟨l,xs,y,rfl,rfl,hH,hz,q⟩:=h
 cases rx
 obtain⟨u,rfl,ru⟩:=rv.one
 obtain⟨z,its,n,r,hl,e⟩:=I.lstM hH
 refine call_meets F.slot_list_append ⟨_,e,rfl⟩ F.entry_list_append (F.args_list_append_2 _ _) (PySem.list_append l its.toArray n u (by rw [List.size_toArray];omega)) ⟨e,?_⟩
 refine⟨.non,_,I.lset (its':=its++[u]) hH e (by simp) (r.append (.cons ru .nil)) ?_,rfl,q⟩
 rw [List.length_append,List.length_singleton]
 omega
def xi6:V->List V->Hp->VK->Prop:=fun x vs H Q=>∃l xs y,x= .ref l/\vs=[]/\H l=some (.lst xs)/\xs[xs.length-1]? =some y/\Q y (upd H l (.lst xs.dropLast))
theorem yy2:MtM X "list.pop" xi6:=by
 intro pins s σ H x vs v us Q I rx rv h
 obtain⟨l,xs,y,rfl,rfl,hH,hy,q⟩:=h
 cases rx
 have hus:=rv.zero
 subst hus
 obtain⟨z,its,n,r,hl,e⟩:=I.lstM hH
 obtain⟨u,hu,ru⟩:=r.get hy
 have hy':its.toArray[its.toArray.size-1]? =some u:=by
  show its.toArray[its.length-1]? =some u
  rw [<-Array.getElem?_toList,<-hl]
  exact hu
 refine call_meets F.slot_list_pop ⟨_,e,rfl⟩ F.entry_list_pop (F.args_list_pop_1 _) (MeetsSeq.list_pop_last l its.toArray n u hy' (by rw [List.size_toArray];omega)) ⟨e,?_⟩
 refine⟨y,_,I.lset (its':=its.dropLast) hH e ?_ r.dropLast ?_,ru,q⟩
 ·show its.toArray.eraseIdxIfInBounds (its.toArray.size-1)=its.dropLast.toArray
  rw [List.size_toArray,List.eraseIdxIfInBounds_toArray,zw5]
 ·rw [List.length_dropLast]
  omega
theorem za5{α:Type}(xs:List α)(k:Nat):(List.replicate k xs).flatten.length=k*xs.length:=by
 induction k with
 |zero=>simp
 |succ k ih=>rw [List.replicate_succ,List.flatten_cons,List.length_append,ih,Nat.succ_mul,Nat.add_comm]
end
end L2
namespace Att
open PySem PySem.W PySem.Calls PyProof.Rows
theorem yN{P:Params}{h:Heap}:∀(ns:List Int) (vs:List Value),WellAll P h vs (ns.map WData.int)->IntsAre vs ns:=by
 intro ns
 induction ns with
 |nil=>
  intro vs w
  rw [List.map_nil] at w
  cases w
  exact .nil
 | cons n ns ih=>
  intro vs w
  rw [List.map_cons] at w
  cases w with
  |cons a b=>
   cases a
   exact .cons _ _ (ih _ b)
theorem yd2{l:OpenLaw}{n:Nat}(hn:l.most=some n){P:Params}{h:Heap}{args:List WData}{vals:List Value}
  (hpre:l.row.toRowW.claim.pre args=true) (hwl:WellAll P h vals args):
  ∃a vs ns,vals=[Value.ref a]/\args=[WData.list (ns.map WData.int)]/\h.get? a=some {cls:= .type "list",data:= .seq vs.toArray}/\IntsAre vs ns/\ns.length<=n:=by
 have hsh:WShape.hasAll [] args [.list .int]=true:=(pre_splitW hpre).1
 have hc:l.pre.holds [] {args:=args}=true:=(pre_splitW hpre).2
 obtain⟨d,r,rfl,h1,h2⟩:=hasAllW_cons hsh
 obtain rfl:=hasAllW_nil h2
 obtain⟨xs,rfl,h3⟩:=hasW_list h1
 obtain⟨ns,rfl⟩:=items_int h3
 have hlen:ns.length<=n:=by
  unfold OpenLaw.pre at hc
  have h4:(WTm.not (.lt (.lit (.int (n:Int))) (.len (.arg 0)))).holds [] {args:=[.list (ns.map .int)]}=true:=by
   have h4:=(holds_andW hc).1
   rw [hn] at h4
   exact h4
  have h5:=condW_of h4 (w_not (w_lt w_lit (w_len_list (w_arg rfl))))
  rw [List.length_map] at h5
  refine Nat.le_of_not_lt fun q=> ?_
  have q':(n:Int)<((ns.length:Nat):Int):=by omega
  first
   |(rw [decide_eq_true q'] at h5;exact absurd h5 (by decide))
   |(simp at h5;omega)
 cases hwl with
 |cons w1 w2=>
  cases w2
  cases w1 with
  |list ho hall=>exact⟨_,_,ns,rfl,rfl,ho,yN ns _ hall,hlen⟩
theorem yd3(l:OpenLaw)(args:List WData):l.row.toRowW.claim.post args (.bool true) args=true:=
 postW_of (r:=l.row.toRowW) (X:=(true==true))
  (show WShape.has [] (.bool true) .bool=true by first|rfl|decide|simp [WShape.has,WShape.arms,WShape.armsAll])
  (show(WTm.eq .res (.lit (.bool true))).value [] {args:=args,res:=some (.bool true),after:=args}=some (.bool (true==true)) from w_eq_bool (w_res rfl) w_lit) rfl
theorem attach_call{l:OpenLaw}{n:Nat}{q:Program}{loose:List Str}{XP:(tzA)->Heap->Prop}{YP:World->Heap->Prop}{d:DefRec}
  (hn:l.most=some n) (hdf:d.params.defaults=[])
  (call:∀(w:World) (s₀ s₁:Shared) (mg mb:tzA) (fa:Addr) (o:Obj) (pm cd doc:Value) (a:Addr) (vs:List Value) (ns:List Int),
   Ground q loose [] XP w s₀ mg mb s₁.heap->YP w s₁.heap->
   s₁.heap.get? fa=some o->o.data= .func (docDef d.name d.params d.body d.scope pm cd doc)->s₁.heap.CodeRec cd d.name->mg d.name=some (.ref fa)->
   s₁.heap.get? a=some {cls:= .type "list",data:= .seq vs.toArray}->IntsAre vs ns->ns.length<=n->s₁.gens= #[]->
   codeAny (model l.prog w) callerA (.call (.ref fa) ⟨[.ref a],[]⟩) (fun r s'=>r= .ok (.ret (.bool true))/\OldK s₁.heap s'.heap/\s'.os=s₁.os/\AllBare s'.gens) s₁):
  WalkO q loose XP YP l.row.toRowW d [] (fun f vs=>PySem.call f vs):=by
 intro w s₀ s₁ mg mb G Y fa o pm cd doc dV kV ho hd hcd hD hmg hg args vals as hpre hlay hrd hwl hlo
 obtain rfl:dV= .none:=Dflts.none hD hdf
 obtain rfl:kV= .none:=Dflts.noKw hD
 obtain⟨a,vs,ns,rfl,rfl,hobj,hints,hlen⟩:=yd2 hn hpre hwl
 refine enter_call (codeAny_mono (call w s₀ s₁ mg mb fa o pm cd doc a vs ns G Y ho (fd_plain hd) hcd hmg hobj hints hlen hg) fun r s' hq=> ?_)
 obtain⟨rfl,h2,h3,h4⟩:=hq
 exact⟨.inl ⟨.bool true,.bool true,[],rfl,fun _=>rfl,.bool true,yd3 l _,fun _=>⟨List.Pairwise.nil,fun _ hm=>(nomatch hm)⟩⟩,h2,h3,h4⟩
end Att
namespace L2
open PySem PySem.Spec PyProof.Rows
theorem ze2:∀{vs:List Value} {ns:List Int},IntsAre vs ns->cV (ns.map V.int) vs
 |_,_,.nil=> .nil
 |_,_,.cons n t h=> .cons ⟨t,rfl⟩ (ze2 h)
def yo1(H:Hp):Prop:=∀b,H b=none\/∃o xs,H b=some (.frz o (.lst xs))
theorem yk1{P:Program}{w:World}{K:tz0}{mg mb:tzA}{CX:CXT}{k:Nat}{fa a:Addr}{fd:FuncData}{x:Str}{sp:Sp}{s₁:Shared}{vs:List Value}{ns:List Int}
  (KX:K.In s₁.heap) (hns:s₁.heap.Ns mainGlobals mg) (hb:s₁.heap.Ns builtinsNs mb) (hbb:∀x:Str,x≠"__name__"->mb x=bootBuiltins x) (hlim:s₁.heap.NoLimit) (hg:s₁.gens= #[])
  (ha:s₁.heap.get? a=some {cls:= .type "list",data:= .seq vs.toArray}) (hi:IntsAre vs ns) (hl:ns.length<=sizeLine) (hr:Room k callerA)
  (F:∀base:Heap,K.In base->base.Ns mainGlobals mg->FnOk P w K mg base CX k fa fd [x] sp) (hbind:∀(s:Shared) (u:Value),BindsTo s fd ⟨[u],[]⟩ [(x,u)])
  (hsp:∀H:Hp,yo1 H->SqL K H a (ns.map V.int)->sp [.ref a] H (fun v _=>v= .bl true) fun _ _ _=>False)
  (hCX:∀H e s',CX [] H s₁ (fun _ _ _=>False) e s'->False):
  codeAny (model P w) callerA (.call (.ref fa) ⟨[.ref a],[]⟩) (fun r s'=>r= .ok (.ret (.bool true))/\OldK s₁.heap s'.heap/\s'.os=s₁.os/\AllBare s'.gens) s₁:=by
 have rv:=ze2 hi
 have lenV:=hi.length
 have core:∀H:Hp,yo1 H->SqL K H a (ns.map V.int)->HOk P w H s₁.heap->(∀b,H b≠none->b=a)->(H a≠none->K.lookup a=none)->
   codeAny (model P w) callerA (.call (.ref fa) ⟨[.ref a],[]⟩) (fun r s'=>r= .ok (.ret (.bool true))/\OldK s₁.heap s'.heap/\s'.os=s₁.os/\AllBare s'.gens) s₁:=by
  intro H hO hS hok hA hK
  have base_of:∀{b:Addr} {o:Obj},s₁.heap.get? b=some o->H b=none->(uG s₁.heap H).get? b=some o:=fun e n=>yi6 e n
  have noA:∀{b:Addr} {o:Obj} {es:Array DictEntry} {ep:Nat},s₁.heap.get? b=some o->o.data= .dict es ep->H b=none:=fun {b o es ep} e d=>by
   cases q:H b with
   |none=>rfl
   |some u=>
    have e':b=a:=hA b (by rw [q];simp)
    subst e'
    rw [ha] at e;cases e
    have d':Data.seq vs.toArray _=Data.dict es ep:=d
    cases d'
  have nsK:∀{b:Addr} {m:tzA},s₁.heap.Ns b m->(uG s₁.heap H).Ns b m:=fun {b m} ⟨o,es,ep,e,d,r⟩=>⟨o,es,ep,base_of e (noA e d),d,r⟩
  have hKb:K.In (uG s₁.heap H):=fun b o e=>base_of (KX b o e) (by
   cases q:H b with
   |none=>rfl
   |some u=>
    have e':b=a:=hA b (by rw [q];simp)
    subst e'
    rw [hK (by rw [q];simp)] at e;cases e)
  have hM:Mod K mg (uG s₁.heap H):=⟨hKb,nsK hns,⟨mb,nsK hb,hbb⟩,let ⟨mc,h1,h2⟩:=hlim;⟨mc,nsK h1,h2⟩⟩
  have e0:Env0 P w K mg (uG s₁.heap H) callerA [] s₁ H:=⟨rfl,hM,fun b o e=>yq0 e,Nat.le_of_eq (yb0 _ _),trivial,fun b hb=>absurd (show b∈([]:List Addr) from hb) (by simp),hok,.of_eq hg⟩
  refine codeAny_mono ((F _ hKb (nsK hns)).run callerA [] s₁ H ⟨[.ref a],[]⟩ [.ref a] [.ref a] _ _ hr e0 (hbind s₁ (.ref a)) (.cons rfl .nil) (hsp H hO hS)) fun r s' h=> ?_
  cases r with
  |error e=>exact(hCX H e s' h).elim
  | ok fl=>
   cases fl with
   |next=>exact False.elim h
   |brk=>exact False.elim h
   |cont=>exact False.elim h
   | ret u=>
    obtain⟨v,H',os,bare,un,hok',r',q⟩:=h
    have q':v= .bl true:=q
    subst q'
    obtain rfl:u=Value.bool true:=r'
    refine⟨rfl,OldK.of_keep fun b o e=> ?_,os,bare⟩
    cases q:H b with
    |none=>exact un.keep b o e q (by intro z;exact absurd (show b∈([]:List Addr) from z) (by simp)) (by simp)
    | some u=>
     rcases hO b with z|⟨ob,xs,z⟩
     ·rw [q] at z;cases z
     ·have z2:=un.frzs b ob _ z
      obtain⟨e1,_⟩:=hok b _ z
      obtain⟨e2,_⟩:=hok' b _ z2
      rw [e] at e1;cases e1
      exact e2
 cases hk:K.lookup a with
 |some o=>
  have e:=KX a o hk
  rw [ha] at e
  cases e
  refine core (fun _=>none) (fun _=> .inl rfl) (.inr ⟨_,vs.toArray,_,hk,rfl,rfl,rfl,by rw [List.size_toArray,lenV];exact hl,by simpa using rv⟩) (fun b u z=>by have z':(none:Option HO)=some u:=z;cases z') (fun b z=>absurd rfl z) fun z=>absurd rfl z
 | none=>
  refine core (fun b=>if b=a then some (.frz {cls:= .type "list",data:= .seq vs.toArray} (.lst (ns.map V.int))) else none) (fun b=> ?_) (.inl (.inr ⟨{cls:= .type "list",data:= .seq vs.toArray},if_pos rfl⟩)) (fun b u z=> ?_) (fun b z=> ?_) fun _=>hk
  ·by_cases hb:b=a
   ·exact .inr ⟨_,_,if_pos hb⟩
   ·exact .inl (if_neg hb)
  ·by_cases hb:b=a
   ·have z':=(if_pos hb).symm.trans z
    cases z'
    subst hb
    exact⟨ha,by rw [List.length_map];exact hl,vs,_,rv,ha⟩
   ·have z':=(if_neg hb).symm.trans z
    cases z'
  ·by_cases hb:b=a
   ·exact hb
   ·exact absurd (if_neg hb) z
theorem yr0{l:PySem.W.OpenLaw}{n k:Nat}{q:Program}{loose:List Str}{XP:(tzA)->Heap->Prop}{YP:World->Heap->Prop}{d:DefRec}{K:Params->tz0}{CX:World->CXT}{sp:World->Sp}{x:Str}
  (hn:l.most=some n) (hn2:n<=sizeLine) (hdf:d.params.defaults=[]) (hr:Room k callerA)
  (hY:∀(w:World) (h:Heap),YP w h->(K w.params).In h)
  (F:∀(w:World) (mg:tzA) (fa:Addr) (h:Heap),(K w.params).In h->h.Ns mainGlobals mg->mg d.name=some (.ref fa)->
   ∃fd:FuncData,(∀(s:Shared) (u:Value),BindsTo s fd ⟨[u],[]⟩ [(x,u)])/\
    ∀base:Heap,(K w.params).In base->base.Ns mainGlobals mg->FnOk l.prog w (K w.params) mg base (CX w) k fa fd [x] (sp w))
  (hsp:∀(w:World) (H:Hp) (a:Addr) (ns:List Int),ns.length<=n->yo1 H->SqL (K w.params) H a (ns.map V.int)->sp w [.ref a] H (fun v _=>v= .bl true) fun _ _ _=>False)
  (hCX:∀(w:World) (H:Hp) (s:Shared) (e:Value) (s':Shared),CX w [] H s (fun _ _ _=>False) e s'->False):
  PySem.W.WalkO q loose XP YP l.row.toRowW d [] (fun f vs=>PySem.call f vs):=by
 refine Att.attach_call hn hdf fun w s₀ s₁ mg mb fa o pm cd doc a vs ns G Y ho hd hcd hmg hobj hints hlen hg=> ?_
 have KX:=hY w _ Y
 obtain⟨fd,hb,hF⟩:=F w mg fa _ KX G.T.g hmg
 exact yk1 KX G.T.g G.T.b G.T.builtins G.T.nolimit hg hobj hints (Nat.le_trans hlen hn2) hr hF hb (fun H hO hS=>hsp w H a ns hlen hO hS) fun H e s'=>hCX w H s₁ e s'
def lY(s:Stmt)(j:Nat):Stmt:=match s with
 | .ClassDef _ _ _ body _ _ _ _ _ _ _=>body.getD j (.Pass ⟨0,0,0,0⟩)
 |_=> .Pass ⟨0,0,0,0⟩
def eO(s:Stmt):Arguments:=match s with
 | .FunctionDef _ a _ _ _ _ _ _ _ _=>a
 |_=>{posonlyargs:=[],args:=[],vararg:=none,kwonlyargs:=[],kw_defaults:=[],kwarg:=none,defaults:=[]}
def dF(s:Stmt):List Stmt:=match s with
 | .FunctionDef _ _ b _ _ _ _ _ _ _=>b
 |_=>[]
def aY(s:Stmt):Scope:=match s with
 | .FunctionDef _ _ _ _ _ _ sc _ _ _=>sc
 |_=>{kind:= .function,names:=[],isGenerator:=false,isCoroutine:=false}
abbrev CX0:CXT:=fun _ _ _ _ _ _=>False
abbrev E0:XK:=fun _ _ _=>False
theorem sS{X:Cx}:oN CX0 X E0:=fun _ _ _ _ _ _ _ h=>h.elim
structure Fun(K:tz0)(x qual:Str)(st:Stmt)(f:Addr)(fd:FuncData):Prop where
 ex:∃(oc:Value) (od:Option Addr) (kV doc pm:Value) (an:Option Addr) (cdv ct:Value) (osl:Array (Option Value)),
  fd=PySem.W.fnOf x qual (eO st) (dF st) (aY st) .none kV doc pm an cdv ct/\K.lookup f=some ⟨oc,od,.func fd,osl⟩/\PySem.W.codeIn K cdv qual=true
 kp:PySem.W.keepIn K (.ref f)=true
section
variable{P:Program}{w:World}{K:tz0}{mg:tzA}{base:Heap}
theorem Fun.ok{x qual:Str}{st:Stmt}{f:Addr}{fd:FuncData}{N ps:List Str}{k:Nat}{sp:Sp}(F:Fun K x qual st f fd)(S:FnScope N ps (aY st))(len:∀vs H Q E,sp vs H Q E->vs.length=ps.length)
  (hbody:∀(cdv:Value) (A:Around) (outer:List Env) (s:Shared) (H:Hp) (vs:List V) (Q:VK) (E:XK),Room k (A.deeper (envOfC qual (aY st) s.heap.objs.size f cdv))->sp vs H Q E->
   ∃t,PSs (gG CX0 P w K mg base N qual (aY st) f cdv A outer s H E).nox (dF st) t/\t {nx:=fun _ H'=>Q .non H',rt:=Q} (start N vs) H):FnOk P w K mg base CX0 (k+1) f fd ps sp:=by
 obtain⟨oc,od,kV,doc,pm,an,cdv,ct,osl,rfl,lk,hcd⟩:=F.ex
 refine zi2 lk hcd S len fun A outer s H vs Q E hr hsp=> ?_
 obtain⟨t,h,q⟩:=hbody cdv A outer s H vs Q E hr hsp
 exact⟨t,h.nox,q⟩
theorem Fun.binds{x qual:Str}{st:Stmt}{f:Addr}{fd:FuncData}{ps:List Str}(F:Fun K x qual st f fd)
  (h:∀(kV doc pm:Value) (an:Option Addr) (cdv ct:Value) (us:List Value),us.length=ps.length->bindArgs (PySem.W.fnOf x qual (eO st) (dF st) (aY st) .none kV doc pm an cdv ct) ⟨us,[]⟩=pure (ps.zip us)):mC K fd ps []:=by
 obtain⟨oc,od,kV,doc,pm,an,cdv,ct,osl,rfl,lk,hcd⟩:=F.ex
 exact .all (h kV doc pm an cdv ct)
theorem gX{x qual:Str}{st:Stmt}{f:Addr}{oc:Value}{od an:Option Addr}{osl:Array (Option Value)}{kV doc pm cdv ct:Value}(l:K.lookup f=some ⟨oc,od,.func (PySem.W.fnOf x qual (eO st) (dF st) (aY st) .none kV doc pm an cdv ct),osl⟩)
  (c:PySem.W.codeIn K cdv qual=true) (k:PySem.W.keepIn K (.ref f)=true):Fun K x qual st f (PySem.W.fnOf x qual (eO st) (dF st) (aY st) .none kV doc pm an cdv ct):=⟨⟨oc,od,kV,doc,pm,an,cdv,ct,osl,rfl,l,c⟩,k⟩
end
theorem zw6{A:Around}{k:Nat}(hr:Room k A):A.units+1<cLine:=Nat.lt_of_le_of_lt (Nat.add_le_add_left (by decide:1<=64) _) hr.units
theorem qX{n:Nat}(h:n<=1000):n<sizeLine:=Nat.lt_of_le_of_lt h (by decide)
section
variable{X:Cx}
theorem pv(i:Nat){x:Str}{pos:Pos}(hN:X.N[i]? =some x:=by rfl)(hv:Vis X.env.scope x:=by first|exact Or.inl rfl|exact Or.inr (Or.inl rfl)|exact Or.inr (Or.inr rfl))(hd:(x==("__debug__":Str))=false:=by decide)
  (hcd:(x==("__classdict__":Str))=false:=by decide):PE X (.Name x pos) (xb2 i):=jX hN hv hd hcd
end
theorem xf8{c A B:Prop}[Decidable c](h1:c->A)(h2:¬c->B):if c then A else B:=by
 by_cases h:c
 ·rw [if_pos h]
  exact h1 h
 ·rw [if_neg h]
  exact h2 h
def zz8(H H':Hp):Prop:=∀b o,H b=some o->H' b=some o
theorem zz8.free{H H':Hp}(e:zz8 H H'){l:Addr}(h:H' l=Option.none):H l=Option.none:=by
 cases q:H l with
 |none=>rfl
 |some o=>
  rw [e l o q] at h
  cases h
section
variable{κ:Type}[DecidableEq κ]
def lZ(kvs:List (κ×V))(k:κ):Option V:=(kvs.find? fun kv=>decide (kv.1=k)).map (·.2)
def qS(kvs:List (κ×V))(k:κ)(v:V):List (κ×V):=
 if (kvs.any fun kv=>decide (kv.1=k))=true then kvs.map (fun kv=>if kv.1=k then(kv.1,v) else kv) else kvs++[(k,v)]
theorem sT{p:κ×V}{r:List (κ×V)}{k:κ}(e:p.1=k):lZ (p::r) k=some p.2:=by simp [lZ,List.find?_cons,e]
theorem sU{p:κ×V}{r:List (κ×V)}{k:κ}(e:¬p.1=k):lZ (p::r) k=lZ r k:=by simp [lZ,List.find?_cons,e]
theorem xB(k:κ):∀kvs:List (κ×V),(kvs.any fun kv=>decide (kv.1=k))=(lZ kvs k).isSome
 |[]=>rfl
 |p::r=>by
  rw [List.any_cons]
  by_cases e:p.1=k
  ·simp only [sT e,decide_eq_true e,Bool.true_or,Option.isSome_some]
  ·rw [sU e,decide_eq_false e,Bool.false_or];exact xB k r
theorem zq7(kvs:List (κ×V))(k:κ)(v:V):(qS kvs k v).length<=kvs.length+1:=by
 unfold qS
 split
 ·rw [List.length_map];omega
 ·rw [List.length_append,List.length_cons,List.length_nil];omega
theorem yk2{kvs:List (κ×V)}{k:κ}(v:V)(h:lZ kvs k=none):qS kvs k v=kvs++[(k,v)]:=by
 unfold qS
 rw [xB,h]
 exact if_neg (by decide)
theorem kR.isSome_eq{o:Option V}{u:Option Value}(r:kR o u):o.isSome=u.isSome:=by
 cases o with
 |none=>cases u with
  |none=>rfl
  |some _=>exact(show False from r).elim
 |some _=>cases u with
  |none=>exact(show False from r).elim
  |some _=>rfl
theorem KV.val{kvs:List (κ×V)}{vs:List (κ×Value)}(r:KV kvs vs)(k:κ):kR (lZ kvs k) (valueAt vs k):=by
 unfold KV at r
 induction r with
 |nil=>exact True.intro
 | @cons p q ps qs h t ih=>
  obtain⟨h1,h2⟩:=h
  by_cases e:p.1=k
  ·have e':q.1=k:=h1.symm.trans e
   have b:valueAt (q::qs) k=some q.2:=by simp [valueAt,List.find?_cons,e']
   rw [sT e,b];exact h2
  ·have e':¬q.1=k:=fun z=>e (h1.trans z)
   have b:valueAt (q::qs) k=valueAt qs k:=by simp [valueAt,List.find?_cons,e']
   rw [sU e,b];exact ih
theorem KV.any{kvs:List (κ×V)}{vs:List (κ×Value)}(r:KV kvs vs)(k:κ):(kvs.any fun kv=>decide (kv.1=k))=vs.any fun kv=>decide (kv.1=k):=by
 unfold KV at r
 induction r with
 |nil=>rfl
 |cons h t ih=>rw [List.any_cons,List.any_cons,ih,h.1]
theorem KV.repl{kvs:List (κ×V)}{vs:List (κ×Value)}(r:KV kvs vs)(k:κ){y:V}{u:Value}(ry:dQ y u):
  KV (kvs.map fun kv=>if kv.1=k then(kv.1,y) else kv) (vs.map fun kv=>if kv.1=k then(kv.1,u) else kv):=by
 unfold KV at r|-
 induction r with
 |nil=>exact .nil
 | @cons p q ps qs h t ih=>
  rw [List.map_cons,List.map_cons]
  refine .cons ?_ ih
  obtain⟨h1,h2⟩:=h
  by_cases e:p.1=k
  ·rw [if_pos e,if_pos (h1.symm.trans e)];exact⟨h1,ry⟩
  ·rw [if_neg e,if_neg (fun z=>e (h1.trans z))];exact⟨h1,h2⟩
theorem KV.put{kvs:List (κ×V)}{vs:List (κ×Value)}(r:KV kvs vs)(k:κ){y:V}{u:Value}(ry:dQ y u):KV (qS kvs k y) (stored vs k u):=by
 unfold qS stored
 rw [r.any k]
 by_cases e:(vs.any fun kv=>decide (kv.1=k))=true
 ·rw [if_pos e,if_pos e];exact r.repl k ry
 ·rw [if_neg e,if_neg e];exact Paired.snoc r ⟨rfl,ry⟩
end
theorem yO{P:Program}{w:World}{k:Key}{u:Value}(r:dQ (kV k) u):(gR P w).is k u=true:=by
 cases k with
 |inl i=>obtain⟨t,e⟩:=(show ∃t,u=Value.int i t from r);subst e;exact zq6 P w i t
 |inr x=>obtain⟨t,e⟩:=(show ∃t,u=Value.str x t from r);subst e;exact lU P w x t
theorem ze3{P:Program}{w:World}:∀{ks:List Key} {us:List Value},cV (ks.map kV) us->ItemsAre (gR P w) ks us
 |[],_,r=>by rw [List.map_nil] at r;cases r;exact .nil
 |k::ks,_,r=>by
  rw [List.map_cons] at r
  cases r with
  |cons h t=>exact .cons (yO h) (ze3 t)
abbrev KT(H:Hp):List (List Key×V)->List (List Key×Addr×Value)->Prop:=Paired fun p q=>p.1=q.1/\H q.2.1=some (.tup (p.1.map kV))/\dQ p.2 q.2.2
theorem KT.val{H:Hp}{kvs:List (List Key×V)}{xs:List (List Key×Addr×Value)}(r:KT H kvs xs)(k:List Key):kR (lZ kvs k) ((atKey xs k).map (·.2)):=by
 induction r with
 |nil=>exact True.intro
 | @cons p q ps qs h t ih=>
  obtain⟨h1,_,h2⟩:=h
  by_cases e:p.1=k
  ·have e':q.1=k:=h1.symm.trans e
   have b:atKey (q::qs) k=some q.2:=by simp [atKey,List.find?_cons,e']
   rw [sT e,b];exact h2
  ·have e':¬q.1=k:=fun z=>e (h1.trans z)
   have b:atKey (q::qs) k=atKey qs k:=by simp [atKey,List.find?_cons,e']
   rw [sU e,b];exact ih
section
variable{P:Program}{w:World}{H:Hp}{h:Heap}{a:Addr}
theorem yo8{u:HO}(ok:HOk P w H h)(e:Rd H a u):fL P w H h a u:=e.ok ok
theorem zw7{kvs:List (Key×V)}(ok:HOk P w H h)(e:Rd H a (.dK kvs)):kvs.length<=sizeLine/\(a==sysModules)=false/\∃vs,KV kvs vs/\h.DictOf (gR P w) a vs:=
 show fL P w H h a (.dK kvs) from yo8 ok e
theorem xd3{kvs:List (Key×V)}(ok:HOk P w H h)(e:H a=some (.dK kvs)):kvs.length<=sizeLine/\(a==sysModules)=false/\∃vs,KV kvs vs/\h.DictOf (gR P w) a vs:=zw7 ok (.inl e)
theorem yd4{ks:List Key}(ok:HOk P w H h)(e:H a=some (.tup (ks.map kV))):(tupleKind (gR P w)).is h ks a:=by
 obtain⟨_,its,r,o,h1,h2,n,h3⟩:=(show fL P w H h a (.tup (ks.map kV)) from ok a _ e)
 exact⟨o,its.toArray,n,h1,h2,h3,by simpa using ze3 r⟩
theorem yo9{kvs:List (List Key×V)}(ok:HOk P w H h)(e:Rd H a (.dT kvs)):kvs.length<=sizeLine/\(a==sysModules)=false/\
  ∃xs,KT H kvs xs/\h.DictOfH (tupleKind (gR P w)) a xs:=by
 obtain⟨z,y,xs,r,o,es,ep,h1,h2,h3,h4,h5⟩:=(show fL P w H h a (.dT kvs) from yo8 ok e)
 refine⟨z,y,xs,r,o,es,ep,h1,h2,h3,h4,fun x hx=> ?_,h5⟩
 have all:∀{l:List (List Key×V)} {m:List (List Key×Addr×Value)},KT H l m->∀x∈m,(tupleKind (gR P w)).is h x.1 x.2.1:=by
  intro l m q
  induction q with
  |nil=>intro x hx;exact nomatch hx
  | @cons p q ps qs hq t ih=>
   intro x hx
   rcases List.mem_cons.mp hx with e|hx
   ·subst e
    exact yd4 ok (by rw [<-hq.1];exact hq.2.1)
   ·exact ih x hx
 exact all r x hx
end
def zz9(H:Hp)(a:Addr)(y:V)(r:Option V):Prop:=
 (∃kvs k,Rd H a (.dK kvs)/\y=kV k/\r=lZ kvs k)\/∃kvs k b,Rd H a (.dT kvs)/\y= .ref b/\H b=some (.tup (k.map kV))/\r=lZ kvs k
section
variable{X:Cx}{pins:tzB}{σ:St}{H:Hp}{s:Shared}{a:Addr}{y v:V}{u r:Value}{o:Option V}{A:Around}{E:Value->Shared->Prop}
theorem Inv.big(I:Inv X pins σ H s):sysModules<s.heap.objs.size:=by
 have h:mainGlobals<s.heap.objs.size:=(I.mod.glob.keeps I.bk).lt
 exact Nat.lt_trans (by decide) h
theorem yd5{Q:Value->Shared->Prop}(hu:A.units+1<cLine)(I:Inv X pins σ H s)(g:zz9 H a y (some v))(ry:dQ y u)(h:∀w' s',Inv X pins σ H s'->dQ v w'->Q w' s'):
  wpAny (model X.prog X.w) A (getItem (.ref a) u) Q E s:=by
 rcases g with ⟨kvs,k,e,ey,l⟩|⟨kvs,k,b,e,ey,eb,l⟩
 ·subst ey
  obtain⟨z,hd,vs,rel,dd⟩:=zw7 I.hok e
  obtain⟨w',hw,rw'⟩:=kR.some_of (v:=v) (o:=valueAt vs k) (by rw [l];exact rel.val k)
  exact wpAny_getItem_of (yO ry) dd.mapOf hw (h w' _ (I.tok _) rw')
 ·subst ey
  cases(show u=Value.ref b from ry)
  obtain⟨z,hd,xs,rel,dd⟩:=yo9 I.hok e
  obtain⟨w',hw,rw'⟩:=kR.some_of (v:=v) (o:=(atKey xs k).map (·.2)) (by rw [l];exact rel.val k)
  obtain⟨p,hp,hp2⟩:=Option.map_eq_some_iff.mp hw
  refine wpAny_getItem_heap (tupleKind_room_in1 hu) (yd4 I.hok eb) dd hp ?_
  rw [hp2]
  exact h w' _ (I.tok _) rw'
theorem yr1{h':Heap}{t':Nat}{ob:HO}(I:Inv X pins σ H s)(mu:Mut (H a))(hs:Heap.SameBut a s.heap h')(he:∃q,h'.get? a=some q)(new:fL X.prog X.w (upd H a ob) h' a ob):
  Inv X pins σ (upd H a ob) {s with heap:=h',toks:=t'}:=
 I.write (x:=a) (e:=a) mu (.inl rfl) (fun b q hb z=>(hs.2 b hb).trans z) he new
theorem yy3{P:Program}{w:World}{H':Hp}{h':Heap}{kvs:List (Key×V)}{vs:List (Key×Value)}(z:kvs.length<=sizeLine)(hd:(a==sysModules)=false)(rel:KV kvs vs)(dd:h'.DictOf (gR P w) a vs):
  fL P w H' h' a (.dK kvs):=⟨z,hd,vs,rel,dd⟩
end
def yB(i:Expr):Prop:=∀ov iv,subscripted i false ov iv=operate [ov,iv] (getItem ov iv)
theorem zt2{prog:Program}{w:World}{A:Around}{E:Value->Shared->Prop}{s:Shared}{env:Env}{value slice:Expr}{pos:Pos}{T id:String}{Q:Value->Shared->Prop}
  (hl:typeLookup (.type T) "__getitem__"=pure (some (.builtin id))) (hs:yB slice)
  (h:wpAny (model prog w) A (eval value env) (fun o s₁=>wpAny (model prog w) A (eval slice env) (fun i s₂=>s₂.TypeIs o T/\wpAny (model prog w) A (getItem o i) Q E s₂) E s₁) E s):
  wpAny (model prog w) A (eval (.Subscript value slice pos) env) Q E s:=by
 refine Subscript_ (wpAny_mono h (fun o s₁ h₁=>wpAny_mono h₁ (fun i s₂ h₂=> ?_) fun _ _ x=>x) fun _ _ x=>x)
 obtain⟨hT,h₂⟩:=h₂
 unfold subscriptTail
 refine wpAny_bind ?_
 rw [getitemInPython_of_ne hT.not_modules]
 refine wpAny_bind (wpAny_specialOf hT hl ?_)
 have fin:wpAny (model prog w) A (subscripted slice false o i) (fun r s₃=>wpAny (model prog w) A (letTemporaryGo value o r>>=fun _=>pure r) Q E s₃) E s₂:=by
  rw [hs o i]
  exact wpAny_operating (wpAny_mono h₂ (fun r s₃ h₃=>wpAny_bind (wpAny_letTemporaryGo (wpAny_pure h₃))) fun _ _ x=>x)
 first
  |exact wpAny_pure (wpAny_bind fin)
  |exact wpAny_bind (wpAny_pure (wpAny_bind fin))
  |exact wpAny_bind fin
theorem zq8{X:Cx}{pins:tzB}{σ:St}{H:Hp}{s:Shared}{a:Addr}{y:V}{o:Option V}(I:Inv X pins σ H s)(g:zz9 H a y o):s.TypeIs (.ref a) "dict":=by
 rcases g with ⟨kvs,k,e,_,_⟩|⟨kvs,k,b,e,_,_,_⟩
 ·obtain⟨_,_,vs,_,dd⟩:=zw7 I.hok e
  exact dd.typeIs
 ·obtain⟨_,_,xs,_,dd⟩:=yo9 I.hok e
  exact dd.typeIs
def xf1(td ty:TE):TE:=fun σ H Q=>td σ H fun x H1=>ty σ H1 fun y H2=>∃a v,x= .ref a/\zz9 H2 a y (some v)/\Q v H2
section
variable{X:Cx}{o i e value:Expr}{pos pos' tpos:Pos}{td ty tv:TE}
theorem yr2(hu:X.A.units+1<cLine)(ho:PE X o td)(hi:PE X i ty)(hs:yB i):PE X (.Subscript o i pos) (xf1 td ty):=by
 intro pins s σ H Q I h
 refine zt2 PySem.F.slot_dict_getitem.lookup hs (thn (ho pins s σ H _ I h) fun u s1 ⟨x,H1,I1,rx,q1⟩=>thn (hi pins s1 σ H1 _ I1 q1) fun iv s2 ⟨y,H2,I2,ry,a,v,ex,g,q2⟩=> ?_)
 subst ex
 obtain rfl:u=Value.ref a:=rx
 exact⟨zq8 I2 g,yd5 hu I2 g ry fun w' s3 I3 rw'=>⟨v,H2,I3,rw',q2⟩⟩
end
theorem yk3{P:Program}{w:World}{H:Hp}(h:Heap)(hb:sysModules<h.objs.size):fL P w H (h.push {cls:= .type "dict",data:= .dict #[]}) h.objs.size (.dK []):=
 ⟨Nat.zero_le _,beq_eq_false_iff_ne.mpr (Ne.symm (Nat.ne_of_lt hb)),[],.nil,Heap.DictOf.new h⟩
def zR:List (TE×TE)->St->Hp->(List (V×V)->Hp->Prop)->Prop
 |[],_,H,Q=>Q [] H
 |(tk,tv)::r,σ,H,Q=>tk σ H fun x H1=>tv σ H1 fun y H2=>zR r σ H2 fun ps H3=>Q ((x,y)::ps) H3
abbrev VV:List (V×V)->List (Value×Value)->Prop:=Paired fun p q=>dQ p.1 q.1/\dQ p.2 q.2
def PPs(X:Cx)(pos:Pos)(keys:List (Option Expr))(values:List Expr)(trs:List (TE×TE)):Prop:=
 ∀(pins:tzB) (s:Shared) (σ:St) (H:Hp) (Q:List (V×V)->Hp->Prop),Inv X pins σ H s->zR trs σ H Q->
  wpAny (model X.prog X.w) X.A (evalPairs (pairTrees keys values X.env pos)) (fun vs s'=>∃ps H',Inv X pins σ H' s'/\VV ps vs/\Q ps H') X.xe s
theorem rW{X:Cx}{pos:Pos}:PPs X pos [] [] []:=fun pins s σ H Q I h=>pairTrees_nil_walk ⟨[],H,I,.nil,h⟩
theorem jH{X:Cx}{pos:Pos}{k v:Expr}{ks:List (Option Expr)}{vs:List Expr}{tk tv:TE}{trs:List (TE×TE)}(hk:PE X k tk)(hv:PE X v tv)(hr:PPs X pos ks vs trs):
  PPs X pos (some k::ks) (v::vs) ((tk,tv)::trs):=fun pins s σ H Q I h=>
 pairTrees_cons_walk (thn (hk pins s σ H _ I h) fun u s1 ⟨x,H1,I1,rx,q1⟩=>thn (hv pins s1 σ H1 _ I1 q1) fun w2 s2 ⟨y,H2,I2,ry,q2⟩=>
  thn (hr pins s2 σ H2 _ I2 q2) fun ws s3 ⟨ps,H3,I3,rel,q3⟩=>⟨(x,y)::ps,H3,I3,.cons ⟨rx,ry⟩ rel,q3⟩)
def pR(kvs more:List (Key×V)):List (Key×V):=more.foldl (fun acc kv=>qS acc kv.1 kv.2) kvs
theorem KV.merge:∀{more:List (Key×V)} {rs:List (Key×Value)} {kvs:List (Key×V)} {vs:List (Key×Value)},KV more rs->KV kvs vs->KV (pR kvs more) (merged vs rs):=by
 intro more rs kvs vs r
 unfold KV at r
 induction r generalizing kvs vs with
 |nil=>intro q;exact q
 | @cons p q ps qs h t ih=>
  intro r0
  have e:KV (qS kvs p.1 p.2) (stored vs q.1 q.2):=by
   have:=r0.put p.1 h.2
   rw [<-h.1];exact this
  exact ih e
theorem uT:∀(more kvs:List (Key×V)),(pR kvs more).length<=kvs.length+more.length
 |[],kvs=>by show kvs.length<=kvs.length+0;omega
 |p::r,kvs=>by
  have h1:=uT r (qS kvs p.1 p.2)
  have h2:=zq7 kvs p.1 p.2
  show(pR (qS kvs p.1 p.2) r).length<=_
  rw [List.length_cons];omega
theorem yP{P:Program}{w:World}:∀{kvs:List (Key×V)} {ws:List (Value×Value)},VV (kvs.map fun kv=>(kV kv.1,kv.2)) ws->∃rs,Carries (gR P w) ws rs/\KV kvs rs
 |[],_,r=>by rw [List.map_nil] at r;cases r;exact⟨[],True.intro,.nil⟩
 | p::kvs,_,r=>by
  rw [List.map_cons] at r
  cases r with
  | @cons a b as bs h t=>
   obtain⟨rs,c,q⟩:=yP (P:=P) (w:=w) t
   obtain⟨b1,b2⟩:=b
   exact⟨(p.1,b2)::rs,⟨yO h.1,rfl,c⟩,.cons ⟨rfl,h.2⟩ q⟩
def xf2(trs:List (TE×TE)):TE:=fun σ H Q=>∀p,H p=none->zR trs σ (upd H p (.dK [])) fun ps H2=>H2 p=some (.dK [])/\∃kvs:List (Key×V),ps=kvs.map (fun kv=>(kV kv.1,kv.2))/\kvs.length<=15/\Q (.ref p) (upd H2 p (.dK (pR [] kvs)))
theorem yr3{X:Cx}{pos:Pos}{keys:List (Option Expr)}{values:List Expr}{trs:List (TE×TE)}(h:PPs X pos keys values trs)(hall:keys.all (·.isSome)=true)(hl:keys.length=values.length)(h0:keys≠[])
  (h15:keys.length<=15):PE X (.Dict keys values pos) (xf2 trs):=by
 intro pins s σ H Q I q
 have hn:=I.hok.fresh (Nat.le_refl s.heap.objs.size)
 have I1:=I.laid (a:=s.heap.objs.size) (o:= .dK []) (h':=s.heap.push {cls:= .type "dict",data:= .dict #[]}) (t':=s.toks) (fun _ _ q=>Heap.get?_push_of_some _ q) (Nat.le_refl _) (yk3 s.heap I.big)
 refine wpAny_Dict_walk (knd:=gR X.prog X.w) hall hl h0 h15 (thn (h pins _ σ _ _ I1 (q _ hn)) fun ws s2 ⟨ps,H2,I2,rel,e,kvs,ep,lk,q2⟩=> ?_)
 subst ep
 obtain⟨rs,c,rk⟩:=yP (P:=X.prog) (w:=X.w) rel
 obtain⟨z,hd,vs0,r0,dd⟩:=xd3 I2.hok e
 cases r0
 refine⟨rs,c,dd,fun h' dd' hs=>⟨.ref s.heap.objs.size,_,?_,rfl,q2⟩⟩
 have hz:(pR [] kvs).length<=sizeLine:=by
  have h1:=uT kvs []
  rw [List.length_nil] at h1
  rw [sizeLine_eq];omega
 have he:∃q,h'.get? s.heap.objs.size=some q:=let ⟨q,_,_,hq,_⟩:=dd';⟨q,hq⟩
 exact yr1 I2 (by rw [e];exact True.intro) hs he (yy3 hz hd (rk.merge .nil) dd')
structure M1(X:Cx)(o:Expr)(m:Str)(apos:Pos)(e:Expr)(cpos:Pos):Prop where
 base:attributeBase o m X.env (eval o X.env)=eval o X.env
 few:((backTo cpos (starEach [e] X.env)).all (fun x=> !x.1)&&(backToKw cpos (keywordEach [] X.env)).all (fun x=>x.1.isSome)
  &&decide (([e]:List Expr).length+([]:List Keyword).length+(if ([]:List Keyword).isEmpty then 0 else 1)<30))=true
 line:(apos.endLine==cpos.line)=true
 trees:backTo cpos (starEach [e] X.env)=[(false,eval e X.env)]
structure M2(X:Cx)(o:Expr)(m:Str)(apos:Pos)(e f:Expr)(cpos:Pos):Prop where
 base:attributeBase o m X.env (eval o X.env)=eval o X.env
 few:((backTo cpos (starEach [e,f] X.env)).all (fun x=> !x.1)&&(backToKw cpos (keywordEach [] X.env)).all (fun x=>x.1.isSome)
  &&decide (([e,f]:List Expr).length+([]:List Keyword).length+(if ([]:List Keyword).isEmpty then 0 else 1)<30))=true
 line:(apos.endLine==cpos.line)=true
 trees:backTo cpos (starEach [e,f] X.env)=[(false,eval e X.env),(false,eval f X.env)]
structure Dn(K:tz0)(mg:tzA)(x:Str)(st:Stmt)(ps:List Str)(f:Addr)(fd:FuncData):Prop where
 F:Fun K x x st f fd
 b:mC K fd ps []
 m:mg x=some (.ref f)
section
variable{X:Cx}{x:Str}{st:Stmt}{ps:List Str}{f:Addr}{fd:FuncData}{k:Nat}{sp:Sp}{p pos:Pos}{e:Expr}{es:List Expr}{t:TA}
theorem zi4(D:Dn X.K X.mg x st ps f fd)(G:FnOk X.prog X.w X.K X.mg X.base CX0 k f fd ps sp)(hr:Room k X.A)(hg:Gl X x)(ha:PA X (e::es) t)
  (hdb:(x==("__debug__":Str))=false:=by decide) (he:starEach (e::es) X.env=(false,eval e X.env)::starEach es X.env:=by rfl) (hpl:(backTo pos (starEach es X.env)).any (·.1)=false:=by rfl):
  PE X (.Call (.Name x p) (e::es) [] pos) (yp4 sp [] E0 t):=yq4 G hr hg D.m D.F.kp D.b .nil sS ha hdb he hpl
end
theorem yk4{H:Hp}{p:Addr}(h:H p=none)(o:HO):zz8 H (upd H p o):=fun b u q=>by rw [dW (gK q h)];exact q
theorem zi5{n:Nat}(h:n<=1000):n<=sizeLine:=Nat.le_of_lt (qX h)
def sQ(H:Hp):V->Option String
 | .non=>some "NoneType"
 | .bl _=>some "bool"
 | .int _=>some "int"
 | .str _=>some "str"
 | .ref a=>match H a with
  |some (.lst _)=>some "list"
  |some (.frz _ (.lst _))=>some "list"
  |some (.tup _)=>some "tuple"
  |some (.dK _)=>some "dict"
  |_=>none
 |_=>none
def gS(t c:String):Bool:=decide (t=c)||(decide (t="bool")&&decide (c="int"))
def ya0:List String:=["NoneType","bool","int","str","list","tuple","dict"]
theorem zk5(K:tz0):∀t∈ya0,∀c∈["bool","int","str","list","tuple","dict"],PySem.W.kitOne K (.type t) (.type c)=some (gS t c):=by
 intro t ht c hc
 simp only [ya0,List.mem_cons,List.not_mem_nil,or_false] at ht hc
 rcases ht with rfl|rfl|rfl|rfl|rfl|rfl|rfl<;>rcases hc with rfl|rfl|rfl|rfl|rfl|rfl<;>rfl
theorem yd6{K:tz0}{H:Hp}{x:V}{t:String}(h:sQ H x=some t):TyOf K H x (.type t)/\t∈ya0:=by
 cases x with
 |non=>cases h;exact⟨.non,by decide⟩
 |bl b=>cases h;exact⟨.bl b,by decide⟩
 |int i=>cases h;exact⟨.int i,by decide⟩
 |str x=>cases h;exact⟨.str x,by decide⟩
 | ref a=>
  have h':(match H a with
   |some (.lst _)=>some "list"
   |some (.frz _ (.lst _))=>some "list"
   |some (.tup _)=>some "tuple"
   |some (.dK _)=>some "dict"
   |_=>none)=some t:=h
  cases e:H a with
  |none=>rw [e] at h';cases h'
  | some o=>
   rw [e] at h'
   cases o with
   |lst xs=>cases h';exact⟨.lst e,by decide⟩
   |tup xs=>cases h';exact⟨.tup e,by decide⟩
   |dK kvs=>cases h';exact⟨.dK e,by decide⟩
   |frz ob u=>
    cases u with
    |lst xs=>cases h';exact⟨.frz e,by decide⟩
    |_=>cases h'
   |_=>cases h'
 |_=>cases h
section
variable{X:Cx}
theorem yk5:gB X (.builtin "isinstance") (fun xs H Q=>∃x c t,xs=[x,.ty c]/\sQ H x=some t/\c∈["bool","int","str","list","tuple","dict"]/\Q (.bl (gS t c)) H):=by
 intro pins s σ H xs us Q I r h
 obtain⟨x,c,t,rfl,ht,hc,q⟩:=h
 obtain⟨u,v,rfl,rx,rc⟩:=zi1 r
 cases(show v=Value.type c from rc)
 obtain⟨ty,hk⟩:=yd6 (K:=X.K) ht
 exact yc4 I rx ty (zk5 X.K t hk c hc) fun tk=>⟨.bl (gS t c),H,I.tok tk,rfl,q⟩
end
theorem sV{env:Env}:∀(names:List (Str×NameKind)) (cs:List (Str×Addr)),
  (∀y∈names,y.2= .free->∃c,env.cells.lookup y.1=some c)->(∀x c,cs.lookup x=some c->env.cells.lookup x=some c)->
  ∃ cl,(forIn names cs fun(y:Str×NameKind) (r:List (Str×Addr))=>
    (if (y.2== .free)=true then(do let a<-cellOf env y.1;pure (ForInStep.yield ((y.1,a)::r))) else pure (ForInStep.yield r):Sem (ForInStep (List (Str×Addr)))))=pure cl/\
   (∀x c,cl.lookup x=some c->env.cells.lookup x=some c)/\(∀x c,cs.lookup x=some c->∃c',cl.lookup x=some c')/\(∀y∈names,y.2= .free->∃c,cl.lookup y.1=some c)
 |[],cs,_,hc=>⟨cs,rfl,hc,fun x c h=>⟨c,h⟩,fun y hy=>absurd hy (List.not_mem_nil)⟩
 | (n,k)::r,cs,hn,hc=>by
  have hr:∀y∈r,y.2= .free->∃c,env.cells.lookup y.1=some c:=fun y hy=>hn y (List.mem_cons_of_mem _ hy)
  by_cases hk:k= .free
  ·subst hk
   obtain⟨c,e⟩:=hn (n,.free) List.mem_cons_self rfl
   have hc':∀x c',((n,c)::cs).lookup x=some c'->env.cells.lookup x=some c':=fun x c' h=>by
    rw [List.lookup_cons] at h
    cases hx:x==n with
    |true=>
     rw [hx] at h
     have e1:x=n:=by simpa using hx
     have e2:c=c':=Option.some.inj h
     rw [e1,<-e2];exact e
    |false=>rw [hx] at h;exact hc x c' h
   obtain⟨cl,h1,h2,h3,h4⟩:=sV (env:=env) r ((n,c)::cs) hr hc'
   refine⟨cl,?_,h2,fun x c' h=> ?_,fun y hy hf=> ?_⟩
   ·rw [List.forIn_cons]
    have e0:cellOf env n=pure c:=by unfold cellOf;rw [e]
    simp only [e0]
    exact h1
   ·cases hx:x==n with
    |true=>
     have e1:x=n:=by simpa using hx
     exact h3 x c (by rw [List.lookup_cons,hx])
    |false=>exact h3 x c' (by rw [List.lookup_cons,hx];exact h)
   ·rcases List.mem_cons.mp hy with e1|hy
    ·rw [e1];exact h3 n c (by rw [List.lookup_cons];simp)
    ·exact h4 y hy hf
  ·obtain⟨cl,h1,h2,h3,h4⟩:=sV (env:=env) r cs hr hc
   refine⟨cl,?_,h2,h3,fun y hy hf=> ?_⟩
   ·rw [List.forIn_cons]
    have e0:(k==NameKind.free)=false:=by simpa using hk
    simp only [e0]
    exact h1
   ·rcases List.mem_cons.mp hy with e1|hy
    ·rw [e1] at hf;exact absurd hf hk
    ·exact h4 y hy hf
theorem zw8{env:Env}{scope:Scope}(h:∀y∈scope.names,y.2= .free->∃c,env.cells.lookup y.1=some c):
  ∃cl,closureFor scope env=pure cl/\(∀x c,cl.lookup x=some c->env.cells.lookup x=some c)/\(∀y∈scope.names,y.2= .free->∃c,cl.lookup y.1=some c):=by
 obtain⟨cl,h1,h2,_,h4⟩:=sV (env:=env) scope.names [] h (fun x c e=>by simp at e)
 refine⟨cl,?_,h2,h4⟩
 have e:((forIn scope.names [] fun(y:Str×NameKind) (r:List (Str×Addr))=>
    (if (y.2== .free)=true then(do let a<-cellOf env y.1;pure (ForInStep.yield ((y.1,a)::r))) else pure (ForInStep.yield r):Sem (ForInStep (List (Str×Addr)))))>>=fun s=>pure s)=pure cl:=by rw [h1];rfl
 exact e
structure CScope(sc:Scope)(NX N:List Str)(pick:List (Option Nat))(scope:Scope):Prop where
 kind:scope.kind= .function
 nocell:∀y∈scope.names,y.2≠ .cell
 names:∀y∈scope.names,y.2= .local->scope.names.lookup y.1=some .local
 frees:∀y∈scope.names,y.2= .free->sc.names.lookup y.1=some .cell\/sc.names.lookup y.1=some .free
 pk:∀p∈N.zip pick,∀j∈p.2,NX[j]? =some p.1/\scope.names.lookup p.1=some .free
 nd:N.Nodup
 len:pick.length=N.length
def pV(pick:List (Option Nat))(σ:St):St:=pick.map fun o=>o.bind fun j=>(σ[j]?).join
def cxB(X:Cx)(N:List Str)(scope:Scope)(cl:List (Str×Addr))(fp:List Addr)(s:Shared)(H:Hp):Cx where
 prog:=X.prog
 w:=X.w
 K:=X.K
 mg:=X.mg
 base:=X.base
 A:=X.A
 N:=N
 s₀:=s
 H₀:=H
 env:=compEnvC scope cl s.heap.objs.size X.env
 outer:=X.stack
 stack:=X.stack
 ex:=fp
 fn:=fun _=>false
 calm:=X.calm
 pn:=[]
 xe:=fun _ _=>False
def PTs(X:Cx)(ifs:List Expr)(t:TT):Prop:=
 ∀(pins:tzB) (s:Shared) (σ:St) (H:Hp) (Q:Bool->Hp->Prop),Inv X pins σ H s->t σ H Q->
  wpAny (model X.prog X.w) X.A (forIn ifs true fun c r=>if r=true then do let ok<-isTrue c X.env (eval c X.env);pure (ForInStep.yield ok) else pure (ForInStep.yield r)) (TP X pins σ Q) X.xe s
def xi7:TT:=fun _ H Q=>Q true H
theorem yy4{X:Cx}:PTs X [] xi7:=fun pins s σ H Q I h=>wpAny_tests_nil ⟨H,I,h⟩
section
variable{prog:Program}{w:World}{A:Around}{R:Result->Shared->Prop}{s:Shared}
theorem yd7{elt target iter:Expr}{ifs:List Expr}{scope:Scope}{pos:Pos}{it acc:Value}{env:Env}(I:Nat->Shared->Prop)
  (turn:∀n s,I n s->wpAny (model prog w) A (pyNext it) (fun r s1=>match r with
   |none=>R (.ok .next) s1
   | some v=>wpAny (model prog w) A (letOwnedTupleGo target it v) (fun _ s1=>wpAny (model prog w) A (assign target env v) (fun _ s2=>
     wpAny (model prog w) A (forIn ifs true fun c r=>if r=true then do let ok<-isTrue c env (eval c env);pure (ForInStep.yield ok) else pure (ForInStep.yield r)) (fun ok s3=>
      if ok=true then wpAny (model prog w) A (eval elt env) (fun x s4=>
       wpAny (model prog w) A (call (.builtin "list.append") [acc,x]) (fun _ s5=>∃m,m<n/\I m s5) (fun _ _=>False) s4) (fun _ _=>False) s3
      else ∃m,m<n/\I m s3) (fun _ _=>False) s2) (fun _ _=>False) s1) (fun _ _=>False) s1) (fun _ _=>False) s)
  (n:Nat) (h:I n s):codeAny (model prog w) A (.compLoop (.ListComp elt [⟨target,iter,ifs,0⟩] scope pos) 0 it acc env) R s:=by
 refine codeAny_loop rfl I (fun n s hI=> ?_) n h
 show wpAny _ A ((compTurn (.ListComp elt [⟨target,iter,ifs,0⟩] scope pos) 0 it acc env).onRaise (fun x=>do noteFrame x env;theTreesLotGoes x)) _ _ s
 refine wpAny_noted ?_
 rw [compTurn_list]
 refine wpAny_bind (wpAny_standAt (wpAny_bind (wpAny_mono (turn n s hI) (fun r s1 h1=> ?_) fun _ _ z=>z.elim)))
 cases r with
 |none=>exact wpAny_pure h1
 | some v=>
  refine wpAny_bind (wpAny_mono h1 (fun _ s1 h1=>wpAny_bind (wpAny_mono h1 (fun _ s2 h2=>wpAny_bind (wpAny_mono h2 (fun ok s3 h3=> ?_) fun _ _ z=>z.elim)) fun _ _ z=>z.elim)) fun _ _ z=>z.elim)
  cases ok with
  |false=>exact wpAny_pure ⟨rfl,h3⟩
  |true=>
   exact wpAny_bind (wpAny_bind (wpAny_mono h3 (fun x s4 h4=>wpAny_bind (wpAny_mono h4 (fun _ s5 h5=>wpAny_pure (wpAny_pure ⟨rfl,h5⟩)) fun _ _ z=>z.elim)) fun _ _ z=>z.elim))
end
def xc2(pick:List (Option Nat))(wi:TI)(g:TG)(tt:TT)(te:TE)(σ:St)(H:Hp)(Q:Addr->Hp->Prop):Prop:=wi σ H fun J H1=>∀D,H1 D=none->
 ∃ W:Nat->Nat->St->Hp->Prop,(∃m,W 0 m (pV pick σ) (upd H1 D (.lst [])))/\∀i m σ' H',W i m σ' H'->
  (J.stop i H'/\Q D H')\/(J.go i H'/\∀x H2,J.yld i H' x H2->g x σ' H2 fun σ3 H3=>tt σ3 H3 fun b H4=>
   if b=true then te σ3 H4 fun y H5=>∃ys,H5 D=some (.lst ys)/\ys.length<sizeLine/\∃m',m'<m/\W (i+1) m' σ3 (upd H5 D (.lst (ys++[y]))) else ∃m',m'<m/\W (i+1) m' σ3 H4)
def xf3(pick:List (Option Nat))(wi:TI)(g:TG)(tt:TT)(te:TE):TE:=fun σ H Q=>xc2 pick wi g tt te σ H fun D H'=>Q (.ref D) H'
section
variable{X:Cx}{sc:Scope}{NX N:List Str}{pick:List (Option Nat)}{elt tg iter:Expr}{ifs:List Expr}{scope:Scope}{pos:Pos}{wi:TI}{g:TG}{tt:TT}{te:TE}
theorem kE{env:Env}:∀{names:List (Str×NameKind)} {x:Str} {k:NameKind},(∀y∈names,y.2≠ .cell)->
  (names.map fun(n,k)=>if (k==NameKind.free&&env.scope.kind== .function&&env.kindOf n==some .cell) then(n,NameKind.cell) else(n,k)).lookup x=some k->(k= .cell\/k= .free)->(x,NameKind.free)∈names
 |[],_,_,_,h,_=>by simp at h
 | (n,k0)::r,x,k,hn,h,hk=>by
  have hr:∀y∈r,y.2≠ .cell:=fun y hy=>hn y (List.mem_cons_of_mem _ hy)
  have h':List.lookup x ((if (k0==NameKind.free&&env.scope.kind== .function&&env.kindOf n==some .cell)=true then(n,NameKind.cell) else(n,k0))::(r.map fun(n,k)=>if (k==NameKind.free&&env.scope.kind== .function&&env.kindOf n==some .cell) then(n,NameKind.cell) else(n,k)))=some k:=h
  by_cases hc:(k0==NameKind.free&&env.scope.kind== .function&&env.kindOf n==some .cell)=true
  ·rw [if_pos hc,List.lookup_cons] at h'
   cases hx:x==n with
   | true=>
    have e1:x=n:=by simpa using hx
    have e2:k0= .free:=by
     simp only [Bool.and_eq_true,beq_iff_eq] at hc
     exact hc.1.1
    rw [e1,e2];exact List.mem_cons_self
   |false=>rw [hx] at h';exact List.mem_cons_of_mem _ (kE hr h' hk)
  ·rw [if_neg hc,List.lookup_cons] at h'
   cases hx:x==n with
   | true=>
    rw [hx] at h'
    have e1:x=n:=by simpa using hx
    have e2:k0=k:=Option.some.inj h'
    have e3:k0= .free:=by
     rcases hk with z|z
     ·exact absurd (e2.trans z) (hn (n,k0) List.mem_cons_self)
     ·exact e2.trans z
    rw [e1,e3];exact List.mem_cons_self
   |false=>rw [hx] at h';exact List.mem_cons_of_mem _ (kE hr h' hk)
theorem qY{env:Env}:∀{names:List (Str×NameKind)} {x:Str},names.lookup x=some .free->
  (names.map fun(n,k)=>if (k==NameKind.free&&env.scope.kind== .function&&env.kindOf n==some .cell) then(n,NameKind.cell) else(n,k)).lookup x=some .cell\/
  (names.map fun(n,k)=>if (k==NameKind.free&&env.scope.kind== .function&&env.kindOf n==some .cell) then(n,NameKind.cell) else(n,k)).lookup x=some .free
 |[],_,h=>by simp at h
 | (n,k0)::r,x,h=>by
  have ih:= @qY env r x
  show List.lookup x ((if (k0==NameKind.free&&env.scope.kind== .function&&env.kindOf n==some .cell)=true then(n,NameKind.cell) else(n,k0))::_)=_\/List.lookup x ((if (k0==NameKind.free&&env.scope.kind== .function&&env.kindOf n==some .cell)=true then(n,NameKind.cell) else(n,k0))::_)=_
  rw [List.lookup_cons] at h
  cases hx:x==n with
  |true=>
   rw [hx] at h
   have e:k0= .free:=Option.some.inj h
   subst e
   by_cases hc:(NameKind.free==NameKind.free&&env.scope.kind== .function&&env.kindOf n==some .cell)=true
   ·rw [if_pos hc];left;rw [List.lookup_cons,hx]
   ·rw [if_neg hc];right;rw [List.lookup_cons,hx]
  | false=>
   rw [hx] at h
   rcases ih h with z|z
   ·left
    by_cases hc:(k0==NameKind.free&&env.scope.kind== .function&&env.kindOf n==some .cell)=true
    ·rw [if_pos hc,List.lookup_cons,hx];exact z
    ·rw [if_neg hc,List.lookup_cons,hx];exact z
   ·right
    by_cases hc:(k0==NameKind.free&&env.scope.kind== .function&&env.kindOf n==some .cell)=true
    ·rw [if_pos hc,List.lookup_cons,hx];exact z
    ·rw [if_neg hc,List.lookup_cons,hx];exact z
theorem yd8{pins:tzB}{σ:St}{H:Hp}{s:Shared}{cl:List (Str×Addr)}{fp:List Addr}{h':Heap}{tk:Nat}(S:CScope sc NX N pick scope)(hsc:X.env.scope=sc)(hNX:X.N=NX)
  (I:Inv X pins σ H s) (hf:∀b∈fp,qR X pins H b) (ho:∀b∈fp,∃o,s.heap.get? b=some o)
  (c1:∀x c,cl.lookup x=some c->X.env.cells.lookup x=some c) (c2:∀y∈scope.names,y.2= .free->∃c,cl.lookup y.1=some c)
  (hns:h'.Ns s.heap.objs.size fun _=>none) (hk:∀b o,s.heap.get? b=some o->h'.get? b=some o):
  Inv (cxB X N scope cl fp s H) [] (pV pick σ) H {s with heap:=h',toks:=tk}:=by
 have lt:∀b∈fp,b<s.heap.objs.size:=fun b hb=>by obtain⟨o,e⟩:=ho b hb;exact Heap.lt_size e
 refine⟨⟨I.ok.mod,S.kind,I.ok.glob,I.ok.blt,Nat.le_refl _,fun x y c h1 h2=>I.ok.inj x y c (c1 x c h1) (c1 y c h2),fun x hx=> ?_,fun x c z=>absurd z (by simp [cxB]),I.ok.hd,I.ok.frames,.inl rfl,
  fun b hb=>⟨Nat.ne_of_lt (lt b hb),fun x c e=>(hf b hb).2.2.2.2.1 x c (c1 x c e)⟩,I.bs,Nat.le_trans I.ok.bsz I.sz,fun b o e hb=> ?_,fun b hb z=> ?_,I.stack,I.stkFree⟩,
  rfl,I.bare,Un.kept hk,⟨_,hns,fun i x v h1 h2 h3=> ?_⟩,fun x c e=> ?_,I.hok.fresh (Nat.le_refl _),fun x c e=>I.freeC x c (c1 x c e),fun p hp=>absurd (show p∈([]:tzB) from hp) (by simp),I.hok.kept hk,?_⟩
 ·have hx':(relabel scope X.env).names.lookup x=some .cell\/(relabel scope X.env).names.lookup x=some .free:=hx
  have hm:(x,NameKind.free)∈scope.names:=by
   rcases hx' with z|z
   ·exact kE S.nocell z (.inl rfl)
   ·exact kE S.nocell z (.inr rfl)
  exact c2 _ hm rfl
 ·rcases(hf b hb).2.2.2.1 with z|z
  ·exact I.ok.noex b o e z
  ·exact absurd (Nat.lt_of_lt_of_le (Heap.lt_size e) (Nat.le_trans I.ok.bsz z)) (Nat.lt_irrefl _)
 ·rcases List.mem_cons.mp (I.stkSub b z) with z|z
  ·exact(hf b hb).2.1 z
  ·exact(hf b hb).2.2.1 z
 ·
  have hN':N[i]? =some x:=h1
  have h2':(pV pick σ)[i]? =some (some v):=h2
  unfold pV at h2'
  rw [List.getElem?_map] at h2'
  cases ep:pick[i]? with
  |none=>rw [ep] at h2';cases h2'
  | some o=>
   rw [ep] at h2'
   cases o with
   |none=>cases h2'
   | some j=>
    have h4:(σ[j]?).join=some v:=Option.some.inj h2'
    have h5:σ[j]? =some (some v):=by
     cases e:σ[j]? with
     |none=>rw [e] at h4;cases h4
     |some q=>rw [e] at h4;exact congrArg some h4
    have hz:(x,some j)∈N.zip pick:=by
     refine List.mem_of_getElem? (i:=i) ?_
     rw [List.getElem?_zip_eq_some];exact⟨hN',ep⟩
    obtain⟨h6,h7⟩:=S.pk _ hz j rfl
    have hfr:(x,NameKind.free)∈scope.names:=PySem.mem_of_lookup h7
    have hcf:=S.frees _ hfr rfl
    have hcf':X.env.kindOf x=some .cell\/X.env.kindOf x=some .free:=by
     show X.env.scope.names.lookup x=_\/X.env.scope.names.lookup x=_
     rw [hsc];exact hcf
    obtain⟨m,hn,hl⟩:=I.loc
    obtain⟨u,ru,lk⟩:=hl j x v (by rw [hNX];exact h6) h5 (.inr hcf')
    refine⟨u,ru,.inr ⟨qY h7,?_⟩⟩
    obtain⟨c,ec⟩:=c2 _ hfr rfl
    refine⟨c,ec,?_⟩
    rcases lk with ⟨k1,_⟩|⟨_,c',ec',hcell⟩
    ·rcases hcf' with z|z
     ·rw [k1] at z;cases z
     ·rw [k1] at z;cases z
    ·have e':=c1 x c ec
     rw [ec'] at e'
     cases e'
     obtain⟨o,e1,e2⟩:=hcell
     exact⟨o,hk _ _ e1,e2⟩
 ·obtain⟨v,o,e1,e2⟩:=I.cell x c (c1 x c e)
  exact⟨v,o,hk _ _ e1,e2⟩
 ·show(pV pick σ).length=N.length
  unfold pV
  rw [List.length_map];exact S.len
theorem zw9{pins:tzB}{σ σ':St}{H H':Hp}{s s':Shared}{cl:List (Str×Addr)}{fp:List Addr}(I:Inv X pins σ H s)(hf:∀b∈fp,qR X pins H b)
  (J:Inv (cxB X N scope cl fp s H) [] σ' H' s'):Inv X pins σ H' s':=
 I.call' (ch:=fp) J.os J.base J.hok J.bare fun b hb=>⟨(hf b hb).2.2.2.1,(hf b hb).2.1,(hf b hb).2.2.2.2.1,(hf b hb).2.2.2.2.2⟩
theorem zx0{pins:tzB}{σ:St}{H2:Hp}{s2:Shared}{cl:List (Str×Addr)}{J:It}{fp:List Addr}{it:Addr}{tn:Nat->Heap->Prop}{RR:Value->Addr->Result->Shared->Prop}{E:Value->Shared->Prop}{Q:Addr->Hp->Prop}
  (S:CScope sc NX N pick scope) (hsc:X.env.scope=sc) (hNX:X.N=NX) (hc:X.calm=true)
  (hg:∀cl fp s H,PG (cxB X N scope cl fp s H) tg g) (ht:∀cl fp s H,PTs (cxB X N scope cl fp s H) ifs tt) (he:∀cl fp s H,PE (cxB X N scope cl fp s H) elt te)
  (I2:Inv X pins σ H2 s2) (T:Turn X.prog X.w X.K tg J fp it tn) (st2:tn 0 s2.heap) (f2:∀b∈fp,qR X pins H2 b)
  (c1:∀x c,cl.lookup x=some c->X.env.cells.lookup x=some c) (c2:∀y∈scope.names,y.2= .free->∃c,cl.lookup y.1=some c)
  (q:∀D,H2 D=none->∃W:Nat->Nat->St->Hp->Prop,(∃m,W 0 m (pV pick σ) (upd H2 D (.lst [])))/\∀i m σ' H',W i m σ' H'->
   (J.stop i H'/\Q D H')\/(J.go i H'/\∀x H2,J.yld i H' x H2->g x σ' H2 fun σ3 H3=>tt σ3 H3 fun b H4=>
    if b=true then te σ3 H4 fun y H5=>∃ys,H5 D=some (.lst ys)/\ys.length<sizeLine/\∃m',m'<m/\W (i+1) m' σ3 (upd H5 D (.lst (ys++[y]))) else ∃m',m'<m/\W (i+1) m' σ3 H4))
  (fin:∀D C H' s',Inv X pins σ H' s'->H' C=none->X.s₀.heap.objs.size<=C->C≠X.env.locals->(∀x c,X.env.cells.lookup x=some c->c≠C)->(∀p∈X.pn++pins,p.1≠C)->(∃m,s'.heap.Ns C m)->Q D H'->RR (.ref D) C (.ok .next) s'):
  wpAny (model X.prog X.w) X.A (newList []) (fun acc s3=>wpAny (model X.prog X.w) X.A (newFunctionEnv scope X.env.globals cl [] X.env.qual none .none (some X.env)) (fun cenv s4=>
   codeAny (model X.prog X.w) X.A (.compStart (.ListComp elt [⟨tg,iter,ifs,0⟩] scope pos) 0 (.ref it) acc {cenv with scope:=relabel scope X.env}) (RR acc cenv.locals) s4) E s3) E s2:=by
 have hD:H2 s2.heap.objs.size=none:=I2.hok.fresh (Nat.le_refl _)
 obtain⟨W,⟨m0,w0⟩,turn⟩:=q _ hD
 refine wpAny_newObj_type (wpAny_newFunctionEnv S.nocell (by intro y hy;simp at hy) (fun h1 hns hsb=> ?_) S.kind)
 have I3:Inv X pins σ (upd H2 s2.heap.objs.size (.lst [])) {s2 with heap:=s2.heap.push {cls:= .type "list",dict:=none,data:= .seq ([]:List Value).toArray}}:=
  I2.lnew (t':=s2.toks) (its:=[]) (ys:=[]) .nil (Nat.zero_le _)
 have ne:∀b∈fp,b≠s2.heap.objs.size:=fun b hb z=>by
  obtain⟨o,e,_⟩:=T.obj _ _ st2 b hb
  exact absurd (Heap.lt_size e) (by rw [z];exact Nat.lt_irrefl _)
 have f3:∀b∈fp,qR X pins (upd H2 s2.heap.objs.size (.lst [])) b:=fun b hb=>⟨by rw [dW (ne b hb)];exact(f2 b hb).1,(f2 b hb).2⟩
 have ho3:∀b∈fp,∀o,s2.heap.get? b=some o->(s2.heap.push {cls:= .type "list",dict:=none,data:= .seq ([]:List Value).toArray}).get? b=some o:=fun b _ o e=>Heap.get?_push_of_some _ e
 have st3:=T.keep _ _ _ st2 ho3
 generalize hH3:s2.heap.push {cls:= .type "list",dict:=none,data:= .seq ([]:List Value).toArray}=H3 at hns hsb I3 ho3 st3|-
 dsimp only at hns hsb|-
 have hk:∀b o,H3.get? b=some o->h1.get? b=some o:=fun b o e=>hsb.extBut b o (Nat.ne_of_lt (Heap.lt_size e)) (Heap.get?_push_of_some _ e)
 have B0:Inv (cxB X N scope cl fp {s2 with heap:=H3} (upd H2 s2.heap.objs.size (.lst []))) [] (pV pick σ) (upd H2 s2.heap.objs.size (.lst [])) {s2 with heap:=h1,toks:=s2.toks+([]:List (Str×Value)).length}:=
  yd8 (s:={s2 with heap:=H3}) S hsc hNX I3 f3 (fun b hb=>by obtain⟨o,e,_⟩:=T.obj _ _ st3 b hb;exact⟨o,e⟩) c1 c2 hns hk
 have st4:tn 0 h1:=T.keep _ _ _ st3 fun b _ o e=>hk b o e
 have fpY:∀{H':Hp},(∀b∈fp,H' b=none)->∀b∈fp,qR (cxB X N scope cl fp {s2 with heap:=H3} (upd H2 s2.heap.objs.size (.lst []))) [] H' b:=fun hn b hb=>
  ⟨hn b hb,(B0.ok.exf b hb).1,B0.ok.exfs b hb,.inl hb,(B0.ok.exf b hb).2,fun p hp=>absurd (show p∈([]:tzB) from hp) (by simp)⟩
 have loop:∀s4:Shared,s4={s2 with heap:=h1,toks:=s2.toks+([]:List (Str×Value)).length}->
   codeAny (model X.prog X.w) X.A (.compLoop (.ListComp elt [⟨tg,iter,ifs,0⟩] scope pos) 0 (.ref it) (.ref s2.heap.objs.size) (compEnvC scope cl H3.objs.size X.env)) (RR (.ref s2.heap.objs.size) H3.objs.size) s4:=by
  rintro s4 rfl
  refine yd7 (fun n s'=>∃i σ' H',Inv (cxB X N scope cl fp {s2 with heap:=H3} (upd H2 s2.heap.objs.size (.lst []))) [] σ' H' s'/\tn i s'.heap/\(∀b∈fp,H' b=none)/\W i n σ' H') ?_ m0
   ⟨0,_,_,B0,st4,fun b hb=>(f3 b hb).1,w0⟩
  rintro n s5 ⟨i,σ5,H5,I5,st5,fr5,w5⟩
  rcases turn i n σ5 H5 w5 with ⟨stop,qn⟩|⟨go,step⟩
  ·refine thn (T.done (cxB X N scope cl fp {s2 with heap:=H3} (upd H2 s2.heap.objs.size (.lst []))) rfl rfl rfl hc i [] s5 σ5 H5 _ I5 (fpY fr5) st5 stop) fun r s6 ⟨hr,I6⟩=> ?_
   subst hr
   obtain⟨m,hm,_⟩:=I6.loc
   have sz:X.s₀.heap.objs.size<=H3.objs.size:=I3.sz
   refine fin _ _ H5 s6 (zw9 I3 f3 I6) I6.free sz (Nat.ne_of_gt I3.lt) (fun x c e z=> ?_) (fun p hp z=> ?_) ⟨m,hm⟩ qn
   ·obtain⟨v,z2⟩:=I3.cell x c e
    exact absurd z2.lt (by rw [z];exact Nat.lt_irrefl _)
   ·exact absurd (Heap.lt_size (I3.pin p hp).1) (by rw [z];exact Nat.lt_irrefl _)
  ·refine thn (T.item (cxB X N scope cl fp {s2 with heap:=H3} (upd H2 s2.heap.objs.size (.lst []))) rfl rfl rfl hc i [] s5 σ5 H5 _ I5 (fpY fr5) st5 go) fun r s6 ⟨u,hr,h6⟩=> ?_
   subst hr
   refine thn h6 fun _ s7 ⟨x,H7,I7,r7,y7,st7,fr7⟩=> ?_
   have I7':=I7.pinned (fpY fr7) (T.obj _ _ st7)
   have back:∀{σ8:St} {H8:Hp} {s8:Shared},Inv (cxB X N scope cl fp {s2 with heap:=H3} (upd H2 s2.heap.objs.size (.lst []))) ([]++sP fp s7.heap) σ8 H8 s8->
     tn (i+1) s8.heap/\∀b∈fp,H8 b=none:=fun {σ8 H8 s8} I8=>by
    refine⟨T.keep _ _ _ st7 fun b hb o e=>(I8.pin (b,o) (List.mem_append_right _ (List.mem_append_right _ (pW hb e)))).1,fun b hb=> ?_⟩
    obtain⟨o,e,d⟩:=T.obj _ _ st7 b hb
    exact(I8.pin (b,o) (List.mem_append_right _ (List.mem_append_right _ (pW hb e)))).2.1
   refine thn (hg _ _ _ _ _ s7 σ5 H7 x u _ I7' r7 (step x H7 y7)) fun _ s8 ⟨σ8,H8,I8,q8⟩=> ?_
   refine thn (ht _ _ _ _ _ s8 σ8 H8 _ I8 q8) fun ok s9 ⟨H9,I9,q9⟩=> ?_
   cases ok with
   |false=>
    rw [if_neg (by decide)] at q9|-
    obtain⟨m',hm,w9⟩:=q9
    obtain⟨b1,b2⟩:=back I9
    exact⟨m',hm,i+1,σ8,H9,I9.unpinned,b1,b2,w9⟩
   | true=>
    rw [if_pos rfl] at q9|-
    refine thn (he _ _ _ _ _ s9 σ8 H9 _ I9 q9) fun v s10 ⟨y,H10,I10,ry,ys,hys,hlen,m',hm,w10⟩=> ?_
    have ap:=ze1 (X:=cxB X N scope cl fp {s2 with heap:=H3} (upd H2 s2.heap.objs.size (.lst []))) ([]++sP fp s7.heap) s10 σ8 H10 (.ref s2.heap.objs.size) [y] (.ref s2.heap.objs.size) [v]
     (fun z H'=>z= .non/\H'=upd H10 s2.heap.objs.size (.lst (ys++[y]))) I10 rfl (.cons ry .nil) ⟨_,ys,y,rfl,rfl,hys,hlen,rfl,rfl⟩
    refine thn ap fun z s11 ⟨z',H11,I11,_,_,e11⟩=> ?_
    subst e11
    obtain⟨b1,b2⟩:=back I11
    exact⟨m',hm,i+1,σ8,_,I11.unpinned,b1,b2,w10⟩
 exact codeAny_compStart_list (loop _ rfl) (T.self _ _ _ _ _ st4 (loop _ rfl))
theorem yr4(S:CScope sc NX N pick scope)(hsc:X.env.scope=sc)(hNX:X.N=NX)(hc:X.calm=true)(hi:PI X tg iter wi)
  (hg:∀cl fp s H,PG (cxB X N scope cl fp s H) tg g) (ht:∀cl fp s H,PTs (cxB X N scope cl fp s H) ifs tt) (he:∀cl fp s H,PE (cxB X N scope cl fp s H) elt te)
  (hs:∀x,foldedSetIterable iter X.env x=pure x:=by intro _;rfl):PE X (.ListComp elt [⟨tg,iter,ifs,0⟩] scope pos) (xf3 pick wi g tt te):=by
 intro pins s σ H Q I h
 rw [eval_ListComp]
 have hfr:∀y∈scope.names,y.2= .free->∃c,X.env.cells.lookup y.1=some c:=fun y hy hf=>I.ok.has y.1 (by
  show X.env.scope.names.lookup y.1=_\/X.env.scope.names.lookup y.1=_
  rw [hsc];exact S.frees y hy hf)
 obtain⟨cl,hcl,c1,c2⟩:=zw8 hfr
 refine wpAny_comprehension_free (use:=none) rfl hs hcl S.kind S.names (thn (hi pins s σ H _ I h) fun v s1 h1=>thn h1 fun itv s2 h2=> ?_)
 obtain⟨it,fp,tn,J,H2,e,I2,T,st2,f2,q⟩:=h2
 subst e
 refine zx0 (RR:=fun acc C=>compPost (model X.prog X.w) X.A X.xe none (EP X pins σ Q) acc C) (Q:=fun D H'=>Q (.ref D) H') S hsc hNX hc hg ht he I2 T st2 f2 c1 c2 q ?_
 intro D C H' s' I' n1 n2 n3 n4 n5 ⟨m,hm⟩ q'
 exact⟨m,hm,fun h' hb=>⟨.ref D,H',I'.turned (t':=s'.toks) (it:=C) (fun b o hbc e=>(hb.2 b hbc).trans e) n1 n3 (.inr n2) n4 n5,rfl,q'⟩⟩
end
mutual
inductive Dp(K:tz0)(H:Hp):V->PyData->Prop
 |non:Dp K H .non .none
 |bl (b:Bool):Dp K H (.bl b) (.bool b)
 |int (i:Int):Dp K H (.int i) (.int i)
 |str (x:Str):Dp K H (.str x) (.str x)
 |lst {a:Addr} {xs:List V} {ds:List PyData}:SqL K H a xs->DpAll K H xs ds->Dp K H (.ref a) (.list ds)
 |tup {a:Addr} {xs:List V} {ds:List PyData}:SqT K H a xs->DpAll K H xs ds->Dp K H (.ref a) (.tuple ds)
inductive DpAll(K:tz0)(H:Hp):List V->List PyData->Prop
 |nil:DpAll K H [] []
 |cons {v:V} {vs:List V} {d:PyData} {ds:List PyData}:Dp K H v d->DpAll K H vs ds->DpAll K H (v::vs) (d::ds)
end
section
variable{X:Cx}{pins:tzB}{σ:St}{H:Hp}{s:Shared}
mutual
theorem Dp.reads(I:Inv X pins σ H s):∀{v:V} {d:PyData} {u:Value},Dp X.K H v d->dQ v u->∃as,Reads s.heap u d as
 |_,_,u,.non,r=>by cases(show u=Value.none from r);exact⟨_,.none⟩
 |_,_,u,.bl b,r=>by cases(show u=Value.bool b from r);exact⟨_,.bool b⟩
 |_,_,u,.int i,r=>by obtain⟨t,rfl⟩:=r;exact⟨_,.int i t⟩
 |_,_,u,.str x,r=>by obtain⟨t,rfl⟩:=r;exact⟨_,.str x t⟩
 |_,_,u,.lst (a:=a) h hs,r=>by
  cases(show u=Value.ref a from r)
  obtain⟨its,rv,p,hz⟩:=I.list h
  obtain⟨as,ra⟩:=DpAll.reads I hs rv
  obtain⟨o,e,c,n,d⟩:=p.isList
  exact⟨_,.list e c d (by simpa using ra)⟩
 |_,_,u,.tup (a:=a) h hs,r=>by
  cases(show u=Value.ref a from r)
  obtain⟨its,rv,p,hz⟩:=I.tuple h
  obtain⟨as,ra⟩:=DpAll.reads I hs rv
  obtain⟨o,e,c,n,d⟩:=p
  exact⟨_,.tuple e c d (by simpa using ra)⟩
theorem DpAll.reads(I:Inv X pins σ H s):∀{vs:List V} {ds:List PyData} {us:List Value},DpAll X.K H vs ds->cV vs us->∃as,ReadsAll s.heap us ds as
 |_,_,_,.nil,.nil=>⟨_,.nil⟩
 |_,_,_,.cons h hs,.cons r rs=>by
  obtain⟨as,ra⟩:=Dp.reads I h r
  obtain⟨bs,rb⟩:=DpAll.reads I hs rs
  exact⟨_,.cons ra rb⟩
end
end
section
variable{X:Cx}
def xc3(K:tz0)(neg:Bool):R2:=fun x y H Q=>∃d e,Dp K H x d/\Dp K H y e/\d.canLay0=true/\e.canLay0=true/\d.depth<=60/\Q (.bl (if neg then !PyData.eqv d e else PyData.eqv d e)) H
theorem yy5(hu:X.A.units+64<cLine):OpR X (compareOp .Eq) (xc3 X.K false):=by
 intro pins s σ H x y v u Q I rx ry h
 obtain⟨d,e,hx,hy,cx,cy,dz,q⟩:=h
 obtain⟨as,ra⟩:=hx.reads I rx
 obtain⟨bs,rb⟩:=hy.reads I ry
 exact SeqAt.compareEq_reads ra rb cx cy (by have:=Nat.min_le_left d.depth e.depth;omega) ⟨.bl _,H,I,rfl,q⟩
theorem yy6(hu:X.A.units+64<cLine):OpR X (compareOp .NotEq) (xc3 X.K true):=by
 intro pins s σ H x y v u Q I rx ry h
 obtain⟨d,e,hx,hy,cx,cy,dz,q⟩:=h
 obtain⟨as,ra⟩:=hx.reads I rx
 obtain⟨bs,rb⟩:=hy.reads I ry
 exact SeqAt.compareNe_reads ra rb cx cy (by have:=Nat.min_le_left d.depth e.depth;omega) ⟨.bl _,H,I,rfl,q⟩
end
theorem zk6:∀{ys:List Str},(∀y∈ys,y.cps.all (·<128)=true)->PyData.canLayAll0 (ys.map PyData.str)=true
 |[],_=>rfl
 |y::ys,h=>by
  show(PyData.canLay0 (.str y)&&PyData.canLayAll0 (ys.map PyData.str))=true
  rw [zk6 (fun z hz=>h z (List.mem_cons_of_mem _ hz)),Bool.and_true]
  show(y.cps.all (·<0x110000))=true
  rw [Array.all_eq_true]
  intro i hi
  have:=Array.all_eq_true.mp (h y List.mem_cons_self) i hi
  simp only [decide_eq_true_eq] at this|-
  omega
section
variable{prog:Program}{w:World}{A:Around}{E:Value->Shared->Prop}{s:Shared}{env:Env}
theorem zq9{l:Addr}{items:Array Value}{elts:List Expr}{k:Nat}{pos:Pos}{Q:Unit->Shared->Prop}(hh:A.handled=none)(hl:s.heap.IsList l items)(hn:(assignEach elts env).length=items.size)
  (hstar:(assignEach elts env).findIdx? (·.1)=none) (h:∀h',Heap.ExtBut s.heap.objs.size s.heap h'->wpAny (model prog w) A (assignInOrder ((assignEach elts env).map (·.2)) items.toList) Q E {s with heap:=h'}):
  wpAny (model prog w) A (assign (.Tuple elts k pos) env (.ref l)) Q E s:=by
 rw [assign_Tuple]
 refine wpAny_bind (wpAny_standAt ?_)
 unfold unpack
 rw [hn,hstar]
 exact wpAny_bind (wpAny_holding (PySem.W.kun_itemsOf hh hl h))
end
section
variable{X:Cx}{pos:Pos}
def xc4(K:tz0)(n:Nat)(t:TGs):TG:=fun v σ H Q=>∃a xs,v= .ref a/\SqL K H a xs/\xs.length=n/\t xs σ H Q
theorem yy7{es:List Expr}{k:Nat}{t:TGs}{n:Nat}(hc:X.calm=true)(h:PGs X es t)
  (hn:(assignEach es X.env).length=n:=by rfl) (hst:(assignEach es X.env).findIdx? (·.1)=none:=by rfl):PG X (.Tuple es k pos) (xc4 X.K n t):=by
 intro pins s σ H v u Q I r hw
 obtain⟨a,xs,e1,hq,hl,hw⟩:=hw
 subst e1
 cases r
 obtain⟨its,rv,ht,hz⟩:=I.list hq
 refine zq9 (I.ok.hd hc) ht.isList (by simp [hn,<-hl,rv.length]) hst fun h' hx=> ?_
 have I1:Inv X pins σ H {s with heap:=h'}:=I.kept (t':=s.toks) fun b o e=>hx b o (Nat.ne_of_lt (Heap.lt_size e)) e
 exact h pins _ σ H xs _ Q I1 (by simpa using rv) hw
end
section
variable{prog:Program}{w:World}{A:Around}{E:Value->Shared->Prop}{s:Shared}
theorem wS{t sl:Addr}{items:Array Value}{vl vu:Value}{lo hi:Option Int}{Q:Value->Shared->Prop}(ht:IsTup s.heap t items)(hs:s.heap.IsSliceOf sl vl vu .none)(pl:IsPart vl lo)(pu:IsPart vu hi)
  (hw:HT.sIx items.size 0 lo=0/\HT.sIx items.size items.size hi=items.size) (h:Q (.ref t) s):wpAny (model prog w) A (getItem (.ref t) (.ref sl)) Q E s:=by
 obtain⟨os,hos,hcs,hds⟩:=id hs
 have hTs:s.TypeIs (.ref sl) "slice":=⟨os,hos,hcs⟩
 unfold getItem
 try with_reducible refine wpAny_holding ?_
 first|refine wpAny_bind (wpAny_pure ?_)|skip
 refine wpAny_bind (wpAny_sequenceKey ht.typeIs (by decide) ?_)
 refine wpAny_bind (wpAny_callSpecial?_slot (name:=Str.ofString "__getitem__") ht.typeIs PyProof.Rows.slot_tuple_getitem
  (wpAny_call_entry PyProof.Rows.slot_tuple_getitem ht.typeIs entry_tuple_getitem ?_ (args_tuple_getitem _ _)))
 show wpAny _ _ (Builtin.Tuple.tupleItemsOf (.ref t)>>=_) _ _ s
 refine wpAny_bind (tupleItemsOf_ ht ?_)
 refine wpAny_bind (wpAny_typeOf hTs ?_)
 rw [if_pos (by decide)]
 refine wpAny_bind (HT.sliceApplied_gen hs pl pu ?_)
 show wpAny _ _ (if (((HT.sIx items.size 0 lo:Nat):Int)==0&&(1:Int)==1&&(HT.sIx items.size items.size hi-HT.sIx items.size 0 lo)==items.size)=true then _ else _) _ _ s
 rw [if_pos (by rw [hw.1,hw.2];simp)]
 refine wpAny_bind (m:=Builtin.Tuple.tupleIsExact _) ?_
 unfold Builtin.Tuple.tupleIsExact
 refine wpAny_bind (wpAny_typeOf ht.typeIs (wpAny_pure ?_))
 rw [if_pos (by decide)]
 exact wpAny_bind (wpAny_rule (wpAny_pure ⟨_,rfl,wpAny_pure h⟩))
end
section
variable{X:Cx}
def xi8(K:tz0):V->Option Int->Option Int->Hp->VK->Prop:=fun x lo hi H Q=>∃a xs,x= .ref a/\SqT K H a xs/\
 (HT.sIx xs.length 0 lo=0/\HT.sIx xs.length xs.length hi=xs.length->Q (.ref a) H)/\∀p,H p=none->Q (.ref p) (upd H p (.tup (uH xs lo hi)))
theorem yr5:SlR X (xi8 X.K):=by
 intro pins s σ H x v vl vu lo hi sl Q I rx hs pl pu h
 obtain⟨a,xs,rfl,hx,q1,q2⟩:=h
 by_cases hw:HT.sIx xs.length 0 lo=0/\HT.sIx xs.length xs.length hi=xs.length
 ·cases rx
  obtain⟨its,r,ht,hz⟩:=I.tuple hx
  have hlen:its.toArray.size=xs.length:=by rw [List.size_toArray];exact r.length.symm
  refine⟨"tuple",_,PyProof.Rows.slot_tuple_getitem.lookup,ht.typeIs,?_⟩
  exact wS ht hs pl pu (by rw [hlen];exact hw) ⟨.ref a,H,I,rfl,q1 hw⟩
 ·exact yx7 pins s σ H _ v vl vu lo hi sl Q I rx hs pl pu ⟨a,xs,rfl,hx,hw,q2⟩
end
inductive AreC:List Expr->List V->Prop
 |nil:AreC [] []
 |int {i:Int} {j:Nat} {pos:Pos} {es:List Expr} {vs:List V}:AreC es vs->AreC (.Constant (.int i) j pos::es) (.int i::vs)
 |str {x:Str} {j:Nat} {pos:Pos} {es:List Expr} {vs:List V}:AreC es vs->AreC (.Constant (.str x) j pos::es) (.str x::vs)
 |bl {b:Bool} {j:Nat} {pos:Pos} {es:List Expr} {vs:List V}:AreC es vs->AreC (.Constant (.bool b) j pos::es) (.bl b::vs)
 |non {j:Nat} {pos:Pos} {es:List Expr} {vs:List V}:AreC es vs->AreC (.Constant .none j pos::es) (.non::vs)
def zS(vs:List V):TA:=fun _ H Q=>Q vs H
theorem yd9{X:Cx}{es:List Expr}{vs:List V}(h:AreC es vs):PA X es (zS vs):=by
 induction h with
 |nil=>exact kY
 |int _ ih=>exact fun pos pins s σ H Q I q=>gD (t:=zS _) jY ih rfl pos pins s σ H Q I q
 |str _ ih=>exact fun pos pins s σ H Q I q=>gD (t:=zS _) yb3 ih rfl pos pins s σ H Q I q
 |bl _ ih=>exact fun pos pins s σ H Q I q=>gD (t:=zS _) yo6 ih rfl pos pins s σ H Q I q
 |non _ ih=>exact fun pos pins s σ H Q I q=>gD (t:=zS _) yb2 ih rfl pos pins s σ H Q I q
set_option genInjectivity true in
inductive D where
 |non|bl (b:Bool)|int (i:Int)|str (x:Str)|ty (n:String)
 |tup (xs:List D)|con (xs:List D)|lst (o:Bool) (xs:List D)|dic (o:Bool) (ks:List Key) (vs:List D)|obj (o:Bool) (C:Str) (ns:List Str) (vs:List D)
mutual
def D.imm:D->Bool
 | .tup xs=>D.imms xs
 | .con xs=>D.imms xs
 | .lst o xs=> !o&&D.imms xs
 | .dic o _ vs=> !o&&D.imms vs
 | .obj o _ _ vs=> !o&&D.imms vs
 |_=>true
def D.imms:List D->Bool
 |[]=>true
 |d::ds=>d.imm&&D.imms ds
end
def kd:HO->Bool
 | .lst _=>true
 | .tup _=>true
 | .dK _=>true
 | .ins _ _ _=>true
 | .frz _ _=>true
 | .xd _=>true
 |_=>false
def tf:HO->Bool
 | .tup _=>true
 | .frz _ _=>true
 |_=>false
theorem nK{o:HO}(h:tf o=true):kd o=true:=by cases o<;>first|rfl|cases h
def SqF(K:tz0)(H:Hp)(a:Addr)(xs:List V):Prop:=(∃o,H a=some (.frz o (.lst xs)))\/
 ∃(o:Obj) (its:Array Value) (n:Nat),K.lookup a=some o/\o.cls= .type "list"/\o.dict=none/\o.data= .seq its n/\its.size<=sizeLine/\cV xs its.toList
mutual
inductive Rep(K:tz0)(κ:tz9)(H:Hp):V->D->List Addr->Prop
 |non:Rep K κ H .non .non []
 |bl (b:Bool):Rep K κ H (.bl b) (.bl b) []
 |int (i:Int):Rep K κ H (.int i) (.int i) []
 |str (x:Str):Rep K κ H (.str x) (.str x) []
 |ty (n:String):Rep K κ H (.ty n) (.ty n) []
 |tup {a:Addr} {vs:List V} {ds:List D}:SqT K H a vs->Reps K κ H vs ds []->Rep K κ H (.ref a) (.tup ds) []
 |con {a:Addr} {vs:List V} {ds:List D}:SqF K H a vs->Reps K κ H vs ds []->Rep K κ H (.ref a) (.con ds) []
 |lst {a:Addr} {vs:List V} {ds:List D} {fp:List Addr}:H a=some (.lst vs)->Reps K κ H vs ds fp->Rep K κ H (.ref a) (.lst true ds) (a::fp)
 |lstF {a:Addr} {o:Obj} {vs:List V} {ds:List D}:H a=some (.frz o (.lst vs))->Reps K κ H vs ds []->Rep K κ H (.ref a) (.lst false ds) []
 |dic {a:Addr} {kvs:List (Key×V)} {ks:List Key} {ds:List D} {fp:List Addr}:H a=some (.dK kvs)->kvs.map (·.1)=ks->Reps K κ H (kvs.map (·.2)) ds fp->Rep K κ H (.ref a) (.dic true ks ds) (a::fp)
 |dicF {a:Addr} {o:Obj} {kvs:List (Key×V)} {ks:List Key} {ds:List D}:H a=some (.frz o (.dK kvs))->kvs.map (·.1)=ks->Reps K κ H (kvs.map (·.2)) ds []->Rep K κ H (.ref a) (.dic false ks ds) []
 |obj {a dx:Addr} {C:Str} {fs:List (Str×V)} {ns:List Str} {ds:List D} {fp:List Addr}:H a=some (.ins (κ C) dx fs)->fs.map (·.1)=ns->Reps K κ H (fs.map (·.2)) ds fp->Rep K κ H (.ref a) (.obj true C ns ds) (a::fp)
 |objF {a dx:Addr} {o:Obj} {C:Str} {fs:List (Str×V)} {ns:List Str} {ds:List D}:H a=some (.frz o (.ins (κ C) dx fs))->fs.map (·.1)=ns->Reps K κ H (fs.map (·.2)) ds []->Rep K κ H (.ref a) (.obj false C ns ds) []
inductive Reps(K:tz0)(κ:tz9)(H:Hp):List V->List D->List Addr->Prop
 |nil:Reps K κ H [] [] []
 |cons {v:V} {vs:List V} {d:D} {ds:List D} {f g:List Addr}:Rep K κ H v d f->Reps K κ H vs ds g->Reps K κ H (v::vs) (d::ds) (f++g)
end
section
variable{K:tz0}{κ:tz9}{H H':Hp}
theorem SqT.tf(t:∀a o,H a=some o->tf o=true->H' a=some o){a:Addr}{xs:List V}(h:SqT K H a xs):SqT K H' a xs:=by
 rcases h with (h|⟨o,h⟩)|h
 ·exact .inl (.inl (t _ _ h rfl))
 ·exact .inl (.inr ⟨o,t _ _ h rfl⟩)
 ·exact .inr h
theorem SqF.tf(t:∀a o,H a=some o->tf o=true->H' a=some o){a:Addr}{xs:List V}(h:SqF K H a xs):SqF K H' a xs:=h.elim (fun⟨o,h⟩=> .inl ⟨o,t _ _ h rfl⟩) .inr
theorem SqF.l{a:Addr}{xs:List V}(h:SqF K H a xs):SqL K H a xs:=h.elim (fun⟨o,h⟩=> .inl (.inr ⟨o,h⟩)) .inr
theorem jK{P:Addr->Prop}:∀a∈([]:List Addr),P a:=fun _ h=>nomatch h
theorem Reps.move(t:∀a o,H a=some o->tf o=true->H' a=some o){vs:List V}{ds:List D}{fp:List Addr}(h:Reps K κ H vs ds fp):(∀a∈fp,H' a=H a)->Reps K κ H' vs ds fp:=
 Reps.rec (motive_1:=fun v d fp _=>(∀a∈fp,H' a=H a)->Rep K κ H' v d fp) (motive_2:=fun vs ds fp _=>(∀a∈fp,H' a=H a)->Reps K κ H' vs ds fp)
  (fun _=> .non) (fun b _=> .bl b) (fun b _=> .int b) (fun b _=> .str b) (fun b _=> .ty b) (fun h _ ih _=> .tup (h.tf t) (ih jK)) (fun h _ ih _=> .con (h.tf t) (ih jK))
  (fun h _ ih k=> .lst ((k _ List.mem_cons_self).trans h) (ih fun a ha=>k a (List.mem_cons_of_mem _ ha))) (fun h _ ih _=> .lstF (t _ _ h rfl) (ih jK))
  (fun h e _ ih k=> .dic ((k _ List.mem_cons_self).trans h) e (ih fun a ha=>k a (List.mem_cons_of_mem _ ha))) (fun h e _ ih _=> .dicF (t _ _ h rfl) e (ih jK))
  (fun h e _ ih k=> .obj ((k _ List.mem_cons_self).trans h) e (ih fun a ha=>k a (List.mem_cons_of_mem _ ha))) (fun h e _ ih _=> .objF (t _ _ h rfl) e (ih jK))
  (fun _=> .nil) (fun _ _ i1 i2 k=> .cons (i1 fun a ha=>k a (List.mem_append_left _ ha)) (i2 fun a ha=>k a (List.mem_append_right _ ha))) h
theorem Reps.nil_fp{vs:List V}{fp:List Addr}(h:Reps K κ H vs [] fp):vs=[]/\fp=[]:=by cases h;exact⟨rfl,rfl⟩
theorem Reps.one_inv{vs:List V}{d:D}{fp:List Addr}(r:Reps K κ H vs [d] fp):∃v,vs=[v]/\Rep K κ H v d fp:=by
 cases r with
 |cons h hs=>
  obtain⟨rfl,rfl⟩:=hs.nil_fp
  exact⟨_,rfl,by rw [List.append_nil];exact h⟩
theorem Reps.one{v:V}{d:D}{f:List Addr}(h:Rep K κ H v d f):Reps K κ H [v] [d] f:=by have:=Reps.cons h (Reps.nil (K:=K) (κ:=κ) (H:=H));rwa [List.append_nil] at this
theorem Rep.move(t:∀a o,H a=some o->tf o=true->H' a=some o){v:V}{d:D}{fp:List Addr}(h:Rep K κ H v d fp)(k:∀a∈fp,H' a=H a):Rep K κ H' v d fp:=by
 obtain⟨u,e,r⟩:=((Reps.one h).move t k).one_inv
 cases e;exact r
theorem Reps.own{vs:List V}{ds:List D}{fp:List Addr}(h:Reps K κ H vs ds fp):∀a∈fp,∃o,H a=some o/\kd o=true/\tf o=false:=
 Reps.rec (motive_1:=fun _ _ fp _=>∀a∈fp,∃o,H a=some o/\kd o=true/\tf o=false) (motive_2:=fun _ _ fp _=>∀a∈fp,∃o,H a=some o/\kd o=true/\tf o=false)
  jK (fun _=>jK) (fun _=>jK) (fun _=>jK) (fun _=>jK) (fun _ _ _=>jK) (fun _ _ _=>jK)
  (fun h _ ih a ha=>(List.mem_cons.mp ha).elim (fun e=>e▸⟨_,h,rfl,rfl⟩) (ih a)) (fun _ _ _=>jK)
  (fun h _ _ ih a ha=>(List.mem_cons.mp ha).elim (fun e=>e▸⟨_,h,rfl,rfl⟩) (ih a)) (fun _ _ _ _=>jK)
  (fun h _ _ ih a ha=>(List.mem_cons.mp ha).elim (fun e=>e▸⟨_,h,rfl,rfl⟩) (ih a)) (fun _ _ _ _=>jK)
  jK (fun _ _ i1 i2 a ha=>(List.mem_append.mp ha).elim (i1 a) (i2 a)) h
theorem Rep.own{v:V}{d:D}{fp:List Addr}(h:Rep K κ H v d fp):∀a∈fp,∃o,H a=some o/\kd o=true/\tf o=false:=(Reps.one h).own
theorem Rep.imm{v:V}{d:D}{fp:List Addr}(h:Rep K κ H v d fp)(e:d.imm=true):fp=[]:=by
 cases h<;>first|rfl|exact nomatch e
theorem Reps.imm:∀{vs:List V} {ds:List D} {fp:List Addr},Reps K κ H vs ds fp->D.imms ds=true->fp=[]
 |_,_,_,.nil,_=>rfl
 |_,_,_,.cons h hs,e=>by
  rw [D.imms,Bool.and_eq_true] at e
  rw [h.imm e.1,Reps.imm hs e.2];rfl
theorem Reps.length:∀{vs:List V} {ds:List D} {fp:List Addr},Reps K κ H vs ds fp->vs.length=ds.length
 |_,_,_,.nil=>rfl
 |_,_,_,.cons _ hs=>by rw [List.length_cons,List.length_cons,Reps.length hs]
theorem Reps.get:∀{vs:List V} {ds:List D} {fp:List Addr} {i:Nat} {d:D},Reps K κ H vs ds fp->ds[i]? =some d->∃v f,vs[i]? =some v/\Rep K κ H v d f/\∀a∈f,a∈fp
 |_,_,_,_,_,.nil,e=>by simp at e
 |_,_,_,0,_,.cons h _,e=>by simp at e;subst e;exact⟨_,_,rfl,h,fun a ha=>List.mem_append_left _ ha⟩
 |_,_,_,i+1,_,.cons _ hs,e=>by
  obtain⟨v,f,h1,h2,h3⟩:=Reps.get (i:=i) hs (by simpa using e)
  exact⟨v,f,by simpa using h1,h2,fun a ha=>List.mem_append_right _ (h3 a ha)⟩
theorem Reps.append:∀{vs:List V} {ds:List D} {f:List Addr} {us:List V} {es:List D} {g:List Addr},Reps K κ H vs ds f->Reps K κ H us es g->Reps K κ H (vs++us) (ds++es) (f++g)
 |_,_,_,_,_,_,.nil,r=>r
 |_,_,_,_,_,_,.cons h hs,r=>by rw [List.append_assoc];exact .cons h (Reps.append hs r)
theorem Reps.split:∀{vs:List V} {d:D} {ds:List D} {fp:List Addr},Reps K κ H vs (d::ds) fp->∃v us f g,vs=v::us/\Rep K κ H v d f/\Reps K κ H us ds g/\fp=f++g
 |_,_,_,_,.cons h hs=>⟨_,_,_,_,rfl,h,hs,rfl⟩
theorem Reps.nilp:∀{vs:List V} {ds:List D},Reps K κ H vs ds []->Paired (fun v d=>Rep K κ H v d []) vs ds:=by
 intro vs ds h
 generalize e:([]:List Addr)=fp at h
 induction h using Reps.rec (motive_1:=fun _ _ _ _=>True) with
 |nil=>exact .nil
 |cons h hs _ ih=>
  obtain⟨e1,e2⟩:=List.append_eq_nil_iff.mp e.symm
  subst e1;subst e2
  exact .cons h (ih rfl)
 |_=>trivial
theorem Reps.ofp:∀{vs:List V} {ds:List D},Paired (fun v d=>Rep K κ H v d []) vs ds->Reps K κ H vs ds []
 |_,_,.nil=> .nil
 |_,_,.cons h hs=> .cons (f:=[]) (g:=[]) h (Reps.ofp hs)
end
theorem Paired.takeN{α β:Type}{R:α->β->Prop}:∀{l₁:List α} {l₂:List β} (n:Nat),Paired R l₁ l₂->Paired R (l₁.take n) (l₂.take n)
 |_,_,0,_=> .nil
 |_,_,_+1,.nil=> .nil
 |_,_,n+1,.cons h t=> .cons h (Paired.takeN n t)
theorem Paired.dropN{α β:Type}{R:α->β->Prop}:∀{l₁:List α} {l₂:List β} (n:Nat),Paired R l₁ l₂->Paired R (l₁.drop n) (l₂.drop n)
 |_,_,0,r=>r
 |_,_,_+1,.nil=> .nil
 |_,_,n+1,.cons _ t=>Paired.dropN n t
theorem Paired.app{α β:Type}{R:α->β->Prop}:∀{l₁:List α} {l₂:List β} {m₁:List α} {m₂:List β},Paired R l₁ l₂->Paired R m₁ m₂->Paired R (l₁++m₁) (l₂++m₂)
 |_,_,_,_,.nil,r=>r
 |_,_,_,_,.cons h t,r=> .cons h (Paired.app t r)
theorem Paired.rev{α β:Type}{R:α->β->Prop}:∀{l₁:List α} {l₂:List β},Paired R l₁ l₂->Paired R l₁.reverse l₂.reverse
 |_,_,.nil=> .nil
 |_,_,.cons h t=>by rw [List.reverse_cons,List.reverse_cons];exact Paired.app (Paired.rev t) (.cons h .nil)
theorem Paired.repl{α β:Type}{R:α->β->Prop}{l₁:List α}{l₂:List β}(r:Paired R l₁ l₂):∀k:Nat,Paired R (List.replicate k l₁).flatten (List.replicate k l₂).flatten
 |0=> .nil
 |k+1=>by rw [List.replicate_succ,List.replicate_succ,List.flatten_cons,List.flatten_cons];exact Paired.app r (Paired.repl r k)
structure SameK(H H':Hp):Prop where
 keep:∀a o,H a=some o->kd o=true->H' a=some o
 grow:∀a,H' a=none->H a=none
theorem SameK.refl(H:Hp):SameK H H:=⟨fun _ _ h _=>h,fun _ h=>h⟩
theorem SameK.trans{H H1 H2:Hp}(a:SameK H H1)(b:SameK H1 H2):SameK H H2:=⟨fun c o h k=>b.keep c o (a.keep c o h k) k,fun c h=>a.grow c (b.grow c h)⟩
theorem SameK.of{H H':Hp}(h:zz8 H H'):SameK H H':=⟨fun a o e _=>h a o e,fun a e=>h.free e⟩
theorem SameK.new{H:Hp}{p:Addr}(h:H p=none)(o:HO):SameK H (upd H p o):= .of (yk4 h o)
section
variable{K:tz0}{κ:tz9}{H H':Hp}
theorem Rep.same(e:SameK H H'){v:V}{d:D}{fp:List Addr}(r:Rep K κ H v d fp):Rep K κ H' v d fp:=
 r.move (fun a o h t=>e.keep a o h (nK t)) fun a ha=>by obtain⟨o,h,k,_⟩:=r.own a ha;rw [h];exact e.keep a o h k
theorem Reps.same(e:SameK H H'){v:List V}{d:List D}{fp:List Addr}(r:Reps K κ H v d fp):Reps K κ H' v d fp:=
 r.move (fun a o h t=>e.keep a o h (nK t)) fun a ha=>by obtain⟨o,h,k,_⟩:=r.own a ha;rw [h];exact e.keep a o h k
end
theorem PE.imp{X:Cx}{e:Expr}{t t':TE}(h:PE X e t)(k:∀σ H Q,t' σ H Q->t σ H Q):PE X e t':=fun pins s σ H Q I q=>h pins s σ H Q I (k σ H Q q)
theorem PT.imp{X:Cx}{e:Expr}{t t':TT}(h:PT X e t)(k:∀σ H Q,t' σ H Q->t σ H Q):PT X e t':=fun pins s σ H Q I q=>h pins s σ H Q I (k σ H Q q)
theorem PW.imp{X:Cx}{e:Expr}{t t':TT}(h:PW X e t)(k:∀σ H Q,t' σ H Q->t σ H Q):PW X e t':=fun wh pins s σ H Q I q=>h wh pins s σ H Q I (k σ H Q q)
theorem PA.imp{X:Cx}{e:List Expr}{t t':TA}(h:PA X e t)(k:∀σ H Q,t' σ H Q->t σ H Q):PA X e t':=fun pos pins s σ H Q I q=>h pos pins s σ H Q I (k σ H Q q)
theorem PS.imp{X:Cx}{st:Stmt}{t t':TS}(h:PS X st t)(k:∀D σ H,t' D σ H->t D σ H):PS X st t':=fun pins s σ H D I q=>h pins s σ H D I (k D σ H q)
theorem PSs.imp{X:Cx}{st:List Stmt}{t t':TS}(h:PSs X st t)(k:∀D σ H,t' D σ H->t D σ H):PSs X st t':=fun pins s σ H D I q=>h pins s σ H D I (k D σ H q)
abbrev PSt:=List (Option D)
abbrev _root_.tz7:=List D->Option (D×List D)
abbrev _root_.tz8:=PSt->Option (D×PSt)
abbrev _root_.tz3:=PSt->Option (List D)
abbrev _root_.tz4:=PSt->Option Bool
abbrev _root_.tz6:=List D->Option D
abbrev _root_.tz2:=PSt->Option D
abbrev _root_.tz5:=PSt->Bool
def WS(K:tz0)(κ:tz9)(H:Hp)(σ:St)(ps:PSt):Prop:=∀(i:Nat) (d:D),ps[i]? =some (some d)->∃v fp,σ[i]? =some (some v)/\Rep K κ H v d fp
theorem WS.same{K:tz0}{κ:tz9}{H H':Hp}{σ:St}{ps:PSt}(w:WS K κ H σ ps)(e:SameK H H'):WS K κ H' σ ps:=fun i d h=>by
 obtain⟨v,fp,h1,h2⟩:=w i d h
 exact⟨v,fp,h1,h2.same e⟩
def mL(K:tz0)(κ:tz9)(H:Hp)(d:D)(Q:VK):Prop:=∀v H' fv,SameK H H'->(∀a∈fv,H a=none)->fv.Nodup->Rep K κ H' v d fv->Q v H'
def xc5(K:tz0)(κ:tz9)(H:Hp)(d:D)(Q:VK):Prop:=∀v H' fp,SameK H H'->Rep K κ H' v d fp->Q v H'
def tV(K:tz0)(κ:tz9)(f:tz2):TE:=fun σ H Q=>∃ps d,WS K κ H σ ps/\f ps=some d/\xc5 K κ H d Q
def tP(K:tz0)(κ:tz9)(f:tz2):TE:=fun σ H Q=>∃ps d,WS K κ H σ ps/\f ps=some d/\mL K κ H d Q
def tQ(K:tz0)(κ:tz9)(f:tz4):TT:=fun σ H Q=>∃ps b,WS K κ H σ ps/\f ps=some b/\∀H',SameK H H'->Q b H'
def tVA(K:tz0)(κ:tz9)(f:tz3):TA:=fun σ H Q=>∃ps ds,WS K κ H σ ps/\f ps=some ds/\∀vs H' fp,SameK H H'->Reps K κ H' vs ds fp->Q vs H'
def tPA(K:tz0)(κ:tz9)(f:tz3):TA:=fun σ H Q=>∃ps ds,WS K κ H σ ps/\f ps=some ds/\∀vs H' fv,SameK H H'->(∀a∈fv,H a=none)->fv.Nodup->Reps K κ H' vs ds fv->Q vs H'
abbrev QV(X:Cx)(κ:tz9)(e:Expr)(f:tz2):Prop:=PE X e (tV X.K κ f)
abbrev QP(X:Cx)(κ:tz9)(e:Expr)(f:tz2):Prop:=PE X e (tP X.K κ f)
abbrev QT(X:Cx)(κ:tz9)(e:Expr)(f:tz4):Prop:=PT X e (tQ X.K κ f)
abbrev QW(X:Cx)(κ:tz9)(e:Expr)(f:tz4):Prop:=PW X e (tQ X.K κ f)
abbrev QVA(X:Cx)(κ:tz9)(es:List Expr)(f:tz3):Prop:=PA X es (tVA X.K κ f)
abbrev QPA(X:Cx)(κ:tz9)(es:List Expr)(f:tz3):Prop:=PA X es (tPA X.K κ f)
theorem mL.see{K:tz0}{κ:tz9}{H:Hp}{d:D}{Q:VK}(h:xc5 K κ H d Q):mL K κ H d Q:=fun v H' fv s _ _ r=>h v H' fv s r
theorem mL.after{K:tz0}{κ:tz9}{H H1:Hp}{d:D}{Q:VK}(h:mL K κ H d Q)(s:SameK H H1):mL K κ H1 d Q:=
 fun v H' fv s' n nd r=>h v H' fv (s.trans s') (fun a ha=>s.grow a (n a ha)) nd r
theorem mL.now{K:tz0}{κ:tz9}{H:Hp}{d:D}{Q:VK}{v:V}(h:mL K κ H d Q)(r:Rep K κ H v d []):Q v H:=h v H [] (.refl H) (fun _ h=>absurd h (by simp)) List.nodup_nil r
theorem mL.at{K:tz0}{κ:tz9}{H:Hp}{d:D}{Q:VK}{p:Addr}{o:HO}{fv:List Addr}(h:mL K κ H d Q)(hp:H p=none)(hn:∀a∈fv,H a=none)(nd:fv.Nodup)(r:Rep K κ (upd H p o) (.ref p) d fv):Q (.ref p) (upd H p o):=
 h _ _ fv (.new hp o) hn nd r
section
variable{X:Cx}{κ:tz9}{e a b:Expr}{f fa fb:tz2}
theorem QP.v(h:QP X κ e f):QV X κ e f:=h.imp fun _ _ _ ⟨ps,d,w,e,q⟩=>⟨ps,d,w,e,.see q⟩
def bC(f:tz2):tz2:=fun ps=>(f ps).bind fun d=>if d.imm=true then some d else none
theorem QV.p(h:QV X κ e f):QP X κ e (bC f):=h.imp fun σ H Q hh_=>by
 obtain⟨ps,d,w,e,q⟩:=hh_
 unfold bC at e
 cases e1:f ps with
 |none=>rw [e1] at e;cases e
 | some d1=>
  rw [e1] at e
  by_cases hi:d1.imm=true
  ·have e2:d1=d:=by simpa [hi] using e
   subst e2
   refine⟨ps,d1,w,e1,fun v H' fp s r=> ?_⟩
   have:=r.imm hi;subst this
   exact q v H' [] s (fun _ h=>absurd h (by simp)) List.nodup_nil r
  ·simp [hi] at e
def aB(i:Nat):tz2:=fun ps=>(ps[i]?).join
theorem aD(i:Nat){x:Str}{pos:Pos}(hN:X.N[i]? =some x:=by rfl)(hv:Vis X.env.scope x:=by first|exact Or.inl rfl|exact Or.inr (Or.inl rfl)|exact Or.inr (Or.inr rfl))(hd:(x==("__debug__":Str))=false:=by decide)
  (hcd:(x==("__classdict__":Str))=false:=by decide):QV X κ (.Name x pos) (aB i):=(jX hN hv hd hcd).imp fun σ H Q hh_=>by
 obtain⟨ps,d,w,e,q⟩:=hh_
 have e':ps[i]? =some (some d):=by
  unfold aB at e
  cases q:ps[i]? with
  |none=>rw [q] at e;cases e
  |some o=>rw [q] at e;exact congrArg some e
 obtain⟨v,fp,h1,h2⟩:=w i d e'
 exact⟨v,h1,q v H fp (.refl H) h2⟩
def fC(d:D):tz2:=fun _=>some d
theorem aN{i j pos}:QP X κ (.Constant (.int i) j pos) (fC (.int i)):=jY.imp fun σ H Q ⟨ps,d,w,e,q⟩=>by cases e;exact q _ H [] (.refl H) (fun _ h=>absurd h (by simp)) List.nodup_nil (.int i)
theorem cJ{x j pos}:QP X κ (.Constant (.str x) j pos) (fC (.str x)):=yb3.imp fun σ H Q ⟨ps,d,w,e,q⟩=>by cases e;exact q _ H [] (.refl H) (fun _ h=>absurd h (by simp)) List.nodup_nil (.str x)
theorem nZ{b j pos}:QP X κ (.Constant (.bool b) j pos) (fC (.bl b)):=yo6.imp fun σ H Q ⟨ps,d,w,e,q⟩=>by cases e;exact q _ H [] (.refl H) (fun _ h=>absurd h (by simp)) List.nodup_nil (.bl b)
theorem zk7{j pos}:QP X κ (.Constant .none j pos) (fC .non):=yb2.imp fun σ H Q ⟨ps,d,w,e,q⟩=>by cases e;exact q _ H [] (.refl H) (fun _ h=>absurd h (by simp)) List.nodup_nil .non
theorem nR{x:Str}{v:V}{u:Value}{d:D}{pos:Pos}(hg:Gl X x)(hm:X.mg x=some u)(r:dQ v u)(hd:∀H,Rep X.K κ H v d [])(hdb:(x==("__debug__":Str))=false:=by decide):QP X κ (.Name x pos) (fC d):=
 (nQ hg hm r hdb).imp fun σ H Q ⟨ps,d,w,e,q⟩=>by cases e;exact q _ H [] (.refl H) (fun _ h=>absurd h (by simp)) List.nodup_nil (hd H)
theorem qZ{x:Str}{n:String}{pos:Pos}(hg:Gl X x)(hm:X.mg x=none)(hv:bootBuiltins x=some (.type n))(hn:x≠"__name__":=by decide)(hd:(x==("__debug__":Str))=false:=by decide):QP X κ (.Name x pos) (fC (.ty n)):=
 (vQ (v:= .ty n) hg hm hv rfl hn hd).imp fun σ H Q ⟨ps,d,w,e,q⟩=>by cases e;exact q _ H [] (.refl H) (fun _ h=>absurd h (by simp)) List.nodup_nil (.ty n)
def f2(g:D->D->Option D)(fa fb:tz2):tz2:=fun ps=>(fa ps).bind fun x=>(fb ps).bind fun y=>g x y
def POp(K:tz0)(κ:tz9)(g:D->D->Option D):R2:=fun x y H Q=>∃dx dy d fx fy,Rep K κ H x dx fx/\Rep K κ H y dy fy/\g dx dy=some d/\mL K κ H d Q
theorem rX{g:D->D->Option D}{fa fb:tz2}{ps:PSt}{d:D}(h:f2 g fa fb ps=some d):∃x y,fa ps=some x/\fb ps=some y/\g x y=some d:=by
 unfold f2 at h
 cases e1:fa ps with
 |none=>rw [e1] at h;cases h
 |some x=>
  rw [e1] at h
  cases e2:fb ps with
  |none=>rw [e2] at h;cases h
  |some y=>rw [e2] at h;exact⟨x,y,rfl,rfl,h⟩
theorem zk8{r:R2}{g:D->D->Option D}{σ:St}{H:Hp}{Q:VK}(hr:∀x y H Q,POp X.K κ g x y H Q->r x y H Q)(h:tP X.K κ (f2 g fa fb) σ H Q):tOp r (tV X.K κ fa) (tV X.K κ fb) σ H Q:=by
 obtain⟨ps,d,w,e,q⟩:=h
 obtain⟨x,y,e1,e2,e3⟩:=rX e
 exact⟨ps,x,w,e1,fun v H1 fp s1 r1=>⟨ps,y,w.same s1,e2,fun u H2 fq s2 r2=>hr _ _ _ _ ⟨x,y,d,fp,fq,r1.same s2,r2,e3,q.after (s1.trans s2)⟩⟩⟩
theorem cK{op:Operator}{g:D->D->Option D}{pos:Pos}(ho:OpR X (binaryOp op) (POp X.K κ g))(ha:QV X κ a fa)(hb:QV X κ b fb):QP X κ (.BinOp a op b pos) (f2 g fa fb):=
 (jA ho ha hb).imp fun _ _ _ h=>zk8 (fun _ _ _ _ h=>h) h
theorem mG{op:CmpOp}{g:D->D->Option D}{pos:Pos}(ho:OpR X (compareOp op) (POp X.K κ g))(ha:QV X κ a fa)(hb:QV X κ b fb)(hm:behindInMarks op b=false):QP X κ (.Compare a [op] [b] pos) (f2 g fa fb):=
 (yq2 ho ha hb hm).imp fun _ _ _ h=>zk8 (fun _ _ _ _ h=>h) h
def dB:D->Option Bool
 | .bl b=>some b
 |_=>none
def fB(f:tz2):tz4:=fun ps=>(f ps).bind dB
theorem yr6{f:tz2}{ps:PSt}{b:Bool}(h:fB f ps=some b):f ps=some (.bl b):=by
 unfold fB at h
 cases e:f ps with
 |none=>rw [e] at h;cases h
 |some d=>rw [e] at h;cases d<;>first|(cases h;rfl)|cases h
theorem Rep.is_bl{K:tz0}{H:Hp}{v:V}{b:Bool}{fp:List Addr}(r:Rep K κ H v (.bl b) fp):v= .bl b:=by cases r;rfl
theorem Rep.is_int{K:tz0}{H:Hp}{v:V}{b:Int}{fp:List Addr}(r:Rep K κ H v (.int b) fp):v= .int b:=by cases r;rfl
theorem Rep.is_str{K:tz0}{H:Hp}{v:V}{b:Str}{fp:List Addr}(r:Rep K κ H v (.str b) fp):v= .str b:=by cases r;rfl
theorem dC{op:CmpOp}{g:D->D->Option D}{pos:Pos}(ho:OpR X (compareOp op) (POp X.K κ g))(ha:QV X κ a fa)(hb:QV X κ b fb)(hm:behindInMarks op b=false):QT X κ (.Compare a [op] [b] pos) (fB (f2 g fa fb)):=
 (zs8 ho ha hb hm).imp fun σ H Q ⟨ps,c,w,e,q⟩=>zk8 (Q:=fun x H'=>∃k,x= .bl k/\Q k H') (fun _ _ _ _ h=>h) ⟨ps,_,w,yr6 e,fun v H' fv s _ _ r=>⟨c,r.is_bl,q H' s⟩⟩
def f3(g g':D->D->Option D)(fa fb fc:tz2):tz2:=fun ps=>(fa ps).bind fun x=>(fb ps).bind fun y=>(g x y).bind fun k=>match k with
 | .bl true=>(fc ps).bind fun z=>g' y z
 | .bl false=>some (.bl false)
 |_=>none
def bG:D->Option Bool
 | .non=>some false
 | .bl b=>some b
 | .int i=>some (i !=0)
 | .str y=>if y.length<=sizeLine then some ((y.length:Int) !=0) else none
 | .lst _ xs=>some (!xs.isEmpty)
 | .tup xs=>some (!xs.isEmpty)
 | .con xs=>some (!xs.isEmpty)
 |_=>none
theorem oA{K:tz0}{H:Hp}{vs:List V}{ds:List D}{fp:List Addr}(r:Reps K κ H vs ds fp):ds.isEmpty=vs.isEmpty:=by cases r<;>rfl
theorem yr7{K:tz0}{H:Hp}{v:V}{d:D}{fp:List Addr}{b:Bool}(r:Rep K κ H v d fp)(h:bG d=some b):yn9 K v H b:=by
 cases r with
 |non=>cases h;rfl
 |bl b=>cases h;rfl
 |int i=>cases h;rfl
 |str x=>
  rw [bG] at h
  split at h
  ·cases h;exact⟨by assumption,rfl⟩
  ·cases h
 |tup s rs=>cases h;exact .inr (.inl ⟨_,s,by rw [oA rs]⟩)
 |con s rs=>cases h;exact .inl ⟨_,s.l,by rw [oA rs]⟩
 |lst s rs=>cases h;exact .inl ⟨_,.inl (.inl s),by rw [oA rs]⟩
 |lstF s rs=>cases h;exact .inl ⟨_,.inl (.inr ⟨_,s⟩),by rw [oA rs]⟩
 |_=>cases h
def fT(f:tz2):tz4:=fun ps=>(f ps).bind bG
theorem yr8{f:tz2}{ps:PSt}{b:Bool}(h:fT f ps=some b):∃d,f ps=some d/\bG d=some b:=by
 unfold fT at h
 cases e:f ps with
 |none=>rw [e] at h;cases h
 |some d=>rw [e] at h;exact⟨d,rfl,h⟩
theorem nE(ha:QV X κ a fa)(he:∀whole,isTrue a X.env whole=(do let v<-whole;standAt a.pos;holding [v] (truthy v)):=by intro _;rfl):QT X κ a (fT fa):=
 (yj3 ha he).imp fun σ H Q hh_=>by
  obtain⟨ps,c,w,e,q⟩:=hh_
  obtain⟨d,e1,e2⟩:=yr8 e
  exact⟨ps,d,w,e1,fun v H' fp s r=>⟨c,yr7 r e2,q H' s⟩⟩
def bB(f g:tz4):tz4:=fun ps=>(f ps).bind fun c=>if c=true then g ps else some false
def bM(f g:tz4):tz4:=fun ps=>(f ps).bind fun c=>if c=true then some true else g ps
def aP(f:tz4):tz4:=fun ps=>(f ps).map (!·)
variable{pos:Pos}{bY:List Expr}{ta tb:tz4}
theorem nS(ha:QT X κ a ta):QW X κ (.BoolOp .And [a] pos) ta:=yq1 ha
theorem qH(ha:QT X κ a ta):QW X κ (.BoolOp .Or [a] pos) ta:=zj7 ha
theorem nF(ha:QT X κ a ta)(hb:QW X κ (.BoolOp .And (b::bY) pos) tb):QW X κ (.BoolOp .And (a::b::bY) pos) (bB ta tb):=
 (yw3 ha hb).imp fun σ H Q hh_=>by
  obtain⟨ps,c,w,e,q⟩:=hh_
  unfold bB at e
  cases e1:ta ps with
  |none=>rw [e1] at e;cases e
  | some k=>
   rw [e1] at e
   refine⟨ps,k,w,e1,fun H1 s1=> ?_⟩
   cases k with
   |true=>rw [if_pos rfl];exact⟨ps,c,w.same s1,by simpa using e,fun H2 s2=>q H2 (s1.trans s2)⟩
   |false=>
    rw [if_neg Bool.false_ne_true]
    have:c=false:=by simpa using e.symm
    subst this;exact q H1 s1
theorem sW(ha:QT X κ a ta)(hb:QW X κ (.BoolOp .Or (b::bY) pos) tb):QW X κ (.BoolOp .Or (a::b::bY) pos) (bM ta tb):=
 (zi0 ha hb).imp fun σ H Q hh_=>by
  obtain⟨ps,c,w,e,q⟩:=hh_
  unfold bM at e
  cases e1:ta ps with
  |none=>rw [e1] at e;cases e
  | some k=>
   rw [e1] at e
   refine⟨ps,k,w,e1,fun H1 s1=> ?_⟩
   cases k with
   |true=>
    rw [if_pos rfl]
    have:c=true:=by simpa using e.symm
    subst this;exact q H1 s1
   |false=>rw [if_neg Bool.false_ne_true];exact⟨ps,c,w.same s1,by simpa using e,fun H2 s2=>q H2 (s1.trans s2)⟩
theorem oZ(h:QW X κ a ta):QT X κ a ta:=PW.pt h
theorem pM(ha:QT X κ a ta):QT X κ (.UnaryOp .Not a pos) (aP ta):=
 (yH ha).imp fun σ H Q hh_=>by
  obtain⟨ps,c,w,e,q⟩:=hh_
  unfold aP at e
  cases e1:ta ps with
  |none=>rw [e1] at e;cases e
  |some k=>
   rw [e1] at e
   have:c= !k:=by simpa using e.symm
   subst this
   exact⟨ps,k,w,e1,fun H1 s1=>q H1 s1⟩
def iE(f g:tz2):tz2:=fun ps=>(f ps).bind fun c=>match c with
 | .bl true=>g ps
 | .bl false=>some (.bl false)
 |_=>none
theorem yp0{d:D}{α:Type}{x y:Option α}{z:α}(h:(match d with| .bl true=>x| .bl false=>y|_=>none)=some z):∃b,d= .bl b/\(if b=true then x else y)=some z:=by
 cases d with
 |bl b=>cases b<;>exact⟨_,rfl,h⟩
 |_=>cases h
theorem uZ{op}(h:QP X κ a fa):QP X κ (.BoolOp op [a] pos) fa:=yw4 h
theorem vA(ha:QP X κ a fa)(hb:QP X κ (.BoolOp .And (b::bY) pos) fb):QP X κ (.BoolOp .And (a::b::bY) pos) (iE fa fb):=
 (yw5 ha hb).imp fun σ H Q hh_=>by
  obtain⟨ps,d,w,e,q⟩:=hh_
  unfold iE at e
  cases e1:fa ps with
  |none=>rw [e1] at e;cases e
  | some k=>
   rw [e1] at e
   obtain⟨c,rfl,e2⟩:=yp0 (x:=fb ps) (y:=some (.bl false)) e
   refine⟨ps,_,w,e1,fun v H1 fv s1 _ _ r1=>⟨c,r1.is_bl,?_⟩⟩
   cases c with
   |true=>rw [if_pos rfl] at e2|-;exact⟨ps,d,w.same s1,e2,q.after s1⟩
   |false=>
    rw [if_neg Bool.false_ne_true] at e2|-
    cases e2;exact(q.after s1).now (.bl false)
def iW(f:tz2):tz2:=fun ps=>(f ps).bind fun c=>match c with
 | .bl true=>some (.bl false)
 | .bl false=>some (.bl true)
 |_=>none
theorem zk9(ha:QP X κ a fa):QP X κ (.UnaryOp .Not a pos) (iW fa):=
 (yw6 ha).imp fun σ H Q hh_=>by
  obtain⟨ps,d,w,e,q⟩:=hh_
  unfold iW at e
  cases e1:fa ps with
  |none=>rw [e1] at e;cases e
  |some k=>
   rw [e1] at e
   obtain⟨c,rfl,e2⟩:=yp0 (x:=some (D.bl false)) (y:=some (D.bl true)) e
   refine⟨ps,_,w,e1,fun v H1 fv s1 _ _ r1=>⟨c,r1.is_bl,?_⟩⟩
   cases c with
   |true=>rw [if_pos rfl] at e2;cases e2;exact(q.after s1).now (.bl false)
   |false=>rw [if_neg Bool.false_ne_true] at e2;cases e2;exact(q.after s1).now (.bl true)
def bL(f:tz2):tz2:=fun ps=>(f ps).bind fun c=>match c with
 | .int i=>some (.int (-i))
 |_=>none
theorem iU(ha:QV X κ a fa):QP X κ (.UnaryOp .USub a pos) (bL fa):=
 (xc8 yx1 ha).imp fun σ H Q hh_=>by
  obtain⟨ps,d,w,e,q⟩:=hh_
  unfold bL at e
  cases e1:fa ps with
  |none=>rw [e1] at e;cases e
  |some k=>
   rw [e1] at e
   cases k with
   |int i=>cases e;exact⟨ps,_,w,e1,fun v H1 fp s1 r1=>⟨i,r1.is_int,(q.after s1).now (.int _)⟩⟩
   |_=>cases e
end
section
variable{X:Cx}{κ:tz9}
theorem Inv.lstR{pins:tzB}{σ:St}{H:Hp}{s:Shared}{l:Addr}{xs:List V}(I:Inv X pins σ H s)(h:Rd H l (.lst xs)):
  xs.length<=sizeLine/\∃(its:List Value) (n:Nat),cV xs its/\xs.length=its.length/\s.heap.get? l=some {cls:= .type "list",data:= .seq its.toArray n}:=by
 obtain⟨z,its,n,r,e⟩:=h.ok I.hok
 exact⟨z,its,n,r,r.length,e⟩
theorem yr9:OpR X (binaryOp .Add) (fun x y H Q=>∃l b xs zs,x= .ref l/\y= .ref b/\Rd H l (.lst xs)/\Rd H b (.lst zs)/\xs.length+zs.length<=sizeLine/\∀p,H p=none->Q (.ref p) (upd H p (.lst (xs++zs)))):=by
 intro pins s σ H x y v u Q I rx ry h
 obtain⟨l,b,xs,zs,rfl,rfl,hH,hB,hz,q⟩:=h
 cases rx
 cases ry
 obtain⟨z,its,n,r,hl,e⟩:=I.lstR hH
 obtain⟨z2,its2,n2,r2,hl2,e2⟩:=I.lstR hB
 refine PySem.P.add_list e e2 ?_ (by rw [List.size_toArray,List.size_toArray];omega)
 have ea:its.toArray++its2.toArray=(its++its2).toArray:=by simp
 rw [ea]
 exact⟨.ref _,_,I.lnew (t':=s.toks) (r.append r2) (by rw [List.length_append];omega),rfl,q _ I.fresh⟩
theorem ys0:OpR X (binaryOp .Mult) (fun x y H Q=>∃l k xs,x= .ref l/\y= .int k/\Rd H l (.lst xs)/\ -(2^63)<=k/\k<2^63/\xs.length*k.toNat<=sizeLine/\
  ∀p,H p=none->Q (.ref p) (upd H p (.lst (List.replicate k.toNat xs).flatten))):=by
 intro pins s σ H x y v u Q I rx ry h
 obtain⟨l,k,xs,rfl,rfl,hH,h1,h2,hz,q⟩:=h
 cases rx
 obtain⟨t,rfl⟩:=ry
 obtain⟨z,its,n,r,hl,e⟩:=I.lstR hH
 have hlen:its.toArray.size*k.toNat<=sizeLine:=by rw [List.size_toArray,<-hl];exact hz
 have hcap:¬its.toArray.size*k.toNat>(2^63-1)/8:=by
  have:(sizeLine:Nat)<=(2^63-1)/8:=by decide
  omega
 have hfit:¬(!Builtin.List.listFitsIndex k)=true:=by
  rw [fitsIndex_both h1 h2]
  exact Bool.false_ne_true
 have hlong:¬Builtin.List.listTooLong (its.toArray.size*k.toNat)=true:=by
  rw [yk0 hlen]
  exact Bool.false_ne_true
 have hnew:List.foldl (fun x1 x2=>x1++x2) #[] (List.replicate (if its.toArray.isEmpty=true then 0 else k.toNat) its.toArray)=(List.replicate k.toNat its).flatten.toArray:=by
  have f0:∀m:Nat,List.foldl (fun x1 x2=>x1++x2) #[] (List.replicate m its.toArray)=(List.replicate m its).flatten.toArray:=fun m=>by
   have:=ze0 its m []
   rw [List.nil_append] at this
   exact this
  rw [f0]
  cases its with
  |nil=>simp
  |cons a r'=>rw [if_neg (by simp)]
 refine wpAny_binaryOp_repeat_ref (T:="list") (U:="int") (by decide) ⟨_,e,rfl⟩ (fun s'=>typeIs_int s' k t) noFill_list_mul F.fills_int_mul F.slot_int_rmul repeat_list F.slot_int_index.lookup
  (call_meets F.slot_int_rmul (typeIs_int s k t) F.entry_int_rmul (F.args_int_rmul_2 _ _) (int___rmul___int_list k t l its.toArray n)
   ⟨e,rfl,⟨_,e,rfl⟩,call_meets F.slot_list_mul ⟨_,e,rfl⟩ F.entry_list_mul (F.args_list_mul_2 _ _) (AutoListH.list___mul___list_int_3 l its.toArray n k t hfit hcap hlong) ⟨e,?_⟩⟩)
 rw [hnew]
 exact⟨.ref _,_,I.lnew (t':=s.toks) (r.rep k.toNat) (by rw [za5,Nat.mul_comm];exact hz),rfl,q _ I.fresh⟩
theorem yk6:OpR X (binaryOp .Add) (fun x y H Q=>∃a b ys,x= .ref a/\y= .ref b/\SqT X.K H a []/\SqT X.K H b ys/\Q (.ref b) H):=by
 intro pins s σ H x y v u Q I rx ry h
 obtain⟨a,b,ys,rfl,rfl,ha,hb,q⟩:=h
 cases rx
 cases ry
 obtain⟨its,r1,p1,_⟩:=I.tuple ha
 obtain⟨its2,r2,p2,_⟩:=I.tuple hb
 cases r1
 obtain⟨⟨cls,dd,data,sl⟩,ho,hc,n,hd⟩:=id p1
 obtain⟨⟨cls2,dd2,data2,sl2⟩,ho2,hc2,n2,hd2⟩:=id p2
 simp only at hc hd hc2 hd2
 subst hc hd hc2 hd2
 exact concat_meets ⟨_,ho,rfl⟩ ⟨_,ho2,rfl⟩ noFill_tuple_add seq_tuple_add PySem.F.slot_tuple_add PySem.F.entry_tuple_add (PySem.F.args_tuple_add_2 _ _)
   (tuple_addW0 a b _ _ n n2 dd dd2 sl sl2 rfl) ⟨ho,ho2,⟨.ref b,H,I,rfl,q⟩⟩
theorem Rep.lst_inv{K:tz0}{H:Hp}{v:V}{o:Bool}{ds:List D}{fp:List Addr}(r:Rep K κ H v (.lst o ds) fp):∃a vs g,v= .ref a/\Rd H a (.lst vs)/\Reps K κ H vs ds g/\g.Sublist fp:=by
 cases r with
 |lst h hs=>exact⟨_,_,_,rfl,.inl h,hs,List.sublist_cons_self _ _⟩
 |lstF h hs=>exact⟨_,_,_,rfl,.inr ⟨_,h⟩,hs,.refl _⟩
theorem Rep.lstT_inv{K:tz0}{H:Hp}{v:V}{ds:List D}{fp:List Addr}(r:Rep K κ H v (.lst true ds) fp):∃a vs g,v= .ref a/\H a=some (.lst vs)/\Reps K κ H vs ds g/\fp=a::g:=by
 cases r with
 |lst h hs=>exact⟨_,_,_,rfl,h,hs,rfl⟩
theorem Rep.objT_inv{K:tz0}{H:Hp}{v:V}{C:Str}{ns:List Str}{ds:List D}{fp:List Addr}(r:Rep K κ H v (.obj true C ns ds) fp):∃a dx fs g,v= .ref a/\H a=some (.ins (κ C) dx fs)/\fs.map (·.1)=ns/\Reps K κ H (fs.map (·.2)) ds g/\fp=a::g:=by
 cases r with
 |obj h e hs=>exact⟨_,_,_,_,rfl,h,e,hs,rfl⟩
theorem Rep.tup_inv{K:tz0}{H:Hp}{v:V}{ds:List D}{fp:List Addr}(r:Rep K κ H v (.tup ds) fp):∃a vs,v= .ref a/\SqT K H a vs/\Reps K κ H vs ds []:=by
 cases r with
 |tup h hs=>exact⟨_,_,rfl,h,hs⟩
theorem Reps.pair{K:tz0}{H:Hp}{vs:List V}{ds:List D}{fp:List Addr}(r:Reps K κ H vs ds fp)(h:D.imms ds=true):Paired (fun v d=>Rep K κ H v d []) vs ds:=by
 have e:=r.imm h
 subst e
 exact r.nilp
theorem Rep.con_inv{K:tz0}{H:Hp}{v:V}{ds:List D}{fp:List Addr}(r:Rep K κ H v (.con ds) fp):∃a vs,v= .ref a/\SqF K H a vs/\Reps K κ H vs ds []:=by
 cases r with
 |con h hs=>exact⟨_,_,rfl,h,hs⟩
theorem qC{K:tz0}{H:Hp}{vs:List V}{ds:List D}{Q:VK}{p:Addr}(hp:H p=none)(r:Paired (fun v d=>Rep K κ H v d []) vs ds)(q:mL K κ H (.lst true ds) Q):Q (.ref p) (upd H p (.lst vs)):=
 q.at hp (fv:=[p]) (fun a ha=>by simp at ha;subst ha;exact hp) (by simp) (.lst eT ((Reps.ofp r).same (.new hp _)))
theorem vW{K:tz0}{H:Hp}{vs:List V}{ds:List D}{Q:VK}{p:Addr}(hp:H p=none)(r:Paired (fun v d=>Rep K κ H v d []) vs ds)(q:mL K κ H (.tup ds) Q):Q (.ref p) (upd H p (.tup vs)):=
 q.at hp (fv:=[]) (fun a ha=>by simp at ha) (by simp) (.tup (.inl (.inl eT)) ((Reps.ofp r).same (.new hp _)))
def aO:D->D->Option D
 | .int i,.int j=>some (.int (i+j))
 | .str x,.str y=>if x.length+y.length<=sizeLine then some (.str (x++y)) else none
 | .lst _ xs,.lst _ ys=>if (D.imms xs&&D.imms ys&&decide (xs.length+ys.length<=sizeLine))=true then some (.lst true (xs++ys)) else none
 | .tup xs,.tup ys=>if xs.length+ys.length<=sizeLine then some (.tup (xs++ys)) else none
 |_,_=>none
theorem bind_some{α β:Type}{o:Option α}{g:α->Option β}{z:β}(h:o.bind g=some z):∃x,o=some x/\g x=some z:=by
 cases o with
 |none=>cases h
 |some x=>exact⟨x,rfl,h⟩
theorem dU{α:Type}{c:Prop}[Decidable c]{x:Option α}{z:α}(h:(if c then x else none)=some z):c/\x=some z:=by
 by_cases k:c
 ·rw [if_pos k] at h;exact⟨k,h⟩
 ·rw [if_neg k] at h;cases h
theorem eX:OpR X (binaryOp .Add) (POp X.K κ aO):=by
 rintro pins s σ H x y v u Q I rx ry ⟨dx,dy,d,fx,fy,r1,r2,e,q⟩
 unfold aO at e
 split at e
 ·rename_i i j
  cases e;exact rT pins s σ H x y v u Q I rx ry ⟨i,j,r1.is_int,r2.is_int,q.now (.int _)⟩
 ·rename_i i j
  obtain⟨hc,e⟩:=dU e
  cases e;exact zv7 pins s σ H x y v u Q I rx ry ⟨i,j,r1.is_str,r2.is_str,hc,q.now (.str _)⟩
 ·rename_i o xs o' ys
  obtain⟨hc,e⟩:=dU e
  simp only [Bool.and_eq_true,decide_eq_true_eq] at hc
  cases e
  obtain⟨a,vs,g,rfl,h1,s1,_⟩:=r1.lst_inv
  obtain⟨b,us,g',rfl,h2,s2,_⟩:=r2.lst_inv
  exact yr9 pins s σ H _ _ v u Q I rx ry ⟨a,b,vs,us,rfl,rfl,h1,h2,by rw [s1.length,s2.length];exact hc.2,fun p hp=>qC hp (Paired.app (s1.pair hc.1.1) (s2.pair hc.1.2)) q⟩
 ·rename_i xs ys
  obtain⟨hc,e⟩:=dU e
  cases e
  obtain⟨a,vs,rfl,h1,s1⟩:=r1.tup_inv
  obtain⟨b,us,rfl,h2,s2⟩:=r2.tup_inv
  have l1:=s1.length;have l2:=s2.length
  cases vs with
  |nil=>
   cases s1
   exact yk6 pins s σ H _ _ v u Q I rx ry ⟨a,b,us,rfl,rfl,h1,h2,q.now (.tup h2 s2)⟩
  |cons w ws=>
   refine yq8 pins s σ H _ _ v u Q I rx ry ⟨a,b,_,us,rfl,rfl,h1,h2,by simp,by omega,fun z=> ?_,fun z p hp=>vW hp (Paired.app s1.nilp s2.nilp) q⟩
   subst z
   cases s2
   rw [List.append_nil] at q
   exact q.now (.tup h1 s1)
 ·cases e
def dII(C:Int->Int->Bool)(g:Int->Int->D):D->D->Option D
 | .int i,.int j=>if C i j=true then some (g i j) else none
 |_,_=>none
theorem zl0{C:Int->Int->Bool}{g:Int->Int->D}{x y d:D}(h:dII C g x y=some d):∃i j,x= .int i/\y= .int j/\C i j=true/\d=g i j:=by
 unfold dII at h
 split at h
 ·obtain⟨hc,h⟩:=dU h
  cases h;exact⟨_,_,rfl,rfl,hc,rfl⟩
 ·cases h
def dM:D->D->Option D
 | .int i,.int j=>some (.int (i-j))
 |_,_=>none
theorem zx1:OpR X (binaryOp .Sub) (POp X.K κ dM):=by
 rintro pins s σ H x y v u Q I rx ry ⟨dx,dy,d,fx,fy,r1,r2,e,q⟩
 unfold dM at e
 split at e
 ·rename_i i j
  cases e;exact yw9 pins s σ H x y v u Q I rx ry ⟨i,j,r1.is_int,r2.is_int,q.now (.int _)⟩
 ·cases e
def fF(i j:Int):Bool:=(decide (-(2^64)<i)&&decide (i<2^64))||(decide (-(2^64)<j)&&decide (j<2^64))
def fD:D->D->Option D
 | .int i,.int j=>if fF i j=true then some (.int (i*j)) else none
 | .lst _ xs,.int k=>if (D.imms xs&&decide (-(2^63)<=k)&&decide (k<2^63)&&decide (xs.length*k.toNat<=sizeLine))=true then some (.lst true (List.replicate k.toNat xs).flatten) else none
 |_,_=>none
theorem yQ:OpR X (binaryOp .Mult) (POp X.K κ fD):=by
 rintro pins s σ H x y v u Q I rx ry ⟨dx,dy,d,fx,fy,r1,r2,e,q⟩
 unfold fD at e
 split at e
 ·rename_i i j
  obtain⟨hc,e⟩:=dU e
  cases e
  refine nY pins s σ H x y v u Q I rx ry ⟨i,j,r1.is_int,r2.is_int,?_,q.now (.int _)⟩
  unfold fF at hc
  simp only [Bool.or_eq_true,Bool.and_eq_true,decide_eq_true_eq] at hc
  exact hc
 ·rename_i o xs k
  obtain⟨hc,e⟩:=dU e
  simp only [Bool.and_eq_true,decide_eq_true_eq] at hc
  cases e
  obtain⟨a,vs,g,rfl,h1,s1,_⟩:=r1.lst_inv
  have l1:=s1.length
  exact ys0 pins s σ H _ _ v u Q I rx ry ⟨a,k,vs,rfl,r2.is_int,h1,hc.1.1.2,hc.1.2,by rw [l1];exact hc.2,fun p hp=>qC hp (Paired.repl (s1.pair hc.1.1.1) _) q⟩
 ·cases e
def fO:D->D->Option D:=dII (fun _ j=>decide (0<j)) fun i j=> .int (i % j)
theorem iI:OpR X (binaryOp .Mod) (POp X.K κ fO):=by
 rintro pins s σ H x y v u Q I rx ry ⟨dx,dy,d,fx,fy,r1,r2,e,q⟩
 obtain⟨i,j,rfl,rfl,hc,rfl⟩:=zl0 e
 exact yJ pins s σ H x y v u Q I rx ry ⟨i,j,r1.is_int,r2.is_int,of_decide_eq_true hc,q.now (.int _)⟩
def iX:D->D->Option D:=dII (fun _ j=>decide (0<j)&&decide (j<1073741824)) fun i j=> .int (i/j)
theorem mB:OpR X (binaryOp .FloorDiv) (POp X.K κ iX):=by
 rintro pins s σ H x y v u Q I rx ry ⟨dx,dy,d,fx,fy,r1,r2,e,q⟩
 obtain⟨i,j,rfl,rfl,hc,rfl⟩:=zl0 e
 simp only [Bool.and_eq_true,decide_eq_true_eq] at hc
 exact zs4 pins s σ H x y v u Q I rx ry ⟨i,j,r1.is_int,r2.is_int,hc,q.now (.int _)⟩
def D.ints:List D->Option (List Int)
 |[]=>some []
 | .int i::ds=>(D.ints ds).map (i::·)
 |_::_=>none
theorem zt3{K:tz0}{H:Hp}:∀{vs:List V} {ds:List D} {fp:List Addr} {ns:List Int},Reps K κ H vs ds fp->D.ints ds=some ns->vs=ns.map V.int
 |_,_,_,_,.nil,e=>by cases e;rfl
 | _,d::ds,_,ns,.cons h hs,e=>by
  cases d with
  |int i=>
   rw [D.ints] at e
   cases e1:D.ints ds with
   |none=>rw [e1] at e;cases e
   |some ms=>rw [e1] at e;cases e;rw [h.is_int,zt3 hs e1];rfl
  |_=>cases e
def dLt:D->D->Option D
 | .int i,.int j=>some (.bl (decide (i<j)))
 |_,_=>none
theorem rL(hu:X.A.units<cLine):OpR X (compareOp .Lt) (POp X.K κ dLt):=by
 rintro pins s σ H x y v u Q I rx ry ⟨dx,dy,d,fx,fy,r1,r2,e,q⟩
 unfold dLt at e
 split at e
 ·rename_i i j
  cases e;exact xc9 pins s σ H x y v u Q I rx ry ⟨i,j,r1.is_int,r2.is_int,q.now (.bl _)⟩
 ·cases e
def dLe:D->D->Option D
 | .int i,.int j=>some (.bl (decide (i<=j)))
 |_,_=>none
def dGt:D->D->Option D
 | .int i,.int j=>some (.bl (decide (j<i)))
 |_,_=>none
theorem sX:OpR X (compareOp .Gt) (POp X.K κ dGt):=by
 rintro pins s σ H x y v u Q I rx ry ⟨dx,dy,d,fx,fy,r1,r2,e,q⟩
 unfold dGt at e
 split at e
 ·rename_i i j
  cases e;exact xd0 pins s σ H x y v u Q I rx ry ⟨i,j,r1.is_int,r2.is_int,q.now (.bl _)⟩
 ·cases e
def dGe:D->D->Option D
 | .int i,.int j=>some (.bl (decide (j<=i)))
 |_,_=>none
theorem zl1:OpR X (compareOp .GtE) (POp X.K κ dGe):=by
 rintro pins s σ H x y v u Q I rx ry ⟨dx,dy,d,fx,fy,r1,r2,e,q⟩
 unfold dGe at e
 split at e
 ·rename_i i j
  cases e;exact xd1 pins s σ H x y v u Q I rx ry ⟨i,j,r1.is_int,r2.is_int,q.now (.bl _)⟩
 ·cases e
mutual
def D.data:D->Option PyData
 | .non=>some .none
 | .bl b=>some (.bool b)
 | .int i=>some (.int i)
 | .str x=>some (.str x)
 | .tup xs=>(D.datas xs).map .tuple
 | .lst _ xs=>(D.datas xs).map .list
 |_=>none
def D.datas:List D->Option (List PyData)
 |[]=>some []
 |d::ds=>d.data.bind fun p=>(D.datas ds).map (p::·)
end
theorem Reps.dps{K:tz0}{H:Hp}{vs:List V}{ds:List D}{fp:List Addr}(h:Reps K κ H vs ds fp):∀{p:List PyData},D.datas ds=some p->DpAll K H vs p:=
 Reps.rec (motive_1:=fun v d _ _=>∀{p:PyData},d.data=some p->Dp K H v p) (motive_2:=fun vs ds _ _=>∀{p:List PyData},D.datas ds=some p->DpAll K H vs p)
  (fun e=>by cases e;exact .non) (fun b _ e=>by cases e;exact .bl b) (fun b _ e=>by cases e;exact .int b) (fun b _ e=>by cases e;exact .str b) (fun b _ e=>nomatch e)
  (fun h _ ih _ e=>by obtain⟨ps,e1,e⟩:=Option.map_eq_some_iff.mp e;subst e;exact .tup h (ih e1)) (fun _ _ _ _ e=>nomatch e)
  (fun h _ ih _ e=>by obtain⟨ps,e1,e⟩:=Option.map_eq_some_iff.mp e;subst e;exact .lst (.inl (.inl h)) (ih e1))
  (fun h _ ih _ e=>by obtain⟨ps,e1,e⟩:=Option.map_eq_some_iff.mp e;subst e;exact .lst (.inl (.inr ⟨_,h⟩)) (ih e1))
  (fun _ _ _ _ _ e=>nomatch e) (fun _ _ _ _ _ e=>nomatch e) (fun _ _ _ _ _ e=>nomatch e) (fun _ _ _ _ _ e=>nomatch e)
  (fun e=>by cases e;exact .nil)
  (fun _ _ i1 i2 _ e=>by
   obtain⟨q,e1,e⟩:=bind_some e
   obtain⟨qs,e2,e⟩:=Option.map_eq_some_iff.mp e
   subst e
   exact .cons (i1 e1) (i2 e2)) h
theorem Rep.dp{K:tz0}{H:Hp}{v:V}{d:D}{fp:List Addr}{p:PyData}(h:Rep K κ H v d fp)(e:d.data=some p):Dp K H v p:=by
 have:=(Reps.one h).dps (p:=[p]) (by show(d.data.bind _)=_;rw [e];rfl)
 cases this;assumption
def vK(x y:D):Option Bool:=x.data.bind fun a=>y.data.bind fun b=>if (a.canLay0&&b.canLay0&&decide (a.depth<=60))=true then some (PyData.eqv a b) else none
def eqB(x y:D):Option Bool:=match x,y with
 | .int i,.int j=>some (decide (i=j))
 | .str i,.str j=>some (decide (i=j))
 |x,y=>vK x y
def dEq(x y:D):Option D:=(eqB x y).map .bl
def dNe(x y:D):Option D:=(eqB x y).map fun b=> .bl (!b)
theorem ze4{x y:D}{b:Bool}(h:eqB x y=some b):(∃i j,x= .int i/\y= .int j/\b=decide (i=j))\/(∃i j,x= .str i/\y= .str j/\b=decide (i=j))\/
  ∃p q,x.data=some p/\y.data=some q/\p.canLay0=true/\q.canLay0=true/\p.depth<=60/\b=PyData.eqv p q:=by
 have gen:vK x y=some b->∃p q,x.data=some p/\y.data=some q/\p.canLay0=true/\q.canLay0=true/\p.depth<=60/\b=PyData.eqv p q:=fun h=>by
  unfold vK at h
  cases e1:x.data with
  |none=>rw [e1] at h;cases h
  | some p=>
   rw [e1] at h
   cases e2:y.data with
   |none=>rw [e2] at h;cases h
   | some q=>
    rw [e2] at h
    have h':(if (p.canLay0&&q.canLay0&&decide (p.depth<=60))=true then some (PyData.eqv p q) else none)=some b:=h
    split at h'
    ·rename_i hc
     simp only [Bool.and_eq_true,decide_eq_true_eq] at hc
     exact⟨p,q,rfl,rfl,hc.1.1,hc.1.2,hc.2,(Option.some.inj h').symm⟩
    ·cases h'
 unfold eqB at h
 split at h
 ·cases h;exact .inl ⟨_,_,rfl,rfl,rfl⟩
 ·cases h;exact .inr (.inl ⟨_,_,rfl,rfl,rfl⟩)
 ·exact .inr (.inr (gen h))
theorem iB(hu:X.A.units+64<cLine):OpR X (compareOp .Eq) (POp X.K κ dEq):=by
 rintro pins s σ H x y v u Q I rx ry ⟨dx,dy,d,fx,fy,r1,r2,e,q⟩
 unfold dEq at e
 cases e1:eqB dx dy with
 |none=>rw [e1] at e;cases e
 | some b=>
  rw [e1] at e
  cases e
  rcases ze4 e1 with ⟨i,j,rfl,rfl,rfl⟩|⟨i,j,rfl,rfl,rfl⟩|⟨p,p',h1,h2,h3,h4,h5,rfl⟩
  ·rw [r1.is_int] at rx;rw [r2.is_int] at ry
   exact zv5 pins s σ H _ _ v u Q I rx ry ⟨rfl,by rw [show decide (V.int i=V.int j)=decide (i=j) by simp];exact q.now (.bl _)⟩
  ·rw [r1.is_str] at rx;rw [r2.is_str] at ry
   exact zv5 pins s σ H _ _ v u Q I rx ry ⟨rfl,by rw [show decide (V.str i=V.str j)=decide (i=j) by simp];exact q.now (.bl _)⟩
  ·exact yy5 hu pins s σ H _ _ v u Q I rx ry ⟨p,p',r1.dp h1,r2.dp h2,h3,h4,h5,q.now (.bl _)⟩
theorem sY(hu:X.A.units+64<cLine):OpR X (compareOp .NotEq) (POp X.K κ dNe):=by
 rintro pins s σ H x y v u Q I rx ry ⟨dx,dy,d,fx,fy,r1,r2,e,q⟩
 unfold dNe at e
 cases e1:eqB dx dy with
 |none=>rw [e1] at e;cases e
 | some b=>
  rw [e1] at e
  cases e
  rcases ze4 e1 with ⟨i,j,rfl,rfl,rfl⟩|⟨i,j,rfl,rfl,rfl⟩|⟨p,p',h1,h2,h3,h4,h5,rfl⟩
  ·rw [r1.is_int] at rx;rw [r2.is_int] at ry
   exact yo7 pins s σ H _ _ v u Q I rx ry ⟨rfl,by rw [show decide (V.int i=V.int j)=decide (i=j) by simp];exact q.now (.bl _)⟩
  ·rw [r1.is_str] at rx;rw [r2.is_str] at ry
   exact yo7 pins s σ H _ _ v u Q I rx ry ⟨rfl,by rw [show decide (V.str i=V.str j)=decide (i=j) by simp];exact q.now (.bl _)⟩
  ·exact yy6 hu pins s σ H _ _ v u Q I rx ry ⟨p,p',r1.dp h1,r2.dp h2,h3,h4,h5,q.now (.bl _)⟩
def D.flat:D->Option V
 | .non=>some .non
 | .bl b=>some (.bl b)
 | .int i=>some (.int i)
 | .str x=>some (.str x)
 |_=>none
def D.flats:List D->Option (List V)
 |[]=>some []
 |d::ds=>d.flat.bind fun v=>(D.flats ds).map (v::·)
theorem zt4{K:tz0}{H:Hp}{v w:V}{d:D}{fp:List Addr}(r:Rep K κ H v d fp)(h:d.flat=some w):v=w/\mD v=true:=by
 cases r<;>first|(cases h;exact⟨rfl,rfl⟩)|cases h
theorem zl2{K:tz0}{H:Hp}:∀{vs ws:List V} {ds:List D} {fp:List Addr},Reps K κ H vs ds fp->D.flats ds=some ws->vs=ws/\vs.all mD=true
 |_,_,_,_,.nil,e=>by cases e;exact⟨rfl,rfl⟩
 | _,ws,d::ds,_,.cons h hs,e=>by
  rw [D.flats] at e
  cases e1:d.flat with
  |none=>rw [e1] at e;cases e
  | some w=>
   rw [e1] at e
   cases e2:D.flats ds with
   |none=>rw [e2] at e;cases e
   |some us=>
    rw [e2] at e;cases e
    obtain⟨a1,a2⟩:=zt4 h e1
    obtain⟨b1,b2⟩:=zl2 hs e2
    exact⟨by rw [a1,b1],by rw [List.all_cons,a2,b2];rfl⟩
def bN(x:D)(ds:List D):Option Bool:=x.flat.bind fun v=>(D.flats ds).map fun ws=>inV v ws
def inB(x:D):D->Option Bool
 | .lst _ ds=>bN x ds
 | .tup ds=>bN x ds
 |_=>none
def dIn(x y:D):Option D:=(inB x y).map .bl
theorem yy8{H:Hp}{x y:V}{dx dy:D}{fx fy:List Addr}{b:Bool}(r1:Rep X.K κ H x dx fx)(r2:Rep X.K κ H y dy fy)(e:inB dx dy=some b):
  ∃p xs,y= .ref p/\(SqL X.K H p xs\/SqT X.K H p xs)/\mD x=true/\xs.all mD=true/\b=inV x xs:=by
 have gen:∀{vs:List V} {ds:List D} {g:List Addr},Reps X.K κ H vs ds g->bN dx ds=some b->mD x=true/\vs.all mD=true/\b=inV x vs:=fun {vs ds g} rs h=>by
  unfold bN at h
  cases e1:dx.flat with
  |none=>rw [e1] at h;cases h
  | some w=>
   rw [e1] at h
   cases e2:D.flats ds with
   |none=>rw [e2] at h;cases h
   |some ws=>
    rw [e2] at h
    obtain⟨a1,a2⟩:=zt4 r1 e1
    obtain⟨b1,b2⟩:=zl2 rs e2
    subst a1 b1
    exact⟨a2,b2,(Option.some.inj h).symm⟩
 cases dy with
 |lst o ds=>
  obtain⟨a,vs,g,rfl,h,hs,_⟩:=r2.lst_inv
  obtain⟨g1,g2,g3⟩:=gen hs e
  exact⟨a,vs,rfl,.inl (.inl h),g1,g2,g3⟩
 |tup ds=>
  obtain⟨a,vs,rfl,h,hs⟩:=r2.tup_inv
  obtain⟨g1,g2,g3⟩:=gen hs e
  exact⟨a,vs,rfl,.inr h,g1,g2,g3⟩
 |_=>cases e
theorem vB:OpR X (compareOp .In) (POp X.K κ dIn):=by
 rintro pins s σ H x y v u Q I rx ry ⟨dx,dy,d,fx,fy,r1,r2,e,q⟩
 unfold dIn at e
 cases e1:inB dx dy with
 |none=>rw [e1] at e;cases e
 |some b=>
  rw [e1] at e;cases e
  obtain⟨p,xs,ey,h,f1,f2,rfl⟩:=yy8 r1 r2 e1
  exact yd0 pins s σ H x y v u Q I rx ry ⟨p,xs,ey,h,f1,f2,q.now (.bl _)⟩
end
theorem Reps.getS{K:tz0}{κ:tz9}{H:Hp}:∀{vs:List V} {ds:List D} {fp:List Addr} {i:Nat} {d:D},Reps K κ H vs ds fp->ds[i]? =some d->∃v f,vs[i]? =some v/\Rep K κ H v d f/\f.Sublist fp
 |_,_,_,_,_,.nil,e=>by simp at e
 |_,_,_,0,_,.cons h _,e=>by simp at e;subst e;exact⟨_,_,rfl,h,List.sublist_append_left _ _⟩
 |_,_,_,i+1,_,.cons _ hs,e=>by
  obtain⟨v,f,h1,h2,h3⟩:=Reps.getS (i:=i) hs (by simpa using e)
  exact⟨v,f,by simpa using h1,h2,h3.trans (List.sublist_append_right _ _)⟩
theorem Reps.atI{K:tz0}{κ:tz9}{H:Hp}{vs:List V}{ds:List D}{fp:List Addr}{i:Int}{d:D}(r:Reps K κ H vs ds fp)(h:L2.atI ds i=some d):∃v f,L2.atI vs i=some v/\Rep K κ H v d f/\f.Sublist fp:=by
 unfold L2.atI at h|-
 rw [r.length]
 cases e:ixN ds.length i with
 |none=>rw [e] at h;cases h
 |some j=>rw [e] at h;exact r.getS h
section
variable{X:Cx}{κ:tz9}{e a b:Expr}{es:List Expr}{f fa fb:tz2}{g:tz3}{pos p2:Pos}
def aC:tz3:=fun _=>some []
def aA(f:tz2)(g:tz3):tz3:=fun ps=>(f ps).bind fun d=>(g ps).bind fun ds=>some (d::ds)
theorem sZ{ps:PSt}{ds:List D}(h:aA f g ps=some ds):∃d es,f ps=some d/\g ps=some es/\ds=d::es:=by
 unfold aA at h
 cases e1:f ps with
 |none=>rw [e1] at h;cases h
 |some d=>
  rw [e1] at h
  cases e2:g ps with
  |none=>rw [e2] at h;cases h
  |some es=>rw [e2] at h;cases h;exact⟨d,es,rfl,rfl,rfl⟩
theorem bW:QVA X κ [] aC:=kY.imp fun σ H Q ⟨ps,ds,w,e,q⟩=>by cases e;exact q [] H [] (.refl H) .nil
theorem aV(ha:QV X κ e f)(hr:QVA X κ es g)(hs:starEach (e::es) X.env=(false,eval e X.env)::starEach es X.env:=by rfl):QVA X κ (e::es) (aA f g):=
 (gD ha hr hs).imp fun σ H Q hh_=>by
  obtain⟨ps,ds,w,e,q⟩:=hh_
  obtain⟨d,es,e1,e2,rfl⟩:=sZ e
  exact⟨ps,d,w,e1,fun v H1 fp s1 r1=>⟨ps,es,w.same s1,e2,fun vs H2 fq s2 r2=>q _ H2 _ (s1.trans s2) (.cons (r1.same s2) r2)⟩⟩
theorem bO:QPA X κ [] aC:=kY.imp fun σ H Q ⟨ps,ds,w,e,q⟩=>by cases e;exact q [] H [] (.refl H) (fun _ h=>absurd h (by simp)) List.nodup_nil .nil
theorem ze5{K:tz0}{H1:Hp}{v:V}{d:D}{fv fw:List Addr}(r:Rep K κ H1 v d fv)(n1:fv.Nodup)(hw:∀a∈fw,H1 a=none)(n2:fw.Nodup):(fv++fw).Nodup:=by
 rw [List.nodup_append]
 refine⟨n1,n2,fun a ha b hb e=> ?_⟩
 subst e
 obtain⟨o,h,_⟩:=r.own a ha
 rw [hw a hb] at h;cases h
theorem aW(ha:QP X κ e f)(hr:QPA X κ es g)(hs:starEach (e::es) X.env=(false,eval e X.env)::starEach es X.env:=by rfl):QPA X κ (e::es) (aA f g):=
 (gD ha hr hs).imp fun σ H Q hh_=>by
  obtain⟨ps,ds,w,e,q⟩:=hh_
  obtain⟨d,es,e1,e2,rfl⟩:=sZ e
  refine⟨ps,d,w,e1,fun v H1 fv s1 n1 nd1 r1=>⟨ps,es,w.same s1,e2,fun vs H2 fw s2 n2 nd2 r2=> ?_⟩⟩
  refine q _ H2 (fv++fw) (s1.trans s2) (fun a ha=> ?_) (ze5 r1 nd1 n2 nd2) (.cons (r1.same s2) r2)
  rcases List.mem_append.mp ha with z|z
  ·exact n1 a z
  ·exact s1.grow a (n2 a z)
def bF(g:tz3):tz2:=fun ps=>(g ps).bind fun ds=>if (D.imms ds&&decide (ds.length<=1000))=true then some (.tup ds) else none
def aX(g:tz3):tz2:=fun ps=>(g ps).bind fun ds=>if ds.length<=1000 then some (.lst true ds) else none
theorem eU{x1}(h:QPA X κ es g):QP X κ (.Tuple es x1 pos) (bF g):=
 (yc5 h).imp fun σ H Q hh_=>by
  obtain⟨ps,d,w,e,q⟩:=hh_
  obtain⟨ds,e1,e2⟩:=bind_some e
  obtain⟨hc,e3⟩:=dU e2
  cases e3
  rw [Bool.and_eq_true,decide_eq_true_eq] at hc
  refine⟨ps,ds,w,e1,fun vs H1 fv s1 n1 nd1 r1=>⟨by rw [r1.length];exact zi5 hc.2,fun p hp=> ?_⟩⟩
  exact vW hp (r1.pair hc.1) (q.after s1)
theorem eH(h:QPA X κ es g):QP X κ (.List es pos) (aX g):=
 (yx5 h).imp fun σ H Q hh_=>by
  obtain⟨ps,d,w,e,q⟩:=hh_
  obtain⟨ds,e1,e2⟩:=bind_some e
  obtain⟨hc,e3⟩:=dU e2
  cases e3
  refine⟨ps,ds,w,e1,fun vs H1 fv s1 n1 nd1 r1=>⟨by rw [r1.length];exact zi5 hc,fun p hp=> ?_⟩⟩
  refine q _ _ (p::fv) (s1.trans (.new hp _)) (fun a ha=> ?_) (List.nodup_cons.mpr ⟨fun hm=> ?_,nd1⟩) (.lst eT (r1.same (.new hp _)))
  ·rcases List.mem_cons.mp ha with z|z
   ·rw [z];exact s1.grow p hp
   ·exact n1 a z
  ·obtain⟨o,h,_⟩:=r1.own p hm
   rw [hp] at h;cases h
def dIx:D->D->Option D
 | .lst _ xs,.int i=>atI xs i
 | .tup xs,.int i=>atI xs i
 | .con xs,.int i=>atI xs i
 | .str z,.int i=>if z.length<=sizeLine then(atI z.cps.toList i).map fun c=> .str ⟨#[c]⟩ else none
 |_,_=>none
theorem ye0{K:tz0}{H:Hp}{x y:V}{dx dy d:D}{fx fy:List Addr}{Q:VK}(r1:Rep K κ H x dx fx)(r2:Rep K κ H y dy fy)(e:dIx dx dy=some d)(q:∀v f,Rep K κ H v d f->f.Sublist fx->Q v H):rIx K x y H Q:=by
 unfold dIx at e
 split at e
 ·rename_i o xs i
  obtain⟨a,vs,g,rfl,h,hs,sub⟩:=r1.lst_inv
  obtain⟨v,f,h1,h2,h3⟩:=hs.atI e
  exact .inl ⟨a,vs,i,v,rfl,r2.is_int,.inl h,h1,q v f h2 (h3.trans sub)⟩
 ·rename_i xs i
  obtain⟨a,vs,rfl,h,hs⟩:=r1.tup_inv
  obtain⟨v,f,h1,h2,h3⟩:=hs.atI e
  cases List.sublist_nil.mp h3
  exact .inr (.inl ⟨a,vs,i,v,rfl,r2.is_int,h,h1,q v [] h2 (List.nil_sublist _)⟩)
 ·rename_i xs i
  obtain⟨a,vs,rfl,h,hs⟩:=r1.con_inv
  obtain⟨v,f,h1,h2,h3⟩:=hs.atI e
  cases List.sublist_nil.mp h3
  exact .inl ⟨a,vs,i,v,rfl,r2.is_int,h.l,h1,q v [] h2 (List.nil_sublist _)⟩
 ·rename_i z i
  obtain⟨hz,e⟩:=dU e
  obtain⟨c,e1,e⟩:=Option.map_eq_some_iff.mp e
  subst e
  exact .inr (.inr ⟨z,i,c,r1.is_str,r2.is_int,hz,e1,q _ [] (.str _) (List.nil_sublist _)⟩)
 ·cases e
theorem eS(ha:QV X κ a fa)(hb:QV X κ b fb)(hs:pD b:=by exact fun _ _=>rfl):QV X κ (.Subscript a b pos) (f2 dIx fa fb):=
 (zi3 yc8 ha hb hs).imp fun σ H Q hh_=>by
  obtain⟨ps,d,w,e,q⟩:=hh_
  obtain⟨x,y,e1,e2,e3⟩:=rX e
  exact⟨ps,x,w,e1,fun v H1 fp s1 r1=>⟨ps,y,w.same s1,e2,fun u H2 fq s2 r2=>ye0 (r1.same s2) r2 e3 fun v f r _=>q v H2 f (s1.trans s2) r⟩⟩
theorem oB(ha:QP X κ a fa)(hb:QV X κ b fb)(hs:pD b:=by exact fun _ _=>rfl):QP X κ (.Subscript a b pos) (f2 dIx fa fb):=
 (zi3 yc8 ha hb hs).imp fun σ H Q hh_=>by
  obtain⟨ps,d,w,e,q⟩:=hh_
  obtain⟨x,y,e1,e2,e3⟩:=rX e
  exact⟨ps,x,w,e1,fun v H1 fv s1 n1 nd1 r1=>⟨ps,y,w.same s1,e2,fun u H2 fq s2 r2=>ye0 (r1.same s2) r2 e3 fun v f r sub=>q v H2 f (s1.trans s2) (fun c hc=>n1 c (sub.subset hc)) (nd1.sublist sub) r⟩⟩
def tO(K:tz0)(κ:tz9)(f:PSt->Option (Option Int)):TO:=fun σ H Q=>∃ps o,WS K κ H σ ps/\f ps=some o/\∀H',SameK H H'->Q o H'
abbrev QO(X:Cx)(κ:tz9)(e:Option Expr)(f:PSt->Option (Option Int)):Prop:=PO X e (tO X.K κ f)
def cB:PSt->Option (Option Int):=fun _=>some none
def cT(f:tz2):PSt->Option (Option Int):=fun ps=>(f ps).bind fun d=>match d with
 | .int i=>some (some i)
 |_=>none
theorem kG:QO X κ none cB:=fun pins s σ H Q I ⟨ps,o,w,e,q⟩=>by cases e;exact yq6 pins s σ H Q I (q H (.refl H))
theorem iQ(h:QV X κ e f):QO X κ (some e) (cT f):=fun pins s σ H Q I hh_=>by
 obtain⟨ps,o,w,e,q⟩:=hh_
 obtain⟨d,e1,e2⟩:=bind_some e
 cases d with
 |int i=>cases e2;exact yq7 h pins s σ H Q I ⟨ps,_,w,e1,fun v H1 fp s1 r1=>⟨i,r1.is_int,q H1 s1⟩⟩
 |_=>cases e2
def nC(xs:List D)(lo hi:Option Int):List D:=(xs.drop (HT.sIx xs.length 0 lo)).take (HT.sIx xs.length xs.length hi-HT.sIx xs.length 0 lo)
def dSl:D->Option Int->Option Int->Option D
 | .lst _ xs,lo,hi=>if D.imms xs=true then some (.lst true (nC xs lo hi)) else none
 | .tup xs,lo,hi=>some (.tup (nC xs lo hi))
 |_,_,_=>none
theorem zl3{K:tz0}{H:Hp}{vs:List V}{ds:List D}{lo hi:Option Int}(r:Paired (fun v d=>Rep K κ H v d []) vs ds):Paired (fun v d=>Rep K κ H v d []) (uH vs lo hi) (nC ds lo hi):=by
 unfold uH nC
 rw [Paired.length r]
 exact Paired.takeN _ (Paired.dropN _ r)
def PSl(K:tz0)(κ:tz9):V->Option Int->Option Int->Hp->VK->Prop:=fun x lo hi H Q=>∃dx d fx,Rep K κ H x dx fx/\dSl dx lo hi=some d/\mL K κ H d Q
theorem yy9:SlR X (PSl X.K κ):=by
 rintro pins s σ H x v vl vu lo hi sl Q I rx hs pl pu ⟨dx,d,fx,r,e,q⟩
 unfold dSl at e
 split at e
 ·obtain⟨hc,e2⟩:=dU e
  cases e2
  obtain⟨a,vs,g,rfl,h,rs,sub⟩:=r.lst_inv
  exact yq9 pins s σ H _ v vl vu _ _ sl Q I rx hs pl pu ⟨a,vs,rfl,.inl h,fun p hp=>qC hp (zl3 (rs.pair hc)) q⟩
 ·rename_i xs
  cases e
  obtain⟨a,vs,rfl,h,rs⟩:=r.tup_inv
  refine yr5 pins s σ H _ v vl vu _ _ sl Q I rx hs pl pu ⟨a,vs,rfl,h,fun hw=> ?_,fun p hp=>vW hp (zl3 rs.nilp) q⟩
  have e1:nC xs lo hi=xs:=by
   unfold nC
   rw [<-rs.length,hw.1,hw.2,List.drop_zero,Nat.sub_zero,rs.length,List.take_length]
  rw [e1] at q
  exact q.now (.tup h rs)
 ·cases e
def fSl(f:tz2)(fl fh:PSt->Option (Option Int)):tz2:=fun ps=>(f ps).bind fun d=>(fl ps).bind fun l=>(fh ps).bind fun h=>dSl d l h
theorem iL{lo hi:Option Expr}{fl fh:PSt->Option (Option Int)}(he:QV X κ e f)(hl:QO X κ lo fl)(hh:QO X κ hi fh):QP X κ (.Subscript e (.Slice lo hi none p2) pos) (fSl f fl fh):=
 (yj8 yy9 he hl hh).imp fun σ H Q hh_=>by
  obtain⟨ps,d,w,e,q⟩:=hh_
  obtain⟨d1,e1,e2⟩:=bind_some e
  obtain⟨l,e3,e4⟩:=bind_some e2
  obtain⟨h,e5,e6⟩:=bind_some e4
  exact⟨ps,d1,w,e1,fun v H1 fp s1 r1=>⟨ps,l,w.same s1,e3,fun H2 s2=>⟨ps,h,(w.same s1).same s2,e5,fun H3 s3=>⟨d1,d,fp,(r1.same s2).same s3,e6,q.after ((s1.trans s2).trans s3)⟩⟩⟩⟩
def PCl(K:tz0)(κ:tz9)(g:tz6):List V->Hp->VK->Prop:=fun vs H Q=>∃ds fp d,Reps K κ H vs ds fp/\g ds=some d/\mL K κ H d Q
def aE(h:tz6)(g:tz3):tz2:=fun ps=>(g ps).bind h
theorem ye1{h:tz6}{σ:St}{H:Hp}{Q:VK}(q:tP X.K κ (aE h g) σ H Q):tCB (PCl X.K κ h) (tVA X.K κ g) σ H Q:=by
 obtain⟨ps,d,w,e,q⟩:=q
 obtain⟨ds,e1,e2⟩:=bind_some e
 exact⟨ps,ds,w,e1,fun vs H1 fp s1 r1=>⟨ds,fp,d,r1,e2,q.after s1⟩⟩
theorem eJ{x:Str}{id:String}{p:Pos}{h:tz6}(hc:gB X (.builtin id) (PCl X.K κ h))(hg:Gl X x)(hm:X.mg x=none)(hv:bootBuiltins x=some (.builtin id))(ha:QVA X κ (e::es) g)(hn:x≠"__name__":=by decide)(hdb:(x==("__debug__":Str))=false:=by decide)
  (hs:starEach (e::es) X.env=(false,eval e X.env)::starEach es X.env:=by rfl) (hpl:(backTo pos (starEach es X.env)).any (·.1)=false:=by rfl):QP X κ (.Call (.Name x p) (e::es) [] pos) (aE h g):=
 (nJ hc hg hm hv ha hn hdb hs hpl).imp fun _ _ _ q=>ye1 q
theorem gZ{x:Str}{T:String}{p:Pos}{h:tz6}(hc:gB X (.type T) (PCl X.K κ h))(hg:Gl X x)(hm:X.mg x=none)(hv:bootBuiltins x=some (.type T))(ha:QVA X κ (e::es) g)(hn:x≠"__name__":=by decide)(hdb:(x==("__debug__":Str))=false:=by decide)
  (hs:starEach (e::es) X.env=(false,eval e X.env)::starEach es X.env:=by rfl) (hpl:(backTo pos (starEach es X.env)).any (·.1)=false:=by rfl):QP X κ (.Call (.Name x p) (e::es) [] pos) (aE h g):=
 (yc7 hc hg hm hv ha hn hdb hs hpl).imp fun _ _ _ q=>ye1 q
theorem Reps.two_inv{K:tz0}{H:Hp}{vs:List V}{d e:D}{fp:List Addr}(r:Reps K κ H vs [d,e] fp):∃v u f g,vs=[v,u]/\Rep K κ H v d f/\Rep K κ H u e g:=by
 obtain⟨v,us,f,g,rfl,h,t,rfl⟩:=r.split
 obtain⟨u,rfl,h2⟩:=t.one_inv
 exact⟨v,u,f,g,rfl,h,h2⟩
def bD:tz6
 |[.lst _ xs]=>some (.int xs.length)
 |[.tup xs]=>some (.int xs.length)
 |[.con xs]=>some (.int xs.length)
 |[.str z]=>if z.length<=sizeLine then some (.int z.length) else none
 |_=>none
theorem jB:gB X (.builtin "len") (PCl X.K κ bD):=by
 rintro pins s σ H vs us Q I r ⟨ds,fp,d,rs,e,q⟩
 unfold bD at e
 split at e
 ·cases e
  obtain⟨v,rfl,r1⟩:=rs.one_inv
  obtain⟨a,ws,g,rfl,h,hs,_⟩:=r1.lst_inv
  exact kZ pins s σ H _ us Q I r ⟨a,ws,rfl,.inl (.inl h),by rw [hs.length];exact q.now (.int _)⟩
 ·cases e
  obtain⟨v,rfl,r1⟩:=rs.one_inv
  obtain⟨a,ws,rfl,h,hs⟩:=r1.tup_inv
  exact kZ pins s σ H _ us Q I r ⟨a,ws,rfl,.inr h,by rw [hs.length];exact q.now (.int _)⟩
 ·cases e
  obtain⟨v,rfl,r1⟩:=rs.one_inv
  obtain⟨a,ws,rfl,h,hs⟩:=r1.con_inv
  exact kZ pins s σ H _ us Q I r ⟨a,ws,rfl,.inl h.l,by rw [hs.length];exact q.now (.int _)⟩
 ·obtain⟨hz,e⟩:=dU e
  cases e
  obtain⟨v,rfl,r1⟩:=rs.one_inv
  exact zk4 pins s σ H _ us Q I r ⟨_,by rw [r1.is_str],hz,q.now (.int _)⟩
 ·cases e
def dL:tz6
 |[.int i,.int j]=>some (.int (if j>i then j else i))
 |_=>none
def dH:tz6
 |[.int i,.int j]=>some (.int (if j<i then j else i))
 |_=>none
theorem zl4(hc:X.calm=true):gB X (.builtin "max") (PCl X.K κ dL):=by
 rintro pins s σ H vs us Q I r ⟨ds,fp,d,rs,e,q⟩
 unfold dL at e
 split at e
 ·cases e
  obtain⟨v,u,f,g,rfl,r1,r2⟩:=rs.two_inv
  exact zd4 hc pins s σ H _ us Q I r ⟨_,_,by rw [r1.is_int,r2.is_int],q.now (.int _)⟩
 ·cases e
theorem zl5(hc:X.calm=true):gB X (.builtin "min") (PCl X.K κ dH):=by
 rintro pins s σ H vs us Q I r ⟨ds,fp,d,rs,e,q⟩
 unfold dH at e
 split at e
 ·cases e
  obtain⟨v,u,f,g,rfl,r1,r2⟩:=rs.two_inv
  exact yc2 hc pins s σ H _ us Q I r ⟨_,_,by rw [r1.is_int,r2.is_int],q.now (.int _)⟩
 ·cases e
def dTy:D->Option String
 | .non=>some "NoneType"
 | .bl _=>some "bool"
 | .int _=>some "int"
 | .str _=>some "str"
 | .lst _ _=>some "list"
 | .tup _=>some "tuple"
 | .dic true _ _=>some "dict"
 |_=>none
def gJ:tz6
 |[x,.ty c]=>(dTy x).bind fun t=>if c∈["bool","int","str","list","tuple","dict"] then some (.bl (gS t c)) else none
 |_=>none
theorem yz0{K:tz0}{H:Hp}{v:V}{d:D}{fp:List Addr}{t:String}(r:Rep K κ H v d fp)(h:dTy d=some t):(sQ H v=some t\/(t="tuple"/\∃a xs,v= .ref a/\SqT K H a xs)):=by
 cases r with
 |non=>cases h;exact .inl rfl
 |bl _=>cases h;exact .inl rfl
 |int _=>cases h;exact .inl rfl
 |str _=>cases h;exact .inl rfl
 |tup s _=>cases h;exact .inr ⟨rfl,_,_,rfl,s⟩
 |lst s _=>cases h;exact .inl (by simp [sQ,s])
 |lstF s _=>cases h;exact .inl (by simp [sQ,s])
 |dic s _ _=>cases h;exact .inl (by simp [sQ,s])
 |_=>cases h
theorem rA:gB X (.builtin "isinstance") (PCl X.K κ gJ):=by
 rintro pins s σ H vs us Q I r ⟨ds,fp,d,rs,e,q⟩
 unfold gJ at e
 split at e
 ·obtain⟨t,e1,e2⟩:=bind_some e
  obtain⟨hc,e3⟩:=dU e2
  cases e3
  obtain⟨v,u,f,g,rfl,r1,r2⟩:=rs.two_inv
  cases r2
  rcases yz0 r1 e1 with h|⟨rfl,a,xs,rfl,h⟩
  ·exact yk5 pins s σ H _ us Q I r ⟨_,_,t,rfl,h,hc,q.now (.bl _)⟩
  ·obtain⟨u1,u2,rfl,rx,rc⟩:=zi1 r
   cases(show u2=Value.type _ from rc)
   cases(show u1=Value.ref a from rx)
   obtain⟨its,rv,⟨o,h1,h2,_⟩,_⟩:=I.tuple h
   exact PySem.W.kia_one PySem.W.kitx_tuple I.kIn ⟨o,h1,h2⟩ (zk5 X.K "tuple" (by decide) _ hc) (fun z=>nomatch z) fun tk=>⟨.bl _,H,I.tok tk,rfl,q.now (.bl _)⟩
 ·cases e
def cM:tz6
 |[.lst _ xs]=>if D.imms xs=true then some (.lst true xs) else none
 |[.tup xs]=>some (.lst true xs)
 |_=>none
theorem zl6:gB X (.type "list") (PCl X.K κ cM):=by
 rintro pins s σ H vs us Q I r ⟨ds,fp,d,rs,e,q⟩
 unfold cM at e
 split at e
 ·obtain⟨hc,e⟩:=dU e
  cases e
  obtain⟨v,rfl,r1⟩:=rs.one_inv
  obtain⟨a,ws,g,rfl,h,hs,_⟩:=r1.lst_inv
  exact uY pins s σ H _ us Q I r ⟨a,ws,rfl,.inl (.inl h),fun p hp=>qC hp (hs.pair hc) q⟩
 ·cases e
  obtain⟨v,rfl,r1⟩:=rs.one_inv
  obtain⟨a,ws,rfl,h,hs⟩:=r1.tup_inv
  exact uY pins s σ H _ us Q I r ⟨a,ws,rfl,.inr h,fun p hp=>qC hp hs.nilp q⟩
 ·cases e
def bK:tz6
 |[.lst _ xs]=>if D.imms xs=true then some (.tup xs) else none
 |[.tup xs]=>some (.tup xs)
 |_=>none
theorem lV:gB X (.type "tuple") (PCl X.K κ bK):=by
 rintro pins s σ H vs us Q I r ⟨ds,fp,d,rs,e,q⟩
 unfold bK at e
 split at e
 ·obtain⟨hc,e⟩:=dU e
  cases e
  obtain⟨v,rfl,r1⟩:=rs.one_inv
  obtain⟨a,ws,g,rfl,h,hs,_⟩:=r1.lst_inv
  exact uS pins s σ H _ us Q I r ⟨a,ws,rfl,.inl ⟨.inl h,fun p hp=>vW hp (hs.pair hc) q⟩⟩
 ·cases e
  obtain⟨v,rfl,r1⟩:=rs.one_inv
  obtain⟨a,ws,rfl,h,hs⟩:=r1.tup_inv
  exact uS pins s σ H _ us Q I r ⟨a,ws,rfl,.inr ⟨h,q.now (.tup h hs)⟩⟩
 ·cases e
def cH:tz6
 |[.int i]=>some (.int i)
 |[.bl k]=>some (.int (if k then 1 else 0))
 |_=>none
theorem yR:gB X (.type "int") (PCl X.K κ cH):=by
 rintro pins s σ H vs us Q I r ⟨ds,fp,d,rs,e,q⟩
 unfold cH at e
 split at e
 ·cases e
  obtain⟨v,rfl,r1⟩:=rs.one_inv
  exact zd5 pins s σ H _ us Q I r (.inl ⟨_,by rw [r1.is_int],q.now (.int _)⟩)
 ·cases e
  obtain⟨v,rfl,r1⟩:=rs.one_inv
  exact zd5 pins s σ H _ us Q I r (.inr ⟨_,by rw [r1.is_bl],q.now (.int _)⟩)
 ·cases e
def D.strs:List D->Option (List Str)
 |[]=>some []
 | .str b::ds=>(D.strs ds).map (b::·)
 |_::_=>none
end
structure Fx where
 K:tz0
 κ:tz9
 bor:Nat->Bool
 M:Nat->Bool
 B:Nat->Addr->Prop
structure RS(φ:Fx)(H:Hp)(σ:St)(ps:PSt)(F:Nat->List Addr):Prop where
 rep:∀(i:Nat) (d:D),ps[i]? =some (some d)->∃v fp,σ[i]? =some (some v)/\Rep φ.K φ.κ H v d fp/\(φ.bor i=false->fp=F i)/\(φ.bor i=true->∀a∈fp,φ.B i a)
 emp:∀i a,a∈F i->φ.bor i=false/\∃d,ps[i]? =some (some d)
 dis:∀i j a,a∈F i->a∈F j->i=j
 nd:∀i,(F i).Nodup
 nb:∀i a,a∈F i->∀k,¬φ.B k a
 bt:∀k a,φ.B k a->H a≠none
 len:ps.length<=σ.length
structure Frm(F:Nat->List Addr)(H H':Hp):Prop where
 keep:∀a o,H a=some o->kd o=true->(∀i,a∉F i)->H' a=some o
 grow:∀a,H' a=none->H a=none
structure Stp(φ:Fx)(σ:St)(H:Hp)(F:Nat->List Addr)(σ':St)(H':Hp)(ps':PSt)(F':Nat->List Addr):Prop where
 fr:Frm F H H'
 nw:∀i a,a∈F' i->(∃j,a∈F j)\/H a=none
 rs:RS φ H' σ' ps' F'
 msk:∀i,φ.M i=true->σ'[i]? =σ[i]?
structure OwnV(F:Nat->List Addr)(H:Hp)(F':Nat->List Addr)(fv:List Addr):Prop where
 nw:∀a∈fv,(∃j,a∈F j)\/H a=none
 nd:fv.Nodup
 dis:∀i,∀a∈F' i,a∉fv
section
variable{φ:Fx}{H H' H1 H2:Hp}{σ σ1 σ2:St}{ps ps1 ps2:PSt}{F F1 F2:Nat->List Addr}
theorem RS.own(R:RS φ H σ ps F){i:Nat}{a:Addr}(h:a∈F i):∃o,H a=some o/\kd o=true/\tf o=false:=by
 obtain⟨b,d,e⟩:=R.emp i a h
 obtain⟨v,fp,_,r,q,_⟩:=R.rep i d e
 rw [<-q b] at h
 exact r.own a h
theorem RS.ws(R:RS φ H σ ps F):WS φ.K φ.κ H σ ps:=fun i d h=>by
 obtain⟨v,fp,h1,h2,_⟩:=R.rep i d h
 exact⟨v,fp,h1,h2⟩
theorem RS.same(R:RS φ H σ ps F)(s:SameK H H'):RS φ H' σ ps F:=
 ⟨fun i d h=>by obtain⟨v,fp,h1,h2,h3⟩:=R.rep i d h;exact⟨v,fp,h1,h2.same s,h3⟩,R.emp,R.dis,R.nd,R.nb,fun k a h z=>R.bt k a h (s.grow a z),R.len⟩
theorem RS.notB(R:RS φ H σ ps F){a:Addr}(h:(∃j,a∈F j)\/H a=none):∀k,¬φ.B k a:=fun k hb=>h.elim (fun⟨j,hj⟩=>R.nb j a hj k hb) fun z=>R.bt k a hb z
theorem Stp.same(R:RS φ H σ ps F)(s:SameK H H'):Stp φ σ H F σ H' ps F:=
 ⟨⟨fun a o h k _=>s.keep a o h k,s.grow⟩,fun i a h=> .inl ⟨i,h⟩,R.same s,fun _ _=>rfl⟩
theorem Stp.refl(R:RS φ H σ ps F):Stp φ σ H F σ H ps F:= .same R (.refl H)
theorem Stp.trans(s1:Stp φ σ H F σ1 H1 ps1 F1)(s2:Stp φ σ1 H1 F1 σ2 H2 ps2 F2):Stp φ σ H F σ2 H2 ps2 F2:=by
 refine⟨⟨fun a o h k n=>s2.fr.keep a o (s1.fr.keep a o h k n) k fun i hi=> ?_,fun a h=>s1.fr.grow a (s2.fr.grow a h)⟩,fun i a h=> ?_,s2.rs,fun i h=>(s2.msk i h).trans (s1.msk i h)⟩
 ·rcases s1.nw i a hi with ⟨j,hj⟩|z
  ·exact n j hj
  ·rw [h] at z;cases z
 ·rcases s2.nw i a h with ⟨j,hj⟩|z
  ·exact s1.nw j a hj
  ·exact .inr (s1.fr.grow a z)
theorem OwnV.after{fv:List Addr}(s1:Stp φ σ H F σ1 H1 ps1 F1)(o:OwnV F1 H1 F2 fv):OwnV F H F2 fv:=
 ⟨fun a ha=>(o.nw a ha).elim (fun⟨j,hj⟩=>s1.nw j a hj) fun z=> .inr (s1.fr.grow a z),o.nd,o.dis⟩
theorem OwnV.new{fv:List Addr}(R:RS φ H σ ps F)(n:∀a∈fv,H a=none)(nd:fv.Nodup):OwnV F H F fv:=
 ⟨fun a ha=> .inr (n a ha),nd,fun i a ha hb=>by obtain⟨o,h,_⟩:=R.own ha;rw [n a hb] at h;cases h⟩
def rM(F:Nat->List Addr)(i:Nat)(fv:List Addr):Nat->List Addr:=fun j=>if j=i then fv else F j
theorem hG{i:Nat}{fv:List Addr}:rM F i fv i=fv:=by simp [rM]
theorem hV{i j:Nat}{fv:List Addr}(h:j≠i):rM F i fv j=F j:=by simp [rM,h]
theorem lL{i:Nat}{fv:List Addr}{j:Nat}{a:Addr}(h:a∈rM F i fv j):a∈fv\/a∈F j:=by
 by_cases e:j=i
 ·subst e;rw [hG] at h;exact .inl h
 ·rw [hV e] at h;exact .inr h
theorem RS.drop(R:RS φ H σ ps F)(i:Nat):RS φ H σ (ps.set i none) (rM F i []):=by
 have eF:∀j a,a∈rM F i [] j->j≠i/\a∈F j:=fun j a h=>by
  by_cases e:j=i
  ·subst e;rw [hG] at h;exact absurd h (by simp)
  ·rw [hV e] at h;exact⟨e,h⟩
 refine⟨fun j d h=> ?_,fun j a h=> ?_,fun j k a h1 h2=>R.dis j k a (eF j a h1).2 (eF k a h2).2,fun j=> ?_,fun j a h=>R.nb j a (eF j a h).2,R.bt,by simpa using R.len⟩
 ·have e:j≠i:=by
   rintro rfl
   by_cases hj:j<ps.length
   ·rw [List.getElem?_set_self hj] at h;cases h
   ·rw [List.getElem?_eq_none (by simpa using hj)] at h;cases h
  rw [List.getElem?_set_ne (fun z=>e z.symm)] at h
  rw [hV e]
  exact R.rep j d h
 ·obtain⟨e,h⟩:=eF j a h
  obtain⟨b,d,q⟩:=R.emp j a h
  exact⟨b,d,by rw [List.getElem?_set_ne (fun z=>e z.symm)];exact q⟩
 ·by_cases e:j=i
  ·subst e;rw [hG];exact List.nodup_nil
  ·rw [hV e];exact R.nd j
theorem RS.set(R:RS φ H σ ps F){i:Nat}{v:V}{d:D}{fv:List Addr}(r:Rep φ.K φ.κ H v d fv)(hb:φ.bor i=false\/fv=[])(hd:∀j,j≠i->∀a∈F j,a∉fv)(hn:fv.Nodup)(hB:∀a∈fv,∀k,¬φ.B k a):
  RS φ H (σ.set i (some v)) (ps.set i (some d)) (rM F i (if i<ps.length then fv else [])):=by
 by_cases hi:i<ps.length
 ·rw [if_pos hi]
  have hl:=R.len
  refine⟨fun j d' h=> ?_,fun j a h=> ?_,fun j k a h1 h2=> ?_,fun j=> ?_,fun j a h=> ?_,R.bt,by simpa using R.len⟩
  ·by_cases e:j=i
   ·subst e
    rw [List.getElem?_set_self hi] at h
    cases h
    refine⟨v,fv,by rw [List.getElem?_set_self (by omega)],r,fun _=>hG.symm,fun z=> ?_⟩
    rcases hb with q|q
    ·rw [q] at z;cases z
    ·subst q;intro a ha;exact absurd ha (by simp)
   ·rw [List.getElem?_set_ne (fun z=>e z.symm)] at h|-
    rw [hV e]
    exact R.rep j d' h
  ·by_cases e:j=i
   ·subst e
    rw [hG] at h
    refine⟨?_,d,by rw [List.getElem?_set_self hi]⟩
    rcases hb with q|q
    ·exact q
    ·subst q;exact absurd h (by simp)
   ·rw [hV e] at h
    obtain⟨b,d',q⟩:=R.emp j a h
    exact⟨b,d',by rw [List.getElem?_set_ne (fun z=>e z.symm)];exact q⟩
  ·by_cases e1:j=i
   ·by_cases e2:k=i
    ·rw [e1,e2]
    ·subst e1;rw [hG] at h1;rw [hV e2] at h2;exact absurd h1 (hd k e2 a h2)
   ·by_cases e2:k=i
    ·subst e2;rw [hG] at h2;rw [hV e1] at h1;exact absurd h2 (hd j e1 a h1)
    ·rw [hV e1] at h1;rw [hV e2] at h2;exact R.dis j k a h1 h2
  ·by_cases e:j=i
   ·subst e;rw [hG];exact hn
   ·rw [hV e];exact R.nd j
  ·rcases lL h with z|z
   ·exact hB a z
   ·exact R.nb j a z
 ·rw [if_neg hi]
  have e0:ps.set i (some d)=ps:=List.set_eq_of_length_le (by omega)
  rw [e0]
  have R':=R.drop i
  rw [List.set_eq_of_length_le (by omega)] at R'
  refine⟨fun j d' h=> ?_,R'.emp,R'.dis,R'.nd,R'.nb,R'.bt,by simpa using R.len⟩
  have hj:j≠i:=by
   rintro rfl
   have:=(List.getElem?_eq_some_iff.mp h).1
   omega
  rw [List.getElem?_set_ne (fun z=>hj z.symm)]
  exact R'.rep j d' h
theorem Stp.set{fv:List Addr}{i:Nat}{v:V}{d:D}(s1:Stp φ σ H F σ1 H1 ps1 F1)(o:OwnV F H F1 fv)(R:RS φ H σ ps F)(r:Rep φ.K φ.κ H1 v d fv)(hb:φ.bor i=false\/fv=[])(hm:φ.M i=false):
  ∃F',Stp φ σ H F (σ1.set i (some v)) H1 (ps1.set i (some d)) F':=by
 refine⟨_,s1.fr,fun j a h=> ?_,s1.rs.set r hb (fun j _=>o.dis j) o.nd fun a ha=>R.notB (o.nw a ha),fun j h=> ?_⟩
 ·rcases lL h with z|z
  ·by_cases k:i<ps1.length
   ·rw [if_pos k] at z;exact o.nw a z
   ·rw [if_neg k] at z;exact absurd z (by simp)
  ·exact s1.nw j a z
 ·rw [List.getElem?_set_ne (fun z=>by subst z;rw [hm] at h;cases h)]
  exact s1.msk j h
end
inductive Fl where
 |nx|bk|ct|ret (d:D)
abbrev _root_.tz1:=PSt->Option (Fl×PSt)
def wM(φ:Fx)(E:Ends)(σ:St)(H:Hp)(F:Nat->List Addr)(fl:Fl)(ps':PSt):Prop:=match fl with
 | .nx=>∀σ' H' F',Stp φ σ H F σ' H' ps' F'->E.nx σ' H'
 | .bk=>∀σ' H' F',Stp φ σ H F σ' H' ps' F'->E.bk σ' H'
 | .ct=>∀σ' H' F',Stp φ σ H F σ' H' ps' F'->E.ct σ' H'
 | .ret d=>∀v σ' H' F' fv,Stp φ σ H F σ' H' ps' F'->OwnV F H F' fv->Rep φ.K φ.κ H' v d fv->E.rt v H'
def tS(φ:Fx)(f:tz1):TS:=fun E σ H=>∃ps F fl ps',RS φ H σ ps F/\f ps=some (fl,ps')/\wM φ E σ H F fl ps'
def tE(φ:Fx)(f:tz8):TE:=fun σ H Q=>∃ps F d ps',RS φ H σ ps F/\f ps=some (d,ps')/\∀v H' F' fv,Stp φ σ H F σ H' ps' F'->OwnV F H F' fv->Rep φ.K φ.κ H' v d fv->Q v H'
def tTE(φ:Fx)(f:PSt->Option (Bool×PSt)):TT:=fun σ H Q=>∃ps F b ps',RS φ H σ ps F/\f ps=some (b,ps')/\∀H' F',Stp φ σ H F σ H' ps' F'->Q b H'
structure F0 where
 bor:Nat->Bool
 M:Nat->Bool
 B:Nat->Addr->Prop
def F0.fx(φ:F0)(K:tz0)(κ:tz9):Fx:=⟨K,κ,φ.bor,φ.M,φ.B⟩
abbrev QS(X:Cx)(κ:tz9)(φ:F0)(st:Stmt)(f:tz1):Prop:=PS X st (tS (φ.fx X.K κ) f)
abbrev QSs(X:Cx)(κ:tz9)(φ:F0)(st:List Stmt)(f:tz1):Prop:=PSs X st (tS (φ.fx X.K κ) f)
abbrev QE(X:Cx)(κ:tz9)(φ:F0)(e:Expr)(f:tz8):Prop:=PE X e (tE (φ.fx X.K κ) f)
abbrev QTE(X:Cx)(κ:tz9)(φ:F0)(e:Expr)(f:PSt->Option (Bool×PSt)):Prop:=PT X e (tTE (φ.fx X.K κ) f)
theorem xC{φ:Fx}{f:tz1}{E:Ends}{σ σ1:St}{H H1:Hp}{F F1:Nat->List Addr}{ps1 ps2:PSt}{fl:Fl}(s1:Stp φ σ H F σ1 H1 ps1 F1)(e:f ps1=some (fl,ps2))(q:wM φ E σ H F fl ps2):tS φ f E σ1 H1:=by
 refine⟨ps1,F1,fl,ps2,s1.rs,e,?_⟩
 cases fl with
 |nx=>exact fun σ' H' F' s=>q σ' H' F' (s1.trans s)
 |bk=>exact fun σ' H' F' s=>q σ' H' F' (s1.trans s)
 |ct=>exact fun σ' H' F' s=>q σ' H' F' (s1.trans s)
 |ret d=>exact fun v σ' H' F' fv s o r=>q v σ' H' F' fv (s1.trans s) (o.after s1) r
def aJ:tz1:=fun ps=>some (.nx,ps)
def aI(f g:tz1):tz1:=fun ps=>(f ps).bind fun r=>match r with
 |(.nx,ps')=>g ps'
 |(.bk,ps')=>some (.bk,ps')
 |(.ct,ps')=>some (.ct,ps')
 |(.ret d,ps')=>some (.ret d,ps')
def qT:tz1:=fun _=>none
section
variable{X:Cx}{κ:tz9}{φ:F0}{st:Stmt}{bY:List Stmt}{f g:tz1}{pos:Pos}
theorem eC:QSs X κ φ [] aJ:=vR.imp fun E σ H ⟨ps,F,fl,ps',R,e,q⟩=>by cases e;exact q σ H F (.refl R)
theorem bI(h:QS X κ φ st f):QSs X κ φ [st] f:=qB h
theorem bE(h1:QS X κ φ st f)(h2:QSs X κ φ bY g):QSs X κ φ (st::bY) (aI f g):=
 (jG h1 h2).imp fun E σ H hh_=>by
  obtain⟨ps,F,fl,ps',R,e,q⟩:=hh_
  obtain⟨⟨fl1,ps1⟩,e1,e2⟩:=bind_some e
  refine⟨ps,F,fl1,ps1,R,e1,?_⟩
  cases fl1 with
  |nx=>exact fun σ' H' F' s=>xC s e2 q
  |bk=>cases e2;exact q
  |ct=>cases e2;exact q
  |ret d=>cases e2;exact q
theorem tD:QS X κ φ st qT:=yi8.imp fun E σ H ⟨ps,F,fl,ps',R,e,q⟩=>by cases e
def aF(f:tz2):tz8:=fun ps=>(f ps).bind fun d=>some (d,ps)
theorem QP.e{e:Expr}{f:tz2}(h:PE X e (tP X.K κ f)):QE X κ φ e (aF f):=h.imp fun σ H Q hh_=>by
 obtain⟨ps,F,d,ps',R,e,q⟩:=hh_
 obtain⟨d1,e1,e2⟩:=bind_some e
 cases e2
 exact⟨ps,_,R.ws,e1,fun v H' fv s n nd r=>q v H' F fv (.same R s) (.new R n nd) r⟩
def aG(f:tz4):PSt->Option (Bool×PSt):=fun ps=>(f ps).bind fun d=>some (d,ps)
theorem QT.e{e:Expr}{f:tz4}(h:PT X e (tQ X.K κ f)):QTE X κ φ e (aG f):=h.imp fun σ H Q hh_=>by
 obtain⟨ps,F,d,ps',R,e,q⟩:=hh_
 obtain⟨d1,e1,e2⟩:=bind_some e
 cases e2
 exact⟨ps,_,R.ws,e1,fun H' s=>q H' F (.same R s)⟩
def aM(i:Nat)(f:tz8):tz1:=fun ps=>(f ps).bind fun r=>some (.nx,r.2.set i (some r.1))
theorem dP(i:Nat){x:Str}{e:Expr}{pos':Pos}{f:tz8}(hN:X.N.Nodup)(hi:X.N[i]? =some x)(hx:Loc X.env.scope x)(hb:φ.bor i=false)(hm:φ.M i=false)(he:QE X κ φ e f)(hs:swapsWith e (some (.Name x pos')) pos.line X.env=pure false:=by rfl)(hf:X.fn x=true\/X.env.scope.names.lookup x=some .local:=by first|exact .inl rfl|exact .inr rfl|assumption):
  QS X κ φ (.Assign [.Name x pos'] e pos) (aM i f):=(rS hN hi hx he hs hf).imp fun E σ H hh_=>by
 obtain⟨ps,F,fl,ps',R,e,q⟩:=hh_
 obtain⟨⟨d,ps1⟩,e1,e2⟩:=bind_some e
 cases e2
 refine⟨ps,F,d,ps1,R,e1,fun v H' F' fv s o r=> ?_⟩
 obtain⟨F2,s2⟩:=s.set o R r (.inl hb) hm (i:=i)
 exact q _ _ F2 s2
def cU(i:Nat)(f:tz8):tz1:=fun ps=>(f ps).bind fun r=>if r.1.imm=true then some (.nx,r.2.set i (some r.1)) else none
def aR(f:tz8):tz1:=fun ps=>(f ps).bind fun r=>some (.nx,r.2)
theorem fP{e:Expr}{f:tz8}(he:QE X κ φ e f)(hs:swapsWith e none pos.line X.env=pure false:=by rfl):QS X κ φ (.Expr e pos) (aR f):=(zs3 he hs).imp fun E σ H hh_=>by
 obtain⟨ps,F,fl,ps',R,e,q⟩:=hh_
 obtain⟨⟨d,ps1⟩,e1,e2⟩:=bind_some e
 cases e2
 exact⟨ps,F,d,ps1,R,e1,fun v H' F' fv s o r=>q _ _ F' s⟩
def aZ(f:tz8):tz1:=fun ps=>(f ps).bind fun r=>some (.ret r.1,r.2)
theorem eB{e:Expr}{f:tz8}(he:QE X κ φ e f):QS X κ φ (.Return (some e) pos) (aZ f):=(qF he).imp fun E σ H hh_=>by
 obtain⟨ps,F,fl,ps',R,e,q⟩:=hh_
 obtain⟨⟨d,ps1⟩,e1,e2⟩:=bind_some e
 cases e2
 exact⟨ps,F,d,ps1,R,e1,fun v H' F' fv s o r=>q v σ H' F' fv s o r⟩
def bQ:tz1:=fun ps=>some (.ret .non,ps)
def cN(i:Nat):tz1:=fun ps=>((ps[i]?).join).bind fun d=>some (.ret d,ps.set i none)
theorem iR{ps:PSt}{i:Nat}{d:D}(h:(ps[i]?).join=some d):ps[i]? =some (some d):=by
 cases q:ps[i]? with
 |none=>rw [q] at h;cases h
 |some o=>rw [q] at h;exact congrArg some h
theorem vX(i:Nat){x:Str}{p:Pos}(hb:φ.bor i=false)(hN:X.N[i]? =some x:=by rfl)(hv:Vis X.env.scope x:=by first|exact Or.inl rfl|exact Or.inr (Or.inl rfl)|exact Or.inr (Or.inr rfl))(hd:(x==("__debug__":Str))=false:=by decide)
  (hcd:(x==("__classdict__":Str))=false:=by decide):QS X κ φ (.Return (some (.Name x p)) pos) (cN i):=(qF (jX hN hv hd hcd)).imp fun E σ H hh_=>by
 obtain⟨ps,F,fl,ps',R,e,q⟩:=hh_
 obtain⟨d,e1,e2⟩:=bind_some e
 cases e2
 obtain⟨v,fp,h1,h2,h3,_⟩:=R.rep i d (iR e1)
 have h3:=h3 hb
 subst h3
 refine⟨v,h1,q v σ H (rM F i []) (F i) ⟨⟨fun a o h _ _=>h,fun a h=>h⟩,fun j a h=> ?_,R.drop i,fun _ _=>rfl⟩ ⟨fun a h=> .inl ⟨i,h⟩,R.nd i,fun j a h1 h2=> ?_⟩ h2⟩
 ·rcases lL h with z|z
  ·exact absurd z (by simp)
  ·exact .inl ⟨j,z⟩
 ·rcases lL h1 with z|z
  ·exact absurd z (by simp)
  ·have:=R.dis j i a z h2
   subst this
   rw [hG] at h1;exact absurd h1 (by simp)
def fIf(c:PSt->Option (Bool×PSt))(f g:tz1):tz1:=fun ps=>(c ps).bind fun r=>if r.1=true then f r.2 else g r.2
theorem eK{c:Expr}{a b:List Stmt}{tc:PSt->Option (Bool×PSt)}(hc:QTE X κ φ c tc)(ha:QSs X κ φ a f)(hb:QSs X κ φ b g):QS X κ φ (.If c a b pos) (fIf tc f g):=(yI hc ha hb).imp fun E σ H hh_=>by
 obtain⟨ps,F,fl,ps',R,e,q⟩:=hh_
 obtain⟨⟨k,ps1⟩,e1,e2⟩:=bind_some e
 refine⟨ps,F,k,ps1,R,e1,fun H' F' s=> ?_⟩
 cases k with
 |true=>rw [if_pos rfl] at e2|-;exact xC s e2 q
 |false=>rw [if_neg Bool.false_ne_true] at e2|-;exact xC s e2 q
end
def lT(c:PSt->Option (Bool×PSt))(f:tz1):Nat->tz1
 |0,_=>none
 | n+1,ps=>(c ps).bind fun r=>if r.1=true then(f r.2).bind fun q=>match q with
   |(.nx,p)=>lT c f n p
   |(.ct,p)=>lT c f n p
   |(.bk,p)=>some (.nx,p)
   |(.ret d,p)=>some (.ret d,p)
  else some (.nx,r.2)
section
variable{X:Cx}{φ:Fx}{pos:Pos}{body:List Stmt}{f:tz1}
theorem wM.back{E:Ends}{σ σ1:St}{H H1:Hp}{F F1:Nat->List Addr}{ps1 ps2:PSt}{fl:Fl}(s1:Stp φ σ H F σ1 H1 ps1 F1)(q:wM φ E σ H F fl ps2):wM φ E σ1 H1 F1 fl ps2:=by
 cases fl with
 |nx=>exact fun σ' H' F' s=>q σ' H' F' (s1.trans s)
 |bk=>exact fun σ' H' F' s=>q σ' H' F' (s1.trans s)
 |ct=>exact fun σ' H' F' s=>q σ' H' F' (s1.trans s)
 |ret d=>exact fun v σ' H' F' fv s o r=>q v σ' H' F' fv (s1.trans s) (o.after s1) r
def xi9(φ:Fx)(σ:St)(H:Hp)(F:Nat->List Addr)(tc:PSt->Option (Bool×PSt))(f:tz1)(fl:Fl)(ps':PSt)(m:Nat)(σ1:St)(H1:Hp):Prop:=∃ps1 F1,Stp φ σ H F σ1 H1 ps1 F1/\lT tc f m ps1=some (fl,ps')
theorem xD{κ:tz9}{φ:F0}(n:Nat){c:Expr}{tc:PSt->Option (Bool×PSt)}(hp:PassesOwn (model X.prog X.w) X.A X.env X.xe)(hc:QTE X κ φ c tc)(hb:QSs X κ φ body f):QS X κ φ (.While c body [] pos) (lT tc f n):=
 (yi9 hp hc hb).imp fun E σ H hh_=>by
  obtain⟨ps,F,fl,ps',R,e,q⟩:=hh_
  refine⟨xi9 (φ.fx X.K κ) σ H F tc f fl ps',⟨n,ps,F,.refl R,e⟩,?_⟩
  rintro m σ1 H1 ⟨ps1,F1,s1,e1⟩
  cases m with
  |zero=>cases e1
  | succ m=>
   rw [lT] at e1
   obtain⟨⟨k,ps2⟩,e2,e3⟩:=bind_some e1
   refine⟨ps1,F1,k,ps2,s1.rs,e2,fun H2 F2 s2=> ?_⟩
   have s12:=s1.trans s2
   cases k with
   |true=>
    dsimp only at e3|-
    rw [if_pos rfl] at e3|-
    obtain⟨⟨fl3,ps3⟩,e4,e5⟩:=bind_some e3
    refine⟨fun σ' H'=>∃F',Stp (φ.fx X.K κ) σ1 H2 F2 σ' H' ps3 F'/\lT tc f m ps3=some (fl,ps'),fun σ' H' ⟨F',s,e⟩=>⟨m,Nat.lt_succ_self m,ps3,F',s12.trans s,e⟩,?_⟩
    refine⟨ps2,F2,fl3,ps3,s2.rs,e4,?_⟩
    cases fl3 with
    |nx=>exact fun σ' H' F' s=>⟨F',s,e5⟩
    |ct=>exact fun σ' H' F' s=>⟨F',s,e5⟩
    |bk=>cases e5;exact fun σ' H' F' s=>q σ' H' F' (s12.trans s)
    |ret d=>cases e5;exact fun v σ' H' F' fv s o r=>q v σ' H' F' fv (s12.trans s) (o.after s12) r
   |false=>
    dsimp only at e3|-
    rw [if_neg Bool.false_ne_true] at e3|-
    cases e3
    exact q _ _ F2 s12
end
def rN(Z:List Addr)(H H':Hp):Prop:=∀a o,H a=some o->(tf o=true\/(kd o=true/\a∈Z))->H' a=some o
structure Walk(K:tz0)(κ:tz9)(J:It)(Z:List Addr)(H1:Hp)(ds:List D):Prop where
 go:∀H',rN Z H1 H'->∀(i:Nat) d,ds[i]? =some d->J.go i H'/\∀x H2,J.yld i H' x H2->H2=H'/\Rep K κ H' x d []
 stop:∀H',rN Z H1 H'->J.stop ds.length H'
def tIV(K:tz0)(κ:tz9)(f:tz3):TI:=fun σ H R=>∃ps ds,WS K κ H σ ps/\f ps=some ds/\∀J H1 Z,SameK H H1->Walk K κ J Z H1 ds->R J H1
def tIP(K:tz0)(κ:tz9)(f:tz3):TI:=fun σ H R=>∃ps ds,WS K κ H σ ps/\f ps=some ds/\∀J H1 Z,SameK H H1->(∀a∈Z,H a=none/\H1 a≠none)->Walk K κ J Z H1 ds->R J H1
theorem rN.sq{K:tz0}{Z:List Addr}{H H':Hp}{a:Addr}{vs:List V}(k:rN Z H H')(h:Rd H a (.lst vs))(hz:H a=some (.lst vs)->a∈Z):SqL K H' a vs:=by
 rcases h with h|⟨o,h⟩
 ·exact .inl (.inl (k a _ h (.inr ⟨rfl,hz h⟩)))
 ·exact .inl (.inr ⟨o,k a _ h (.inl rfl)⟩)
theorem rN.rep{K:tz0}{κ:tz9}{Z:List Addr}{H H':Hp}{v:V}{d:D}(k:rN Z H H')(r:Rep K κ H v d []):Rep K κ H' v d []:=r.move (fun a o h t=>k a o h (.inl t)) fun a ha=>absurd ha (by simp)
theorem tF{α β:Type}{R:α->β->Prop}:∀{l₁:List α} {l₂:List β} {i:Nat} {y:β},Paired R l₁ l₂->l₂[i]? =some y->∃x,l₁[i]? =some x/\R x y
 |_,_,_,_,.nil,e=>by simp at e
 |_,_,0,_,.cons h _,e=>by simp at e;subst e;exact⟨_,rfl,h⟩
 |_,_,i+1,_,.cons _ t,e=>by obtain⟨x,h1,h2⟩:=tF (i:=i) t (by simpa using e);exact⟨x,by simpa using h1,h2⟩
section
variable{K:tz0}{κ:tz9}{H1:Hp}{a:Addr}{vs:List V}{ds:List D}{Z:List Addr}
theorem ze6(h:Rd H1 a (.lst vs))(hz:H1 a=some (.lst vs)->a∈Z)(r:Paired (fun v d=>Rep K κ H1 v d []) vs ds):Walk K κ (Itl K a) Z H1 ds where
 go:=fun H' k i d e=>by
  obtain⟨x,e1,r1⟩:=tF r e
  have sq:SqL K H' a vs:=k.sq h hz
  refine⟨⟨vs,x,sq,e1⟩,fun y H2 hy=>⟨hy.1,?_⟩⟩
  have e2:=hy.2 vs sq
  rw [e1] at e2;cases e2
  exact k.rep r1
 stop:=fun H' k=>⟨vs,k.sq h hz,by rw [Paired.length r];exact Nat.le_refl _⟩
theorem yk7(h:SqF K H1 a vs)(r:Paired (fun v d=>Rep K κ H1 v d []) vs ds):Walk K κ (Itl K a) Z H1 ds where
 go:=fun H' k i d e=>by
  obtain⟨x,e1,r1⟩:=tF r e
  have sq:SqL K H' a vs:=(h.tf fun a o e t=>k a o e (.inl t)).l
  refine⟨⟨vs,x,sq,e1⟩,fun y H2 hy=>⟨hy.1,?_⟩⟩
  have e2:=hy.2 vs sq
  rw [e1] at e2;cases e2
  exact k.rep r1
 stop:=fun H' k=>⟨vs,(h.tf fun a o e t=>k a o e (.inl t)).l,by rw [Paired.length r];exact Nat.le_refl _⟩
theorem yk8(h:SqT K H1 a vs)(r:Paired (fun v d=>Rep K κ H1 v d []) vs ds):Walk K κ (Itt K a) Z H1 ds where
 go:=fun H' k i d e=>by
  obtain⟨x,e1,r1⟩:=tF r e
  have sq:SqT K H' a vs:=h.tf fun a o e t=>k a o e (.inl t)
  refine⟨⟨vs,x,sq,e1⟩,fun y H2 hy=>⟨hy.1,?_⟩⟩
  have e2:=hy.2 vs sq
  rw [e1] at e2;cases e2
  exact k.rep r1
 stop:=fun H' k=>⟨vs,h.tf fun a o e t=>k a o e (.inl t),by rw [Paired.length r];exact Nat.le_refl _⟩
end
def hX(lo:Int)(n:Nat):List D:=(List.range n).map fun(k:Nat)=> .int (lo+(k:Int))
theorem yS{K:tz0}{κ:tz9}{H1:Hp}{Z:List Addr}(lo:Int)(n:Nat):Walk K κ (Itr lo n) Z H1 (hX lo n) where
 go:=fun H' _ i d e=>by
  have hi:=(List.getElem?_eq_some_iff.mp e).1
  unfold hX at hi e
  rw [List.length_map,List.length_range] at hi
  rw [List.getElem?_map,List.getElem?_range hi] at e
  cases e
  exact⟨hi,fun x H2 ⟨h1,h2⟩=>⟨h1,by rw [h2];exact .int _⟩⟩
 stop:=fun H' _=>by
  show n<=(hX lo n).length
  unfold hX
  rw [List.length_map,List.length_range];exact Nat.le_refl _
abbrev QIV(X:Cx)(κ:tz9)(tg iter:Expr)(f:tz3):Prop:=PI X tg iter (tIV X.K κ f)
abbrev QIP(X:Cx)(κ:tz9)(tg iter:Expr)(f:tz3):Prop:=PI X tg iter (tIP X.K κ f)
theorem PI.imp{X:Cx}{tg e:Expr}{t t':TI}(h:PI X tg e t)(k:∀σ H Q,t' σ H Q->t σ H Q):PI X tg e t':=fun pins s σ H Q I q=>h pins s σ H Q I (k σ H Q q)
theorem QIP.v{X:Cx}{κ:tz9}{tg iter:Expr}{f:tz3}(h:QIP X κ tg iter f):QIV X κ tg iter f:=PI.imp h fun σ H R ⟨ps,ds,w,e,q⟩=>⟨ps,ds,w,e,fun J H1 Z s _ k=>q J H1 Z s k⟩
section
variable{X:Cx}{κ:tz9}{tg l a b:Expr}{f:tz2}{g:tz3}{p pos:Pos}
def fS:List D->Option (List D)
 |[.int j]=>if (-(2^62)<=j/\j<2^62) then some (hX 0 j.toNat) else none
 |_=>none
def fV:List D->Option (List D)
 |[.int i,.int j]=>if (-(2^62)<=i/\i<2^62/\ -(2^62)<=j/\j<2^62) then some (hX i (j-i).toNat) else none
 |_=>none
def eG(g:tz3):tz3:=fun ps=>(g ps).bind fS
def fH(g:tz3):tz3:=fun ps=>(g ps).bind fV
theorem mH(hg:Gl X "range")(hm:X.mg "range"=none)(ha:QVA X κ [a] g)(hs:starEach [a] X.env=[(false,eval a X.env)]:=by rfl):QIP X κ tg (.Call (.Name "range" p) [a] [] pos) (eG g):=
 PI.imp (yb7 hg hm ha hs) fun σ H R hh_=>by
  obtain⟨ps,ds,w,e,q⟩:=hh_
  obtain⟨as,e1,e2⟩:=bind_some e
  refine⟨ps,as,w,e1,fun vs H1 fp s1 r1=> ?_⟩
  unfold fS at e2
  split at e2
  ·obtain⟨hc,e3⟩:=dU e2
   cases e3
   obtain⟨v,rfl,r⟩:=r1.one_inv
   exact⟨_,by rw [r.is_int],hc.1,hc.2,q _ H1 [] s1 (fun _ h=>absurd h (by simp)) (yS _ _)⟩
  ·cases e2
theorem vC(hg:Gl X "range")(hm:X.mg "range"=none)(ha:QVA X κ [a,b] g)(hs:starEach [a,b] X.env=[(false,eval a X.env),(false,eval b X.env)]:=by rfl)(hs2:starEach [b] X.env=[(false,eval b X.env)]:=by rfl):QIP X κ tg (.Call (.Name "range" p) [a,b] [] pos) (fH g):=
 PI.imp (yb8 hg hm ha hs hs2) fun σ H R hh_=>by
  obtain⟨ps,ds,w,e,q⟩:=hh_
  obtain⟨as,e1,e2⟩:=bind_some e
  refine⟨ps,as,w,e1,fun vs H1 fp s1 r1=> ?_⟩
  unfold fV at e2
  split at e2
  ·obtain⟨hc,e3⟩:=dU e2
   cases e3
   obtain⟨v,u,f,g,rfl,r,r'⟩:=r1.two_inv
   exact⟨_,_,by rw [r.is_int,r'.is_int],hc,q _ H1 [] s1 (fun _ h=>absurd h (by simp)) (yS _ _)⟩
  ·cases e2
def xj0(K:tz0)(tl:TE):TI:=fun σ H R=>tl σ H fun x H1=>∃a,x= .ref a/\(((∃xs,SqL K H1 a xs)/\R (Itl K a) H1)\/((∃xs,SqT K H1 a xs)/\R (Itt K a) H1))
theorem ye2{tl:TE}(hl:PE X l tl):PI X tg l (xj0 X.K tl):=by
 intro pins s σ H R I h
 refine thn (hl pins s σ H _ I h) fun v s1 ⟨x,H1,I1,r1,q1⟩=> ?_
 obtain⟨a,e,q1⟩:=q1
 subst e
 cases r1
 rcases q1 with ⟨⟨xs,hq⟩,q⟩|⟨⟨xs,hq⟩,q⟩
 ·obtain⟨its,rv,p,hz⟩:=I1.list hq
  refine wpAny_pyIter_list p.isList ?_
  refine⟨s1.heap.objs.size,[s1.heap.objs.size],_,_,H1,rfl,I1.kept (t':=s1.toks) fun b o e=>Heap.get?_push_of_some _ e,yb6 a _,⟨_,Heap.get?_push_size _ rfl,rfl,rfl⟩,fun b hb=> ?_,q⟩
  have e:b=s1.heap.objs.size:=by simpa using hb
  subst e
  exact I1.fpOk (Nat.le_refl _) (I1.hok.fresh (Nat.le_refl _))
 ·obtain⟨its,rv,p,hz⟩:=I1.tuple hq
  refine wpAny_pyIter_tuple (show s1.heap.IsTuple a its.toArray from p) ?_
  refine⟨s1.heap.objs.size,[s1.heap.objs.size],_,_,H1,rfl,I1.kept (t':=s1.toks) fun b o e=>Heap.get?_push_of_some _ e,zv2 a _,⟨_,Heap.get?_push_size _ rfl,rfl,rfl⟩,fun b hb=> ?_,q⟩
  have e:b=s1.heap.objs.size:=by simpa using hb
  subst e
  exact I1.fpOk (Nat.le_refl _) (I1.hok.fresh (Nat.le_refl _))
def cO:D->Option (List D)
 | .lst _ xs=>if D.imms xs=true then some xs else none
 | .tup xs=>some xs
 | .con xs=>some xs
 |_=>none
theorem zt5{K:tz0}{H:Hp}{v:V}{d:D}{fp:List Addr}{ds:List D}{R:It->Hp->Prop}(r:Rep K κ H v d fp)(e:cO d=some ds)(q:∀J Z,(∀a∈Z,a∈fp)->Walk K κ J Z H ds->R J H):
  ∃a,v= .ref a/\(((∃xs,SqL K H a xs)/\R (Itl K a) H)\/((∃xs,SqT K H a xs)/\R (Itt K a) H)):=by
 cases d with
 |lst o xs=>
  obtain⟨hc,e⟩:=dU e
  cases e
  cases r with
  |lst h hs=>exact⟨_,rfl,.inl ⟨⟨_,.inl (.inl h)⟩,q _ [_] (fun a ha=>by simp at ha;subst ha;exact List.mem_cons_self) (ze6 (.inl h) (fun _=>by simp) (hs.pair hc))⟩⟩
  |lstF h hs=>exact⟨_,rfl,.inl ⟨⟨_,.inl (.inr ⟨_,h⟩)⟩,q _ [] (fun a ha=>absurd ha (by simp)) (ze6 (.inr ⟨_,h⟩) (fun z=>by rw [h] at z;cases z) (hs.pair hc))⟩⟩
 |tup xs=>
  cases e
  obtain⟨a,vs,rfl,h,hs⟩:=r.tup_inv
  exact⟨a,rfl,.inr ⟨⟨_,h⟩,q _ [] (fun a ha=>absurd ha (by simp)) (yk8 h hs.nilp)⟩⟩
 |con xs=>
  cases e
  obtain⟨a,vs,rfl,h,hs⟩:=r.con_inv
  exact⟨a,rfl,.inl ⟨⟨_,h.l⟩,q _ [] (fun a ha=>absurd ha (by simp)) (yk7 h hs.nilp)⟩⟩
 |_=>cases e
def dI(f:tz2):tz3:=fun ps=>(f ps).bind cO
end
def eM(i:Nat)(f:tz1):List D->tz1
 |[],ps=>some (.nx,ps)
 | d::ds,ps=>(f (ps.set i (some d))).bind fun q=>match q with
   |(.nx,p)=>eM i f ds p
   |(.ct,p)=>eM i f ds p
   |(.bk,p)=>some (.nx,p)
   |(.ret d,p)=>some (.ret d,p)
section
variable{X:Cx}{φ:Fx}{pos:Pos}{body:List Stmt}{f:tz1}
theorem Frm.kept{F:Nat->List Addr}{H H':Hp}{Z:List Addr}{σ:St}{ps:PSt}(R:RS φ H σ ps F)(k:Frm F H H')(hz:∀a∈Z,∀i,a∉F i):rN Z H H':=fun a o h t=>by
 rcases t with t|⟨t1,t2⟩
 ·refine k.keep a o h (nK t) fun i hi=> ?_
  obtain⟨o',h',_,t'⟩:=R.own hi
  rw [h] at h';cases h';rw [t] at t';cases t'
 ·exact k.keep a o h t1 (hz a t2)
def yp7(J:It)(E:Ends)(V:Nat->Nat->St->Hp->Prop)(g:TG)(tb:TS)(k m:Nat)(σ:St)(H:Hp):Prop:=
 (J.stop k H/\E.nx σ H)\/(J.go k H/\∃N:St->Hp->Prop,(∀σ' H',N σ' H'->∃m',m'<m/\V (k+1) m' σ' H')/\∀x H',J.yld k H x H'->g x σ H' fun σ2 H2=>tb {E with nx:=N,ct:=N,bk:=E.nx} σ2 H2)
def xj1(φ:Fx)(σ:St)(H:Hp)(F:Nat->List Addr)(i:Nat)(f:tz1)(ds:List D)(fl:Fl)(ps':PSt)(k m:Nat)(σ1:St)(H1:Hp):Prop:=k<=ds.length/\m=ds.length-k/\∃ps1 F1,Stp φ σ H F σ1 H1 ps1 F1/\eM i f (ds.drop k) ps1=some (fl,ps')
theorem zl7{E:Ends}{σ:St}{H:Hp}{F:Nat->List Addr}{ps ps':PSt}{fl:Fl}{ds:List D}{J:It}{Z:List Addr}{i:Nat}(R:RS φ H σ ps F)(hz:∀a∈Z,H a≠none/\∀i,a∉F i)(W:Walk φ.K φ.κ J Z H ds)(hb:φ.bor i=false)(hm:φ.M i=false)
  (e:eM i f ds ps=some (fl,ps')) (q:wM φ E σ H F fl ps'):∃V:Nat->Nat->St->Hp->Prop,(∃m,V 0 m σ H)/\∀k m σ H,V k m σ H->yp7 J E V (oM i) (tS φ f) k m σ H:=by
 refine⟨xj1 φ σ H F i f ds fl ps',⟨_,Nat.zero_le _,rfl,ps,F,.refl R,by rw [List.drop_zero];exact e⟩,?_⟩
 rintro k m σ1 H1 ⟨hk,rfl,ps1,F1,s1,e1⟩
 have kp:rN Z H H1:=s1.fr.kept R fun a ha=>(hz a ha).2
 by_cases hlt:k<ds.length
 ·right
  have ed:ds[k]? =some ds[k]:=List.getElem?_eq_getElem hlt
  obtain⟨hgo,hy⟩:=W.go H1 kp k _ ed
  rw [List.drop_eq_getElem_cons hlt,eM] at e1
  obtain⟨⟨fl2,ps2⟩,e2,e3⟩:=bind_some e1
  refine⟨hgo,fun σ' H'=>∃F',Stp φ σ H F σ' H' ps2 F'/\eM i f (ds.drop (k+1)) ps2=some (fl,ps'),fun σ' H' ⟨F',s,e⟩=>⟨ds.length-(k+1),by omega,hlt,rfl,ps2,F',s,e⟩,fun x H' y=> ?_⟩
  obtain⟨rfl,rx⟩:=hy x H' y
  obtain⟨F2,s2⟩:=(Stp.refl s1.rs).set (i:=i) (fv:=[]) (v:=x) (d:=ds[k]) ⟨fun _ h=>absurd h (by simp),List.nodup_nil,fun _ _ _ h=>absurd h (by simp)⟩ s1.rs rx (.inl hb) hm
  have s12:=s1.trans s2
  refine⟨_,F2,fl2,ps2,s2.rs,e2,?_⟩
  cases fl2 with
  |nx=>exact fun σ' H' F' s=>⟨F',s12.trans s,e3⟩
  |ct=>exact fun σ' H' F' s=>⟨F',s12.trans s,e3⟩
  |bk=>cases e3;exact fun σ' H' F' s=>q σ' H' F' (s12.trans s)
  |ret d=>cases e3;exact fun v σ' H' F' fv s o r=>q v σ' H' F' fv (s12.trans s) (o.after s12) r
 ·left
  have ek:k=ds.length:=by omega
  subst ek
  rw [List.drop_length,eM] at e1
  cases e1
  exact⟨W.stop H1 kp,q _ _ F1 s1⟩
def dG(i:Nat)(fi:tz3)(f:tz1):tz1:=fun ps=>(fi ps).bind fun ds=>eM i f ds ps
theorem qI{κ:tz9}{φ:F0}(i:Nat){x:Str}{px:Pos}{iter:Expr}{fi:tz3}(hp:PassesOwn (model X.prog X.w) X.A X.env X.xe)(hc:X.calm=true)(hN:X.N.Nodup)(hi:X.N[i]? =some x)(hx:Loc X.env.scope x)(hb:φ.bor i=false)(hm:φ.M i=false)
  (hit:PI X (.Name x px) iter (tIP X.K κ fi)) (hbd:QSs X κ φ body f) (hs:∀x,foldedSetIterable iter X.env x=pure x:=by intro _;rfl) (hf:X.fn x=true\/X.env.scope.names.lookup x=some .local:=by first|exact .inl rfl|exact .inr rfl|assumption):
  QS X κ φ (.For (.Name x px) iter body [] pos) (dG i fi f):=(zj9 hp hc hit (kX hN hi hx hf) hbd hs).imp fun E σ H hh_=>by
 obtain⟨ps,F,fl,ps',R,e,q⟩:=hh_
 obtain⟨ds,e1,e2⟩:=bind_some e
 refine⟨ps,ds,R.ws,e1,fun J H1 Z s1 hz W=> ?_⟩
 have s:=Stp.same R s1
 exact zl7 s.rs (fun a ha=>⟨(hz a ha).2,fun j hj=>by obtain⟨o,h,_⟩:=R.own hj;rw [(hz a ha).1] at h;cases h⟩) W hb hm e2 (q.back s)
def xc6(g:TG)(tb:TS)(E:Ends)(σ:St):It->Hp->Prop:=fun J H1=>∃W:Nat->Nat->St->Hp->Prop,(∃m,W 0 m σ H1)/\∀i m σ H,W i m σ H->
 (J.stop i H/\E.nx σ H)\/(J.go i H/\∃N:St->Hp->Prop,(∀σ' H',N σ' H'->∃m',m'<m/\W (i+1) m' σ' H')/\∀x H',J.yld i H x H'->g x σ H' fun σ2 H2=>tb {E with nx:=N,ct:=N,bk:=E.nx} σ2 H2)
theorem rY{κ:tz9}{φ:F0}(i j:Nat){x y:Str}{px py:Pos}(hp:PassesOwn (model X.prog X.w) X.A X.env X.xe)(hc:X.calm=true)(hN:X.N.Nodup)(hi:X.N[i]? =some x)(hx:Loc X.env.scope x)(hb:φ.bor i=false)(hm:φ.M i=false)(hj:φ.bor j=true)
  (hbd:QSs X κ φ body f) (hNj:X.N[j]? =some y:=by rfl) (hv:Vis X.env.scope y:=by first|exact Or.inl rfl|exact Or.inr (Or.inl rfl)|exact Or.inr (Or.inr rfl)) (hd:(y==("__debug__":Str))=false:=by decide)
  (hcd:(y==("__classdict__":Str))=false:=by decide) (hs:∀x,foldedSetIterable (.Name y py) X.env x=pure x:=by intro _;rfl) (hf:X.fn x=true\/X.env.scope.names.lookup x=some .local:=by first|exact .inl rfl|exact .inr rfl|assumption):
  QS X κ φ (.For (.Name x px) (.Name y py) body [] pos) (dG i (dI (aB j)) f):=(zj9 hp hc (ye2 (jX hNj hv hd hcd)) (kX hN hi hx hf) hbd hs).imp fun E σ H hh_=>by
 obtain⟨ps,F,fl,ps',R,e,q⟩:=hh_
 obtain⟨ds,e1,e2⟩:=bind_some e
 obtain⟨d,e3,e4⟩:=bind_some e1
 obtain⟨v,fp,h1,h2,_,h4⟩:=R.rep j d (iR e3)
 refine⟨v,h1,?_⟩
 refine zt5 (R:=xc6 (oM i) (tS (φ.fx X.K κ) f) E σ) h2 e4 fun J Z hz W=> ?_
 exact zl7 R (fun a ha=>⟨R.bt j a (h4 hj a (hz a ha)),fun k hk=>R.nb k a hk j (h4 hj a (hz a ha))⟩) W hb hm e2 q
end
def gP(np n:Nat)(f:tz1):tz6:=fun ds=>if ds.length=np then(f (ds.map some++List.replicate n none)).bind fun r=>match r with
 |(.ret d,_)=>some d
 |(.nx,_)=>some .non
 |_=>none
 else none
def SpP(np:Nat)(K:tz0)(κ:tz9)(g:tz6):Sp:=fun vs H Q _=>vs.length=np/\∃ds fp d,Reps K κ H vs ds fp/\g ds=some d/\mL K κ H d Q
def fxP(K:tz0)(κ:tz9)(np:Nat)(B:Nat->Addr->Prop):Fx:=⟨K,κ,fun i=>decide (i<np),fun _=>false,B⟩
def f0P(np:Nat)(B:Nat->Addr->Prop):F0:=⟨fun i=>decide (i<np),fun _=>false,B⟩
theorem ye3{N:List Str}{vs:List V}{i:Nat}{v:V}(h:vs[i]? =some v):(start N vs)[i]? =some (some v):=by
 unfold start
 have hi:=(List.getElem?_eq_some_iff.mp h).1
 rw [List.getElem?_append_left (by simpa using hi),List.getElem?_map,h];rfl
theorem RS.start{K:tz0}{κ:tz9}{H:Hp}{N:List Str}{vs:List V}{ds:List D}{fp:List Addr}{np:Nat}(r:Reps K κ H vs ds fp)(hl:vs.length=np)(hn:np<=N.length):
  RS (fxP K κ np (fun _ a=>a∈fp)) H (start N vs) (ds.map some++List.replicate (N.length-np) none) (fun _=>[]):=by
 have el:=r.length
 refine⟨fun i d h=> ?_,fun i a h=>absurd h (by simp),fun i j a h=>absurd h (by simp),fun i=>List.nodup_nil,fun i a h=>absurd h (by simp),fun k a h z=> ?_,?_⟩
 ·by_cases hi:i<ds.length
  ·rw [List.getElem?_append_left (by simpa using hi),List.getElem?_map] at h
   cases e:ds[i]? with
   |none=>rw [e] at h;cases h
   |some d'=>
    rw [e] at h;cases h
    obtain⟨v,f,h1,h2,h3⟩:=r.get e
    refine⟨v,f,ye3 h1,h2,fun z=> ?_,fun _=>h3⟩
    exact absurd (of_decide_eq_false z) (by omega)
  ·rw [List.getElem?_append_right (by simpa using hi),List.getElem?_replicate] at h
   split at h<;>cases h
 ·obtain⟨o,h,_⟩:=r.own a h
  rw [z] at h;cases h
 ·unfold L2.start
  simp only [List.length_append,List.length_map,List.length_replicate]
  omega
section
variable{P:Program}{w:World}{K:tz0}{mg:tzA}{base:Heap}{κ:tz9}
theorem gQ{x qual:Str}{st:Stmt}{f:Addr}{fd:FuncData}{N ps:List Str}{k:Nat}{fb:tz1}(F:Fun K x qual st f fd)(S:FnScope N ps (aY st))
  (hbody:∀(cdv:Value) (A:Around) (outer:List Env) (s:Shared) (H:Hp) (E:XK) (B:Nat->Addr->Prop),Room k (A.deeper (envOfC qual (aY st) s.heap.objs.size f cdv))->
   QSs (gG CX0 P w K mg base N qual (aY st) f cdv A outer s H E).nox κ (f0P ps.length B) (dF st) fb):
  FnOk P w K mg base CX0 (k+1) f fd ps (SpP ps.length K κ (gP ps.length (N.length-ps.length) fb)):=by
 refine F.ok S (fun vs H Q E h=>h.1) fun cdv A outer s H vs Q E hr ⟨hl,ds,fp,d,r,e,q⟩=>⟨_,hbody cdv A outer s H E (fun _ a=>a∈fp) hr,?_⟩
 have hn:ps.length<=N.length:=by have:=congrArg List.length S.pre;rw [List.length_take] at this;omega
 unfold gP at e
 obtain⟨_,e0⟩:=dU e
 obtain⟨⟨fl,ps'⟩,e1,e2⟩:=bind_some e0
 refine⟨_,fun _=>[],fl,ps',RS.start r hl hn,e1,?_⟩
 have sm:∀{H':Hp},Frm (fun _=>[]) H H'->SameK H H':=fun k=>⟨fun a o h kk=>k.keep a o h kk (fun _=>by simp),k.grow⟩
 cases fl with
 |ret d'=>
  cases e2
  exact fun v σ' H' F' fv s o rv=>q v H' fv (sm s.fr) (fun a ha=>(o.nw a ha).elim (fun⟨j,hj⟩=>absurd hj (by simp)) id) o.nd rv
 |nx=>
  cases e2
  exact fun σ' H' F' s=>q .non H' [] (sm s.fr) (fun a ha=>absurd ha (by simp)) List.nodup_nil .non
 |bk=>cases e2
 |ct=>cases e2
end
section
variable{X:Cx}{κ:tz9}{e:Expr}{es:List Expr}{g:tz3}{pos p:Pos}
theorem iS{x:Str}{st:Stmt}{ps:List Str}{f:Addr}{fd:FuncData}{k np:Nat}{h:tz6}(Dd:Dn X.K X.mg x st ps f fd)(G:FnOk X.prog X.w X.K X.mg X.base CX0 k f fd ps (SpP np X.K κ h))(hr:Room k X.A)(hg:Gl X x)(hnp:(e::es).length=np)(ha:QVA X κ (e::es) g)
  (hlen:∀ps ds,g ps=some ds->ds.length=(e::es).length)
  (hdb:(x==("__debug__":Str))=false:=by decide) (he:starEach (e::es) X.env=(false,eval e X.env)::starEach es X.env:=by rfl) (hpl:(backTo pos (starEach es X.env)).any (·.1)=false:=by rfl):
  QP X κ (.Call (.Name x p) (e::es) [] pos) (aE h g):=(zi4 Dd G hr hg ha hdb he hpl).imp fun σ H Q hh_=>by
 obtain⟨ps,d,w,e,q⟩:=hh_
 obtain⟨ds,e1,e2⟩:=bind_some e
 refine⟨ps,ds,w,e1,fun vs H1 fp s1 r1=> ?_⟩
 show SpP np X.K κ h (vs++[]) H1 Q E0
 rw [List.append_nil]
 exact⟨by rw [r1.length,hlen ps ds e1,hnp],ds,fp,d,r1,e2,q.after s1⟩
theorem fQ:∀(ps:PSt) (ds:List D),aC ps=some ds->ds.length=([]:List Expr).length:=fun _ _ h=>by cases h;rfl
theorem cS{f:tz2}(h:∀ps ds,g ps=some ds->ds.length=es.length):∀(ps:PSt) (ds:List D),aA f g ps=some ds->ds.length=(e::es).length:=fun ps ds q=>by
 obtain⟨d,es',_,e2,rfl⟩:=sZ q
 rw [List.length_cons,List.length_cons,h ps es' e2]
end
def rO(pick:List (Option Nat))(ps:PSt):PSt:=pick.map fun o=>o.bind fun j=>(ps[j]?).join
def oO(psb:PSt)(ft:tz4)(fe:tz2):List D->Option (List D)
 |[]=>some []
 |d::ds=>(ft (psb.set 0 (some d))).bind fun b=>if b=true then(fe (psb.set 0 (some d))).bind fun r=>(oO psb ft fe ds).bind fun rs=>some (r::rs) else oO psb ft fe ds
def zi9(pick:List (Option Nat))(fi:tz3)(ft:tz4)(fe:tz2):tz2:=fun ps=>(fi ps).bind fun ds=>if ds.length<=sizeLine then(oO (rO pick ps) ft fe ds).bind fun rs=>some (.lst true rs) else none
def yC:tz4:=fun _=>some true
theorem WS.sub{K:tz0}{κ:tz9}{H:Hp}{σ:St}{ps:PSt}(pick:List (Option Nat))(w:WS K κ H σ ps):WS K κ H (pV pick σ) (rO pick ps):=fun i d h=>by
 unfold rO at h
 unfold pV
 rw [List.getElem?_map] at h|-
 cases e:pick[i]? with
 |none=>rw [e] at h;cases h
 | some o=>
  rw [e] at h
  cases o with
  |none=>cases h
  |some j=>
   have h':(ps[j]?).join=some d:=Option.some.inj h
   obtain⟨v,fp,h1,h2⟩:=w j d (iR h')
   refine⟨v,fp,?_,h2⟩
   show some ((σ[j]?).join)=some (some v)
   rw [h1];rfl
theorem WS.set0{K:tz0}{κ:tz9}{H:Hp}{σ:St}{ps:PSt}{v:V}{d:D}{fp:List Addr}(w:∀(i:Nat) (d:D),i≠0->ps[i]? =some (some d)->∃v fp,σ[i]? =some (some v)/\Rep K κ H v d fp)(hl:ps.length<=σ.length)(r:Rep K κ H v d fp):WS K κ H (σ.set 0 (some v)) (ps.set 0 (some d)):=fun i d' h=>by
 by_cases e:i=0
 ·subst e
  by_cases hp:0<ps.length
  ·rw [List.getElem?_set_self hp] at h
   cases h
   exact⟨v,fp,by rw [List.getElem?_set_self (by omega)],r⟩
  ·rw [List.getElem?_eq_none (by simpa using hp)] at h;cases h
 ·rw [List.getElem?_set_ne (fun z=>e z.symm)] at h|-
  exact w i d' e h
section
variable{X:Cx}{κ:tz9}{sc:Scope}{NX N:List Str}{pick:List (Option Nat)}{elt iter:Expr}{ifs:List Expr}{scope:Scope}{pos px:Pos}{x:Str}{fi:tz3}{ft:tz4}{fe:tz2}
theorem PTs.imp{X:Cx}{ifs:List Expr}{t t':TT}(h:PTs X ifs t)(k:∀σ H Q,t' σ H Q->t σ H Q):PTs X ifs t':=fun pins s σ H Q I q=>h pins s σ H Q I (k σ H Q q)
theorem za6{X:Cx}:PTs X [] (tQ X.K κ yC):=yy4.imp fun σ H Q ⟨ps,b,w,e,q⟩=>by cases e;exact q H (.refl H)
structure Grown(K:tz0)(κ:tz9)(H1:Hp)(Dd:Addr)(H':Hp)(vs:List V)(rs:List D)(fv:List Addr):Prop where
 same:SameK H1 H'
 at_:H' Dd=some (.lst vs)
 rep:Reps K κ H' vs rs fv
 new:∀a∈fv,H1 a=none
 ne:Dd∉fv
 nd:fv.Nodup
def xf4(K:tz0)(κ:tz9)(J:It)(Dd:Addr)(q:Hp->Prop)(V:Nat->Nat->St->Hp->Prop)(ft:tz4)(fe:tz2)(i m:Nat)(σ':St)(H':Hp):Prop:=
  (J.stop i H'/\q H')\/(J.go i H'/\∀x H2,J.yld i H' x H2->oM 0 x σ' H2 fun σ3 H3=>tQ K κ ft σ3 H3 fun b H4=>
   if b=true then tP K κ fe σ3 H4 fun y H5=>∃ys,H5 Dd=some (.lst ys)/\ys.length<sizeLine/\∃m',m'<m/\V (i+1) m' σ3 (upd H5 Dd (.lst (ys++[y]))) else ∃m',m'<m/\V (i+1) m' σ3 H4)
def xj2(K:tz0)(κ:tz9)(H1:Hp)(Dd:Addr)(pick:List (Option Nat))(ps:PSt)(ft:tz4)(fe:tz2)(ds rs:List D)(i m:Nat)(σ':St)(H':Hp):Prop:=i<=ds.length/\m=ds.length-i/\(∀(j:Nat) (d:D),j≠0->(rO pick ps)[j]? =some (some d)->∃v fp,σ'[j]? =some (some v)/\Rep K κ H1 v d fp)/\(rO pick ps).length<=σ'.length/\
  ∃vs fv done bY,Grown K κ H1 Dd H' vs done fv/\done.length<=i/\oO (rO pick ps) ft fe (ds.drop i)=some bY/\rs=done++bY
theorem yk9{pick:List (Option Nat)}{J:It}{Z:List Addr}{σ:St}{ps:PSt}{H1:Hp}{Dd:Addr}{ds rs:List D}{Q:Addr->Hp->Prop}(w:WS X.K κ H1 σ ps)(hD:H1 Dd=none)(W:Walk X.K κ J Z H1 ds)(hz:ds.length<=sizeLine)
  (e:oO (rO pick ps) ft fe ds=some rs) (q:∀H' vs fv,Grown X.K κ H1 Dd H' vs rs fv->Q Dd H'):
  ∃V:Nat->Nat->St->Hp->Prop,(∃m,V 0 m (pV pick σ) (upd H1 Dd (.lst [])))/\∀i m σ' H',V i m σ' H'->xf4 X.K κ J Dd (Q Dd) V ft fe i m σ' H':=by
 refine⟨xj2 X.K κ H1 Dd pick ps ft fe ds rs,⟨_,Nat.zero_le _,rfl,fun j d _ h=>w.sub pick j d h,by simp [rO,pV],[],[],[],rs,⟨.new hD _,eT,.nil,fun _ h=>absurd h (by simp),by simp,List.nodup_nil⟩,Nat.zero_le _,by rw [List.drop_zero];exact e,rfl⟩,?_⟩
 rintro i m σ' H' ⟨hi,rfl,ws,wl,vs,fv,done,bY,G,hdn,er,ers⟩
 have kp:rN Z H1 H':=fun a o h t=>G.same.keep a o h (t.elim nK fun t=>t.1)
 by_cases hlt:i<ds.length
 ·right
  have ed:ds[i]? =some ds[i]:=List.getElem?_eq_getElem hlt
  obtain⟨hgo,hy⟩:=W.go H' kp i _ ed
  refine⟨hgo,fun x H2 y=> ?_⟩
  obtain⟨rfl,rx⟩:=hy x H2 y
  rw [List.drop_eq_getElem_cons hlt,oO] at er
  obtain⟨b,e1,e2⟩:=bind_some er
  have wset:WS X.K κ H2 (σ'.set 0 (some x)) ((rO pick ps).set 0 (some ds[i])):=WS.set0 (fun j d hj h=>by obtain⟨v,fp,h1,h2⟩:=ws j d hj h;exact⟨v,fp,h1,h2.same G.same⟩) wl rx
  refine⟨_,b,wset,e1,fun H3 s3=> ?_⟩
  have keepS:∀(j:Nat) (d:D),j≠0->(rO pick ps)[j]? =some (some d)->∃v fp,(σ'.set 0 (some x))[j]? =some (some v)/\Rep X.K κ H1 v d fp:=fun j d hj h=>by
   obtain⟨v,fp,h1,h2⟩:=ws j d hj h
   exact⟨v,fp,by rw [List.getElem?_set_ne (fun z=>hj z.symm)];exact h1,h2⟩
  have Dkeep:∀{H5:Hp},SameK H2 H5->H5 Dd=some (.lst vs):=fun s=>s.keep _ _ G.at_ rfl
  cases b with
  | true=>
   dsimp only
   rw [if_pos rfl] at e2|-
   obtain⟨r,e3,e4⟩:=bind_some e2
   obtain⟨rs',e5,e6⟩:=bind_some e4
   cases e6
   refine⟨_,r,wset.same s3,e3,fun y H5 fw s5 n5 nd5 r5=> ?_⟩
   have s25:=s3.trans s5
   refine⟨vs,Dkeep s25,?_,ds.length-(i+1),by omega,hlt,rfl,keepS,by simpa using wl,vs++[y],fv++fw,done++[r],rs',?_,?_,e5,by rw [ers];simp⟩
   ·have:=G.rep.length;omega
   ·have hDw:Dd∉fw:=fun z=>by have:=s3.grow Dd (n5 Dd z);rw [G.at_] at this;cases this
    have hup:∀a,a≠Dd->upd H5 Dd (.lst (vs++[y])) a=H5 a:=fun a h=>dW h
    have tfk:∀a o,H5 a=some o->tf o=true->upd H5 Dd (.lst (vs++[y])) a=some o:=fun a o h t=>by
     rw [hup a]
     ·exact h
     ·rintro rfl;rw [Dkeep s25] at h;cases h;cases t
    have rv5:Reps X.K κ H5 vs done fv:=G.rep.same s25
    refine⟨⟨fun a o h k=> ?_,fun a h=> ?_⟩,eT,Reps.append (rv5.move tfk fun a ha=>hup a fun z=>G.ne (z▸ha)) (Reps.one (r5.move tfk fun a ha=>hup a fun z=>hDw (z▸ha))),fun a ha=> ?_,fun z=> ?_,?_⟩
    ·rw [hup a (fun z=>by subst z;rw [hD] at h;cases h)]
     exact(G.same.trans s25).keep a o h k
    ·by_cases z:a=Dd
     ·subst z;rw [eT] at h;cases h
     ·rw [hup a z] at h;exact(G.same.trans s25).grow a h
    ·rcases List.mem_append.mp ha with z|z
     ·exact G.new a z
     ·exact(G.same.trans s3).grow a (n5 a z)
    ·rcases List.mem_append.mp z with z|z
     ·exact G.ne z
     ·exact hDw z
    ·rw [List.nodup_append]
     refine⟨G.nd,nd5,fun a ha b hb e=> ?_⟩
     subst e
     obtain⟨o,h,k,_⟩:=G.rep.own a ha
     have:=s3.keep a o h k
     rw [n5 a hb] at this;cases this
   ·rw [List.length_append,List.length_singleton];omega
  |false=>
   dsimp only
   rw [if_neg Bool.false_ne_true] at e2|-
   refine⟨ds.length-(i+1),by omega,hlt,rfl,keepS,by simpa using wl,vs,fv,done,bY,⟨G.same.trans s3,Dkeep s3,G.rep.same s3,G.new,G.ne,G.nd⟩,by omega,e2,ers⟩
 ·left
  have ek:i=ds.length:=by omega
  subst ek
  rw [List.drop_length,oO] at er
  cases er
  rw [List.append_nil] at ers
  subst ers
  exact⟨W.stop H' kp,q H' vs fv G⟩
theorem za7(S:CScope sc NX N pick scope)(hsc:X.env.scope=sc)(hNX:X.N=NX)(hc:X.calm=true)(hi:QIV X κ (.Name x px) iter fi)
  (hg:∀cl fp s H,PG (cxB X N scope cl fp s H) (.Name x px) (oM 0)) (ht:∀cl fp s H,PTs (cxB X N scope cl fp s H) ifs (tQ X.K κ ft)) (he:∀cl fp s H,PE (cxB X N scope cl fp s H) elt (tP X.K κ fe))
  (hs:∀x,foldedSetIterable iter X.env x=pure x:=by intro _;rfl):QP X κ (.ListComp elt [⟨.Name x px,iter,ifs,0⟩] scope pos) (zi9 pick fi ft fe):=
 (yr4 S hsc hNX hc hi hg ht he hs).imp fun σ H Q hh_=>by
  obtain⟨ps,d,w,e,q⟩:=hh_
  obtain⟨ds,e1,e2⟩:=bind_some e
  obtain⟨hz,e3⟩:=dU e2
  obtain⟨rs,e4,e5⟩:=bind_some e3
  cases e5
  refine⟨ps,ds,w,e1,fun J H1 Z s1 W Dd hD=> ?_⟩
  refine yk9 (Q:=fun Dd H'=>Q (.ref Dd) H') (w.same s1) hD W hz e4 fun H' vs fv G=> ?_
  refine q _ H' (Dd::fv) (s1.trans G.same) (fun a ha=> ?_) (List.nodup_cons.mpr ⟨G.ne,G.nd⟩) (.lst G.at_ G.rep)
  rcases List.mem_cons.mp ha with z|z
  ·rw [z];exact s1.grow Dd hD
  ·exact s1.grow a (G.new a z)
end
inductive Ps1 where
 |ix (n:Nat)|fld (f:Str)
def cL:List Str->Str->Option Nat
 |[],_=>none
 |n::ns,f=>if n=f then some 0 else(cL ns f).map (·+1)
def bV{α:Type}(h:D->Option (α×D)):D->List Ps1->Option (α×D)
 |d,[]=>h d
 | .lst true xs,.ix n::p=>(xs[n]?).bind fun d=>(bV h d p).bind fun r=>some (r.1,.lst true (xs.set n r.2))
 | .obj true C ns vs,.fld f::p=>(cL ns f).bind fun n=>(vs[n]?).bind fun d=>(bV h d p).bind fun r=>some (r.1,.obj true C ns (vs.set n r.2))
 |_,_=>none
def bX:D->List Ps1->Option D
 |d,[]=>some d
 | .lst true xs,.ix n::p=>(xs[n]?).bind fun d=>bX d p
 | .obj true _ ns vs,.fld f::p=>(cL ns f).bind fun n=>(vs[n]?).bind fun d=>bX d p
 |_,_=>none
def At(H:Hp):V->List Ps1->V->Prop
 |v0,[],v=>v=v0
 |v0,.ix n::p,v=>∃a vs v1,v0= .ref a/\H a=some (.lst vs)/\vs[n]? =some v1/\At H v1 p v
 |v0,.fld f::p,v=>∃a C dx fs n v1,v0= .ref a/\H a=some (.ins C dx fs)/\cL (fs.map (·.1)) f=some n/\(fs.map (·.2))[n]? =some v1/\At H v1 p v
theorem At.same{H H':Hp}(s:SameK H H'):∀{p:List Ps1} {v0 v:V},At H v0 p v->At H' v0 p v
 |[],_,_,h=>h
 | .ix n::p,_,_,⟨a,vs,v1,h1,h2,h3,h4⟩=>⟨a,vs,v1,h1,s.keep _ _ h2 rfl,h3,At.same s h4⟩
 | .fld f::p,_,_,⟨a,C,dx,fs,n,v1,h1,h2,h3,h4,h5⟩=>⟨a,C,dx,fs,n,v1,h1,s.keep _ _ h2 rfl,h3,h4,At.same s h5⟩
theorem At.snoc_ix{H:Hp}{a:Addr}{vs:List V}{n:Nat}{v:V}(h:H a=some (.lst vs))(hv:vs[n]? =some v):∀{p:List Ps1} {v0:V},At H v0 p (.ref a)->At H v0 (p++[.ix n]) v
 |[],_,e=>⟨a,vs,v,e.symm,h,hv,rfl⟩
 | .ix m::p,_,⟨b,us,v1,h1,h2,h3,h4⟩=>⟨b,us,v1,h1,h2,h3,At.snoc_ix h hv h4⟩
 | .fld f::p,_,⟨b,C,dx,fs,m,v1,h1,h2,h3,h4,h5⟩=>⟨b,C,dx,fs,m,v1,h1,h2,h3,h4,At.snoc_ix h hv h5⟩
theorem At.snoc_fld{H:Hp}{a C dx:Addr}{fs:List (Str×V)}{f:Str}{n:Nat}{v:V}(h:H a=some (.ins C dx fs))(hn:cL (fs.map (·.1)) f=some n)(hv:(fs.map (·.2))[n]? =some v):∀{p:List Ps1} {v0:V},At H v0 p (.ref a)->At H v0 (p++[.fld f]) v
 |[],_,e=>⟨a,C,dx,fs,n,v,e.symm,h,hn,hv,rfl⟩
 | .ix m::p,_,⟨b,us,v1,h1,h2,h3,h4⟩=>⟨b,us,v1,h1,h2,h3,At.snoc_fld h hn hv h4⟩
 | .fld f'::p,_,⟨b,C',dx',fs',m,v1,h1,h2,h3,h4,h5⟩=>⟨b,C',dx',fs',m,v1,h1,h2,h3,h4,At.snoc_fld h hn hv h5⟩
theorem zt6{α:Type}{h:D->Option (α×D)}{d0:D}{n:Nat}{p:List Ps1}{r:α}{d':D}(e:bV h d0 (.ix n::p)=some (r,d')):∃xs d1 d2,d0= .lst true xs/\xs[n]? =some d1/\bV h d1 p=some (r,d2)/\d'= .lst true (xs.set n d2):=by
 unfold bV at e
 split at e
 ·rename_i z;cases z
 ·rename_i z;cases z
  obtain⟨d1,h1,h2⟩:=bind_some e
  obtain⟨⟨r1,d2⟩,h3,h4⟩:=bind_some h2
  cases h4
  exact⟨_,_,_,rfl,h1,h3,rfl⟩
 ·rename_i z;cases z
 ·cases e
theorem zl8{α:Type}{h:D->Option (α×D)}{d0:D}{f:Str}{p:List Ps1}{r:α}{d':D}(e:bV h d0 (.fld f::p)=some (r,d')):∃C ns xs n d1 d2,d0= .obj true C ns xs/\cL ns f=some n/\xs[n]? =some d1/\bV h d1 p=some (r,d2)/\d'= .obj true C ns (xs.set n d2):=by
 unfold bV at e
 split at e
 ·rename_i z;cases z
 ·rename_i z;cases z
 ·rename_i z;cases z
  obtain⟨n,h0,h9⟩:=bind_some e
  obtain⟨d1,h1,h2⟩:=bind_some h9
  obtain⟨⟨r1,d2⟩,h3,h4⟩:=bind_some h2
  cases h4
  exact⟨_,_,_,_,_,_,rfl,h0,h1,h3,rfl⟩
 ·cases e
theorem za8{d0 d:D}{n:Nat}{p:List Ps1}(e:bX d0 (.ix n::p)=some d):∃xs d1,d0= .lst true xs/\xs[n]? =some d1/\bX d1 p=some d:=by
 unfold bX at e
 split at e
 ·rename_i z;cases z
 ·rename_i z;cases z
  obtain⟨d1,h1,h2⟩:=bind_some e
  exact⟨_,_,rfl,h1,h2⟩
 ·rename_i z;cases z
 ·cases e
theorem xE{d0 d:D}{f:Str}{p:List Ps1}(e:bX d0 (.fld f::p)=some d):∃C ns xs n d1,d0= .obj true C ns xs/\cL ns f=some n/\xs[n]? =some d1/\bX d1 p=some d:=by
 unfold bX at e
 split at e
 ·rename_i z;cases z
 ·rename_i z;cases z
 ·rename_i z;cases z
  obtain⟨n,h0,h9⟩:=bind_some e
  obtain⟨d1,h1,h2⟩:=bind_some h9
  exact⟨_,_,_,_,_,rfl,h0,h1,h2⟩
 ·cases e
theorem mI{α:Type}{h:D->Option (α×D)}{r:α}{d':D}{p:List Ps1}:∀{d0:D},bV h d0 p=some (r,d')->∃d dn,bX d0 p=some d/\h d=some (r,dn):=by
 induction p generalizing d' with
 |nil=>intro d0 e;rw [bV] at e;exact⟨d0,d',by rw [bX],e⟩
 | cons s p ih=>
  intro d0 e
  cases s with
  |ix m=>
   obtain⟨xs,d1,d2,rfl,h1,h3,rfl⟩:=zt6 e
   obtain⟨d,dn,g1,g2⟩:=ih h3
   refine⟨d,dn,?_,g2⟩
   show(xs[m]?).bind _=_
   rw [h1];exact g1
  |fld f=>
   obtain⟨C,ns,xs,m,d1,d2,rfl,h0,h1,h3,rfl⟩:=zl8 e
   obtain⟨d,dn,g1,g2⟩:=ih h3
   refine⟨d,dn,?_,g2⟩
   show(cL ns f).bind _=_
   rw [h0]
   show(xs[m]?).bind _=_
   rw [h1];exact g1
section
variable{K:tz0}{κ:tz9}{H:Hp}
theorem Reps.focus:∀{vs:List V} {ds:List D} {g:List Addr} {n:Nat} {d1:D} {v1:V},Reps K κ H vs ds g->ds[n]? =some d1->vs[n]? =some v1->∃f1 bY,Rep K κ H v1 d1 f1/\g.Perm (f1++bY)/\
  ∀(H':Hp) (d':D) (f':List Addr),(∀a o,H a=some o->tf o=true->H' a=some o)->(∀a∈bY,H' a=H a)->Rep K κ H' v1 d' f'->∃g',Reps K κ H' vs (ds.set n d') g'/\g'.Perm (f'++bY)
 |_,_,_,_,_,_,.nil,e,_=>by simp at e
 |_,_,_,0,_,_,.cons (f:=f) (g:=g) h hs,e,e'=>by
  simp at e e';subst e;subst e'
  exact⟨f,g,h,.refl _,fun H' d' f' t k r=>⟨f'++g,.cons r (hs.move t k),.refl _⟩⟩
 | _,_,_,n+1,_,_,.cons (f:=f) (g:=g) h hs,e,e'=>by
  obtain⟨f1,bY,h1,h2,h3⟩:=Reps.focus (n:=n) hs (by simpa using e) (by simpa using e')
  refine⟨f1,f++bY,h1,?_,fun H' d' f' t k r=> ?_⟩
  ·refine(h2.append_left f).trans ?_
   rw [<-List.append_assoc,<-List.append_assoc]
   exact List.perm_append_comm.append_right bY
  ·obtain⟨g',r1,r2⟩:=h3 H' d' f' t (fun a ha=>k a (List.mem_append_right _ ha)) r
   refine⟨f++g',.cons (h.move t fun a ha=>k a (List.mem_append_left _ ha)) r1,?_⟩
   refine(r2.append_left f).trans ?_
   rw [<-List.append_assoc,<-List.append_assoc]
   exact List.perm_append_comm.append_right bY
theorem ze7{b:Addr}{g f1 fd bY rest1:List Addr}(k2:g.Perm (f1++rest1))(m3:f1.Perm (fd++bY)):(b::g).Perm (fd++b::(bY++rest1)):=by
 refine((k2.trans (m3.append_right rest1)).cons b).trans ?_
 rw [List.append_assoc]
 exact List.perm_middle.symm
def Foc(K:tz0)(κ:tz9)(H:Hp){α:Type}(h:D->Option (α×D))(r:α)(v v0:V)(d0':D)(fp:List Addr):Prop:=∃d d' fd bY,Rep K κ H v d fd/\h d=some (r,d')/\fp.Perm (fd++bY)/\
  ∀(H':Hp) (f':List Addr),(∀a o,H a=some o->tf o=true->H' a=some o)->(∀a∈bY,H' a=H a)->Rep K κ H' v d' f'->∃fp',Rep K κ H' v0 d0' fp'/\fp'.Perm (f'++bY)
theorem focus{α:Type}{h:D->Option (α×D)}{r:α}{p:List Ps1}:∀{v0 v:V} {d0 d0':D} {fp:List Addr},Rep K κ H v0 d0 fp->bV h d0 p=some (r,d0')->At H v0 p v->Foc K κ H h r v v0 d0' fp:=by
 induction p with
 |nil=>
  intro v0 v d0 d0' fp R e a
  rw [bV] at e
  cases(show v=v0 from a)
  exact⟨d0,d0',fp,[],R,e,by rw [List.append_nil],fun H' f' t k r=>⟨f',r,by rw [List.append_nil]⟩⟩
 | cons s p ih=>
  intro v0 v d0 d0' fp R e a
  have deep:∀(b:Addr) (vs:List V) (xs:List D) (n:Nat) (d1 d2:D) (v1:V) (g:List Addr),fp=b::g->Reps K κ H vs xs g->xs[n]? =some d1->vs[n]? =some v1->bV h d1 p=some (r,d2)->At H v1 p v->(∀(H':Hp) (g2:List Addr),H' b=H b->Reps K κ H' vs (xs.set n d2) g2->Rep K κ H' v0 d0' (b::g2))->
    Foc K κ H h r v v0 d0' fp:=fun b vs xs n d1 d2 v1 g ef hs h1 e3 h3 e4 mk=>by
   subst ef
   obtain⟨f1,rest1,k1,k2,k3⟩:=hs.focus h1 e3
   obtain⟨d,d',fd,bY,m1,m2,m3,m4⟩:=ih k1 h3 e4
   refine⟨d,d',fd,b::(bY++rest1),m1,m2,ze7 k2 m3,fun H' f' t k rr=> ?_⟩
   obtain⟨g1,q1,q2⟩:=m4 H' f' t (fun a ha=>k a (List.mem_cons_of_mem _ (List.mem_append_left _ ha))) rr
   obtain⟨g2,q3,q4⟩:=k3 H' d2 g1 t (fun a ha=>k a (List.mem_cons_of_mem _ (List.mem_append_right _ ha))) q1
   exact⟨b::g2,mk H' g2 (k b List.mem_cons_self) q3,ze7 q4 q2⟩
  cases s with
  |ix n=>
   obtain⟨b,vs,v1,e1,e2,e3,e4⟩:=a
   subst e1
   obtain⟨xs,d1,d2,rfl,h1,h3,rfl⟩:=zt6 e
   obtain⟨_,_,g,e5,hb,hs,ef⟩:=R.lstT_inv
   cases e5
   rw [e2] at hb;cases hb
   exact deep b vs xs n d1 d2 v1 g ef hs h1 e3 h3 e4 fun H' g2 k q3=> .lst (k.trans e2) q3
  |fld f=>
   obtain⟨b,C,dx,fs,n,v1,e1,e2,e2',e3,e4⟩:=a
   subst e1
   obtain⟨C',ns,xs,n',d1,d2,rfl,h0,h1,h3,rfl⟩:=zl8 e
   obtain⟨_,_,_,g,e5,hb,hn,hs,ef⟩:=R.objT_inv
   cases e5
   rw [e2] at hb;cases hb
   subst hn
   rw [e2'] at h0;cases h0
   exact deep b _ xs n d1 d2 v1 g ef hs h1 e3 h3 e4 fun H' g2 k q3=> .obj (k.trans e2) rfl q3
end
theorem rZ{φ:Fx}{α:Type}{h:D->Option (α×D)}{r:α}{H H1:Hp}{σ:St}{ps:PSt}{F:Nat->List Addr}{j:Nat}{d0 d0':D}{v0 v:V}{p:List Ps1}(R:RS φ H σ ps F)(s1:SameK H H1)(hb:φ.bor j=false)(e0:ps[j]? =some (some d0))(ev:σ[j]? =some (some v0))
  (em:bV h d0 p=some (r,d0')) (at_:At H1 v0 p v):∃d d' fd,Rep φ.K φ.κ H1 v d fd/\h d=some (r,d')/\fd.Nodup/\(∀a∈fd,a∈F j)/\
  ∀(H':Hp) (fd' fr:List Addr),(∀a o,H1 a=some o->kd o=true->a∉fd->H' a=some o)->(∀a,H' a=none->H1 a=none)->Rep φ.K φ.κ H' v d' fd'->(fd'++fr).Nodup->(∀a∈fd'++fr,a∈fd\/H a=none)->
   ∃F',Stp φ σ H F σ H' (ps.set j (some d0')) F'/\OwnV F H F' fr:=by
 obtain⟨v0',fp,h1,h2,h3,_⟩:=R.rep j d0 e0
 rw [ev] at h1;cases h1
 have h3:=h3 hb
 subst h3
 obtain⟨d,d',fd,bY,m1,m2,m3,m4⟩:=focus (h2.same s1) em at_
 have ndF:=R.nd j
 have ndp:(fd++bY).Nodup:=m3.nodup_iff.mp ndF
 obtain⟨nd1,nd2,nd3⟩:=List.nodup_append.mp ndp
 have inF:∀a,a∈fd\/a∈bY->a∈F j:=fun a ha=>m3.mem_iff.mpr (List.mem_append.mpr ha)
 refine⟨d,d',fd,m1,m2,nd1,fun a ha=>inF a (.inl ha),fun H' fd' fr k1 k2 k3 k4 k5=> ?_⟩
 have tfk:∀a o,H1 a=some o->tf o=true->H' a=some o:=fun a o ha t=>k1 a o ha (nK t) fun hm=>by
  obtain⟨o',q,_,q'⟩:=m1.own a hm
  rw [ha] at q;cases q;rw [t] at q';cases q'
 have keepO:∀a,(∃i,a∈F i)->a∉fd->H' a=H1 a:=fun a ⟨i,hi⟩ hn=>by
  obtain⟨o,q,q',_⟩:=R.own hi
  have q1:=s1.keep a o q q'
  rw [q1];exact k1 a o q1 q' hn
 have notfd:∀a,a∈bY->a∉fd:=fun a hr hf=>nd3 a hf a hr rfl
 obtain⟨fp',r1,r2⟩:=m4 H' fd' tfk (fun a ha=>keepO a ⟨j,inF a (.inr ha)⟩ (notfd a ha)) k3
 obtain⟨kd1,kd2,kd3⟩:=List.nodup_append.mp k4
 have memfp:∀a,a∈fp'->a∈fd'\/a∈bY:=fun a ha=>List.mem_append.mp (r2.mem_iff.mp ha)
 have lt:j<ps.length:=(List.getElem?_eq_some_iff.mp e0).1
 have old:∀a,a∈fd'++fr->∀i,a∈F i->a∈fd:=fun a ha i hi=>(k5 a ha).elim id fun z=>by
  obtain⟨o,q,_⟩:=R.own hi
  rw [z] at q;cases q
 refine⟨rM F j fp',⟨⟨fun a o ha hk hn=> ?_,fun a ha=>s1.grow a (k2 a ha)⟩,fun i a ha=> ?_,⟨fun i d2 hi=> ?_,fun i a ha=> ?_,fun i k a ha hk=> ?_,fun i=> ?_,fun i a ha kk hB=> ?_,fun kk a hB z=>R.bt kk a hB (s1.grow a (k2 a z)),by simpa using R.len⟩,fun _ _=>rfl⟩,⟨fun a ha=> ?_,kd2,fun i a ha hr=> ?_⟩⟩
 ·exact k1 a o (s1.keep a o ha hk) hk fun hm=>hn j (inF a (.inl hm))
 ·rcases lL ha with z|z
  ·rcases memfp a z with z|z
   ·exact(k5 a (List.mem_append_left _ z)).elim (fun z=> .inl ⟨j,inF a (.inl z)⟩) .inr
   ·exact .inl ⟨j,inF a (.inr z)⟩
  ·exact .inl ⟨i,z⟩
 ·by_cases e:i=j
  ·subst e
   rw [List.getElem?_set_self lt] at hi
   cases hi
   exact⟨v0,fp',ev,r1,fun _=>hG.symm,fun z=>by rw [hb] at z;cases z⟩
  ·rw [List.getElem?_set_ne (fun z=>e z.symm)] at hi
   obtain⟨v2,f2,q1,q2,q3,q4⟩:=R.rep i d2 hi
   refine⟨v2,f2,q1,(q2.same s1).move tfk fun a ha=> ?_,fun z=>by rw [hV e];exact q3 z,q4⟩
   obtain⟨o,w1,w2,_⟩:=q2.own a ha
   have w3:=s1.keep a o w1 w2
   rw [w3]
   refine k1 a o w3 w2 fun hm=> ?_
   have hF:=inF a (.inl hm)
   cases hbi:φ.bor i with
   |true=>exact R.nb j a hF i (q4 hbi a ha)
   |false=>rw [q3 hbi] at ha;exact e (R.dis i j a ha hF)
 ·by_cases e:i=j
  ·subst e;exact⟨hb,d0',by rw [List.getElem?_set_self lt]⟩
  ·rw [hV e] at ha
   obtain⟨b1,d1,b2⟩:=R.emp i a ha
   exact⟨b1,d1,by rw [List.getElem?_set_ne (fun z=>e z.symm)];exact b2⟩
 ·have hh:∀a,a∈fp'->∀i,i≠j->a∈F i->False:=fun a ha i hij hi=>by
   rcases memfp a ha with z|z
   ·exact hij (R.dis i j a hi (inF a (.inl (old a (List.mem_append_left _ z) i hi))))
   ·exact hij (R.dis i j a hi (inF a (.inr z)))
  by_cases e1:i=j
  ·by_cases e2:k=j
   ·rw [e1,e2]
   ·subst e1;rw [hG] at ha;rw [hV e2] at hk;exact(hh a ha k e2 hk).elim
  ·by_cases e2:k=j
   ·subst e2;rw [hG] at hk;rw [hV e1] at ha;exact(hh a hk i e1 ha).elim
   ·rw [hV e1] at ha;rw [hV e2] at hk;exact R.dis i k a ha hk
 ·by_cases e:i=j
  ·subst e
   rw [hG]
   refine r2.nodup_iff.mpr (List.nodup_append.mpr ⟨kd1,nd2,fun a ha b hb' e=> ?_⟩)
   subst e
   exact notfd a hb' (old a (List.mem_append_left _ ha) i (inF a (.inr hb')))
  ·rw [hV e];exact R.nd i
 ·rcases lL ha with z|z
  ·rcases memfp a z with z|z
   ·exact R.notB ((k5 a (List.mem_append_left _ z)).elim (fun z=> .inl ⟨j,inF a (.inl z)⟩) .inr) kk hB
   ·exact R.nb j a (inF a (.inr z)) kk hB
  ·exact R.nb i a z kk hB
 ·exact(k5 a (List.mem_append_right _ ha)).elim (fun z=> .inl ⟨j,inF a (.inl z)⟩) .inr
 ·rcases lL ha with z|z
  ·rcases memfp a z with z|z
   ·exact kd3 a z a hr rfl
   ·exact notfd a z (old a (List.mem_append_right _ hr) j (inF a (.inr z)))
  ·have:=old a (List.mem_append_right _ hr) i z
   by_cases e:i=j
   ·subst e
    rw [hG] at ha
    rcases memfp a ha with w|w
    ·exact kd3 a w a hr rfl
    ·exact notfd a w this
   ·exact e (R.dis i j a z (inF a (.inl this)))
def iJ(K:tz0)(κ:tz9)(j:Nat)(pf:PSt->Option (List Ps1)):TE:=fun σ H Q=>∃ps p d0 d,WS K κ H σ ps/\ps[j]? =some (some d0)/\pf ps=some p/\bX d0 p=some d/\∀v H' v0,SameK H H'->σ[j]? =some (some v0)->At H' v0 p v->Q v H'
theorem xF{K:tz0}{κ:tz9}{H:Hp}{v0 v:V}{d0 d:D}{fp:List Addr}{p:List Ps1}(R:Rep K κ H v0 d0 fp)(g:bX d0 p=some d)(a:At H v0 p v):∃fd,Rep K κ H v d fd:=by
 have key:∀{p:List Ps1} {v0 v:V} {d0 d:D} {fp:List Addr},Rep K κ H v0 d0 fp->bX d0 p=some d->At H v0 p v->∃fd,Rep K κ H v d fd:=by
  intro p
  induction p with
  |nil=>intro v0 v d0 d fp R g a;cases g;cases(show v=v0 from a);exact⟨fp,R⟩
  | cons s p ih=>
   intro v0 v d0 d fp R g a
   cases s with
   |ix n=>
    obtain⟨b,vs,v1,e1,e2,e3,e4⟩:=a
    subst e1
    obtain⟨xs,d1,rfl,h1,h2⟩:=za8 g
    obtain⟨_,_,_,e5,hb,hs,_⟩:=R.lstT_inv
    cases e5
    rw [e2] at hb;cases hb
    obtain⟨v',f,q1,q2,_⟩:=hs.get h1
    rw [e3] at q1;cases q1
    exact ih q2 h2 e4
   |fld f=>
    obtain⟨b,C,dx,fs,n,v1,e1,e2,e2',e3,e4⟩:=a
    subst e1
    obtain⟨C',ns,xs,n',d1,rfl,h0,h1,h2⟩:=xE g
    obtain⟨_,_,_,_,e5,hb,hn,hs,_⟩:=R.objT_inv
    cases e5
    rw [e2] at hb;cases hb
    subst hn
    rw [e2'] at h0;cases h0
    obtain⟨v',f,q1,q2,_⟩:=hs.get h1
    rw [e3] at q1;cases q1
    exact ih q2 h2 e4
 exact key R g a
def aU:PSt->Option (List Ps1):=fun _=>some []
def bP(j:Nat)(pf:PSt->Option (List Ps1))(fb:tz2):PSt->Option (List Ps1):=fun ps=>(pf ps).bind fun p=>((ps[j]?).join).bind fun d0=>(bX d0 p).bind fun d=>(fb ps).bind fun y=>match d,y with
 | .lst true xs,.int i=>(ixN xs.length i).bind fun n=>some (p++[.ix n])
 |_,_=>none
def dR(j:Nat)(pf:PSt->Option (List Ps1))(C f:Str):PSt->Option (List Ps1):=fun ps=>(pf ps).bind fun p=>((ps[j]?).join).bind fun d0=>(bX d0 p).bind fun d=>match d with
 | .obj true C' _ _=>if C'=C then some (p++[.fld f]) else none
 |_=>none
theorem qJ:∀{fs:List (Str×V)} {f:Str} {n:Nat} {v:V},cL (fs.map (·.1)) f=some n->(fs.map (·.2))[n]? =some v->fs.lookup f=some v
 |[],_,_,_,h,_=>by cases h
 | (g,u)::fs,f,n,v,h,hv=>by
  rw [List.map_cons,cL] at h
  by_cases e:g=f
  ·rw [if_pos e] at h
   cases h
   rw [List.lookup_cons]
   have:(f==g)=true:=by simp [e]
   rw [this]
   simpa using hv
  ·rw [if_neg e] at h
   cases q:cL (fs.map (·.1)) f with
   |none=>rw [q] at h;cases h
   |some m=>
    rw [q] at h;cases h
    rw [List.lookup_cons]
    have:(f==g)=false:=by simp;exact fun z=>e z.symm
    rw [this]
    exact qJ q (by simpa using hv)
section
variable{X:Cx}{φ:F0}{κ:tz9}{K:tz0}{o e a b:Expr}{f fb fe:tz2}{g:tz3}{pf:PSt->Option (List Ps1)}{j:Nat}{pos apos:Pos}
theorem cR(j:Nat){x:Str}(hN:X.N[j]? =some x:=by rfl)(hv:Vis X.env.scope x:=by first|exact Or.inl rfl|exact Or.inr (Or.inl rfl)|exact Or.inr (Or.inr rfl))(hd:(x==("__debug__":Str))=false:=by decide)
  (hcd:(x==("__classdict__":Str))=false:=by decide):PE X (.Name x pos) (iJ K κ j aU):=(jX hN hv hd hcd).imp fun σ H Q hh_=>by
 obtain⟨ps,p,d0,d,w,e0,ep,eg,q⟩:=hh_
 cases ep
 obtain⟨v,fp,h1,h2⟩:=w j d0 e0
 exact⟨v,h1,q v H v (.refl H) h1 rfl⟩
theorem iM(ha:PE X a (iJ X.K κ j pf))(hb:QV X κ b fb)(hs:pD b:=by exact fun _ _=>rfl):PE X (.Subscript a b pos) (iJ X.K κ j (bP j pf fb)):=
 (zi3 za3 ha hb hs).imp fun σ H Q hh_=>by
  obtain⟨ps,p,d0,d,w,e0,ep,eg,q⟩:=hh_
  obtain⟨p1,e1,e2⟩:=bind_some ep
  obtain⟨d0',e3,e4⟩:=bind_some e2
  have:=iR e3
  rw [e0] at this;cases this
  obtain⟨d1,e5,e6⟩:=bind_some e4
  obtain⟨y,e7,e8⟩:=bind_some e6
  split at e8
  ·rename_i xs i
   obtain⟨n,e9,e10⟩:=bind_some e8
   cases e10
   refine⟨ps,p1,d0,_,w,e0,e1,e5,fun v H1 v0 s1 ev a1=>⟨ps,_,w.same s1,e7,fun u H2 fq s2 r2=> ?_⟩⟩
   obtain⟨v0',fp,h1,h2⟩:=w j d0 e0
   rw [ev] at h1;cases h1
   obtain⟨fd,rd⟩:=xF (h2.same (s1.trans s2)) e5 (a1.same s2)
   obtain⟨l,vs,g,rfl,hl,hr,_⟩:=rd.lstT_inv
   have ln:=hr.length
   have hn:=(vV e9).2.1
   obtain⟨v1,hv⟩:∃v1,vs[n]? =some v1:=⟨_,List.getElem?_eq_getElem (by rw [ln];exact hn)⟩
   refine⟨l,vs,i,v1,rfl,r2.is_int,.inl (.inl hl),?_,q _ H2 v0 (s1.trans s2) ev (At.snoc_ix hl hv (a1.same s2))⟩
   unfold atI
   rw [ln,e9];exact hv
  ·cases e8
theorem jT{C fn:Str}(hc:Cls X.K (κ C))(hna:dZ X.K (κ C) fn)(ha:PE X a (iJ X.K κ j pf))(hb:attributeBase a fn X.env (eval a X.env)=eval a X.env:=by rfl):PE X (.Attribute a fn pos) (iJ X.K κ j (dR j pf C fn)):=
 (yx3 ha hb).imp fun σ H Q hh_=>by
  obtain⟨ps,p,d0,d,w,e0,ep,eg,q⟩:=hh_
  obtain⟨p1,e1,e2⟩:=bind_some ep
  obtain⟨d0',e3,e4⟩:=bind_some e2
  have:=iR e3
  rw [e0] at this;cases this
  obtain⟨d1,e5,e6⟩:=bind_some e4
  split at e6
  ·rename_i C' ns xs
   obtain⟨hC,e7⟩:=dU e6
   subst hC
   cases e7
   refine⟨ps,p1,d0,_,w,e0,e1,e5,fun v H1 v0 s1 ev a1=> ?_⟩
   obtain⟨v0',fp,h1,h2⟩:=w j d0 e0
   rw [ev] at h1;cases h1
   obtain⟨fd,rd⟩:=xF (h2.same s1) e5 a1
   have key:∀{p:List Ps1} {d0:D},bX d0 p=some (.obj true C' ns xs)->bX d0 (p++[.fld fn])=some d->∃n d',cL ns fn=some n/\xs[n]? =some d':=by
    intro p
    induction p with
    |nil=>
     intro d0 h1 h2
     cases h1
     obtain⟨n,k1,k2⟩:=bind_some h2
     obtain⟨d',k3,_⟩:=bind_some k2
     exact⟨n,d',k1,k3⟩
    | cons s p ih=>
     intro d0 h1 h2
     cases s with
     |ix m=>
      obtain⟨ys,x1,rfl,k1,k2⟩:=za8 h1
      obtain⟨_,x2,z,k3,k4⟩:=za8 h2
      cases z
      rw [k1] at k3;cases k3
      exact ih k2 k4
     |fld f'=>
      obtain⟨C2,ns2,ys,m1,x1,rfl,k0,k1,k2⟩:=xE h1
      obtain⟨_,_,_,m2,x2,z,k5,k3,k4⟩:=xE h2
      cases z
      rw [k0] at k5;cases k5
      rw [k1] at k3;cases k3
      exact ih k2 k4
   obtain⟨n,d',k1,k2⟩:=key e5 eg
   obtain⟨l,dx,fs,g,rfl,hl,hn,hr,_⟩:=rd.objT_inv
   subst hn
   obtain⟨v1,f1,k3,_⟩:=hr.get k2
   exact⟨l,κ C',dx,fs,v1,rfl,hl,hc,hna,qJ k1 k3,q _ H1 v0 s1 ev (At.snoc_fld hl k1 k3 a1)⟩
  ·cases e6
def bH(j:Nat)(pf:PSt->Option (List Ps1))(g:tz3)(h:List D->D->Option (D×D)):tz8:=fun ps=>((ps[j]?).join).bind fun d0=>(pf ps).bind fun p=>(g ps).bind fun ys=>(bV (h ys) d0 p).bind fun r=>some (r.1,ps.set j (some r.2))
theorem rB{h:List D->D->Option (D×D)}{ps ps':PSt}{d:D}(e:bH j pf g h ps=some (d,ps')):∃d0 p ys d0',ps[j]? =some (some d0)/\pf ps=some p/\g ps=some ys/\bV (h ys) d0 p=some (d,d0')/\ps'=ps.set j (some d0'):=by
 obtain⟨d0,e1,e2⟩:=bind_some e
 obtain⟨p,e3,e4⟩:=bind_some e2
 obtain⟨ys,e5,e6⟩:=bind_some e4
 obtain⟨⟨r,d0'⟩,e7,e8⟩:=bind_some e6
 cases e8
 exact⟨d0,p,ys,d0',iR e1,e3,e5,e7,rfl⟩
def aL:List D->D->Option (D×D)
 |[y],.lst true xs=>if xs.length<sizeLine then some (.non,.lst true (xs++[y])) else none
 |_,_=>none
theorem vD{ys:List D}{d r d':D}(h:aL ys d=some (r,d')):∃y xs,ys=[y]/\d= .lst true xs/\xs.length<sizeLine/\r= .non/\d'= .lst true (xs++[y]):=by
 unfold aL at h
 split at h
 ·obtain⟨hc,e⟩:=dU h
  cases e
  exact⟨_,_,rfl,rfl,hc,rfl,rfl⟩
 ·cases h
theorem vY{H H1:Hp}{σ:St}{ps:PSt}{d0 d:D}{v0 v:V}{p:List Ps1}(w:WS K κ H σ ps)(s1:SameK H H1)(e0:ps[j]? =some (some d0))(ev:σ[j]? =some (some v0))(g:bX d0 p=some d)(a:At H1 v0 p v):∃fd,Rep K κ H1 v d fd:=by
 obtain⟨v0',fp,h1,h2⟩:=w j d0 e0
 rw [ev] at h1;cases h1
 exact xF (h2.same s1) g a
theorem gC(hb:φ.bor j=false)(ho:PE X o (iJ X.K κ j pf))(ha:PA X [e] (tPA X.K κ g))
  (hbase:attributeBase o "append" X.env (eval o X.env)=eval o X.env:=by rfl)
  (hfew:((backTo pos (starEach [e] X.env)).all (fun x=> !x.1)&&(backToKw pos (keywordEach [] X.env)).all (fun x=>x.1.isSome)
   &&decide ([e].length+([]:List Keyword).length+(if ([]:List Keyword).isEmpty then 0 else 1)<30))=true:=by rfl)
  (hline:(apos.endLine==pos.line)=true:=by rfl) (hs:starEach [e] X.env=(false,eval e X.env)::starEach [] X.env:=by rfl) (hplain:(backTo pos (starEach [] X.env)).any (·.1)=false:=by rfl):
  QE X κ φ (.Call (.Attribute o "append" apos) [e] [] pos) (bH j pf g aL):=
 (xd2 PySem.F.plainAttrs_list PySem.F.slot_list_append PySem.F.type_list_append ze1 ho ha hbase hfew hline hs hplain).imp fun σ H Q hh_=>by
  obtain⟨ps,F,d,ps',R,e,q⟩:=hh_
  obtain⟨d0,p,ys,d0',e0,ep,eg,em,rfl⟩:=rB e
  obtain⟨dd,dn,gp,hh⟩:=mI em
  refine⟨ps,p,d0,dd,R.ws,e0,ep,gp,fun v H1 v0 s1 ev a1=>⟨?_,ps,ys,R.ws.same s1,eg,fun vs H2 fy s2 n2 nd2 r2=> ?_⟩⟩
  ·obtain⟨y,xs,rfl,rfl,_⟩:=vD hh
   obtain⟨fd,rd⟩:=vY R.ws s1 e0 ev gp a1
   obtain⟨_,_,_,rfl,hl,hr,rfl⟩:=rd.lstT_inv
   exact .inl ⟨rfl,_,.inl (.inl hl)⟩
  ·obtain⟨d1,d1',fd,m1,m2,m3,m4,m5⟩:=rZ R (s1.trans s2) hb e0 ev em (a1.same s2)
   obtain⟨y,xs,rfl,rfl,hz,rfl,rfl⟩:=vD m2
   obtain⟨u,rfl,ru⟩:=r2.one_inv
   obtain⟨l,us,g1,rfl,hl,hr,rfl⟩:=m1.lstT_inv
   have ln:=hr.length
   refine⟨l,us,u,rfl,rfl,hl,by omega,?_⟩
   have nl:l∉fy:=fun z=>by have:=n2 l z;have:=s1.keep l;obtain⟨o,h1,h2,_⟩:=R.own (m4 l List.mem_cons_self);have:=s1.keep l o h1 h2;rw [n2 l z] at this;cases this
   obtain⟨nl2,nd3⟩:=List.nodup_cons.mp m3
   have up:∀a,a≠l->upd H2 l (.lst (us++[u])) a=H2 a:=fun a h=>dW h
   have tfk:∀a o,H2 a=some o->tf o=true->upd H2 l (.lst (us++[u])) a=some o:=fun a o h t=>by
    rw [up a]
    ·exact h
    ·rintro rfl;rw [hl] at h;cases h;cases t
   obtain⟨F',st,ow⟩:=m5 (upd H2 l (.lst (us++[u]))) (l::(g1++fy)) [] (fun a o h _ hn=>by rw [up a (fun z=>hn (z▸List.mem_cons_self))];exact h)
    (fun a h=>by
     by_cases z:a=l
     ·subst z;rw [eT] at h;cases h
     ·rw [up a z] at h;exact h)
    (.lst eT (Reps.append (hr.move tfk fun a ha=>up a fun z=>nl2 (z▸ha)) (Reps.one (ru.move tfk fun a ha=>up a fun z=>nl (z▸ha)))))
    (by
     rw [List.append_nil,List.nodup_cons,List.nodup_append]
     refine⟨fun z=>(List.mem_append.mp z).elim nl2 nl,nd3,nd2,fun a ha b hb e=> ?_⟩
     subst e
     obtain⟨o,h1,h2,_⟩:=R.own (m4 a (List.mem_cons_of_mem _ ha))
     have:=s1.keep a o h1 h2
     rw [n2 a hb] at this;cases this)
    (fun a ha=>by
     rw [List.append_nil] at ha
     rcases List.mem_cons.mp ha with z|z
     ·exact .inl (z▸List.mem_cons_self)
     ·rcases List.mem_append.mp z with z|z
      ·exact .inl (List.mem_cons_of_mem _ z)
      ·exact .inr (s1.grow a (n2 a z)))
   exact q .non _ F' [] st ow .non
end
section
variable{K:tz0}{κ:tz9}{H:Hp}{l:Addr}{o0 o:HO}
theorem ye4(hl:H l=some o0)(ht:tf o0=false):∀a u,H a=some u->tf u=true->upd H l o a=some u:=fun a u h t=>by
 rw [dW]
 ·exact h
 ·rintro rfl;rw [hl] at h;cases h;rw [ht] at t;cases t
theorem Rep.updL{v:V}{d:D}{g:List Addr}(r:Rep K κ H v d g)(hl:H l=some o0)(ht:tf o0=false)(n:l∉g):Rep K κ (upd H l o) v d g:=r.move (ye4 hl ht) fun a ha=>dW fun z=>n (z▸ha)
theorem Reps.updL{v:List V}{d:List D}{g:List Addr}(r:Reps K κ H v d g)(hl:H l=some o0)(ht:tf o0=false)(n:l∉g):Reps K κ (upd H l o) v d g:=r.move (ye4 hl ht) fun a ha=>dW fun z=>n (z▸ha)
theorem xG{a:Addr}{u:HO}{g:List Addr}(h:H a=some u)(n:a∉l::g):upd H l o a=some u:=by
 rw [dW (fun z=>n (by rw [z];exact List.mem_cons_self))];exact h
theorem tG{a:Addr}(h:upd H l o a=none):H a=none:=by
 by_cases z:a=l
 ·subst z;rw [eT] at h;cases h
 ·rw [dW z] at h;exact h
theorem Reps.pop:∀{vs:List V} {ds:List D} {g:List Addr} {d:D},Reps K κ H vs ds g->ds[ds.length-1]? =some d->∃v g1 f,vs[vs.length-1]? =some v/\Rep K κ H v d f/\Reps K κ H vs.dropLast ds.dropLast g1/\g=g1++f
 |_,_,_,_,.nil,e=>by simp at e
 |_,[d1],_,d,.cons (f:=f) h .nil,e=>by
  have e':d1=d:=by simpa using e
  subst e'
  exact⟨_,[],f,by simp,h,.nil,by simp⟩
 |v::v2::vs,d1::d2::ds,_,d,.cons (f:=f) h (.cons (f:=f2) (g:=g2) h2 hs),e=>by
  obtain⟨w,g1,f',k1,k2,k3,k4⟩:=Reps.pop (.cons h2 hs) (d:=d) (by simpa using e)
  refine⟨w,f++g1,f',by simpa using k1,k2,?_,by rw [List.append_assoc,<-k4]⟩
  rw [List.dropLast_cons₂,List.dropLast_cons₂]
  exact .cons h k3
theorem Reps.setV:∀{vs:List V} {ds:List D} {g:List Addr} {n:Nat} {v':V} {d':D} {f':List Addr},Reps K κ H vs ds g->n<ds.length->Rep K κ H v' d' f'->∃f1 bY g',g.Perm (f1++bY)/\Reps K κ H (vs.set n v') (ds.set n d') g'/\g'.Perm (f'++bY)
 |_,_,_,_,_,_,_,.nil,e,_=>by simp at e
 |_,_,_,0,_,_,f',.cons (f:=f) (g:=g) h hs,_,r=>⟨f,g,f'++g,.refl _,.cons r hs,.refl _⟩
 | _,_,_,n+1,_,_,f',.cons (f:=f) (g:=g) h hs,e,r=>by
  obtain⟨f1,bY,g',h1,h2,h3⟩:=Reps.setV (n:=n) hs (by simpa using e) r
  refine⟨f1,f++bY,f++g',?_,.cons h h2,?_⟩
  ·refine(h1.append_left f).trans ?_
   rw [<-List.append_assoc,<-List.append_assoc]
   exact List.perm_append_comm.append_right bY
  ·refine(h3.append_left f).trans ?_
   rw [<-List.append_assoc,<-List.append_assoc]
   exact List.perm_append_comm.append_right bY
end
section
variable{X:Cx}{φ:F0}{κ:tz9}{K:tz0}{o e a b:Expr}{f fi fe:tz2}{g:tz3}{pf:PSt->Option (List Ps1)}{j:Nat}{pos apos:Pos}
def bZ:List D->D->Option (D×D)
 |[],.lst true xs=>(xs[xs.length-1]?).bind fun y=>some (y,.lst true xs.dropLast)
 |_,_=>none
theorem ze8{ys:List D}{d r d':D}(h:bZ ys d=some (r,d')):∃xs,ys=[]/\d= .lst true xs/\xs[xs.length-1]? =some r/\d'= .lst true xs.dropLast:=by
 unfold bZ at h
 split at h
 ·obtain⟨y,h1,h2⟩:=bind_some h
  cases h2
  exact⟨_,rfl,rfl,h1,rfl⟩
 ·cases h
theorem sA(hb:φ.bor j=false)(ho:PE X o (iJ X.K κ j pf))
  (hbase:attributeBase o "pop" X.env (eval o X.env)=eval o X.env:=by rfl) (hline:(apos.endLine==pos.line)=true:=by rfl):QE X κ φ (.Call (.Attribute o "pop" apos) [] [] pos) (bH j pf aC bZ):=
 (yy1 PySem.F.plainAttrs_list PySem.F.slot_list_pop PySem.F.type_list_pop yy2 ho hbase hline).imp fun σ H Q hh_=>by
  obtain⟨ps,F,d,ps',R,e,q⟩:=hh_
  obtain⟨d0,p,ys,d0',e0,ep,eg,em,rfl⟩:=rB e
  cases eg
  obtain⟨dd,dn,gp,hh⟩:=mI em
  refine⟨ps,p,d0,dd,R.ws,e0,ep,gp,fun v H1 v0 s1 ev a1=>⟨?_,?_⟩⟩
  ·obtain⟨xs,_,rfl,_⟩:=ze8 hh
   obtain⟨fd,rd⟩:=vY R.ws s1 e0 ev gp a1
   obtain⟨_,_,_,rfl,hl,hr,rfl⟩:=rd.lstT_inv
   exact .inl ⟨rfl,_,.inl (.inl hl)⟩
  ·obtain⟨d1,d1',fd,m1,m2,m3,m4,m5⟩:=rZ R s1 hb e0 ev em a1
   obtain⟨xs,_,rfl,hx,rfl⟩:=ze8 m2
   obtain⟨l,us,g1,rfl,hl,hr,rfl⟩:=m1.lstT_inv
   obtain⟨u,g2,f2,k1,k2,k3,rfl⟩:=hr.pop hx
   obtain⟨nl,nd3⟩:=List.nodup_cons.mp m3
   have n1:l∉g2:=fun z=>nl (List.mem_append_left _ z)
   have n2:l∉f2:=fun z=>nl (List.mem_append_right _ z)
   refine⟨l,us,u,rfl,rfl,hl,k1,?_⟩
   obtain⟨F',st,ow⟩:=m5 (upd H1 l (.lst us.dropLast)) (l::g2) f2 (fun a o h _ hn=>xG h hn)
    (fun a h=>tG h)
    (.lst eT (k3.updL hl rfl n1)) (by rw [List.cons_append,List.nodup_cons];exact⟨nl,nd3⟩) (fun a ha=> .inl ha)
   exact q u _ F' f2 st ow (k2.updL hl rfl n2)
def dD:List D->D->Option (D×D)
 |[.lst true ys],.lst true xs=>if (D.imms ys=true/\xs.length+ys.length<=sizeLine) then some (.non,.lst true (xs++ys)) else none
 |_,_=>none
def dX:List D->D->Option (D×D)
 |[],.lst true _=>some (.non,.lst true [])
 |_,_=>none
def cC:D->D->D->Option (Unit×D)
 | .int i,y,.lst true xs=>(ixN xs.length i).bind fun n=>some ((),.lst true (xs.set n y))
 |_,_,_=>none
def cA(j:Nat)(pf:PSt->Option (List Ps1))(fi fe:tz2):tz1:=fun ps=>(fe ps).bind fun y=>((ps[j]?).join).bind fun d0=>(pf ps).bind fun p=>(fi ps).bind fun i=>(bV (cC i y) d0 p).bind fun r=>some (.nx,ps.set j (some r.2))
theorem zr0{i y d d':D}{r:Unit}(h:cC i y d=some (r,d')):∃k xs n,i= .int k/\d= .lst true xs/\ixN xs.length k=some n/\d'= .lst true (xs.set n y):=by
 unfold cC at h
 split at h
 ·obtain⟨n,h1,h2⟩:=bind_some h
  cases h2
  exact⟨_,_,n,rfl,rfl,h1,rfl⟩
 ·cases h
theorem qK{i:Expr}(hb:φ.bor j=false)(he:PE X e (tP X.K κ fe))(ho:PE X o (iJ X.K κ j pf))(hi:PE X i (tV X.K κ fi))(hs:swapsWithSole [.Subscript o i apos] e pos.line X.env=pure false:=by rfl)(hw:swappedStores [.Subscript o i apos] e X.env=pure none:=by rfl)
  (h1:(assignEach [.Subscript o i apos] X.env).map (·.2)=[assign (.Subscript o i apos) X.env]:=by rfl)
  (ha:∀v,assign (.Subscript o i apos) X.env v=(do
   let ov<-holding [v] (eval o X.env)
   let iv<-holding [v,ov] (eval i X.env)
   standAt apos
   holding [v,ov,iv] (setItem ov iv v)
   release [v,ov,iv] []):=by intro _;rfl):QS X κ φ (.Assign [.Subscript o i apos] e pos) (cA j pf fi fe):=
 (yb5 he (yw8 ho hi yj9 ha) hs hw h1).imp fun E σ H hh_=>by
  obtain⟨ps,F,fl,ps',R,e,q⟩:=hh_
  obtain⟨y,e1,e2⟩:=bind_some e
  obtain⟨d0,e3,e4⟩:=bind_some e2
  have e0:=iR e3
  obtain⟨p,e5,e6⟩:=bind_some e4
  obtain⟨iv,e7,e8⟩:=bind_some e6
  obtain⟨⟨r,d0'⟩,em,e9⟩:=bind_some e8
  cases e9
  obtain⟨dd,dn,gp,hh⟩:=mI em
  refine⟨ps,y,R.ws,e1,fun v H1 fy s1 n1 nd1 ry=>⟨ps,p,d0,dd,R.ws.same s1,e0,e5,gp,fun lv H2 v0 s2 ev a2=>⟨ps,iv,(R.ws.same s1).same s2,e7,fun u H3 fu s3 r3=> ?_⟩⟩⟩
  have s13:=(s1.trans s2).trans s3
  obtain⟨d1,d1',fd,m1,m2,m3,m4,m5⟩:=rZ R s13 hb e0 ev em (a2.same s3)
  obtain⟨k,xs,n,rfl,rfl,hn,rfl⟩:=zr0 m2
  obtain⟨l,us,g1,rfl,hl,hr,rfl⟩:=m1.lstT_inv
  have ln:=hr.length
  have ry3:=(ry.same s2).same s3
  obtain⟨nl,nd3⟩:=List.nodup_cons.mp m3
  have own0:∀a∈l::g1,H a≠none:=fun a ha z=>by obtain⟨o,h,_⟩:=R.own (m4 a ha);rw [z] at h;cases h
  have nl2:l∉fy:=fun z=>own0 l List.mem_cons_self (n1 l z)
  obtain⟨f1,bY,g2,k1,k2,k3⟩:=hr.setV (n:=n) (vV hn).2.1 ry3
  have mem2:∀a∈g2,a∈fy\/a∈g1:=fun a ha=>(List.mem_append.mp (k3.mem_iff.mp ha)).elim .inl fun z=> .inr (k1.mem_iff.mpr (List.mem_append_right _ z))
  have n2:l∉g2:=fun z=>(mem2 l z).elim nl2 nl
  refine⟨l,us,k,n,rfl,r3.is_int,hl,by rw [ln];exact hn,?_⟩
  obtain⟨F',st,ow⟩:=m5 (upd H3 l (.lst (us.set n v))) (l::g2) [] (fun a o h _ hn=>xG h hn)
   (fun a h=>tG h)
   (.lst eT (k2.updL hl rfl n2))
   (by
    rw [List.append_nil,List.nodup_cons]
    refine⟨n2,k3.nodup_iff.mpr (List.nodup_append.mpr ⟨nd1,?_,fun a ha b hb e=> ?_⟩)⟩
    ·exact(List.nodup_append.mp (k1.nodup_iff.mp nd3)).2.1
    ·subst e
     exact own0 a (List.mem_cons_of_mem _ (k1.mem_iff.mpr (List.mem_append_right _ hb))) (n1 a ha))
   (fun a ha=>by
    rw [List.append_nil] at ha
    rcases List.mem_cons.mp ha with z|z
    ·exact .inl (by rw [z];exact List.mem_cons_self)
    ·exact(mem2 a z).elim (fun z=> .inr (n1 a z)) fun z=> .inl (List.mem_cons_of_mem _ z))
  exact q _ _ F' st
end
section
variable{φ:Fx}{H H1:Hp}{σ σ1:St}{ps ps1:PSt}{F F1:Nat->List Addr}
theorem Stp.set'{fv:List Addr}{i:Nat}{v:V}{d:D}(s1:Stp φ σ H F σ1 H1 ps1 F1)(o:OwnV F H F1 fv)(R:RS φ H σ ps F)(r:Rep φ.K φ.κ H1 v d fv)(hb:φ.bor i=false\/fv=[])(hm:φ.M i=false):
  ∃F',Stp φ σ H F (σ1.set i (some v)) H1 (ps1.set i (some d)) F'/\∀k a,a∈F' k->a∈fv\/a∈F1 k:=by
 refine⟨_,⟨s1.fr,fun j a h=> ?_,s1.rs.set r hb (fun j _=>o.dis j) o.nd fun a ha=>R.notB (o.nw a ha),fun j h=> ?_⟩,fun k a h=> ?_⟩
 ·rcases lL h with z|z
  ·by_cases k:i<ps1.length
   ·rw [if_pos k] at z;exact o.nw a z
   ·rw [if_neg k] at z;exact absurd z (by simp)
  ·exact s1.nw j a z
 ·rw [List.getElem?_set_ne (fun z=>by subst z;rw [hm] at h;cases h)]
  exact s1.msk j h
 ·rcases lL h with z|z
  ·by_cases k:i<ps1.length
   ·rw [if_pos k] at z;exact .inl z
   ·rw [if_neg k] at z;exact absurd z (by simp)
  ·exact .inr z
def setN:St->List Nat->List V->St
 |σ,i::is,v::vs=>setN (σ.set i (some v)) is vs
 |σ,_,_=>σ
def eY:PSt->List Nat->List D->PSt
 |ps,i::is,d::ds=>eY (ps.set i (some d)) is ds
 |ps,_,_=>ps
def zT:List Nat->TGs
 |[]=>yn7
 |i::is=>zz7 (oM i) (zT is)
theorem vE{Q:St->Hp->Prop}:∀{is:List Nat} {vs:List V} {σ:St},vs.length=is.length->Q (setN σ is vs) H->zT is vs σ H Q
 |[],[],σ,_,q=>⟨rfl,q⟩
 |i::is,v::vs,σ,h,q=>⟨v,vs,rfl,vE (is:=is) (by simpa using h) q⟩
 |[],_::_,_,h,_=>by simp at h
 |_::_,[],_,h,_=>by simp at h
theorem Stp.setN(R:RS φ H σ ps F):∀{is:List Nat} {vs:List V} {ds:List D} {g:List Addr} {σ1:St} {ps1:PSt} {F1:Nat->List Addr},Stp φ σ H F σ1 H1 ps1 F1->OwnV F H F1 g->Reps φ.K φ.κ H1 vs ds g->(∀i∈is,φ.bor i=false/\φ.M i=false)->
  ∃F',Stp φ σ H F (L2.setN σ1 is vs) H1 (eY ps1 is ds) F':=by
 intro is
 induction is with
 |nil=>intro vs ds g σ1 ps1 F1 s _ _ _;exact⟨F1,by simpa [L2.setN,eY] using s⟩
 | cons i is ih=>
  intro vs ds g σ1 ps1 F1 s o r hi
  cases ds with
  |nil=>cases r;exact⟨F1,by simpa [L2.setN,eY] using s⟩
  |cons d ds=>
   obtain⟨v,us,f,g',rfl,h,hs,rfl⟩:=r.split
   obtain⟨nd1,nd2,nd3⟩:=List.nodup_append.mp o.nd
   obtain⟨F2,s2,hF⟩:=s.set' (i:=i) (fv:=f) ⟨fun a ha=>o.nw a (List.mem_append_left _ ha),nd1,fun k a ha hf=>o.dis k a ha (List.mem_append_left _ hf)⟩ R h (.inl (hi i List.mem_cons_self).1) (hi i List.mem_cons_self).2
   refine ih s2 ⟨fun a ha=>o.nw a (List.mem_append_right _ ha),nd2,fun k a ha hg=> ?_⟩ hs fun k hk=>hi k (List.mem_cons_of_mem _ hk)
   rcases hF k a ha with z|z
   ·exact nd3 a z a hg rfl
   ·exact o.dis k a z (List.mem_append_right _ hg)
end
def fJ:D->Option (List D)
 | .lst _ ds=>some ds
 | .tup ds=>some ds
 |_=>none
def eZ(is:List Nat)(f:tz8):tz1:=fun ps=>(f ps).bind fun r=>(fJ r.1).bind fun ds=>if ds.length=is.length then some (.nx,eY r.2 is ds) else none
section
variable{X:Cx}{κ:tz9}{φ:F0}{es:List Expr}{pos p:Pos}{k:Nat}{is:List Nat}{e:Expr}{f:tz8}
theorem yz1{t:TGs}{n:Nat}(hc:X.calm=true)(h:PGs X es t)
  (hn:(assignEach es X.env).length=n:=by rfl) (hst:(assignEach es X.env).findIdx? (·.1)=none:=by rfl):PG X (.Tuple es k pos) (fun v σ H Q=>xc4 X.K n t v σ H Q\/xb5 X.K n t v σ H Q):=by
 intro pins s σ H v u Q I r hw
 rcases hw with hw|hw
 ·exact yy7 hc h hn hst pins s σ H v u Q I r hw
 ·exact yw7 hc h hn hst pins s σ H v u Q I r hw
theorem rC(hc:X.calm=true)(hg:PGs X es (zT is))(he:QE X κ φ e f)(hb:∀i∈is,φ.bor i=false/\φ.M i=false)(hn:(assignEach es X.env).length=is.length:=by rfl)(hst:(assignEach es X.env).findIdx? (·.1)=none:=by rfl)
  (hs:swapsWithSole [.Tuple es k p] e pos.line X.env=pure false:=by rfl) (hw:swappedStores [.Tuple es k p] e X.env=pure none:=by rfl)
  (h1:(assignEach [.Tuple es k p] X.env).map (·.2)=[assign (.Tuple es k p) X.env]:=by rfl):QS X κ φ (.Assign [.Tuple es k p] e pos) (eZ is f):=
 (yb5 he (yz1 (n:=is.length) hc hg hn hst) hs hw h1).imp fun E σ H hh_=>by
  obtain⟨ps,F,fl,ps',R,e,q⟩:=hh_
  obtain⟨⟨d,ps1⟩,e1,e2⟩:=bind_some e
  obtain⟨ds,e3,e4⟩:=bind_some e2
  obtain⟨hl,e5⟩:=dU e4
  cases e5
  refine⟨ps,F,d,ps1,R,e1,fun v H' F' fv s o r=> ?_⟩
  cases d with
  |lst ow xs=>
   cases e3
   obtain⟨a,vs,g,rfl,h,hs,sub⟩:=r.lst_inv
   have ln:=hs.length
   obtain⟨F2,s2⟩:=Stp.setN R s ⟨fun a ha=>o.nw a (sub.subset ha),o.nd.sublist sub,fun k a ha hg=>o.dis k a ha (sub.subset hg)⟩ hs hb
   exact .inl ⟨a,vs,rfl,.inl h,by omega,vE (by omega) (q _ _ F2 s2)⟩
  |tup xs=>
   cases e3
   obtain⟨a,vs,rfl,h,hs⟩:=r.tup_inv
   have ln:=hs.length
   obtain⟨F2,s2⟩:=Stp.setN R s ⟨fun a ha=>absurd ha (by simp),List.nodup_nil,fun k a ha hg=>absurd hg (by simp)⟩ hs hb
   exact .inr ⟨a,vs,rfl,h,by omega,vE (by omega) (q _ _ F2 s2)⟩
  |_=>cases e3
end
def D.key:D->Option Key
 | .int i=>some (.inl i)
 | .str x=>some (.inr x)
 |_=>none
theorem za9{K:tz0}{κ:tz9}{H:Hp}{v:V}{d:D}{fp:List Addr}{k:Key}(r:Rep K κ H v d fp)(h:d.key=some k):v=kV k:=by
 cases r<;>first|(cases h;rfl)|cases h
def cX:List Key->List D->Key->Option D
 |k::ks,d::ds,j=>if k=j then some d else cX ks ds j
 |_,_,_=>none
def cP:D->D->Option D
 | .dic _ ks ds,y=>y.key.bind fun k=>cX ks ds k
 |_,_=>none
theorem xH{K:tz0}{κ:tz9}{H:Hp}:∀{kvs:List (Key×V)} {ks:List Key} {ds:List D} {g:List Addr} {k:Key} {d:D},kvs.map (·.1)=ks->Reps K κ H (kvs.map (·.2)) ds g->cX ks ds k=some d->∃v f,lZ kvs k=some v/\Rep K κ H v d f/\f.Sublist g
 |[],_,_,_,_,_,e,r,h=>by subst e;cases r;cases h
 | (k0,v0)::kvs,_,_,_,k,d,e,.cons (f:=f) (g:=g) h hs,q=>by
  subst e
  rw [List.map_cons,cX] at q
  by_cases z:k0=k
  ·rw [if_pos z] at q
   cases q
   exact⟨v0,f,sT z,h,List.sublist_append_left _ _⟩
  ·rw [if_neg z] at q
   obtain⟨v,f',q1,q2,q3⟩:=xH rfl hs q
   exact⟨v,f',by rw [sU z];exact q1,q2,q3.trans (List.sublist_append_right _ _)⟩
theorem Rep.dic_inv{K:tz0}{κ:tz9}{H:Hp}{v:V}{o:Bool}{ks:List Key}{ds:List D}{fp:List Addr}(r:Rep K κ H v (.dic o ks ds) fp):∃a kvs g,v= .ref a/\Rd H a (.dK kvs)/\kvs.map (·.1)=ks/\Reps K κ H (kvs.map (·.2)) ds g/\g.Sublist fp:=by
 cases r with
 |dic h e hs=>exact⟨_,_,_,rfl,.inl h,e,hs,List.sublist_cons_self _ _⟩
 |dicF h e hs=>exact⟨_,_,_,rfl,.inr ⟨_,h⟩,e,hs,.refl _⟩
section
variable{X:Cx}{κ:tz9}{a b:Expr}{fa fb:tz2}{pos:Pos}
theorem ys1{K:tz0}{H:Hp}{x y:V}{dx dy d:D}{fx fy:List Addr}{Q:VK}(r1:Rep K κ H x dx fx)(r2:Rep K κ H y dy fy)(e:cP dx dy=some d)(q:∀v f,Rep K κ H v d f->f.Sublist fx->Q v H):∃a v,x= .ref a/\zz9 H a y (some v)/\Q v H:=by
 cases dx with
 |dic o ks ds=>
  obtain⟨k,e1,e2⟩:=bind_some e
  obtain⟨a,kvs,g,rfl,h,hk,hs,sub⟩:=r1.dic_inv
  obtain⟨v,f,q1,q2,q3⟩:=xH hk hs e2
  exact⟨a,v,rfl,.inl ⟨kvs,k,h,za9 r2 e1,q1.symm⟩,q v f q2 (q3.trans sub)⟩
 |_=>cases e
theorem sB(hu:X.A.units+1<cLine)(ha:QP X κ a fa)(hb:QV X κ b fb)(hs:yB b:=by exact fun _ _=>rfl):QP X κ (.Subscript a b pos) (f2 cP fa fb):=
 (yr2 hu ha hb hs).imp fun σ H Q hh_=>by
  obtain⟨ps,d,w,e,q⟩:=hh_
  obtain⟨x,y,e1,e2,e3⟩:=rX e
  exact⟨ps,x,w,e1,fun v H1 fv s1 n1 nd1 r1=>⟨ps,y,w.same s1,e2,fun u H2 fq s2 r2=>ys1 (r1.same s2) r2 e3 fun v f r sub=>q v H2 f (s1.trans s2) (fun c hc=>n1 c (sub.subset hc)) (nd1.sublist sub) r⟩⟩
def trP(K:tz0)(κ:tz9)(l:List (Str×(tz2))):List (TE×TE):=l.map fun p=>(tP K κ (fC (.str p.1)),tP K κ p.2)
def cQ:List (Str×(tz2))->tz3
 |[],_=>some []
 |p::l,ps=>(p.2 ps).bind fun d=>(cQ l ps).bind fun ds=>some (d::ds)
def dE(l:List (Str×(tz2))):tz2:=fun ps=>(cQ l ps).bind fun ds=>some (.dic true (l.map fun p=> .inr p.1) ds)
theorem zl9{K:tz0}{σ:St}{ps:PSt}:∀{l:List (Str×(tz2))} {H:Hp} {ds:List D} {Q:List (V×V)->Hp->Prop},WS K κ H σ ps->cQ l ps=some ds->(∀vs H' fv,SameK H H'->(∀a∈fv,H a=none)->fv.Nodup->Reps K κ H' vs ds fv->Q ((l.map fun p=>V.str p.1).zip vs) H')->zR (trP K κ l) σ H Q
 |[],H,ds,Q,w,e,q=>by cases e;exact q [] H [] (.refl H) (fun _ h=>absurd h (by simp)) List.nodup_nil .nil
 |p::l,H,ds,Q,w,e,q=>by
  obtain⟨d,e1,e2⟩:=bind_some e
  obtain⟨ds',e3,e4⟩:=bind_some e2
  cases e4
  refine⟨ps,_,w,rfl,fun v H1 fv s1 n1 nd1 r1=>⟨ps,d,w.same s1,e1,fun u H2 fw s2 n2 nd2 r2=> ?_⟩⟩
  refine zl9 ((w.same s1).same s2) e3 fun vs H3 fx s3 n3 nd3 r3=> ?_
  have ev:v= .str p.1:=r1.is_str
  subst ev
  have s13:=(s1.trans s2).trans s3
  refine q (u::vs) H3 (fw++fx) s13 (fun a ha=> ?_) (ze5 r2 nd2 n3 nd3) (.cons (r2.same s3) r3)
  rcases List.mem_append.mp ha with z|z
  ·exact s1.grow a (n2 a z)
  ·exact(s1.trans s2).grow a (n3 a z)
theorem yT:∀(more kvs:List (Key×V)),((kvs++more).map (·.1)).Nodup->pR kvs more=kvs++more
 |[],kvs,_=>by simp [pR]
 | (k,v)::more,kvs,h=>by
  show pR (qS kvs k v) more=_
  have hn:lZ kvs k=none:=by
   cases e:lZ kvs k with
   |none=>rfl
   | some x=>
    exfalso
    unfold lZ at e
    cases e1:kvs.find? fun kv=>decide (kv.1=k) with
    |none=>rw [e1] at e;cases e
    |some p=>
     have h1:=List.mem_of_find?_eq_some e1
     have h2:p.1=k:=by simpa using List.find?_some e1
     rw [List.map_append,List.nodup_append] at h
     exact h.2.2 p.1 (List.mem_map_of_mem h1) k (by simp) h2
  rw [yk2 v hn,yT more (kvs++[(k,v)]) (by simpa using h),List.append_assoc];rfl
theorem zm0:∀{l:List (Str×(tz2))} {vs:List V},l.length=vs.length->(l.map fun p=>V.str p.1).zip vs=((l.map fun p=>(Sum.inr p.1:Key)).zip vs).map fun kv=>(kV kv.1,kv.2)
 |[],[],_=>rfl
 |p::l,v::vs,h=>by
  rw [List.map_cons,List.map_cons,List.zip_cons_cons,List.zip_cons_cons,List.map_cons,zm0 (by simpa using h)]
  rfl
 |[],_::_,h=>by simp at h
 |_::_,[],h=>by simp at h
theorem ze9{ps:PSt}:∀{l:List (Str×(tz2))} {ds:List D},cQ l ps=some ds->ds.length=l.length
 |[],_,e=>by cases e;rfl
 |p::l,_,e=>by
  obtain⟨d,_,e2⟩:=bind_some e
  obtain⟨ds',e3,e4⟩:=bind_some e2
  cases e4
  rw [List.length_cons,List.length_cons,ze9 e3]
theorem sC{keys:List (Option Expr)}{values:List Expr}{l:List (Str×(tz2))}(h:PPs X pos keys values (trP X.K κ l))(hnd:(l.map (·.1)).Nodup)(hlen:l.length<=15)(hall:keys.all (·.isSome)=true:=by rfl)(hl:keys.length=values.length:=by rfl)(h0:keys≠[]:=by simp)(h15:keys.length<=15:=by decide):
  QP X κ (.Dict keys values pos) (dE l):=(yr3 h hall hl h0 h15).imp fun σ H Q hh_=>by
 obtain⟨ps,d,w,e,q⟩:=hh_
 obtain⟨ds,e1,e2⟩:=bind_some e
 cases e2
 intro p hp
 have s0:SameK H (upd H p (.dK [])):= .new hp _
 refine zl9 (w.same s0) e1 fun vs H' fv s1 n1 nd1 r1=>⟨s1.keep p _ eT rfl,?_⟩
 have ln:l.length=vs.length:=by rw [r1.length,ze9 e1]
 have hz:((l.map fun p=>(Sum.inr p.1:Key)).zip vs).map (·.1)=l.map fun p=>(Sum.inr p.1:Key):=by
  rw [List.map_fst_zip];simp [ln]
 have hz2:((l.map fun p=>(Sum.inr p.1:Key)).zip vs).map (·.2)=vs:=by
  rw [List.map_snd_zip];simp [ln]
 have hnd2:(l.map fun p=>(Sum.inr p.1:Key)).Nodup:=by
  have:(l.map fun p=>(Sum.inr p.1:Key))=(l.map (·.1)).map Sum.inr:=by rw [List.map_map];rfl
  rw [this]
  exact List.Pairwise.map _ (fun a b hab hh=>hab (Sum.inr.inj hh)) hnd
 refine⟨(l.map fun p=>(Sum.inr p.1:Key)).zip vs,zm0 ln,by rw [List.length_zip,List.length_map];omega,?_⟩
 rw [yT _ [] (by rw [List.nil_append,hz];exact hnd2),List.nil_append]
 have hpf:p∉fv:=fun z=>by have:=n1 p z;rw [eT] at this;cases this
 refine q _ _ (p::fv) ⟨fun a o ha hk=> ?_,fun a ha=> ?_⟩ (fun a ha=> ?_) (List.nodup_cons.mpr ⟨hpf,nd1⟩) (.dic eT hz ?_)
 ·rw [dW (fun z=>by subst z;rw [hp] at ha;cases ha)]
  exact(s0.trans s1).keep a o ha hk
 ·exact(s0.trans s1).grow a (tG ha)
 ·rcases List.mem_cons.mp ha with z|z
  ·rw [z];exact hp
  ·exact s0.grow a (n1 a z)
 ·rw [hz2]
  exact r1.updL (s1.keep p _ eT rfl) rfl hpf
end
def fxE(K:tz0)(κ:tz9)(np:Nat)(m:Nat->Bool):Fx:=⟨K,κ,fun i=>decide (i<np)&& !m i,m,fun _ _=>False⟩
def f0E(np:Nat)(m:Nat->Bool):F0:=⟨fun i=>decide (i<np)&& !m i,m,fun _ _=>False⟩
def SpE(np:Nat)(K:tz0)(κ:tz9)(m:Nat->Bool)(g:tz7):Sp:=fun vs H Q _=>vs.length=np/\∃ds r ds' F,ds.length=np/\RS (fxE K κ np m) H (vs.map some) (ds.map some) F/\g ds=some (r,ds')/\
 ∀v H' F' fv,Stp (fxE K κ np m) (vs.map some) H F (vs.map some) H' (ds'.map some) F'->OwnV F H F' fv->Rep K κ H' v r fv->Q v H'
def gH(m:Nat->Bool)(ps:PSt):Nat->List D->Option (List D)
 |_,[]=>some []
 |i,d::ds=>(if m i=true then(ps[i]?).join else some d).bind fun d'=>(gH m ps (i+1) ds).bind fun ds'=>some (d'::ds')
theorem zf0{m:Nat->Bool}{ps:PSt}:∀{ds ds':List D} {i:Nat},gH m ps i ds=some ds'->ds'.length=ds.length/\∀(k:Nat) (d':D),ds'[k]? =some d'->(m (i+k)=true->ps[i+k]? =some (some d'))/\(m (i+k)=false->ds[k]? =some d')
 |[],_,_,e=>by cases e;exact⟨rfl,fun k d' h=>by simp at h⟩
 | d::ds,_,i,e=>by
  obtain⟨d1,e1,e2⟩:=bind_some e
  obtain⟨ds1,e3,e4⟩:=bind_some e2
  cases e4
  obtain⟨l,h⟩:=zf0 e3
  refine⟨by simp [l],fun k d' hk=> ?_⟩
  cases k with
  |zero=>
   simp at hk;subst hk
   refine⟨fun z=> ?_,fun z=> ?_⟩
   ·rw [Nat.add_zero] at z|-;rw [if_pos z] at e1;exact iR e1
   ·rw [Nat.add_zero] at z;rw [if_neg (by rw [z];simp)] at e1;simpa using e1
  |succ k=>
   obtain⟨h1,h2⟩:=h k d' (by simpa using hk)
   have ea:i+(k+1)=i+1+k:=by omega
   rw [ea]
   exact⟨h1,fun z=>by simpa using h2 z⟩
def gE(np n:Nat)(m:Nat->Bool)(f:tz1):tz7:=fun ds=>if ds.length=np then(f (ds.map some++List.replicate n none)).bind fun r=>match r with
 |(.ret d,ps)=>(gH m ps 0 ds).bind fun ds'=>some (d,ds')
 |(.nx,ps)=>(gH m ps 0 ds).bind fun ds'=>some (.non,ds')
 |_=>none
 else none
theorem RS.more{φ:Fx}{H:Hp}{σ σ2:St}{ps:PSt}{F:Nat->List Addr}{n:Nat}(R:RS φ H σ ps F)(hl:ps.length=σ.length)(h2:n<=σ2.length):RS φ H (σ++σ2) (ps++List.replicate n none) F:=by
 refine⟨fun i d h=> ?_,fun i a h=> ?_,R.dis,R.nd,R.nb,R.bt,by simp [hl];omega⟩
 ·by_cases hi:i<ps.length
  ·rw [List.getElem?_append_left hi] at h
   rw [List.getElem?_append_left (by omega)]
   exact R.rep i d h
  ·rw [List.getElem?_append_right (by omega),List.getElem?_replicate] at h
   split at h<;>cases h
 ·obtain⟨b,d,e⟩:=R.emp i a h
  have hi:=(List.getElem?_eq_some_iff.mp e).1
  exact⟨b,d,by rw [List.getElem?_append_left hi];exact e⟩
theorem zm1{K:tz0}{κ:tz9}{np n:Nat}{m:Nat->Bool}{H H':Hp}{vs:List V}{σ2 σ':St}{ds ds':List D}{ps':PSt}{F F':Nat->List Addr}{fv:List Addr}(hm:∀i,m i=true->i<np)(hl:vs.length=np)(hd:ds.length=np)(R:RS (fxE K κ np m) H (vs.map some) (ds.map some) F)
  (s:Stp (fxE K κ np m) (vs.map some++σ2) H F σ' H' ps' F') (o:OwnV F H F' fv) (e:gH m ps' 0 ds=some ds'):
  ∃F2,Stp (fxE K κ np m) (vs.map some) H F (vs.map some) H' (ds'.map some) F2/\OwnV F H F2 fv:=by
 obtain⟨l,ho⟩:=zf0 e
 have sub:∀i a,a∈(if m i=true then F' i else [])->m i=true/\a∈F' i:=fun i a h=>by
  by_cases z:m i=true
  ·rw [if_pos z] at h;exact⟨z,h⟩
  ·rw [if_neg z] at h;exact absurd h (by simp)
 have tfk:∀a u,H a=some u->tf u=true->H' a=some u:=fun a u h t=>s.fr.keep a u h (nK t) fun i hi=>by
  obtain⟨u',h',_,t'⟩:=R.own hi
  rw [h] at h';cases h';rw [t] at t';cases t'
 have mb:∀i,m i=true->(fxE K κ np m).bor i=false:=fun i h=>by simp [fxE,h]
 refine⟨fun i=>if m i=true then F' i else [],⟨s.fr,fun i a h=>s.nw i a (sub i a h).2,⟨fun i d h=> ?_,fun i a h=> ?_,fun i j a h1 h2=>s.rs.dis i j a (sub i a h1).2 (sub j a h2).2,fun i=> ?_,fun i a h=>s.rs.nb i a (sub i a h).2,fun _ a h=>h.elim,by simp [l,hl,hd]⟩,fun _ _=>rfl⟩,⟨o.nw,o.nd,fun i a h=>o.dis i a (sub i a h).2⟩⟩
 ·rw [List.getElem?_map] at h
  cases q:ds'[i]? with
  |none=>rw [q] at h;cases h
  | some d1=>
   rw [q] at h;cases h
   obtain⟨h1,h2⟩:=ho i d q
   rw [Nat.zero_add] at h1 h2
   by_cases z:m i=true
   ·obtain⟨v,fp,k1,k2,k3,_⟩:=s.rs.rep i d (h1 z)
    refine⟨v,fp,?_,k2,fun _=>by rw [if_pos z];exact k3 (mb i z),fun w=>by rw [mb i z] at w;cases w⟩
    rw [<-k1]
    have:=s.msk i z
    rw [this,List.getElem?_append_left (by simp [hl];exact hm i z)]
   ·have zf:m i=false:=by simpa using z
    have hi:(ds.map some)[i]? =some (some d):=by rw [List.getElem?_map,h2 zf];rfl
    have hib:(fxE K κ np m).bor i=true:=by
     have:=(List.getElem?_eq_some_iff.mp (h2 zf)).1
     simp [fxE,zf];omega
    obtain⟨v,fp,k1,k2,_,k4⟩:=R.rep i d hi
    have efp:fp=[]:=by
     cases fp with
     |nil=>rfl
     |cons a r=>exact(k4 hib a List.mem_cons_self).elim
    subst efp
    exact⟨v,[],k1,k2.move tfk (fun a ha=>absurd ha (by simp)),(fun w=>by rw [hib] at w;cases w),(fun _ a ha=>absurd ha (by simp))⟩
 ·obtain⟨z,h⟩:=sub i a h
  refine⟨mb i z,?_⟩
  have hi:i<ds'.length:=by rw [l,hd];exact hm i z
  exact⟨ds'[i],by rw [List.getElem?_map,List.getElem?_eq_getElem hi];rfl⟩
 ·by_cases z:m i=true
  ·rw [if_pos z];exact s.rs.nd i
  ·rw [if_neg z];exact List.nodup_nil
section
variable{P:Program}{w:World}{K:tz0}{mg:tzA}{base:Heap}{κ:tz9}
theorem tH{x qual:Str}{st:Stmt}{f:Addr}{fd:FuncData}{N ps:List Str}{k:Nat}{fb:tz1}{m:Nat->Bool}(F:Fun K x qual st f fd)(S:FnScope N ps (aY st))(hm:∀i,m i=true->i<ps.length)
  (hbody:∀(cdv:Value) (A:Around) (outer:List Env) (s:Shared) (H:Hp) (E:XK),Room k (A.deeper (envOfC qual (aY st) s.heap.objs.size f cdv))->
   QSs (gG CX0 P w K mg base N qual (aY st) f cdv A outer s H E).nox κ (f0E ps.length m) (dF st) fb):
  FnOk P w K mg base CX0 (k+1) f fd ps (SpE ps.length K κ m (gE ps.length (N.length-ps.length) m fb)):=by
 refine F.ok S (fun vs H Q E h=>h.1) fun cdv A outer s H vs Q E hr ⟨hl,ds,r,ds',F0,hd,R,e,q⟩=>⟨_,hbody cdv A outer s H E hr,?_⟩
 have hn:ps.length<=N.length:=by have:=congrArg List.length S.pre;rw [List.length_take] at this;omega
 unfold gE at e
 obtain⟨_,e0⟩:=dU e
 obtain⟨⟨fl,ps'⟩,e1,e2⟩:=bind_some e0
 have R0:=R.more (σ2:=List.replicate (N.length-vs.length) none) (n:=N.length-ps.length) (by simp [hl,hd]) (by simp [hl])
 refine⟨_,F0,fl,ps',R0,e1,?_⟩
 cases fl with
 | ret d'=>
  obtain⟨ds1,e3,e4⟩:=bind_some e2
  cases e4
  exact fun v σ' H' F' fv s o rv=>by
   obtain⟨F2,s2,o2⟩:=zm1 (n:=0) hm hl hd R s o e3
   exact q v H' F2 fv s2 o2 rv
 | nx=>
  obtain⟨ds1,e3,e4⟩:=bind_some e2
  cases e4
  exact fun σ' H' F' s=>by
   obtain⟨F2,s2,o2⟩:=zm1 (n:=0) (fv:=[]) hm hl hd R s ⟨fun _ h=>absurd h (by simp),List.nodup_nil,fun _ _ _ h=>absurd h (by simp)⟩ e3
   exact q .non H' F2 [] s2 o2 .non
 |bk=>cases e2
 |ct=>cases e2
end
set_option genInjectivity true in
inductive Arg where
 |io (j:Nat)|im (f:tz2)
def cI:List Arg->tz3
 |[],_=>some []
 | .io j::as,ps=>((ps[j]?).join).bind fun d=>(cI as ps).bind fun ds=>some (d::ds)
 | .im f::as,ps=>(bC f ps).bind fun d=>(cI as ps).bind fun ds=>some (d::ds)
def mM:List Arg->Nat->Bool
 | .io _::_,0=>true
 |_::as,i+1=>mM as i
 |_,_=>false
def slots:List Arg->List Nat
 |[]=>[]
 | .io j::as=>j::slots as
 | .im _::as=>slots as
def fX:PSt->List Arg->List D->PSt
 |ps,.io j::as,d::ds=>fX (ps.set j (some d)) as ds
 |ps,.im _::as,_::ds=>fX ps as ds
 |ps,_,_=>ps
inductive ArgsAt(K:tz0)(κ:tz9)(H:Hp)(σ:St)(ps:PSt):List Arg->List V->List D->Prop
 |nil:ArgsAt K κ H σ ps [] [] []
 |io {j:Nat} {as:List Arg} {v:V} {vs:List V} {d:D} {ds:List D}:σ[j]? =some (some v)->ps[j]? =some (some d)->ArgsAt K κ H σ ps as vs ds->ArgsAt K κ H σ ps (.io j::as) (v::vs) (d::ds)
 |im {f:tz2} {as:List Arg} {v:V} {vs:List V} {d:D} {ds:List D}:Rep K κ H v d []->ArgsAt K κ H σ ps as vs ds->ArgsAt K κ H σ ps (.im f::as) (v::vs) (d::ds)
theorem ArgsAt.len{K:tz0}{κ:tz9}{H:Hp}{σ:St}{ps:PSt}:∀{as:List Arg} {vs:List V} {ds:List D},ArgsAt K κ H σ ps as vs ds->vs.length=as.length/\ds.length=as.length
 |_,_,_,.nil=>⟨rfl,rfl⟩
 |_,_,_,.io _ _ h=>by have:=h.len;simp [this]
 |_,_,_,.im _ h=>by have:=h.len;simp [this]
theorem ArgsAt.get{K:tz0}{κ:tz9}{H:Hp}{σ:St}{ps:PSt}:∀{as:List Arg} {vs:List V} {ds:List D} {i:Nat} {d:D},ArgsAt K κ H σ ps as vs ds->ds[i]? =some d->∃v,vs[i]? =some v/\((∃j,as[i]? =some (.io j)/\mM as i=true/\σ[j]? =some (some v)/\ps[j]? =some (some d))\/(mM as i=false/\Rep K κ H v d []))
 |_,_,_,_,_,.nil,e=>by simp at e
 |_,_,_,0,_,.io h1 h2 _,e=>by simp at e;subst e;exact⟨_,rfl,.inl ⟨_,rfl,rfl,h1,h2⟩⟩
 |_,_,_,0,_,.im r _,e=>by simp at e;subst e;exact⟨_,rfl,.inr ⟨rfl,r⟩⟩
 |_,_,_,i+1,_,.io _ _ h,e=>by
  obtain⟨v,h1,h2⟩:=ArgsAt.get (i:=i) h (by simpa using e)
  exact⟨v,by simpa using h1,by simpa [mM] using h2⟩
 |_,_,_,i+1,_,.im _ h,e=>by
  obtain⟨v,h1,h2⟩:=ArgsAt.get (i:=i) h (by simpa using e)
  exact⟨v,by simpa using h1,by simpa [mM] using h2⟩
theorem zb0:∀{as:List Arg} {i:Nat},mM as i=true->∃j,as[i]? =some (.io j)
 | .io j::_,0,_=>⟨j,rfl⟩
 | .im _::_,0,h=>by cases h
 | .io _::as,i+1,h=>by obtain⟨j,e⟩:=zb0 (as:=as) (i:=i) h;exact⟨j,by simpa using e⟩
 | .im _::as,i+1,h=>by obtain⟨j,e⟩:=zb0 (as:=as) (i:=i) h;exact⟨j,by simpa using e⟩
 |[],_,h=>by cases h
theorem pA:∀{as:List Arg} {i j:Nat},as[i]? =some (.io j)->mM as i=true
 | .io _::_,0,_,_=>rfl
 | .im _::_,0,_,h=>by simp at h
 | .io _::as,i+1,j,h=>pA (as:=as) (i:=i) (j:=j) (by simpa using h)
 | .im _::as,i+1,j,h=>pA (as:=as) (i:=i) (j:=j) (by simpa using h)
 |[],_,_,h=>by simp at h
theorem kJ:∀{as:List Arg} {i j:Nat},as[i]? =some (.io j)->j∈slots as
 | .io _::_,0,_,h=>by simp at h;subst h;exact List.mem_cons_self
 | .im _::_,0,_,h=>by simp at h
 | .io _::as,i+1,j,h=>List.mem_cons_of_mem _ (kJ (as:=as) (i:=i) (by simpa using h))
 | .im _::as,i+1,j,h=>kJ (as:=as) (i:=i) (by simpa using h)
 |[],_,_,h=>by simp at h
theorem vF:∀{as:List Arg} {i k j:Nat},(slots as).Nodup->as[i]? =some (.io j)->as[k]? =some (.io j)->i=k
 |[],_,_,_,_,h,_=>by simp at h
 |a::as,0,0,_,_,_,_=>rfl
 | .io j'::as,0,k+1,j,nd,h1,h2=>by
  simp at h1;subst h1
  exact absurd (kJ (as:=as) (i:=k) (by simpa using h2)) (List.nodup_cons.mp nd).1
 | .im _::as,0,k+1,j,_,h1,_=>by simp at h1
 | .io j'::as,i+1,0,j,nd,h1,h2=>by
  simp at h2;subst h2
  exact absurd (kJ (as:=as) (i:=i) (by simpa using h1)) (List.nodup_cons.mp nd).1
 | .im _::as,i+1,0,j,_,_,h2=>by simp at h2
 | .io j'::as,i+1,k+1,j,nd,h1,h2=>by rw [vF (as:=as) (i:=i) (k:=k) (j:=j) (List.nodup_cons.mp nd).2 (by simpa using h1) (by simpa using h2)]
 | .im _::as,i+1,k+1,j,nd,h1,h2=>by rw [vF (as:=as) (i:=i) (k:=k) (j:=j) nd (by simpa using h1) (by simpa using h2)]
def iK:List Arg->Nat->Option Nat
 |[],_=>none
 | .io i::as,j=>if i=j then some 0 else(iK as j).map (·+1)
 | .im _::as,j=>(iK as j).map (·+1)
theorem mV:∀{as:List Arg} {j i:Nat},iK as j=some i->as[i]? =some (.io j)
 |[],_,_,h=>by cases h
 | .io k::as,j,i,h=>by
  rw [iK] at h
  by_cases z:k=j
  ·rw [if_pos z] at h;cases h;rw [z];rfl
  ·rw [if_neg z] at h
   cases q:iK as j with
   |none=>rw [q] at h;cases h
   |some n=>rw [q] at h;cases h;simpa using mV q
 | .im _::as,j,i,h=>by
  rw [iK] at h
  cases q:iK as j with
  |none=>rw [q] at h;cases h
  |some n=>rw [q] at h;cases h;simpa using mV q
theorem lM:∀{as:List Arg} {j:Nat},iK as j=none->j∉slots as
 |[],_,_=>by simp [slots]
 | .io k::as,j,h=>by
  rw [iK] at h
  by_cases z:k=j
  ·rw [if_pos z] at h;cases h
  ·rw [if_neg z] at h
   have h':iK as j=none:=by
    cases q:iK as j with
    |none=>rfl
    |some n=>rw [q] at h;cases h
   exact fun hm=>(List.mem_cons.mp hm).elim (fun e=>z e.symm) (lM h')
 | .im _::as,j,h=>by
  rw [iK] at h
  have h':iK as j=none:=by
   cases q:iK as j with
   |none=>rfl
   |some n=>rw [q] at h;cases h
  exact fun hm=>lM (as:=as) h' hm
theorem tI:∀{as:List Arg} {ds:List D} {ps:PSt},(fX ps as ds).length=ps.length
 |[],_,_=>by simp [fX]
 | .io j::as,[],_=>by simp [fX]
 | .im _::as,[],_=>by simp [fX]
 | .io j::as,d::ds,ps=>by rw [fX,tI (as:=as)];simp
 | .im _::as,d::ds,ps=>by rw [fX,tI (as:=as)]
theorem oC:∀{as:List Arg} {ds:List D} {ps:PSt} {j:Nat},j∉slots as->(fX ps as ds)[j]? =ps[j]?
 |[],_,_,_,_=>by simp [fX]
 | .io _::_,[],_,_,_=>by simp [fX]
 | .im _::_,[],_,_,_=>by simp [fX]
 | .io k::as,d::ds,ps,j,h=>by
  rw [fX,oC (as:=as) (fun z=>h (List.mem_cons_of_mem _ z)),List.getElem?_set_ne (fun z=>h (by rw [<-z];exact List.mem_cons_self))]
 | .im _::as,d::ds,ps,j,h=>by rw [fX];exact oC (as:=as) h
theorem vZ:∀{as:List Arg} {ds:List D} {ps:PSt} {i j:Nat} {d:D},(slots as).Nodup->as[i]? =some (.io j)->ds[i]? =some d->j<ps.length->(fX ps as ds)[j]? =some (some d)
 |[],_,_,_,_,_,_,h,_,_=>by simp at h
 |_::_,[],_,_,_,_,_,_,h,_=>by simp at h
 | .io k::as,d1::ds,ps,0,j,d,nd,h1,h2,h3=>by
  simp at h1 h2;subst h1;subst h2
  rw [fX,oC (List.nodup_cons.mp nd).1,List.getElem?_set_self h3]
 | .im _::as,d1::ds,ps,0,j,d,_,h1,_,_=>by simp at h1
 | .io k::as,d1::ds,ps,i+1,j,d,nd,h1,h2,h3=>by
  rw [fX];exact vZ (List.nodup_cons.mp nd).2 (by simpa using h1) (by simpa using h2) (by simpa using h3)
 | .im _::as,d1::ds,ps,i+1,j,d,nd,h1,h2,h3=>by
  rw [fX];exact vZ (as:=as) nd (by simpa using h1) (by simpa using h2) h3
def pE(as:List Arg)(F:Nat->List Addr):Nat->List Addr:=fun i=>match as[i]? with
 |some (.io j)=>F j
 |_=>[]
theorem zt7{as:List Arg}{F:Nat->List Addr}{i j:Nat}(e:as[i]? =some (.io j)):pE as F i=F j:=by unfold pE;rw [e]
theorem zm2{as:List Arg}{F:Nat->List Addr}{i:Nat}{b:Addr}(h:b∈pE as F i):∃j,as[i]? =some (.io j)/\b∈F j:=by
 unfold pE at h
 cases q:as[i]? with
 |none=>rw [q] at h;exact absurd h (by simp)
 |some x=>
  cases x with
  |io j=>rw [q] at h;exact⟨j,rfl,h⟩
  |im _=>rw [q] at h;exact absurd h (by simp)
theorem zb1{as:List Arg}{F:Nat->List Addr}{i:Nat}(e:mM as i=false):pE as F i=[]:=by
 unfold pE
 cases q:as[i]? with
 |none=>rfl
 |some x=>cases x with
  |io j=>rw [pA q] at e;cases e
  |im _=>rfl
theorem yl0{φ:Fx}{H:Hp}{σ:St}{ps:PSt}{F:Nat->List Addr}{as:List Arg}{vs:List V}{ds:List D}(R:RS φ H σ ps F)(nd:(slots as).Nodup)(hb:∀j∈slots as,φ.bor j=false)(a:ArgsAt φ.K φ.κ H σ ps as vs ds):
  RS (fxE φ.K φ.κ as.length (mM as)) H (vs.map some) (ds.map some) (pE as F):=by
 obtain⟨lv,ld⟩:=a.len
 have memF:∀i b,b∈pE as F i->∃j,as[i]? =some (Arg.io j)/\b∈F j:=fun i b h=>zm2 h
 refine⟨fun i d h=> ?_,fun i b h=> ?_,fun i k b h1 h2=> ?_,fun i=> ?_,fun i b h k z=>z.elim,fun k b z=>z.elim,by simp [lv,ld]⟩
 ·rw [List.getElem?_map] at h
  cases q:ds[i]? with
  |none=>rw [q] at h;cases h
  | some d1=>
   rw [q] at h;cases h
   obtain⟨v,h1,h2⟩:=a.get q
   have hi:=(List.getElem?_eq_some_iff.mp q).1
   refine⟨v,pE as F i,by rw [List.getElem?_map,h1];rfl,?_,fun _=>rfl,fun z=> ?_⟩
   ·rcases h2 with ⟨j,e1,e2,e3,e4⟩|⟨e1,r⟩
    ·obtain⟨v',fp,k1,k2,k3,_⟩:=R.rep j d e4
     rw [e3] at k1;cases k1
     rw [zt7 e1]
     have:=k3 (hb j (kJ e1))
     subst this
     exact k2
    ·rw [zb1 e1];exact r
   ·rcases h2 with ⟨j,e1,e2,_⟩|⟨e1,r⟩
    ·simp [fxE,e2] at z
    ·rw [zb1 e1];intro b hb;exact absurd hb (by simp)
 ·obtain⟨j,e,hj⟩:=memF i b h
  have hi:i<ds.length:=by rw [ld];exact(List.getElem?_eq_some_iff.mp e).1
  exact⟨by simp [fxE,pA e],ds[i],by rw [List.getElem?_map,List.getElem?_eq_getElem hi];rfl⟩
 ·obtain⟨j1,e1,m1⟩:=memF i b h1
  obtain⟨j2,e2,m2⟩:=memF k b h2
  have:=R.dis j1 j2 b m1 m2
  subst this
  exact vF nd e1 e2
 ·cases z:mM as i with
  |true=>obtain⟨j,e⟩:=zb0 z;rw [zt7 e];exact R.nd j
  |false=>rw [zb1 z];exact List.nodup_nil
def rE(as:List Arg)(F Fc:Nat->List Addr):Nat->List Addr:=fun j=>match iK as j with
 |some i=>Fc i
 |none=>F j
theorem ye5{as:List Arg}{F Fc:Nat->List Addr}{j:Nat}{b:Addr}(h:b∈rE as F Fc j):(∃i,iK as j=some i/\b∈Fc i)\/(iK as j=none/\b∈F j):=by
 unfold rE at h
 cases q:iK as j with
 |none=>rw [q] at h;exact .inr ⟨rfl,h⟩
 |some i=>rw [q] at h;exact .inl ⟨i,rfl,h⟩
theorem yU{as:List Arg}{F Fc:Nat->List Addr}{j i:Nat}(e:iK as j=some i):rE as F Fc j=Fc i:=by unfold rE;rw [e]
theorem yV{as:List Arg}{F Fc:Nat->List Addr}{j:Nat}(e:iK as j=none):rE as F Fc j=F j:=by unfold rE;rw [e]
theorem ys2{φ:Fx}{H H1 H':Hp}{σ:St}{ps:PSt}{F Fc':Nat->List Addr}{as:List Arg}{vs:List V}{ds ds':List D}{fv:List Addr}(R:RS φ H σ ps F)(s1:SameK H H1)(nd:(slots as).Nodup)(hb:∀j∈slots as,φ.bor j=false)(a:ArgsAt φ.K φ.κ H1 σ ps as vs ds)(hl:ds'.length=as.length)
  (s:Stp (fxE φ.K φ.κ as.length (mM as)) (vs.map some) H1 (pE as F) (vs.map some) H' (ds'.map some) Fc') (o:OwnV (pE as F) H1 Fc' fv):
  ∃F',Stp φ σ H F σ H' (fX ps as ds') F'/\OwnV F H F' fv:=by
 have memF:∀i b,b∈pE as F i->∃j,as[i]? =some (Arg.io j)/\b∈F j:=fun i b h=>zm2 h
 have nwA:∀b,((∃i,b∈pE as F i)\/H1 b=none)->(∃j∈slots as,b∈F j)\/H b=none:=fun b h=>by
  rcases h with ⟨i,h⟩|h
  ·obtain⟨j,e,m⟩:=memF i b h
   exact .inl ⟨j,kJ e,m⟩
  ·exact .inr (s1.grow b h)
 have isDisj:∀b,((∃i,b∈Fc' i)\/b∈fv)->∀j,j∉slots as->b∉F j:=fun b h j hj hm=>by
  have h':(∃j∈slots as,b∈F j)\/H b=none:=by
   rcases h with ⟨i,h⟩|h
   ·exact nwA b (s.nw i b h)
   ·exact nwA b (o.nw b h)
  rcases h' with ⟨k,hk,hm2⟩|z
  ·exact hj (R.dis j k b hm hm2▸hk)
  ·obtain⟨u,q,_⟩:=R.own hm;rw [z] at q;cases q
 have pK:∀b u,H b=some u->kd u=true->(∀j∈slots as,b∉F j)->H' b=some u:=fun b u h k n=>s.fr.keep b u (s1.keep b u h k) k fun i hi=>by
  obtain⟨j,e,m⟩:=memF i b hi
  exact n j (kJ e) m
 have tfk:∀b u,H b=some u->tf u=true->H' b=some u:=fun b u h t=>pK b u h (nK t) fun j _ hm=>by
  obtain⟨u',h',_,t'⟩:=R.own hm
  rw [h] at h';cases h';rw [t] at t';cases t'
 have posmem:∀j b,b∈rE as F Fc' j->(∃i,iK as j=some i/\b∈Fc' i)\/(iK as j=none/\b∈F j):=fun j b h=>ye5 h
 refine⟨rE as F Fc',⟨⟨fun b u h k n=>pK b u h k fun j _=>n j,fun b h=>s1.grow b (s.fr.grow b h)⟩,fun j b h=> ?_,⟨fun j d h=> ?_,fun j b h=> ?_,fun j k b h1 h2=> ?_,fun j=> ?_,fun j b h=> ?_,fun kk b hB z=>R.bt kk b hB (s1.grow b (s.fr.grow b z)),by rw [tI];exact R.len⟩,fun _ _=>rfl⟩,⟨fun b hb'=> ?_,o.nd,fun j b h hv=> ?_⟩⟩
 ·rcases posmem j b h with ⟨i,e,m⟩|⟨e,m⟩
  ·exact(nwA b (s.nw i b m)).elim (fun⟨k,_,hk⟩=> .inl ⟨k,hk⟩) .inr
  ·exact .inl ⟨j,m⟩
 ·cases q:iK as j with
  | some i=>
   have e:=mV q
   have hi:i<ds'.length:=by rw [hl];exact(List.getElem?_eq_some_iff.mp e).1
   have ei:ds'[i]? =some ds'[i]:=List.getElem?_eq_getElem hi
   have hj:j<ps.length:=by
    have:=(List.getElem?_eq_some_iff.mp h).1
    rwa [tI] at this
   rw [vZ nd e ei hj] at h
   cases h
   obtain⟨v,fp,k1,k2,k3,_⟩:=s.rs.rep i ds'[i] (by rw [List.getElem?_map,ei];rfl)
   have hbi:(fxE φ.K φ.κ as.length (mM as)).bor i=false:=by simp [fxE,pA e]
   have k3:=k3 hbi
   subst k3
   have hvi:i<vs.length:=by rw [a.len.1];exact(List.getElem?_eq_some_iff.mp e).1
   have hdi:i<ds.length:=by rw [a.len.2];exact(List.getElem?_eq_some_iff.mp e).1
   obtain⟨v',g1,g2⟩:=a.get (List.getElem?_eq_getElem hdi)
   rw [List.getElem?_map,g1] at k1
   cases k1
   rcases g2 with ⟨j',e1,_,e3,_⟩|⟨e1,_⟩
   ·rw [e] at e1;cases e1
    exact⟨v,Fc' i,e3,k2,(fun _=>(yU q).symm),(fun z=>by rw [hb j (kJ e)] at z;cases z)⟩
   ·rw [pA e] at e1;cases e1
  |none=>
   have hn:=lM q
   rw [oC hn] at h
   obtain⟨v,fp,k1,k2,k3,k4⟩:=R.rep j d h
   refine⟨v,fp,k1,k2.move tfk fun b hb'=> ?_,(fun z=>by rw [yV q];exact k3 z),k4⟩
   obtain⟨u,q1,q2,_⟩:=k2.own b hb'
   rw [q1]
   refine pK b u q1 q2 fun k hk hm=> ?_
   cases z:φ.bor j with
   |true=>exact R.nb k b hm j (k4 z b hb')
   |false=>rw [k3 z] at hb';exact hn (R.dis j k b hb' hm▸hk)
 ·rcases posmem j b h with ⟨i,e,m⟩|⟨e,m⟩
  ·have e':=mV e
   refine⟨hb j (kJ e'),?_⟩
   have hi:i<ds'.length:=by rw [hl];exact(List.getElem?_eq_some_iff.mp e').1
   have hdi:i<ds.length:=by rw [a.len.2];exact(List.getElem?_eq_some_iff.mp e').1
   obtain⟨v',g1,g2⟩:=a.get (List.getElem?_eq_getElem hdi)
   rcases g2 with ⟨j',e1,_,_,e4⟩|⟨e1,_⟩
   ·rw [e'] at e1;cases e1
    exact⟨_,vZ nd e' (List.getElem?_eq_getElem hi) (List.getElem?_eq_some_iff.mp e4).1⟩
   ·rw [pA e'] at e1;cases e1
  ·obtain⟨b1,d,b2⟩:=R.emp j b m
   exact⟨b1,d,by rw [oC (lM e)];exact b2⟩
 ·rcases posmem j b h1 with ⟨i,e,m⟩|⟨e,m⟩
  ·rcases posmem k b h2 with ⟨i',e',m'⟩|⟨e',m'⟩
   ·have:=s.rs.dis i i' b m m'
    subst this
    have q1:=mV e
    have q2:=mV e'
    rw [q1] at q2
    cases q2;rfl
   ·exact absurd m' (isDisj b (.inl ⟨i,m⟩) k (lM e'))
  ·rcases posmem k b h2 with ⟨i',e',m'⟩|⟨e',m'⟩
   ·exact absurd m (isDisj b (.inl ⟨i',m'⟩) j (lM e))
   ·exact R.dis j k b m m'
 ·cases q:iK as j with
  |some i=>rw [yU q];exact s.rs.nd i
  |none=>rw [yV q];exact R.nd j
 ·rcases posmem j b h with ⟨i,e,m⟩|⟨e,m⟩
  ·exact R.notB ((nwA b (s.nw i b m)).elim (fun⟨k,_,hk⟩=> .inl ⟨k,hk⟩) .inr)
  ·exact R.nb j b m
 ·exact(nwA b (o.nw b hb')).elim (fun⟨k,_,hk⟩=> .inl ⟨k,hk⟩) .inr
 ·rcases posmem j b h with ⟨i,e,m⟩|⟨e,m⟩
  ·exact o.dis i b m hv
  ·exact isDisj b (.inr hv) j (lM e) m
def tIO(K:tz0)(κ:tz9)(as:List Arg):TA:=fun σ H Q=>∃ps ds,WS K κ H σ ps/\cI as ps=some ds/\∀vs H',SameK H H'->ArgsAt K κ H' σ ps as vs ds->Q vs H'
def fIO(as:List Arg)(g:tz7):tz8:=fun ps=>(cI as ps).bind fun ds=>(g ds).bind fun r=>if r.2.length=as.length then some (r.1,fX ps as r.2) else none
section
variable{X:Cx}{φ:F0}{κ:tz9}{e:Expr}{es:List Expr}{as:List Arg}{f:tz2}{pos p:Pos}
theorem lW:PA X [] (tIO X.K κ []):=kY.imp fun σ H Q ⟨ps,ds,w,e,q⟩=>by cases e;exact q [] H (.refl H) .nil
theorem sD(j:Nat){x:Str}(hr:PA X es (tIO X.K κ as))(hN:X.N[j]? =some x:=by rfl)(hv:Vis X.env.scope x:=by first|exact Or.inl rfl|exact Or.inr (Or.inl rfl)|exact Or.inr (Or.inr rfl))(hd:(x==("__debug__":Str))=false:=by decide)
  (hcd:(x==("__classdict__":Str))=false:=by decide) (hs:starEach (.Name x pos::es) X.env=(false,eval (.Name x pos) X.env)::starEach es X.env:=by rfl):PA X (.Name x pos::es) (tIO X.K κ (.io j::as)):=
 (gD (jX hN hv hd hcd) hr hs).imp fun σ H Q hh_=>by
  obtain⟨ps,ds,w,e,q⟩:=hh_
  obtain⟨d,e1,e2⟩:=bind_some e
  obtain⟨ds',e3,e4⟩:=bind_some e2
  cases e4
  have e0:=iR e1
  obtain⟨v,fp,h1,h2⟩:=w j d e0
  exact⟨v,h1,ps,ds',w,e3,fun vs H1 s1 a1=>q (v::vs) H1 s1 (.io h1 e0 a1)⟩
theorem pN(ha:QV X κ e f)(hr:PA X es (tIO X.K κ as))(hs:starEach (e::es) X.env=(false,eval e X.env)::starEach es X.env:=by rfl):PA X (e::es) (tIO X.K κ (.im f::as)):=
 (gD ha.p hr hs).imp fun σ H Q hh_=>by
  obtain⟨ps,ds,w,e,q⟩:=hh_
  obtain⟨d,e1,e2⟩:=bind_some e
  obtain⟨ds',e3,e4⟩:=bind_some e2
  cases e4
  refine⟨ps,d,w,e1,fun v H1 fv s1 n1 nd1 r1=>⟨ps,ds',w.same s1,e3,fun vs H2 s2 a2=>q (v::vs) H2 (s1.trans s2) (.im ?_ a2)⟩⟩
  unfold bC at e1
  obtain⟨d1,k1,k2⟩:=bind_some e1
  obtain⟨k3,k4⟩:=dU k2
  cases k4
  have:=r1.imm k3
  subst this
  exact r1.same s2
theorem zi6{x:Str}{st:Stmt}{ps:List Str}{fa:Addr}{fd:FuncData}{k np:Nat}{m:Nat->Bool}{g:tz7}(Dd:Dn X.K X.mg x st ps fa fd)(G:FnOk X.prog X.w X.K X.mg X.base CX0 k fa fd ps (SpE np X.K κ m g))(hr:Room k X.A)(hg:Gl X x)(ha:PA X (e::es) (tIO X.K κ as))
  (hnp:np=as.length) (hm:m=mM as) (nd:(slots as).Nodup) (hb:∀j∈slots as,φ.bor j=false)
  (hdb:(x==("__debug__":Str))=false:=by decide) (he:starEach (e::es) X.env=(false,eval e X.env)::starEach es X.env:=by rfl) (hpl:(backTo pos (starEach es X.env)).any (·.1)=false:=by rfl):
  QE X κ φ (.Call (.Name x p) (e::es) [] pos) (fIO as g):=(zi4 Dd G hr hg ha hdb he hpl).imp fun σ H Q hh_=>by
 obtain⟨ps,F,d,ps',R,e,q⟩:=hh_
 obtain⟨ds,e1,e2⟩:=bind_some e
 obtain⟨⟨r,ds'⟩,e3,e4⟩:=bind_some e2
 obtain⟨hl,e5⟩:=dU e4
 cases e5
 subst hnp hm
 refine⟨ps,ds,R.ws,e1,fun vs H1 s1 a1=> ?_⟩
 show SpE _ X.K κ _ g (vs++[]) H1 Q E0
 rw [List.append_nil]
 refine⟨a1.len.1,ds,r,ds',_,a1.len.2,yl0 (R.same s1) nd hb a1,e3,fun v H' F' fv s o rv=> ?_⟩
 obtain⟨F2,s2,o2⟩:=ys2 R s1 nd hb a1 hl s o
 exact q v H' F2 fv s2 o2 rv
end
inductive AreD:List Expr->List D->Prop
 |nil:AreD [] []
 |int {i:Int} {j:Nat} {pos:Pos} {es:List Expr} {ds:List D}:AreD es ds->AreD (.Constant (.int i) j pos::es) (.int i::ds)
 |str {x:Str} {j:Nat} {pos:Pos} {es:List Expr} {ds:List D}:AreD es ds->AreD (.Constant (.str x) j pos::es) (.str x::ds)
def fKs(ds:List D):tz3:=fun _=>some ds
theorem iN{X:Cx}{κ:tz9}{es:List Expr}{ds:List D}(h:AreD es ds):QPA X κ es (fKs ds):=by
 have key:∃vs,AreC es vs/\∀K κ H,Reps K κ H vs ds []:=by
  induction h with
  |nil=>exact⟨[],.nil,fun _ _ _=> .nil⟩
  |int _ ih=>obtain⟨vs,h1,h2⟩:=ih;exact⟨_,.int h1,fun K κ H=> .cons (f:=[]) (g:=[]) (.int _) (h2 K κ H)⟩
  |str _ ih=>obtain⟨vs,h1,h2⟩:=ih;exact⟨_,.str h1,fun K κ H=> .cons (f:=[]) (g:=[]) (.str _) (h2 K κ H)⟩
 obtain⟨vs,h1,h2⟩:=key
 exact(yd9 h1).imp fun σ H Q ⟨ps,ds',w,e,q⟩=>by cases e;exact q vs H [] (.refl H) (fun _ h=>absurd h (by simp)) List.nodup_nil (h2 _ _ _)
def cY(l:List Bool):Nat->Bool:=fun i=>(l[i]?).getD false
def yi1(as:List Arg):List Bool:=as.map fun a=>match a with
 | .io _=>true
 | .im _=>false
theorem yW:∀{as:List Arg} {l:List Bool},yi1 as=l->cY l=mM as:=by
 intro as l h
 subst h
 funext i
 induction as generalizing i with
 |nil=>cases i<;>rfl
 | cons a as ih=>
  cases i with
  |zero=>cases a<;>rfl
  |succ i=>
   have e:mM (a::as) (i+1)=mM as i:=by cases a<;>rfl
   rw [e,<-ih i]
   simp [cY,yi1]
theorem qL{l:List Bool}{i:Nat}(h:cY l i=true):i<l.length:=by
 unfold cY at h
 cases q:l[i]? with
 |none=>rw [q] at h;cases h
 |some b=>exact(List.getElem?_eq_some_iff.mp q).1
section
variable{P:Program}{w:World}{K:tz0}{mg:tzA}{base:Heap}{κ:tz9}
theorem FnOk.noneP{f:Addr}{fd:FuncData}{ps:List Str}{k:Nat}:FnOk P w K mg base CX0 k f fd ps (SpP ps.length K κ fun _=>none):=
 ⟨fun vs H Q E h=>h.1,fun A outer s H args us vs Q E _ _ _ _ ⟨_,ds,fp,d,_,e,_⟩=>by cases e⟩
end
def KDk(P:Program)(w:World)(K:tz0)(a:Addr)(kvs:List (Key×V)):Prop:=
 (a==sysModules)=false/\∃(o:Obj) (es:Array DictEntry) (ep:Nat) (vs:List (Key×Value)),K.lookup a=some o/\o.ExactDict/\o.data= .dict es ep/\KV kvs vs/\KeysOf (gR P w) es/\PySem.Pairs (gR P w) es.toList vs/\(vs.map (·.1)).Nodup
def uI(P:Program)(w:World)(K:tz0)(κ:tz9)(a:Addr)(ks:List Key)(ds:List D):Prop:=∃kvs,KDk P w K a kvs/\kvs.map (·.1)=ks/\∀H,Reps K κ H (kvs.map (·.2)) ds []
section
variable{X:Cx}{κ:tz9}{tg b:Expr}{fb:tz2}{pos p:Pos}{x:Str}{a:Addr}{ks:List Key}{ds:List D}
theorem ys3{kvs:List (Key×V)}{ty:TE}(hg:Gl X x)(hm:X.mg x=some (.ref a))(hk:KDk X.prog X.w X.K a kvs)(hi:PE X b ty)(hs:yB b)(hdb:(x==("__debug__":Str))=false:=by decide):
  PE X (.Subscript (.Name x p) b pos) (fun σ H Q=>ty σ H fun y H1=>∃k v,y=kV k/\lZ kvs k=some v/\Q v H1):=by
 obtain⟨hsm,o,es,ep,vs,h1,h2,h3,h4,h5,h6,h7⟩:=hk
 intro pins s σ H Q I h
 refine zt2 PySem.F.slot_dict_getitem.lookup hs (thn (nQ (v:= .ref a) hg hm rfl hdb pins s σ H (fun x H1=>x= .ref a/\H1=H) I ⟨rfl,rfl⟩) fun u s1 ⟨x,H1,I1,r1,e1,e2⟩=> ?_)
 subst e1 e2
 cases r1
 refine thn (hi pins s1 σ H1 _ I1 h) fun iv s2 ⟨y,H2,I2,ry,k,v,ey,l,q2⟩=> ?_
 subst ey
 have dd:s2.heap.DictAt (gR X.prog X.w) a vs ep:=⟨o,es,I2.kIn a o h1,h2,h3,h5,h6,h7⟩
 obtain⟨w',hw,rw'⟩:=kR.some_of (v:=v) (o:=valueAt vs k) (by rw [<-l];exact h4.val k)
 exact⟨dd.dictOf.typeIs,wpAny_getItem_of (yO ry) dd.dictOf.mapOf hw ⟨v,H2,I2.tok _,rw',q2⟩⟩
theorem zb2(hg:Gl X x)(hm:X.mg x=some (.ref a))(hk:uI X.prog X.w X.K κ a ks ds)(hb:QV X κ b fb)(hs:yB b:=by exact fun _ _=>rfl)(hdb:(x==("__debug__":Str))=false:=by decide):QV X κ (.Subscript (.Name x p) b pos) (f2 cP (fC (.dic false ks ds)) fb):=by
 obtain⟨kvs,hkd,hks,hds⟩:=hk
 refine(ys3 hg hm hkd hb hs hdb).imp fun σ H Q ⟨ps,d,w,e,q⟩=> ?_
 obtain⟨x,y,e1,e2,e3⟩:=rX e
 cases e1
 obtain⟨k,e4,e5⟩:=bind_some e3
 refine⟨ps,y,w,e2,fun u H1 fq s1 r1=> ?_⟩
 obtain⟨v,f,q1,q2,q3⟩:=xH hks (hds H1) e5
 exact⟨k,v,za9 r1 e4,q1,q v H1 f s1 q2⟩
end
theorem yX:∀ys:List (Str×Tok),cV (ys.map fun p=>V.str p.1) (ys.map fun p=>Value.str p.1 p.2)
 |[]=> .nil
 |y::ys=> .cons ⟨y.2,rfl⟩ (yX ys)
theorem zf1{K:tz0}{κ:tz9}{H:Hp}:∀ys:List (Str×Tok),Reps K κ H (ys.map fun p=>V.str p.1) (ys.map fun p=>D.str p.1) []
 |[]=> .nil
 |y::ys=> .cons (f:=[]) (g:=[]) (.str _) (zf1 ys)
theorem yl1{K:tz0}{κ:tz9}{a:Addr}{ys:List (Str×Tok)}{od:Option Addr}{n:Nat}{sl:Array (Option Value)}(h:K.lookup a=some ⟨.type "tuple",od,.seq (ys.map fun p=>Value.str p.1 p.2).toArray n,sl⟩)(hl:ys.length<=1000)(H:Hp):
  Rep K κ H (.ref a) (.tup (ys.map fun p=>D.str p.1)) []:=
 .tup (.inr ⟨_,_,n,h,rfl,rfl,by rw [List.size_toArray,List.length_map];exact zi5 hl,yX ys⟩) (zf1 ys)
section
variable{X:Cx}{pins:tzB}{σ:St}{H:Hp}{s:Shared}{a C dx:Addr}{fs:List (Str×V)}{f:Str}{v:V}{A:Around}{E:Value->Shared->Prop}
theorem yz2{P:Program}{w:World}{h:Heap}(hok:HOk P w H h)(e:Rd H a (.ins C dx fs)):∃mA,ObjM h a dx C mA/\(∀f,kR (fs.lookup f) (mA f)):=by
 obtain⟨d,z,ne,ob,mA,n,r,q⟩:=(show fL P w H h a (.ins C dx fs) from e.ok hok)
 exact⟨mA,⟨ob,n,ne⟩,r⟩
theorem zx2{b:Bool}{Q:Value->Shared->Prop}(I:Inv X pins σ H s)(e:Rd H a (.ins C dx fs))(c:Cls X.K C)(n:dZ X.K C f)(l:fs.lookup f=some v)
  (h:∀u s',Inv X pins σ H s'->dQ v u->Q u s'):wpAny (model X.prog X.w) A (getAttr (.ref a) f b) Q E s:=by
 obtain⟨mA,O,r⟩:=yz2 I.hok e
 obtain⟨u,hu,ru⟩:=kR.some_of (v:=v) (o:=mA f) (by rw [<-l];exact r f)
 exact zs9 I.kIn O (c.get f) c.hd n hu (uX ru) (h u _ (I.tok _) ru)
end
def xf5(K:tz0)(ta:TE)(f:Str):TE:=fun σ H Q=>ta σ H fun x H1=>∃a C dx fs v,x= .ref a/\Rd H1 a (.ins C dx fs)/\Cls K C/\dZ K C f/\fs.lookup f=some v/\Q v H1
theorem ys4{X:Cx}{e:Expr}{f:Str}{pos:Pos}{ta:TE}(he:PE X e ta)(hb:attributeBase e f X.env (eval e X.env)=eval e X.env):PE X (.Attribute e f pos) (xf5 X.K ta f):=by
 intro pins s σ H Q I h
 refine zt0 hb (thn (he pins s σ H _ I h) fun u s1 ⟨x,H1,I1,rx,a,C,dx,fs,v,ex,ea,c,n,l,q⟩=> ?_)
 subst ex
 obtain rfl:u=Value.ref a:=rx
 exact zx2 I1 ea c n l fun w' s2 I2 rw'=>⟨v,H1,I2,rw',q⟩
def gI(C f:Str):D->Option D
 | .obj _ C' ns vs=>if C'=C then(cL ns f).bind fun n=>vs[n]? else none
 |_=>none
def dJ(C f:Str)(fo:tz2):tz2:=fun ps=>(fo ps).bind (gI C f)
theorem Rep.obj_inv{K:tz0}{κ:tz9}{H:Hp}{v:V}{o:Bool}{C:Str}{ns:List Str}{ds:List D}{fp:List Addr}(r:Rep K κ H v (.obj o C ns ds) fp):∃a dx fs g,v= .ref a/\Rd H a (.ins (κ C) dx fs)/\fs.map (·.1)=ns/\Reps K κ H (fs.map (·.2)) ds g/\g.Sublist fp:=by
 cases r with
 |obj h e hs=>exact⟨_,_,_,_,rfl,.inl h,e,hs,List.sublist_cons_self _ _⟩
 |objF h e hs=>exact⟨_,_,_,_,rfl,.inr ⟨_,h⟩,e,hs,.refl _⟩
section
variable{X:Cx}{κ:tz9}{o e:Expr}{C fn:Str}{fo:tz2}{pos:Pos}
theorem iO(hc:Cls X.K (κ C))(hna:dZ X.K (κ C) fn)(ho:QV X κ o fo)(hb:attributeBase o fn X.env (eval o X.env)=eval o X.env:=by rfl):QV X κ (.Attribute o fn pos) (dJ C fn fo):=
 (ys4 ho hb).imp fun σ H Q hh_=>by
  obtain⟨ps,d,w,e,q⟩:=hh_
  obtain⟨x,e1,e2⟩:=bind_some e
  refine⟨ps,x,w,e1,fun v H1 fp s1 r1=> ?_⟩
  cases x with
  |obj ow C' ns ds=>
   have e2':(if C'=C then(cL ns fn).bind fun n=>ds[n]? else none)=some d:=e2
   by_cases hC:C'=C
   case neg=>rw [if_neg hC] at e2';cases e2'
   rw [if_pos hC] at e2'
   subst hC
   obtain⟨n,e4,e5⟩:=bind_some e2'
   obtain⟨a,dx,fs,g,rfl,h,hk,hs,sub⟩:=r1.obj_inv
   subst hk
   obtain⟨u,f1,k3,k4,_⟩:=hs.get e5
   exact⟨a,κ C',dx,fs,u,rfl,h,hc,hna,qJ e4 k3,q u H1 f1 s1 k4⟩
  |_=>cases e2
end
theorem zt8:∀{fs:List (Str×V)} {f:Str} {n:Nat} (v:V),cL (fs.map (·.1)) f=some n->(jD f v fs).map (·.1)=fs.map (·.1)/\(jD f v fs).map (·.2)=(fs.map (·.2)).set n v
 |[],_,_,_,h=>by cases h
 | (g,x)::r,f,n,v,h=>by
  rw [List.map_cons,cL] at h
  by_cases z:g=f
  ·have z':(g,x).1=f:=z
   rw [if_pos z'] at h;cases h
   rw [jD,if_pos z];exact⟨rfl,rfl⟩
  ·have z':¬(g,x).1=f:=z
   rw [if_neg z'] at h
   obtain⟨m,h1,h2⟩:=Option.map_eq_some_iff.mp h
   subst h2
   obtain⟨k1,k2⟩:=zt8 v h1
   rw [jD,if_neg z]
   exact⟨by rw [List.map_cons,List.map_cons,k1],by rw [List.map_cons,List.map_cons,List.set_cons_succ,k2]⟩
theorem zm3:∀{fs:List (Str×V)} {f:Str} (v:V),cL (fs.map (·.1)) f=none->(jD f v fs).map (·.1)=fs.map (·.1)++[f]/\(jD f v fs).map (·.2)=fs.map (·.2)++[v]
 |[],_,_,_=>⟨rfl,rfl⟩
 | (g,x)::r,f,v,h=>by
  rw [List.map_cons,cL] at h
  by_cases z:g=f
  ·have z':(g,x).1=f:=z
   rw [if_pos z'] at h;cases h
  ·have z':¬(g,x).1=f:=z
   rw [if_neg z'] at h
   obtain⟨k1,k2⟩:=zm3 v (Option.map_eq_none_iff.mp h)
   rw [jD,if_neg z]
   exact⟨by rw [List.map_cons,List.map_cons,k1];rfl,by rw [List.map_cons,List.map_cons,k2];rfl⟩
def dN(C f:Str)(y:D):D->Option (Unit×D)
 | .obj true C' ns vs=>if (C'=C/\ns.length<900) then(match cL ns f with
   |some n=>some ((),.obj true C' ns (vs.set n y))
   |none=>some ((),.obj true C' (ns++[f]) (vs++[y]))) else none
 |_=>none
theorem zm4{C f:Str}{y d d':D}{r:Unit}(h:dN C f y d=some (r,d')):∃ns vs,d= .obj true C ns vs/\ns.length<900/\((∃n,cL ns f=some n/\d'= .obj true C ns (vs.set n y))\/(cL ns f=none/\d'= .obj true C (ns++[f]) (vs++[y]))):=by
 unfold dN at h
 split at h
 ·rename_i C' ns vs
  by_cases hh:C'=C/\ns.length<900
  ·rw [if_pos hh] at h
   obtain⟨hC,hl⟩:=hh
   subst hC
   cases q:cL ns f with
   |some n=>rw [q] at h;cases h;exact⟨ns,vs,rfl,hl,.inl ⟨n,q,rfl⟩⟩
   |none=>rw [q] at h;cases h;exact⟨ns,vs,rfl,hl,.inr ⟨q,rfl⟩⟩
  ·rw [if_neg hh] at h;cases h
 ·cases h
def cW(j:Nat)(pf:PSt->Option (List Ps1))(C f:Str)(fe:tz2):tz1:=fun ps=>(fe ps).bind fun y=>((ps[j]?).join).bind fun d0=>(pf ps).bind fun p=>(bV (dN C f y) d0 p).bind fun r=>some (.nx,ps.set j (some r.2))
theorem zm5:∀{ns:List Str} {f:Str} {n:Nat},cL ns f=some n->n<ns.length
 |[],_,_,h=>by cases h
 | m::ns,f,n,h=>by
  rw [cL] at h
  by_cases z:m=f
  ·rw [if_pos z] at h;cases h;simp
  ·rw [if_neg z] at h
   obtain⟨k,h1,h2⟩:=Option.map_eq_some_iff.mp h
   subst h2
   have:=zm5 h1
   simp;omega
section
variable{X:Cx}{κ:tz9}{φ:F0}{o e:Expr}{C fn:Str}{j:Nat}{pf:PSt->Option (List Ps1)}{fe:tz2}{pos pos':Pos}
theorem kK(hc:Cls X.K (κ C))(hna:dZ X.K (κ C) fn)(hb:φ.bor j=false)(he:PE X e (tP X.K κ fe))(ho:PE X o (iJ X.K κ j pf))(hs:swapsWith e (some (.Attribute o fn pos')) pos.line X.env=pure false:=by rfl):
  QS X κ φ (.Assign [.Attribute o fn pos'] e pos) (cW j pf C fn fe):=
 (yx4 ho he hs).imp fun E σ H hh_=>by
  obtain⟨ps,F,fl,ps',R,e,q⟩:=hh_
  obtain⟨y,e1,e2⟩:=bind_some e
  obtain⟨d0,e3,e4⟩:=bind_some e2
  have e0:=iR e3
  obtain⟨p,e5,e6⟩:=bind_some e4
  obtain⟨⟨r,d0'⟩,em,e9⟩:=bind_some e6
  cases e9
  obtain⟨dd,dn,gp,hh⟩:=mI em
  refine⟨ps,y,R.ws,e1,fun v H1 fy s1 n1 nd1 ry=>⟨ps,p,d0,dd,R.ws.same s1,e0,e5,gp,fun lv H2 v0 s2 ev a2=> ?_⟩⟩
  have s12:=s1.trans s2
  obtain⟨d1,d1',fd,m1,m2,m3,m4,m5⟩:=rZ R s12 hb e0 ev em a2
  obtain⟨ns,vs,rfl,hlen,hd⟩:=zm4 m2
  obtain⟨l,dx,fs,g1,rfl,hl,hn,hr,rfl⟩:=m1.objT_inv
  subst hn
  have ry2:=ry.same s2
  obtain⟨nl,nd3⟩:=List.nodup_cons.mp m3
  have own0:∀a∈l::g1,H a≠none:=fun a ha z=>by obtain⟨o,h,_⟩:=R.own (m4 a ha);rw [z] at h;cases h
  have nl2:l∉fy:=fun z=>own0 l List.mem_cons_self (n1 l z)
  have hl9:fs.length<900:=by rw [List.length_map] at hlen;exact hlen
  refine⟨l,κ C,dx,fs,rfl,hl,hc,hna,by omega,?_⟩
  have go:∀(g2:List Addr),(∀a∈g2,a∈fy\/a∈g1)->g2.Nodup->Rep X.K κ (upd H2 l (.ins (κ C) dx (jD fn v fs))) (.ref l) d1' (l::g2)->∃F',Stp (φ.fx X.K κ) σ H F σ (upd H2 l (.ins (κ C) dx (jD fn v fs))) (ps.set j (some d0')) F':=fun g2 mem2 nd2 rp=>by
   have n2:l∉g2:=fun z=>(mem2 l z).elim nl2 nl
   obtain⟨F',st,ow⟩:=m5 (upd H2 l (.ins (κ C) dx (jD fn v fs))) (l::g2) [] (fun a o h _ hn=>xG h hn) (fun a h=>tG h) rp
    (by rw [List.append_nil,List.nodup_cons];exact⟨n2,nd2⟩)
    (fun a ha=>by
     rw [List.append_nil] at ha
     rcases List.mem_cons.mp ha with z|z
     ·exact .inl (by rw [z];exact List.mem_cons_self)
     ·exact(mem2 a z).elim (fun z=> .inr (n1 a z)) fun z=> .inl (List.mem_cons_of_mem _ z))
   exact⟨F',st⟩
  rcases hd with ⟨n,hx,rfl⟩|⟨hx,rfl⟩
  ·obtain⟨k1,k2⟩:=zt8 v hx
   have hn':=zm5 hx
   obtain⟨f1,bY,g2,p1,p2,p3⟩:=hr.setV (n:=n) (by rw [<-hr.length,List.length_map];rw [List.length_map] at hn';exact hn') ry2
   have mem2:∀a∈g2,a∈fy\/a∈g1:=fun a ha=>(List.mem_append.mp (p3.mem_iff.mp ha)).elim .inl fun z=> .inr (p1.mem_iff.mpr (List.mem_append_right _ z))
   have n2:l∉g2:=fun z=>(mem2 l z).elim nl2 nl
   have nd2:g2.Nodup:=p3.nodup_iff.mpr (List.nodup_append.mpr ⟨nd1,(List.nodup_append.mp (p1.nodup_iff.mp nd3)).2.1,fun a ha b hb e=>by
    subst e
    exact own0 a (List.mem_cons_of_mem _ (p1.mem_iff.mpr (List.mem_append_right _ hb))) (n1 a ha)⟩)
   obtain⟨F',st⟩:=go g2 mem2 nd2 (.obj eT k1 (by rw [k2];exact p2.updL hl rfl n2))
   exact q _ _ F' st
  ·obtain⟨k1,k2⟩:=zm3 v hx
   have mem2:∀a∈g1++fy,a∈fy\/a∈g1:=fun a ha=>(List.mem_append.mp ha).elim .inr .inl
   have n2:l∉g1++fy:=fun z=>(mem2 l z).elim nl2 nl
   have nd2:(g1++fy).Nodup:=List.nodup_append.mpr ⟨nd3,nd1,fun a ha b hb e=>by
    subst e
    exact own0 a (List.mem_cons_of_mem _ ha) (n1 a hb)⟩
   obtain⟨F',st⟩:=go (g1++fy) mem2 nd2 (.obj eT k1 (by rw [k2];exact(Reps.append hr (Reps.one ry2)).updL hl rfl n2))
   exact q _ _ F' st
end
structure Mn(K:tz0)(κ:tz9)(C m qual:Str)(st:Stmt)(ps:List Str)(f:Addr)(fd:FuncData):Prop where
 F:Fun K m qual st f fd
 b:mC K fd ps []
 c:Cls K (κ C)
 h:Meth K (κ C) m f
def dA(C m:Str)(fo:tz2):tz2:=fun ps=>(fo ps).bind fun d=>match d with
 | .obj true C' ns vs=>if (C'=C/\cL ns m=none) then some (.obj true C' ns vs) else none
 |_=>none
theorem tJ{C m:Str}{fo:tz2}{ps:PSt}{d:D}(h:dA C m fo ps=some d):∃ns vs,d= .obj true C ns vs/\fo ps=some d/\cL ns m=none:=by
 obtain⟨x,e1,e2⟩:=bind_some h
 cases x with
 | obj o C' ns vs=>cases o with
  |true=>
   have e2':(if (C'=C/\cL ns m=none) then some (D.obj true C' ns vs) else none)=some d:=e2
   obtain⟨⟨hC,hn⟩,e3⟩:=dU e2'
   subst hC;cases e3
   exact⟨ns,vs,rfl,e1,hn⟩
  |false=>cases e2
 |_=>cases e2
theorem lX:∀{fs:List (Str×V)} {m:Str},cL (fs.map (·.1)) m=none->fs.lookup m=none
 |[],_,_=>rfl
 | (g,x)::r,m,h=>by
  rw [List.map_cons,cL] at h
  by_cases z:g=m
  ·have z':(g,x).1=m:=z
   rw [if_pos z'] at h;cases h
  ·have z':¬(g,x).1=m:=z
   rw [if_neg z'] at h
   have ih:=lX (Option.map_eq_none_iff.mp h)
   rw [List.lookup_cons]
   have:(m==g)=false:=by
    rw [beq_eq_false_iff_ne];exact fun e=>z e.symm
   rw [this];exact ih
section
variable{X:Cx}{κ:tz9}{o e:Expr}{es:List Expr}{C m qual:Str}{st:Stmt}{ps:List Str}{f:Addr}{fd:FuncData}{k np:Nat}{h:tz6}{fo:tz2}{g:tz3}{apos pos p:Pos}{pl:Sem Bool}
theorem sE(M:Mn X.K κ C m qual st ps f fd)(G:FnOk X.prog X.w X.K X.mg X.base CX0 k f fd ps (SpP np X.K κ h))(hr:Room k X.A)(ho:QV X κ o fo)(hnp:(e::es).length+1=np)(ha:QVA X κ (e::es) g)(hlen:∀ps ds,g ps=some ds->ds.length=(e::es).length)
  (hst:starEach (e::es) X.env=(false,eval e X.env)::starEach es X.env:=by rfl) (hpl:(backTo pos (starEach es X.env)).any (·.1)=false:=by rfl)
  (ht:eval (.Call (.Attribute o m apos) (e::es) [] pos) X.env=(do
   let ov<-eval o X.env
   standAt apos.atName
   let (f,first)<-holding [ov] (getMethod ov m pl)
   callWith pos f first (backTo pos (starEach (e::es) X.env)) (backToKw pos (keywordEach [] X.env))):=by rfl):
  QP X κ (.Call (.Attribute o m apos) (e::es) [] pos) (aE h (aA (dA C m fo) g)):=(za1 ho M.c M.h G hr M.b .nil sS ha hst hpl ht).imp fun σ H Q hh_=>by
 obtain⟨ps,d,w,e,q⟩:=hh_
 obtain⟨ds,e1,e2⟩:=bind_some e
 obtain⟨x,k1,k2⟩:=bind_some e1
 obtain⟨ds',k3,k4⟩:=bind_some k2
 cases k4
 obtain⟨ns,vs,rfl,k5,k6⟩:=tJ k1
 refine⟨ps,_,w,k5,fun v H1 fp s1 r1=> ?_⟩
 have r1':=r1
 obtain⟨_,_,_,_,rfl,hl,hn,hs,rfl⟩:=r1.objT_inv
 subst hn
 refine⟨_,_,_,rfl,hl,lX k6,ps,ds',w.same s1,k3,fun us H2 fq s2 r2=> ?_⟩
 show SpP np X.K κ h (_::(us++[])) H2 Q E0
 rw [List.append_nil]
 exact⟨by rw [List.length_cons,r2.length,hlen ps ds' k3,hnp],_,_,d,.cons (r1'.same s2) r2,e2,q.after (s1.trans s2)⟩
theorem qM(M:Mn X.K κ C m qual st ps f fd)(G:FnOk X.prog X.w X.K X.mg X.base CX0 k f fd ps (SpP 1 X.K κ h))(hr:Room k X.A)(ho:QV X κ o fo)
  (ht:eval (.Call (.Attribute o m apos) [] [] pos) X.env=(do
   let ov<-eval o X.env
   standAt apos.atName
   let (f,first)<-holding [ov] (getMethod ov m pl)
   callWith pos f first (backTo pos (starEach [] X.env)) (backToKw pos (keywordEach [] X.env))):=by rfl):
  QP X κ (.Call (.Attribute o m apos) [] [] pos) (aE h (aA (dA C m fo) aC)):=(wZ ho M.c M.h G hr M.b .nil sS ht).imp fun σ H Q hh_=>by
 obtain⟨ps,d,w,e,q⟩:=hh_
 obtain⟨ds,e1,e2⟩:=bind_some e
 obtain⟨x,k1,k2⟩:=bind_some e1
 obtain⟨ds',k3,k4⟩:=bind_some k2
 cases k4;cases k3
 obtain⟨ns,vs,rfl,k5,k6⟩:=tJ k1
 refine⟨ps,_,w,k5,fun v H1 fp s1 r1=> ?_⟩
 have r1':=r1
 obtain⟨_,_,_,_,rfl,hl,hn,hs,rfl⟩:=r1.objT_inv
 subst hn
 exact⟨_,_,_,rfl,hl,lX k6,rfl,_,_,d,Reps.one r1',e2,q.after s1⟩
end
def jP:Nat->Bool:=fun i=>decide (i=0)
def pX(fd:List Addr):Nat->List Addr:=fun i=>if i=0 then fd else []
theorem lH{fd:List Addr}{i:Nat}{a:Addr}(h:a∈pX fd i):i=0/\a∈fd:=by
 unfold pX at h
 by_cases z:i=0
 ·rw [if_pos z] at h;exact⟨z,h⟩
 ·rw [if_neg z] at h;exact absurd h (by simp)
theorem tK{K:tz0}{κ:tz9}{H:Hp}{v:V}{vs:List V}{d:D}{ds:List D}{fd:List Addr}(r:Rep K κ H v d fd)(nd:fd.Nodup)(rs:Reps K κ H vs ds []):
  RS (fxE K κ (ds.length+1) jP) H ((v::vs).map some) ((d::ds).map some) (pX fd):=by
 refine⟨fun i x hx=> ?_,fun i a ha=> ?_,fun i j a h1 h2=> ?_,fun i=> ?_,fun i a _ k z=>z.elim,fun k a z=>z.elim,by simp [rs.length]⟩
 ·cases i with
  |zero=>
   simp at hx;subst hx
   exact⟨v,fd,rfl,r,fun _=>rfl,fun z=>by simp [fxE,jP] at z⟩
  | succ i=>
   rw [List.map_cons,List.getElem?_cons_succ,List.getElem?_map] at hx
   obtain⟨y,hy,e⟩:=Option.map_eq_some_iff.mp hx
   cases e
   obtain⟨u,f1,k1,k2,k3⟩:=rs.get hy
   have ef:f1=[]:=by
    cases f1 with
    |nil=>rfl
    |cons b l=>exact absurd (k3 b List.mem_cons_self) (by simp)
   subst ef
   exact⟨u,[],by rw [List.map_cons,List.getElem?_cons_succ,List.getElem?_map,k1];rfl,k2,(fun _=>by simp [pX]),fun _ a ha=>absurd ha (by simp)⟩
 ·obtain⟨e,h⟩:=lH ha
  subst e
  exact⟨by simp [fxE,jP],d,rfl⟩
 ·rw [(lH h1).1,(lH h2).1]
 ·unfold pX;split
  ·exact nd
  ·exact List.nodup_nil
def rF:List Arg->Bool
 |[]=>true
 | .im _::as=>rF as
 | .io _::_=>false
theorem ArgsAt.reps{K:tz0}{κ:tz9}{H:Hp}{σ:St}{ps:PSt}:∀{as:List Arg} {vs:List V} {ds:List D},ArgsAt K κ H σ ps as vs ds->rF as=true->Reps K κ H vs ds []
 |_,_,_,.nil,_=> .nil
 |_,_,_,.io _ _ _,h=>by cases h
 |_,_,_,.im r a,h=> .cons (f:=[]) (g:=[]) r (ArgsAt.reps a h)
def kW(C m:Str)(g:tz7)(ys:List D)(d:D):Option (D×D):=match d with
 | .obj true C' ns vs=>if (C'=C/\cL ns m=none) then(g (.obj true C' ns vs::ys)).bind fun r=>match r.2 with
   |d'::ds=>if ds.length=ys.length then some (r.1,d') else none
   |[]=>none
  else none
 |_=>none
theorem yY{C m:Str}{g:tz7}{ys:List D}{d r d':D}(h:kW C m g ys d=some (r,d')):∃ns vs ds,d= .obj true C ns vs/\cL ns m=none/\g (d::ys)=some (r,d'::ds)/\ds.length=ys.length:=by
 unfold kW at h
 split at h
 ·rename_i C' ns vs
  by_cases hc:C'=C/\cL ns m=none
  ·rw [if_pos hc] at h
   obtain⟨hC,hn⟩:=hc
   subst hC
   obtain⟨⟨r1,ds⟩,e1,e2⟩:=bind_some h
   cases ds with
   |nil=>cases e2
   |cons d1 ds=>
    obtain⟨hl,e3⟩:=dU e2
    cases e3
    exact⟨ns,vs,ds,rfl,hn,e1,hl⟩
  ·rw [if_neg hc] at h;cases h
 ·cases h
section
variable{X:Cx}{κ:tz9}{φ:F0}{o e:Expr}{es:List Expr}{C m qual:Str}{st:Stmt}{ps:List Str}{f:Addr}{fd:FuncData}{k np j:Nat}{mk:Nat->Bool}{g:tz7}{pf:PSt->Option (List Ps1)}{as:List Arg}{apos pos p:Pos}{pl:Sem Bool}
theorem zm6{σ:St}{H H1:Hp}{Q:VK}{ps:PSt}{F:Nat->List Addr}{d0 d0' r:D}{pp:List Ps1}{v0 v:V}{ys:List D}{us:List V}(R:RS (φ.fx X.K κ) H σ ps F)(s1:SameK H H1)(hb:φ.bor j=false)(e0:ps[j]? =some (some d0))(ev:σ[j]? =some (some v0))
  (em:bV (kW C m g ys) d0 pp=some (r,d0')) (at_:At H1 v0 pp v) (ry:Reps X.K κ H1 us ys []) (hnp:np=ys.length+1) (hm:mk=jP)
  (q:∀v H' F' fv,Stp (φ.fx X.K κ) σ H F σ H' (ps.set j (some d0')) F'->OwnV F H F' fv->Rep X.K κ H' v r fv->Q v H'):SpE np X.K κ mk g (v::us) H1 Q E0:=by
 subst hnp hm
 obtain⟨d1,d1',fd,m1,m2,m3,m4,m5⟩:=rZ R s1 hb e0 ev em at_
 obtain⟨ns,vs,ds,rfl,hn,eg,hl⟩:=yY m2
 refine⟨by rw [List.length_cons,ry.length],_,r,d1'::ds,pX fd,by simp,tK m1 m3 ry,eg,fun u H' F' fv s o rv=> ?_⟩
 obtain⟨v2,fp2,k1,k2,k3,_⟩:=s.rs.rep 0 d1' rfl
 have ek:v2=v:=by
  have:(List.map some (v::us))[0]? =some (some v2):=k1
  simp at this;exact this.symm
 subst ek
 have k3':=k3 (by simp [fxE,jP])
 subst k3'
 have old:∀a,((∃i,a∈pX fd i)\/H1 a=none)->a∈fd\/H a=none:=fun a h=>h.elim (fun⟨i,hi⟩=> .inl (lH hi).2) fun z=> .inr (s1.grow a z)
 obtain⟨F2,st2,ow2⟩:=m5 H' (F' 0) fv (fun a o h k hn=>s.fr.keep a o h k fun i hi=>hn (lH hi).2) (fun a h=>s.fr.grow a h) k2
  (List.nodup_append.mpr ⟨s.rs.nd 0,o.nd,fun a ha b hb e=>by subst e;exact o.dis 0 a ha hb⟩)
  (fun a ha=>(List.mem_append.mp ha).elim (fun z=>old a (s.nw 0 a z)) fun z=>old a (o.nw a z))
 exact q u H' F2 fv st2 ow2 rv
theorem zm7{σ:St}{H H1:Hp}{ps:PSt}{F:Nat->List Addr}{d0 d0' r:D}{pp:List Ps1}{v0 v:V}{ys:List D}(R:RS (φ.fx X.K κ) H σ ps F)(s1:SameK H H1)(e0:ps[j]? =some (some d0))(ev:σ[j]? =some (some v0))
  (em:bV (kW C m g ys) d0 pp=some (r,d0')) (at_:At H1 v0 pp v):∃a dx fs,v= .ref a/\H1 a=some (.ins (κ C) dx fs)/\fs.lookup m=none:=by
 obtain⟨dd,dn,gp,hh⟩:=mI em
 obtain⟨ns,vs,ds,rfl,hn,_⟩:=yY hh
 obtain⟨fd,rd⟩:=vY R.ws s1 e0 ev gp at_
 obtain⟨_,_,_,_,rfl,hl,hk,hs,rfl⟩:=rd.objT_inv
 subst hk;exact⟨_,_,_,rfl,hl,lX hn⟩
theorem sF(M:Mn X.K κ C m qual st ps f fd)(G:FnOk X.prog X.w X.K X.mg X.base CX0 k f fd ps (SpE np X.K κ mk g))(hr:Room k X.A)(hb:φ.bor j=false)(ho:PE X o (iJ X.K κ j pf))(ha:PA X (e::es) (tIO X.K κ as))(has:rF as=true)(hnp:np=as.length+1)(hm:mk=jP)
  (hst:starEach (e::es) X.env=(false,eval e X.env)::starEach es X.env:=by rfl) (hpl:(backTo pos (starEach es X.env)).any (·.1)=false:=by rfl)
  (ht:eval (.Call (.Attribute o m apos) (e::es) [] pos) X.env=(do
   let ov<-eval o X.env
   standAt apos.atName
   let (f,first)<-holding [ov] (getMethod ov m pl)
   callWith pos f first (backTo pos (starEach (e::es) X.env)) (backToKw pos (keywordEach [] X.env))):=by rfl):
  QE X κ φ (.Call (.Attribute o m apos) (e::es) [] pos) (bH j pf (cI as) (kW C m g)):=(za1 ho M.c M.h G hr M.b .nil sS ha hst hpl ht).imp fun σ H Q hh_=>by
 obtain⟨ps,F,d,ps',R,e,q⟩:=hh_
 obtain⟨d0,pp,ys,d0',e0,ep,eg,em,rfl⟩:=rB e
 obtain⟨dd,dn,gp,hh⟩:=mI em
 refine⟨ps,pp,d0,dd,R.ws,e0,ep,gp,fun v H1 v0 s1 ev a1=> ?_⟩
 obtain⟨a,dx,fs,rfl,hl,hn⟩:=zm7 R s1 e0 ev em a1
 refine⟨a,dx,fs,rfl,hl,hn,ps,ys,R.ws.same s1,eg,fun us H2 s2 a2=> ?_⟩
 show SpE np X.K κ mk g (_::(us++[])) H2 Q E0
 rw [List.append_nil]
 exact zm6 R (s1.trans s2) hb e0 ev em (a1.same s2) (a2.reps has) (by rw [hnp,a2.len.2]) hm q
theorem xI(M:Mn X.K κ C m qual st ps f fd)(G:FnOk X.prog X.w X.K X.mg X.base CX0 k f fd ps (SpE 1 X.K κ mk g))(hr:Room k X.A)(hb:φ.bor j=false)(ho:PE X o (iJ X.K κ j pf))(hm:mk=jP)
  (ht:eval (.Call (.Attribute o m apos) [] [] pos) X.env=(do
   let ov<-eval o X.env
   standAt apos.atName
   let (f,first)<-holding [ov] (getMethod ov m pl)
   callWith pos f first (backTo pos (starEach [] X.env)) (backToKw pos (keywordEach [] X.env))):=by rfl):
  QE X κ φ (.Call (.Attribute o m apos) [] [] pos) (bH j pf aC (kW C m g)):=(wZ ho M.c M.h G hr M.b .nil sS ht).imp fun σ H Q hh_=>by
 obtain⟨ps,F,d,ps',R,e,q⟩:=hh_
 obtain⟨d0,pp,ys,d0',e0,ep,eg,em,rfl⟩:=rB e
 cases eg
 obtain⟨dd,dn,gp,hh⟩:=mI em
 refine⟨ps,pp,d0,dd,R.ws,e0,ep,gp,fun v H1 v0 s1 ev a1=> ?_⟩
 obtain⟨a,dx,fs,rfl,hl,hn⟩:=zm7 R s1 e0 ev em a1
 exact⟨a,dx,fs,rfl,hl,hn,zm6 (us:=[]) R s1 hb e0 ev em a1 .nil rfl hm q⟩
end
structure Kn(K:tz0)(mg:tzA)(κ:tz9)(C qual:Str)(st:Stmt)(ps:List Str)(f:Addr)(fd:FuncData):Prop where
 F:Fun K "__init__" qual st f fd
 b:mC K fd ps []
 M:Mk K (κ C) f
 m:mg C=some (.ref (κ C))
def eD(C:Str)(ga:tz3)(g:tz7):tz2:=fun ps=>(ga ps).bind fun ys=>(g (.obj true C [] []::ys)).bind fun r=>match r with
 |(.non,d'::_)=>some d'
 |_=>none
theorem yZ{C:Str}{ga:tz3}{g:tz7}{ps:PSt}{d:D}(h:eD C ga g ps=some d):∃ys ds,ga ps=some ys/\g (.obj true C [] []::ys)=some (.non,d::ds):=by
 obtain⟨ys,e1,e2⟩:=bind_some h
 obtain⟨⟨r,ds⟩,e3,e4⟩:=bind_some e2
 cases r with
 |non=>cases ds with
  |nil=>cases e4
  |cons d1 ds=>cases e4;exact⟨ys,ds,e1,e3⟩
 |_=>cases e4
section
variable{X:Cx}{κ:tz9}{e:Expr}{es:List Expr}{C qual:Str}{st:Stmt}{ps:List Str}{f:Addr}{fd:FuncData}{k np:Nat}{mk:Nat->Bool}{g:tz7}{as:List Arg}{pos p:Pos}
theorem zt9{H H1:Hp}{Q:VK}{d:D}{ys ds:List D}{us:List V}{x dx:Addr}(s1:SameK H H1)(hx:H1 x=none)(hdx:H1 dx=none)(hne:dx≠x)(ry:Reps X.K κ H1 us ys [])(hnp:np=ys.length+1)(hm:mk=jP)(eg:g (.obj true C [] []::ys)=some (.non,d::ds))(q:mL X.K κ H d Q):
  SpE np X.K κ mk g (.ref x::us) (upd (upd H1 dx (.own x)) x (.ins (κ C) dx [])) (fun v H2=>v= .non/\Q (.ref x) H2) E0:=by
 subst hnp hm
 have ne:∀a o,H1 a=some o->a≠x/\a≠dx:=fun a o h=>⟨fun z=>(by rw [z,hx] at h;cases h),fun z=>(by rw [z,hdx] at h;cases h)⟩
 have up:∀a o,H1 a=some o->upd (upd H1 dx (.own x)) x (.ins (κ C) dx []) a=some o:=fun a o h=>by rw [dW (ne a o h).1,dW (ne a o h).2];exact h
 have gr:∀a,upd (upd H1 dx (.own x)) x (.ins (κ C) dx []) a=none->H1 a=none:=fun a h=>by
  by_cases z:a=x
  ·rw [z];exact hx
  ·rw [dW z] at h
   by_cases z2:a=dx
   ·rw [z2];exact hdx
   ·rwa [dW z2] at h
 have s2:SameK H1 (upd (upd H1 dx (.own x)) x (.ins (κ C) dx [])):=⟨fun a o h _=>up a o h,gr⟩
 have r0:Rep X.K κ (upd (upd H1 dx (.own x)) x (.ins (κ C) dx [])) (.ref x) (.obj true C [] []) [x]:= .obj (fs:=[]) eT rfl .nil
 have ry2:Reps X.K κ (upd (upd H1 dx (.own x)) x (.ins (κ C) dx [])) us ys []:=ry.move (fun a o h _=>up a o h) fun a ha=>absurd ha (by simp)
 refine⟨by rw [List.length_cons,ry.length],_,.non,d::ds,pX [x],by simp,tK r0 (by simp) ry2,eg,fun u H' F' fv s o rv=>⟨by cases rv;rfl,?_⟩⟩
 obtain⟨v2,fp2,k1,k2,k3,_⟩:=s.rs.rep 0 d rfl
 have ek:v2= .ref x:=by
  have:(List.map some (V.ref x::us))[0]? =some (some v2):=k1
  simp at this;exact this.symm
 subst ek
 have k3':=k3 (by simp [fxE,jP])
 subst k3'
 refine q (.ref x) H' (F' 0) ⟨fun a o h hk=> ?_,fun a h=>s1.grow a (gr a (s.fr.grow a h))⟩ (fun a ha=> ?_) (s.rs.nd 0) k2
 ·have h1:=s1.keep a o h hk
  refine s.fr.keep a o (up a o h1) hk fun i hi=> ?_
  have:=(lH hi).2
  simp at this
  exact(ne a o h1).1 this
 ·rcases s.nw 0 a ha with ⟨i,hi⟩|z
  ·have:=(lH hi).2
   simp at this
   subst this
   exact s1.grow a hx
  ·exact s1.grow a (gr a z)
theorem wA(Kd:Kn X.K X.mg κ C qual st ps f fd)(G:FnOk X.prog X.w X.K X.mg X.base CX0 k f fd ps (SpE np X.K κ mk g))(hr:Room (k+1) X.A)(hg:Gl X C)(ha:PA X (e::es) (tIO X.K κ as))(has:rF as=true)(hnp:np=as.length+1)(hm:mk=jP)
  (hdb:(C==("__debug__":Str))=false:=by decide) (he:starEach (e::es) X.env=(false,eval e X.env)::starEach es X.env:=by rfl) (hpl:(backTo pos (starEach es X.env)).any (·.1)=false:=by rfl):
  QP X κ (.Call (.Name C p) (e::es) [] pos) (eD C (cI as) g):=(yq5 Kd.M G hr hg Kd.m Kd.b .nil sS ha hdb he hpl).imp fun σ H Q hh_=>by
 obtain⟨ps,d,w,e,q⟩:=hh_
 obtain⟨ys,ds,e1,e2⟩:=yZ e
 refine⟨ps,ys,w,e1,fun us H1 s1 a1 x dx hx hdx hne=> ?_⟩
 show SpE np X.K κ mk g (_::(us++[])) _ _ E0
 rw [List.append_nil]
 exact zt9 s1 hx hdx hne (a1.reps has) (by rw [hnp,a1.len.2]) hm e2 q
theorem tL(Kd:Kn X.K X.mg κ C qual st ps f fd)(G:FnOk X.prog X.w X.K X.mg X.base CX0 k f fd ps (SpE 1 X.K κ mk g))(hr:Room (k+1) X.A)(hg:Gl X C)(hm:mk=jP)
  (hdb:(C==("__debug__":Str))=false:=by decide):
  QP X κ (.Call (.Name C p) [] [] pos) (eD C aC g):=(yj6 Kd.M G hr hg Kd.m Kd.b .nil sS hdb).imp fun σ H Q hh_=>by
 obtain⟨ps,d,w,e,q⟩:=hh_
 obtain⟨ys,ds,e1,e2⟩:=yZ e
 cases e1
 exact fun x dx hx hdx hne=>zt9 (us:=[]) (.refl H) hx hdx hne .nil rfl hm e2 q
end
theorem yl2(kvs:List (Key×V))(k:Key):(lZ kvs k).isSome=(kvs.map (·.1)).any fun j=>decide (j=k):=by
 rw [<-xB,List.any_map];rfl
def fE(ks:List Key)(fa:tz2):tz4:=fun ps=>(fa ps).bind fun d=>d.key.bind fun k=>some (ks.any fun j=>decide (j=k))
section
variable{X:Cx}{κ:tz9}{i:Expr}{fa:tz2}{pos p:Pos}{x:Str}{a:Addr}{ks:List Key}{ds:List D}
theorem yz3{kvs:List (Key×V)}{ty:TE}(hg:Gl X x)(hm:X.mg x=some (.ref a))(hk:KDk X.prog X.w X.K a kvs)(hi:PE X i ty)(hdb:(x==("__debug__":Str))=false:=by decide):
  PC X .In i (.Name x p) (fun σ H Q=>ty σ H fun y H1=>∃k,y=kV k/\Q (.bl (lZ kvs k).isSome) H1):=by
 obtain⟨hsm,o,es,ep,vs,h1,h2,h3,h4,h5,h6,h7⟩:=hk
 intro pins s σ H Q I h
 refine thn (hi pins s σ H _ I h) fun iv s1 ⟨y,H1,I1,ry,k,ey,q1⟩=>thn (nQ (v:= .ref a) hg hm rfl hdb pins s1 σ H1 (fun x H2=>x= .ref a/\H2=H1) I1 ⟨rfl,rfl⟩) fun u s2 ⟨x2,H2,I2,rx,e1,e2⟩=> ?_
 subst e1 e2 ey
 cases rx
 have dd:s2.heap.DictAt (gR X.prog X.w) a vs ep:=⟨o,es,I2.kIn a o h1,h2,h3,h5,h6,h7⟩
 refine wpAny_in_of (yO ry) hsm dd.dictOf.mapOf ?_
 rw [<-(h4.val k).isSome_eq]
 exact⟨.bl _,H2,I2.tok _,rfl,q1⟩
theorem zA(hg:Gl X x)(hm:X.mg x=some (.ref a))(hk:uI X.prog X.w X.K κ a ks ds)(ha:QV X κ i fa)(hdb:(x==("__debug__":Str))=false:=by decide)(hmk:behindInMarks .In (.Name x p)=false:=by rfl):QT X κ (.Compare i [.In] [.Name x p] pos) (fE ks fa):=by
 obtain⟨kvs,hkd,hks,hds⟩:=hk
 refine(yb4 (yz3 hg hm hkd ha hdb) hmk).imp fun σ H Q ⟨ps,b,w,e,q⟩=> ?_
 obtain⟨d,e1,e2⟩:=bind_some e
 obtain⟨k,e3,e4⟩:=bind_some e2
 cases e4
 refine⟨ps,d,w,e1,fun v H1 fp s1 r1=>⟨k,za9 r1 e3,?_⟩⟩
 rw [yl2,hks]
 exact⟨_,rfl,q H1 s1⟩
end
theorem jN(n:Nat):cY (true::List.replicate n false)=jP:=by
 funext i
 unfold cY jP
 cases i with
 |zero=>rfl
 |succ i=>
  rw [List.getElem?_cons_succ,List.getElem?_replicate]
  split<;>simp
def kap:List (Str×Addr)->tz9
 |[],_=>mainGlobals
 |(x,a)::r,y=>if x=y then a else kap r y
def DkT{α:Type}:Sem α->Prop
 | .pure _=>True
 | .raise _=>True
 | .unsupported _=>True
 | .rule _ k=>∀x,DkT (k x)
 | .at _ k=>∀x,DkT (k x)
 | .load _ _ k=>∀x,DkT (k x)
 | .update _ _ f k=>(∀o:Obj,(f o).dict=o.dict)/\∀x,DkT (k x)
 | .alloc _ k=>∀x,DkT (k x)
 | .stack k=>∀x,DkT (k x)
 |_=>False
theorem DkT.bind{α β:Type}{f:α->Sem β}(hf:∀a,DkT (f a)):∀{m:Sem α},DkT m->DkT (m>>=f):=by
 intro m
 show DkT m->DkT (m.bind f)
 induction m with
 |pure a=>exact fun _=>hf a
 |raise=>exact fun _=>trivial
 |unsupported=>exact fun _=>trivial
 |rule _ k ih=>exact fun h x=>ih x (h x)
 |«at» _ k ih=>exact fun h x=>ih x (h x)
 |load _ _ k ih=>exact fun h x=>ih x (h x)
 |update _ _ f k ih=>exact fun h=>⟨h.1,fun x=>ih x (h.2 x)⟩
 |alloc _ k ih=>exact fun h x=>ih x (h x)
 |stack k ih=>exact fun h x=>ih x (h x)
 |_=>exact fun h=>h.elim
def KDs(h h':Heap):Prop:=∀(b:Nat) (o:Obj),h.objs[b]? =some o->∃o':Obj,h'.objs[b]? =some o'/\o'.dict=o.dict
theorem KDs.refl(h:Heap):KDs h h:=fun b o e=>⟨o,e,rfl⟩
theorem KDs.trans{a b c:Heap}(x:KDs a b)(y:KDs b c):KDs a c:=fun i o e=>by
 obtain⟨o1,e1,q1⟩:=x i o e
 obtain⟨o2,e2,q2⟩:=y i o1 e1
 exact⟨o2,e2,q2.trans q1⟩
theorem zx3{a:Addr}{f:Obj->Obj}(d:∀o:Obj,(f o).dict=o.dict)(h:Heap):KDs h (h.update a f):=fun b o e=>by
 obtain⟨os,l⟩:=h
 show ∃o':Obj,(os.modify a f)[b]? =some o'/\o'.dict=o.dict
 have e':os[b]? =some o:=e
 rw [Array.getElem?_modify,e']
 split
 ·exact⟨_,rfl,d o⟩
 ·exact⟨o,rfl,rfl⟩
theorem yl3(h:Heap)(x:Obj):KDs h (h.push x):=fun b o e=>by
 obtain⟨os,l⟩:=h
 have e':os[b]? =some o:=e
 refine⟨o,?_,rfl⟩
 show(os.push x)[b]? =some o
 have hl:=(Array.getElem?_eq_some_iff.mp e').1
 rw [Array.getElem?_push,if_neg (Nat.ne_of_lt hl)];exact e'
theorem xd4{α:Type}{M:Model}{Γ:PySem.Ctx}{E:Value->Pos->Shared->Prop}:∀(t:Sem α),DkT t->∀{Q:α->Pos->Shared->Prop} (p:Pos) (s:Shared),Sem.wp M Γ t Q E p s->Sem.wp M Γ t (fun a p s'=>Q a p s'/\KDs s.heap s'.heap) E p s:=by
 intro t
 have up:∀{t:Sem α} {Q:α->Pos->Shared->Prop} {p:Pos} {s:Shared} {h:Heap},KDs h s.heap->Sem.wp M Γ t (fun a p s'=>Q a p s'/\KDs s.heap s'.heap) E p s->Sem.wp M Γ t (fun a p s'=>Q a p s'/\KDs h s'.heap) E p s:=fun k x=>Sem.wp_mono M Γ _ (fun _ _ _ z=>⟨z.1,k.trans z.2⟩) (fun _ _ _ z=>z) _ _ x
 induction t with
 |pure a=>exact fun _ Q p s h=>⟨h,.refl _⟩
 |raise e=>exact fun _ Q p s h=>h
 |unsupported=>exact fun _ Q p s h=>h
 |rule _ k ih=>exact fun d Q p s h=>ih () (d ()) p s h
 |«at» p' k ih=>exact fun d Q p s h=>ih () (d ()) p' s h
 |load a _ k ih=>exact fun d Q p s h=>by obtain⟨o,e,h⟩:=h;exact⟨o,e,ih o (d o) p s h⟩
 |update a _ f k ih=>exact fun d Q p s h=>⟨h.1,up (zx3 d.1 _) (ih () (d.2 ()) p _ h.2)⟩
 |alloc o k ih=>exact fun d Q p s h=>up (t:=k s.heap.objs.size) (s:={s with heap:=s.heap.push o}) (yl3 _ o) (ih _ (d _) p _ h)
 |stack k ih=>exact fun d Q p s h=>ih _ (d _) p s h
 |_=>exact fun d=>d.elim
theorem qN{α:Type}{M:Model}{A:Around}{t:Sem α}{Q:α->Shared->Prop}{E:Value->Shared->Prop}{s:Shared}(d:DkT t)(h:wpAny M A t Q E s):wpAny M A t (fun a s'=>Q a s'/\KDs s.heap s'.heap) E s:=
 fun Γ p hΓ=>xd4 t d p s (h Γ p hΓ)
theorem zb3(o:Obj)(f:Array Value->Array Value):(Obj.mapFields f o).dict=o.dict:=by
 unfold Obj.mapFields
 split<;>rfl
theorem zb4{a:Addr}:DkT (load a):=fun _=>trivial
theorem tM{v:Value}{i:Nat}:DkT (field v i):=by
 unfold field fieldsOf
 refine DkT.bind (fun _=>by split<;>trivial) ?_
 split
 ·exact DkT.bind (fun _=>by split<;>trivial) zb4
 ·trivial
theorem zm8{v x:Value}{i:Nat}:DkT (setField v i x):=by
 unfold setField updateField
 split
 ·refine DkT.bind (fun _=> ?_) zb4
  split
  ·split
   ·exact⟨fun o=>zb3 o _,fun _=>trivial⟩
   ·trivial
  ·trivial
 ·trivial
theorem vG{e:Value}{f:Option Addr}:DkT (setFlight e f):=by
 unfold setFlight
 refine DkT.bind (fun _=> ?_) tM
 split
 ·exact zm8
 ·trivial
theorem zm9:∀l:List Env,DkT (readyFrames l)
 |[]=>trivial
 | env::outer=>by
  unfold readyFrames
  split
  ·refine DkT.bind (fun _=> ?_) zb4
   split
   ·trivial
   ·refine DkT.bind (fun _=>DkT.bind (fun _=>DkT.bind (fun _=>zm9 outer) (by exact⟨fun _=>rfl,fun _=>True.intro⟩)) ?_) ?_
    ·unfold keptBack
     split
     ·split
      ·trivial
      ·exact DkT.bind (fun _=>by exact True.intro) (DkT.bind (fun _=>by exact True.intro) (by exact fun _=>True.intro))
     ·trivial
    ·unfold behindIsImport
     split
     ·trivial
     ·split
      ·trivial
      ·exact DkT.bind (fun _=>by exact True.intro) tM
  ·trivial
theorem zu0{e:Value}{env:Env}:DkT (noteFrame e env):=by
 unfold noteFrame
 split
 ·refine DkT.bind (fun hd=> ?_) tM
  have nw:∀{f:Addr} {b:Bool},DkT (do setField e 1 (<-EntryCells.newEntry hd (<-PySem.frameOf env) .none (rawInt f) .none (<-entryPlaceOf f b))):=fun {f b}=>by
   refine DkT.bind (fun _=>DkT.bind (fun _=>DkT.bind (fun _=>zm8) ?_) ?_) ?_
   ·unfold EntryCells.newEntry newFields newObj newObjAsIs
    dsimp only
    split<;>split<;>first|exact True.intro|exact fun _=>True.intro
   ·unfold entryPlaceOf
    refine DkT.bind (fun _=> ?_) (by exact fun _=>True.intro)
    split<;>trivial
   ·unfold PySem.frameOf
    refine DkT.bind (fun _=>DkT.bind (fun _=>by split<;>trivial) ?_) (DkT.bind (fun _=>by exact True.intro) (by exact fun _=>True.intro))
    unfold frameObject
    split
    ·trivial
    ·exact DkT.bind (fun _=>by exact True.intro) (zm9 _)
  split
  ·refine DkT.bind (fun _=> ?_) tM
   split
   ·exact True.intro
   ·exact DkT.bind (fun _=>nw) zm8
  ·exact nw
 ·trivial
theorem zn0{e:Value}{env:Env}:DkT (leaving env e):=DkT.bind (fun _=>vG) zu0
def KD(e:Addr)(dd:Option Addr)(h:Heap):Prop:=∃o,h.get? e=some o/\o.dict=dd
theorem zn1{h:Heap}{e:Addr}{o:Obj}(q:h.get? e=some o):h.objs[e]? =some o:=by
 unfold Heap.get? at q
 split at q
 ·cases q
 ·exact q
theorem KD.step{e:Addr}{dd:Option Addr}{h h':Heap}(k:KD e dd h)(s:KDs h h')(t:∃o,h'.get? e=some o):KD e dd h':=by
 obtain⟨o,q1,q2⟩:=k
 obtain⟨o',q3⟩:=t
 obtain⟨o2,q4,q5⟩:=s e o (zn1 q1)
 rw [zn1 q3] at q4
 cases q4
 exact⟨o',q3,q5.trans q2⟩
section
variable{M:Model}{A:Around}{E:Value->Shared->Prop}{s:Shared}{base:Heap}{env:Env}{outer:List Env}{L e:Addr}{oe:Obj}{vs:Array Value}{dd:Option Addr}{cls a0:Value}
theorem zx4{Q:Unit->Shared->Prop}(fr:A.frames=some (env::outer))(hf:env.frame=some L)(fl:Heap.FlyingW base (env::outer) e cls a0 s.heap)(kd:KD e dd s.heap)(q:∀h',Heap.FlyingW base outer e cls a0 h'->s.heap.UpToSlots h'->KD e dd h'->Q () {s with heap:=h'}):wpAny M A (leaving env (.ref e)) Q E s:=
 wpAny_mono (qN zn0 (wpAny_leaves_onW (Q:=fun _ s'=>∃h',s'={s with heap:=h'}/\Heap.FlyingW base outer e cls a0 h'/\s.heap.UpToSlots h') fr hf fl fun h' x y=>⟨h',rfl,x,y⟩)) (fun _ _ h=>by
  obtain⟨⟨h',rfl,x,y⟩,z⟩:=h
  exact q h' x y (kd.step z (x.there.imp fun _ w=>w.1))) fun _ _ h=>h
theorem ye6{Q:Unit->Shared->Prop}(fr:A.frames=some (env::outer))(ff:s.heap.FunFrames base (env::outer))(hf:env.frame=some L)(he:s.heap.get? e=some oe)(kb:base.StaysIn s.heap)(en:base.get? e=none)(hd:oe.data= .fields vs)(h1:vs[1]? =some .none)(h0:vs[0]? =some a0)(kd:oe.dict=dd)
  (q:∀h',Heap.LeftW base (env::outer) e oe.cls a0 s.heap h'->KD e dd h'->Q () {s with heap:=h'}):wpAny M A (leaving env (.ref e)) Q E s:=
 wpAny_mono (qN zn0 (wpAny_leaving_firstW (Q:=fun _ s'=>∃h',s'={s with heap:=h'}/\Heap.LeftW base (env::outer) e oe.cls a0 s.heap h') fr ff hf he kb en hd h1 h0 fun h' x=>⟨h',rfl,x⟩)) (fun _ _ h=>by
  obtain⟨⟨h',rfl,x⟩,z⟩:=h
  exact q h' x (KD.step ⟨oe,he,kd⟩ z (x.2.2.1.at.there.imp fun _ w=>w.1))) fun _ _ h=>h
theorem ye7{Q:Unit->Shared->Prop}(fr:A.frames=some (env::outer))(hf:env.frame=some L)(fl:Heap.FlyingW base (env::outer) e cls a0 s.heap)(kd:KD e dd s.heap)(q:∀h',Heap.HeldW base (env::outer) e cls a0 L h'->s.heap.UpToSlots h'->KD e dd h'->Q () {s with heap:=h'}):wpAny M A (noteFrame (.ref e) env) Q E s:=
 wpAny_mono (qN zu0 (wpAny_looks_onW (Q:=fun _ s'=>∃h',s'={s with heap:=h'}/\Heap.HeldW base (env::outer) e cls a0 L h'/\s.heap.UpToSlots h') fr hf fl fun h' x y=>⟨h',rfl,x,y⟩)) (fun _ _ h=>by
  obtain⟨⟨h',rfl,x,y⟩,z⟩:=h
  exact q h' x y (kd.step z (x.there.imp fun _ w=>w.1))) fun _ _ h=>h
theorem yz4{l:List Env}{Q:Unit->Shared->Prop}(hh:Heap.HeldW base l e cls a0 L s.heap)(kd:KD e dd s.heap)(q:∀h',Heap.FlyingW base l e cls a0 h'->s.heap.UpToSlots h'->KD e dd h'->Q () {s with heap:=h'}):wpAny M A (setFlight (.ref e) none) Q E s:=
 wpAny_mono (qN vG (wpAny_landsW (Q:=fun _ s'=>∃h',s'={s with heap:=h'}/\Heap.FlyingW base l e cls a0 h'/\s.heap.UpToSlots h') hh fun h' x y=>⟨h',rfl,x,y⟩)) (fun _ _ h=>by
  obtain⟨⟨h',rfl,x,y⟩,z⟩:=h
  exact q h' x y (kd.step z (x.there.imp fun _ w=>w.1))) fun _ _ h=>h
theorem ys5{l:List Env}{Q:Unit->Shared->Prop}(hh:Heap.FlyingW base l e cls a0 s.heap)(kd:KD e dd s.heap)(q:∀h',Heap.FlyingW base l e cls a0 h'->s.heap.UpToSlots h'->KD e dd h'->Q () {s with heap:=h'}):wpAny M A (setFlight (.ref e) none) Q E s:=
 wpAny_mono (qN vG (PyProof.Rows.lands_againW (Q:=fun _ s'=>∃h',s'={s with heap:=h'}/\Heap.FlyingW base l e cls a0 h'/\s.heap.UpToSlots h') hh fun h' x y=>⟨h',rfl,x,y⟩)) (fun _ _ h=>by
  obtain⟨⟨h',rfl,x,y⟩,z⟩:=h
  exact q h' x y (kd.step z (x.there.imp fun _ w=>w.1))) fun _ _ h=>h
end
theorem fL.get{P:Program}{w:World}{H:Hp}{h:Heap}{a:Addr}{o:HO}(x:fL P w H h a o):∃u,h.get? a=some u:=by
 cases o with
 |lst xs=>obtain⟨_,_,_,_,e⟩:=x;exact⟨_,e⟩
 |tup xs=>obtain⟨_,_,_,_,e,_⟩:=x;exact⟨_,e⟩
 |dK kvs=>obtain⟨_,_,_,_,o,_,_,e,_⟩:=x;exact⟨_,e⟩
 |dT kvs=>obtain⟨_,_,_,_,o,_,_,e,_⟩:=x;exact⟨_,e⟩
 |set S n=>obtain⟨o,_,_,_,e,_⟩:=x;exact⟨_,e⟩
 |ins C dx fs=>obtain⟨_,_,_,e,_⟩:=x;exact⟨_,e⟩
 |own y=>exact x
 |xd fs=>obtain⟨_,⟨_,_,_,e,_⟩,_⟩:=x;exact⟨_,e⟩
 |rng lo hi=>obtain⟨_,_,_,e⟩:=x;exact⟨_,e⟩
 |frz ob u=>obtain⟨e,_⟩:=x;exact⟨_,e⟩
 |tbl ps=>exact⟨_,(show h.get? a=some _ from x)⟩
 |met f y=>exact⟨_,(show h.get? a=some _ from x)⟩
 |ext φ=>obtain⟨_,e,_⟩:=x;exact e
theorem HOk.none_of{P:Program}{w:World}{H:Hp}{h:Heap}(x:HOk P w H h){a:Addr}(e:h.get? a=none):H a=none:=by
 cases q:H a with
 |none=>rfl
 |some o=>obtain⟨u,z⟩:=(x a o q).get;rw [e] at z;cases z
theorem HOk.but{P:Program}{w:World}{H:Hp}{h h':Heap}(x:HOk P w H h)(k:∀b o u,H b=some o->h.get? b=some u->h'.get? b=some u):HOk P w H h':=fun a o e=>
 (x a o e).stay (fun b u hb q=>by
  rcases hb with rfl|hb
  ·exact k _ _ _ e q
  ·exact k _ _ _ hb q) (fun _ q=>q) fun _ _ q=>q
theorem zf2{h:Heap}{as:List Addr}{b:Addr}(e:(PySem.W.hideAll h as).get? b=none):b∈as\/h.get? b=none:=by
 cases q:h.get? b with
 |none=>exact .inr rfl
 |some o=>
  by_cases m:b∈as
  ·exact .inl m
  ·rw [PySem.W.hideAll_get as q m] at e;cases e
theorem zu1{l:List Env}{env:Env}{a:Addr}(h:env∈l)(e:env.frame=some a):a∈frs l:=List.mem_filterMap.mpr ⟨env,h,e⟩
structure Fly(base:Heap)(C:Addr)(l:List Env)(H:Hp)(h0:Heap)(e T:Addr)(a0:Value)(h:Heap):Prop where
 ne:h0.get? e=none
 nT:h0.get? T=none
 He:H e=none
 HT:H T=none
 st:base.StaysIn h
 be:base.get? e=none
 bT:base.get? T=none
 fr:h.FunFrames base l
 tr:∃oe vs oT ts,h.get? e=some oe/\(oe.cls= .ref C/\vs[0]? =some a0)/\oe.data= .fields vs/\vs[1]? =some (.ref T)/\T≠e/\h.get? T=some oT/\oT.data= .fields ts/\ts[3]? =some .none
abbrev yo2(h:Heap)(l:List Env)(e T:Addr):Heap:=PySem.W.hideAll h (e::T::frs l)
section
variable{base h0 h:Heap}{C e T:Addr}{l:List Env}{H:Hp}{a0:Value}
theorem Fly.flying(x:Fly base C l H h0 e T a0 h):Heap.FlyingW (yo2 h l e T) l e (.ref C) a0 h:=by
 obtain⟨oe,vs,oT,ts,h1,h2,h3,h4,h5,h6,h7,h8⟩:=x.tr
 refine⟨fun b o q=>PySem.W.of_hideAll _ q,PySem.W.hideAll_none _ List.mem_cons_self,PySem.W.funFrames_hide x.fr fun env m a q=>List.mem_cons_of_mem _ (List.mem_cons_of_mem _ (zu1 m q)),?_⟩
 exact⟨oe,vs,T,oT,ts,h1,h2,h3,h4,PySem.W.hideAll_none _ (List.mem_cons_of_mem _ List.mem_cons_self),h5,h6,h7,h8⟩
theorem Fly.base_in(x:Fly base C l H h0 e T a0 h):base.StaysIn (yo2 h l e T):=fun b o q=>by
 refine PySem.W.hideAll_get _ (x.st b o q) fun m=> ?_
 rcases List.mem_cons.mp m with z|m
 ·rw [z,x.be] at q;cases q
 ·rcases List.mem_cons.mp m with z|m
  ·rw [z,x.bT] at q;cases q
  ·rw [(x.fr.mem m).1] at q;cases q
theorem Fly.next{P:Program}{w:World}(x:Fly base C l H h0 e T a0 h)(ok:HOk P w H h)(th:∀b o,h0.get? b=some o->∃o',h.get? b=some o'){h':Heap}{l':List Env}(ups:h.UpToSlots h')(f:Heap.FlyingW (yo2 h l e T) l' e (.ref C) a0 h'):∃T',Fly base C l' H h0 e T' a0 h':=by
 obtain⟨k1,k2,k3,oe,vs,T',oT,ts,h1,h2,h3,h4,h5,h6,h7,h8,h9⟩:=f
 have hT:T'=T\/h.get? T'=none:=by
  rcases zf2 h5 with m|m
  ·rcases List.mem_cons.mp m with z|m
   ·exact absurd z h6
   ·rcases List.mem_cons.mp m with z|m
    ·exact .inl z
    ·obtain⟨_,o,q1,q2⟩:=x.fr.mem m
     obtain⟨sl,q3⟩:=ups T' o q1 q2
     rw [h7] at q3;cases q3
     exact absurd h8 (q2 _)
  ·exact .inr m
 refine⟨T',x.ne,?_,x.He,?_,fun b o q=>k1 b o (x.base_in b o q),x.be,?_,PySem.W.funFrames_base x.base_in k3,oe,vs,oT,ts,h1,h2,h3,h4,h6,h7,h8,h9⟩
 ·rcases hT with z|z
  ·rw [z];exact x.nT
  ·cases q:h0.get? T' with
   |none=>rfl
   |some o=>obtain⟨o',q'⟩:=th _ _ q;rw [z] at q';cases q'
 ·rcases hT with z|z
  ·rw [z];exact x.HT
  ·exact ok.none_of z
 ·cases q:base.get? T' with
  |none=>rfl
  |some o=>have:=x.base_in T' o q;rw [h5] at this;cases this
end
theorem zb5{base h h':Heap}{H:Hp}{S:List Addr}{l:List Env}(fr:h.FunFrames base l)(ups:h.UpToSlots h')(st:(PySem.W.hideAll h (S++frs l)).StaysIn h'):Un (frs l) S H H h h':=by
 have kp:∀b o,h.get? b=some o->b∉frs l->b∉S->h'.get? b=some o:=fun b o q n1 n2=>st b o (PySem.W.hideAll_get _ q fun m=>(List.mem_append.mp m).elim n2 n1)
 have sl:∀b o,h.get? b=some o->b∈frs l->∃s,h'.get? b=some {o with slots:=s}:=fun b o q m=>by
  obtain⟨_,o',q1,q2⟩:=fr.mem m
  rw [q] at q1;cases q1
  exact ups b o q q2
 refine⟨fun b o q _ hb hx=>kp b o q hb hx,fun b o q _ hb _=>sl b o q hb,fun _ _ _ n _=>n,fun b o q hx=> ?_,fun _ _ q=>q,fun _ _ _ q=>q,fun _ ps q=>⟨#[],by rw [q];simp⟩⟩
 by_cases hb:b∈frs l
 ·obtain⟨s,e⟩:=sl b o q hb;exact⟨_,e⟩
 ·exact⟨o,kp b o q hb hx⟩
theorem zb6{fs fs' ex':List Addr}{H H':Hp}{h h':Heap}(u:Un fs' ex' H H' h h')(hx:∀b o,h.get? b=some o->b∉ex')(hf:∀b o,h.get? b=some o->b∈fs'->b∈fs):Un fs [] H H' h h':=
 ⟨fun b o q n hb _=>u.keep b o q n (fun z=>hb (hf b o q z)) (hx b o q),fun b o q n _ _=>u.any q n (hx b o q),fun b o q n _=>u.free b o q n (hx b o q),fun b o q _=>u.there b o q (hx b o q),u.tups,u.frzs,u.tbls⟩
theorem xJ{P:Program}{w:World}{h h':Heap}{H:Hp}{S:List Addr}{l:List Env}(ok:HOk P w H h)(hS:∀b∈S,H b=none)(hF:∀b∈frs l,H b=none)(st:(PySem.W.hideAll h (S++frs l)).StaysIn h'):HOk P w H h':=
 ok.but fun b o u e q=>st b u (PySem.W.hideAll_get _ q fun m=>by
  rcases List.mem_append.mp m with m|m
  ·rw [hS b m] at e;cases e
  ·rw [hF b m] at e;cases e)
def CXn(P:Program)(w:World)(base:Heap)(C:Addr):CXT:=fun outer H s E e s'=>∃ea T a0 dd H',e= .ref ea/\s'.os=s.os/\AllBare s'.gens/\Un (frs outer) [] H H' s.heap s'.heap/\HOk P w H' s'.heap/\Fly base C outer H' s.heap ea T a0 s'.heap/\KD ea dd s'.heap/\E (.ref C) dd H'
theorem Fly.down{base h0 h1 h:Heap}{C e T:Addr}{l:List Env}{H:Hp}{a0:Value}(x:Fly base C l H h1 e T a0 h)(th:∀b o,h0.get? b=some o->∃o',h1.get? b=some o'):Fly base C l H h0 e T a0 h:=by
 have none:∀{b:Addr},h1.get? b=none->h0.get? b=none:=fun {b} z=>by
  cases q:h0.get? b with
  |none=>rfl
  |some o=>obtain⟨o',q'⟩:=th _ _ q;rw [z] at q';cases q'
 exact⟨none x.ne,none x.nT,x.He,x.HT,x.st,x.be,x.bT,x.fr,x.tr⟩
section
variable{P:Program}{w:World}{K:tz0}{mg:tzA}{base:Heap}{N:List Str}{qual:Str}{scope:Scope}{f C:Addr}{cd:Value}{A:Around}{outer:List Env}{s:Shared}{H:Hp}{E:XK}
theorem wB:frs (envOfC qual scope s.heap.objs.size f cd::outer)=s.heap.objs.size::frs outer:=rfl
theorem yp1:oN (CXn P w base C) (gG (CXn P w base C) P w K mg base N qual scope f cd A outer s H E) E:=by
 intro pins σ H1 s1 e s2 I h
 obtain⟨ea,T,a0,dd,H2,rfl,os,bare,un,hok,fly,kd,q⟩:=h
 have stk:∀b∈frs (envOfC qual scope s.heap.objs.size f cd::outer),H2 b=none:=fun b m=>by
  obtain⟨_,o,q1,_⟩:=(show s1.heap.FunFrames base (envOfC qual scope s.heap.objs.size f cd::outer) from I.stack).mem m
  exact un.free b o q1 (I.stkFree b m) (by simp)
 have th1:∀b o,s1.heap.get? b=some o->∃o',s2.heap.get? b=some o':=fun b o q=>un.there b o q (by simp)
 have th0:∀b o,s.heap.get? b=some o->∃o',s1.heap.get? b=some o':=fun b o q=>I.base.there b o q (by show b∉([]:List Addr);simp)
 show wpAny (model P w) (A.deeper (envOfC qual scope s.heap.objs.size f cd)) (leaving (envOfC qual scope s.heap.objs.size f cd) (.ref ea)) (fun _ s''=>CXn P w base C outer H s E (.ref ea) s'') (fun e' s''=>CXn P w base C outer H s E e' s'') s2
 refine zx4 (L:=s.heap.objs.size) I.ok.frames rfl fly.flying kd fun h' fl ups kd'=> ?_
 obtain⟨T',fly'⟩:=fly.next hok th1 ups fl
 have st:(PySem.W.hideAll s2.heap ([ea,T]++frs (envOfC qual scope s.heap.objs.size f cd::outer))).StaysIn h':=fl.1
 have u1:Un (frs (envOfC qual scope s.heap.objs.size f cd::outer)) [ea,T] H H1 s.heap s1.heap:=(show Un (frs outer) [] H H1 s.heap s1.heap from I.base).mono (fun b m=>by rw [wB];exact List.mem_cons_of_mem _ m) (fun b m=>absurd m (by simp))
 have u2:=un.mono (fs':=frs (envOfC qual scope s.heap.objs.size f cd::outer)) (ex':=[ea,T]) (fun b m=>m) (fun b m=>absurd m (by simp))
 have u3:Un (frs (envOfC qual scope s.heap.objs.size f cd::outer)) [ea,T] H2 H2 s2.heap h':=zb5 fly.fr ups st
 refine⟨ea,T',a0,dd,H2,rfl,os.trans (show s1.os=s.os from I.os),bare,zb6 ((u1.trans u2).trans u3) (fun b o q m=> ?_) (fun b o q m=> ?_),xJ hok (fun b m=> ?_) stk st,fly'.down th0,kd',q⟩
 ·obtain⟨o',q'⟩:=th0 b o q
  rcases List.mem_cons.mp m with z|m
  ·rw [z,fly.ne] at q';cases q'
  ·rw [List.mem_singleton.mp m,fly.nT] at q';cases q'
 ·rw [wB] at m
  rcases List.mem_cons.mp m with z|m
  ·exact absurd (Heap.lt_size q) (by rw [z];exact Nat.lt_irrefl _)
  ·exact m
 ·rcases List.mem_cons.mp m with z|m
  ·rw [z];exact fly.He
  ·rw [List.mem_singleton.mp m];exact fly.HT
end
abbrev mO(C:Addr)(dx:Option Addr)(t:Addr):Obj:={cls:= .ref C,dict:=dx,data:= .fields #[.ref t,.none,.none,.none,.bool false,.none]}
section
variable{P:Program}{w:World}{K:tz0}{mg:tzA}{base:Heap}{N:List Str}{qual:Str}{scope:Scope}{f C:Addr}{cd:Value}{A:Around}{outer:List Env}{s:Shared}{H:Hp}{E:XK}
theorem ye8{pins:tzB}{σ:St}{H2:Hp}{s2:Shared}{e t:Addr}{dd:Option Addr}(I:Inv (gG (CXn P w base C) P w K mg base N qual scope f cd A outer s H E) pins σ H2 s2)(ne:s.heap.get? e=none)(He:H2 e=none)(he:s2.heap.get? e=some (mO C dd t))(q:E (.ref C) dd H2):
  (gG (CXn P w base C) P w K mg base N qual scope f cd A outer s H E).xe (.ref e) s2:=by
 have fr1:s2.heap.FunFrames base (envOfC qual scope s.heap.objs.size f cd::outer):=I.stack
 have nf:∀b∈frs (envOfC qual scope s.heap.objs.size f cd::outer),base.get? b=none:=fun b m=>(fr1.mem m).1
 have be:base.get? e=none:=by
  cases z:base.get? e with
  |none=>rfl
  |some o=>have:=(I.ok.bs e o z).1;rw [show(gG (CXn P w base C) P w K mg base N qual scope f cd A outer s H E).s₀.heap.get? e=none from ne] at this;cases this
 have th0:∀b o,s.heap.get? b=some o->∃o',s2.heap.get? b=some o':=fun b o q=>I.base.there b o q (by show b∉([]:List Addr);simp)
 have bin:base.StaysIn (PySem.W.hideAll s2.heap ([e]++frs (envOfC qual scope s.heap.objs.size f cd::outer))):=fun b o q=>by
  refine PySem.W.hideAll_get _ (I.bk b o q) fun m=> ?_
  rcases List.mem_append.mp m with m|m
  ·rw [List.mem_singleton.mp m,be] at q;cases q
  ·rw [nf b m] at q;cases q
 show wpAny (model P w) (A.deeper (envOfC qual scope s.heap.objs.size f cd)) (leaving (envOfC qual scope s.heap.objs.size f cd) (.ref e)) (fun _ s''=>CXn P w base C outer H s E (.ref e) s'') (fun e' s''=>CXn P w base C outer H s E e' s'') s2
 refine ye6 (base:=PySem.W.hideAll s2.heap ([e]++frs (envOfC qual scope s.heap.objs.size f cd::outer))) (L:=s.heap.objs.size) (a0:= .ref t) I.ok.frames (PySem.W.funFrames_hide fr1 fun env m a q=>List.mem_append_right _ (zu1 m q)) rfl he (fun b o q=>PySem.W.of_hideAll _ q) (PySem.W.hideAll_none _ (List.mem_append_left _ (List.mem_singleton_self e))) rfl rfl rfl rfl fun h'' hL kd=> ?_
 obtain⟨st,fr2,⟨oe,vs2,T,oT,ts,h1,h2,h3,h4,h5,h6,h7,h8,h9⟩,ups⟩:=hL
 have hT:s2.heap.get? T=none:=by
  rcases zf2 h5 with m|m
  ·rcases List.mem_append.mp m with m|m
   ·exact absurd (List.mem_singleton.mp m) h6
   ·obtain⟨_,o,q1,q2⟩:=fr1.mem m
    obtain⟨sl,q3⟩:=ups T o q1 q2
    rw [h7] at q3;cases q3
    exact absurd h8 (q2 _)
  ·exact m
 have hT0:s.heap.get? T=none:=by
  cases z:s.heap.get? T with
  |none=>rfl
  |some o=>obtain⟨o',z'⟩:=th0 T o z;rw [hT] at z';cases z'
 have bT:base.get? T=none:=by
  cases z:base.get? T with
  |none=>rfl
  |some o=>have:=I.bk T o z;rw [hT] at this;cases this
 have u1:Un (frs (envOfC qual scope s.heap.objs.size f cd::outer)) [e] H H2 s.heap s2.heap:=(show Un (frs outer) [] H H2 s.heap s2.heap from I.base).mono (fun b m=>by rw [wB];exact List.mem_cons_of_mem _ m) (fun b m=>absurd m (by simp))
 have u3:Un (frs (envOfC qual scope s.heap.objs.size f cd::outer)) [e] H2 H2 s2.heap h'':=zb5 fr1 ups st
 refine⟨e,T,.ref t,dd,H2,rfl,(show s2.os=s.os from I.os),I.bare,zb6 (u1.trans u3) (fun b o q m=> ?_) (fun b o q m=> ?_),xJ I.hok (fun b m=> ?_) I.stkFree st,⟨ne,hT0,He,I.hok.none_of hT,fun b o q=>st b o (bin b o q),be,bT,PySem.W.funFrames_base bin fr2.2.2,oe,vs2,oT,ts,h1,h2,h3,h4,h6,h7,h8,h9⟩,kd,q⟩
 ·rw [List.mem_singleton.mp m,ne] at q;cases q
 ·rw [wB] at m
  rcases List.mem_cons.mp m with z|m
  ·exact absurd (Heap.lt_size q) (by rw [z];exact Nat.lt_irrefl _)
  ·exact m
 ·rw [List.mem_singleton.mp m];exact He
end
theorem PS.nox{X:Cx}{st:Stmt}{t:TS}(h:PS X.nox st t):PS X st t:=fun pins s σ H D I hw=>
 wpAny_mono (h pins s σ H D (I.wish _) hw) (fun _ _ q=>q.unwish) fun _ _ z=>False.elim z
theorem ye9{H H':Hp}(k:Frm (fun _=>[]) H H'):SameK H H':=⟨fun a o h kk=>k.keep a o h kk (fun _=>by simp),k.grow⟩
section
variable{X:Cx}{κ:tz9}{φ:F0}{Ex:Hp->Prop}{fx:tz5}{st:Stmt}{bY:List Stmt}{pos:Pos}
theorem rD:PSs X bY (fun _ _ _=>False):=fun _ _ _ _ _ _ h=>h.elim
end
theorem PA.nox{X:Cx}{es:List Expr}{t:TA}(h:PA X.nox es t):PA X es t:=fun pos pins s σ H Q I hw=>
 wpAny_mono (h pos pins s σ H Q (I.wish _) hw) (fun _ _ q=>by obtain⟨vs,H',I',r,q⟩:=q;exact⟨vs,H',I'.unwish,r,q⟩) fun _ _ z=>False.elim z
abbrev bmV:List Value:=[.type "ValueError",.type "Exception",.type "BaseException",.type "object"]
theorem Stp.frm{φ:Fx}{σ σ1:St}{H H1 H2:Hp}{F F1:Nat->List Addr}{ps1:PSt}(s:Stp φ σ H F σ1 H1 ps1 F1)(fr:Frm F1 H1 H2):Frm F H H2:=
 ⟨fun a o h k n=>fr.keep a o (s.fr.keep a o h k n) k fun i m=>by
  exact(s.nw i a m).elim (fun⟨j,z⟩=>n j z) (fun z=>by rw [z] at h;cases h),fun a z=>s.fr.grow a (fr.grow a z)⟩
theorem yz5{X:Cx}{l:List Stmt}{t u:TS}(h1:PSs X l t)(h2:PSs X l u):PSs X l (fun D σ H=>t D σ H\/u D σ H):=fun pins s σ H D I h=>h.elim (h1 pins s σ H D I) (h2 pins s σ H D I)
end L2
namespace L2
section
open PySem PySem.W PySem.Calls PyProof.Rows Builtin Builtin.ObjectAttr Builtin.Getset_descriptor
def zj0(x D:Addr)(h:Heap):Prop:=∃o,h.get? x=some o/\o.cls= .ref D
variable{prog:Program}{w:World}{A:Around}{E:Value->Shared->Prop}{s:Shared}{K:tz0}{x D:Addr}{name:Str}
theorem oE{M:Model}{h:Heap}(I:zj0 x D h):Looks M h (typeOf (.ref x)) (.ref D):=by
 obtain⟨o,h1,h2⟩:=I
 exact h2▸(Looks.ld h1).andThen .now
theorem zr1{M:Model}{h:Heap}(X:K.In h){a g:Value}(ha:findIn K (.ref D) name=some (some a))(hg:specialIn K a "__get__"=some (some g))(ht:takesIn K a=some true):
  Looks M h (find (.ref x) (.ref D) name) (.bind g a):=
 (looks_findIn (M:=M) X ha).andThen ((looks_specialIn X hg).andThen ((show Looks M h (dataDescriptor? (some a) (some g)) (some (g,a)) from(looks_takesIn (M:=M) X ht).andThen .now).andThen (Looks.tag .now)))
theorem zx5{tp:Value}{R:Result->Shared->Prop}(X:K.In s.heap)(I:zj0 x D s.heap)(hm:mroIn K D (.type "object")=some true)(h:R (.ok (.ret (.ref D))) s):
  codeAny (model prog w) A (.call (.builtin "getset_descriptor.__get__") ⟨[.builtin "object.__class__",.ref x,tp],[]⟩) R s:=by
 obtain⟨h1,g1,d1,t1,o1⟩:=s;have L0:=oE (M:=model prog w) I;have L1:=looks_mroIn (M:=model prog w) X hm
 refine codeAny_call_builtin KF.slot_gs.plain KF.entry_gs (KF.slot_gs.check _ _ _ _ _ _ _ _ KF.type_class (KF.args_gs _ _ _) ?_);unfold Builtin.«getset_descriptor.__get__» descrGet;rw [dga_obj]
 refine wpAny_bind (wpAny_pure ?_);unfold descrGetter descrCheckInstance descrNameAndClass isInstance;simp only [KF.owner_class];repeat lk
 refine⟨Code.quiet_builtin _ (by decide+kernel),codeAny_builtin KF.entry_class ?_⟩;unfold Builtin.«object.__class__» shownTypeOf;repeat lk
 exact h
theorem zx6{Q:Option Value->Shared->Prop}(hga:findIn K (.ref D) "__getattribute__"=some (some (.builtin "BaseException.__getattribute__")))(hgt:findIn K (.ref D) "__getattr__"=some none)(ha:findIn K (.ref D) "__class__"=some (some (.builtin "object.__class__")))
 (hn:specialIn K (.builtin "object.__class__") "__get__"=some (some (.builtin "getset_descriptor.__get__"))) (htk:takesIn K (.builtin "object.__class__")=some true) (hm:mroIn K D (.type "object")=some true) (hb:mroIn K D (.type "BaseException")=some true)
 (X:K.In s.heap) (I:zj0 x D s.heap) (h:Q (some (.ref D)) {s with toks:=s.toks+1}):wpAny (model prog w) A (getAttr? (.ref x) "__class__") Q E s:=by
 obtain⟨h1,g1,d1,t1,o1⟩:=s;have L0:=oE (M:=model prog w) I;have L1:=looks_findIn (M:=model prog w) X hga
 have L3:=zr1 (M:=model prog w) (x:=x) X ha hn htk;have L4:=looks_findIn (M:=model prog w) X hgt
 have FB:=PySem.F.excAttr_ValueError
 have f3:=FB.ga.bind (.ref x)
 have hx2:(Value.builtin "BaseException.__getattribute__"==Value.builtin "object.__getattribute__")=false:=by decide+kernel
 have hx1:(onTheHeap (Value.ref D)&&Value.builtin "BaseException.__getattribute__"==Value.builtin "object.__getattribute__")=false:=by rw [hx2];rfl
 unfold getAttr? getAttrBy? getAttrBy
 repeat (any_goals (first|assumption|with_reducible refine Looks.at L0 ?_|with_reducible refine Looks.at L1 ?_|with_reducible refine Looks.at L4 ?_|wp_step))
 refine codeAny_call_builtin FB.ga.plain F.entry_bexc_ga ?_
 have hk:builtinKind "BaseException.__getattribute__"=some .slot:=by decide+kernel
 have hsplit:splitId "BaseException.__getattribute__"=some ("BaseException","__getattribute__"):=by decide+kernel
 have LB:=looks_mroIn (M:=model prog w) X hb
 have ha2:=F.args_bexc_ga (.ref x) (.str "__class__" t1)
 simp only [checkBuiltinCall,hk,hsplit]
 refine wpAny_bind ?_
 unfold isInstance
 have L5:=looks_findIn (M:=model prog w) X ha
 have L6:Looks (model prog w) h1 (getOf (some (.builtin "object.__class__"))) (some (.builtin "getset_descriptor.__get__")):=looks_specialIn X hn
 have L7:Looks (model prog w) h1 (dataDescriptor? (some (.builtin "object.__class__")) (some (.builtin "getset_descriptor.__get__"))) (some (.builtin "getset_descriptor.__get__",.builtin "object.__class__")):=(looks_takesIn (M:=model prog w) X htk).andThen .now
 repeat (first|with_reducible refine Looks.at L0 ?_|with_reducible refine Looks.at LB ?_|with_reducible refine Looks.at L3 ?_|with_reducible refine Looks.at L5 ?_|with_reducible refine Looks.at L6 ?_|with_reducible refine Looks.at L7 ?_|wp_step)
 refine zx5 X I hm ?_
 repeat (any_goals (first|assumption|wp_step))
theorem zn2(hga:findIn K (.ref D) "__getattribute__"=some (some (.builtin "BaseException.__getattribute__")))(hgt:findIn K (.ref D) "__getattr__"=some none)(ha:findIn K (.ref D) "__class__"=some (some (.builtin "object.__class__")))
  (hn:specialIn K (.builtin "object.__class__") "__get__"=some (some (.builtin "getset_descriptor.__get__"))) (htk:takesIn K (.builtin "object.__class__")=some true) (hm:mroIn K D (.type "object")=some true) (hb:mroIn K D (.type "BaseException")=some true) (hC:(clsIn K D).isSome=true):KitX K (.ref x) (.ref D) (zj0 x D):=by
 obtain⟨cd,hcD⟩:=Option.isSome_iff_exists.mp hC
 have ho:∃c' d' sl',K.lookup D=some ⟨c',d',.cls cd,sl'⟩:=by
  unfold clsIn at hcD
  split at hcD
  ·rename_i c' d' cd' sl' ho;cases hcD;exact⟨_,_,_,ho⟩
  ·cases hcD
 obtain⟨c',d',sl',ho⟩:=ho
 refine⟨fun _ _ _ I=>oE I,fun _ _ X _=> ?_,fun h tp dd its n sl X htp=> ?_,fun X I k=>zx6 hga hgt ha hn htk hm hb X I k⟩
 ·intro A' Q' E' s' k q
  unfold isType loadHead;exact wpAny_bind (wpAny_loadPart (k _ _ (X _ _ ho)) (wpAny_pure q))
 ·refine Bool.eq_false_iff.mpr fun q=> ?_
  have e:D=tp:=Value.ref.inj (beq_iff_eq.mp q)
  subst e
  have z:=(X _ _ ho).symm.trans htp;cases z
end
open PySem PySem.Spec PyProof.Rows
section
variable{X:Cx}{pins:tzB}{σ:St}{H:Hp}{s:Shared}
theorem Inv.swap{h':Heap}{t':Nat}{σ':St}{m':tzA}(I:Inv X pins σ H s)(hs:Heap.SameBut X.env.locals s.heap h')(hn:h'.Ns X.env.locals m')(hl:σ'.length=X.N.length)
  (hv:∀(i:Nat) (x:Str) (v:V),X.N[i]? =some x->σ'[i]? =some (some v)->Vis X.env.scope x->∃u,dQ v u/\xb1 X.env h' m' x u):Inv X pins σ' H {s with heap:=h',toks:=t'}:=by
 have ne:∀b o,X.s₀.heap.get? b=some o->b≠X.env.locals:=fun b o e=>Nat.ne_of_lt (Nat.lt_of_lt_of_le (Heap.lt_size e) I.ok.above)
 have cell:∀{c:Addr} {v:Option Value},c≠X.env.locals->s.heap.IsCell c v->h'.IsCell c v:=fun {c v} n ⟨o,q1,q2⟩=>⟨o,(hs.2 c n).trans q1,q2⟩
 refine⟨I.ok,I.os,I.bare,⟨fun b o e n hb hx=>(hs.2 b (ne b o e)).trans (I.base.keep b o e n hb hx),fun b o e n hb hx=> ?_,I.base.free,fun b o e hx=> ?_,I.base.tups,I.base.frzs,I.base.tbls⟩,⟨m',hn,hv⟩,fun y c e=> ?_,I.free,I.freeC,fun p hp=> ?_,I.hok.but fun b o u e q=> ?_,hl⟩
 ·exact(I.base.slot b o e n hb hx).imp fun sl z=>(hs.2 b (ne b o e)).trans z
 ·exact(I.base.there b o e hx).imp fun o' z=>(hs.2 b (ne b o e)).trans z
 ·exact(I.cell y c e).imp fun v z=>cell (I.cne y c e) z
 ·obtain⟨q1,q2,q3,q4⟩:=I.pin p hp
  exact⟨(hs.2 p.1 q3).trans q1,q2,q3,q4⟩
 ·refine(hs.2 b fun z=> ?_).trans q
  rw [z,I.free] at e;cases e
theorem ys6{M:Model}{A:Around}{E:Value->Shared->Prop}{i:Nat}{x:Str}{pos:Pos}{Q:Unit->Shared->Prop}(I:Inv X pins σ H s)(hN:X.N.Nodup)(hi:X.N[i]? =some x)(hk:X.env.kindOf x=some .local)
  (h:∀s',Inv X pins (σ.set i none) H s'->Q () s'):wpAny M A (do bindName X.env x .none;unbindBehindTheSuite X.env x pos) Q E s:=by
 obtain⟨m,hn,hl⟩:=id I.loc
 refine wpAny_nameGoes_keeps hk hn (by rw [I.ok.kind];rfl) fun h' v hn' hs=>h _ (I.swap hs hn' (by rw [List.length_set];exact I.len) fun j y u e1 e2 e3=> ?_)
 have hji:j≠i:=fun z=>by
  subst z
  have:(σ.set j none)[j]? =some (some u):=e2
  rw [List.getElem?_set] at this
  simp at this
 rw [List.getElem?_set_ne (Ne.symm hji)] at e2
 obtain⟨u',r,l⟩:=hl j y u e1 e2 e3
 have hyx:y≠x:=fun z=>by
  subst z
  exact hji ((List.getElem?_inj (List.getElem?_eq_some_iff.mp e1).1 hN).mp (e1.trans hi.symm))
 refine⟨u',r,?_⟩
 rcases l with ⟨hk',hm⟩|⟨hk',c,hc,o,q1,q2⟩
 ·exact .inl ⟨hk',by show(if y=x then v else m y)=_;rw [if_neg hyx];exact hm⟩
 ·exact .inr ⟨hk',c,hc,o,(hs.2 c (I.cne y c hc)).trans q1,q2⟩
end
theorem ys7{K:tz0}{h:Heap}{nm qn:Str}{C N:Addr}{bs bm:List Value}{hdct:Bool}{sn:List Str}{sub:List Value}{ab:Bool}{col:Option Bool}{dd:Option Addr}{k0 k1 k2 k3 k5:Option Value}{newId:String}{v:Value}(X:K.In h)
  (hC:h.get? C=some (excClassObj nm qn C N bs bm hdct sn sub ab col dd k0 k1 k2 k3 k5 newId)) (e:PySem.W.mroIn K C v=some true):(Value.ref C::bm).contains v=true:=by
 unfold PySem.W.mroIn at e
 obtain⟨cd,hc,e⟩:=Option.bind_eq_some_iff.mp e
 unfold PySem.W.clsIn at hc
 split at hc
 ·rename_i ho
  cases hc
  have z:=X _ _ ho
  rw [hC] at z
  cases z
  split at e
  ·cases e
  ·exact Option.some.inj e
 ·cases hc
section
variable{M:Model}{A:Around}{E:Value->Shared->Prop}
theorem zh3{h:Heap}{g:Array GenState}{d:Drawn}{t:Nat}{os:OsState}{e:Addr}{oe:Obj}{Q:Bool->Shared->Prop}
  {nm qn:Str} {C N:Addr} {bs bm:List Value} {hdct:Bool} {sn:List Str} {sub:List Value} {ab:Bool} {col:Option Bool} {dd:Option Addr} {k0 k1 k2 k3 k5:Option Value} {newId:String}
  {nm2 qn2:Str} {C2 N2:Addr} {bs2 bm2:List Value} {hdct2:Bool} {sn2:List Str} {sub2:List Value} {ab2:Bool} {col2:Option Bool} {dd2:Option Addr} {j0 j1 j2 j3 j5:Option Value} {newId2:String}
  (hC:h.get? C=some (excClassObj nm qn C N bs bm hdct sn sub ab col dd k0 k1 k2 k3 k5 newId)) (hC2:h.get? C2=some (excClassObj nm2 qn2 C2 N2 bs2 bm2 hdct2 sn2 sub2 ab2 col2 dd2 j0 j1 j2 j3 j5 newId2))
  (he:h.get? e=some oe) (hcls:oe.cls= .ref C) (hbase:bm2.contains (.type "BaseException")=true) (hup:(Value.ref C::bm).contains (.ref C2)=true)
  (hq:Q true ⟨h,g,d,t,os⟩):wpAny M A (excMatches (.ref e) (.ref C2)) Q E ⟨h,g,d,t,os⟩:=by
 have hcB:(Value.ref C2::bm2).contains (.type "BaseException")=true:=by rw [List.contains_cons,hbase,Bool.or_true]
 have f:=tc_notTuple
 unfold excMatches
 repeat (first|(with_reducible refine wpAny_loadPart_at he ?_;rw [hcls])|with_reducible refine wpAny_loadPart_at hC2 ?_|(with_reducible refine wpAny_isSubtype_exc hC2 ?_;rw [hcB])|(with_reducible refine wpAny_isSubtype_exc hC ?_;rw [hup])|wp_step)
 exact hq
end
def wN(C:Addr)(h:Heap):Prop:=∃bm N nm qn bs hdct sn sub ab col dd k0 k1 k2 k3 k5 nid,h.get? C=some (excClassObj nm qn C N bs bm hdct sn sub ab col dd k0 k1 k2 k3 k5 nid)/\bm.contains (.type "BaseException")=true
theorem wN.keeps{C:Addr}{h h':Heap}(x:wN C h)(k:∀b o,h.get? b=some o->h'.get? b=some o):wN C h':=by
 obtain⟨bm,N,nm,qn,bs,hdct,sn,sub,ab,col,dd,k0,k1,k2,k3,k5,nid,e,hb⟩:=x
 exact⟨bm,N,nm,qn,bs,hdct,sn,sub,ab,col,dd,k0,k1,k2,k3,k5,nid,k _ _ e,hb⟩
section
variable{X:Cx}{C C2:Addr}{pins:tzB}{σ:St}{H1:Hp}{s1 s2:Shared}{E1:XK}{e:Value}
theorem ys8{x n bad:Str}{i j:Nat}{np bp np2 ap p5:Pos}{Q:Flow->Shared->Prop}{E:Value->Shared->Prop}(I:Inv X pins σ H1 s1)(hstk:X.stack=X.env::X.outer)(hf:X.env.frame=some X.env.locals)
  (O:wN C X.base) (O2:wN C2 X.base) (hb2:X.mg x=some (.ref C2)) (up:PySem.W.mroIn X.K C (.ref C2)=some true) (hg:Gl X x)
  (h:CXn X.prog X.w X.base C X.stack H1 s1 E1 e s2) (hN:X.N.Nodup) (hi:X.N[i]? =some n) (hj:X.N[j]? =some bad) (hij:i≠j) (hkn:X.env.kindOf n=some .local) (hkb:X.env.kindOf bad=some .local)
  (k:∀ea oe s' H',E1 (.ref C) oe.dict H'->oe.cls= .ref C->(∃ws,oe.data= .fields ws)->Inv X (pins++[(ea,oe)]) (((σ.set i (some (.ref ea))).set j (some (.ref ea))).set i none) H' s'->Q .next s')
  (hd:(x==("__debug__":Str))=false:=by decide) (hdn:(n==("__debug__":Str))=false:=by decide) (hsw:swapsWith (.Name n np2) (some (.Name bad bp)) ap.line X.env=pure false:=by rfl):
  wpAny (model X.prog X.w) X.A (noteFrame e X.env) (fun _ s3=>wpAny (model X.prog X.w) X.A (setFlight e none) (fun _ s4=>wpAny (model X.prog X.w) X.A (handleBy e X.env [.ExceptHandler (some (.Name x np)) (some n) [.Assign [.Name bad bp] (.Name n np2) ap] p5]) Q E s4) E s3) E s2:=by
 obtain⟨ea,T,a0,dd,H2,rfl,os,bare,un,hok,fly,kd,q0⟩:=h
 rw [hstk] at un fly
 have hfr:X.A.frames=some (X.env::X.outer):=by rw [<-hstk];exact I.ok.frames
 refine ye7 (L:=X.env.locals) hfr hf fly.flying kd fun h4 held4 ups4 kd4=> ?_
 refine yz4 held4 kd4 fun h5 held ups5 kd5=> ?_
 have kp5:∀b o,X.base.get? b=some o->h5.get? b=some o:=fun b o z=>held.1 b o (fly.base_in b o z)
 obtain⟨ob,hob,hobc⟩:=held.there
 obtain⟨bm,N,nm,qn,bs,hdct,sn,sub,ab,col,dd',k0,k1,k2,k3,k5,nid,hC,_⟩:=O.keeps kp5
 obtain⟨bm2,N2,nm2,qn2,bs2,hdct2,sn2,sub2,ab2,col2,dd2,j0,j1,j2,j3,j5,nid2,hC2,hbb⟩:=O2.keeps kp5
 refine wpAny_handleBy_cons (codeAny_handlers_test (Calls.Name_function_global I.ok.kind hg (Calls.loadGlobal_global (by rw [I.ok.glob];exact I.ok.mod.glob.keeps kp5) hb2 ?_) hd)) (by intro q;cases q)
 refine zh3 hC hC2 hob hobc hbb (ys7 (I.ok.mod.kin.keeps kp5) hC up) (codeAny_handlers_suite_as ?_)
 refine ys5 held kd5 fun h6 fl6 ups6 kd6=> ?_
 have ups:s2.heap.UpToSlots h6:=(ups4.trans ups5).trans ups6
 have st:(PySem.W.hideAll s2.heap ([ea,T]++frs (X.env::X.outer))).StaysIn h6:=fl6.1
 have stk:∀b∈frs (X.env::X.outer),H2 b=none:=fun b m=>by
  have m':b∈frs X.stack:=by rw [hstk];exact m
  obtain⟨_,o,q1,_⟩:=I.stack.mem m'
  exact un.free b o q1 (I.stkFree b m') (by simp)
 have u2:=un.mono (fs':=frs (X.env::X.outer)) (ex':=[ea,T]) (fun b m=>m) (fun b m=>absurd m (by simp))
 have u3:Un (frs (X.env::X.outer)) [ea,T] H2 H2 s2.heap h6:=zb5 fly.fr ups st
 have u6:Un (frs X.stack) [] H1 H2 s1.heap h6:=by
  rw [hstk]
  refine zb6 (u2.trans u3) (fun b o z m=> ?_) (fun _ _ _ m=>m)
  rcases List.mem_cons.mp m with y|m
  ·rw [y,fly.ne] at z;cases z
  ·rw [List.mem_singleton.mp m,fly.nT] at z;cases z
 have hok6:HOk X.prog X.w H2 h6:=xJ hok (fun b m=>by
  rcases List.mem_cons.mp m with z|m
  ·rw [z];exact fly.He
  ·rw [List.mem_singleton.mp m];exact fly.HT) stk st
 have I6:Inv X pins σ H2 {s2 with heap:=h6}:=I.call' (s':={s2 with heap:=h6}) os u6 hok6 bare (fun _ m=>absurd m (by simp))
 obtain⟨oe,ws,hoe,hoec,hoed,hoe0⟩:=fl6.first
 obtain⟨oe',kq,kd7⟩:=kd6
 rw [hoe] at kq;cases kq
 subst kd7
 have nl:ea≠X.env.locals:=fun z=>by
  have:=I.lt
  obtain⟨m,⟨o,_,_,q,_⟩,_⟩:=I.loc
  rw [<-z,fly.ne] at q;cases q
 have nf:ea∉X.fs:=fun z=>by
  obtain⟨_,o,q,_⟩:=I.funs.mem z
  rw [fly.ne] at q;cases q
 have I7:Inv X (pins++[(ea,oe)]) σ H2 {s2 with heap:=h6}:=I6.pins_of fun p hp=>(List.mem_append.mp hp).elim (fun z=>I6.pin p (List.mem_append_right _ z)) fun z=>by
  rw [List.mem_singleton.mp z]
  exact⟨hoe,fly.He,nl,nf,fun v q=>by rw [hoed] at q;cases q⟩
 refine sR I7 hN hi (.inl hkn) (v:= .ref ea) rfl (fun s7 I8=> ?_) (.inr hkn)
 have hil:i<σ.length:=by rw [I.len];exact(List.getElem?_eq_some_iff.mp hi).1
 have en:(σ.set i (some (.ref ea)))[i]? =some (some (.ref ea)):=List.getElem?_set_self hil
 obtain⟨m8,hn8,hl8⟩:=id I8.loc
 obtain⟨u8,r8,l8⟩:=hl8 i n _ hi en (.inl hkn)
 have eu:u8= .ref ea:=r8
 subst eu
 have hm8:m8 n=some (.ref ea):=by
  rcases l8 with ⟨_,q⟩|⟨q,_⟩
  ·exact q
  ·rw [hkn] at q;rcases q with q|q<;>cases q
 refine wpAny_execs_cons (wpAny_Assign_Name (wpAny_Name (wpAny_loadName_local I.ok.kind hkn hn8 hm8 ?_) hdn) hsw)
 refine sR I8 hN hj (.inl hkb) (v:= .ref ea) rfl (fun s9 I9=> ?_) (.inr hkb)
 refine wpAny_execs_nil ?_
 exact ys6 I9 hN hi hkn fun s10 I10=>k ea oe s10 H2 q0 hoec ⟨ws,hoed⟩ I10
end
structure KExc(K:tz0)(C:Addr):Prop where
 ga:PySem.W.findIn K (.ref C) "__getattribute__"=some (some (.builtin "BaseException.__getattribute__"))
 gt:PySem.W.findIn K (.ref C) "__getattr__"=some none
 a:PySem.W.findIn K (.ref C) "__class__"=some (some (.builtin "object.__class__"))
 n:PySem.W.specialIn K (.builtin "object.__class__") "__get__"=some (some (.builtin "getset_descriptor.__get__"))
 t:PySem.W.takesIn K (.builtin "object.__class__")=some true
 m:PySem.W.mroIn K C (.type "object")=some true
 b:PySem.W.mroIn K C (.type "BaseException")=some true
 c:(PySem.W.clsIn K C).isSome=true
section
variable{X:Cx}{C ea:Addr}{oe:Obj}
theorem yf0(hp:(ea,oe)∈X.pn)(hc:oe.cls= .ref C)(k:KExc X.K C):gB X (.builtin "isinstance") (fun xs H Q=>∃c b,xs=[.ref ea,c]/\(∀u,dQ c u->PySem.W.kitOne X.K (.ref C) u=some b)/\Q (.bl b) H):=by
 intro pins s σ H xs us Q I r h
 obtain⟨c,b,rfl,e,q⟩:=h
 cases r with
 | cons r1 r2=>cases r2 with
  | cons r3 r4=>cases r4 with
   |nil=>
    cases r1
    exact PySem.W.kia_one (zn2 k.ga k.gt k.a k.n k.t k.m k.b k.c) I.kIn ⟨oe,(I.pin (ea,oe) (List.mem_append_left _ hp)).1,hc⟩ (e _ r3) (by intro z;cases z) fun tk=>⟨.bl b,H,I.tok tk,rfl,q⟩
theorem yf1(hp:(ea,oe)∈X.pn)(hc:oe.cls= .ref C)(k:KExc X.K C):gB X (.builtin "isinstance") (fun xs H Q=>∃tp its b,xs=[.ref ea,.ref tp]/\H tp=some (.tup its)/\(∀us,cV its us->PySem.W.kitAny X.K (.ref C) us=some b)/\Q (.bl b) H):=by
 intro pins s σ H xs us Q I r h
 obtain⟨tp,its,b,rfl,ht,e,q⟩:=h
 cases r with
 | cons r1 r2=>cases r2 with
  | cons r3 r4=>cases r4 with
   |nil=>
    cases r1;cases r3
    obtain⟨_,vs,rv,o,h1,h2,n,h3⟩:=(show fL X.prog X.w H s.heap tp (.tup its) from I.hok tp _ ht)
    obtain⟨c1,d1,e1,s1⟩:=o
    cases h2;cases h3
    exact PySem.W.kia_tup (zn2 k.ga k.gt k.a k.n k.t k.m k.b k.c) I.kIn ⟨oe,(I.pin (ea,oe) (List.mem_append_left _ hp)).1,hc⟩ h1 (e _ rv) (by intro z;cases z) fun tk=>⟨.bl b,H,I.tok tk,rfl,q⟩
end
def Cx.pinned(X:Cx)(ea:Addr)(oe:Obj):Cx:={X with pn:=X.pn++[(ea,oe)]}
section
variable{X:Cx}{pins:tzB}{σ:St}{H:Hp}{s:Shared}{ea:Addr}{oe:Obj}
theorem Inv.toPin(I:Inv X (pins++[(ea,oe)]) σ H s):Inv (X.pinned ea oe) pins σ H s:=
 ⟨⟨I.ok.mod,I.ok.kind,I.ok.glob,I.ok.blt,I.ok.above,I.ok.inj,I.ok.has,I.ok.cab,I.ok.hd,I.ok.frames,I.ok.stk,I.ok.exf,I.ok.bs,I.ok.bsz,I.ok.noex,I.ok.exfs,I.ok.funs,I.ok.frf⟩,I.os,I.bare,I.base,I.loc,I.cell,I.free,I.freeC,fun p hp=>I.pin p (by
  rcases List.mem_append.mp hp with h|h
  ·rcases List.mem_append.mp h with h|h
   ·exact List.mem_append_left _ h
   ·exact List.mem_append_right _ (List.mem_append_right _ h)
  ·exact List.mem_append_right _ (List.mem_append_left _ h)),I.hok,I.len⟩
theorem Inv.ofPin(I:Inv (X.pinned ea oe) pins σ H s):Inv X pins σ H s:=
 ⟨⟨I.ok.mod,I.ok.kind,I.ok.glob,I.ok.blt,I.ok.above,I.ok.inj,I.ok.has,I.ok.cab,I.ok.hd,I.ok.frames,I.ok.stk,I.ok.exf,I.ok.bs,I.ok.bsz,I.ok.noex,I.ok.exfs,I.ok.funs,I.ok.frf⟩,I.os,I.bare,I.base,I.loc,I.cell,I.free,I.freeC,fun p hp=>I.pin p (by
  rcases List.mem_append.mp hp with h|h
  ·exact List.mem_append_left _ (List.mem_append_left _ h)
  ·exact List.mem_append_right _ h),I.hok,I.len⟩
theorem SP.ofPin{D:Ends}{f:Flow}(h:SP (X.pinned ea oe) pins D f s):SP X pins D f s:=by
 cases f with
 |next=>obtain⟨σ',H',I,q⟩:=h;exact⟨σ',H',I.ofPin,q⟩
 |brk=>obtain⟨σ',H',I,q⟩:=h;exact⟨σ',H',I.ofPin,q⟩
 |cont=>obtain⟨σ',H',I,q⟩:=h;exact⟨σ',H',I.ofPin,q⟩
 |ret u=>obtain⟨v,σ',H',I,r,q⟩:=h;exact⟨v,σ',H',I.ofPin,r,q⟩
end
def rP(j:Nat)(ea:Addr)(b:Bool):TE:=fun σ H Q=>σ[j]? =some (some (.ref ea))/\∀H',SameK H H'->Q (.bl b) H'
theorem sG{X:Cx}{ea:Addr}{oe:Obj}:(ea,oe)∈(X.pinned ea oe).pn:=List.mem_append_right _ (List.mem_singleton.mpr rfl)
section
variable{Y:Cx}{C ea:Addr}{oe:Obj}{j:Nat}{bad:Str}{p bp pos:Pos}{b:Bool}
theorem wC{c:Expr}{cv:V}(hp:(ea,oe)∈Y.pn)(hc:oe.cls= .ref C)(k:KExc Y.K C)(hgi:Gl Y "isinstance")(hmi:Y.mg "isinstance"=none)(hN:Y.N[j]? =some bad)(hv:Vis Y.env.scope bad)(hcl:PE Y c (tC cv))(ho:∀u,dQ cv u->PySem.W.kitOne Y.K (.ref C) u=some b)
  (hd:(bad==("__debug__":Str))=false:=by decide) (hcd:(bad==("__classdict__":Str))=false:=by decide)
  (he:starEach [.Name bad bp,c] Y.env=(false,eval (.Name bad bp) Y.env)::starEach [c] Y.env:=by rfl) (he2:starEach [c] Y.env=(false,eval c Y.env)::starEach [] Y.env:=by rfl) (hpl:(backTo pos (starEach [c] Y.env)).any (·.1)=false:=by rfl):
  PE Y (.Call (.Name "isinstance" p) [.Name bad bp,c] [] pos) (rP j ea b):=
 (nJ (yf0 hp hc k) hgi hmi rfl (gD (jX hN hv hd hcd) (gD hcl kY he2) he) (by decide) (by decide) he hpl).imp fun σ H Q h=>⟨.ref ea,h.1,cv,b,rfl,ho,h.2 H (.refl H)⟩
theorem xK{c1 c2:Expr}{v1 v2:V}{tp:Pos}{ctx:Nat}(hp:(ea,oe)∈Y.pn)(hc:oe.cls= .ref C)(k:KExc Y.K C)(hgi:Gl Y "isinstance")(hmi:Y.mg "isinstance"=none)(hN:Y.N[j]? =some bad)(hv:Vis Y.env.scope bad)(h1:PE Y c1 (tC v1))(h2:PE Y c2 (tC v2))(ho:∀us,cV [v1,v2] us->PySem.W.kitAny Y.K (.ref C) us=some b)
  (hd:(bad==("__debug__":Str))=false:=by decide) (hcd:(bad==("__classdict__":Str))=false:=by decide)
  (he:starEach [.Name bad bp,.Tuple [c1,c2] ctx tp] Y.env=(false,eval (.Name bad bp) Y.env)::starEach [.Tuple [c1,c2] ctx tp] Y.env:=by rfl) (he2:starEach [.Tuple [c1,c2] ctx tp] Y.env=(false,eval (.Tuple [c1,c2] ctx tp) Y.env)::starEach [] Y.env:=by rfl)
  (he3:starEach [c1,c2] Y.env=(false,eval c1 Y.env)::starEach [c2] Y.env:=by rfl) (he4:starEach [c2] Y.env=(false,eval c2 Y.env)::starEach [] Y.env:=by rfl) (hpl:(backTo pos (starEach [.Tuple [c1,c2] ctx tp] Y.env)).any (·.1)=false:=by rfl):
  PE Y (.Call (.Name "isinstance" p) [.Name bad bp,.Tuple [c1,c2] ctx tp] [] pos) (rP j ea b):=
 (nJ (yf1 hp hc k) hgi hmi rfl (gD (jX hN hv hd hcd) (gD (yc5 (gD h1 (gD h2 kY he4) he3)) kY he2) he) (by decide) (by decide) he hpl).imp fun σ H Q h=>
  ⟨.ref ea,h.1,⟨show 2<=sizeLine from Nat.le_trans (by decide) (qX (n:=2) (by decide)),fun a ha=>⟨a,[v1,v2],b,rfl,by unfold upd;rw [if_pos rfl],ho,h.2 _ (.new ha _)⟩⟩⟩
end
section
variable{P:Program}{w:World}{A:Around}{E:Value->Shared->Prop}{h:Heap}{g:Array GenState}{d:Drawn}{t:Nat}{os:OsState}{nm q:Str}{C N:Addr}{bs bm bmB:List Value}{hdct ab:Bool}{sn:List Str}{sub:List Value}
 {col:Option Bool} {dd:Option Addr} {k0 k1 k2 k3 k5:Option Value} {B newId initId:String}
abbrev oP(h:Heap)(C:Addr)(bY:List Value):Heap:=(h.push {cls:= .type "tuple",data:= .seq bY.toArray}).push {cls:= .ref C,data:= .fields #[.ref h.objs.size,.none,.none,.none,.bool false,.none]}
theorem mW{b:Addr}{o:Obj}{bY:List Value}(e:h.get? b=some o):(oP h C bY).get? b=some o:=Heap.get?_push_of_some _ (Heap.get?_push_of_some _ e)
theorem zb7(F:ExcBaseFacts B newId initId bmB)(T:OwnTail h bmB bm){mN:tzA}{bY:List Value}{fI:Addr}{oI:Obj}{Q:Fin->Shared->Prop}(hC:h.get? C=some (excClassObj nm q C N bs bm hdct sn sub ab col dd k0 k1 k2 k3 k5 newId))(hn:h.Ns N mN)
  (hi:mN "__init__"=some (.ref fI)) (hf:h.get? fI=some oI) (hk:oI.cls= .type "function")
  (hq:wpAny (model P w) A (call (.ref fI) (.ref (h.objs.size+1)::bY)) (fun r s'=>r= .none/\Q (.done (.ret (.ref (h.objs.size+1)))) s') E ⟨oP h C bY,g,d,t,os⟩) (hr:bY.length<=sizeLine):
  wpAny (model P w) A (Builtin.«type.__call__» ⟨.ref C::bY,[]⟩) Q E ⟨h,g,d,t,os⟩:=by
 repeat (first|with_reducible refine wpAny_loadPart_at hC ?_|with_reducible refine wpAny_madeBy_exc hC ?_|wp_step)
 refine codeAny_call_builtin_code (Code.quiet_builtin _ F.quiet) (wpAny_check_new_subT F T hC (codeAny_exc_new_subT F T hC ?_ hr))
 show wpAny _ _ _ _ _ _
 have c1:(oP h C bY).get? C=_:=mW hC
 have f1:(oP h C bY).get? fI=some oI:=mW hf
 have n1:(oP h C bY).Ns N mN:=hn.keeps fun _ _ e=>mW e
 have t1:=T.keeps (h':=oP h C bY) fun _ _ e=>mW e
 have e1:(oP h C bY).get? (h.objs.size+1)=some {cls:= .ref C,data:= .fields #[.ref h.objs.size,.none,.none,.none,.bool false,.none]}:=by heap_get
 have m1:(Value.ref C::bm).contains (.ref C)=true:=by simp
 unfold isInstance
 repeat (first|with_reducible refine wpAny_loadPart_at e1 ?_|(with_reducible refine wpAny_isSubtype_exc c1 ?_;rw [m1])|wp_step)
 show wpAny _ _ (typeLookup (.ref C) _) _ _ _
 refine wpAny_typeLookup_tail c1 n1 t1 F.mroIs F.init.lookup ?_
 rw [hi]
 refine wpAny_holding (wpAny_bind ?_)
 unfold bindSpecial
 refine wpAny_bind (wpAny_typeOf (T:="function") ⟨_,f1,hk⟩ ?_)
 rw [if_pos (by decide)]
 refine wpAny_pure (wpAny_bind (wpAny_mono hq (fun r s' z=> ?_) fun _ _ x=>x))
 obtain⟨rfl,z⟩:=z
 wp_walk
 exact z
theorem zx7(F:ExcBaseFacts B newId initId bmB)(T:OwnTail h bmB bm){mN:tzA}{bY:List Value}{fI:Addr}{oI:Obj}{Q:Value->Shared->Prop}(hC:h.get? C=some (excClassObj nm q C N bs bm hdct sn sub ab col dd k0 k1 k2 k3 k5 newId))(hn:h.Ns N mN)
  (hi:mN "__init__"=some (.ref fI)) (hf:h.get? fI=some oI) (hk:oI.cls= .type "function")
  (hq:wpAny (model P w) (A.under (.builtin "type.__call__" ⟨.ref C::bY,[]⟩)) (call (.ref fI) (.ref (h.objs.size+1)::bY)) (fun r s'=>r= .none/\Q (.ref (h.objs.size+1)) s') E ⟨oP h C bY,g,d,t,os⟩) (hr:bY.length<=sizeLine):
  wpAny (model P w) A (call (.ref C) bY) Q E ⟨h,g,d,t,os⟩:=by
 have l1:=tc_lookup
 have l2:=tc_bind (.ref C)
 have ty:(⟨h,g,d,t,os⟩:Shared).TypeIs (.ref C) "type":=⟨_,hC,rfl⟩
 refine wpAny_call (codeAny_of_tree ?_)
 show wpAny _ _ (callAny (.ref C) _) _ _ _
 repeat (any_goals (first|assumption|with_reducible refine wpAny_loadPart_at hC ?_|wp_step))
 refine⟨rfl,codeAny_call_builtin_at (Code.quiet_builtin _ (by decide+kernel)) entry_typeCall (wpAny_check_type_call_sub hC (zb7 F T hC hn hi hf hk hq hr))⟩
end
section
variable{M:Model}{A:Around}{E:Value->Shared->Prop}{env:Env}{nm q:Str}{C N:Addr}{bs bm:List Value}{hdct ab:Bool}{sn:List Str}{sub:List Value}{col:Option Bool}{dd:Option Addr}{k0 k1 k2 k3 k5:Option Value}{newId:String}
theorem yf2{s:Shared}{x:Sem Value}{Q:Flow->Shared->Prop}(hb:bm.contains (.type "BaseException")=true)(hh:A.handled=none)
  (h:wpAny M A x (fun v s1=>∃e t dx,v= .ref e/\s1.heap.get? C=some (excClassObj nm q C N bs bm hdct sn sub ab col dd k0 k1 k2 k3 k5 newId)/\s1.heap.get? e=some (mO C dx t)/\E (.ref e) s1) E s):wpAny M A (raiseStmt env (some x) none) Q E s:=by
 have c1:(Value.ref C::bm).contains (.type "BaseException")=true:=by rw [List.contains_cons,hb,Bool.or_true]
 unfold raiseStmt
 refine wpAny_bind (wpAny_mono h (fun v s1 z=> ?_) fun _ _ x=>x)
 obtain⟨e,t,dx,rfl,hC,he,z⟩:=z
 obtain⟨h1,g1,d1,t1,o1⟩:=s1
 repeat (first|with_reducible refine wpAny_loadPart_at he ?_|with_reducible refine wpAny_loadPart_at hC ?_|(with_reducible refine wpAny_isSubtype_exc hC ?_;rw [c1])|wp_step)
 exact wpAny_raiseNew_none hh z
end
section
variable{P:Program}{w:World}{A:Around}{E:Value->Shared->Prop}{s:Shared}{env:Env}{nm q:Str}{C N:Addr}{bs bm bmB:List Value}{hdct ab:Bool}{sn:List Str}{sub:List Value}
 {col:Option Bool} {dd:Option Addr} {k0 k1 k2 k3 k5:Option Value} {B newId initId:String}
theorem zr2(F:ExcBaseFacts B newId initId bmB){mN:tzA}{x:Str}{np cpos pos:Pos}{args:List Expr}{fI:Addr}{oI:Obj}{Q:Flow->Shared->Prop}(hb:bm.contains (.type "BaseException")=true)(hh:A.handled=none)
  (hp:(backTo cpos (starEach args env)).any (·.1)=false) (hi:mN "__init__"=some (.ref fI)) (hk:oI.cls= .type "function")
  (h:wpAny (model P w) A (eval (.Name x np) env) (fun f s1=>f= .ref C/\wpAny (model P w) A (evalArgs (.ref C) true (backTo cpos (starEach args env)) [])
   (fun a s2=>a.kw=[]/\a.pos.length<=sizeLine/\s2.heap.get? C=some (excClassObj nm q C N bs bm hdct sn sub ab col dd k0 k1 k2 k3 k5 newId)/\s2.heap.Ns N mN/\OwnTail s2.heap bmB bm/\s2.heap.get? fI=some oI/\
    wpAny (model P w) (A.under (.builtin "type.__call__" ⟨.ref C::a.pos,[]⟩)) (call (.ref fI) (.ref (s2.heap.objs.size+1)::a.pos)) (fun r s'=>r= .none/\s'.heap.get? C=some (excClassObj nm q C N bs bm hdct sn sub ab col dd k0 k1 k2 k3 k5 newId)/\(∃dx t,s'.heap.get? (s2.heap.objs.size+1)=some (mO C dx t))/\E (.ref (s2.heap.objs.size+1)) s') E {s2 with heap:=oP s2.heap C a.pos}) E s1) E s):
  wpAny (model P w) A (exec (.Raise (some (.Call (.Name x np) args [] cpos)) none pos) env) Q E s:=by
 rw [arm_exec_Raise]
 refine wpAny_bind (wpAny_standAt (yf2 (C:=C) (nm:=nm) (q:=q) (N:=N) (bs:=bs) (bm:=bm) (hdct:=hdct) (sn:=sn) (sub:=sub) (ab:=ab) (col:=col) (dd:=dd) (k0:=k0) (k1:=k1) (k2:=k2) (k3:=k3) (k5:=k5) (newId:=newId) hb hh ?_))
 refine wpAny_bind (wpAny_mono (wpAny_Call_ofName (wpAny_mono h (fun f s1 z=> ?_) fun _ _ x=>x)) (fun v s3 y=>wpAny_bind (wpAny_standAt (wpAny_pure y))) fun _ _ x=>x)
 obtain⟨rfl,z⟩:=z
 unfold callWith
 refine wpAny_bind (wpAny_holding (wpAny_mono z (fun a s2 z2=>wpAny_bind (wpAny_standAt ?_)) fun _ _ x=>x))
 obtain⟨ap,ak⟩:=a
 obtain⟨rfl,hl,hC,hn,T,hf,z2⟩:=z2
 obtain⟨h2,g2,d2,t2,o2⟩:=s2
 simp only [hp]
 refine wpAny_bind (wpAny_keeperOf_exc hC ?_)
 refine wpAny_bind (zx7 F T hC hn hi hf hk (wpAny_mono z2 (fun r s' y=> ?_) fun _ _ x=>x) hl)
 obtain⟨rfl,y1,⟨dx,t',y2⟩,y3⟩:=y
 exact⟨rfl,wpAny_bind (wpAny_holding (wpAny_point (wpAny_pure ⟨_,t',dx,rfl,y1,y2,y3⟩)))⟩
end
def ExN(E:XK)(C:Addr):Int->Hp->Prop:=fun n H'=>∀D,H' D=some (.xd [("at",.int n)])->E (.ref C) (some D) H'
def tN(φ:Fx)(fx:PSt->Option Int)(Ex:Int->Hp->Prop):TS:=fun _ σ H=>∃ps F n,RS φ H σ ps F/\fx ps=some n/\∀H',Frm F H H'->Ex n H'
def tNe(φ:Fx)(fx:PSt->Option Int)(Ex:Int->Hp->Prop):TE:=fun σ H _=>∃ps F n,RS φ H σ ps F/\fx ps=some n/\∀H',Frm F H H'->Ex n H'
def rQ(np:Nat)(K:tz0)(κ:tz9)(C:Addr)(g:List D->Option Int):Sp:=fun vs H _ E=>vs.length=np/\∃ds fp n,Reps K κ H vs ds fp/\g ds=some n/\∀H',SameK H H'->ExN E C n H'
def yD(np:Nat)(K:tz0)(κ:tz9)(m:Nat->Bool)(C:Addr)(g:List D->Option Int):Sp:=fun vs H _ E=>vs.length=np/\∃ds F n,ds.length=np/\RS (fxE K κ np m) H (vs.map some) (ds.map some) F/\g ds=some n/\∀H',Frm F H H'->ExN E C n H'
def gN(np n:Nat)(fx:PSt->Option Int):List D->Option Int:=fun ds=>if ds.length=np then fx (ds.map some++List.replicate n none) else none
def oQ(f:tz1)(fx:PSt->Option Int):PSt->Option Int:=fun ps=>match f ps with
 |some (.nx,p)=>fx p
 |_=>none
def vL(ft:tz4)(fx:PSt->Option Int):PSt->Option Int:=fun ps=>match ft ps with
 |some true=>fx ps
 |_=>none
def uJ(f g:PSt->Option Int):PSt->Option Int:=fun ps=>match f ps with
 |some n=>some n
 |none=>g ps
def zU(d:D):Option Int:=match d with
 | .int n=>if n.natAbs.log2<1920 then some n else none
 |_=>none
def nV(fa:tz2):PSt->Option Int:=fun ps=>(fa ps).bind zU
def uK(C m:Str)(fo:tz2)(g:List D->Option Int):PSt->Option Int:=fun ps=>match dA C m fo ps with
 |some d=>g [d]
 |none=>none
def oR(C m:Str)(g:List D->Option Int)(ys:List D):D->Option Int:=fun d=>match d with
 | .obj true C' ns vs=>if C'=C/\cL ns m=none then g (.obj true C' ns vs::ys) else none
 |_=>none
def pK(h:List D->D->Option Int)(ys:List D):D->Option (Int×D):=fun d=>(h ys d).bind fun n=>some (n,d)
def wO(j:Nat)(pf:PSt->Option (List Ps1))(ga:tz3)(h:List D->D->Option Int):PSt->Option Int:=fun ps=>match (ps[j]?).join with
 | some d0=>match pf ps with
  |some p=>match ga ps with
   |some ys=>(bV (pK h ys) d0 p).bind fun r=>some r.1
   |none=>none
  |none=>none
 |none=>none
def gL(i:Nat)(f:tz1)(fx:PSt->Option Int):List D->PSt->Option Int
 |[],_=>none
 | d::ds,ps=>match fx (ps.set i (some d)) with
  |some n=>some n
  |none=>match f (ps.set i (some d)) with
   |some (.nx,p)=>gL i f fx ds p
   |some (.ct,p)=>gL i f fx ds p
   |_=>none
def rG(i:Nat)(fi:tz3)(f:tz1)(fx:PSt->Option Int):PSt->Option Int:=fun ps=>match fi ps with
 |some ds=>gL i f fx ds ps
 |none=>none
theorem wW{C m:Str}{g:List D->Option Int}{ys:List D}{d d':D}{n:Int}(h:pK (oR C m g) ys d=some (n,d')):∃ns vs,d= .obj true C ns vs/\cL ns m=none/\g (d::ys)=some n:=by
 obtain⟨k,h1,h2⟩:=bind_some h
 cases h2
 unfold oR at h1
 split at h1
 ·obtain⟨⟨rfl,h4⟩,h3⟩:=dU h1
  exact⟨_,_,rfl,h4,h3⟩
 ·cases h1
theorem zx8{j:Nat}{pf:PSt->Option (List Ps1)}{ga:tz3}{h:List D->D->Option Int}{ps:PSt}{n:Int}(e:wO j pf ga h ps=some n):∃d0 p ys d1,ps[j]? =some (some d0)/\pf ps=some p/\ga ps=some ys/\bV (pK h ys) d0 p=some (n,d1):=by
 unfold wO at e
 split at e
 ·rename_i d0 h0
  split at e
  ·rename_i p hp
   split at e
   ·rename_i ys hy
    obtain⟨⟨n',d1⟩,hr,e⟩:=bind_some e
    cases e
    exact⟨d0,p,ys,d1,iR h0,hp,hy,hr⟩
   ·cases e
  ·cases e
 ·cases e
abbrev QN(X:Cx)(κ:tz9)(φ:F0)(Ex:Int->Hp->Prop)(st:Stmt)(fx:PSt->Option Int):Prop:=PS X st (tN (φ.fx X.K κ) fx Ex)
abbrev QNs(X:Cx)(κ:tz9)(φ:F0)(Ex:Int->Hp->Prop)(st:List Stmt)(fx:PSt->Option Int):Prop:=PSs X st (tN (φ.fx X.K κ) fx Ex)
abbrev QNe(X:Cx)(κ:tz9)(φ:F0)(Ex:Int->Hp->Prop)(e:Expr)(fx:PSt->Option Int):Prop:=PE X e (tNe (φ.fx X.K κ) fx Ex)
section
variable{P:Program}{w:World}{K:tz0}{mg:tzA}{base:Heap}{κ:tz9}{C:Addr}
theorem wD{x qual:Str}{st:Stmt}{f:Addr}{fd:FuncData}{N ps:List Str}{k:Nat}{fx:PSt->Option Int}(F:Fun K x qual st f fd)(S:FnScope N ps (aY st))
  (hbody:∀(cdv:Value) (A:Around) (outer:List Env) (s:Shared) (H:Hp) (E:XK) (B:Nat->Addr->Prop),Room k (A.deeper (envOfC qual (aY st) s.heap.objs.size f cdv))->
   QNs (gG (CXn P w base C) P w K mg base N qual (aY st) f cdv A outer s H E) κ (f0P ps.length B) (ExN E C) (dF st) fx):
  FnOk P w K mg base (CXn P w base C) (k+1) f fd ps (rQ ps.length K κ C (gN ps.length (N.length-ps.length) fx)):=by
 obtain⟨oc,od,kV,doc,pm,an,cdv,ct,osl,rfl,lk,hcd⟩:=F.ex
 refine zi2 lk hcd S (fun vs H Q E h=>h.1) fun A outer s H vs Q E hr hsp=> ?_
 obtain⟨hl,ds,fp,n,r,e,q⟩:=hsp
 have hn:ps.length<=N.length:=by have:=congrArg List.length S.pre;rw [List.length_take] at this;omega
 exact⟨_,hbody cdv A outer s H E (fun _ a=>a∈fp) hr,_,fun _=>[],n,RS.start r hl hn,(dU e).2,fun H' fr=>q H' (ye9 fr)⟩
theorem zb8{x qual:Str}{st:Stmt}{f:Addr}{fd:FuncData}{N ps:List Str}{k:Nat}{fx:PSt->Option Int}{m:Nat->Bool}(F:Fun K x qual st f fd)(S:FnScope N ps (aY st))
  (hbody:∀(cdv:Value) (A:Around) (outer:List Env) (s:Shared) (H:Hp) (E:XK),Room k (A.deeper (envOfC qual (aY st) s.heap.objs.size f cdv))->
   QNs (gG (CXn P w base C) P w K mg base N qual (aY st) f cdv A outer s H E) κ (f0E ps.length m) (ExN E C) (dF st) fx):
  FnOk P w K mg base (CXn P w base C) (k+1) f fd ps (yD ps.length K κ m C (gN ps.length (N.length-ps.length) fx)):=by
 obtain⟨oc,od,kV,doc,pm,an,cdv,ct,osl,rfl,lk,hcd⟩:=F.ex
 refine zi2 lk hcd S (fun vs H Q E h=>h.1) fun A outer s H vs Q E hr hsp=> ?_
 obtain⟨hl,ds,F0,n,hd,R,e,q⟩:=hsp
 have hn:ps.length<=N.length:=by have:=congrArg List.length S.pre;rw [List.length_take] at this;omega
 have R0:=R.more (σ2:=List.replicate (N.length-vs.length) none) (n:=N.length-ps.length) (by simp [hl,hd]) (by simp [hl])
 exact⟨_,hbody cdv A outer s H E hr,_,F0,n,R0,(dU e).2,q⟩
end
section
variable{X:Cx}{κ:tz9}{φ:F0}{Ex:Int->Hp->Prop}{fx fy:PSt->Option Int}{st:Stmt}{bY l:List Stmt}{pos:Pos}
theorem sH{f:tz1}(h1:QS X.nox κ φ st f)(h2:QNs X κ φ Ex bY fx):QNs X κ φ Ex (st::bY) (oQ f fx):=
 (jG (PS.nox h1) h2).imp fun D σ H hh_=>by
  obtain⟨ps,F,n,R,e,q⟩:=hh_
  unfold oQ at e
  split at e
  ·rename_i p he
   exact⟨ps,F,.nx,p,R,he,fun σ' H' F' s=>⟨p,F',n,s.rs,e,fun H'' fr=>q H'' (s.frm fr)⟩⟩
  ·cases e
theorem mX(h1:QN X κ φ Ex st fx):QNs X κ φ Ex (st::bY) fx:=(jG h1 rD).imp fun D σ H h=>h
theorem zi7{c:Expr}{a b:List Stmt}{ft:tz4}(hc:QT X.nox κ c ft)(ha:QNs X κ φ Ex a fx):QN X κ φ Ex (.If c a b pos) (vL ft fx):=
 (yI (PT.nox hc) ha rD).imp fun D σ H hh_=>by
  obtain⟨ps,F,n,R,e,q⟩:=hh_
  unfold vL at e
  split at e
  ·rename_i he
   refine⟨ps,true,R.ws,he,fun H' s=> ?_⟩
   show(if true=true then tN (φ.fx X.K κ) fx Ex D σ H' else _)
   rw [if_pos rfl]
   exact⟨ps,F,n,R.same s,e,fun H'' fr=>q H'' ⟨fun a o h k n=>fr.keep a o (s.keep a o h k) k n,fun a z=>s.grow a (fr.grow a z)⟩⟩
  ·cases e
theorem yz6(h1:QNs X κ φ Ex l fx)(h2:QNs X κ φ Ex l fy):QNs X κ φ Ex l (uJ fx fy):=fun pins s σ H D I h=>by
 obtain⟨ps,F,n,R,e,q⟩:=h
 unfold uJ at e
 split at e
 ·rename_i n' e'
  cases e
  exact h1 pins s σ H D I ⟨ps,F,n,R,e',q⟩
 ·exact h2 pins s σ H D I ⟨ps,F,n,R,e,q⟩
theorem xL{f:tz1}(h1:QN X κ φ Ex st fx)(hs:QS X.nox κ φ st f)(h2:QNs X κ φ Ex bY fy):QNs X κ φ Ex (st::bY) (uJ fx (oQ f fy)):=yz6 (mX h1) (sH hs h2)
theorem zb9{e:Expr}(he:QNe X κ φ Ex e fx)(hs:swapsWith e none pos.line X.env=pure false:=by rfl):QN X κ φ Ex (.Expr e pos) fx:=(zs3 he hs).imp fun _ _ _ h=>h
def xf6(φ:Fx)(σ:St)(H:Hp)(F:Nat->List Addr)(i:Nat)(f:tz1)(fx:PSt->Option Int)(ds:List D)(n:Int)(k m:Nat)(σ1:St)(H1:Hp):Prop:=k<=ds.length/\m=ds.length-k/\∃ps1 F1,Stp φ σ H F σ1 H1 ps1 F1/\gL i f fx (ds.drop k) ps1=some n
theorem yf3{φ:Fx}{f:tz1}{E:Ends}{σ:St}{H:Hp}{F:Nat->List Addr}{ps:PSt}{ds:List D}{J:It}{Z:List Addr}{i:Nat}{n:Int}(R:RS φ H σ ps F)(hz:∀a∈Z,H a≠none/\∀i,a∉F i)(W:Walk φ.K φ.κ J Z H ds)(hb:φ.bor i=false)(hm:φ.M i=false)
  (e:gL i f fx ds ps=some n) (q:∀H',Frm F H H'->Ex n H'):∃V:Nat->Nat->St->Hp->Prop,(∃m,V 0 m σ H)/\∀k m σ H,V k m σ H->yp7 J E V (oM i) (fun D σ H=>tS φ f D σ H\/tN φ fx Ex D σ H) k m σ H:=by
 refine⟨xf6 φ σ H F i f fx ds n,⟨_,Nat.zero_le _,rfl,ps,F,.refl R,by rw [List.drop_zero];exact e⟩,?_⟩
 rintro k m σ1 H1 ⟨hk,rfl,ps1,F1,s1,e1⟩
 have kp:rN Z H H1:=s1.fr.kept R fun a ha=>(hz a ha).2
 by_cases hlt:k<ds.length
 ·right
  have ed:ds[k]? =some ds[k]:=List.getElem?_eq_getElem hlt
  obtain⟨hgo,hy⟩:=W.go H1 kp k _ ed
  rw [List.drop_eq_getElem_cons hlt,gL] at e1
  have set1:∀x H',J.yld k H1 x H'->∃F2,Stp φ σ H F (σ1.set i (some x)) H' (ps1.set i (some ds[k])) F2:=fun x H' y=>by
   obtain⟨rfl,rx⟩:=hy x H' y
   obtain⟨F2,s2⟩:=(Stp.refl s1.rs).set (i:=i) (fv:=[]) (v:=x) (d:=ds[k]) ⟨fun _ h=>absurd h (by simp),List.nodup_nil,fun _ _ _ h=>absurd h (by simp)⟩ s1.rs rx (.inl hb) hm
   exact⟨F2,s1.trans s2⟩
  split at e1
  ·rename_i n' e0
   cases e1
   refine⟨hgo,fun _ _=>False,fun _ _ h=>h.elim,fun x H' y=> ?_⟩
   obtain⟨F2,s12⟩:=set1 x H' y
   exact .inr ⟨_,F2,n,s12.rs,e0,fun H'' fr=>q H'' (s12.frm fr)⟩
  ·split at e1
   ·rename_i p2 e2
    refine⟨hgo,fun σ' H'=>∃F',Stp φ σ H F σ' H' p2 F'/\gL i f fx (ds.drop (k+1)) p2=some n,fun σ' H' ⟨F',s,e⟩=>⟨ds.length-(k+1),by omega,hlt,rfl,p2,F',s,e⟩,fun x H' y=> ?_⟩
    obtain⟨F2,s12⟩:=set1 x H' y
    exact .inl ⟨_,F2,.nx,p2,s12.rs,e2,fun σ' H' F' s=>⟨F',s12.trans s,e1⟩⟩
   ·rename_i p2 e2
    refine⟨hgo,fun σ' H'=>∃F',Stp φ σ H F σ' H' p2 F'/\gL i f fx (ds.drop (k+1)) p2=some n,fun σ' H' ⟨F',s,e⟩=>⟨ds.length-(k+1),by omega,hlt,rfl,p2,F',s,e⟩,fun x H' y=> ?_⟩
    obtain⟨F2,s12⟩:=set1 x H' y
    exact .inl ⟨_,F2,.ct,p2,s12.rs,e2,fun σ' H' F' s=>⟨F',s12.trans s,e1⟩⟩
   ·cases e1
 ·rw [List.drop_eq_nil_of_le (Nat.le_of_not_lt hlt),gL] at e1
  cases e1
theorem zc0(i j:Nat){body:List Stmt}{f:tz1}{x y:Str}{px py:Pos}(hp:PassesOwn (model X.prog X.w) X.A X.env X.xe)(hc:X.calm=true)(hN:X.N.Nodup)(hi:X.N[i]? =some x)(hx:Loc X.env.scope x)(hb:φ.bor i=false)(hm:φ.M i=false)(hj:φ.bor j=true)
  (hbd:QSs X.nox κ φ body f) (hbx:QNs X κ φ Ex body fx) (hNj:X.N[j]? =some y:=by rfl) (hv:Vis X.env.scope y:=by first|exact Or.inl rfl|exact Or.inr (Or.inl rfl)|exact Or.inr (Or.inr rfl)) (hd:(y==("__debug__":Str))=false:=by decide)
  (hcd:(y==("__classdict__":Str))=false:=by decide) (hs:∀x,foldedSetIterable (.Name y py) X.env x=pure x:=by intro _;rfl) (hf:X.fn x=true\/X.env.scope.names.lookup x=some .local:=by first|exact .inl rfl|exact .inr rfl|assumption):
  QN X κ φ Ex (.For (.Name x px) (.Name y py) body [] pos) (rG i (dI (aB j)) f fx):=
 (zj9 hp hc (ye2 (jX hNj hv hd hcd)) (kX hN hi hx hf) (yz5 (t:=tS (φ.fx X.K κ) f) (PSs.nox hbd) hbx) hs).imp fun E σ H hh_=>by
 obtain⟨ps,F,n,R,e,q⟩:=hh_
 unfold rG at e
 split at e
 ·rename_i ds e1
  obtain⟨d,e3,e4⟩:=bind_some e1
  obtain⟨v,fp,h1,h2,_,h4⟩:=R.rep j d (iR e3)
  refine⟨v,h1,?_⟩
  refine zt5 (R:=xc6 (oM i) (fun D σ H=>tS (φ.fx X.K κ) f D σ H\/tN (φ.fx X.K κ) fx Ex D σ H) E σ) h2 e4 fun J Z hz W=> ?_
  exact yf3 R (fun a ha=>⟨R.bt j a (h4 hj a (hz a ha)),fun k hk=>R.nb k a hk j (h4 hj a (hz a ha))⟩) W hb hm e q
 ·cases e
end
section
variable{P:Program}{w:World}{K:tz0}{mg:tzA}{base:Heap}{N:List Str}{qual:Str}{scope:Scope}{f C:Addr}{cd:Value}{A:Around}{outer:List Env}{s:Shared}{H:Hp}{E:XK}{κ:tz9}{φ:F0}
theorem zc1{Cn m qual':Str}{st:Stmt}{ps:List Str}{fm:Addr}{fd:FuncData}{k:Nat}{g:List D->Option Int}{o:Expr}{fo:tz2}{apos pos pos':Pos}{pl:Sem Bool}(M:Mn K κ Cn m qual' st ps fm fd)(G:FnOk P w K mg base (CXn P w base C) k fm fd ps (rQ 1 K κ C g))
  (hr:Room k (A.deeper (envOfC qual scope s.heap.objs.size f cd))) (ho:QV (gG (CXn P w base C) P w K mg base N qual scope f cd A outer s H E).nox κ o fo)
  (ht:eval (.Call (.Attribute o m apos) [] [] pos) (envOfC qual scope s.heap.objs.size f cd)=(do
   let ov<-eval o (envOfC qual scope s.heap.objs.size f cd)
   standAt apos.atName
   let (f',first)<-holding [ov] (getMethod ov m pl)
   callWith pos f' first (backTo pos (starEach [] (envOfC qual scope s.heap.objs.size f cd))) (backToKw pos (keywordEach [] (envOfC qual scope s.heap.objs.size f cd)))):=by rfl):
  QN (gG (CXn P w base C) P w K mg base N qual scope f cd A outer s H E) κ φ (ExN E C) (.Return (some (.Call (.Attribute o m apos) [] [] pos)) pos') (uK Cn m fo g):=
 (qF (wZ (X:=gG (CXn P w base C) P w K mg base N qual scope f cd A outer s H E) (PE.nox ho) M.c M.h G hr M.b .nil yp1 ht)).imp fun D σ H1 hh_=>by
  obtain⟨ps,F,n,R,e,q⟩:=hh_
  unfold uK at e
  split at e
  ·rename_i d he
   obtain⟨ns,vs,rfl,k5,k6⟩:=tJ he
   refine⟨ps,_,R.ws,k5,fun v H2 fp s1 r1=> ?_⟩
   have r1':=r1
   obtain⟨_,_,_,_,rfl,hl,hn,hs,rfl⟩:=r1.objT_inv
   subst hn
   exact⟨_,_,_,rfl,hl,lX k6,rfl,_,_,n,Reps.one r1',e,fun H' s2=>q H' ⟨fun a o h kk _=>(s1.trans s2).keep a o h kk,(s1.trans s2).grow⟩⟩
  ·cases e
theorem zc2{Cn m qual':Str}{st:Stmt}{ps:List Str}{fm:Addr}{fd:FuncData}{k np j:Nat}{mk:Nat->Bool}{g:List D->Option Int}{o e:Expr}{es:List Expr}{as:List Arg}{pf:PSt->Option (List Ps1)}{apos pos:Pos}{pl:Sem Bool}(M:Mn K κ Cn m qual' st ps fm fd)(G:FnOk P w K mg base (CXn P w base C) k fm fd ps (yD np K κ mk C g))
  (hr:Room k (A.deeper (envOfC qual scope s.heap.objs.size f cd))) (hb:φ.bor j=false) (ho:PE (gG (CXn P w base C) P w K mg base N qual scope f cd A outer s H E).nox o (iJ K κ j pf)) (ha:PA (gG (CXn P w base C) P w K mg base N qual scope f cd A outer s H E).nox (e::es) (tIO K κ as)) (has:rF as=true) (hnp:np=as.length+1) (hm:mk=jP)
  (hst:starEach (e::es) (envOfC qual scope s.heap.objs.size f cd)=(false,eval e (envOfC qual scope s.heap.objs.size f cd))::starEach es (envOfC qual scope s.heap.objs.size f cd):=by rfl) (hpl:(backTo pos (starEach es (envOfC qual scope s.heap.objs.size f cd))).any (·.1)=false:=by rfl)
  (ht:eval (.Call (.Attribute o m apos) (e::es) [] pos) (envOfC qual scope s.heap.objs.size f cd)=(do
   let ov<-eval o (envOfC qual scope s.heap.objs.size f cd)
   standAt apos.atName
   let (f',first)<-holding [ov] (getMethod ov m pl)
   callWith pos f' first (backTo pos (starEach (e::es) (envOfC qual scope s.heap.objs.size f cd))) (backToKw pos (keywordEach [] (envOfC qual scope s.heap.objs.size f cd)))):=by rfl):
  QNe (gG (CXn P w base C) P w K mg base N qual scope f cd A outer s H E) κ φ (ExN E C) (.Call (.Attribute o m apos) (e::es) [] pos) (wO j pf (cI as) (oR Cn m g)):=
 (za1 (X:=gG (CXn P w base C) P w K mg base N qual scope f cd A outer s H E) (PE.nox ho) M.c M.h G hr M.b .nil yp1 (PA.nox ha) hst hpl ht).imp fun σ H0 Q hh_=>by
 obtain⟨ps,F,n,R,e,q⟩:=hh_
 obtain⟨d0,pp,ys,d0',e0,ep,eg,em⟩:=zx8 e
 obtain⟨dd,dn,gp,hh⟩:=mI em
 refine⟨ps,pp,d0,dd,R.ws,e0,ep,gp,fun v H1 v0 s1 ev a1=> ?_⟩
 obtain⟨ns,vs,rfl,hn,_⟩:=wW hh
 obtain⟨fdd,rd⟩:=vY R.ws s1 e0 ev gp a1
 obtain⟨_,_,_,_,rfl,hl,hk,hs,rfl⟩:=rd.objT_inv
 subst hk
 refine⟨_,_,_,rfl,hl,lX hn,ps,ys,R.ws.same s1,eg,fun us H2 s2 a2=> ?_⟩
 show yD np K κ mk C g (_::(us++[])) H2 Q E
 rw [List.append_nil]
 have ry:=a2.reps has
 have hly:np=ys.length+1:=by rw [hnp,a2.len.2]
 subst hly hm
 obtain⟨d1,d1',fd1,m1,m2,m3,m4,_⟩:=rZ R (s1.trans s2) hb e0 ev em (a1.same s2)
 obtain⟨_,_,_,_,eg1⟩:=wW m2
 refine⟨by rw [List.length_cons,ry.length],_,pX fd1,n,by simp,tK m1 m3 ry,eg1,fun H' fr=>q H' ⟨fun a o h kk n=>fr.keep a o ((s1.trans s2).keep a o h kk) kk fun i hi=>n j (m4 a (lH hi).2),fun a z=>(s1.trans s2).grow a (fr.grow a z)⟩⟩
end
end L2
namespace L2
section
open PySem PySem.W PySem.Calls PyProof.Rows Builtin Builtin.ObjectAttr Builtin.Getset_descriptor
variable{prog:Program}{w:World}{A:Around}{E:Value->Shared->Prop}{K:tz0}{x C:Addr}{name:Str}
theorem zr3{self:Value}{h:Heap}{bmB:List Value}(hp:refuseLoop self "__setattr__" bmB=pure ()){l:List Value}(T:OwnTail h bmB l):refuseLoop self "__setattr__" l=pure ():=by
 induction T with
 |base=>exact hp
 |own _ _ _ _ ih=>rw [refuseLoop_ref];exact ih
theorem yl4{h:Heap}{g:Array GenState}{d:Drawn}{t:Nat}{os:OsState}{nm q:Str}{N tx:Addr}{bs bm bmB:List Value}{ab:Bool}{sn:List Str}{sub:List Value}{col:Option Bool}{dd:Option Addr}{k0 k1 k2 k3 k5:Option Value}{B newId sa owner:String}{v:Value}{Q:Unit->Shared->Prop}
  (SF:StoreFacts B bmB sa owner) (T:OwnTail h bmB bm) (X:K.In h) (hC:h.get? C=some (excClassObj nm q C N bs bm true sn sub ab col dd k0 k1 k2 k3 k5 newId)) (hfs:findIn K (.ref C) "__setattr__"=some (some (.builtin sa))) (hfn:findIn K (.ref C) name=some none) (hx:h.get? x=some (mO C none tx))
  (hq:∀h' tk' mA,h'.get? x=some (mO C (some h.objs.size) tx)->h'.Ns1 h.objs.size mA->(∀y,mA y=if y=name then some v else none)->(∀b o,b≠x->h.get? b=some o->h'.get? b=some o)->Q () ⟨h',g,d,tk',os⟩):
  wpAny (model prog w) A (setAttr (.ref x) name v) Q E ⟨h,g,d,t,os⟩:=by
 obtain⟨o,ho⟩:∃o,o=mO C none tx:=⟨_,rfl⟩
 have e1:o.cls= .ref C:=by rw [ho]
 have e2:o.dict=none:=by rw [ho]
 have e3:o.data= .fields #[.ref tx,.none,.none,.none,.bool false,.none]:=by rw [ho]
 have e4:({cls:=o.cls,dict:=some h.objs.size,data:=o.data,slots:=o.slots}:Obj)=mO C (some h.objs.size) tx:=by rw [ho]
 rw [<-ho] at hx
 clear ho
 have f3:=SF.slot.bind (.ref x)
 have LS:=looks_findIn (M:=model prog w) X hfs
 have LN:=looks_findIn (M:=model prog w) X hfn
 have c1:(Value.ref C::bm).contains (.type owner)=true:=by rw [List.contains_cons,T.hasType SF.hasOwner,Bool.or_true]
 have hpass:refuseLoop (.ref x) "__setattr__" bm=pure ():=zr3 (SF.passes (.ref x)) T
 have L0:=oE (M:=model prog w) (x:=x) (D:=C) (h:=h) ⟨_,hx,e1⟩
 unfold setAttr callSpecial? specialOf
 repeat (any_goals (first|assumption|(with_reducible refine wpAny_loadPart_at hx ?_;rw [e1])|with_reducible refine Looks.at LS ?_|wp_step))
 have hsub:Looks (model prog w) h (isSubtype (.ref C) (.type owner)) true:=fun A' Q' E' s' k q'=>by
  obtain⟨h1,g1,d1,t1,o1⟩:=s'
  exact wpAny_isSubtype_exc (k _ _ hC) (by rw [c1];exact q')
 refine codeAny_call_builtin SF.slot.plain SF.entry (@check_slot (model prog w) _ _ ⟨h,g,d,t+1,os⟩ sa owner "__setattr__" (.ref x) [.str name t,v] [] _ SF.kind SF.split (L0.andThen hsub) (SF.args (.ref x) (.str name t) v) ?_)
 unfold Builtin.«object.__setattr__»
 repeat (first|rw [refuse_eq]|(rw [refuseLoop_ref,hpass])|(with_reducible refine wpAny_loadPart_at hx ?_;rw [e1])|with_reducible refine wpAny_mroOf_exc hC ?_|with_reducible refine Looks.at LN ?_|wp_step)
 rw [e2,if_neg (by simp [typeHasDict])]
 split
 ·rename_i z;cases z
 split
 ·rename_i c z;rw [e3] at z;cases z
 have x1:(h.push {cls:= .type "dict",data:= .dict #[]}).get? x=some o:=Heap.get?_push_of_some _ hx
 have xs:x≠h.objs.size:=Nat.ne_of_lt (Heap.lt_size hx)
 refine wpAny_bind (wpAny_alloc' (wpAny_bind (wpAny_update' x1 (wpAny_pure ?_))))
 have g1:((h.push {cls:= .type "dict",data:= .dict #[]}).update x fun o=>{cls:=o.cls,dict:=some h.objs.size,data:=o.data,slots:=o.slots}).get? h.objs.size=some {cls:= .type "dict",data:= .dict #[]}:=(Heap.get?_update_ne _ _ _ _ xs.symm).trans (Heap.get?_push_at rfl rfl)
 have n1:((h.push {cls:= .type "dict",data:= .dict #[]}).update x fun o=>{cls:=o.cls,dict:=some h.objs.size,data:=o.data,slots:=o.slots}).Ns h.objs.size (fun _=>none):=⟨_,#[],_,g1,rfl,fun e he=>absurd he (by simp),fun _=>rfl⟩
 show wpAny _ _ (storeInDict h.objs.size (.str name t) name v) _ _ _
 unfold storeInDict newKeyGuard
 refine wpAny_bind (wpAny_pure (wpAny_bind (wpAny_nsSet1 (Heap.Ns1.of_empty n1) fun h' hn' hs=> ?_)))
 obtain⟨oD,esD,epD,hoD,hdD,hcD⟩:=hn'.count (Within.cons name v Within.nil)
 refine wpAny_bind (wpAny_lookBehind hoD (by rw [hdD];exact pastItsLine_dict (Nat.le_trans hcD (by rw [List.length_cons,List.length_nil,sizeLine_eq];omega))) ?_)
 wp_walk
 refine hq h' _ _ ?_ hn' (fun y=>rfl) fun b ob nb hb=>(hs.2 b (Nat.ne_of_lt (Heap.lt_size hb))).trans ((Heap.get?_update_ne _ _ _ _ nb).trans (Heap.get?_push_of_some _ hb))
 rw [<-e4]
 refine(hs.2 x xs).trans (Heap.get?_update_self _ x1 ?_)
 have fr:=(Heap.get?_some_iff.mp hx).2
 obtain⟨oc,od,odt,osl⟩:=o
 cases odt<;>first|rfl|exact fr
theorem zx9{M:Model}{h:Heap}{D:Addr}{ox:Obj}{cd:ClassData}{mA:tzA}(X:K.In h)(hx:h.get? x=some ox)(hc:ox.cls= .ref C)(hno:notCls ox=true)(hd:ox.dict=some D)(hcd:clsIn K C=some cd)(hdd:cd.hasDict=true)(hn:h.Ns D mA):Looks M h (inOwnDict name (.ref x)) (mA name):=by
 intro A Q E s k q
 have L:=looks_clsIn (M:=M) X hcd
 obtain⟨oc,odi,oda,osl⟩:=ox
 dsimp only at hc hd
 subst hc hd
 have body:wpAny M A (instanceDict x false) (fun a s'=>wpAny M A (inDict name a) Q E s') E s:=by
  unfold instanceDict
  refine wpAny_bind (wpAny_loadPart (k _ _ hx) ?_)
  dsimp only
  refine wpAny_bind (L A _ E s k ?_)
  rw [hdd]
  exact wpAny_pure (a:=some D) (wpAny_nsGet (hn.keeps k) q)
 refine wpAny_bind (wpAny_bind (wpAny_loadPart (k _ _ hx) ?_))
 cases oda<;>first|exact body|cases hno
theorem yl5{s:Shared}{D:Addr}{ox:Obj}{cd:ClassData}{mA:tzA}{v:Value}{expr:Bool}{Q:Value->Shared->Prop}(hga:findIn K (.ref C) "__getattribute__"=some (some (.builtin "BaseException.__getattribute__")))(hgt:findIn K (.ref C) "__getattr__"=some none)(ha:findIn K (.ref C) name=some none)(hb:mroIn K C (.type "BaseException")=some true)
  (X:K.In s.heap) (hx:s.heap.get? x=some ox) (hc:ox.cls= .ref C) (hno:notCls ox=true) (hd:ox.dict=some D) (hcd:clsIn K C=some cd) (hdd:cd.hasDict=true) (hn:s.heap.Ns D mA) (hm:mA name=some v) (hh:handedIn v=true) (h:Q v {s with toks:=s.toks+1}):wpAny (model prog w) A (getAttr (.ref x) name expr) Q E s:=by
 obtain⟨h1,g1,d1,t1,o1⟩:=s;have L0:=oE (M:=model prog w) (x:=x) (D:=C) (h:=h1) ⟨_,hx,hc⟩;have L1:=looks_findIn (M:=model prog w) X hga
 have LO:=zx9 (M:=model prog w) (name:=name) X hx hc hno hd hcd hdd hn
 rw [hm] at LO
 have LA:=looks_findIn (M:=model prog w) X ha
 have L3:Looks (model prog w) h1 (find (.ref x) (.ref C) name) (.value v):=LA.andThen (Looks.now.andThen (Looks.now.andThen (LO.andThen (Looks.tag .now))))
 have L4:=looks_findIn (M:=model prog w) X hgt
 have FB:=PySem.F.excAttr_ValueError
 have f3:=FB.ga.bind (.ref x)
 have hx2:(Value.builtin "BaseException.__getattribute__"==Value.builtin "object.__getattribute__")=false:=by decide+kernel
 have hx1:(onTheHeap (Value.ref C)&&Value.builtin "BaseException.__getattribute__"==Value.builtin "object.__getattribute__")=false:=by rw [hx2];rfl
 have ho:=handedOut_of hh
 unfold getAttr getAttrBy
 repeat (any_goals (first|assumption|with_reducible refine Looks.at L0 ?_|with_reducible refine Looks.at L1 ?_|with_reducible refine Looks.at L4 ?_|wp_step))
 have hex:(expr&&onTheHeap (Value.builtin "BaseException.__getattribute__"))=false:=Bool.and_false _
 rw [hex,if_neg Bool.false_ne_true]
 unfold boundAndCalled
 repeat (any_goals (first|assumption|with_reducible refine Looks.at L0 ?_|with_reducible refine Looks.at L1 ?_|with_reducible refine Looks.at L4 ?_|wp_step))
 refine codeAny_call_builtin FB.ga.plain F.entry_bexc_ga ?_
 have hk:builtinKind "BaseException.__getattribute__"=some .slot:=by decide+kernel
 have hsplit:splitId "BaseException.__getattribute__"=some ("BaseException","__getattribute__"):=by decide+kernel
 have LB:=looks_mroIn (M:=model prog w) X hb
 have ha2:=F.args_bexc_ga (.ref x) (.str name t1)
 refine @check_slot (model prog w) _ _ ⟨h1,g1,d1,t1+1,o1⟩ "BaseException.__getattribute__" "BaseException" "__getattribute__" (.ref x) [.str name t1] [] _ hk hsplit (L0.andThen LB) ha2 ?_
 repeat (first|with_reducible refine Looks.at L0 ?_|with_reducible refine Looks.at LB ?_|with_reducible refine Looks.at L3 ?_|with_reducible refine Looks.at LA ?_|with_reducible refine Looks.at LO ?_|wp_step)
 exact h
end
open PySem PySem.Spec PyProof.Rows
def qU(C e:Addr):HO:= .ext fun h=>∃t,h.get? e=some (mO C none t)
def pL(C e D:Addr):HO:= .ext fun h=>∃t,h.get? e=some (mO C (some D) t)
def del(H:Hp)(x:Addr):Hp:=fun b=>if b=x then none else H b
theorem zn3{H:Hp}{x:Addr}:del H x x=none:=by unfold del;rw [if_pos rfl]
theorem oF{H:Hp}{x b:Addr}(h:b≠x):del H x b=H b:=by unfold del;rw [if_neg h]
theorem yl6{H:Hp}{x:Addr}{o:HO}(h:H x=some o):upd H x o=H:=by
 funext b
 by_cases q:b=x
 ·subst q;rw [eT,h]
 ·rw [dW q]
section
variable{P:Program}{w:World}{fs ex:List Addr}{H H1:Hp}{h h1:Heap}{x:Addr}{o:HO}{φ:Heap->Prop}
theorem HOk.del(ok:HOk P w H h)(hx:H x=some (.ext φ)):HOk P w (del H x) h:=fun b o e=>by
 have nb:b≠x:=fun z=>by rw [z,zn3] at e;cases e
 rw [oF nb] at e
 refine(ok b o e).stay (fun c u _ q=>q) (fun c q=> ?_) (fun c xs q=> ?_)
 ·rw [oF (yo5 q hx (by intro z;cases z))];exact q
 ·rw [oF (yo5 q hx (by intro z;cases z))];exact q
theorem Un.del(u:Un fs ex H H1 h h1)(n1:H x=none):Un fs ex H (del H1 x) h h1:=
 ⟨u.keep,u.slot,fun b o q n hx=>by
  have z:=u.free b o q n hx
  unfold L2.del
  split
  ·rfl
  ·exact z,u.there,fun b xs q=>by rw [oF (gK q n1)];exact u.tups b xs q,fun b o xs q=>by rw [oF (gK q n1)];exact u.frzs b o xs q,fun b ps q=>by rw [oF (gK q n1)];exact u.tbls b ps q⟩
theorem HOk.add(ok:HOk P w H h)(hn:H x=none)(new:fL P w (upd H x o) h x o):HOk P w (upd H x o) h:=fun b u e=>by
 by_cases hb:b=x
 ·subst hb;rw [eT] at e;cases e;exact new
 ·rw [dW hb] at e
  exact(ok b u e).stay (fun c v _ q=>q) (fun c q=>by rw [dW (gK q hn)];exact q) fun c xs q=>by rw [dW (gK q hn)];exact q
theorem Un.add(u:Un fs ex H H1 h h1)(n0:h.get? x=none)(n1:H x=none):Un fs ex H (upd H1 x o) h h1:=
 ⟨u.keep,u.slot,fun b ob q n hx=>by rw [dW fun z=>by rw [z,n0] at q;cases q];exact u.free b ob q n hx,u.there,fun b xs q=>by rw [dW (gK q n1)];exact u.tups b xs q,fun b o xs q=>by rw [dW (gK q n1)];exact u.frzs b o xs q,fun b ps q=>by rw [dW (gK q n1)];exact u.tbls b ps q⟩
end
def yi2(C:Addr):Sp:=fun vs H Q _=>∃e n,vs=[.ref e,.int n]/\H e=some (qU C e)/\n.natAbs.log2<1920/\∀D,H D=none->D≠e->Q .non (upd (upd H e (pL C e D)) D (.xd [("at",.int n)]))
structure NumCls(K:tz0)(C fI:Addr)(base:Heap):Prop where
 obj:∃bm N nm q bs sn sub ab col dd k0 k1 k2 k3 k5 mN,base.get? C=some (excClassObj nm q C N bs bm true sn sub ab col dd k0 k1 k2 k3 k5 "ValueError.__new__")/\base.Ns N mN/\mN "__init__"=some (.ref fI)/\OwnTail base bmV bm
 fn:∃oI,base.get? fI=some oI/\oI.cls= .type "function"
 sa:PySem.W.findIn K (.ref C) "__setattr__"=some (some (.builtin "object.__setattr__"))
 at_:PySem.W.findIn K (.ref C) "at"=some none
structure BaseInit(K:tz0)(LE:Addr):Prop where
 ga:PySem.W.specialIn K (.ref LE) "__getattribute__"=some (some (.builtin "type.__getattribute__"))
 rd:PySem.W.readsIn K LE (.type "type")=true
 fc:PySem.W.findCls K (.ref LE) (.type "type") "__init__"=some (.val (.builtin "ValueError.__init__"))
section
variable{X:Cx}{C LE fI:Addr}{le z:Str}{p1 p2 p3 p4 p5 p6 ap cp ep q1 q2 q3 q4:Pos}{j:Nat}{pl:Sem Bool}
theorem yl7(hg:Gl X le)(hm:X.mg le=some (.ref LE))(B:BaseInit X.K LE)(O:NumCls X.K C fI X.base)(hN0:X.N[0]? =some ("self":Str))(hN1:X.N[1]? =some ("at":Str))(hv0:Vis X.env.scope "self")(hv1:Vis X.env.scope "at")(hz:decide (z.length<=2000)=true:=by decide+kernel)(hd:(le==("__debug__":Str))=false:=by decide)
  (ht:eval (.Call (.Attribute (.Name le p1) "__init__" ap) [.Name "self" p2,.JoinedStr [.Constant (.str z) j p3,.FormattedValue (.Name "at" p4) (-1) none p5] p6] [] cp) X.env=(do
   let ov<-eval (.Name le p1) X.env
   standAt ap.atName
   let (f',first)<-holding [ov] (getMethod ov "__init__" pl)
   callWith cp f' first (backTo cp (starEach [.Name "self" p2,.JoinedStr [.Constant (.str z) j p3,.FormattedValue (.Name "at" p4) (-1) none p5] p6] X.env)) (backToKw cp (keywordEach [] X.env))):=by rfl)
  (hs:swapsWith (.Call (.Attribute (.Name le p1) "__init__" ap) [.Name "self" p2,.JoinedStr [.Constant (.str z) j p3,.FormattedValue (.Name "at" p4) (-1) none p5] p6] [] cp) none ep.line X.env=pure false:=by rfl):
  PS X (.Expr (.Call (.Attribute (.Name le p1) "__init__" ap) [.Name "self" p2,.JoinedStr [.Constant (.str z) j p3,.FormattedValue (.Name "at" p4) (-1) none p5] p6] [] cp) ep)
   (fun D σ H=>∃e n,σ[0]? =some (some (.ref e))/\σ[1]? =some (some (.int n))/\H e=some (qU C e)/\n.natAbs.log2<1920/\D.nx σ H):=by
 intro pins s σ H D I h
 obtain⟨e,n,s0,s1,he,hn,q⟩:=h
 refine wpAny_Expr_any ?_ I.quiet hs
 rw [ht]
 refine wpAny_bind (oY I hg hm ?_ hd)
 refine wpAny_bind (wpAny_standAt (wpAny_bind (wpAny_holding ?_)))
 refine PySem.W.method_cls I.kIn B.ga (PySem.W.cls_value I.kIn B.rd B.fc rfl ?_)
 refine PyProof.Rows.callWith_builtin1 ?_ rfl rfl
 have I1:=I.tok (s.toks+1)
 refine Calls.spliced_cons (thn (jX hN0 hv0 rfl rfl pins _ σ H (fun v H'=>v= .ref e/\H'=H) I1 ⟨_,s0,rfl,rfl⟩) fun u s2 hu=> ?_)
 obtain⟨v,H1,I2,r1,rfl,rfl⟩:=hu
 cases r1
 have hz':=of_decide_eq_true hz
 have hsl:sizeLine=16777216:=sizeLine_eq
 have h0:Str.empty.length=0:=rfl
 refine Calls.spliced_cons (JoinedStr_many (pos:=p6) ?_)
 show wpAny _ _ (joinParts Str.empty (eval (.Constant (.str z) j p3) X.env::evalEach [.FormattedValue (.Name "at" p4) (-1) none p5] X.env)) _ _ _
 refine joinParts_cons (Calls.Constant_str (k:=j) (pos:=p3) ⟨by rw [strLen_append];omega,?_⟩)
 show wpAny _ _ (joinParts _ (eval (.FormattedValue (.Name "at" p4) (-1) none p5) X.env::evalEach [] X.env)) _ _ _
 refine joinParts_cons (FormattedValue_plain (thn (jX hN1 hv1 rfl rfl pins _ σ H1 (fun v H'=>v= .int n/\H'=H1) (I2.tok _) ⟨_,s1,rfl,rfl⟩) fun u s3 hu=> ?_))
 obtain⟨v,H2,I3,r2,rfl,rfl⟩:=hu
 obtain⟨t,rfl⟩:=r2
 refine formatField_int_small hn ?_
 have hs1:(toString n).length<=1920+1:=int_text_length_le (by decide) hn
 have hs2:(Str.ofString (toString n)).length<=1921:=by rw [PySem.ofString_length];exact hs1
 refine⟨by rw [strLen_append,strLen_append];omega,joinParts_nil (Calls.spliced_nil ?_) (by rw [strLen_append,strLen_append];omega)⟩
 obtain⟨bm,N',nm,qn,bs,sn,sub,ab,col,dd,k0,k1,k2,k3,k5,mN,hC,_,_,T⟩:=O.obj
 have I4:=I3.tok (s3.toks+1+1)
 obtain⟨h3,g3,d3,t3,o3⟩:=s3
 have kp:∀b o,X.base.get? b=some o->h3.get? b=some o:=I3.bk
 obtain⟨⟨t0,hx⟩,_,st⟩:=(show fL X.prog X.w H2 h3 e (qU C e) from I3.hok e _ he)
 refine wpAny_call (codeAny_call_builtin PySem.F.excBase_ValueError.init.plain PySem.F.excBase_ValueError.initEntry (wpAny_check_init_subT PySem.F.excBase_ValueError (T.keeps kp) (kp _ _ hC) hx rfl ?_))
 wp_walk
 have hx3:((h3.push {cls:= .type "tuple",data:= .seq #[Value.str (Str.empty++z++Str.ofString (toString n)) (t3+1+1)]}).update e (Obj.mapFields fun x=>x.setIfInBounds 0 (Value.ref h3.objs.size))).get? e=some (mO C none h3.objs.size):=by
  rw [Heap.get?_update_self _ (Heap.get?_push_of_some _ hx) rfl];rfl
 have kb:∀b u,b≠e->h3.get? b=some u->((h3.push {cls:= .type "tuple",data:= .seq #[Value.str (Str.empty++z++Str.ofString (toString n)) (t3+1+1)]}).update e (Obj.mapFields fun x=>x.setIfInBounds 0 (Value.ref h3.objs.size))).get? b=some u:=fun b u nb w=>(Heap.get?_update_other _ _ (Ne.symm nb)).trans (Heap.get?_push_of_some _ w)
 have mu:Mut (H2 e):=by rw [he];trivial
 have I5:=fun tk=>I3.write (t':=tk) (o:=qU C e) mu (.inl rfl) kb ⟨_,hx3⟩ ⟨⟨_,hx3⟩,⟨_,hx3⟩,fun a b ⟨t,z⟩ k=>⟨t,k _ z⟩⟩
 rw [yl6 he] at I5
 exact(show SP X pins D .next _ from⟨σ,H2,I5 _,q⟩)
theorem ys9(O:NumCls X.K C fI X.base)(hN0:X.N[0]? =some ("self":Str))(hN1:X.N[1]? =some ("at":Str))(hv0:Vis X.env.scope "self")(hv1:Vis X.env.scope "at")(hs:swapsWith (.Name "at" q3) (some (.Attribute (.Name "self" q1) "at" q2)) q4.line X.env=pure false:=by rfl):
  PS X (.Assign [.Attribute (.Name "self" q1) "at" q2] (.Name "at" q3) q4)
   (fun D σ H=>∃e n,σ[0]? =some (some (.ref e))/\σ[1]? =some (some (.int n))/\H e=some (qU C e)/\∀Da,H Da=none->Da≠e->D.nx σ (upd (upd H e (pL C e Da)) Da (.xd [("at",.int n)]))):=by
 intro pins s σ H D I h
 obtain⟨e,n,s0,s1,he,q⟩:=h
 refine plainObj_wpAny_Assign_Attribute (thn (jX hN1 hv1 rfl rfl pins s σ H (fun v H'=>v= .int n/\H'=H) I ⟨_,s1,rfl,rfl⟩) fun u s2 hu=> ?_) hs
 obtain⟨v,H1,I1,r1,rfl,rfl⟩:=hu
 obtain⟨t,rfl⟩:=r1
 refine thn (jX hN0 hv0 rfl rfl pins s2 σ H1 (fun v H'=>v= .ref e/\H'=H1) I1 ⟨_,s0,rfl,rfl⟩) fun ov s3 hu=> ?_
 obtain⟨v,H2,I2,r2,rfl,rfl⟩:=hu
 cases r2
 obtain⟨bm,N',nm,qn,bs,sn,sub,ab,col,dd,k0,k1,k2,k3,k5,mN,hC,_,_,T⟩:=O.obj
 obtain⟨h3,g3,d3,t3,o3⟩:=s3
 have kp:∀b o,X.base.get? b=some o->h3.get? b=some o:=I2.bk
 obtain⟨⟨t0,hx⟩,_,st⟩:=(show fL X.prog X.w H2 h3 e (qU C e) from I2.hok e _ he)
 refine yl4 PySem.F.store_ValueError (T.keeps kp) I2.kIn (kp _ _ hC) O.sa O.at_ hx fun h' tk mA hx' hns hmA kb=> ?_
 have fr:H2 h3.objs.size=none:=I2.hok.fresh (Nat.le_refl _)
 have ne:h3.objs.size≠e:=fun z=>by rw [<-z,fr] at he;cases he
 have mu:Mut (H2 e):=by rw [he];trivial
 have hok1:HOk X.prog X.w (upd H2 e (pL C e h3.objs.size)) h':=I2.hok.write mu (.inl rfl) kb ⟨_,hx'⟩ ⟨⟨t0,hx'⟩,⟨_,hx'⟩,fun a b ⟨t,z⟩ k=>⟨t,k _ z⟩⟩
 have hok2:HOk X.prog X.w (upd (upd H2 e (pL C e h3.objs.size)) h3.objs.size (.xd [("at",.int n)])) h':=hok1.add (by rw [dW ne];exact fr) ⟨mA,hns,fun f=>by
  rw [hmA f]
  by_cases z:f="at"
  ·subst z;exact⟨t,rfl⟩
  ·rw [if_neg z]
   show kR (match f==("at":Str) with|true=>some (V.int n)|false=>none) none
   rw [beq_eq_false_iff_ne.mpr z];trivial⟩
 have un2:Un X.fs [] H2 (upd (upd H2 e (pL C e h3.objs.size)) h3.objs.size (.xd [("at",.int n)])) h3 h':=(Un.write mu (.inl rfl) kb ⟨_,hx'⟩).add (Heap.get?_none_of_le (Nat.le_refl _)) fr
 exact⟨σ,_,I2.un (t':=tk) un2 hok2,q _ fr ne⟩
end
section
variable{P:Program}{w:World}{K:tz0}{mg:tzA}{base:Heap}{C LE f:Addr}{le z x qual:Str}{p1 p2 p3 p4 p5 p6 ap cp ep q1 q2 q3 q4:Pos}{j k:Nat}{st:Stmt}{fd:FuncData}
theorem yt0(F:Fun K x qual st f fd)(S:FnScope ["self","at"] ["self","at"] (aY st))(hb:dF st=[.Expr (.Call (.Attribute (.Name le p1) "__init__" ap) [.Name "self" p2,.JoinedStr [.Constant (.str z) j p3,.FormattedValue (.Name "at" p4) (-1) none p5] p6] [] cp) ep,.Assign [.Attribute (.Name "self" q1) "at" q2] (.Name "at" q3) q4])
  (hm:mg le=some (.ref LE)) (B:BaseInit K LE) (O:NumCls K C f base) (hg:(aY st).names.lookup le=some .globalImplicit) (hz:decide (z.length<=2000)=true) (hd:(le==("__debug__":Str))=false)
  (ht:∀(L:Addr) (cdv:Value),∃pl,eval (.Call (.Attribute (.Name le p1) "__init__" ap) [.Name "self" p2,.JoinedStr [.Constant (.str z) j p3,.FormattedValue (.Name "at" p4) (-1) none p5] p6] [] cp) (envOfC qual (aY st) L f cdv)=(do
   let ov<-eval (.Name le p1) (envOfC qual (aY st) L f cdv)
   standAt ap.atName
   let (f',first)<-holding [ov] (getMethod ov "__init__" pl)
   callWith cp f' first (backTo cp (starEach [.Name "self" p2,.JoinedStr [.Constant (.str z) j p3,.FormattedValue (.Name "at" p4) (-1) none p5] p6] (envOfC qual (aY st) L f cdv))) (backToKw cp (keywordEach [] (envOfC qual (aY st) L f cdv))))):FnOk P w K mg base CX0 (k+1) f fd ["self","at"] (yi2 C):=by
 obtain⟨oc,od,kV,doc,pm,an,cdv,ct,osl,rfl,lk,hcd⟩:=F.ex
 refine zi2 lk hcd S (fun vs H Q E h=>by obtain⟨e,n,rfl,_⟩:=h;rfl) fun A outer s H vs Q E hr hsp=> ?_
 obtain⟨e,n,rfl,he,hn,q⟩:=hsp
 rw [hb]
 obtain⟨pl,hpl⟩:=ht s.heap.objs.size cdv
 have v0:Vis (aY st) "self":=(S.par "self" (by simp)).elim .inl fun h=> .inr (.inl h)
 have v1:Vis (aY st) "at":=(S.par "at" (by simp)).elim .inl fun h=> .inr (.inl h)
 exact⟨_,jG (yl7 (X:=gG CX0 P w K mg base ["self","at"] qual (aY st) f cdv A outer s H E) hg hm B O rfl rfl v0 v1 hz hd hpl) (qB (ys9 (X:=gG CX0 P w K mg base ["self","at"] qual (aY st) f cdv A outer s H E) O rfl rfl v0 v1)),e,n,rfl,rfl,he,hn,e,n,rfl,rfl,he,fun Da h1 h2=>q Da h1 h2⟩
end
structure NumI(P:Program)(w:World)(K:tz0)(mg:tzA)(base:Heap)(x:Str)(C:Addr):Prop where
 bound:mg x=some (.ref C)
 cls:∃fI fd,NumCls K C fI base/\FnOk P w K mg base CX0 1 fI fd ["self","at"] (yi2 C)/\mC K fd ["self","at"] []
theorem zy0{d:D}{n:Int}(h:zU d=some n):d= .int n/\n.natAbs.log2<1920:=by
 unfold zU at h
 split at h
 ·obtain⟨h1,h2⟩:=dU h
  cases h2
  exact⟨rfl,h1⟩
 ·cases h
section
variable{P:Program}{w:World}{K:tz0}{mg:tzA}{base:Heap}{N:List Str}{qual:Str}{scope:Scope}{f C:Addr}{cd:Value}{A:Around}{outer:List Env}{s:Shared}{H:Hp}{E:XK}{κ:tz9}{φ:F0}
theorem tR{x:Str}{a:Expr}{fa:tz2}{np cpos pos:Pos}{k:Nat}(O:NumI P w K mg base x C)(hg:Gl (gG (CXn P w base C) P w K mg base N qual scope f cd A outer s H E) x)(hr:Room (k+2) (A.deeper (envOfC qual scope s.heap.objs.size f cd)))
  (ha:QV (gG (CXn P w base C) P w K mg base N qual scope f cd A outer s H E).nox κ a fa) (hd:(x==("__debug__":Str))=false:=by decide) (hs:starEach [a] (envOfC qual scope s.heap.objs.size f cd)=[(false,eval a (envOfC qual scope s.heap.objs.size f cd))]:=by rfl):
  QN (gG (CXn P w base C) P w K mg base N qual scope f cd A outer s H E) κ φ (ExN E C) (.Raise (some (.Call (.Name x np) [a] [] cpos)) none pos) (nV fa):=by
 intro pins s1 σ H1 D I h
 obtain⟨ps,F,n,R,ef,q0⟩:=h
 obtain⟨d,e1,e2⟩:=bind_some ef
 obtain⟨rfl,hn⟩:=zy0 e2
 obtain⟨fI,fd,NC,G,hb⟩:=O.cls
 obtain⟨bm,N',nm,qn,bs,sn,sub,ab,col,dd,k0,k1,k2,k3,k5,mN,hC,hN,hni,T⟩:=NC.obj
 obtain⟨oI,hfI,hfc⟩:=NC.fn
 refine zr2 (C:=C) (nm:=nm) (q:=qn) (N:=N') (bs:=bs) (bm:=bm) (hdct:=true) (sn:=sn) (sub:=sub) (ab:=ab) (col:=col) (dd:=dd) (k0:=k0) (k1:=k1) (k2:=k2) (k3:=k3) (k5:=k5)
  PySem.F.excBase_ValueError (mN:=mN) (T.hasType PySem.F.excBase_ValueError.hasBase) (I.ok.hd rfl) (by show(backTo cpos (starEach [a] (envOfC qual scope s.heap.objs.size f cd))).any (·.1)=false;rw [hs];rfl) hni hfc (oY I hg O.bound ⟨rfl,?_⟩ hd)
 show wpAny (model P w) (A.deeper (envOfC qual scope s.heap.objs.size f cd)) (evalArgs (.ref C) true (backTo cpos (starEach [a] (envOfC qual scope s.heap.objs.size f cd))) []) _ _ s1
 rw [hs]
 refine Calls.evalArgs_plain (Calls.spliced_cons (wpAny_mono (ha pins s1 σ H1 (fun v H'=>SameK H1 H'/\v= .int n) (I.wish _) ⟨ps,_,R.ws,e1,fun v H' fp sm r=>⟨sm,r.is_int⟩⟩) (fun u s2 hu=>Calls.spliced_nil ?_) fun _ _ z=>False.elim z))
 obtain⟨v,H2,I2',r2,sm,rfl⟩:=hu
 obtain⟨t,rfl⟩:=r2
 have I2:=I2'.unwish
 have kp:∀b o,base.get? b=some o->s2.heap.get? b=some o:=I2.bk
 refine⟨rfl,(show 1<=sizeLine from Nat.le_trans (by decide) (qX (n:=1) (by decide))),kp _ _ hC,hN.keeps kp,T.keeps kp,kp _ _ hfI,?_⟩
 have ge:(oP s2.heap C [.int n t]).get? (s2.heap.objs.size+1)=some (mO C none s2.heap.objs.size):=by heap_get
 have I3:Inv (gG (CXn P w base C) P w K mg base N qual scope f cd A outer s H E) pins σ (upd H2 (s2.heap.objs.size+1) (qU C (s2.heap.objs.size+1))) {s2 with heap:=oP s2.heap C [.int n t]}:=I2.laid (t':=s2.toks) (fun b u q=>mW q) (Nat.le_succ _) ⟨⟨_,ge⟩,⟨_,ge⟩,fun a b ⟨t,z⟩ k=>⟨t,k _ z⟩⟩
 have nH2:H2 (s2.heap.objs.size+1)=none:=I2.hok.fresh (Nat.le_succ _)
 have E3:=I3.env0.make C [.int n t] []
 have r1:Room 1 ((A.deeper (envOfC qual scope s.heap.objs.size f cd)).under (.builtin "type.__call__" ⟨.ref C::[.int n t],[]⟩)):=(hr.mono (by omega):Room (1+1) _).make C _ _
 refine wpAny_call (codeAny_mono (G.run _ _ _ _ ⟨[.ref (s2.heap.objs.size+1),.int n t],[]⟩ [.ref (s2.heap.objs.size+1),.int n t] [.ref (s2.heap.objs.size+1),.int n] (fun v H'=>v= .non/\∃Da,upd H2 (s2.heap.objs.size+1) (qU C (s2.heap.objs.size+1)) Da=none/\Da≠s2.heap.objs.size+1/\H'=upd (upd (upd H2 (s2.heap.objs.size+1) (qU C (s2.heap.objs.size+1))) (s2.heap.objs.size+1) (pL C (s2.heap.objs.size+1) Da)) Da (.xd [("at",.int n)])) (fun _ _ _=>False) r1 E3 (hb _ [.ref (s2.heap.objs.size+1),.int n t] I3.kIn rfl) (.cons rfl (.cons ⟨t,rfl⟩ .nil)) ⟨_,n,rfl,eT,hn,fun Da h1 h2=>⟨rfl,Da,h1,h2,rfl⟩⟩) fun rr s' hq=> ?_)
 cases rr with
 |error ee=>exact hq.elim
 | ok f2=>
  cases f2 with
  | ret u=>
   obtain⟨v,H',os,bare,un,hok,rv,rfl,Da,hDa,hne,rfl⟩:=hq
   cases rv
   have nDa:H2 Da=none:=by rw [dW hne] at hDa;exact hDa
   have hx:upd (upd (upd H2 (s2.heap.objs.size+1) (qU C (s2.heap.objs.size+1))) (s2.heap.objs.size+1) (pL C (s2.heap.objs.size+1) Da)) Da (.xd [("at",.int n)]) (s2.heap.objs.size+1)=some (pL C (s2.heap.objs.size+1) Da):=by rw [dW (Ne.symm hne),eT]
   obtain⟨⟨tx,he⟩,_,_⟩:=(show fL P w _ s'.heap _ (pL C (s2.heap.objs.size+1) Da) from hok _ _ hx)
   have U:Un (frs (envOfC qual scope s.heap.objs.size f cd::outer)) [] H2 _ s2.heap s'.heap:=(Un.laid (fun b u q=>mW q) (Nat.le_succ _) nH2).trans un
   have I4:=I2.call' os (U.del nH2) (hok.del hx) bare (fun _ m=>absurd m (by simp))
   have hDa4:del (upd (upd (upd H2 (s2.heap.objs.size+1) (qU C (s2.heap.objs.size+1))) (s2.heap.objs.size+1) (pL C (s2.heap.objs.size+1) Da)) Da (.xd [("at",.int n)])) (s2.heap.objs.size+1) Da=some (.xd [("at",.int n)]):=by rw [oF hne,eT]
   refine⟨rfl,I4.bk _ _ hC,⟨some Da,tx,he⟩,ye8 I4 ?_ zn3 he (q0 _ ⟨fun b o hb kk _=> ?_,fun b hb=> ?_⟩ Da hDa4)⟩
   ·cases z:s.heap.get? (s2.heap.objs.size+1) with
    |none=>rfl
    |some o=>exact absurd (Heap.lt_size z) (Nat.not_lt.mpr (Nat.le_succ_of_le (show s.heap.objs.size<=s2.heap.objs.size from I2.sz)))
   ·have h2:=sm.keep b o hb kk
    rw [oF (fun z=>by rw [z,nH2] at h2;cases h2),dW (fun z=>by rw [z,nDa] at h2;cases h2),zs2,dW (fun z=>by rw [z,nH2] at h2;cases h2)]
    exact h2
   ·by_cases z1:b=s2.heap.objs.size+1
    ·subst z1;exact sm.grow _ nH2
    ·rw [oF z1] at hb
     by_cases z2:b=Da
     ·subst z2;exact sm.grow _ nDa
     ·rw [dW z2,zs2,dW z1] at hb;exact sm.grow _ hb
  |next=>exact hq.elim
  |brk=>exact hq.elim
  |cont=>exact hq.elim
end
section
variable{prog:Program}{w:World}{A:Around}{E:Value->Shared->Prop}{s:Shared}
def ya1(its:Array Value):Nat->Value->Prop:=fun i v=>its[its.size-1-i]? =some v
theorem zy1:typeLookup (.type "list_reverseiterator") "__len__"=pure none:=by rw [typeLookup_type,builtinLookup_eq_fast];kernel_rfl
theorem yl8:typeLookup (.type "list_reverseiterator") "__length_hint__"=pure (some (.builtin "list_reverseiterator.__length_hint__")):=by rw [typeLookup_type,builtinLookup_eq_fast];kernel_rfl
theorem zy2{R:Result->Shared->Prop}(hh:A.handled=none){S I l:Addr}{its:Array Value}{res:Value}{c0:Nat}(hI:s.heap.IsRevIter I l ((its.size:Int)-1))(hl:s.heap.IsList l its)(ne:l≠I)(n1:S≠I)(n2:S≠l)(hS:s.heap.get? S=some {cls:= .type "list",data:= .seq #[] c0})(hn:its.size<=sizeLine)
  (hR:∀h' tk acc c,(∀b o,b≠S->b≠I->s.heap.get? b=some o->h'.get? b=some o)->h'.get? S=some {cls:= .type "list",dict:=none,data:= .seq acc c,slots:= #[]}->ItemsOf (ya1 its) acc its.size->R (.ok (.ret res)) {s with heap:=h',toks:=tk}):
  wpAny (model prog w) A.in1 (Builtin.List.listExtendWith (.ref S) (.ref I) res) (fun fin s'=>match fin with| .done f=>R (.ok f) s'| .again c'=>c'.quiet=true/\codeAny (model prog w) A c' R s') (fun e s'=>R (.error e) s') s:=by
 have hT:s.TypeIs (.ref I) "list_reverseiterator":=hI.typeIs
 have hSf:S∉[I,l]:=fun m=>by
  simp at m
  exact m.elim n1 n2
 unfold Builtin.List.listExtendWith
 refine wpAny_bind (wpAny_typeOf hT ?_)
 have a1:Builtin.List.listSameRef (.ref S) (.ref I)=false:=by simp [Builtin.List.listSameRef,n1]
 have a2:(Value.type "list_reverseiterator"==Value.type "list")=false:=by decide
 have a3:(Value.type "list_reverseiterator"==Value.type "tuple")=false:=by decide
 simp only [a1,a2,a3,Bool.or_false,Bool.false_eq_true,if_false]
 refine wpAny_bind (wpAny_pyIter_revIter hI (wpAny_bind (wpAny_holding ?_)))
 unfold Builtin.List.listLengthHint
 refine wpAny_bind (wpAny_specialOf hT zy1 ?_)
 show wpAny _ A.in1 (specialOf (Value.ref I) (Str.ofString "__length_hint__")>>=_) _ _ _
 refine wpAny_bind (wpAny_specialOf hT yl8 ?_)
 wp_delta
 refine wpAny_bind (wpAny_isInstance hT (b:=true) (by rw [isSubtype_type];kernel_rfl) ?_)
 refine wpAny_pure ?_
 rw [if_neg (by decide)]
 refine wpAny_pure ⟨plainId_quiet F.plain_extend_loop _,codeAny_extend_loopS (Walks.listRev (A:=A.in1) hh I l ne its).toS hn _ hSf _ its.size 0 _ _ _ rfl (Nat.zero_le _) ⟨Nat.zero_le _,by simpa using hI,hl⟩ hS (ItemsOf.nil _) fun s' acc c hm hS' hacc=> ?_⟩
 rw [Moved.eq_with hm]
 exact hR s'.heap s'.toks acc c (fun b o q1 q2 e=>hm.heap b o (fun m=>by simp at m;exact m.elim q1 q2) e) hS' hacc
theorem zh4{Q:Value->Shared->Prop}(hh:A.handled=none){I l:Addr}{its:Array Value}(hI:s.heap.IsRevIter I l ((its.size:Int)-1))(hl:s.heap.IsList l its)(ne:l≠I)(hn:its.size<=sizeLine)
  (hQ:∀h' tk acc c,(∀b o,b≠I->s.heap.get? b=some o->h'.get? b=some o)->h'.get? s.heap.objs.size=some {cls:= .type "list",dict:=none,data:= .seq acc c,slots:= #[]}->ItemsOf (ya1 its) acc its.size->Q (.ref s.heap.objs.size) {s with heap:=h',toks:=tk}):wpAny (model prog w) A (call (.type "list") [.ref I]) Q E s:=by
 obtain⟨oI,eI,_⟩:=id hI
 obtain⟨ol,el,_⟩:=id hl
 have kI:=Nat.ne_of_gt (Heap.lt_size eI)
 have kl:=Nat.ne_of_gt (Heap.lt_size el)
 refine callType_codes (Q₁:=fun ob s1=>ob= .ref s.heap.objs.size/\s1={s with heap:=s.heap.push {cls:= .type "list",data:= .seq #[]}}) F.called_list (F.typeCall_list_1 _) F.entry_list_init (code_list_new _ ⟨rfl,rfl⟩) fun ob s1 z=> ?_
 obtain⟨rfl,rfl⟩:=z
 have hS:(s.heap.push {cls:= .type "list",data:= .seq #[]}).get? s.heap.objs.size=some {cls:= .type "list",data:= .seq #[]}:=Heap.get?_push_size _ rfl
 refine⟨⟨_,hS,rfl⟩,F.args_list_init_2 _ _,?_⟩
 show wpAny _ _ (do let old<-Builtin.List.listItems (.ref s.heap.objs.size);Builtin.List.listUpdate (.ref s.heap.objs.size) (fun _=> #[]);letGo old.toList.reverse;Builtin.List.listExtendWith (.ref s.heap.objs.size) (.ref I) .none) _ _ _
 refine wpAny_bind ?_
 unfold Builtin.List.listItems
 refine wpAny_bind (wpAny_seqItems hS rfl (wpAny_pure ?_))
 show wpAny _ _ (updateSeq s.heap.objs.size (fun _=> #[])>>=fun _=>letGo (#[]:Array Value).toList.reverse>>=fun _=>Builtin.List.listExtendWith (.ref s.heap.objs.size) (.ref I) .none) _ _ _
 refine wpAny_bind (wpAny_updateSeq hS rfl ?_)
 have hS2:=Heap.get?_update_self (Obj.mapSeq (fun _=>(#[]:Array Value))) hS rfl
 have oth:∀b o,b≠s.heap.objs.size->s.heap.get? b=some o->((s.heap.push {cls:= .type "list",data:= .seq #[]}).update s.heap.objs.size (Obj.mapSeq (fun _=>(#[]:Array Value)))).get? b=some o:=fun b o q e=>(Heap.get?_update_other _ _ (Ne.symm q)).trans (Heap.get?_push_of_some _ e)
 refine wpAny_bind (wpAny_letGo ?_)
 refine zy2 (A:=A.in1) hh (hI.at fun o e=>oth I o (Ne.symm kI) e) (hl.at fun o e=>oth l o (Ne.symm kl) e) ne kI kl hS2 hn fun h' tk acc c hk h1 h2=> ?_
 exact⟨rfl,hQ h' tk acc c (fun b o q e=>hk b o (Nat.ne_of_lt (Heap.lt_size e)) q (oth b o (Nat.ne_of_lt (Heap.lt_size e)) e)) h1 h2⟩
end
def yo3:D->Option D
 | .lst _ xs=>if D.imms xs=true then some (.lst true xs.reverse) else none
 |_=>none
def ya2(f:tz2):tz2:=fun ps=>(f ps).bind yo3
theorem yf4{its acc:Array Value}(h:ItemsOf (ya1 its) acc its.size):acc.toList=its.toList.reverse:=by
 obtain⟨h1,h2⟩:=h
 refine List.ext_getElem? fun i=> ?_
 rw [Array.getElem?_toList]
 by_cases hi:i<its.size
 ·have hs:i<acc.size:=by omega
  have e:acc[i]? =some acc[i]:=Array.getElem?_eq_getElem hs
  have:=h2 i _ e
  rw [e,List.getElem?_reverse (by simpa using hi),Array.getElem?_toList,Array.length_toList]
  exact this.symm
 ·rw [Array.getElem?_eq_none (by omega),List.getElem?_eq_none (by simp;omega)]
section
variable{X:Cx}{κ:tz9}{a:Expr}{fa:tz2}{p1 p2 pos2 pos:Pos}
theorem zn4(hc:X.calm=true)(ha:QV X κ a fa)(hg1:Gl X "list")(hm1:X.mg "list"=none)(hg2:Gl X "reversed")(hm2:X.mg "reversed"=none)
  (hs1:starEach [.Call (.Name "reversed" p2) [a] [] pos2] X.env=(false,eval (.Call (.Name "reversed" p2) [a] [] pos2) X.env)::starEach [] X.env:=by rfl) (hs2:starEach [a] X.env=(false,eval a X.env)::starEach [] X.env:=by rfl):
  QP X κ (.Call (.Name "list" p1) [.Call (.Name "reversed" p2) [a] [] pos2] [] pos) (ya2 fa):=by
 intro pins s σ H Q I hh_
 obtain⟨ps,d,w,e,q⟩:=hh_
 obtain⟨d1,e1,e2⟩:=bind_some e
 unfold yo3 at e2
 split at e2
 ·rename_i b xs
  obtain⟨hi,e2⟩:=dU e2
  cases e2
  refine wpAny_Call_Name_kw (qE I hg1 hm1 (u:= .type "list") rfl ?_)
  refine PyProof.Rows.callWith_type1 ?_ hs1 rfl
  rw [hs1]
  refine Calls.spliced_cons ?_
  refine wpAny_Call_Name_kw (qE I hg2 hm2 (u:= .type "reversed") rfl ?_)
  refine PyProof.Rows.callWith_type1 ?_ hs2 rfl
  rw [hs2]
  refine Calls.spliced_cons (thn (ha pins s σ H (fun v H1=>SameK H H1/\∃fp,Rep X.K κ H1 v (.lst b xs) fp) I ⟨ps,_,w,e1,fun v H1 fp s1 r1=>⟨s1,fp,r1⟩⟩) fun u s1 hu=>Calls.spliced_nil ?_)
  obtain⟨v,H1,I1,r1,sm,fp,rp⟩:=hu
  obtain⟨l,ws,g,rfl,hl,hws,_⟩:=rp.lst_inv
  cases r1
  obtain⟨its,rv,pl,hz⟩:=I1.list (.inl hl)
  have el:l<s1.heap.objs.size:=by obtain⟨o,ho,_⟩:=pl.isList;exact Heap.lt_size ho
  refine call_reversed_list pl.isList (Calls.spliced_nil ?_)
  refine zh4 (I.ok.hd hc) (I:=s1.heap.objs.size) (l:=l) (its:=its.toArray) ⟨_,Heap.get?_push_size _ rfl,rfl,rfl⟩ (pl.isList.at fun o e=>Heap.get?_push_of_some _ e) (Nat.ne_of_lt el) (by rw [List.size_toArray,<-rv.length];exact hz) fun h' tk acc c kb hn hit=> ?_
  have ei:=yf4 hit
  have hp:H1 (s1.heap.push (revObj l ((its.toArray.size:Int)-1))).objs.size=none:=I1.hok.fresh (by rw [Heap.size_push];exact Nat.le_succ _)
  refine⟨.ref _,_,I1.laid (t':=tk) (o:= .lst ws.reverse) (fun b u q=>kb b u (Nat.ne_of_lt (Heap.lt_size q)) (Heap.get?_push_of_some _ q)) (by rw [Heap.size_push];exact Nat.le_succ _) ⟨by rw [List.length_reverse];exact hz,its.reverse,c,Paired.rev rv,?_⟩,rfl,qC hp (Paired.rev (hws.pair hi)) (q.after sm)⟩
  rw [hn]
  congr 3
  exact Array.ext' (by rw [ei])
 ·cases e2
end
theorem zf3{K:tz0}{C fI:Addr}{base:Heap}(O:NumCls K C fI base):wN C base:=by
 obtain⟨bm,N,nm,qn,bs,sn,sub,ab,col,dd,k0,k1,k2,k3,k5,mN,hC,_,_,T⟩:=O.obj
 exact⟨bm,N,nm,qn,bs,true,sn,sub,ab,col,dd,k0,k1,k2,k3,k5,_,hC,T.hasType PySem.F.excBase_ValueError.hasBase⟩
structure KNum(K:tz0)(C:Addr):Prop where
 x:KExc K C
 at_:PySem.W.findIn K (.ref C) "at"=some none
 hd:∃cd,PySem.W.clsIn K C=some cd/\cd.hasDict=true
def tAt(j:Nat)(ea Da:Addr)(n:Int):TE:=fun σ H Q=>σ[j]? =some (some (.ref ea))/\H Da=some (.xd [("at",.int n)])/\Q (.int n) H
def ya3(j:Nat)(ea Da:Addr)(n:Int)(b:Bool):TE:=fun σ H Q=>σ[j]? =some (some (.ref ea))/\H Da=some (.xd [("at",.int n)])/\∀H',SameK H H'->Q (.bl b) H'
def zj1(j:Nat)(ea Da:Addr)(n:Int):TS:=fun D σ H=>σ[j]? =some (some (.ref ea))/\H Da=some (.xd [("at",.int n)])/\∀H',SameK H H'->D.rt (.int n) H'
def okN(g:tz6)(n:Int):Bool:=match g [.int n] with
 |some (.bl true)=>true
 |_=>false
theorem yl9{g:tz6}{n:Int}(h:okN g n=true):g [.int n]=some (.bl true):=by
 unfold okN at h
 split at h
 ·assumption
 ·cases h
section
variable{Y:Cx}{C ea Da:Addr}{oe:Obj}{j:Nat}{bad:Str}{p bp pos ap:Pos}{n:Int}{b:Bool}
theorem zi8(hp:(ea,oe)∈Y.pn)(hc:oe.cls= .ref C)(hd:oe.dict=some Da)(hw:∃ws,oe.data= .fields ws)(k:KNum Y.K C)(hN:Y.N[j]? =some bad)(hv:Vis Y.env.scope bad)(hdb:(bad==("__debug__":Str))=false:=by decide)(hcd:(bad==("__classdict__":Str))=false:=by decide):
  PE Y (.Attribute (.Name bad bp) "at" ap) (tAt j ea Da n):=by
 intro pins s σ H Q I h
 obtain⟨hσ,hD,q⟩:=h
 obtain⟨ws,hw⟩:=hw
 obtain⟨cd,k1,k2⟩:=k.hd
 refine PyProof.Rows.Attribute_name (thn (jX hN hv hdb hcd pins s σ H (fun v H'=>v= .ref ea/\H'=H) I ⟨_,hσ,rfl,rfl⟩) fun u s1 hu=> ?_)
 obtain⟨v,H1,I1,r1,rfl,rfl⟩:=hu
 cases r1
 obtain⟨mA,ns,rel⟩:=(show fL Y.prog Y.w H1 s1.heap Da (.xd [("at",.int n)]) from I1.hok Da _ hD)
 obtain⟨u,hu,ru⟩:=kR.some_of (v:=V.int n) (o:=mA "at") (rel "at")
 exact yl5 k.x.ga k.x.gt k.at_ k.x.b I1.kIn (I1.pin (ea,oe) (List.mem_append_left _ hp)).1 hc (by unfold PySem.W.notCls;rw [hw]) hd k1 k2 ns.ns hu (uX ru) ⟨.int n,H1,I1.tok _,ru,q⟩
theorem zc3{κ:tz9}{x:Str}{st:Stmt}{ps:List Str}{f:Addr}{fd:FuncData}{k:Nat}{g:tz6}{e:Expr}(he:PE Y e (tAt j ea Da n))(hok:okN g n=true)(Dd:Dn Y.K Y.mg x st ps f fd)(G:FnOk Y.prog Y.w Y.K Y.mg Y.base CX0 k f fd ps (SpP 1 Y.K κ g))(hr:Room k Y.A)(hg:Gl Y x)
  (hdb:(x==("__debug__":Str))=false:=by decide) (hst:starEach [e] Y.env=(false,eval e Y.env)::starEach [] Y.env:=by rfl):PE Y (.Call (.Name x p) [e] [] pos) (ya3 j ea Da n true):=
 (zi4 Dd G hr hg (gD he kY hst) hdb hst rfl).imp fun σ H Q h=>by
  obtain⟨h1,h2,q⟩:=h
  refine⟨h1,h2,?_⟩
  show SpP 1 Y.K κ g [V.int n] H Q E0
  exact⟨rfl,[.int n],[],.bl true,Reps.one (.int n),yl9 hok,fun v H' fv sm _ _ r=>by cases r;exact q H' sm⟩
theorem xM{f1 f2 f3 f4 f5:Expr}{a1 a2 a3 a4:List Expr}{t1 t2:List Stmt}{j0:Nat}{p0 np cp cp1 cp2 cp3 cp4 n1 n2 n4 op op2 ip ip2 rp:Pos}(hN:Y.N[j]? =some bad)(hv:Vis Y.env.scope bad)
  (h1:PE Y (.Call f1 a1 [] cp1) (rP j ea true)) (h2:PE Y (.Call f2 a2 [] cp2) (rP j ea true)) (h3:PE Y (.Call f3 a3 [] cp3) (rP j ea false)) (h4:PE Y (.Call f4 a4 [] cp4) (ya3 j ea Da n true)) (h5:PE Y f5 (tAt j ea Da n)) (hd:(bad==("__debug__":Str))=false:=by decide) (hcd:(bad==("__classdict__":Str))=false:=by decide):
  PSs Y [.If (.BoolOp .Or [.Compare (.Name bad np) [.Is] [.Constant .none j0 p0] cp,.UnaryOp .Not (.Call f1 a1 [] cp1) n1,.UnaryOp .Not (.Call f2 a2 [] cp2) n2] op) t1 [] ip,.If (.BoolOp .Or [.Call f3 a3 [] cp3,.UnaryOp .Not (.Call f4 a4 [] cp4) n4] op2) t2 [] ip2,.Return (some f5) rp] (zj1 j ea Da n):=
 (jG (yI (PW.pt (zi0 (yb4 (yw2 (jX hN hv hd hcd))) (zi0 (yH (yG h1)) (zj7 (yH (yG h2)))))) rD vR) (jG (yI (PW.pt (zi0 (yG h3) (zj7 (yH (yG h4))))) rD vR) (qB (qF h5)))).imp fun D σ H h=>by
  obtain⟨hσ,hD,q⟩:=h
  refine⟨.ref ea,hσ,false,rfl,?_⟩
  refine⟨hσ,fun H1 s1=>⟨true,rfl,?_⟩⟩
  refine⟨hσ,fun H2 s2=>⟨true,rfl,?_⟩⟩
  have s12:=s1.trans s2
  refine⟨hσ,fun H3 s3=>⟨false,rfl,?_⟩⟩
  have s13:=s12.trans s3
  refine⟨hσ,s13.keep _ _ hD rfl,fun H4 s4=>⟨true,rfl,?_⟩⟩
  have s14:=s13.trans s4
  exact⟨hσ,s14.keep _ _ hD rfl,q H4 s14⟩
end
def ya4(g:List D->Option Int)(ok:Int->Bool)(fa:tz3):tz1:=fun ps=>(fa ps).bind fun ds=>(g ds).bind fun n=>if ok n=true then some (.ret (.int n),ps) else none
section
variable{X:Cx}{C C2:Addr}{κ:tz9}{φ:F0}
theorem xN{x x0 cx nm bad:Str}{i j:Nat}{st:Stmt}{bY:List Stmt}{ps:List Str}{fa:Addr}{fd:FuncData}{k np:Nat}{g:List D->Option Int}{ok:Int->Bool}{e:Expr}{es:List Expr}{ga:tz3}{p pos pos2 np' bp np2 ap p5 pos6:Pos}
  (Dd:Dn X.K X.mg x st ps fa fd) (G:FnOk X.prog X.w X.K X.mg X.base (CXn X.prog X.w X.base C) k fa fd ps (rQ np X.K κ C g)) (O:NumI X.prog X.w X.K X.mg X.base x0 C) (O2:NumI X.prog X.w X.K X.mg X.base cx C2) (up:PySem.W.mroIn X.K C (.ref C2)=some true)
  (hr:Room k X.A) (hg:Gl X x) (hgc:Gl X cx) (hnp:(e::es).length=np) (ha:QVA X.nox κ (e::es) ga) (hlen:∀ps ds,ga ps=some ds->ds.length=(e::es).length) (hstk:X.stack=X.env::X.outer) (hf:X.env.frame=some X.env.locals)
  (hN:X.N.Nodup) (hi:X.N[i]? =some nm) (hj:X.N[j]? =some bad) (hij:i≠j) (hkn:X.env.kindOf nm=some .local) (hkb:X.env.kindOf bad=some .local)
  (hrest:∀ea oe Da n,ok n=true->oe.cls= .ref C->oe.dict=some Da->(∃ws,oe.data= .fields ws)->PSs (X.nox.pinned ea oe) bY (zj1 j ea Da n))
  (hdb:(x==("__debug__":Str))=false:=by decide) (hdc:(cx==("__debug__":Str))=false:=by decide) (hdn:(nm==("__debug__":Str))=false:=by decide) (he:starEach (e::es) X.env=(false,eval e X.env)::starEach es X.env:=by rfl) (hpl:(backTo pos (starEach es X.env)).any (·.1)=false:=by rfl)
  (hs:swapsWith (.Call (.Name x p) (e::es) [] pos) none pos2.line X.env=pure false:=by rfl) (hsw:swapsWith (.Name nm np2) (some (.Name bad bp)) ap.line X.env=pure false:=by rfl):
  QSs X.nox κ φ (.Try [.Expr (.Call (.Name x p) (e::es) [] pos) pos2] [.ExceptHandler (some (.Name cx np')) (some nm) [.Assign [.Name bad bp] (.Name nm np2) ap] p5] [] [] pos6::bY) (ya4 g ok ga):=by
 intro pins s σ H D I hh_
 obtain⟨pp,F,fl,ps',R,e1,q⟩:=hh_
 obtain⟨ds,e2,e3⟩:=bind_some e1
 obtain⟨n,e5,e6⟩:=bind_some e3
 obtain⟨hok,e4⟩:=dU e6
 cases e4
 have J:Inv X pins σ H s:=I.unwish
 obtain⟨_,_,nc1,_⟩:=O.cls
 obtain⟨_,_,nc2,_⟩:=O2.cls
 refine wpAny_execs_cons (wpAny_Try_except ?_)
 show wpAny (model X.prog X.w) X.A (execs [.Expr (.Call (.Name x p) (e::es) [] pos) pos2] X.env) _ _ s
 refine wpAny_execs_cons (wpAny_Expr_any ?_ J.quiet hs)
 refine wpAny_Call_Name_kw (oY J hg Dd.m ?_ hdb)
 refine PySem.W.callWith_K (h₀:=X.base) J.ok.mod.kin Dd.F.kp (wpAny_mono (ha pos pins s σ H (fun vs H1=>SameK H H1/\∃fp,Reps X.K κ H1 vs ds fp) I ⟨pp,ds,R.ws,e2,fun vs H1 fp s1 r1=>⟨s1,fp,r1⟩⟩) (fun us s1 hu=> ?_) fun _ _ z=>z.elim) he hpl
 obtain⟨vs,H1,I1,r,sm,fp,rs⟩:=hu
 have J1:Inv X pins σ H1 s1:=I1.unwish
 refine⟨J1.kIn,?_⟩
 have hl:vs.length=np:=by rw [rs.length,hlen pp ds e2,hnp]
 have hps:ps.length=np:=(G.len vs H1 (fun _ _=>False) (fun _ _ _=>True) ⟨hl,ds,fp,n,rs,e5,fun _ _ _ _=>trivial⟩).symm.trans hl
 have hlu:(us++([]:List Value)).length=ps.length:=by rw [List.append_nil,hps,<-hl,r.length]
 have hjl:j<σ.length:=by rw [I.len];exact(List.getElem?_eq_some_iff.mp hj).1
 refine wpAny_call (codeAny_mono (G.run X.A X.stack s1 H1 ⟨us,[]⟩ us vs (fun _ _=>False) (fun _ dd H'=>∃Da,dd=some Da/\H' Da=some (.xd [("at",.int n)])/\∀H'',SameK H' H''->D.rt (.int n) H'') hr J1.env0 (by have:=Dd.b s1 us J1.kIn hlu;rwa [List.append_nil] at this) r ⟨hl,ds,fp,n,rs,e5,fun H' s2 Da hDa=>⟨Da,rfl,hDa,fun H'' s3=> ?_⟩⟩) fun rr s' hq=> ?_)
 ·exact q (.int n) σ H'' F [] (Stp.same R ((sm.trans s2).trans s3)) (OwnV.new R (fun _ h=>absurd h (by simp)) List.nodup_nil) (.int n)
 ·cases rr with
  |error ee=>
   refine ys8 (X:=X.nox) (E1:=fun _ dd H'=>∃Da,dd=some Da/\H' Da=some (.xd [("at",.int n)])/\∀H'',SameK H' H''->D.rt (.int n) H'') I1 hstk hf (zf3 nc1) (zf3 nc2) O2.bound up hgc hq hN hi hj hij hkn hkb (fun ea oe s4 H4 hE hc hw I4=> ?_) hdc hdn hsw
   obtain⟨Da,hdd,hDa,hE⟩:=hE
   refine wpAny_mono (hrest ea oe Da n hok hc hdd hw pins s4 _ H4 D I4.toPin ⟨?_,hDa,hE⟩) (fun f s5 z=>z.ofPin) fun _ _ z=>z
   rw [List.getElem?_set_ne hij,List.getElem?_set_self (by rw [List.length_set];exact hjl)]
  |ok f2=>
   cases f2 with
   |ret u=>obtain⟨_,_,_,_,_,_,_,z⟩:=hq;exact z.elim
   |next=>exact hq.elim
   |brk=>exact hq.elim
   |cont=>exact hq.elim
end
def zV(K:tz0)(C fI:Addr):Bool:=match K.lookup C with
 |some ⟨.type "type",_,.cls k,z⟩=>(match k.mro,z.toList with
  | .ref c::m,[_,_,_,_,some (.builtin i),_]=>c==C&&i=="ValueError.__new__"&& !k.hasDel&&k.hasDict&&PySem.W.tailIn K bmV m&&PySem.W.nsOkIn K k.ns&&PySem.W.nsIn K k.ns "__init__"==some (some (.ref fI))
  |_,_=>false)
 |_=>false
theorem xd5{K:tz0}{h:Heap}{N:Addr}{m:tzA}{n:Str}{v:Value}(X:K.In h)(G:h.Ns N m)(e:PySem.W.nsIn K N n=some (some v)):m n=some v:=by
 obtain⟨o,es,ep,h1,h2,_,h3⟩:=G
 unfold PySem.W.nsIn at e
 split at e
 ·rename_i q
  have z:=X _ _ q
  rw [h1] at z
  cases z
  cases h2
  split at e
  ·rename_i hf
   cases e
   rw [<-h3]
   unfold nsFind findBy
   rw [<-Array.find?_toList,hf];rfl
  ·split at e<;>cases e
 ·cases e
theorem yt1{K:tz0}{h:Heap}{C fI:Addr}(X:K.In h)(q:zV K C fI=true):
  ∃bm N nm qn bs sn sub ab col dd k0 k1 k2 k3 k5 mN,h.get? C=some (excClassObj nm qn C N bs bm true sn sub ab col dd k0 k1 k2 k3 k5 "ValueError.__new__")/\h.Ns N mN/\mN "__init__"=some (.ref fI)/\OwnTail h bmV bm:=by
 unfold zV at q
 split at q
 case h_2=>cases q
 rename_i dd c sl look
 split at q
 case h_2=>cases q
 rename_i C1 bm1 a0 a1 a2 a3 n1 a5 em es
 rw [Bool.and_eq_true,Bool.and_eq_true,Bool.and_eq_true,Bool.and_eq_true,Bool.and_eq_true,Bool.and_eq_true] at q
 obtain⟨⟨⟨⟨⟨⟨q1,q2⟩,q3⟩,q7⟩,q4⟩,q5⟩,q6⟩:=q
 have z1:=eq_of_beq q1
 have z2:=eq_of_beq q2
 have z6:=eq_of_beq q6
 subst z1 z2
 cases c with
 | mk nm bs mro ns qn hd sn sub ab col del=>
  dsimp only at em q3 q5 q7 z6
  have z3:del=false:=by cases del<;>first|rfl|cases q3
  subst em z3 q7
  have zs:sl= #[a0,a1,a2,a3,some (.builtin "ValueError.__new__"),a5]:=by
   cases sl
   dsimp only at es
   rw [es]
  subst zs
  have G:h.Ns ns _:= .of_isNs (PySem.W.isNs_of_in X q5)
  exact⟨bm1,ns,nm,qn,bs,sn,sub,ab,col,dd,a0,a1,a2,a3,a5,_,X _ _ look,G,xd5 X G z6,PySem.W.tail_of_in X q4⟩
theorem zn5{K:tz0}{C fI:Addr}(q:zV K C fI=true):∃cd,PySem.W.clsIn K C=some cd/\cd.hasDict=true:=by
 unfold zV at q
 split at q
 case h_2=>cases q
 rename_i dd c sl look
 split at q
 case h_2=>cases q
 rename_i C1 bm1 a0 a1 a2 a3 n1 a5 em es
 rw [Bool.and_eq_true,Bool.and_eq_true,Bool.and_eq_true,Bool.and_eq_true] at q
 refine⟨c,?_,q.1.1.1.2⟩
 unfold PySem.W.clsIn
 rw [look]
theorem ym0{K:tz0}{h:Heap}{f:Addr}(X:K.In h)(q:PySem.W.isFn K (.ref f)=true):∃o,h.get? f=some o/\o.cls= .type "function":=by
 obtain⟨o,h1,h2⟩:=Option.map_eq_some_iff.mp (show(K.lookup f).map (·.cls)=some (.type "function") from beq_iff_eq.mp q)
 exact⟨o,X _ _ h1,h2⟩
theorem PI.nox{X:Cx}{tg e:Expr}{t:TI}(h:PI X.nox tg e t):PI X tg e t:=fun pins s σ H R I hw=>
 wpAny_mono (h pins s σ H R (I.wish _) hw) (fun _ _ q=>wpAny_mono q (fun _ _ q=>by obtain⟨it,fp,tn,J,H',e,I',a,b,c,d⟩:=q;exact⟨it,fp,tn,J,H',e,I'.unwish,a,b,c,d⟩) fun _ _ z=>False.elim z) fun _ _ z=>False.elim z
end L2
namespace L3
open PySem PySem.Spec PyProof.Rows L2
@[irreducible] def PE:= @L2.PE
@[irreducible] def PT:= @L2.PT
@[irreducible] def PW:= @L2.PW
@[irreducible] def PA:= @L2.PA
@[irreducible] def PS:= @L2.PS
@[irreducible] def PSs:= @L2.PSs
@[irreducible] def PI:= @L2.PI
@[irreducible] def PG:= @L2.PG
@[irreducible] def PGs:= @L2.PGs
@[irreducible] def PTs:= @L2.PTs
@[irreducible] def PO:= @L2.PO
@[irreducible] def PPs:= @L2.PPs
@[irreducible] def OpR:= @L2.OpR
@[irreducible] def gB:= @L2.gB
@[irreducible] def MtR:= @L2.MtR
abbrev QV(X:Cx)(κ:tz9)(e:Expr)(f:tz2):Prop:=PE X e (tV X.K κ f)
abbrev QP(X:Cx)(κ:tz9)(e:Expr)(f:tz2):Prop:=PE X e (tP X.K κ f)
abbrev QT(X:Cx)(κ:tz9)(e:Expr)(f:tz4):Prop:=PT X e (tQ X.K κ f)
abbrev QW(X:Cx)(κ:tz9)(e:Expr)(f:tz4):Prop:=PW X e (tQ X.K κ f)
abbrev QVA(X:Cx)(κ:tz9)(es:List Expr)(f:tz3):Prop:=PA X es (tVA X.K κ f)
abbrev QPA(X:Cx)(κ:tz9)(es:List Expr)(f:tz3):Prop:=PA X es (tPA X.K κ f)
abbrev QO(X:Cx)(κ:tz9)(e:Option Expr)(f:PSt->Option (Option Int)):Prop:=PO X e (tO X.K κ f)
abbrev QS(X:Cx)(κ:tz9)(φ:F0)(st:Stmt)(f:tz1):Prop:=PS X st (tS (φ.fx X.K κ) f)
abbrev QSs(X:Cx)(κ:tz9)(φ:F0)(st:List Stmt)(f:tz1):Prop:=PSs X st (tS (φ.fx X.K κ) f)
abbrev QE(X:Cx)(κ:tz9)(φ:F0)(e:Expr)(f:tz8):Prop:=PE X e (tE (φ.fx X.K κ) f)
abbrev QTE(X:Cx)(κ:tz9)(φ:F0)(e:Expr)(f:PSt->Option (Bool×PSt)):Prop:=PT X e (tTE (φ.fx X.K κ) f)
abbrev QIV(X:Cx)(κ:tz9)(tg iter:Expr)(f:tz3):Prop:=PI X tg iter (tIV X.K κ f)
abbrev QIP(X:Cx)(κ:tz9)(tg iter:Expr)(f:tz3):Prop:=PI X tg iter (tIP X.K κ f)
abbrev QN(X:Cx)(κ:tz9)(φ:F0)(Ex:Int->Hp->Prop)(st:Stmt)(fx:PSt->Option Int):Prop:=PS X st (tN (φ.fx X.K κ) fx Ex)
abbrev QNs(X:Cx)(κ:tz9)(φ:F0)(Ex:Int->Hp->Prop)(st:List Stmt)(fx:PSt->Option Int):Prop:=PSs X st (tN (φ.fx X.K κ) fx Ex)
abbrev QNe(X:Cx)(κ:tz9)(φ:F0)(Ex:Int->Hp->Prop)(e:Expr)(fx:PSt->Option Int):Prop:=PE X e (tNe (φ.fx X.K κ) fx Ex)
section
variable{X:Cx}
theorem nQ{x:Str}{v:V}{u:Value}{pos:Pos}(hg:Gl X x)(hm:X.mg x=some u)(r:dQ v u)(hd:(x==("__debug__":Str))=false:=by decide):PE X (.Name x pos) (tC v):=by with_unfolding_all exact L2.nQ hg hm r hd
theorem vQ{x:Str}{v:V}{u:Value}{pos:Pos}(hg:Gl X x)(hm:X.mg x=none)(hv:bootBuiltins x=some u)(r:dQ v u)(hn:x≠"__name__":=by decide)(hd:(x==("__debug__":Str))=false:=by decide):PE X (.Name x pos) (tC v):=by with_unfolding_all exact L2.vQ hg hm hv r hn hd
end
section
variable{X:Cx}{pos:Pos}
theorem kX{i:Nat}{x:Str}(hN:X.N.Nodup)(hi:X.N[i]? =some x)(hx:Loc X.env.scope x)(hf:X.fn x=true\/X.env.scope.names.lookup x=some .local:=by first|exact .inl rfl|exact .inr rfl|assumption):PG X (.Name x pos) (oM i):=by with_unfolding_all exact L2.kX hN hi hx hf
theorem vS:PGs X [] yn7:=by with_unfolding_all exact L2.vS
theorem nI{e:Expr}{es:List Expr}{t:TG}{u:TGs}(h1:PG X e t)(h2:PGs X es u)
  (hs:(assignEach (e::es) X.env).map (·.2)=assign e X.env::(assignEach es X.env).map (·.2):=by rfl):PGs X (e::es) (zz7 t u):=by with_unfolding_all exact L2.nI h1 h2 hs
end
section
theorem rW{X:Cx}{pos:Pos}:PPs X pos [] [] []:=by with_unfolding_all exact L2.rW
end
section
theorem jH{X:Cx}{pos:Pos}{k v:Expr}{ks:List (Option Expr)}{vs:List Expr}{tk tv:TE}{trs:List (TE×TE)}(hk:PE X k tk)(hv:PE X v tv)(hr:PPs X pos ks vs trs):
  PPs X pos (some k::ks) (v::vs) ((tk,tv)::trs):=by with_unfolding_all exact L2.jH hk hv hr
end
section
variable{X:Cx}{κ:tz9}{e a b:Expr}{f fa fb:tz2}
theorem QP.v(h:QP X κ e f):QV X κ e f:=by with_unfolding_all exact L2.QP.v h
theorem QV.p(h:QV X κ e f):QP X κ e (bC f):=by with_unfolding_all exact L2.QV.p h
theorem aD(i:Nat){x:Str}{pos:Pos}(hN:X.N[i]? =some x:=by rfl)(hv:Vis X.env.scope x:=by first|exact Or.inl rfl|exact Or.inr (Or.inl rfl)|exact Or.inr (Or.inr rfl))(hd:(x==("__debug__":Str))=false:=by decide)
  (hcd:(x==("__classdict__":Str))=false:=by decide):QV X κ (.Name x pos) (aB i):=by with_unfolding_all exact L2.aD i hN hv hd hcd
theorem aN{i j pos}:QP X κ (.Constant (.int i) j pos) (fC (.int i)):=by with_unfolding_all exact L2.aN
theorem cJ{x j pos}:QP X κ (.Constant (.str x) j pos) (fC (.str x)):=by with_unfolding_all exact L2.cJ
theorem nZ{b j pos}:QP X κ (.Constant (.bool b) j pos) (fC (.bl b)):=by with_unfolding_all exact L2.nZ
theorem zk7{j pos}:QP X κ (.Constant .none j pos) (fC .non):=by with_unfolding_all exact L2.zk7
theorem nR{x:Str}{v:V}{u:Value}{d:D}{pos:Pos}(hg:Gl X x)(hm:X.mg x=some u)(r:dQ v u)(hd:∀H,Rep X.K κ H v d [])(hdb:(x==("__debug__":Str))=false:=by decide):QP X κ (.Name x pos) (fC d):=by with_unfolding_all exact L2.nR hg hm r hd hdb
theorem qZ{x:Str}{n:String}{pos:Pos}(hg:Gl X x)(hm:X.mg x=none)(hv:bootBuiltins x=some (.type n))(hn:x≠"__name__":=by decide)(hd:(x==("__debug__":Str))=false:=by decide):QP X κ (.Name x pos) (fC (.ty n)):=by with_unfolding_all exact L2.qZ hg hm hv hn hd
theorem cK{op:Operator}{g:D->D->Option D}{pos:Pos}(ho:OpR X (binaryOp op) (POp X.K κ g))(ha:QV X κ a fa)(hb:QV X κ b fb):QP X κ (.BinOp a op b pos) (f2 g fa fb):=by with_unfolding_all exact L2.cK ho ha hb
theorem mG{op:CmpOp}{g:D->D->Option D}{pos:Pos}(ho:OpR X (compareOp op) (POp X.K κ g))(ha:QV X κ a fa)(hb:QV X κ b fb)(hm:behindInMarks op b=false):QP X κ (.Compare a [op] [b] pos) (f2 g fa fb):=by with_unfolding_all exact L2.mG ho ha hb hm
theorem dC{op:CmpOp}{g:D->D->Option D}{pos:Pos}(ho:OpR X (compareOp op) (POp X.K κ g))(ha:QV X κ a fa)(hb:QV X κ b fb)(hm:behindInMarks op b=false):QT X κ (.Compare a [op] [b] pos) (fB (f2 g fa fb)):=by with_unfolding_all exact L2.dC ho ha hb hm
theorem nE(ha:QV X κ a fa)(he:∀whole,isTrue a X.env whole=(do let v<-whole;standAt a.pos;holding [v] (truthy v)):=by intro _;rfl):QT X κ a (fT fa):=by with_unfolding_all exact L2.nE ha he
variable{pos:Pos}{bY:List Expr}{ta tb:tz4}
theorem nS(ha:QT X κ a ta):QW X κ (.BoolOp .And [a] pos) ta:=by with_unfolding_all exact L2.nS ha
end
section
variable{X:Cx}{κ:tz9}{e a b:Expr}{f fa fb:tz2}
variable{pos:Pos}{bY:List Expr}{ta tb:tz4}
theorem qH(ha:QT X κ a ta):QW X κ (.BoolOp .Or [a] pos) ta:=by with_unfolding_all exact L2.qH ha
end
section
variable{X:Cx}{κ:tz9}{e a b:Expr}{f fa fb:tz2}
variable{pos:Pos}{bY:List Expr}{ta tb:tz4}
theorem nF(ha:QT X κ a ta)(hb:QW X κ (.BoolOp .And (b::bY) pos) tb):QW X κ (.BoolOp .And (a::b::bY) pos) (bB ta tb):=by with_unfolding_all exact L2.nF ha hb
end
section
variable{X:Cx}{κ:tz9}{e a b:Expr}{f fa fb:tz2}
variable{pos:Pos}{bY:List Expr}{ta tb:tz4}
theorem sW(ha:QT X κ a ta)(hb:QW X κ (.BoolOp .Or (b::bY) pos) tb):QW X κ (.BoolOp .Or (a::b::bY) pos) (bM ta tb):=by with_unfolding_all exact L2.sW ha hb
end
section
variable{X:Cx}{κ:tz9}{e a b:Expr}{f fa fb:tz2}
variable{pos:Pos}{bY:List Expr}{ta tb:tz4}
theorem oZ(h:QW X κ a ta):QT X κ a ta:=by with_unfolding_all exact L2.oZ h
end
section
variable{X:Cx}{κ:tz9}{e a b:Expr}{f fa fb:tz2}
variable{pos:Pos}{bY:List Expr}{ta tb:tz4}
theorem pM(ha:QT X κ a ta):QT X κ (.UnaryOp .Not a pos) (aP ta):=by with_unfolding_all exact L2.pM ha
end
section
variable{X:Cx}{κ:tz9}{e a b:Expr}{f fa fb:tz2}
variable{pos:Pos}{bY:List Expr}{ta tb:tz4}
theorem uZ{op}(h:QP X κ a fa):QP X κ (.BoolOp op [a] pos) fa:=by with_unfolding_all exact L2.uZ h
end
section
variable{X:Cx}{κ:tz9}{e a b:Expr}{f fa fb:tz2}
variable{pos:Pos}{bY:List Expr}{ta tb:tz4}
theorem vA(ha:QP X κ a fa)(hb:QP X κ (.BoolOp .And (b::bY) pos) fb):QP X κ (.BoolOp .And (a::b::bY) pos) (iE fa fb):=by with_unfolding_all exact L2.vA ha hb
end
section
variable{X:Cx}{κ:tz9}{e a b:Expr}{f fa fb:tz2}
variable{pos:Pos}{bY:List Expr}{ta tb:tz4}
theorem zk9(ha:QP X κ a fa):QP X κ (.UnaryOp .Not a pos) (iW fa):=by with_unfolding_all exact L2.zk9 ha
end
section
variable{X:Cx}{κ:tz9}{e a b:Expr}{f fa fb:tz2}
variable{pos:Pos}{bY:List Expr}{ta tb:tz4}
theorem iU(ha:QV X κ a fa):QP X κ (.UnaryOp .USub a pos) (bL fa):=by with_unfolding_all exact L2.iU ha
end
section
variable{X:Cx}{κ:tz9}
theorem eX:OpR X (binaryOp .Add) (POp X.K κ aO):=by with_unfolding_all exact L2.eX
theorem zx1:OpR X (binaryOp .Sub) (POp X.K κ dM):=by with_unfolding_all exact L2.zx1
theorem yQ:OpR X (binaryOp .Mult) (POp X.K κ fD):=by with_unfolding_all exact L2.yQ
theorem iI:OpR X (binaryOp .Mod) (POp X.K κ fO):=by with_unfolding_all exact L2.iI
theorem mB:OpR X (binaryOp .FloorDiv) (POp X.K κ iX):=by with_unfolding_all exact L2.mB
theorem rL(hu:X.A.units<cLine):OpR X (compareOp .Lt) (POp X.K κ dLt):=by with_unfolding_all exact L2.rL hu
theorem sX:OpR X (compareOp .Gt) (POp X.K κ dGt):=by with_unfolding_all exact L2.sX
theorem zl1:OpR X (compareOp .GtE) (POp X.K κ dGe):=by with_unfolding_all exact L2.zl1
theorem iB(hu:X.A.units+64<cLine):OpR X (compareOp .Eq) (POp X.K κ dEq):=by with_unfolding_all exact L2.iB hu
theorem sY(hu:X.A.units+64<cLine):OpR X (compareOp .NotEq) (POp X.K κ dNe):=by with_unfolding_all exact L2.sY hu
theorem vB:OpR X (compareOp .In) (POp X.K κ dIn):=by with_unfolding_all exact L2.vB
end
section
variable{X:Cx}{κ:tz9}{e a b:Expr}{es:List Expr}{f fa fb:tz2}{g:tz3}{pos p2:Pos}
theorem bW:QVA X κ [] aC:=by with_unfolding_all exact L2.bW
theorem aV(ha:QV X κ e f)(hr:QVA X κ es g)(hs:starEach (e::es) X.env=(false,eval e X.env)::starEach es X.env:=by rfl):QVA X κ (e::es) (aA f g):=by with_unfolding_all exact L2.aV ha hr hs
theorem bO:QPA X κ [] aC:=by with_unfolding_all exact L2.bO
theorem aW(ha:QP X κ e f)(hr:QPA X κ es g)(hs:starEach (e::es) X.env=(false,eval e X.env)::starEach es X.env:=by rfl):QPA X κ (e::es) (aA f g):=by with_unfolding_all exact L2.aW ha hr hs
theorem eU{x1}(h:QPA X κ es g):QP X κ (.Tuple es x1 pos) (bF g):=by with_unfolding_all exact L2.eU h
theorem eH(h:QPA X κ es g):QP X κ (.List es pos) (aX g):=by with_unfolding_all exact L2.eH h
theorem eS(ha:QV X κ a fa)(hb:QV X κ b fb)(hs:pD b:=by exact fun _ _=>rfl):QV X κ (.Subscript a b pos) (f2 dIx fa fb):=by with_unfolding_all exact L2.eS ha hb hs
theorem oB(ha:QP X κ a fa)(hb:QV X κ b fb)(hs:pD b:=by exact fun _ _=>rfl):QP X κ (.Subscript a b pos) (f2 dIx fa fb):=by with_unfolding_all exact L2.oB ha hb hs
theorem kG:QO X κ none cB:=by with_unfolding_all exact L2.kG
theorem iQ(h:QV X κ e f):QO X κ (some e) (cT f):=by with_unfolding_all exact L2.iQ h
theorem iL{lo hi:Option Expr}{fl fh:PSt->Option (Option Int)}(he:QV X κ e f)(hl:QO X κ lo fl)(hh:QO X κ hi fh):QP X κ (.Subscript e (.Slice lo hi none p2) pos) (fSl f fl fh):=by with_unfolding_all exact L2.iL he hl hh
theorem eJ{x:Str}{id:String}{p:Pos}{h:tz6}(hc:gB X (.builtin id) (PCl X.K κ h))(hg:Gl X x)(hm:X.mg x=none)(hv:bootBuiltins x=some (.builtin id))(ha:QVA X κ (e::es) g)(hn:x≠"__name__":=by decide)(hdb:(x==("__debug__":Str))=false:=by decide)
  (hs:starEach (e::es) X.env=(false,eval e X.env)::starEach es X.env:=by rfl) (hpl:(backTo pos (starEach es X.env)).any (·.1)=false:=by rfl):QP X κ (.Call (.Name x p) (e::es) [] pos) (aE h g):=by with_unfolding_all exact L2.eJ hc hg hm hv ha hn hdb hs hpl
theorem gZ{x:Str}{T:String}{p:Pos}{h:tz6}(hc:gB X (.type T) (PCl X.K κ h))(hg:Gl X x)(hm:X.mg x=none)(hv:bootBuiltins x=some (.type T))(ha:QVA X κ (e::es) g)(hn:x≠"__name__":=by decide)(hdb:(x==("__debug__":Str))=false:=by decide)
  (hs:starEach (e::es) X.env=(false,eval e X.env)::starEach es X.env:=by rfl) (hpl:(backTo pos (starEach es X.env)).any (·.1)=false:=by rfl):QP X κ (.Call (.Name x p) (e::es) [] pos) (aE h g):=by with_unfolding_all exact L2.gZ hc hg hm hv ha hn hdb hs hpl
theorem jB:gB X (.builtin "len") (PCl X.K κ bD):=by with_unfolding_all exact L2.jB
theorem zl4(hc:X.calm=true):gB X (.builtin "max") (PCl X.K κ dL):=by with_unfolding_all exact L2.zl4 hc
theorem zl5(hc:X.calm=true):gB X (.builtin "min") (PCl X.K κ dH):=by with_unfolding_all exact L2.zl5 hc
theorem rA:gB X (.builtin "isinstance") (PCl X.K κ gJ):=by with_unfolding_all exact L2.rA
theorem zl6:gB X (.type "list") (PCl X.K κ cM):=by with_unfolding_all exact L2.zl6
theorem lV:gB X (.type "tuple") (PCl X.K κ bK):=by with_unfolding_all exact L2.lV
theorem yR:gB X (.type "int") (PCl X.K κ cH):=by with_unfolding_all exact L2.yR
end
section
variable{X:Cx}{κ:tz9}{φ:F0}{st:Stmt}{bY:List Stmt}{f g:tz1}{pos:Pos}
theorem eC:QSs X κ φ [] aJ:=by with_unfolding_all exact L2.eC
theorem bI(h:QS X κ φ st f):QSs X κ φ [st] f:=by with_unfolding_all exact L2.bI h
theorem bE(h1:QS X κ φ st f)(h2:QSs X κ φ bY g):QSs X κ φ (st::bY) (aI f g):=by with_unfolding_all exact L2.bE h1 h2
theorem tD:QS X κ φ st qT:=by with_unfolding_all exact L2.tD
theorem QP.e{e:Expr}{f:tz2}(h:PE X e (tP X.K κ f)):QE X κ φ e (aF f):=by with_unfolding_all exact L2.QP.e h
theorem QT.e{e:Expr}{f:tz4}(h:PT X e (tQ X.K κ f)):QTE X κ φ e (aG f):=by with_unfolding_all exact L2.QT.e h
theorem dP(i:Nat){x:Str}{e:Expr}{pos':Pos}{f:tz8}(hN:X.N.Nodup)(hi:X.N[i]? =some x)(hx:Loc X.env.scope x)(hb:φ.bor i=false)(hm:φ.M i=false)(he:QE X κ φ e f)(hs:swapsWith e (some (.Name x pos')) pos.line X.env=pure false:=by rfl)(hf:X.fn x=true\/X.env.scope.names.lookup x=some .local:=by first|exact .inl rfl|exact .inr rfl|assumption):
  QS X κ φ (.Assign [.Name x pos'] e pos) (aM i f):=by with_unfolding_all exact L2.dP i hN hi hx hb hm he hs hf
theorem fP{e:Expr}{f:tz8}(he:QE X κ φ e f)(hs:swapsWith e none pos.line X.env=pure false:=by rfl):QS X κ φ (.Expr e pos) (aR f):=by with_unfolding_all exact L2.fP he hs
theorem eB{e:Expr}{f:tz8}(he:QE X κ φ e f):QS X κ φ (.Return (some e) pos) (aZ f):=by with_unfolding_all exact L2.eB he
theorem vX(i:Nat){x:Str}{p:Pos}(hb:φ.bor i=false)(hN:X.N[i]? =some x:=by rfl)(hv:Vis X.env.scope x:=by first|exact Or.inl rfl|exact Or.inr (Or.inl rfl)|exact Or.inr (Or.inr rfl))(hd:(x==("__debug__":Str))=false:=by decide)
  (hcd:(x==("__classdict__":Str))=false:=by decide):QS X κ φ (.Return (some (.Name x p)) pos) (cN i):=by with_unfolding_all exact L2.vX i hb hN hv hd hcd
theorem eK{c:Expr}{a b:List Stmt}{tc:PSt->Option (Bool×PSt)}(hc:QTE X κ φ c tc)(ha:QSs X κ φ a f)(hb:QSs X κ φ b g):QS X κ φ (.If c a b pos) (fIf tc f g):=by with_unfolding_all exact L2.eK hc ha hb
end
section
variable{X:Cx}{φ:Fx}{pos:Pos}{body:List Stmt}{f:tz1}
theorem xD{κ:tz9}{φ:F0}(n:Nat){c:Expr}{tc:PSt->Option (Bool×PSt)}(hp:PassesOwn (model X.prog X.w) X.A X.env X.xe)(hc:QTE X κ φ c tc)(hb:QSs X κ φ body f):QS X κ φ (.While c body [] pos) (lT tc f n):=by with_unfolding_all exact L2.xD n hp hc hb
end
section
theorem QIP.v{X:Cx}{κ:tz9}{tg iter:Expr}{f:tz3}(h:QIP X κ tg iter f):QIV X κ tg iter f:=by with_unfolding_all exact L2.QIP.v h
end
section
variable{X:Cx}{κ:tz9}{tg l a b:Expr}{f:tz2}{g:tz3}{p pos:Pos}
theorem mH(hg:Gl X "range")(hm:X.mg "range"=none)(ha:QVA X κ [a] g)(hs:starEach [a] X.env=[(false,eval a X.env)]:=by rfl):QIP X κ tg (.Call (.Name "range" p) [a] [] pos) (eG g):=by with_unfolding_all exact L2.mH hg hm ha hs
theorem vC(hg:Gl X "range")(hm:X.mg "range"=none)(ha:QVA X κ [a,b] g)(hs:starEach [a,b] X.env=[(false,eval a X.env),(false,eval b X.env)]:=by rfl)(hs2:starEach [b] X.env=[(false,eval b X.env)]:=by rfl):QIP X κ tg (.Call (.Name "range" p) [a,b] [] pos) (fH g):=by with_unfolding_all exact L2.vC hg hm ha hs hs2
end
section
variable{X:Cx}{φ:Fx}{pos:Pos}{body:List Stmt}{f:tz1}
theorem qI{κ:tz9}{φ:F0}(i:Nat){x:Str}{px:Pos}{iter:Expr}{fi:tz3}(hp:PassesOwn (model X.prog X.w) X.A X.env X.xe)(hc:X.calm=true)(hN:X.N.Nodup)(hi:X.N[i]? =some x)(hx:Loc X.env.scope x)(hb:φ.bor i=false)(hm:φ.M i=false)
  (hit:PI X (.Name x px) iter (tIP X.K κ fi)) (hbd:QSs X κ φ body f) (hs:∀x,foldedSetIterable iter X.env x=pure x:=by intro _;rfl) (hf:X.fn x=true\/X.env.scope.names.lookup x=some .local:=by first|exact .inl rfl|exact .inr rfl|assumption):
  QS X κ φ (.For (.Name x px) iter body [] pos) (dG i fi f):=by with_unfolding_all exact L2.qI i hp hc hN hi hx hb hm hit hbd hs hf
theorem rY{κ:tz9}{φ:F0}(i j:Nat){x y:Str}{px py:Pos}(hp:PassesOwn (model X.prog X.w) X.A X.env X.xe)(hc:X.calm=true)(hN:X.N.Nodup)(hi:X.N[i]? =some x)(hx:Loc X.env.scope x)(hb:φ.bor i=false)(hm:φ.M i=false)(hj:φ.bor j=true)
  (hbd:QSs X κ φ body f) (hNj:X.N[j]? =some y:=by rfl) (hv:Vis X.env.scope y:=by first|exact Or.inl rfl|exact Or.inr (Or.inl rfl)|exact Or.inr (Or.inr rfl)) (hd:(y==("__debug__":Str))=false:=by decide)
  (hcd:(y==("__classdict__":Str))=false:=by decide) (hs:∀x,foldedSetIterable (.Name y py) X.env x=pure x:=by intro _;rfl) (hf:X.fn x=true\/X.env.scope.names.lookup x=some .local:=by first|exact .inl rfl|exact .inr rfl|assumption):
  QS X κ φ (.For (.Name x px) (.Name y py) body [] pos) (dG i (dI (aB j)) f):=by with_unfolding_all exact L2.rY i j hp hc hN hi hx hb hm hj hbd hNj hv hd hcd hs hf
end
section
variable{P:Program}{w:World}{K:tz0}{mg:tzA}{base:Heap}{κ:tz9}
theorem gQ{x qual:Str}{st:Stmt}{f:Addr}{fd:FuncData}{N ps:List Str}{k:Nat}{fb:tz1}(F:Fun K x qual st f fd)(S:FnScope N ps (aY st))
  (hbody:∀(cdv:Value) (A:Around) (outer:List Env) (s:Shared) (H:Hp) (E:XK) (B:Nat->Addr->Prop),Room k (A.deeper (envOfC qual (aY st) s.heap.objs.size f cdv))->
   QSs (gG CX0 P w K mg base N qual (aY st) f cdv A outer s H E).nox κ (f0P ps.length B) (dF st) fb):
  FnOk P w K mg base CX0 (k+1) f fd ps (SpP ps.length K κ (gP ps.length (N.length-ps.length) fb)):=by with_unfolding_all exact L2.gQ F S hbody
end
section
variable{X:Cx}{κ:tz9}{e:Expr}{es:List Expr}{g:tz3}{pos p:Pos}
theorem iS{x:Str}{st:Stmt}{ps:List Str}{f:Addr}{fd:FuncData}{k np:Nat}{h:tz6}(Dd:Dn X.K X.mg x st ps f fd)(G:FnOk X.prog X.w X.K X.mg X.base CX0 k f fd ps (SpP np X.K κ h))(hr:Room k X.A)(hg:Gl X x)(hnp:(e::es).length=np)(ha:QVA X κ (e::es) g)
  (hlen:∀ps ds,g ps=some ds->ds.length=(e::es).length)
  (hdb:(x==("__debug__":Str))=false:=by decide) (he:starEach (e::es) X.env=(false,eval e X.env)::starEach es X.env:=by rfl) (hpl:(backTo pos (starEach es X.env)).any (·.1)=false:=by rfl):
  QP X κ (.Call (.Name x p) (e::es) [] pos) (aE h g):=by with_unfolding_all exact L2.iS Dd G hr hg hnp ha hlen hdb he hpl
end
section
variable{X:Cx}{κ:tz9}{sc:Scope}{NX N:List Str}{pick:List (Option Nat)}{elt iter:Expr}{ifs:List Expr}{scope:Scope}{pos px:Pos}{x:Str}{fi:tz3}{ft:tz4}{fe:tz2}
theorem za6{X:Cx}:PTs X [] (tQ X.K κ yC):=by with_unfolding_all exact L2.za6
theorem za7(S:CScope sc NX N pick scope)(hsc:X.env.scope=sc)(hNX:X.N=NX)(hc:X.calm=true)(hi:QIV X κ (.Name x px) iter fi)
  (hg:∀cl fp s H,PG (cxB X N scope cl fp s H) (.Name x px) (oM 0)) (ht:∀cl fp s H,PTs (cxB X N scope cl fp s H) ifs (tQ X.K κ ft)) (he:∀cl fp s H,PE (cxB X N scope cl fp s H) elt (tP X.K κ fe))
  (hs:∀x,foldedSetIterable iter X.env x=pure x:=by intro _;rfl):QP X κ (.ListComp elt [⟨.Name x px,iter,ifs,0⟩] scope pos) (zi9 pick fi ft fe):=by with_unfolding_all exact L2.za7 S hsc hNX hc hi hg ht he hs
end
section
variable{X:Cx}{φ:F0}{κ:tz9}{K:tz0}{o e a b:Expr}{f fb fe:tz2}{g:tz3}{pf:PSt->Option (List Ps1)}{j:Nat}{pos apos:Pos}
theorem cR(j:Nat){x:Str}(hN:X.N[j]? =some x:=by rfl)(hv:Vis X.env.scope x:=by first|exact Or.inl rfl|exact Or.inr (Or.inl rfl)|exact Or.inr (Or.inr rfl))(hd:(x==("__debug__":Str))=false:=by decide)
  (hcd:(x==("__classdict__":Str))=false:=by decide):PE X (.Name x pos) (iJ K κ j aU):=by with_unfolding_all exact L2.cR j hN hv hd hcd
theorem iM(ha:PE X a (iJ X.K κ j pf))(hb:QV X κ b fb)(hs:pD b:=by exact fun _ _=>rfl):PE X (.Subscript a b pos) (iJ X.K κ j (bP j pf fb)):=by with_unfolding_all exact L2.iM ha hb hs
theorem jT{C fn:Str}(hc:Cls X.K (κ C))(hna:dZ X.K (κ C) fn)(ha:PE X a (iJ X.K κ j pf))(hb:attributeBase a fn X.env (eval a X.env)=eval a X.env:=by rfl):PE X (.Attribute a fn pos) (iJ X.K κ j (dR j pf C fn)):=by with_unfolding_all exact L2.jT hc hna ha hb
theorem gC(hb:φ.bor j=false)(ho:PE X o (iJ X.K κ j pf))(ha:PA X [e] (tPA X.K κ g))
  (hbase:attributeBase o "append" X.env (eval o X.env)=eval o X.env:=by rfl)
  (hfew:((backTo pos (starEach [e] X.env)).all (fun x=> !x.1)&&(backToKw pos (keywordEach [] X.env)).all (fun x=>x.1.isSome)
   &&decide ([e].length+([]:List Keyword).length+(if ([]:List Keyword).isEmpty then 0 else 1)<30))=true:=by rfl)
  (hline:(apos.endLine==pos.line)=true:=by rfl) (hs:starEach [e] X.env=(false,eval e X.env)::starEach [] X.env:=by rfl) (hplain:(backTo pos (starEach [] X.env)).any (·.1)=false:=by rfl):
  QE X κ φ (.Call (.Attribute o "append" apos) [e] [] pos) (bH j pf g aL):=by with_unfolding_all exact L2.gC hb ho ha hbase hfew hline hs hplain
end
section
variable{X:Cx}{φ:F0}{κ:tz9}{K:tz0}{o e a b:Expr}{f fi fe:tz2}{g:tz3}{pf:PSt->Option (List Ps1)}{j:Nat}{pos apos:Pos}
theorem sA(hb:φ.bor j=false)(ho:PE X o (iJ X.K κ j pf))
  (hbase:attributeBase o "pop" X.env (eval o X.env)=eval o X.env:=by rfl) (hline:(apos.endLine==pos.line)=true:=by rfl):QE X κ φ (.Call (.Attribute o "pop" apos) [] [] pos) (bH j pf aC bZ):=by with_unfolding_all exact L2.sA hb ho hbase hline
theorem qK{i:Expr}(hb:φ.bor j=false)(he:PE X e (tP X.K κ fe))(ho:PE X o (iJ X.K κ j pf))(hi:PE X i (tV X.K κ fi))(hs:swapsWithSole [.Subscript o i apos] e pos.line X.env=pure false:=by rfl)(hw:swappedStores [.Subscript o i apos] e X.env=pure none:=by rfl)
  (h1:(assignEach [.Subscript o i apos] X.env).map (·.2)=[assign (.Subscript o i apos) X.env]:=by rfl)
  (ha:∀v,assign (.Subscript o i apos) X.env v=(do
   let ov<-holding [v] (eval o X.env)
   let iv<-holding [v,ov] (eval i X.env)
   standAt apos
   holding [v,ov,iv] (setItem ov iv v)
   release [v,ov,iv] []):=by intro _;rfl):QS X κ φ (.Assign [.Subscript o i apos] e pos) (cA j pf fi fe):=by with_unfolding_all exact L2.qK hb he ho hi hs hw h1 ha
end
section
variable{X:Cx}{κ:tz9}{φ:F0}{es:List Expr}{pos p:Pos}{k:Nat}{is:List Nat}{e:Expr}{f:tz8}
theorem rC(hc:X.calm=true)(hg:PGs X es (zT is))(he:QE X κ φ e f)(hb:∀i∈is,φ.bor i=false/\φ.M i=false)(hn:(assignEach es X.env).length=is.length:=by rfl)(hst:(assignEach es X.env).findIdx? (·.1)=none:=by rfl)
  (hs:swapsWithSole [.Tuple es k p] e pos.line X.env=pure false:=by rfl) (hw:swappedStores [.Tuple es k p] e X.env=pure none:=by rfl)
  (h1:(assignEach [.Tuple es k p] X.env).map (·.2)=[assign (.Tuple es k p) X.env]:=by rfl):QS X κ φ (.Assign [.Tuple es k p] e pos) (eZ is f):=by with_unfolding_all exact L2.rC hc hg he hb hn hst hs hw h1
end
section
variable{X:Cx}{κ:tz9}{a b:Expr}{fa fb:tz2}{pos:Pos}
theorem sB(hu:X.A.units+1<cLine)(ha:QP X κ a fa)(hb:QV X κ b fb)(hs:yB b:=by exact fun _ _=>rfl):QP X κ (.Subscript a b pos) (f2 cP fa fb):=by with_unfolding_all exact L2.sB hu ha hb hs
theorem sC{keys:List (Option Expr)}{values:List Expr}{l:List (Str×(tz2))}(h:PPs X pos keys values (trP X.K κ l))(hnd:(l.map (·.1)).Nodup)(hlen:l.length<=15)(hall:keys.all (·.isSome)=true:=by rfl)(hl:keys.length=values.length:=by rfl)(h0:keys≠[]:=by simp)(h15:keys.length<=15:=by decide):
  QP X κ (.Dict keys values pos) (dE l):=by with_unfolding_all exact L2.sC h hnd hlen hall hl h0 h15
end
section
variable{P:Program}{w:World}{K:tz0}{mg:tzA}{base:Heap}{κ:tz9}
theorem tH{x qual:Str}{st:Stmt}{f:Addr}{fd:FuncData}{N ps:List Str}{k:Nat}{fb:tz1}{m:Nat->Bool}(F:Fun K x qual st f fd)(S:FnScope N ps (aY st))(hm:∀i,m i=true->i<ps.length)
  (hbody:∀(cdv:Value) (A:Around) (outer:List Env) (s:Shared) (H:Hp) (E:XK),Room k (A.deeper (envOfC qual (aY st) s.heap.objs.size f cdv))->
   QSs (gG CX0 P w K mg base N qual (aY st) f cdv A outer s H E).nox κ (f0E ps.length m) (dF st) fb):
  FnOk P w K mg base CX0 (k+1) f fd ps (SpE ps.length K κ m (gE ps.length (N.length-ps.length) m fb)):=by with_unfolding_all exact L2.tH F S hm hbody
end
section
variable{X:Cx}{φ:F0}{κ:tz9}{e:Expr}{es:List Expr}{as:List L2.Arg}{f:tz2}{pos p:Pos}
theorem lW:PA X [] (tIO X.K κ []):=by with_unfolding_all exact L2.lW
theorem sD(j:Nat){x:Str}(hr:PA X es (tIO X.K κ as))(hN:X.N[j]? =some x:=by rfl)(hv:Vis X.env.scope x:=by first|exact Or.inl rfl|exact Or.inr (Or.inl rfl)|exact Or.inr (Or.inr rfl))(hd:(x==("__debug__":Str))=false:=by decide)
  (hcd:(x==("__classdict__":Str))=false:=by decide) (hs:starEach (.Name x pos::es) X.env=(false,eval (.Name x pos) X.env)::starEach es X.env:=by rfl):PA X (.Name x pos::es) (tIO X.K κ (.io j::as)):=by with_unfolding_all exact L2.sD j hr hN hv hd hcd hs
theorem pN(ha:QV X κ e f)(hr:PA X es (tIO X.K κ as))(hs:starEach (e::es) X.env=(false,eval e X.env)::starEach es X.env:=by rfl):PA X (e::es) (tIO X.K κ (.im f::as)):=by with_unfolding_all exact L2.pN ha hr hs
theorem zi6{x:Str}{st:Stmt}{ps:List Str}{fa:Addr}{fd:FuncData}{k np:Nat}{m:Nat->Bool}{g:tz7}(Dd:Dn X.K X.mg x st ps fa fd)(G:FnOk X.prog X.w X.K X.mg X.base CX0 k fa fd ps (SpE np X.K κ m g))(hr:Room k X.A)(hg:Gl X x)(ha:PA X (e::es) (tIO X.K κ as))
  (hnp:np=as.length) (hm:m=mM as) (nd:(slots as).Nodup) (hb:∀j∈slots as,φ.bor j=false)
  (hdb:(x==("__debug__":Str))=false:=by decide) (he:starEach (e::es) X.env=(false,eval e X.env)::starEach es X.env:=by rfl) (hpl:(backTo pos (starEach es X.env)).any (·.1)=false:=by rfl):
  QE X κ φ (.Call (.Name x p) (e::es) [] pos) (fIO as g):=by with_unfolding_all exact L2.zi6 Dd G hr hg ha hnp hm nd hb hdb he hpl
end
section
theorem iN{X:Cx}{κ:tz9}{es:List Expr}{ds:List D}(h:AreD es ds):QPA X κ es (fKs ds):=by with_unfolding_all exact L2.iN h
end
section
variable{X:Cx}{κ:tz9}{tg b:Expr}{fb:tz2}{pos p:Pos}{x:Str}{a:Addr}{ks:List Key}{ds:List D}
theorem zb2(hg:Gl X x)(hm:X.mg x=some (.ref a))(hk:uI X.prog X.w X.K κ a ks ds)(hb:QV X κ b fb)(hs:yB b:=by exact fun _ _=>rfl)(hdb:(x==("__debug__":Str))=false:=by decide):QV X κ (.Subscript (.Name x p) b pos) (f2 cP (fC (.dic false ks ds)) fb):=by with_unfolding_all exact L2.zb2 hg hm hk hb hs hdb
end
section
variable{X:Cx}{κ:tz9}{o e:Expr}{C fn:Str}{fo:tz2}{pos:Pos}
theorem iO(hc:Cls X.K (κ C))(hna:dZ X.K (κ C) fn)(ho:QV X κ o fo)(hb:attributeBase o fn X.env (eval o X.env)=eval o X.env:=by rfl):QV X κ (.Attribute o fn pos) (dJ C fn fo):=by with_unfolding_all exact L2.iO hc hna ho hb
end
section
variable{X:Cx}{κ:tz9}{φ:F0}{o e:Expr}{C fn:Str}{j:Nat}{pf:PSt->Option (List Ps1)}{fe:tz2}{pos pos':Pos}
theorem kK(hc:Cls X.K (κ C))(hna:dZ X.K (κ C) fn)(hb:φ.bor j=false)(he:PE X e (tP X.K κ fe))(ho:PE X o (iJ X.K κ j pf))(hs:swapsWith e (some (.Attribute o fn pos')) pos.line X.env=pure false:=by rfl):
  QS X κ φ (.Assign [.Attribute o fn pos'] e pos) (cW j pf C fn fe):=by with_unfolding_all exact L2.kK hc hna hb he ho hs
end
section
variable{X:Cx}{κ:tz9}{o e:Expr}{es:List Expr}{C m qual:Str}{st:Stmt}{ps:List Str}{f:Addr}{fd:FuncData}{k np:Nat}{h:tz6}{fo:tz2}{g:tz3}{apos pos p:Pos}{pl:Sem Bool}
theorem sE(M:Mn X.K κ C m qual st ps f fd)(G:FnOk X.prog X.w X.K X.mg X.base CX0 k f fd ps (SpP np X.K κ h))(hr:Room k X.A)(ho:QV X κ o fo)(hnp:(e::es).length+1=np)(ha:QVA X κ (e::es) g)(hlen:∀ps ds,g ps=some ds->ds.length=(e::es).length)
  (hst:starEach (e::es) X.env=(false,eval e X.env)::starEach es X.env:=by rfl) (hpl:(backTo pos (starEach es X.env)).any (·.1)=false:=by rfl)
  (ht:eval (.Call (.Attribute o m apos) (e::es) [] pos) X.env=(do
   let ov<-eval o X.env
   standAt apos.atName
   let (f,first)<-holding [ov] (getMethod ov m pl)
   callWith pos f first (backTo pos (starEach (e::es) X.env)) (backToKw pos (keywordEach [] X.env))):=by rfl):
  QP X κ (.Call (.Attribute o m apos) (e::es) [] pos) (aE h (aA (dA C m fo) g)):=by with_unfolding_all exact L2.sE M G hr ho hnp ha hlen hst hpl ht
theorem qM(M:Mn X.K κ C m qual st ps f fd)(G:FnOk X.prog X.w X.K X.mg X.base CX0 k f fd ps (SpP 1 X.K κ h))(hr:Room k X.A)(ho:QV X κ o fo)
  (ht:eval (.Call (.Attribute o m apos) [] [] pos) X.env=(do
   let ov<-eval o X.env
   standAt apos.atName
   let (f,first)<-holding [ov] (getMethod ov m pl)
   callWith pos f first (backTo pos (starEach [] X.env)) (backToKw pos (keywordEach [] X.env))):=by rfl):
  QP X κ (.Call (.Attribute o m apos) [] [] pos) (aE h (aA (dA C m fo) aC)):=by with_unfolding_all exact L2.qM M G hr ho ht
end
section
variable{X:Cx}{κ:tz9}{φ:F0}{o e:Expr}{es:List Expr}{C m qual:Str}{st:Stmt}{ps:List Str}{f:Addr}{fd:FuncData}{k np j:Nat}{mk:Nat->Bool}{g:tz7}{pf:PSt->Option (List Ps1)}{as:List L2.Arg}{apos pos p:Pos}{pl:Sem Bool}
theorem sF(M:Mn X.K κ C m qual st ps f fd)(G:FnOk X.prog X.w X.K X.mg X.base CX0 k f fd ps (SpE np X.K κ mk g))(hr:Room k X.A)(hb:φ.bor j=false)(ho:PE X o (iJ X.K κ j pf))(ha:PA X (e::es) (tIO X.K κ as))(has:rF as=true)(hnp:np=as.length+1)(hm:mk=jP)
  (hst:starEach (e::es) X.env=(false,eval e X.env)::starEach es X.env:=by rfl) (hpl:(backTo pos (starEach es X.env)).any (·.1)=false:=by rfl)
  (ht:eval (.Call (.Attribute o m apos) (e::es) [] pos) X.env=(do
   let ov<-eval o X.env
   standAt apos.atName
   let (f,first)<-holding [ov] (getMethod ov m pl)
   callWith pos f first (backTo pos (starEach (e::es) X.env)) (backToKw pos (keywordEach [] X.env))):=by rfl):
  QE X κ φ (.Call (.Attribute o m apos) (e::es) [] pos) (bH j pf (cI as) (kW C m g)):=by with_unfolding_all exact L2.sF M G hr hb ho ha has hnp hm hst hpl ht
theorem xI(M:Mn X.K κ C m qual st ps f fd)(G:FnOk X.prog X.w X.K X.mg X.base CX0 k f fd ps (SpE 1 X.K κ mk g))(hr:Room k X.A)(hb:φ.bor j=false)(ho:PE X o (iJ X.K κ j pf))(hm:mk=jP)
  (ht:eval (.Call (.Attribute o m apos) [] [] pos) X.env=(do
   let ov<-eval o X.env
   standAt apos.atName
   let (f,first)<-holding [ov] (getMethod ov m pl)
   callWith pos f first (backTo pos (starEach [] X.env)) (backToKw pos (keywordEach [] X.env))):=by rfl):
  QE X κ φ (.Call (.Attribute o m apos) [] [] pos) (bH j pf aC (kW C m g)):=by with_unfolding_all exact L2.xI M G hr hb ho hm ht
end
section
variable{X:Cx}{κ:tz9}{e:Expr}{es:List Expr}{C qual:Str}{st:Stmt}{ps:List Str}{f:Addr}{fd:FuncData}{k np:Nat}{mk:Nat->Bool}{g:tz7}{as:List L2.Arg}{pos p:Pos}
theorem wA(Kd:Kn X.K X.mg κ C qual st ps f fd)(G:FnOk X.prog X.w X.K X.mg X.base CX0 k f fd ps (SpE np X.K κ mk g))(hr:Room (k+1) X.A)(hg:Gl X C)(ha:PA X (e::es) (tIO X.K κ as))(has:rF as=true)(hnp:np=as.length+1)(hm:mk=jP)
  (hdb:(C==("__debug__":Str))=false:=by decide) (he:starEach (e::es) X.env=(false,eval e X.env)::starEach es X.env:=by rfl) (hpl:(backTo pos (starEach es X.env)).any (·.1)=false:=by rfl):
  QP X κ (.Call (.Name C p) (e::es) [] pos) (eD C (cI as) g):=by with_unfolding_all exact L2.wA Kd G hr hg ha has hnp hm hdb he hpl
theorem tL(Kd:Kn X.K X.mg κ C qual st ps f fd)(G:FnOk X.prog X.w X.K X.mg X.base CX0 k f fd ps (SpE 1 X.K κ mk g))(hr:Room (k+1) X.A)(hg:Gl X C)(hm:mk=jP)
  (hdb:(C==("__debug__":Str))=false:=by decide):
  QP X κ (.Call (.Name C p) [] [] pos) (eD C aC g):=by with_unfolding_all exact L2.tL Kd G hr hg hm hdb
end
section
variable{X:Cx}{κ:tz9}{i:Expr}{fa:tz2}{pos p:Pos}{x:Str}{a:Addr}{ks:List Key}{ds:List D}
theorem zA(hg:Gl X x)(hm:X.mg x=some (.ref a))(hk:uI X.prog X.w X.K κ a ks ds)(ha:QV X κ i fa)(hdb:(x==("__debug__":Str))=false:=by decide)(hmk:behindInMarks .In (.Name x p)=false:=by rfl):QT X κ (.Compare i [.In] [.Name x p] pos) (fE ks fa):=by with_unfolding_all exact L2.zA hg hm hk ha hdb hmk
end
section
variable{Y:Cx}{C ea:Addr}{oe:Obj}{j:Nat}{bad:Str}{p bp pos:Pos}{b:Bool}
theorem wC{c:Expr}{cv:V}(hp:(ea,oe)∈Y.pn)(hc:oe.cls= .ref C)(k:KExc Y.K C)(hgi:Gl Y "isinstance")(hmi:Y.mg "isinstance"=none)(hN:Y.N[j]? =some bad)(hv:Vis Y.env.scope bad)(hcl:PE Y c (tC cv))(ho:∀u,dQ cv u->PySem.W.kitOne Y.K (.ref C) u=some b)
  (hd:(bad==("__debug__":Str))=false:=by decide) (hcd:(bad==("__classdict__":Str))=false:=by decide)
  (he:starEach [.Name bad bp,c] Y.env=(false,eval (.Name bad bp) Y.env)::starEach [c] Y.env:=by rfl) (he2:starEach [c] Y.env=(false,eval c Y.env)::starEach [] Y.env:=by rfl) (hpl:(backTo pos (starEach [c] Y.env)).any (·.1)=false:=by rfl):
  PE Y (.Call (.Name "isinstance" p) [.Name bad bp,c] [] pos) (rP j ea b):=by with_unfolding_all exact L2.wC hp hc k hgi hmi hN hv hcl ho hd hcd he he2 hpl
theorem xK{c1 c2:Expr}{v1 v2:V}{tp:Pos}{ctx:Nat}(hp:(ea,oe)∈Y.pn)(hc:oe.cls= .ref C)(k:KExc Y.K C)(hgi:Gl Y "isinstance")(hmi:Y.mg "isinstance"=none)(hN:Y.N[j]? =some bad)(hv:Vis Y.env.scope bad)(h1:PE Y c1 (tC v1))(h2:PE Y c2 (tC v2))(ho:∀us,cV [v1,v2] us->PySem.W.kitAny Y.K (.ref C) us=some b)
  (hd:(bad==("__debug__":Str))=false:=by decide) (hcd:(bad==("__classdict__":Str))=false:=by decide)
  (he:starEach [.Name bad bp,.Tuple [c1,c2] ctx tp] Y.env=(false,eval (.Name bad bp) Y.env)::starEach [.Tuple [c1,c2] ctx tp] Y.env:=by rfl) (he2:starEach [.Tuple [c1,c2] ctx tp] Y.env=(false,eval (.Tuple [c1,c2] ctx tp) Y.env)::starEach [] Y.env:=by rfl)
  (he3:starEach [c1,c2] Y.env=(false,eval c1 Y.env)::starEach [c2] Y.env:=by rfl) (he4:starEach [c2] Y.env=(false,eval c2 Y.env)::starEach [] Y.env:=by rfl) (hpl:(backTo pos (starEach [.Tuple [c1,c2] ctx tp] Y.env)).any (·.1)=false:=by rfl):
  PE Y (.Call (.Name "isinstance" p) [.Name bad bp,.Tuple [c1,c2] ctx tp] [] pos) (rP j ea b):=by with_unfolding_all exact L2.xK hp hc k hgi hmi hN hv h1 h2 ho hd hcd he he2 he3 he4 hpl
end
section
variable{P:Program}{w:World}{K:tz0}{mg:tzA}{base:Heap}{κ:tz9}{C:Addr}
theorem wD{x qual:Str}{st:Stmt}{f:Addr}{fd:FuncData}{N ps:List Str}{k:Nat}{fx:PSt->Option Int}(F:Fun K x qual st f fd)(S:FnScope N ps (aY st))
  (hbody:∀(cdv:Value) (A:Around) (outer:List Env) (s:Shared) (H:Hp) (E:XK) (B:Nat->Addr->Prop),Room k (A.deeper (envOfC qual (aY st) s.heap.objs.size f cdv))->
   QNs (gG (CXn P w base C) P w K mg base N qual (aY st) f cdv A outer s H E) κ (f0P ps.length B) (ExN E C) (dF st) fx):
  FnOk P w K mg base (CXn P w base C) (k+1) f fd ps (rQ ps.length K κ C (gN ps.length (N.length-ps.length) fx)):=by with_unfolding_all exact L2.wD F S hbody
theorem zb8{x qual:Str}{st:Stmt}{f:Addr}{fd:FuncData}{N ps:List Str}{k:Nat}{fx:PSt->Option Int}{m:Nat->Bool}(F:Fun K x qual st f fd)(S:FnScope N ps (aY st))
  (hbody:∀(cdv:Value) (A:Around) (outer:List Env) (s:Shared) (H:Hp) (E:XK),Room k (A.deeper (envOfC qual (aY st) s.heap.objs.size f cdv))->
   QNs (gG (CXn P w base C) P w K mg base N qual (aY st) f cdv A outer s H E) κ (f0E ps.length m) (ExN E C) (dF st) fx):
  FnOk P w K mg base (CXn P w base C) (k+1) f fd ps (yD ps.length K κ m C (gN ps.length (N.length-ps.length) fx)):=by with_unfolding_all exact L2.zb8 F S hbody
end
section
variable{X:Cx}{κ:tz9}{φ:F0}{Ex:Int->Hp->Prop}{fx fy:PSt->Option Int}{st:Stmt}{bY l:List Stmt}{pos:Pos}
theorem sH{f:tz1}(h1:QS X.nox κ φ st f)(h2:QNs X κ φ Ex bY fx):QNs X κ φ Ex (st::bY) (oQ f fx):=by with_unfolding_all exact L2.sH h1 h2
theorem mX(h1:QN X κ φ Ex st fx):QNs X κ φ Ex (st::bY) fx:=by with_unfolding_all exact L2.mX h1
theorem zi7{c:Expr}{a b:List Stmt}{ft:tz4}(hc:QT X.nox κ c ft)(ha:QNs X κ φ Ex a fx):QN X κ φ Ex (.If c a b pos) (vL ft fx):=by with_unfolding_all exact L2.zi7 hc ha
theorem xL{f:tz1}(h1:QN X κ φ Ex st fx)(hs:QS X.nox κ φ st f)(h2:QNs X κ φ Ex bY fy):QNs X κ φ Ex (st::bY) (uJ fx (oQ f fy)):=by with_unfolding_all exact L2.xL h1 hs h2
theorem zb9{e:Expr}(he:QNe X κ φ Ex e fx)(hs:swapsWith e none pos.line X.env=pure false:=by rfl):QN X κ φ Ex (.Expr e pos) fx:=by with_unfolding_all exact L2.zb9 he hs
theorem zc0(i j:Nat){body:List Stmt}{f:tz1}{x y:Str}{px py:Pos}(hp:PassesOwn (model X.prog X.w) X.A X.env X.xe)(hc:X.calm=true)(hN:X.N.Nodup)(hi:X.N[i]? =some x)(hx:Loc X.env.scope x)(hb:φ.bor i=false)(hm:φ.M i=false)(hj:φ.bor j=true)
  (hbd:QSs X.nox κ φ body f) (hbx:QNs X κ φ Ex body fx) (hNj:X.N[j]? =some y:=by rfl) (hv:Vis X.env.scope y:=by first|exact Or.inl rfl|exact Or.inr (Or.inl rfl)|exact Or.inr (Or.inr rfl)) (hd:(y==("__debug__":Str))=false:=by decide)
  (hcd:(y==("__classdict__":Str))=false:=by decide) (hs:∀x,foldedSetIterable (.Name y py) X.env x=pure x:=by intro _;rfl) (hf:X.fn x=true\/X.env.scope.names.lookup x=some .local:=by first|exact .inl rfl|exact .inr rfl|assumption):
  QN X κ φ Ex (.For (.Name x px) (.Name y py) body [] pos) (rG i (dI (aB j)) f fx):=by with_unfolding_all exact L2.zc0 i j hp hc hN hi hx hb hm hj hbd hbx hNj hv hd hcd hs hf
end
section
variable{P:Program}{w:World}{K:tz0}{mg:tzA}{base:Heap}{N:List Str}{qual:Str}{scope:Scope}{f C:Addr}{cd:Value}{A:Around}{outer:List Env}{s:Shared}{H:Hp}{E:XK}{κ:tz9}{φ:F0}
theorem zc1{Cn m qual':Str}{st:Stmt}{ps:List Str}{fm:Addr}{fd:FuncData}{k:Nat}{g:List D->Option Int}{o:Expr}{fo:tz2}{apos pos pos':Pos}{pl:Sem Bool}(M:Mn K κ Cn m qual' st ps fm fd)(G:FnOk P w K mg base (CXn P w base C) k fm fd ps (rQ 1 K κ C g))
  (hr:Room k (A.deeper (envOfC qual scope s.heap.objs.size f cd))) (ho:QV (gG (CXn P w base C) P w K mg base N qual scope f cd A outer s H E).nox κ o fo)
  (ht:eval (.Call (.Attribute o m apos) [] [] pos) (envOfC qual scope s.heap.objs.size f cd)=(do
   let ov<-eval o (envOfC qual scope s.heap.objs.size f cd)
   standAt apos.atName
   let (f',first)<-holding [ov] (getMethod ov m pl)
   callWith pos f' first (backTo pos (starEach [] (envOfC qual scope s.heap.objs.size f cd))) (backToKw pos (keywordEach [] (envOfC qual scope s.heap.objs.size f cd)))):=by rfl):
  QN (gG (CXn P w base C) P w K mg base N qual scope f cd A outer s H E) κ φ (ExN E C) (.Return (some (.Call (.Attribute o m apos) [] [] pos)) pos') (uK Cn m fo g):=by with_unfolding_all exact L2.zc1 M G hr ho ht
theorem zc2{Cn m qual':Str}{st:Stmt}{ps:List Str}{fm:Addr}{fd:FuncData}{k np j:Nat}{mk:Nat->Bool}{g:List D->Option Int}{o e:Expr}{es:List Expr}{as:List L2.Arg}{pf:PSt->Option (List Ps1)}{apos pos:Pos}{pl:Sem Bool}(M:Mn K κ Cn m qual' st ps fm fd)(G:FnOk P w K mg base (CXn P w base C) k fm fd ps (yD np K κ mk C g))
  (hr:Room k (A.deeper (envOfC qual scope s.heap.objs.size f cd))) (hb:φ.bor j=false) (ho:PE (gG (CXn P w base C) P w K mg base N qual scope f cd A outer s H E).nox o (iJ K κ j pf)) (ha:PA (gG (CXn P w base C) P w K mg base N qual scope f cd A outer s H E).nox (e::es) (tIO K κ as)) (has:rF as=true) (hnp:np=as.length+1) (hm:mk=jP)
  (hst:starEach (e::es) (envOfC qual scope s.heap.objs.size f cd)=(false,eval e (envOfC qual scope s.heap.objs.size f cd))::starEach es (envOfC qual scope s.heap.objs.size f cd):=by rfl) (hpl:(backTo pos (starEach es (envOfC qual scope s.heap.objs.size f cd))).any (·.1)=false:=by rfl)
  (ht:eval (.Call (.Attribute o m apos) (e::es) [] pos) (envOfC qual scope s.heap.objs.size f cd)=(do
   let ov<-eval o (envOfC qual scope s.heap.objs.size f cd)
   standAt apos.atName
   let (f',first)<-holding [ov] (getMethod ov m pl)
   callWith pos f' first (backTo pos (starEach (e::es) (envOfC qual scope s.heap.objs.size f cd))) (backToKw pos (keywordEach [] (envOfC qual scope s.heap.objs.size f cd)))):=by rfl):
  QNe (gG (CXn P w base C) P w K mg base N qual scope f cd A outer s H E) κ φ (ExN E C) (.Call (.Attribute o m apos) (e::es) [] pos) (wO j pf (cI as) (oR Cn m g)):=by with_unfolding_all exact L2.zc2 M G hr hb ho ha has hnp hm hst hpl ht
theorem tR{x:Str}{a:Expr}{fa:tz2}{np cpos pos:Pos}{k:Nat}(O:NumI P w K mg base x C)(hg:Gl (gG (CXn P w base C) P w K mg base N qual scope f cd A outer s H E) x)(hr:Room (k+2) (A.deeper (envOfC qual scope s.heap.objs.size f cd)))
  (ha:QV (gG (CXn P w base C) P w K mg base N qual scope f cd A outer s H E).nox κ a fa) (hd:(x==("__debug__":Str))=false:=by decide) (hs:starEach [a] (envOfC qual scope s.heap.objs.size f cd)=[(false,eval a (envOfC qual scope s.heap.objs.size f cd))]:=by rfl):
  QN (gG (CXn P w base C) P w K mg base N qual scope f cd A outer s H E) κ φ (ExN E C) (.Raise (some (.Call (.Name x np) [a] [] cpos)) none pos) (nV fa):=by with_unfolding_all exact L2.tR O hg hr ha hd hs
end
section
variable{X:Cx}{κ:tz9}{a:Expr}{fa:tz2}{p1 p2 pos2 pos:Pos}
theorem zn4(hc:X.calm=true)(ha:QV X κ a fa)(hg1:Gl X "list")(hm1:X.mg "list"=none)(hg2:Gl X "reversed")(hm2:X.mg "reversed"=none)
  (hs1:starEach [.Call (.Name "reversed" p2) [a] [] pos2] X.env=(false,eval (.Call (.Name "reversed" p2) [a] [] pos2) X.env)::starEach [] X.env:=by rfl) (hs2:starEach [a] X.env=(false,eval a X.env)::starEach [] X.env:=by rfl):
  QP X κ (.Call (.Name "list" p1) [.Call (.Name "reversed" p2) [a] [] pos2] [] pos) (ya2 fa):=by with_unfolding_all exact L2.zn4 hc ha hg1 hm1 hg2 hm2 hs1 hs2
end
section
variable{Y:Cx}{C ea Da:Addr}{oe:Obj}{j:Nat}{bad:Str}{p bp pos ap:Pos}{n:Int}{b:Bool}
theorem zi8(hp:(ea,oe)∈Y.pn)(hc:oe.cls= .ref C)(hd:oe.dict=some Da)(hw:∃ws,oe.data= .fields ws)(k:KNum Y.K C)(hN:Y.N[j]? =some bad)(hv:Vis Y.env.scope bad)(hdb:(bad==("__debug__":Str))=false:=by decide)(hcd:(bad==("__classdict__":Str))=false:=by decide):
  PE Y (.Attribute (.Name bad bp) "at" ap) (tAt j ea Da n):=by with_unfolding_all exact L2.zi8 hp hc hd hw k hN hv hdb hcd
theorem zc3{κ:tz9}{x:Str}{st:Stmt}{ps:List Str}{f:Addr}{fd:FuncData}{k:Nat}{g:tz6}{e:Expr}(he:PE Y e (tAt j ea Da n))(hok:okN g n=true)(Dd:Dn Y.K Y.mg x st ps f fd)(G:FnOk Y.prog Y.w Y.K Y.mg Y.base CX0 k f fd ps (SpP 1 Y.K κ g))(hr:Room k Y.A)(hg:Gl Y x)
  (hdb:(x==("__debug__":Str))=false:=by decide) (hst:starEach [e] Y.env=(false,eval e Y.env)::starEach [] Y.env:=by rfl):PE Y (.Call (.Name x p) [e] [] pos) (ya3 j ea Da n true):=by with_unfolding_all exact L2.zc3 he hok Dd G hr hg hdb hst
theorem xM{f1 f2 f3 f4 f5:Expr}{a1 a2 a3 a4:List Expr}{t1 t2:List Stmt}{j0:Nat}{p0 np cp cp1 cp2 cp3 cp4 n1 n2 n4 op op2 ip ip2 rp:Pos}(hN:Y.N[j]? =some bad)(hv:Vis Y.env.scope bad)
  (h1:PE Y (.Call f1 a1 [] cp1) (rP j ea true)) (h2:PE Y (.Call f2 a2 [] cp2) (rP j ea true)) (h3:PE Y (.Call f3 a3 [] cp3) (rP j ea false)) (h4:PE Y (.Call f4 a4 [] cp4) (ya3 j ea Da n true)) (h5:PE Y f5 (tAt j ea Da n)) (hd:(bad==("__debug__":Str))=false:=by decide) (hcd:(bad==("__classdict__":Str))=false:=by decide):
  PSs Y [.If (.BoolOp .Or [.Compare (.Name bad np) [.Is] [.Constant .none j0 p0] cp,.UnaryOp .Not (.Call f1 a1 [] cp1) n1,.UnaryOp .Not (.Call f2 a2 [] cp2) n2] op) t1 [] ip,.If (.BoolOp .Or [.Call f3 a3 [] cp3,.UnaryOp .Not (.Call f4 a4 [] cp4) n4] op2) t2 [] ip2,.Return (some f5) rp] (zj1 j ea Da n):=by with_unfolding_all exact L2.xM hN hv h1 h2 h3 h4 h5 hd hcd
end
section
variable{X:Cx}{C C2:Addr}{κ:tz9}{φ:F0}
theorem xN{x x0 cx nm bad:Str}{i j:Nat}{st:Stmt}{bY:List Stmt}{ps:List Str}{fa:Addr}{fd:FuncData}{k np:Nat}{g:List D->Option Int}{ok:Int->Bool}{e:Expr}{es:List Expr}{ga:tz3}{p pos pos2 np' bp np2 ap p5 pos6:Pos}
  (Dd:Dn X.K X.mg x st ps fa fd) (G:FnOk X.prog X.w X.K X.mg X.base (CXn X.prog X.w X.base C) k fa fd ps (rQ np X.K κ C g)) (O:NumI X.prog X.w X.K X.mg X.base x0 C) (O2:NumI X.prog X.w X.K X.mg X.base cx C2) (up:PySem.W.mroIn X.K C (.ref C2)=some true)
  (hr:Room k X.A) (hg:Gl X x) (hgc:Gl X cx) (hnp:(e::es).length=np) (ha:QVA X.nox κ (e::es) ga) (hlen:∀ps ds,ga ps=some ds->ds.length=(e::es).length) (hstk:X.stack=X.env::X.outer) (hf:X.env.frame=some X.env.locals)
  (hN:X.N.Nodup) (hi:X.N[i]? =some nm) (hj:X.N[j]? =some bad) (hij:i≠j) (hkn:X.env.kindOf nm=some .local) (hkb:X.env.kindOf bad=some .local)
  (hrest:∀ea oe Da n,ok n=true->oe.cls= .ref C->oe.dict=some Da->(∃ws,oe.data= .fields ws)->PSs (X.nox.pinned ea oe) bY (zj1 j ea Da n))
  (hdb:(x==("__debug__":Str))=false:=by decide) (hdc:(cx==("__debug__":Str))=false:=by decide) (hdn:(nm==("__debug__":Str))=false:=by decide) (he:starEach (e::es) X.env=(false,eval e X.env)::starEach es X.env:=by rfl) (hpl:(backTo pos (starEach es X.env)).any (·.1)=false:=by rfl)
  (hs:swapsWith (.Call (.Name x p) (e::es) [] pos) none pos2.line X.env=pure false:=by rfl) (hsw:swapsWith (.Name nm np2) (some (.Name bad bp)) ap.line X.env=pure false:=by rfl):
  QSs X.nox κ φ (.Try [.Expr (.Call (.Name x p) (e::es) [] pos) pos2] [.ExceptHandler (some (.Name cx np')) (some nm) [.Assign [.Name bad bp] (.Name nm np2) ap] p5] [] [] pos6::bY) (ya4 g ok ga):=by with_unfolding_all exact L2.xN Dd G O O2 up hr hg hgc hnp ha hlen hstk hf hN hi hj hij hkn hkb hrest hdb hdc hdn he hpl hs hsw
end
end L3
namespace L3
open PySem PySem.Spec PyProof.Rows L2
def top(i:Nat):Stmt:=PySem.Challenge.pw_linepress_k08_rows_put_together.main.body.getD i (.Pass ⟨0,0,0,0⟩)
end L3
namespace My
open PySem PySem.Spec PyProof.Rows L2 L3
variable{P:Program}{w:World}{K:tz0}{mg:tzA}{base:Heap}{κ:tz9}
inductive Leaf where
 |word (x:Str)|gap (x:Str)|stop (c:Int)|fin
inductive Tk where
 |leaf (l:Leaf)|opn|cls|hng (n:Int)|bck|eit|orr|don
inductive Pc where
 |leaf (l:Leaf)|group (r:List Pc)|hang (n:Int) (r:List Pc)|either (rs:List (List Pc))
mutual
def jQ:Pc->List Tk
 | .leaf l=>[.leaf l]
 | .group r=> .opn::(dS r++[.cls])
 | .hang n r=> .hng n::(dS r++[.bck])
 | .either rs=> .eit::(pF rs++[.don])
def dS:List Pc->List Tk
 |[]=>[]
 |p::r=>jQ p++dS r
def pF:List (List Pc)->List Tk
 |[]=>[]
 |r::rs=>dS r++kA rs
def kA:List (List Pc)->List Tk
 |[]=>[]
 |r::rs=> .orr::(dS r++kA rs)
end
theorem vH:∀r s:List Pc,dS (r++s)=dS r++dS s
 |[],s=>rfl
 |p::r,s=>by
  show jQ p++dS (r++s)=(jQ p++dS r)++dS s
  rw [vH r s,List.append_assoc]
theorem yf5(p:Pc):dS [p]=jQ p:=by
 show jQ p++[]=jQ p
 rw [List.append_nil]
def lO:List (List Pc)->List Tk
 |[]=>[]
 |r::rs=>dS r++ .orr::lO rs
theorem uU:∀(rs:List (List Pc)) (p:List Pc),kA (rs++[p])= .orr::(lO rs++dS p)
 |[],p=>by
  show Tk.orr::(dS p++[])=Tk.orr::([]++dS p)
  rw [List.append_nil];rfl
 |r::rs,p=>by
  show Tk.orr::(dS r++kA (rs++[p]))=Tk.orr::((dS r++ .orr::lO rs)++dS p)
  rw [uU rs p,List.append_assoc];rfl
theorem zh5:∀(rs:List (List Pc)) (p:List Pc),pF (rs++[p])=lO rs++dS p
 |[],p=>by
  show dS p++[]=[]++dS p
  rw [List.append_nil];rfl
 |r::rs,p=>by
  show dS r++kA (rs++[p])=(dS r++ .orr::lO rs)++dS p
  rw [uU rs p,List.append_assoc];rfl
theorem zB:∀(rs:List (List Pc)) (p:List Pc),lO (rs++[p])=lO rs++(dS p++[.orr])
 |[],p=>by
  show dS p++ .orr::[]=[]++(dS p++[.orr])
  rfl
 |r::rs,p=>by
  show dS r++ .orr::lO (rs++[p])=(dS r++ .orr::lO rs)++(dS p++[.orr])
  rw [zB rs p,List.append_assoc];rfl
structure Fm where
 op:Option Tk
 full:List (List Pc)
 parts:List Pc
def opT:Option Tk->List Tk
 |none=>[]
 |some t=>[t]
def flat:List Fm->List Tk
 |[]=>[]
 |f::fs=>flat fs++(opT f.op++(lO f.full++dS f.parts))
def put(f:Fm)(p:Pc):Fm:={f with parts:=f.parts++[p]}
def step:List Fm->Tk->Option (List Fm)
 |f::fs,.leaf l=>some (put f (.leaf l)::fs)
 |fs,.opn=>some (⟨some .opn,[],[]⟩::fs)
 |fs,.hng n=>some (⟨some (.hng n),[],[]⟩::fs)
 |fs,.eit=>some (⟨some .eit,[],[]⟩::fs)
 |⟨some .eit,full,parts⟩::fs,.orr=>some (⟨some .eit,full++[parts],[]⟩::fs)
 |⟨some .opn,_,parts⟩::g::fs,.cls=>some (put g (.group parts)::fs)
 |⟨some (.hng n),_,parts⟩::g::fs,.bck=>some (put g (.hang n parts)::fs)
 |⟨some .eit,full,parts⟩::g::fs,.don=>if full=[] then none else some (put g (.either (full++[parts]))::fs)
 |_,_=>none
def Fm.ok(f:Fm):Prop:=f.op≠some .eit->f.full=[]
theorem tT(g:Fm)(p:Pc)(fs:List Fm):flat (put g p::fs)=flat (g::fs)++jQ p:=by
 show flat fs++(opT g.op++(lO g.full++dS (g.parts++[p])))=(flat fs++(opT g.op++(lO g.full++dS g.parts)))++jQ p
 rw [vH,yf5]
 simp only [List.append_assoc]
theorem zf4{fs fs':List Fm}{t:Tk}(hok:∀f∈fs,f.ok)(h:step fs t=some fs'):flat fs'=flat fs++[t]/\∀f∈fs',f.ok:=by
 unfold step at h
 split at h
 ·cases h
  rename_i f fs l
  refine⟨by rw [tT];rfl,fun g hg=> ?_⟩
  rcases List.mem_cons.mp hg with rfl|hg
  ·exact fun hn=>hok f List.mem_cons_self hn
  ·exact hok g (List.mem_cons_of_mem _ hg)
 ·cases h
  refine⟨rfl,fun g hg=> ?_⟩
  rcases List.mem_cons.mp hg with rfl|hg
  ·exact fun _=>rfl
  ·exact hok g hg
 ·cases h
  refine⟨rfl,fun g hg=> ?_⟩
  rcases List.mem_cons.mp hg with rfl|hg
  ·exact fun _=>rfl
  ·exact hok g hg
 ·cases h
  refine⟨rfl,fun g hg=> ?_⟩
  rcases List.mem_cons.mp hg with rfl|hg
  ·exact fun _=>rfl
  ·exact hok g hg
 ·cases h
  rename_i full parts fs
  refine⟨?_,fun g hg=> ?_⟩
  ·show flat fs++(opT (some .eit)++(lO (full++[parts])++[]))=(flat fs++(opT (some .eit)++(lO full++dS parts)))++[.orr]
   rw [zB]
   simp only [List.append_assoc,List.append_nil]
  ·rcases List.mem_cons.mp hg with rfl|hg
   ·exact fun hn=>absurd rfl hn
   ·exact hok g (List.mem_cons_of_mem _ hg)
 ·cases h
  rename_i full parts g fs
  have e:full=[]:=hok _ List.mem_cons_self (by simp)
  subst e
  refine⟨?_,fun x hx=> ?_⟩
  ·rw [tT]
   show flat (g::fs)++(.opn::(dS parts++[.cls]))=(flat (g::fs)++([.opn]++([]++dS parts)))++[.cls]
   simp only [List.append_assoc,List.nil_append,List.cons_append]
  ·rcases List.mem_cons.mp hx with rfl|hx
   ·exact hok g (by simp)
   ·exact hok x (by simp [hx])
 ·cases h
  rename_i n full parts g fs
  have e:full=[]:=hok _ List.mem_cons_self (by simp)
  subst e
  refine⟨?_,fun x hx=> ?_⟩
  ·rw [tT]
   show flat (g::fs)++(.hng n::(dS parts++[.bck]))=(flat (g::fs)++([.hng n]++([]++dS parts)))++[.bck]
   simp only [List.append_assoc,List.nil_append,List.cons_append]
  ·rcases List.mem_cons.mp hx with rfl|hx
   ·exact hok g (by simp)
   ·exact hok x (by simp [hx])
 ·rename_i full parts g fs
  split at h
  ·cases h
  ·cases h
   refine⟨?_,fun x hx=> ?_⟩
   ·rw [tT]
    show flat (g::fs)++(.eit::(pF (full++[parts])++[.don]))=(flat (g::fs)++([.eit]++(lO full++dS parts)))++[.don]
    rw [zh5]
    simp only [List.append_assoc,List.nil_append,List.cons_append]
   ·rcases List.mem_cons.mp hx with rfl|hx
    ·exact hok g (by simp)
    ·exact hok x (by simp [hx])
 ·cases h
def run(fs:List Fm):List Tk->Option (List Fm)
 |[]=>some fs
 |t::ts=>(step fs t).bind fun fs'=>run fs' ts
theorem oG:∀(ts us:List Tk) (fs:List Fm),run fs (ts++us)=(run fs ts).bind fun fs'=>run fs' us
 |[],us,fs=>rfl
 |t::ts,us,fs=>by
  show(step fs t).bind (fun fs'=>run fs' (ts++us))=((step fs t).bind fun fs'=>run fs' ts).bind fun fs'=>run fs' us
  cases step fs t with
  |none=>rfl
  |some g=>exact oG ts us g
theorem xO:∀{ts:List Tk} {fs fs':List Fm},(∀f∈fs,f.ok)->run fs ts=some fs'->flat fs'=flat fs++ts/\∀f∈fs',f.ok
 |[],fs,fs',hok,h=>by cases h;exact⟨by simp,hok⟩
 | t::ts,fs,fs',hok,h=>by
  have h':(step fs t).bind (fun g=>run g ts)=some fs':=h
  cases e:step fs t with
  |none=>rw [e] at h';cases h'
  |some g=>
   rw [e] at h'
   obtain⟨h1,h2⟩:=zf4 hok e
   obtain⟨h3,h4⟩:=xO h2 h'
   exact⟨by rw [h3,h1,List.append_assoc];rfl,h4⟩
def fU:Fm:=⟨none,[],[]⟩
theorem yt2{ts:List Tk}{r:List Pc}{fl:List (List Pc)}(h:run [fU] ts=some [⟨none,fl,r⟩]):dS r=ts:=by
 have hok:∀f∈[fU],f.ok:=fun f hf=>by rw [List.mem_singleton.mp hf];exact fun _=>rfl
 obtain⟨h1,h2⟩:=xO hok h
 have e:fl=[]:=h2 _ List.mem_cons_self (by simp)
 subst e
 have h3:[]++([]++([]++dS r))=([]++([]++([]++[])):List Tk)++ts:=h1
 simpa using h3
mutual
def nD:Pc->Nat
 | .leaf _=>0
 | .group r=>eP r+1
 | .hang _ r=>eP r+1
 | .either rs=>gT rs+1
def eP:List Pc->Nat
 |[]=>0
 |p::r=>max (nD p) (eP r)
def gT:List (List Pc)->Nat
 |[]=>0
 |r::rs=>max (eP r) (gT rs)
end
theorem zf5:∀(r:List Pc) (p:Pc),eP (r++[p])=max (eP r) (nD p)
 |[],p=>by
  exact Nat.max_comm (nD p) 0
 |q::r,p=>by
  show max (nD q) (eP (r++[p]))=max (max (nD q) (eP r)) (nD p)
  rw [zf5 r p,Nat.max_assoc]
theorem tU:∀(rs:List (List Pc)) (r:List Pc),gT (rs++[r])=max (gT rs) (eP r)
 |[],r=>by
  exact Nat.max_comm (eP r) 0
 |q::rs,r=>by
  show max (eP q) (gT (rs++[r]))=max (max (eP q) (gT rs)) (eP r)
  rw [tU rs r,Nat.max_assoc]
def yE(m:Nat):List Fm->Prop
 |[]=>True
 |f::fs=>eP f.parts+fs.length<=m/\gT f.full+fs.length<=m/\yE m fs
theorem tW{m:Nat}{g:Fm}{fs:List Fm}{p:Pc}(h:yE m (g::fs))(hp:nD p+fs.length<=m):yE m (put g p::fs):=by
 refine⟨?_,h.2.1,h.2.2⟩
 show eP (g.parts++[p])+fs.length<=m
 rw [zf5]
 have:=h.1
 omega
theorem mJ{m:Nat}{fs fs':List Fm}{t:Tk}(hd:yE m fs)(hl:fs'.length<=m+1)(h:step fs t=some fs'):yE m fs':=by
 unfold step at h
 split at h
 ·cases h
  exact tW hd (by have:=hd.1;show 0+_<=m;omega)
 ·cases h
  simp only [List.length_cons] at hl
  exact⟨by show 0+_<=m;omega,by show 0+_<=m;omega,hd⟩
 ·cases h
  simp only [List.length_cons] at hl
  exact⟨by show 0+_<=m;omega,by show 0+_<=m;omega,hd⟩
 ·cases h
  simp only [List.length_cons] at hl
  exact⟨by show 0+_<=m;omega,by show 0+_<=m;omega,hd⟩
 ·cases h
  rename_i full parts fs
  refine⟨?_,?_,hd.2.2⟩
  ·have:=hd.1
   show 0+_<=m
   omega
  ·show gT (full++[parts])+fs.length<=m
   rw [tU]
   have h1:eP parts+fs.length<=m:=hd.1
   have h2:gT full+fs.length<=m:=hd.2.1
   omega
 ·cases h
  rename_i full parts g fs
  refine tW hd.2.2 ?_
  have h1:eP parts+(fs.length+1)<=m:=hd.1
  show eP parts+1+fs.length<=m
  omega
 ·cases h
  rename_i n full parts g fs
  refine tW hd.2.2 ?_
  have h1:eP parts+(fs.length+1)<=m:=hd.1
  show eP parts+1+fs.length<=m
  omega
 ·rename_i full parts g fs
  split at h
  ·cases h
  ·cases h
   refine tW hd.2.2 ?_
   have h1:eP parts+(fs.length+1)<=m:=hd.1
   have h2:gT full+(fs.length+1)<=m:=hd.2.1
   show gT (full++[parts])+1+fs.length<=m
   rw [tU]
   omega
 ·cases h
def pG(g:Fm)(r:List Pc):Fm:={g with parts:=g.parts++r}
theorem zu2(g:Fm)(r:List Pc)(p:Pc):put (pG g r) p=pG g (r++[p]):=by
 unfold put pG
 simp only [List.append_assoc]
def nO(g:Fm)(gs:List Fm):List Fm->Option (List Fm)
 |[]=>none
 |[f]=>if f.op=none then some (pG g f.parts::gs) else none
 |f::f'::fs=>(nO g gs (f'::fs)).map (f::·)
theorem yf6{g:Fm}{gs:List Fm}:∀{fs fs':List Fm} {o:List Fm} {t:Tk},nO g gs fs=some o->step fs t=some fs'->∃o',nO g gs fs'=some o'/\step o t=some o'
 |[],fs',o,t,h,_=>by cases h
 | [f],fs',o,t,h,hs=>by
  have h':(if f.op=none then some (pG g f.parts::gs) else none)=some o:=h
  by_cases hf:f.op=none
  ·rw [if_pos hf] at h'
   cases h'
   obtain⟨op,full,parts⟩:=f
   cases hf
   cases t with
   |leaf l=>
    cases hs
    exact⟨_,rfl,by show some (put (pG g parts) (.leaf l)::gs)=_;rw [zu2];rfl⟩
   |opn=>cases hs;exact⟨_,rfl,rfl⟩
   |hng n=>cases hs;exact⟨_,rfl,rfl⟩
   |eit=>cases hs;exact⟨_,rfl,rfl⟩
   |cls=>cases hs
   |bck=>cases hs
   |orr=>cases hs
   |don=>cases hs
  ·rw [if_neg hf] at h';cases h'
 | f ::f'::fs,fs',o,t,h,hs=>by
  have h':(nO g gs (f'::fs)).map (f::·)=some o:=h
  obtain⟨o1,h1,rfl⟩:=Option.map_eq_some_iff.mp h'
  have hp:∀p,∃o2,nO g gs (put f' p::fs)=some o2/\∃g2 r2,o1=g2::r2/\o2=put g2 p::r2:=by
   intro p
   cases fs with
   | nil=>
    have h2:(if f'.op=none then some (pG g f'.parts::gs) else none)=some o1:=h1
    by_cases hf:f'.op=none
    ·rw [if_pos hf] at h2
     cases h2
     refine⟨pG g (f'.parts++[p])::gs,?_,_,_,rfl,by rw [zu2]⟩
     show(if f'.op=none then some (pG g (f'.parts++[p])::gs) else none)=_
     rw [if_pos hf]
    ·rw [if_neg hf] at h2;cases h2
   |cons f2 fs2=>
    have h2:(nO g gs (f2::fs2)).map (f'::·)=some o1:=h1
    obtain⟨o3,h3,rfl⟩:=Option.map_eq_some_iff.mp h2
    refine⟨put f' p::o3,?_,_,_,rfl,rfl⟩
    show(nO g gs (f2::fs2)).map (put f' p::·)=_
    rw [h3];rfl
  obtain⟨op,full,parts⟩:=f
  cases t with
  |leaf l=>
   cases hs
   refine⟨put ⟨op,full,parts⟩ (.leaf l)::o1,?_,rfl⟩
   show(nO g gs (f'::fs)).map (put ⟨op,full,parts⟩ (.leaf l)::·)=_
   rw [h1];rfl
  |opn=>
   cases hs
   refine⟨⟨some .opn,[],[]⟩::⟨op,full,parts⟩::o1,?_,rfl⟩
   show((nO g gs (f'::fs)).map (⟨op,full,parts⟩::·)).map (_::·)=_
   rw [h1];rfl
  |hng n=>
   cases hs
   refine⟨⟨some (.hng n),[],[]⟩::⟨op,full,parts⟩::o1,?_,rfl⟩
   show((nO g gs (f'::fs)).map (⟨op,full,parts⟩::·)).map (_::·)=_
   rw [h1];rfl
  |eit=>
   cases hs
   refine⟨⟨some .eit,[],[]⟩::⟨op,full,parts⟩::o1,?_,rfl⟩
   show((nO g gs (f'::fs)).map (⟨op,full,parts⟩::·)).map (_::·)=_
   rw [h1];rfl
  | orr=>
   cases op with
   |none=>cases hs
   | some tk=>
    cases tk with
    |eit=>
     cases hs
     refine⟨⟨some .eit,full++[parts],[]⟩::o1,?_,rfl⟩
     show(nO g gs (f'::fs)).map (_::·)=_
     rw [h1];rfl
    |_=>cases hs
  | cls=>
   cases op with
   |none=>cases hs
   | some tk=>
    cases tk with
    |opn=>
     cases hs
     obtain⟨o2,e1,g2,r2,rfl,rfl⟩:=hp (.group parts)
     exact⟨_,e1,rfl⟩
    |_=>cases hs
  | bck=>
   cases op with
   |none=>cases hs
   | some tk=>
    cases tk with
    |hng n=>
     cases hs
     obtain⟨o2,e1,g2,r2,rfl,rfl⟩:=hp (.hang n parts)
     exact⟨_,e1,rfl⟩
    |_=>cases hs
  | don=>
   cases op with
   |none=>cases hs
   | some tk=>
    cases tk with
    | eit=>
     have hs':(if full=[] then none else some (put f' (.either (full++[parts]))::fs))=some fs':=hs
     by_cases hf:full=[]
     ·rw [if_pos hf] at hs';cases hs'
     ·rw [if_neg hf] at hs'
      cases hs'
      obtain⟨o2,e1,g2,r2,rfl,rfl⟩:=hp (.either (full++[parts]))
      refine⟨_,e1,?_⟩
      show(if full=[] then none else some (put g2 (.either (full++[parts]))::r2))=_
      rw [if_neg hf]
    |_=>cases hs
theorem zn6{g:Fm}{gs:List Fm}:∀{ts:List Tk} {fs fs' o:List Fm},nO g gs fs=some o->run fs ts=some fs'->∃o',nO g gs fs'=some o'/\run o ts=some o'
 |[],fs,fs',o,h,hr=>by cases hr;exact⟨o,h,rfl⟩
 | t::ts,fs,fs',o,h,hr=>by
  have hr':(step fs t).bind (fun g=>run g ts)=some fs':=hr
  cases e:step fs t with
  |none=>rw [e] at hr';cases hr'
  |some f1=>
   rw [e] at hr'
   obtain⟨o1,h1,h2⟩:=yf6 h e
   obtain⟨o2,h3,h4⟩:=zn6 h1 hr'
   refine⟨o2,h3,?_⟩
   show(step o t).bind (fun g=>run g ts)=some o2
   rw [h2];exact h4
theorem ym1{ts:List Tk}{r:List Pc}{fl:List (List Pc)}(h:run [fU] ts=some [⟨none,fl,r⟩])(g:Fm)(gs:List Fm):run (g::gs) ts=some (pG g r::gs):=by
 have h0:nO g gs [fU]=some (g::gs):=by
  show some (pG g []::gs)=_
  unfold pG
  rw [List.append_nil]
 obtain⟨o,h1,h2⟩:=zn6 h0 h
 have h1':some (pG g r::gs)=some o:=h1
 rw [h2,<-h1']
def Fo(t:Tk):Fm:=⟨some t,[],[]⟩
theorem zn7(t:Tk)(ht:t= .opn\/(∃n,t= .hng n)\/t= .eit):∀(k:Nat) (fs:List Fm),run fs (List.replicate k t)=some (List.replicate k (Fo t)++fs)
 |0,fs=>rfl
 | k+1,fs=>by
  have e:step fs t=some (Fo t::fs):=by
   rcases ht with rfl|⟨n,rfl⟩|rfl
   ·cases fs<;>rfl
   ·cases fs<;>rfl
   ·cases fs<;>rfl
  show(step fs t).bind (fun g=>run g (List.replicate k t))=_
  rw [e]
  show run (Fo t::fs) (List.replicate k t)=_
  rw [zn7 t ht k]
  congr 1
  rw [show List.replicate k (Fo t)++Fo t::fs=(List.replicate k (Fo t)++[Fo t])++fs by simp,List.replicate_succ',List.append_assoc]
def fY:Tk->List Tk
 | .opn=>[.cls]
 | .hng _=>[.bck]
 | .eit=>[.orr,.leaf .fin,.don]
 |_=>[]
def uL:Tk->List Pc->Pc
 | .opn,r=> .group r
 | .hng n,r=> .hang n r
 | .eit,r=> .either [r,[.leaf .fin]]
 |_,r=> .group r
theorem zf6(t:Tk)(ht:t= .opn\/(∃n,t= .hng n)\/t= .eit)(r:List Pc)(g:Fm)(gs:List Fm):run (⟨some t,[],r⟩::g::gs) (fY t)=some (put g (uL t r)::gs):=by
 rcases ht with rfl|⟨n,rfl⟩|rfl
 ·rfl
 ·rfl
 ·rfl
theorem zf7(t:Tk)(r:List Pc):nD (uL t r)<=eP r+1:=by
 cases t with
 |eit=>
  show max (eP r) (max (max 0 0) 0)+1<=eP r+1
  omega
 |_=>exact Nat.le_refl _
theorem zn8(t:Tk)(ht:t= .opn\/(∃n,t= .hng n)\/t= .eit):∀(k:Nat) (r:List Pc),∃r',run (⟨some t,[],r⟩::(List.replicate k (Fo t)++[fU])) (List.replicate (k+1) (fY t)).flatten=some [⟨none,[],r'⟩]/\eP r'<=eP r+(k+1)
 | 0,r=>by
  refine⟨[uL t r],?_,?_⟩
  ·show run (⟨some t,[],r⟩::fU::[]) (fY t++[])=_
   rw [List.append_nil,zf6 t ht];rfl
  ·show max (nD (uL t r)) 0<=_
   have:=zf7 t r
   omega
 | k+1,r=>by
  obtain⟨r',h1,h2⟩:=zn8 t ht k [uL t r]
  refine⟨r',?_,?_⟩
  ·show run (⟨some t,[],r⟩::Fo t::(List.replicate k (Fo t)++[fU])) (fY t++(List.replicate (k+1) (fY t)).flatten)=_
   rw [oG,zf6 t ht]
   exact h1
  ·have h3:eP [uL t r]<=eP r+1:=by
    show max (nD (uL t r)) 0<=_
    have:=zf7 t r
    omega
   omega
theorem ym2(t:Tk)(ht:t= .opn\/(∃n,t= .hng n)\/t= .eit){ts:List Tk}{r:List Pc}{fl:List (List Pc)}(h:run [fU] ts=some [⟨none,fl,r⟩])(k:Nat):
  ∃r',run [fU] (List.replicate (k+1) t++ts++(List.replicate (k+1) (fY t)).flatten)=some [⟨none,[],r'⟩]/\eP r'<=eP r+(k+1):=by
 obtain⟨r',h1,h2⟩:=zn8 t ht k r
 refine⟨r',?_,h2⟩
 rw [oG,oG,zn7 t ht]
 show((run (Fo t::(List.replicate k (Fo t)++[fU])) ts).bind fun fs'=>run fs' _)=_
 rw [ym1 h]
 exact h1
def uM(c:Nat):Bool:=decide (33<=c)&&decide (c<=126)
def yi3(z:Str):Prop:=1<=z.length/\z.length<=12/\z.cps.toList.all uM=true
def nG:Leaf->Prop
 | .word x=>yi3 x
 | .gap x=>x=""\/x=" "
 | .stop c=>0<=c/\c<=40
 | .fin=>True
def mP:Tk->Prop
 | .leaf l=>nG l
 | .hng n=>0<=n/\n<=12
 |_=>True
def xj3:Tk->Prop
 | .opn=>True
 | .hng _=>True
 | .eit=>True
 |_=>False
def opW:Tk->Str
 | .opn=>"open"
 | .hng _=>"hang"
 |_=>"either"
end My
namespace My
open PySem PySem.Spec PyProof.Rows L2 L3
variable{P:Program}{w:World}{K:tz0}{mg:tzA}{base:Heap}{κ:tz9}
def vM(ns:List Int)(k:Int):Int:=ns.getD (k % (ns.length:Int)).toNat 0
def zW(ns:List Int)(k:Int):Int:=k/(if (ns.length:Int)>1 then(ns.length:Int) else 1)
def xc7(ns:List Int)(k salt:Int):Int:=PySem.Builtin.bitAnd (vM ns k) 2147483647+1009*k*k+7919*salt*salt+12
def wP(ns:List Int)(k salt:Int):Int:=xc7 ns k salt*48271 % 2147483647
def yp8(ns:List Int)(k salt:Int):Int:=wP ns k salt*wP ns k salt % 2147483629
def uN(ns:List Int)(k salt:Int):Int:=PySem.Builtin.bitAnd (vM ns k/2^(31*(salt+128*zW ns k)).toNat+yp8 ns k salt) 2147483647
theorem zr4(ns:List Int)(k salt:Int):0<=uN ns k salt/\uN ns k salt<2147483648:=by
 have e:uN ns k salt=(vM ns k/2^(31*(salt+128*zW ns k)).toNat+yp8 ns k salt) % 2147483648:=PySem.W.kbt_mask _ 31
 rw [e]
 exact⟨Int.emod_nonneg _ (by decide),Int.emod_lt_of_pos _ (by decide)⟩
def yi4(K:tz0):Sp:=fun vs H Q _=>∃(a:Addr) (ns:List Int) (k:Int),vs=[.ref a,.int k]/\SqL K H a (ns.map V.int)/\Q (.int (vM ns k)) H
def zv0(K:tz0):Sp:=fun vs H Q _=>∃(a:Addr) (ns:List Int) (k salt:Int),vs=[.ref a,.int k,.int salt]/\SqL K H a (ns.map V.int)/\ns.length<=63/\(0<=k/\k<1000000)/\(0<=salt/\salt<1000000)/\Q (.int (uN ns k salt)) H
abbrev kB:Stmt:=top 16
theorem zn9:FnScope ["_law_script","_law_k"] ["_law_script","_law_k"] (aY kB):=⟨rfl,rfl,rfl,by decide+kernel,rfl,by decide+kernel,by decide+kernel⟩
theorem zo0{n:Nat}{f:Addr}{fd:FuncData}(D:Dn K mg "_law_cell_at" kB ["_law_script","_law_k"] f fd)(ah:mg "len"=none):
  FnOk P w K mg base CX0 (n+1) f fd ["_law_script","_law_k"] (yi4 K):=by
 refine D.F.ok zn9 (fun vs H Q E h=> ?_) (fun cdv A outer s H vs Q E hr h=> ?_)
 ·obtain⟨a,ns,k,rfl,_⟩:=h
  rfl
 obtain⟨a,ns,k,rfl,hS,q⟩:=h
 refine⟨_,(jG (yI (zs8 zv5 (nJ kZ rfl ah boot_len (gD (pv 0) kY)) jY (cZ _)) (qB (qF jY)) vR)
  (qB (qF (zi3 za3 (pv 0) (jA yJ (pv 1) (nJ kZ rfl ah boot_len (gD (pv 0) kY))) (fun _ _=>rfl))))),?_⟩
 have hl:(ns.map V.int).length=ns.length:=List.length_map _
 refine⟨_,rfl,a,_,rfl,.inl hS,rfl,_,rfl,?_⟩
 refine xf8 (fun c=> ?_) (fun c=> ?_)
 ·have e:(((ns.map V.int).length:Nat):Int)=0:=by simpa using c
  have e':ns=[]:=by
   rw [hl] at e
   exact List.eq_nil_of_length_eq_zero (by omega)
  subst e'
  exact q
 ·have e:¬(((ns.map V.int).length:Nat):Int)=0:=by simpa using c
  rw [hl] at e
  have hp:(0:Int)<((ns.map V.int).length:Nat):=by rw [hl];omega
  refine⟨_,rfl,_,rfl,_,rfl,a,_,rfl,.inl hS,_,_,rfl,rfl,hp,a,_,_,_,rfl,rfl,hS,?_,q⟩
  rw [hl]
  have h0:=Int.emod_nonneg k e
  have h1:=Int.emod_lt_of_pos k (show(0:Int)<ns.length by omega)
  have ek:k % (ns.length:Int)=(((k % (ns.length:Int)).toNat:Nat):Int):=by omega
  rw [ek]
  refine rV ?_
  rw [List.getElem?_map,List.getElem?_eq_getElem (by omega)]
  unfold vM
  rw [List.getD_eq_getElem?_getD,List.getElem?_eq_getElem (by omega)]
  rfl
abbrev jR:Stmt:=top 17
theorem mY:FnScope ["_law_script","_law_k","_law_salt","_law_cell","_law_lap","_law_near"] ["_law_script","_law_k","_law_salt"] (aY jR):=⟨rfl,rfl,rfl,by decide+kernel,rfl,by decide+kernel,by decide+kernel⟩
theorem zy3{n:Nat}{f f1:Addr}{fd fd1:FuncData}(D:Dn K mg "_law_mixed" jR ["_law_script","_law_k","_law_salt"] f fd)(ia:Dn K mg "_law_cell_at" kB ["_law_script","_law_k"] f1 fd1)
  (qq:FnOk P w K mg base CX0 n f1 fd1 ["_law_script","_law_k"] (yi4 K)) (ah:mg "len"=none) (my:mg "max"=none):
  FnOk P w K mg base CX0 (n+1) f fd ["_law_script","_law_k","_law_salt"] (zv0 K):=by
 refine D.F.ok mY (fun vs H Q E h=> ?_) (fun cdv A outer s H vs Q E hr h=> ?_)
 ·obtain⟨a,ns,k,salt,rfl,_⟩:=h
  rfl
 obtain⟨a,ns,k,salt,rfl,hS,h63,⟨hk0,hk1⟩,⟨hs0,hs1⟩,q⟩:=h
 refine⟨_,(jG (rS (i:=3) mY.nd rfl (.inl rfl) (zi4 ia qq hr rfl (gD (pv 0) (gD (pv 1) kY))))
  (jG (rS (i:=4) mY.nd rfl (.inl rfl) (jA zs4 (pv 1) (nJ (zd4 rfl) rfl my boot_max (gD jY (gD (nJ kZ rfl ah boot_len (gD (pv 0) kY)) kY)))))
  (jG (rS (i:=5) mY.nd rfl (.inl rfl) (jA rT (jA rT (jA rT (jA yc0 (pv 3) jY) (jA nY (jA nY jY (pv 1)) (pv 1))) (jA nY (jA nY jY (pv 2)) (pv 2))) jY))
  (jG (rS (i:=5) mY.nd rfl (.inl rfl) (jA yJ (jA nY (pv 5) jY) jY))
  (jG (rS (i:=5) mY.nd rfl (.inl rfl) (jA yJ (jA nY (pv 5) (pv 5)) jY))
  (qB (qF (jA yc0 (jA rT (jA yx0 (pv 3) (jA nY jY (jA rT (pv 2) (jA nY jY (pv 4))))) (pv 5)) jY)))))))),?_⟩
 have hl:(ns.map V.int).length=ns.length:=List.length_map _
 have hlap:0<=zW ns k:=by unfold zW;exact Int.ediv_nonneg hk0 (by split<;>omega)
 have hn1:0<=wP ns k salt/\wP ns k salt<2147483647:=⟨Int.emod_nonneg _ (by decide),Int.emod_lt_of_pos _ (by decide)⟩
 refine⟨_,rfl,_,rfl,a,ns,k,rfl,hS,?_⟩
 refine⟨_,rfl,_,rfl,a,_,rfl,.inl hS,_,_,rfl,_,_,rfl,rfl,?_,?_⟩
 ·rw [hl];constructor
  ·split<;>omega
  ·split<;>omega
 rw [hl]
 refine⟨_,rfl,_,_,rfl,rfl,_,rfl,_,_,rfl,rfl,.inl ⟨by decide,by decide⟩,_,rfl,_,_,rfl,rfl,.inr ⟨by omega,by omega⟩,_,_,rfl,rfl,_,rfl,_,_,rfl,rfl,.inl ⟨by decide,by decide⟩,_,rfl,_,_,rfl,rfl,.inr ⟨by omega,by omega⟩,_,_,rfl,rfl,_,_,rfl,rfl,?_⟩
 refine⟨_,rfl,_,_,rfl,rfl,.inr ⟨by decide,by decide⟩,_,_,rfl,rfl,(by show(0:Int)<2147483647;decide),?_⟩
 refine⟨_,rfl,_,rfl,_,_,rfl,rfl,.inl ⟨by show-(2^64)<wP ns k salt;omega,by show wP ns k salt<2^64;omega⟩,_,_,rfl,rfl,(by show(0:Int)<2147483629;decide),?_⟩
 refine⟨_,rfl,_,rfl,_,rfl,_,_,rfl,rfl,.inl ⟨by decide,by decide⟩,_,_,rfl,rfl,_,_,rfl,rfl,.inl ⟨by decide,by decide⟩,_,_,rfl,rfl,?_,_,rfl,_,_,rfl,rfl,_,_,rfl,rfl,q⟩
 show 0<=31*(salt+128*zW ns k)
 omega
end My
namespace L3
open PySem PySem.Spec PyProof.Rows L2 My
variable{P:Program}{w:World}{K:tz0}{mg:tzA}{base:Heap}{κ:tz9}
abbrev fG:List Key:=[.inr "close",.inr "back",.inr "or",.inr "done"]
abbrev lC:List D:=[(.str "open"),(.str "hang"),(.str "either"),(.str "either")]
def rR(bb:(tz7))(ba:(tz7))(cm:(tz6)):tz1:=
 (aI (aM 1 (aF (eD "Builder" aC bb)))
 (aI (dG 2 (dI (aB 0))
  (aR (bH 1 aU (cI [.im (aB 2)]) (kW "Builder" "add" ba))))
 (aZ (aF (aE cm (aA (dA "Builder" "whole_row" (aB 1)) aC))))))
abbrev jC:Stmt:=top 14
theorem kP:FnScope ["tokens","builder","token"] ["tokens"] (aY jC):=⟨rfl,rfl,rfl,by decide+kernel,rfl,by decide+kernel,by decide+kernel⟩
theorem zr5{n:Nat}{f:Addr}{fd:FuncData}{bb:(tz7)}{aw:Addr}{cq:FuncData}{ba:(tz7)}{av:Addr}{cf:FuncData}{cm:(tz6)}{af:Addr}{br:FuncData}(bn:Dn K mg "row_of" jC ["tokens"] f fd)
  (cr:Kn K mg κ "Builder" "Builder.__init__" hJ ["self"] aw cq) (cg:FnOk P w K mg base CX0 n aw cq ["self"] (SpE 1 K κ (cY [true]) bb))
  (aj:Mn K κ "Builder" "add" "Builder.add" gW ["self","token"] av cf) (b6:FnOk P w K mg base CX0 (n+1) av cf ["self","token"] (SpE 2 K κ (cY [true,false]) ba))
  (ad:Mn K κ "Builder" "whole_row" "Builder.whole_row" fA ["self"] af br) (dv:FnOk P w K mg base CX0 (n+1) af br ["self"] (SpP 1 K κ cm)):
  FnOk P w K mg base CX0 ((n+1)+1) f fd ["tokens"] (SpP 1 K κ (gP 1 2 (rR bb ba cm))):=
 gQ bn.F kP fun cdv A outer s H E B hr=>
 (bE (dP 1 kP.nd rfl (.inl rfl) rfl rfl (QP.e (tL cr cg hr rfl (jN 0))))
 (bE (rY 2 0 PassesOwn.never rfl kP.nd rfl (.inl rfl) rfl rfl rfl
  (bI (fP (sF aj b6 hr rfl (cR 1) (pN (aD 2) lW) rfl rfl (jN 1)))))
 (bI (eB (QP.e (qM ad dv hr (aD 1)))))))
def lD(bb:(tz7))(ba:(tz7))(d7:(List D->Option Int))(ca:(List D->Option Int)):PSt->Option Int:=
 (oQ (aM 1 (aF (eD "Builder" aC bb)))
 (uJ (rG 2 (dI (aB 0))
  (aR (bH 1 aU (cI [.im (aB 2)]) (kW "Builder" "add" ba)))
  (wO 1 aU (cI [.im (aB 2)]) (oR "Builder" "add" d7))) (oQ (dG 2 (dI (aB 0))
  (aR (bH 1 aU (cI [.im (aB 2)]) (kW "Builder" "add" ba))))
 (uK "Builder" "whole_row" (aB 1) ca))))
theorem zo1{n:Nat}{f:Addr}{fd:FuncData}{bb:(tz7)}{aw:Addr}{cq:FuncData}{ba:(tz7)}{av:Addr}{cf:FuncData}{d7:(List D->Option Int)}{ca:(List D->Option Int)}{af:Addr}{br:FuncData}{aa:Addr}(bn:Dn K mg "row_of" jC ["tokens"] f fd)
  (cr:Kn K mg κ "Builder" "Builder.__init__" hJ ["self"] aw cq) (cg:FnOk P w K mg base CX0 n aw cq ["self"] (SpE 1 K κ (cY [true]) bb))
  (aj:Mn K κ "Builder" "add" "Builder.add" gW ["self","token"] av cf) (b6:FnOk P w K mg base CX0 (n+1) av cf ["self","token"] (SpE 2 K κ (cY [true,false]) ba))
   (gx:FnOk P w K mg base (CXn P w base aa) (n+1) av cf ["self","token"] (yD 2 K κ (cY [true,false]) aa d7))
  (ad:Mn K κ "Builder" "whole_row" "Builder.whole_row" fA ["self"] af br) (dh:FnOk P w K mg base (CXn P w base aa) (n+1) af br ["self"] (rQ 1 K κ aa ca))
  (N_NoPiece:NumI P w K mg base "NoPiece" aa):
  FnOk P w K mg base (CXn P w base aa) ((n+1)+1) f fd ["tokens"] (rQ 1 K κ aa (gN 1 2 (lD bb ba d7 ca))):=
 wD bn.F kP fun cdv A outer s H E B hr=>
 (sH (dP 1 kP.nd rfl (.inl rfl) rfl rfl (QP.e (tL cr cg hr rfl (jN 0))))
 (xL (zc0 2 0 PassesOwn.leaving rfl kP.nd rfl (.inl rfl) rfl rfl rfl
  (bI (fP (sF aj b6 hr rfl (cR 1) (pN (aD 2) lW) rfl rfl (jN 1))))
  (mX (zb9 (zc2 aj gx hr rfl (cR 1) (pN (aD 2) lW) rfl rfl (jN 1))))) (rY 2 0 PassesOwn.never rfl kP.nd rfl (.inl rfl) rfl rfl rfl
  (bI (fP (sF aj b6 hr rfl (cR 1) (pN (aD 2) lW) rfl rfl (jN 1)))))
 (mX (zc1 ad dh hr (aD 1)))))
def vN:tz1:=
 (aI (aM 1 (aF (fC (.str "abcdefghijklmnopqrstuvwxyzABCDEFGHIJKLMNOPQRSTUVWXYZ0123456789"))))
 (aI (aM 1 (aF (f2 aO (aB 1) (fC (.str "!\"#$&'()*+,-./:;<=>?\x40[\\]^_`{|}~")))))
 (aI (aM 2 (aF (f2 dIx (aX (fKs [.int 1,.int 2,.int 3,.int 4,.int 5,.int 6,.int 7,.int 8,.int 10,.int 11,.int 9,.int 12])) (f2 fO (aB 0) (fC (.int 12))))))
 (aI (aM 3 (aF (f2 fO (f2 iX (aB 0) (fC (.int 9000))) (fC (.int 93)))))
 (aI (aM 4 (aF (fC (.str ""))))
 (aI (dG 5 (eG (aA (aB 2) aC))
  (aM 4 (aF (f2 aO (aB 4) (f2 dIx (aB 1) (f2 fO (f2 aO (f2 iX (aB 0) (fC (.int 12))) (f2 fD (aB 5) (aB 3))) (fC (.int 93))))))))
 (cN 4)))))))
abbrev mQ:Stmt:=top 18
theorem lI:FnScope ["_law_number","_law_signs","_law_size","_law_step","_law_word_here","_law_j"] ["_law_number"] (aY mQ):=⟨rfl,rfl,rfl,by decide+kernel,rfl,by decide+kernel,by decide+kernel⟩
theorem yf7{n:Nat}{f:Addr}{fd:FuncData}(gy:Dn K mg "_law_word" mQ ["_law_number"] f fd)
  (bg:mg "range"=none):
  FnOk P w K mg base CX0 (n+1) f fd ["_law_number"] (SpP 1 K κ (gP 1 5 (vN))):=
 gQ gy.F lI fun cdv A outer s H E B hr=>
 (bE (dP 1 lI.nd rfl (.inl rfl) rfl rfl (QP.e cJ))
 (bE (dP 1 lI.nd rfl (.inl rfl) rfl rfl (QP.e (cK eX (aD 1) (QP.v cJ))))
 (bE (dP 2 lI.nd rfl (.inl rfl) rfl rfl (QP.e (oB (eH (iN (.int (.int (.int (.int (.int (.int (.int (.int (.int (.int (.int (.int .nil)))))))))))))) (QP.v (cK iI (aD 0) (QP.v aN))))))
 (bE (dP 3 lI.nd rfl (.inl rfl) rfl rfl (QP.e (cK iI (QP.v (cK mB (aD 0) (QP.v aN))) (QP.v aN))))
 (bE (dP 4 lI.nd rfl (.inl rfl) rfl rfl (QP.e cJ))
 (bE (qI 5 PassesOwn.never rfl lI.nd rfl (.inl rfl) rfl rfl (mH rfl bg (aV (aD 2) bW))
  (bI (dP 4 lI.nd rfl (.inl rfl) rfl rfl (QP.e (cK eX (aD 4) (eS (aD 1) (QP.v (cK iI (QP.v (cK eX (QP.v (cK mB (aD 0) (QP.v aN))) (QP.v (cK yQ (aD 5) (aD 3))))) (QP.v aN)))))))))
 (bI (vX 4 rfl))))))))
def lP:tz1:=
 (aZ (aF (iE (aE gJ (aA (aB 0) (aA (fC (.ty "int")) aC))) (iW (aE gJ (aA (aB 0) (aA (fC (.ty "bool")) aC)))))))
abbrev kL:Stmt:=top 19
theorem zy4:FnScope ["_law_found"] ["_law_found"] (aY kL):=⟨rfl,rfl,rfl,by decide+kernel,rfl,by decide+kernel,by decide+kernel⟩
theorem zy5{n:Nat}{f:Addr}{fd:FuncData}(cu:Dn K mg "_law_whole" kL ["_law_found"] f fd)
  (al:mg "isinstance"=none)
  (ez:mg "int"=none)
  (qe:mg "bool"=none):
  FnOk P w K mg base CX0 (n+1) f fd ["_law_found"] (SpP 1 K κ (gP 1 0 (lP))):=
 gQ cu.F zy4 fun cdv A outer s H E B hr=>
 (bI (eB (QP.e (vA (eJ rA rfl al boot_isinstance (aV (aD 0) (aV (QP.v (qZ rfl ez boot_int)) bW))) (uZ (zk9 (eJ rA rfl al boot_isinstance (aV (aD 0) (aV (QP.v (qZ rfl qe boot_bool)) bW)))))))))
def mR(ko:(tz6)):tz1:=
 (aI (aM 1 (aF (f2 iX (aB 0) (fC (.int 16)))))
 (aI (fIf (aG (fB (f2 dLt (f2 fO (aB 0) (fC (.int 16))) (fC (.int 8)))))
  (aZ (aF (bF (aA (fC (.str "word")) (aA (aE ko (aA (aB 1) aC)) aC)))))
  aJ)
 (aI (fIf (aG (fB (f2 dLt (f2 fO (aB 0) (fC (.int 16))) (fC (.int 13)))))
  (aZ (aF (bF (aA (fC (.str "gap")) (aA (f2 dIx (aX (fKs [.str " ",.str " ",.str " ",.str ""])) (f2 fO (aB 1) (fC (.int 4)))) aC)))))
  aJ)
 (aI (fIf (aG (fB (f2 dEq (f2 fO (aB 0) (fC (.int 16))) (fC (.int 13)))))
  (aZ (aF (bF (aA (fC (.str "end")) aC))))
  aJ)
 (aZ (aF (bF (aA (fC (.str "stop")) (aA (f2 dIx (aX (aA (f2 fO (f2 iX (aB 1) (fC (.int 2))) (fC (.int 10))) (aA (f2 fO (f2 iX (aB 1) (fC (.int 2))) (fC (.int 41))) aC))) (f2 fO (aB 1) (fC (.int 2)))) aC)))))))))
abbrev lJ:Stmt:=top 20
theorem zf8:FnScope ["_law_number","_law_some_here"] ["_law_number"] (aY lJ):=⟨rfl,rfl,rfl,by decide+kernel,rfl,by decide+kernel,by decide+kernel⟩
theorem yf8{n:Nat}{f:Addr}{fd:FuncData}{ko:(tz6)}{qf:Addr}{pc:FuncData}(di:Dn K mg "_law_leaf" lJ ["_law_number"] f fd)
  (gy:Dn K mg "_law_word" mQ ["_law_number"] qf pc) (ni:FnOk P w K mg base CX0 n qf pc ["_law_number"] (SpP 1 K κ ko)):
  FnOk P w K mg base CX0 (n+1) f fd ["_law_number"] (SpP 1 K κ (gP 1 1 (mR ko))):=
 gQ di.F zf8 fun cdv A outer s H E B hr=>
 (bE (dP 1 zf8.nd rfl (.inl rfl) rfl rfl (QP.e (cK mB (aD 0) (QP.v aN))))
 (bE (eK (QT.e (dC (rL (Room.units0 hr)) (QP.v (cK iI (aD 0) (QP.v aN))) (QP.v aN) (cZ _)))
  (bI (eB (QP.e (eU (aW cJ (aW (iS gy ni hr rfl rfl (aV (aD 1) bW) (cS fQ)) bO))))))
  eC)
 (bE (eK (QT.e (dC (rL (Room.units0 hr)) (QP.v (cK iI (aD 0) (QP.v aN))) (QP.v aN) (cZ _)))
  (bI (eB (QP.e (eU (aW cJ (aW (oB (eH (iN (.str (.str (.str (.str .nil)))))) (QP.v (cK iI (aD 1) (QP.v aN)))) bO))))))
  eC)
 (bE (eK (QT.e (dC (iB (Room.units hr)) (QP.v (cK iI (aD 0) (QP.v aN))) (QP.v aN) (cZ _)))
  (bI (eB (QP.e (eU (aW cJ bO)))))
  eC)
 (bI (eB (QP.e (eU (aW cJ (aW (oB (eH (aW (cK iI (QP.v (cK mB (aD 1) (QP.v aN))) (QP.v aN)) (aW (cK iI (QP.v (cK mB (aD 1) (QP.v aN))) (QP.v aN)) bO))) (QP.v (cK iI (aD 1) (QP.v aN)))) bO))))))))))
def kH:tz1:=
 (aI (eZ [2,3] (bH 1 aU aC bZ))
 (aI (fIf (aG (bB (fB (f2 dEq (aB 2) (fC (.str "either")))) (fB (f2 dEq (aB 3) (fC (.int 1))))))
  (aR (bH 0 aU (aA (bF (aA (fC (.str "or")) aC)) aC) aL))
  aJ)
 (aR (bH 0 aU (aA (bF (aA (f2 cP (dE [("open",(fC (.str "close"))),("hang",(fC (.str "back"))),("either",(fC (.str "done")))]) (aB 2)) aC)) aC) aL))))
abbrev jJ:Stmt:=top 21
theorem pU:FnScope ["_law_some_here","_law_now","_law_word_here","_law_rows"] ["_law_some_here","_law_now"] (aY jJ):=⟨rfl,rfl,rfl,by decide+kernel,rfl,by decide+kernel,by decide+kernel⟩
theorem zh6{n:Nat}{f:Addr}{fd:FuncData}(cj:Dn K mg "_law_shutting" jJ ["_law_some_here","_law_now"] f fd)
     :
  FnOk P w K mg base CX0 (n+1) f fd ["_law_some_here","_law_now"] (SpE 2 K κ (cY [true,true]) (gE 2 2 (cY [true,true]) (kH))):=
 tH cj.F pU (fun i hi=>qL hi) fun cdv A outer s H E hr=>
 (bE (rC (is:=[2,3]) rfl (nI (kX (i:=2) pU.nd rfl (.inl rfl)) (nI (kX (i:=3) pU.nd rfl (.inl rfl)) vS)) (sA (j:=1) rfl (cR 1)) (fun j hj=>by simp only [List.mem_cons,List.not_mem_nil,or_false] at hj;rcases hj with rfl|rfl<;>exact⟨rfl,rfl⟩))
 (bE (eK (QT.e (oZ (nF (dC (iB (Room.units hr)) (aD 2) (QP.v cJ) (cZ _)) (nS (dC (iB (Room.units hr)) (aD 3) (QP.v aN) (cZ _))))))
  (bI (fP (gC (j:=0) rfl (cR 0) (aW (eU (aW cJ bO)) bO))))
  eC)
 (bI (fP (gC (j:=0) rfl (cR 0) (aW (eU (aW (sB (zw6 hr) (sC (l:=[("open",(fC (.str "close"))),("hang",(fC (.str "back"))),("either",(fC (.str "done")))]) (jH cJ cJ (jH cJ cJ (jH cJ cJ rW))) (by decide+kernel) (by decide)) (aD 2)) bO)) bO))))))
def nH(aq:(tz6))(bu:(tz7))(ck:(tz6)):tz1:=
 (aI (aM 4 (aF (aX aC)))
 (aI (aM 5 (aF (aX aC)))
 (aI (dG 6 (fH (aA (aB 1) (aA (f2 aO (aB 1) (aB 2)) aC)))
  (aI (aM 7 (aF (aE aq (aA (aB 0) (aA (aB 6) (aA (fC (.int 31)) aC))))))
 (aI (aM 8 (aF (f2 fO (aB 7) (fC (.int 13)))))
 (fIf (aG (bB (fB (f2 dLt (aB 8) (fC (.int 4)))) (fB (f2 dLt (aE bD (aA (aB 5) aC)) (aB 3)))))
  (aI (aM 9 (aF (f2 dIx (aX (fKs [.str "open",.str "open",.str "hang",.str "either"])) (aB 8))))
 (aI (aR (bH 4 aU (aA (f2 dIx (aX (aA (bF (aA (bC (aB 9)) aC)) (aA (bF (aA (fC (.str "hang")) (aA (f2 fO (f2 iX (aB 7) (fC (.int 13))) (fC (.int 13))) aC))) aC))) (aE cH (aA (f2 dEq (aB 9) (fC (.str "hang"))) aC))) aC) aL))
 (aR (bH 5 aU (aA (aX (aA (bC (aB 9)) (aA (fC (.int 1)) aC))) aC) aL))))
  (fIf (aG (bB (fB (f2 dEq (aB 8) (fC (.int 4)))) (fB (f2 dGt (aE bD (aA (aB 5) aC)) (fC (.int 0))))))
  (aR (fIO [.io 4,.io 5] bu))
  (fIf (aG (bB (fB (f2 dLt (aB 8) (fC (.int 7)))) (bB (fB (f2 dGt (aE bD (aA (aB 5) aC)) (fC (.int 0)))) (bB (fB (f2 dEq (f2 dIx (f2 dIx (aB 5) (bL (fC (.int 1)))) (fC (.int 0))) (fC (.str "either")))) (fB (f2 dLt (f2 dIx (f2 dIx (aB 5) (bL (fC (.int 1)))) (fC (.int 1))) (fC (.int 4))))))))
  (aI (cA 5 (bP 5 aU (bL (fC (.int 1)))) (fC (.int 1)) (f2 aO (f2 dIx (f2 dIx (aB 5) (bL (fC (.int 1)))) (fC (.int 1))) (fC (.int 1))))
 (aR (bH 4 aU (aA (bF (aA (fC (.str "or")) aC)) aC) aL)))
  (aR (bH 4 aU (aA (aE ck (aA (aE aq (aA (aB 0) (aA (aB 6) (aA (fC (.int 32)) aC)))) aC)) aC) aL))))))))
 (aI (lT (aG (fB (f2 dGt (aE bD (aA (aB 5) aC)) (fC (.int 0)))))
  (aR (fIO [.io 4,.io 5] bu)) 400)
 (cN 4)))))
abbrev kS:Stmt:=top 22
theorem kQ:FnScope ["_law_script","_law_at","_law_many","_law_nest","_law_some_here","_law_now","_law_k","_law_number","_law_way","_law_word_here"] ["_law_script","_law_at","_law_many","_law_nest"] (aY kS):=⟨rfl,rfl,rfl,by decide+kernel,rfl,by decide+kernel,by decide+kernel⟩
theorem zr6{n:Nat}{f:Addr}{fd:FuncData}{aq:(tz6)}{df:Addr}{cw:FuncData}{bu:(tz7)}{lp:Addr}{lc:FuncData}{ck:(tz6)}{iz:Addr}{ie:FuncData}(dj:Dn K mg "_law_tokens" kS ["_law_script","_law_at","_law_many","_law_nest"] f fd)
  (bo:Dn K mg "_law_mixed" jR ["_law_script","_law_k","_law_salt"] df cw) (bx:FnOk P w K mg base CX0 n df cw ["_law_script","_law_k","_law_salt"] (SpP 3 K κ aq))
  (cj:Dn K mg "_law_shutting" jJ ["_law_some_here","_law_now"] lp lc) (gg:FnOk P w K mg base CX0 n lp lc ["_law_some_here","_law_now"] (SpE 2 K κ (cY [true,true]) bu))
  (di:Dn K mg "_law_leaf" lJ ["_law_number"] iz ie) (gz:FnOk P w K mg base CX0 n iz ie ["_law_number"] (SpP 1 K κ ck))
  (bg:mg "range"=none)
  (ah:mg "len"=none)
  (ez:mg "int"=none):
  FnOk P w K mg base CX0 (n+1) f fd ["_law_script","_law_at","_law_many","_law_nest"] (SpP 4 K κ (gP 4 6 (nH aq bu ck))):=
 gQ dj.F kQ fun cdv A outer s H E B hr=>
 (bE (dP 4 kQ.nd rfl (.inl rfl) rfl rfl (QP.e (eH bO)))
 (bE (dP 5 kQ.nd rfl (.inl rfl) rfl rfl (QP.e (eH bO)))
 (bE (qI 6 PassesOwn.never rfl kQ.nd rfl (.inl rfl) rfl rfl (vC rfl bg (aV (aD 1) (aV (QP.v (cK eX (aD 1) (aD 2))) bW)))
  (bE (dP 7 kQ.nd rfl (.inl rfl) rfl rfl (QP.e (iS bo bx hr rfl rfl (aV (aD 0) (aV (aD 6) (aV (QP.v aN) bW))) (cS (cS (cS fQ))))))
 (bE (dP 8 kQ.nd rfl (.inl rfl) rfl rfl (QP.e (cK iI (aD 7) (QP.v aN))))
 (bI (eK (QT.e (oZ (nF (dC (rL (Room.units0 hr)) (aD 8) (QP.v aN) (cZ _)) (nS (dC (rL (Room.units0 hr)) (QP.v (eJ jB rfl ah boot_len (aV (aD 5) bW))) (aD 3) (cZ _))))))
  (bE (dP 9 kQ.nd rfl (.inl rfl) rfl rfl (QP.e (oB (eH (iN (.str (.str (.str (.str .nil)))))) (aD 8))))
 (bE (fP (gC (j:=4) rfl (cR 4) (aW (oB (eH (aW (eU (aW (QV.p (aD 9)) bO)) (aW (eU (aW cJ (aW (cK iI (QP.v (cK mB (aD 7) (QP.v aN))) (QP.v aN)) bO))) bO))) (QP.v (gZ yR rfl ez boot_int (aV (QP.v (mG (iB (Room.units hr)) (aD 9) (QP.v cJ) (cZ _))) bW)))) bO)))
 (bI (fP (gC (j:=5) rfl (cR 5) (aW (eH (aW (QV.p (aD 9)) (aW aN bO))) bO))))))
  (bI (eK (QT.e (oZ (nF (dC (iB (Room.units hr)) (aD 8) (QP.v aN) (cZ _)) (nS (dC sX (QP.v (eJ jB rfl ah boot_len (aV (aD 5) bW))) (QP.v aN) (cZ _))))))
  (bI (fP (zi6 cj gg hr rfl (sD 4 (sD 5 lW)) rfl (yW rfl) (show List.Nodup ([4,5]:List Nat) by decide) (fun j hj=>by have h:j∈([4,5]:List Nat):=hj;simp only [List.mem_cons,List.not_mem_nil,or_false] at h;rcases h with rfl|rfl<;>rfl))))
  (bI (eK (QT.e (oZ (nF (dC (rL (Room.units0 hr)) (aD 8) (QP.v aN) (cZ _)) (nF (dC sX (QP.v (eJ jB rfl ah boot_len (aV (aD 5) bW))) (QP.v aN) (cZ _)) (nF (dC (iB (Room.units hr)) (eS (eS (aD 5) (QP.v (iU (QP.v aN)))) (QP.v aN)) (QP.v cJ) (cZ _)) (nS (dC (rL (Room.units0 hr)) (eS (eS (aD 5) (QP.v (iU (QP.v aN)))) (QP.v aN)) (QP.v aN) (cZ _))))))))
  (bE (qK (j:=5) rfl (cK eX (eS (eS (aD 5) (QP.v (iU (QP.v aN)))) (QP.v aN)) (QP.v aN)) (iM (cR 5) (QP.v (iU (QP.v aN)))) (QP.v aN))
 (bI (fP (gC (j:=4) rfl (cR 4) (aW (eU (aW cJ bO)) bO)))))
  (bI (fP (gC (j:=4) rfl (cR 4) (aW (iS di gz hr rfl rfl (aV (QP.v (iS bo bx hr rfl rfl (aV (aD 0) (aV (aD 6) (aV (QP.v aN) bW))) (cS (cS (cS fQ))))) bW) (cS fQ)) bO)))))))))))))
 (bE (xD 400 PassesOwn.never (QT.e (dC sX (QP.v (eJ jB rfl ah boot_len (aV (aD 5) bW))) (QP.v aN) (cZ _)))
  (bI (fP (zi6 cj gg hr rfl (sD 4 (sD 5 lW)) rfl (yW rfl) (show List.Nodup ([4,5]:List Nat) by decide) (fun j hj=>by have h:j∈([4,5]:List Nat):=hj;simp only [List.mem_cons,List.not_mem_nil,or_false] at h;rcases h with rfl|rfl<;>rfl)))))
 (bI (vX 4 rfl))))))
def pY:tz1:=
 (aI (aM 1 (aF (aX (aA (aX (aA (bF (aA (fC (.str "top")) aC)) (aA (aX aC) (aA (aX aC) aC)))) aC))))
 (aI (dG 2 (dI (aB 0))
  (fIf (aG (fB (f2 dIn (f2 dIx (aB 2) (fC (.int 0))) (aX (fKs [.str "open",.str "hang",.str "either"])))))
  (aR (bH 1 aU (aA (aX (aA (bC (aB 2)) (aA (aX aC) (aA (aX aC) aC)))) aC) aL))
  (fIf (aG (fB (f2 dEq (f2 dIx (aB 2) (fC (.int 0))) (fC (.str "or")))))
  (aI (aR (bH 1 (bP 1 (bP 1 aU (bL (fC (.int 1)))) (fC (.int 1))) (aA (aE bK (aA (f2 dIx (f2 dIx (aB 1) (bL (fC (.int 1)))) (fC (.int 2))) aC)) aC) aL))
 (cA 1 (bP 1 aU (bL (fC (.int 1)))) (fC (.int 2)) (aX aC)))
  (fIf (aG (fB (f2 dIn (f2 dIx (aB 2) (fC (.int 0))) (aX (fKs [.str "close",.str "back",.str "done"])))))
  (aI (eZ [3,4,5] (bH 1 aU aC bZ))
 (aI (aM 4 (aF (f2 aO (aB 4) (aX (aA (aE bK (aA (aB 5) aC)) aC)))))
 (aI (aM 6 (aF (bF (aA (fC (.str "either")) (aA (aE bK (aA (aB 4) aC)) aC)))))
 (aI (fIf (aG (fB (f2 dNe (f2 dIx (aB 3) (fC (.int 0))) (fC (.str "either")))))
  (aM 6 (aF (f2 aO (f2 aO (bF (aA (f2 dIx (aX (aA (fC (.str "group")) (aA (fC (.str "hang")) aC))) (aE cH (aA (f2 dEq (f2 dIx (aB 3) (fC (.int 0))) (fC (.str "hang"))) aC))) aC)) (fSl (aB 3) (cT (fC (.int 1))) cB)) (bF (aA (bC (f2 dIx (aB 4) (fC (.int 0)))) aC)))))
  aJ)
 (aR (bH 1 (bP 1 (bP 1 aU (bL (fC (.int 1)))) (fC (.int 2))) (aA (bC (aB 6)) aC) aL))))))
  (aR (bH 1 (bP 1 (bP 1 aU (bL (fC (.int 1)))) (fC (.int 2))) (aA (bC (aB 2)) aC) aL))))))
 (aZ (aF (aE bK (aA (f2 dIx (f2 dIx (aB 1) (fC (.int 0))) (fC (.int 2))) aC))))))
abbrev lQ:Stmt:=top 23
theorem jO:FnScope ["_law_some_here","_law_frames","_law_token","_law_head","_law_full","_law_parts","_law_piece"] ["_law_some_here"] (aY lQ):=⟨rfl,rfl,rfl,by decide+kernel,rfl,by decide+kernel,by decide+kernel⟩
theorem zy6{n:Nat}{f:Addr}{fd:FuncData}(fz:Dn K mg "_law_built" lQ ["_law_some_here"] f fd)
  (az:mg "tuple"=none)
  (ez:mg "int"=none):
  FnOk P w K mg base CX0 (n+1) f fd ["_law_some_here"] (SpP 1 K κ (gP 1 6 (pY))):=
 gQ fz.F jO fun cdv A outer s H E B hr=>
 (bE (dP 1 jO.nd rfl (.inl rfl) rfl rfl (QP.e (eH (aW (eH (aW (eU (aW cJ bO)) (aW (eH bO) (aW (eH bO) bO)))) bO))))
 (bE (rY 2 0 PassesOwn.never rfl jO.nd rfl (.inl rfl) rfl rfl rfl
  (bI (eK (QT.e (dC vB (eS (aD 2) (QP.v aN)) (QP.v (eH (iN (.str (.str (.str .nil)))))) (by with_unfolding_all rfl)))
  (bI (fP (gC (j:=1) rfl (cR 1) (aW (eH (aW (QV.p (aD 2)) (aW (eH bO) (aW (eH bO) bO)))) bO))))
  (bI (eK (QT.e (dC (iB (Room.units hr)) (eS (aD 2) (QP.v aN)) (QP.v cJ) (cZ _)))
  (bE (fP (gC (j:=1) rfl (iM (iM (cR 1) (QP.v (iU (QP.v aN)))) (QP.v aN)) (aW (gZ lV rfl az boot_tuple (aV (eS (eS (aD 1) (QP.v (iU (QP.v aN)))) (QP.v aN)) bW)) bO)))
 (bI (qK (j:=1) rfl (eH bO) (iM (cR 1) (QP.v (iU (QP.v aN)))) (QP.v aN))))
  (bI (eK (QT.e (dC vB (eS (aD 2) (QP.v aN)) (QP.v (eH (iN (.str (.str (.str .nil)))))) (by with_unfolding_all rfl)))
  (bE (rC (is:=[3,4,5]) rfl (nI (kX (i:=3) jO.nd rfl (.inl rfl)) (nI (kX (i:=4) jO.nd rfl (.inl rfl)) (nI (kX (i:=5) jO.nd rfl (.inl rfl)) vS))) (sA (j:=1) rfl (cR 1)) (fun j hj=>by simp only [List.mem_cons,List.not_mem_nil,or_false] at hj;rcases hj with rfl|rfl|rfl<;>exact⟨rfl,rfl⟩))
 (bE (dP 4 jO.nd rfl (.inl rfl) rfl rfl (QP.e (cK eX (aD 4) (QP.v (eH (aW (gZ lV rfl az boot_tuple (aV (aD 5) bW)) bO))))))
 (bE (dP 6 jO.nd rfl (.inl rfl) rfl rfl (QP.e (eU (aW cJ (aW (gZ lV rfl az boot_tuple (aV (aD 4) bW)) bO)))))
 (bE (eK (QT.e (dC (sY (Room.units hr)) (eS (aD 3) (QP.v aN)) (QP.v cJ) (cZ _)))
  (bI (dP 6 jO.nd rfl (.inl rfl) rfl rfl (QP.e (cK eX (QP.v (cK eX (QP.v (eU (aW (oB (eH (aW cJ (aW cJ bO))) (QP.v (gZ yR rfl ez boot_int (aV (QP.v (mG (iB (Room.units hr)) (eS (aD 3) (QP.v aN)) (QP.v cJ) (cZ _))) bW)))) bO))) (QP.v (iL (aD 3) (iQ (QP.v aN)) kG)))) (QP.v (eU (aW (QV.p (eS (aD 4) (QP.v aN))) bO)))))))
  eC)
 (bI (fP (gC (j:=1) rfl (iM (iM (cR 1) (QP.v (iU (QP.v aN)))) (QP.v aN)) (aW (QV.p (aD 6)) bO))))))))
  (bI (fP (gC (j:=1) rfl (iM (iM (cR 1) (QP.v (iU (QP.v aN)))) (QP.v aN)) (aW (QV.p (aD 2)) bO)))))))))))
 (bI (eB (QP.e (gZ lV rfl az boot_tuple (aV (eS (eS (aD 1) (QP.v aN)) (QP.v aN)) bW)))))))
def rH(dk:(tz6))(cz:(tz6)):tz1:=
 (aI (fIf (aG (bM (aP (fT (aE gJ (aA (aB 0) (aA (fC (.ty "tuple")) aC))))) (fB (f2 dNe (aE bD (aA (aB 0) aC)) (aE bD (aA (aB 1) aC))))))
  (aZ (aF (fC (.bl false))))
  aJ)
 (aI (dG 2 (eG (aA (aE bD (aA (aB 1) aC)) aC))
  (fIf (aG (fT (aE gJ (aA (f2 dIx (aB 1) (aB 2)) (aA (fC (.ty "tuple")) aC)))))
  (fIf (aG (aP (fT (aE dk (aA (f2 dIx (aB 0) (aB 2)) (aA (f2 dIx (aB 1) (aB 2)) aC))))))
  (aZ (aF (fC (.bl false))))
  aJ)
  (fIf (aG (fT (aE gJ (aA (f2 dIx (aB 1) (aB 2)) (aA (fC (.ty "str")) aC)))))
  (fIf (aG (bM (aP (fT (aE gJ (aA (f2 dIx (aB 0) (aB 2)) (aA (fC (.ty "str")) aC))))) (fB (f2 dNe (f2 dIx (aB 0) (aB 2)) (f2 dIx (aB 1) (aB 2))))))
  (aZ (aF (fC (.bl false))))
  aJ)
  (fIf (aG (bM (aP (fT (aE cz (aA (f2 dIx (aB 0) (aB 2)) aC)))) (fB (f2 dNe (f2 dIx (aB 0) (aB 2)) (f2 dIx (aB 1) (aB 2))))))
  (aZ (aF (fC (.bl false))))
  aJ))))
 (aZ (aF (fC (.bl true))))))
abbrev mS:Stmt:=top 24
theorem zf9:FnScope ["_law_found","_law_due","_law_k"] ["_law_found","_law_due"] (aY mS):=⟨rfl,rfl,rfl,by decide+kernel,rfl,by decide+kernel,by decide+kernel⟩
theorem yf9{n:Nat}{f:Addr}{fd:FuncData}{dk:(tz6)}{cz:(tz6)}{ig:Addr}{gh:FuncData}(fj:Dn K mg "_law_same" mS ["_law_found","_law_due"] f fd)
  (i3:FnOk P w K mg base CX0 n f fd ["_law_found","_law_due"] (SpP 2 K κ dk))
  (cu:Dn K mg "_law_whole" kL ["_law_found"] ig gh) (gb:FnOk P w K mg base CX0 n ig gh ["_law_found"] (SpP 1 K κ cz))
  (bg:mg "range"=none)
  (ah:mg "len"=none)
  (al:mg "isinstance"=none)
  (az:mg "tuple"=none)
  (qd:mg "str"=none):
  FnOk P w K mg base CX0 (n+1) f fd ["_law_found","_law_due"] (SpP 2 K κ (gP 2 1 (rH dk cz))):=
 gQ fj.F zf9 fun cdv A outer s H E B hr=>
 (bE (eK (QT.e (oZ (sW (pM (nE (QP.v (eJ rA rfl al boot_isinstance (aV (aD 0) (aV (QP.v (qZ rfl az boot_tuple)) bW)))))) (qH (dC (sY (Room.units hr)) (QP.v (eJ jB rfl ah boot_len (aV (aD 0) bW))) (QP.v (eJ jB rfl ah boot_len (aV (aD 1) bW))) (cZ _))))))
  (bI (eB (QP.e nZ)))
  eC)
 (bE (qI 2 PassesOwn.never rfl zf9.nd rfl (.inl rfl) rfl rfl (mH rfl bg (aV (QP.v (eJ jB rfl ah boot_len (aV (aD 1) bW))) bW))
  (bI (eK (QT.e (nE (QP.v (eJ rA rfl al boot_isinstance (aV (eS (aD 1) (aD 2)) (aV (QP.v (qZ rfl az boot_tuple)) bW))))))
  (bI (eK (QT.e (pM (nE (QP.v (iS fj i3 hr rfl rfl (aV (eS (aD 0) (aD 2)) (aV (eS (aD 1) (aD 2)) bW)) (cS (cS fQ)))))))
  (bI (eB (QP.e nZ)))
  eC))
  (bI (eK (QT.e (nE (QP.v (eJ rA rfl al boot_isinstance (aV (eS (aD 1) (aD 2)) (aV (QP.v (qZ rfl qd boot_str)) bW))))))
  (bI (eK (QT.e (oZ (sW (pM (nE (QP.v (eJ rA rfl al boot_isinstance (aV (eS (aD 0) (aD 2)) (aV (QP.v (qZ rfl qd boot_str)) bW)))))) (qH (dC (sY (Room.units hr)) (eS (aD 0) (aD 2)) (eS (aD 1) (aD 2)) (cZ _))))))
  (bI (eB (QP.e nZ)))
  eC))
  (bI (eK (QT.e (oZ (sW (pM (nE (QP.v (iS cu gb hr rfl rfl (aV (eS (aD 0) (aD 2)) bW) (cS fQ))))) (qH (dC (sY (Room.units hr)) (eS (aD 0) (aD 2)) (eS (aD 1) (aD 2)) (cZ _))))))
  (bI (eB (QP.e nZ)))
  eC)))))))
 (bI (eB (QP.e nZ)))))
def rJ(aq:(tz6))(ck:(tz6))(gi:(tz6)):tz1:=
 (aI (aM 1 (aF (aE aq (aA (aB 0) (aA (fC (.int 0)) (aA (fC (.int 40)) aC))))))
 (aI (aM 2 (aF (aE dH (aA (f2 aO (aE bD (aA (aB 0) aC)) (fC (.int 2))) (aA (fC (.int 40)) aC)))))
 (aI (fIf (aG (fB (f2 dEq (f2 fO (aB 1) (fC (.int 8))) (fC (.int 1)))))
  (aZ (aF (zi9 [none,some 0] (eG (aA (f2 aO (fC (.int 196)) (f2 fO (f2 iX (aB 1) (fC (.int 8))) (fC (.int 5)))) aC)) yC (aE ck (aA (aE aq (aA (aB 1) (aA (aB 0) (aA (fC (.int 41)) aC)))) aC)))))
  aJ)
 (aI (fIf (aG (fB (f2 dEq (f2 fO (aB 1) (fC (.int 8))) (fC (.int 3)))))
  (aI (aM 3 (aF (f2 aO (fC (.int 9)) (f2 fO (f2 iX (aB 1) (fC (.int 8))) (fC (.int 4))))))
 (aI (aM 4 (aF (f2 dIx (aX (fKs [.str "open",.str "hang",.str "either"])) (f2 fO (f2 iX (aB 1) (fC (.int 32))) (fC (.int 3))))))
 (aI (aM 5 (aF (f2 dIx (aX (aA (bF (aA (bC (aB 4)) aC)) (aA (bF (aA (fC (.str "hang")) (aA (fC (.int 3)) aC))) aC))) (aE cH (aA (f2 dEq (aB 4) (fC (.str "hang"))) aC)))))
 (aI (aM 6 (aF (f2 cP (dE [("open",(aX (aA (bF (aA (fC (.str "close")) aC)) aC))),("hang",(aX (aA (bF (aA (fC (.str "back")) aC)) aC))),("either",(aX (aA (bF (aA (fC (.str "or")) aC)) (aA (bF (aA (fC (.str "end")) aC)) (aA (bF (aA (fC (.str "done")) aC)) aC)))))]) (aB 4))))
 (aZ (aF (f2 aO (f2 aO (f2 fD (aX (aA (bC (aB 5)) aC)) (aB 3)) (aE gi (aA (aB 0) (aA (fC (.int 0)) (aA (aB 2) (aA (fC (.int 0)) aC)))))) (f2 fD (aB 6) (aB 3)))))))))
  aJ)
 (aZ (aF (aE gi (aA (aB 0) (aA (fC (.int 0)) (aA (aB 2) (aA (fC (.int 4)) aC)))))))))))
abbrev lK:Stmt:=top 25
theorem mK:FnScope ["_law_script","_law_number","_law_many","_law_deep","_law_word_here","_law_head","_law_shut"] ["_law_script"] (aY lK):=⟨rfl,rfl,rfl,by decide+kernel,rfl,by decide+kernel,by decide+kernel⟩
theorem yg0{n:Nat}{f:Addr}{fd:FuncData}{aq:(tz6)}{df:Addr}{cw:FuncData}{ck:(tz6)}{iz:Addr}{ie:FuncData}{gi:(tz6)}{nq:Addr}{ng:FuncData}(g6:Dn K mg "_law_some" lK ["_law_script"] f fd)
  (bo:Dn K mg "_law_mixed" jR ["_law_script","_law_k","_law_salt"] df cw) (bx:FnOk P w K mg base CX0 n df cw ["_law_script","_law_k","_law_salt"] (SpP 3 K κ aq))
  (di:Dn K mg "_law_leaf" lJ ["_law_number"] iz ie) (gz:FnOk P w K mg base CX0 n iz ie ["_law_number"] (SpP 1 K κ ck))
  (dj:Dn K mg "_law_tokens" kS ["_law_script","_law_at","_law_many","_law_nest"] nq ng) (iu:FnOk P w K mg base CX0 n nq ng ["_law_script","_law_at","_law_many","_law_nest"] (SpP 4 K κ gi))
  (rl:mg "min"=none)
  (ah:mg "len"=none)
  (ez:mg "int"=none)
  (bg:mg "range"=none):
  FnOk P w K mg base CX0 (n+1) f fd ["_law_script"] (SpP 1 K κ (gP 1 6 (rJ aq ck gi))):=
 gQ g6.F mK fun cdv A outer s H E B hr=>
 (bE (dP 1 mK.nd rfl (.inl rfl) rfl rfl (QP.e (iS bo bx hr rfl rfl (aV (aD 0) (aV (QP.v aN) (aV (QP.v aN) bW))) (cS (cS (cS fQ))))))
 (bE (dP 2 mK.nd rfl (.inl rfl) rfl rfl (QP.e (eJ (zl5 rfl) rfl rl boot_min (aV (QP.v (cK eX (QP.v (eJ jB rfl ah boot_len (aV (aD 0) bW))) (QP.v aN))) (aV (QP.v aN) bW)))))
 (bE (eK (QT.e (dC (iB (Room.units hr)) (QP.v (cK iI (aD 1) (QP.v aN))) (QP.v aN) (cZ _)))
  (bI (eB (QP.e (za7 (sc:=aY lK) (NX:=["_law_script","_law_number","_law_many","_law_deep","_law_word_here","_law_head","_law_shut"]) (N:=["_law_k","_law_script"]) (pick:=[none,some 0]) ⟨rfl,by decide+kernel,by decide+kernel,by decide+kernel,by decide+kernel,by decide,rfl⟩ rfl rfl rfl (QIP.v (mH rfl bg (aV (QP.v (cK eX (QP.v aN) (QP.v (cK iI (QP.v (cK mB (aD 1) (QP.v aN))) (QP.v aN))))) bW))) (fun _ _ _ _=>(kX (i:=0) (show(["_law_k","_law_script"]:List Str).Nodup by decide) rfl (.inl rfl))) (fun _ _ _ _=>za6) (fun _ _ _ _=>(iS di gz hr rfl rfl (aV (QP.v (iS bo bx hr rfl rfl (aV (aD 1) (aV (aD 0) (aV (QP.v aN) bW))) (cS (cS (cS fQ))))) bW) (cS fQ)))))))
  eC)
 (bE (eK (QT.e (dC (iB (Room.units hr)) (QP.v (cK iI (aD 1) (QP.v aN))) (QP.v aN) (cZ _)))
  (bE (dP 3 mK.nd rfl (.inl rfl) rfl rfl (QP.e (cK eX (QP.v aN) (QP.v (cK iI (QP.v (cK mB (aD 1) (QP.v aN))) (QP.v aN))))))
 (bE (dP 4 mK.nd rfl (.inl rfl) rfl rfl (QP.e (oB (eH (iN (.str (.str (.str .nil))))) (QP.v (cK iI (QP.v (cK mB (aD 1) (QP.v aN))) (QP.v aN))))))
 (bE (dP 5 mK.nd rfl (.inl rfl) rfl rfl (QP.e (oB (eH (aW (eU (aW (QV.p (aD 4)) bO)) (aW (eU (aW cJ (aW aN bO))) bO))) (QP.v (gZ yR rfl ez boot_int (aV (QP.v (mG (iB (Room.units hr)) (aD 4) (QP.v cJ) (cZ _))) bW))))))
 (bE (dP 6 mK.nd rfl (.inl rfl) rfl rfl (QP.e (sB (zw6 hr) (sC (l:=[("open",(aX (aA (bF (aA (fC (.str "close")) aC)) aC))),("hang",(aX (aA (bF (aA (fC (.str "back")) aC)) aC))),("either",(aX (aA (bF (aA (fC (.str "or")) aC)) (aA (bF (aA (fC (.str "end")) aC)) (aA (bF (aA (fC (.str "done")) aC)) aC)))))]) (jH cJ (eH (aW (eU (aW cJ bO)) bO)) (jH cJ (eH (aW (eU (aW cJ bO)) bO)) (jH cJ (eH (aW (eU (aW cJ bO)) (aW (eU (aW cJ bO)) (aW (eU (aW cJ bO)) bO)))) rW))) (by decide+kernel) (by decide)) (aD 4))))
 (bI (eB (QP.e (cK eX (QP.v (cK eX (QP.v (cK yQ (QP.v (eH (aW (QV.p (aD 5)) bO))) (aD 3))) (QP.v (iS dj iu hr rfl rfl (aV (aD 0) (aV (QP.v aN) (aV (aD 2) (aV (QP.v aN) bW)))) (cS (cS (cS (cS fQ)))))))) (QP.v (cK yQ (aD 6) (aD 3)))))))))))
  eC)
 (bI (eB (QP.e (iS dj iu hr rfl rfl (aV (aD 0) (aV (QP.v aN) (aV (aD 2) (aV (QP.v aN) bW)))) (cS (cS (cS (cS fQ))))))))))))
def oS:tz1:=
 (aI (aM 2 (aF (f2 fO (aB 1) (fC (.int 5)))))
 (aI (aM 3 (aF (f2 fO (f2 iX (aB 1) (fC (.int 5))) (aE dL (aA (fC (.int 1)) (aA (aE bD (aA (aB 0) aC)) aC))))))
 (aI (aM 4 (aF (f2 fO (f2 iX (aB 1) (fC (.int 1500))) (f2 aO (aE bD (aA (aB 0) aC)) (fC (.int 1))))))
 (aI (aM 5 (aF (aX (aA (bF (aA (fC (.str "open")) aC)) (aA (bF (aA (fC (.str "close")) aC)) (aA (bF (aA (fC (.str "hang")) (aA (fC (.int 2)) aC))) (aA (bF (aA (fC (.str "back")) aC)) (aA (bF (aA (fC (.str "either")) aC)) (aA (bF (aA (fC (.str "or")) aC)) (aA (bF (aA (fC (.str "done")) aC)) (aA (bF (aA (fC (.str "end")) aC)) aC)))))))))))
 (aI (fIf (aG (fB (f2 dEq (aB 2) (fC (.int 0)))))
  (aZ (aF (f2 aO (fSl (aB 0) cB (cT (aB 3))) (fSl (aB 0) (cT (f2 aO (aB 3) (fC (.int 1)))) cB))))
  aJ)
 (aI (fIf (aG (fB (f2 dEq (aB 2) (fC (.int 1)))))
  (aZ (aF (f2 aO (f2 aO (fSl (aB 0) cB (cT (aB 4))) (fSl (aB 0) (cT (aB 3)) (cT (f2 aO (aB 3) (fC (.int 1)))))) (fSl (aB 0) (cT (aB 4)) cB))))
  aJ)
 (aI (fIf (aG (fB (f2 dEq (aB 2) (fC (.int 2)))))
  (aI (aM 6 (aF (ya2 (fSl (aB 0) (cT (aB 3)) (cT (f2 aO (aB 3) (fC (.int 2))))))))
 (aZ (aF (f2 aO (f2 aO (fSl (aB 0) cB (cT (aB 3))) (aB 6)) (fSl (aB 0) (cT (f2 aO (aB 3) (fC (.int 2)))) cB)))))
  aJ)
 (aI (fIf (aG (fB (f2 dEq (aB 2) (fC (.int 3)))))
  (aZ (aF (f2 aO (f2 aO (fSl (aB 0) cB (cT (aB 4))) (aX (aA (bC (f2 dIx (aB 5) (f2 fO (f2 iX (aB 1) (fC (.int 5))) (fC (.int 8))))) aC))) (fSl (aB 0) (cT (aB 4)) cB))))
  aJ)
 (aZ (aF (fSl (aB 0) cB (cT (f2 aO (aB 3) (fC (.int 1)))))))))))))))
abbrev kC:Stmt:=top 26
theorem lA:FnScope ["_law_some_here","_law_number","_law_way","_law_at","_law_to","_law_more","_law_two"] ["_law_some_here","_law_number"] (aY kC):=⟨rfl,rfl,rfl,by decide+kernel,rfl,by decide+kernel,by decide+kernel⟩
theorem zo2{n:Nat}{f:Addr}{fd:FuncData}(dt:Dn K mg "_law_changed" kC ["_law_some_here","_law_number"] f fd)
  (my:mg "max"=none)
  (j8:mg "list"=none)
  (ah:mg "len"=none)
  (kr:mg "reversed"=none):
  FnOk P w K mg base CX0 (n+1) f fd ["_law_some_here","_law_number"] (SpP 2 K κ (gP 2 5 (oS))):=
 gQ dt.F lA fun cdv A outer s H E B hr=>
 (bE (dP 2 lA.nd rfl (.inl rfl) rfl rfl (QP.e (cK iI (aD 1) (QP.v aN))))
 (bE (dP 3 lA.nd rfl (.inl rfl) rfl rfl (QP.e (cK iI (QP.v (cK mB (aD 1) (QP.v aN))) (QP.v (eJ (zl4 rfl) rfl my boot_max (aV (QP.v aN) (aV (QP.v (eJ jB rfl ah boot_len (aV (aD 0) bW))) bW)))))))
 (bE (dP 4 lA.nd rfl (.inl rfl) rfl rfl (QP.e (cK iI (QP.v (cK mB (aD 1) (QP.v aN))) (QP.v (cK eX (QP.v (eJ jB rfl ah boot_len (aV (aD 0) bW))) (QP.v aN))))))
 (bE (dP 5 lA.nd rfl (.inl rfl) rfl rfl (QP.e (eH (aW (eU (aW cJ bO)) (aW (eU (aW cJ bO)) (aW (eU (aW cJ (aW aN bO))) (aW (eU (aW cJ bO)) (aW (eU (aW cJ bO)) (aW (eU (aW cJ bO)) (aW (eU (aW cJ bO)) (aW (eU (aW cJ bO)) bO)))))))))))
 (bE (eK (QT.e (dC (iB (Room.units hr)) (aD 2) (QP.v aN) (cZ _)))
  (bI (eB (QP.e (cK eX (QP.v (iL (aD 0) kG (iQ (aD 3)))) (QP.v (iL (aD 0) (iQ (QP.v (cK eX (aD 3) (QP.v aN)))) kG))))))
  eC)
 (bE (eK (QT.e (dC (iB (Room.units hr)) (aD 2) (QP.v aN) (cZ _)))
  (bI (eB (QP.e (cK eX (QP.v (cK eX (QP.v (iL (aD 0) kG (iQ (aD 4)))) (QP.v (iL (aD 0) (iQ (aD 3)) (iQ (QP.v (cK eX (aD 3) (QP.v aN)))))))) (QP.v (iL (aD 0) (iQ (aD 4)) kG))))))
  eC)
 (bE (eK (QT.e (dC (iB (Room.units hr)) (aD 2) (QP.v aN) (cZ _)))
  (bE (dP 6 lA.nd rfl (.inl rfl) rfl rfl (QP.e (zn4 rfl (QP.v (iL (aD 0) (iQ (aD 3)) (iQ (QP.v (cK eX (aD 3) (QP.v aN)))))) rfl j8 rfl kr)))
 (bI (eB (QP.e (cK eX (QP.v (cK eX (QP.v (iL (aD 0) kG (iQ (aD 3)))) (aD 6))) (QP.v (iL (aD 0) (iQ (QP.v (cK eX (aD 3) (QP.v aN)))) kG)))))))
  eC)
 (bE (eK (QT.e (dC (iB (Room.units hr)) (aD 2) (QP.v aN) (cZ _)))
  (bI (eB (QP.e (cK eX (QP.v (cK eX (QP.v (iL (aD 0) kG (iQ (aD 4)))) (QP.v (eH (aW (QV.p (eS (aD 5) (QP.v (cK iI (QP.v (cK mB (aD 1) (QP.v aN))) (QP.v aN))))) bO))))) (QP.v (iL (aD 0) (iQ (aD 4)) kG))))))
  eC)
 (bI (eB (QP.e (iL (aD 0) kG (iQ (QP.v (cK eX (aD 3) (QP.v aN))))))))))))))))
def lE:tz1:=
 (aI (aM 1 (aF (aX aC)))
 (aI (dG 2 (eG (aA (aE bD (aA (aB 0) aC)) aC))
  (aI (aM 3 (aF (bC (f2 dIx (f2 dIx (aB 0) (aB 2)) (fC (.int 0))))))
 (aI (fIf (aG (fB (f2 dGe (aB 2) (fC (.int 200)))))
  (aZ (aF (f2 aO (aB 2) (fC (.int 1)))))
  aJ)
 (aI (fIf (aG (fB (f2 dIn (aB 3) (aX (fKs [.str "open",.str "hang",.str "either"])))))
  (aI (fIf (aG (fB (f2 dEq (aE bD (aA (aB 1) aC)) (fC (.int 12)))))
  (aZ (aF (f2 aO (aB 2) (fC (.int 1)))))
  aJ)
 (aR (bH 1 aU (aA (aX (aA (bC (aB 3)) (aA (fC (.int 1)) aC))) aC) aL)))
  aJ)
 (fIf (aG (fB (f2 dIn (aB 3) (aX (fKs [.str "close",.str "back",.str "or",.str "done"])))))
  (aI (aM 4 (aF (f2 cP (dE [("close",(fC (.str "open"))),("back",(fC (.str "hang"))),("or",(fC (.str "either"))),("done",(fC (.str "either")))]) (aB 3))))
 (aI (fIf (aG (bM (fB (f2 dEq (aE bD (aA (aB 1) aC)) (fC (.int 0)))) (fB (f2 dNe (f2 dIx (f2 dIx (aB 1) (bL (fC (.int 1)))) (fC (.int 0))) (aB 4)))))
  (aZ (aF (f2 aO (aB 2) (fC (.int 1)))))
  aJ)
 (aI (aM 5 (aF (bC (f2 dIx (f2 dIx (aB 1) (bL (fC (.int 1)))) (fC (.int 1))))))
 (aI (fIf (aG (bM (bB (fB (f2 dEq (aB 3) (fC (.str "or")))) (fB (f2 dEq (aB 5) (fC (.int 4))))) (bB (fB (f2 dEq (aB 3) (fC (.str "done")))) (fB (f2 dEq (aB 5) (fC (.int 1)))))))
  (aZ (aF (f2 aO (aB 2) (fC (.int 1)))))
  aJ)
 (aI (cA 1 (bP 1 aU (bL (fC (.int 1)))) (fC (.int 1)) (f2 aO (aB 5) (fC (.int 1))))
 (fIf (aG (fB (f2 dNe (aB 3) (fC (.str "or")))))
  (aR (bH 1 aU aC bZ))
  aJ))))))
  aJ)))))
 (aI (fIf (aG (fB (f2 dGt (aE bD (aA (aB 1) aC)) (fC (.int 0)))))
  (aZ (aF (f2 aO (aE bD (aA (aB 0) aC)) (fC (.int 1)))))
  aJ)
 (aZ (aF (fC (.int 0)))))))
abbrev iY:Stmt:=top 27
theorem jV:FnScope ["_law_some_here","_law_now","_law_k","_law_word_here","_law_by","_law_rows"] ["_law_some_here"] (aY iY):=⟨rfl,rfl,rfl,by decide+kernel,rfl,by decide+kernel,by decide+kernel⟩
theorem zc4{n:Nat}{f:Addr}{fd:FuncData}(cn:Dn K mg "_law_first_bad" iY ["_law_some_here"] f fd)
  (bg:mg "range"=none)
  (ah:mg "len"=none):
  FnOk P w K mg base CX0 (n+1) f fd ["_law_some_here"] (SpP 1 K κ (gP 1 5 (lE))):=
 gQ cn.F jV fun cdv A outer s H E B hr=>
 (bE (dP 1 jV.nd rfl (.inl rfl) rfl rfl (QP.e (eH bO)))
 (bE (qI 2 PassesOwn.never rfl jV.nd rfl (.inl rfl) rfl rfl (mH rfl bg (aV (QP.v (eJ jB rfl ah boot_len (aV (aD 0) bW))) bW))
  (bE (dP 3 jV.nd rfl (.inl rfl) rfl rfl (QP.e (QV.p (eS (eS (aD 0) (aD 2)) (QP.v aN)))))
 (bE (eK (QT.e (dC zl1 (aD 2) (QP.v aN) (cZ _)))
  (bI (eB (QP.e (cK eX (aD 2) (QP.v aN)))))
  eC)
 (bE (eK (QT.e (dC vB (aD 3) (QP.v (eH (iN (.str (.str (.str .nil)))))) (by with_unfolding_all rfl)))
  (bE (eK (QT.e (dC (iB (Room.units hr)) (QP.v (eJ jB rfl ah boot_len (aV (aD 1) bW))) (QP.v aN) (cZ _)))
  (bI (eB (QP.e (cK eX (aD 2) (QP.v aN)))))
  eC)
 (bI (fP (gC (j:=1) rfl (cR 1) (aW (eH (aW (QV.p (aD 3)) (aW aN bO))) bO)))))
  eC)
 (bI (eK (QT.e (dC vB (aD 3) (QP.v (eH (iN (.str (.str (.str (.str .nil))))))) (by with_unfolding_all rfl)))
  (bE (dP 4 jV.nd rfl (.inl rfl) rfl rfl (QP.e (sB (zw6 hr) (sC (l:=[("close",(fC (.str "open"))),("back",(fC (.str "hang"))),("or",(fC (.str "either"))),("done",(fC (.str "either")))]) (jH cJ cJ (jH cJ cJ (jH cJ cJ (jH cJ cJ rW)))) (by decide+kernel) (by decide)) (aD 3))))
 (bE (eK (QT.e (oZ (sW (dC (iB (Room.units hr)) (QP.v (eJ jB rfl ah boot_len (aV (aD 1) bW))) (QP.v aN) (cZ _)) (qH (dC (sY (Room.units hr)) (eS (eS (aD 1) (QP.v (iU (QP.v aN)))) (QP.v aN)) (aD 4) (cZ _))))))
  (bI (eB (QP.e (cK eX (aD 2) (QP.v aN)))))
  eC)
 (bE (dP 5 jV.nd rfl (.inl rfl) rfl rfl (QP.e (QV.p (eS (eS (aD 1) (QP.v (iU (QP.v aN)))) (QP.v aN)))))
 (bE (eK (QT.e (oZ (sW (oZ (nF (dC (iB (Room.units hr)) (aD 3) (QP.v cJ) (cZ _)) (nS (dC (iB (Room.units hr)) (aD 5) (QP.v aN) (cZ _))))) (qH (oZ (nF (dC (iB (Room.units hr)) (aD 3) (QP.v cJ) (cZ _)) (nS (dC (iB (Room.units hr)) (aD 5) (QP.v aN) (cZ _)))))))))
  (bI (eB (QP.e (cK eX (aD 2) (QP.v aN)))))
  eC)
 (bE (qK (j:=1) rfl (cK eX (aD 5) (QP.v aN)) (iM (cR 1) (QP.v (iU (QP.v aN)))) (QP.v aN))
 (bI (eK (QT.e (dC (sY (Room.units hr)) (aD 3) (QP.v cJ) (cZ _)))
  (bI (fP (sA (j:=1) rfl (cR 1))))
  eC)))))))
  eC))))))
 (bE (eK (QT.e (dC sX (QP.v (eJ jB rfl ah boot_len (aV (aD 1) bW))) (QP.v aN) (cZ _)))
  (bI (eB (QP.e (cK eX (QP.v (eJ jB rfl ah boot_len (aV (aD 0) bW))) (QP.v aN)))))
  eC)
 (bI (eB (QP.e aN))))))
def uO(ib:(List D->Option Int))(cz:(tz6)):tz1:=
 (aI (aM 1 (aF (fC .non)))
 (ya4 ib (okN cz) (aA (aB 0) aC)))
abbrev nP:Stmt:=top 28
theorem xP:FnScope ["_law_some_here","_law_bad_here","e"] ["_law_some_here"] (aY nP):=⟨rfl,rfl,rfl,by decide+kernel,rfl,by decide+kernel,by decide+kernel⟩
theorem ym3{n:Nat}{f:Addr}{fd:FuncData}{ib:(List D->Option Int)}{gj:Addr}{et:FuncData}{cz:(tz6)}{ig:Addr}{gh:FuncData}{aa:Addr}{d8:Addr}{g7:Addr}{b0:Addr}(iy:Dn K mg "_law_bad" nP ["_law_some_here"] f fd)
  (bn:Dn K mg "row_of" jC ["tokens"] gj et) (jz:FnOk P w K mg base (CXn P w base aa) n gj et ["tokens"] (rQ 1 K κ aa ib))
  (cu:Dn K mg "_law_whole" kL ["_law_found"] ig gh) (gb:FnOk P w K mg base CX0 n ig gh ["_law_found"] (SpP 1 K κ cz))
  (N_NoPiece:NumI P w K mg base "NoPiece" aa)
  (d4:PySem.W.mroIn K aa (.ref aa)=some true)
  (d9:KExc K aa)
  (kn_NoPiece:KNum K aa)
  (kt:mg "NoChoice"=some (.ref d8))
  (nj:mg "NoRoom"=some (.ref g7))
  (b7:PySem.W.kitAny K (.ref aa) [.ref d8,.ref g7]=some false)
  (j4:mg "LineError"=some (.ref b0))
  (dl:PySem.W.kitOne K (.ref aa) (.ref b0)=some true)
  (db:PySem.W.kitOne K (.ref aa) (.type "ValueError")=some true)
  (al:mg "isinstance"=none)
  (i4:mg "ValueError"=none):
  FnOk P w K mg base CX0 (n+1) f fd ["_law_some_here"] (SpP 1 K κ (gP 1 2 (uO ib cz))):=
 gQ iy.F xP fun cdv A outer s H E B hr=>
 (bE (dP 1 xP.nd rfl (.inl rfl) rfl rfl (QP.e zk7))
 (xN bn jz N_NoPiece N_NoPiece d4 hr rfl rfl rfl (aV (aD 0) bW) (cS fQ) rfl rfl xP.nd rfl rfl (by decide) rfl rfl (i:=2) (j:=1) (fun ea oe D n hok hc hd hw=>(xM rfl (Or.inl rfl) (wC sG hc d9 rfl al rfl (Or.inl rfl) (nQ (v:= .ref b0) rfl j4 rfl) (fun u h=>by cases h;exact dl)) (wC sG hc d9 rfl al rfl (Or.inl rfl) (vQ rfl i4 rfl (v:= .ty "ValueError") rfl) (fun u h=>by cases h;exact db)) (xK sG hc d9 rfl al rfl (Or.inl rfl) (nQ (v:= .ref d8) rfl kt rfl) (nQ (v:= .ref g7) rfl nj rfl) (fun us h=>by cases h with|cons h1 h2=>cases h2 with|cons h3 h4=>cases h4;cases h1;cases h3;exact b7)) (zc3 (zi8 sG hc hd hw kn_NoPiece rfl (Or.inl rfl)) hok cu gb hr rfl) (zi8 sG hc hd hw kn_NoPiece rfl (Or.inl rfl))))))
def zq3(ku:(tz6))(aq:(tz6))(ic:(tz6))(fg:(tz6))(mz:(tz6))(iw:(tz6))(dk:(tz6))(jp:(tz6)):tz1:=
 (aI (aM 1 (aF (aE ku (aA (aB 0) aC))))
 (aI (dG 2 (eG (aA (f2 dIx (aX (fKs [.int 0,.int 1,.int 1,.int 2,.int 3])) (f2 fO (aE aq (aA (aB 0) (aA (fC (.int 2)) (aA (fC (.int 43)) aC)))) (fC (.int 5)))) aC))
  (aM 1 (aF (aE ic (aA (aB 1) (aA (aE aq (aA (aB 0) (aA (f2 aO (fC (.int 3)) (aB 2)) (aA (fC (.int 44)) aC)))) aC))))))
 (aI (aM 3 (aF (aE fg (aA (aB 1) aC))))
 (aI (aM 4 (aF (aE cM (aA (aB 1) aC))))
 (aI (fIf (aG (fB (f2 dGt (aB 3) (fC (.int 0)))))
  (aZ (aF (iE (f2 dEq (aE mz (aA (aB 4) aC)) (aB 3)) (f2 dEq (aB 4) (aB 1)))))
  aJ)
 (aI (aM 5 (aF (aE iw (aA (aB 4) aC))))
 (aZ (aF (iE (f2 dEq (aB 4) (aB 1)) (aE dk (aA (aB 5) (aA (aE jp (aA (aB 1) aC)) aC))))))))))))
abbrev oU:Stmt:=top 29
theorem qO:FnScope ["_law_script","_law_some_here","_law_k","_law_due","_law_handed","_law_found"] ["_law_script"] (aY oU):=⟨rfl,rfl,rfl,by decide+kernel,rfl,by decide+kernel,by decide+kernel⟩
theorem yz7{n:Nat}{f:Addr}{fd:FuncData}{ku:(tz6)}{qg:Addr}{pd:FuncData}{aq:(tz6)}{df:Addr}{cw:FuncData}{ic:(tz6)}{nh:Addr}{lq:FuncData}{fg:(tz6)}{lg:Addr}{j9:FuncData}{mz:(tz6)}{rj:Addr}{qh:FuncData}{iw:(tz6)}{gj:Addr}{et:FuncData}{dk:(tz6)}{qi:Addr}{pe:FuncData}{jp:(tz6)}{ph:Addr}{nr:FuncData}(rm:Dn K mg "law" oU ["_law_script"] f fd)
  (g6:Dn K mg "_law_some" lK ["_law_script"] qg pd) (nk:FnOk P w K mg base CX0 n qg pd ["_law_script"] (SpP 1 K κ ku))
  (bo:Dn K mg "_law_mixed" jR ["_law_script","_law_k","_law_salt"] df cw) (bx:FnOk P w K mg base CX0 n df cw ["_law_script","_law_k","_law_salt"] (SpP 3 K κ aq))
  (dt:Dn K mg "_law_changed" kC ["_law_some_here","_law_number"] nh lq) (j6:FnOk P w K mg base CX0 n nh lq ["_law_some_here","_law_number"] (SpP 2 K κ ic))
  (cn:Dn K mg "_law_first_bad" iY ["_law_some_here"] lg j9) (il:FnOk P w K mg base CX0 n lg j9 ["_law_some_here"] (SpP 1 K κ fg))
  (iy:Dn K mg "_law_bad" nP ["_law_some_here"] rj qh) (oi:FnOk P w K mg base CX0 n rj qh ["_law_some_here"] (SpP 1 K κ mz))
  (bn:Dn K mg "row_of" jC ["tokens"] gj et) (kx:FnOk P w K mg base CX0 n gj et ["tokens"] (SpP 1 K κ iw))
  (fj:Dn K mg "_law_same" mS ["_law_found","_law_due"] qi pe) (i3:FnOk P w K mg base CX0 n qi pe ["_law_found","_law_due"] (SpP 2 K κ dk))
  (fz:Dn K mg "_law_built" lQ ["_law_some_here"] ph nr) (lr:FnOk P w K mg base CX0 n ph nr ["_law_some_here"] (SpP 1 K κ jp))
  (bg:mg "range"=none)
  (j8:mg "list"=none):
  FnOk P w K mg base CX0 (n+1) f fd ["_law_script"] (SpP 1 K κ (gP 1 5 (zq3 ku aq ic fg mz iw dk jp))):=
 gQ rm.F qO fun cdv A outer s H E B hr=>
 (bE (dP 1 qO.nd rfl (.inl rfl) rfl rfl (QP.e (iS g6 nk hr rfl rfl (aV (aD 0) bW) (cS fQ))))
 (bE (qI 2 PassesOwn.never rfl qO.nd rfl (.inl rfl) rfl rfl (mH rfl bg (aV (QP.v (oB (eH (iN (.int (.int (.int (.int (.int .nil))))))) (QP.v (cK iI (QP.v (iS bo bx hr rfl rfl (aV (aD 0) (aV (QP.v aN) (aV (QP.v aN) bW))) (cS (cS (cS fQ))))) (QP.v aN))))) bW))
  (bI (dP 1 qO.nd rfl (.inl rfl) rfl rfl (QP.e (iS dt j6 hr rfl rfl (aV (aD 1) (aV (QP.v (iS bo bx hr rfl rfl (aV (aD 0) (aV (QP.v (cK eX (QP.v aN) (aD 2))) (aV (QP.v aN) bW))) (cS (cS (cS fQ))))) bW)) (cS (cS fQ)))))))
 (bE (dP 3 qO.nd rfl (.inl rfl) rfl rfl (QP.e (iS cn il hr rfl rfl (aV (aD 1) bW) (cS fQ))))
 (bE (dP 4 qO.nd rfl (.inl rfl) rfl rfl (QP.e (gZ zl6 rfl j8 boot_list (aV (aD 1) bW))))
 (bE (eK (QT.e (dC sX (aD 3) (QP.v aN) (cZ _)))
  (bI (eB (QP.e (vA (mG (iB (Room.units hr)) (QP.v (iS iy oi hr rfl rfl (aV (aD 4) bW) (cS fQ))) (aD 3) (cZ _)) (uZ (mG (iB (Room.units hr)) (aD 4) (aD 1) (cZ _)))))))
  eC)
 (bE (dP 5 qO.nd rfl (.inl rfl) rfl rfl (QP.e (iS bn kx hr rfl rfl (aV (aD 4) bW) (cS fQ))))
 (bI (eB (QP.e (vA (mG (iB (Room.units hr)) (aD 4) (aD 1) (cZ _)) (uZ (iS fj i3 hr rfl rfl (aV (aD 5) (aV (QP.v (iS fz lr hr rfl rfl (aV (aD 1) bW) (cS fQ))) bW)) (cS (cS fQ))))))))))))))
def qV:tz1:=
 (aI (cW 0 aU "Nest" "opener" (bC (aB 1)))
 (aI (cW 0 aU "Nest" "ended" (aX aC))
 (cW 0 aU "Nest" "pieces" (aX aC))))
abbrev jE:Stmt:=lY (top 12) 0
theorem zo3:FnScope ["self","opener"] ["self","opener"] (aY jE):=⟨rfl,rfl,rfl,by decide+kernel,rfl,by decide+kernel,by decide+kernel⟩
theorem zo4{n:Nat}{f:Addr}{fd:FuncData}(gk:Kn K mg κ "Nest" "Nest.__init__" jE ["self","opener"] f fd)
  (ae:Cls K (κ "Nest"))
  (ce:dZ K (κ "Nest") "opener")
  (b8:dZ K (κ "Nest") "ended")
  (ar:dZ K (κ "Nest") "pieces"):
  FnOk P w K mg base CX0 (n+1) f fd ["self","opener"] (SpE 2 K κ (cY [true,false]) (gE 2 0 (cY [true,false]) (qV))):=
 tH gk.F zo3 (fun i hi=>qL hi) fun cdv A outer s H E hr=>
 (bE (kK (C:="Nest") ae ce rfl (QV.p (aD 1)) (cR 0))
 (bE (kK (C:="Nest") ae b8 rfl (eH bO) (cR 0))
 (bI (kK (C:="Nest") ae ar rfl (eH bO) (cR 0)))))
def oV:tz1:=
 (aI (aR (bH 0 (dR 0 aU "Nest" "ended") (aA (aE bK (aA (dJ "Nest" "pieces" (aB 0)) aC)) aC) aL))
 (cW 0 aU "Nest" "pieces" (aX aC)))
abbrev iP:Stmt:=lY (top 12) 1
theorem zC:FnScope ["self"] ["self"] (aY iP):=⟨rfl,rfl,rfl,by decide+kernel,rfl,by decide+kernel,by decide+kernel⟩
theorem zD{n:Nat}{f:Addr}{fd:FuncData}(ci:Mn K κ "Nest" "end_row" "Nest.end_row" iP ["self"] f fd)
  (ae:Cls K (κ "Nest"))
  (ar:dZ K (κ "Nest") "pieces")
  (b8:dZ K (κ "Nest") "ended")
  (az:mg "tuple"=none):
  FnOk P w K mg base CX0 (n+1) f fd ["self"] (SpE 1 K κ (cY [true]) (gE 1 0 (cY [true]) (oV))):=
 tH ci.F zC (fun i hi=>qL hi) fun cdv A outer s H E hr=>
 (bE (fP (gC (j:=0) rfl (jT (C:="Nest") ae b8 (cR 0)) (aW (gZ lV rfl az boot_tuple (aV (iO (C:="Nest") ae ar (aD 0)) bW)) bO)))
 (bI (kK (C:="Nest") ae ar rfl (eH bO) (cR 0))))
def eE:tz1:=
 (aI (fIf (aG (fB (f2 dNe (f2 dIx (dJ "Nest" "opener" (aB 0)) (fC (.int 0))) (f2 cP (fC (.dic false fG lC)) (aB 1)))))
  (aZ (aF (fC (.bl false))))
  aJ)
 (aI (aM 2 (aF (f2 aO (aE bD (aA (dJ "Nest" "ended" (aB 0)) aC)) (fC (.int 1)))))
 (aI (fIf (aG (fB (f2 dEq (aB 1) (fC (.str "or")))))
  (aZ (aF (f2 dLt (aB 2) (fC (.int 4)))))
  aJ)
 (aI (fIf (aG (fB (f2 dEq (aB 1) (fC (.str "done")))))
  (aZ (aF (f2 dGe (aB 2) (fC (.int 2)))))
  aJ)
 (aZ (aF (fC (.bl true))))))))
abbrev gO:Stmt:=lY (top 12) 2
theorem pO:FnScope ["self","kind","count"] ["self","kind"] (aY gO):=⟨rfl,rfl,rfl,by decide+kernel,rfl,by decide+kernel,by decide+kernel⟩
theorem vI{n:Nat}{f:Addr}{fd:FuncData}{t_FEWEST_ROWS:Tok}{t_MOST_ROWS:Tok}{a_OPENER_OF:Addr}(bw:Mn K κ "Nest" "can_end_by" "Nest.can_end_by" gO ["self","kind"] f fd)
  (ae:Cls K (κ "Nest"))
  (ce:dZ K (κ "Nest") "opener")
  (b8:dZ K (κ "Nest") "ended")
  (ah:mg "len"=none)
  (iq:mg "FEWEST_ROWS"=some (.int 2 t_FEWEST_ROWS))
  (j7:mg "MOST_ROWS"=some (.int 4 t_MOST_ROWS))
  (bi:mg "OPENER_OF"=some (.ref a_OPENER_OF)) (k_OPENER_OF:uI P w K κ a_OPENER_OF fG lC):
  FnOk P w K mg base CX0 (n+1) f fd ["self","kind"] (SpP 2 K κ (gP 2 1 (eE))):=
 gQ bw.F pO fun cdv A outer s H E B hr=>
 (bE (eK (QT.e (dC (sY (Room.units hr)) (eS (iO (C:="Nest") ae ce (aD 0)) (QP.v aN)) (zb2 rfl bi k_OPENER_OF (aD 1)) (cZ _)))
  (bI (eB (QP.e nZ)))
  eC)
 (bE (dP 2 pO.nd rfl (.inl rfl) rfl rfl (QP.e (cK eX (QP.v (eJ jB rfl ah boot_len (aV (iO (C:="Nest") ae b8 (aD 0)) bW))) (QP.v aN))))
 (bE (eK (QT.e (dC (iB (Room.units hr)) (aD 1) (QP.v cJ) (cZ _)))
  (bI (eB (QP.e (mG (rL (Room.units0 hr)) (aD 2) (QP.v (nR (v:= .int 4) (d:= .int 4) rfl j7 ⟨_,rfl⟩ (fun _=> .int 4))) (cZ _)))))
  eC)
 (bE (eK (QT.e (dC (iB (Room.units hr)) (aD 1) (QP.v cJ) (cZ _)))
  (bI (eB (QP.e (mG zl1 (aD 2) (QP.v (nR (v:= .int 2) (d:= .int 2) rfl iq ⟨_,rfl⟩ (fun _=> .int 2))) (cZ _)))))
  eC)
 (bI (eB (QP.e nZ)))))))
def kD:tz1:=
 (aI (aM 1 (aF (bC (f2 dIx (dJ "Nest" "opener" (aB 0)) (fC (.int 0))))))
 (aI (aM 2 (aF (aE bK (aA (dJ "Nest" "pieces" (aB 0)) aC))))
 (aI (fIf (aG (fB (f2 dEq (aB 1) (fC (.str "open")))))
  (aZ (aF (bF (aA (fC (.str "group")) (aA (bC (aB 2)) aC)))))
  aJ)
 (aI (fIf (aG (fB (f2 dEq (aB 1) (fC (.str "hang")))))
  (aZ (aF (bF (aA (fC (.str "hang")) (aA (bC (f2 dIx (dJ "Nest" "opener" (aB 0)) (fC (.int 1)))) (aA (bC (aB 2)) aC))))))
  aJ)
 (aZ (aF (bF (aA (fC (.str "either")) (aA (aE bK (aA (f2 aO (dJ "Nest" "ended" (aB 0)) (aX (aA (bC (aB 2)) aC))) aC)) aC)))))))))
abbrev iF:Stmt:=lY (top 12) 3
theorem nL:FnScope ["self","kind","row"] ["self"] (aY iF):=⟨rfl,rfl,rfl,by decide+kernel,rfl,by decide+kernel,by decide+kernel⟩
theorem xQ{n:Nat}{f:Addr}{fd:FuncData}(b5:Mn K κ "Nest" "as_piece" "Nest.as_piece" iF ["self"] f fd)
  (ae:Cls K (κ "Nest"))
  (ce:dZ K (κ "Nest") "opener")
  (ar:dZ K (κ "Nest") "pieces")
  (b8:dZ K (κ "Nest") "ended")
  (az:mg "tuple"=none):
  FnOk P w K mg base CX0 (n+1) f fd ["self"] (SpP 1 K κ (gP 1 2 (kD))):=
 gQ b5.F nL fun cdv A outer s H E B hr=>
 (bE (dP 1 nL.nd rfl (.inl rfl) rfl rfl (QP.e (QV.p (eS (iO (C:="Nest") ae ce (aD 0)) (QP.v aN)))))
 (bE (dP 2 nL.nd rfl (.inl rfl) rfl rfl (QP.e (gZ lV rfl az boot_tuple (aV (iO (C:="Nest") ae ar (aD 0)) bW))))
 (bE (eK (QT.e (dC (iB (Room.units hr)) (aD 1) (QP.v cJ) (cZ _)))
  (bI (eB (QP.e (eU (aW cJ (aW (QV.p (aD 2)) bO))))))
  eC)
 (bE (eK (QT.e (dC (iB (Room.units hr)) (aD 1) (QP.v cJ) (cZ _)))
  (bI (eB (QP.e (eU (aW cJ (aW (QV.p (eS (iO (C:="Nest") ae ce (aD 0)) (QP.v aN))) (aW (QV.p (aD 2)) bO)))))))
  eC)
 (bI (eB (QP.e (eU (aW cJ (aW (gZ lV rfl az boot_tuple (aV (QP.v (cK eX (iO (C:="Nest") ae b8 (aD 0)) (QP.v (eH (aW (QV.p (aD 2)) bO))))) bW)) bO))))))))))
def mE(b4:(tz7)):tz1:=
 (aI (cW 0 aU "Builder" "taken" (fC (.int 0)))
 (cW 0 aU "Builder" "nests" (aX (aA (eD "Nest" (cI [.im (bF (aA (fC (.str "row")) aC))]) b4) aC))))
abbrev hJ:Stmt:=lY (top 13) 0
theorem zE:FnScope ["self"] ["self"] (aY hJ):=⟨rfl,rfl,rfl,by decide+kernel,rfl,by decide+kernel,by decide+kernel⟩
theorem zF{n:Nat}{f:Addr}{fd:FuncData}{b4:(tz7)}{bj:Addr}{d5:FuncData}(cr:Kn K mg κ "Builder" "Builder.__init__" hJ ["self"] f fd)
  (gk:Kn K mg κ "Nest" "Nest.__init__" jE ["self","opener"] bj d5) (du:FnOk P w K mg base CX0 n bj d5 ["self","opener"] (SpE 2 K κ (cY [true,false]) b4))
  (ac:Cls K (κ "Builder"))
  (bd:dZ K (κ "Builder") "taken")
  (ai:dZ K (κ "Builder") "nests"):
  FnOk P w K mg base CX0 ((n+1)+1) f fd ["self"] (SpE 1 K κ (cY [true]) (gE 1 0 (cY [true]) (mE b4))):=
 tH cr.F zE (fun i hi=>qL hi) fun cdv A outer s H E hr=>
 (bE (kK (C:="Builder") ac bd rfl aN (cR 0))
 (bI (kK (C:="Builder") ac ai rfl (eH (aW (wA gk du hr rfl (pN (QP.v (eU (aW cJ bO))) lW) rfl rfl (jN 1)) bO)) (cR 0))))
def gU(da:(tz6)):tz1:=
 (aI (fIf (aG (fB (f2 dGe (dJ "Builder" "taken" (aB 0)) (fC (.int 200)))))
  (aZ (aF (fC (.bl false))))
  aJ)
 (aI (fIf (aG (fB (f2 dIn (aB 1) (fC (.tup [(.str "open"),(.str "hang"),(.str "either")])))))
  (aZ (aF (f2 dLt (f2 dM (aE bD (aA (dJ "Builder" "nests" (aB 0)) aC)) (fC (.int 1))) (fC (.int 12)))))
  aJ)
 (aI (fIf (aG (fE fG (aB 1)))
  (aZ (aF (aE da (aA (dA "Nest" "can_end_by" (f2 dIx (dJ "Builder" "nests" (aB 0)) (bL (fC (.int 1))))) (aA (aB 1) aC)))))
  aJ)
 (aZ (aF (fC (.bl true)))))))
abbrev fN:Stmt:=lY (top 13) 1
theorem tX:FnScope ["self","kind"] ["self","kind"] (aY fN):=⟨rfl,rfl,rfl,by decide+kernel,rfl,by decide+kernel,by decide+kernel⟩
theorem tY{n:Nat}{f:Addr}{fd:FuncData}{da:(tz6)}{ax:Addr}{ii:FuncData}{t_DEEPEST:Tok}{t_MOST_TOKENS:Tok}{a_OPENERS:Addr}{a_OPENER_OF:Addr}(am:Mn K κ "Builder" "can_stand" "Builder.can_stand" fN ["self","kind"] f fd)
  (bw:Mn K κ "Nest" "can_end_by" "Nest.can_end_by" gO ["self","kind"] ax ii) (eo:FnOk P w K mg base CX0 n ax ii ["self","kind"] (SpP 2 K κ da))
  (ac:Cls K (κ "Builder"))
  (bd:dZ K (κ "Builder") "taken")
  (ai:dZ K (κ "Builder") "nests")
  (ah:mg "len"=none)
  (lu:mg "DEEPEST"=some (.int 12 t_DEEPEST))
  (ir:mg "MOST_TOKENS"=some (.int 200 t_MOST_TOKENS))
  (dg:mg "OPENERS"=some (.ref a_OPENERS)) (k_OPENERS:∀H,Rep K κ H (.ref a_OPENERS) (.tup [(.str "open"),(.str "hang"),(.str "either")]) [])
  (bi:mg "OPENER_OF"=some (.ref a_OPENER_OF)) (k_OPENER_OF:uI P w K κ a_OPENER_OF fG lC):
  FnOk P w K mg base CX0 (n+1) f fd ["self","kind"] (SpP 2 K κ (gP 2 0 (gU da))):=
 gQ am.F tX fun cdv A outer s H E B hr=>
 (bE (eK (QT.e (dC zl1 (iO (C:="Builder") ac bd (aD 0)) (QP.v (nR (v:= .int 200) (d:= .int 200) rfl ir ⟨_,rfl⟩ (fun _=> .int 200))) (cZ _)))
  (bI (eB (QP.e nZ)))
  eC)
 (bE (eK (QT.e (dC vB (aD 1) (QP.v (nR (v:= .ref a_OPENERS) (d:=(.tup [(.str "open"),(.str "hang"),(.str "either")])) rfl dg rfl k_OPENERS)) (by with_unfolding_all rfl)))
  (bI (eB (QP.e (mG (rL (Room.units0 hr)) (QP.v (cK zx1 (QP.v (eJ jB rfl ah boot_len (aV (iO (C:="Builder") ac ai (aD 0)) bW))) (QP.v aN))) (QP.v (nR (v:= .int 12) (d:= .int 12) rfl lu ⟨_,rfl⟩ (fun _=> .int 12))) (cZ _)))))
  eC)
 (bE (eK (QT.e (zA rfl bi k_OPENER_OF (aD 1)))
  (bI (eB (QP.e (sE bw eo hr (eS (iO (C:="Builder") ac ai (aD 0)) (QP.v (iU (QP.v aN)))) rfl (aV (aD 1) bW) (cS fQ)))))
  eC)
 (bI (eB (QP.e nZ))))))
def lF(ao:(tz6))(b4:(tz7))(eh:(tz7))(dw:(tz6)):tz1:=
 (aI (aM 2 (aF (bC (f2 dIx (aB 1) (fC (.int 0))))))
 (aI (fIf (aG (aP (fT (aE ao (aA (dA "Builder" "can_stand" (aB 0)) (aA (aB 2) aC))))))
  qT
  aJ)
 (aI (cW 0 aU "Builder" "taken" (f2 aO (dJ "Builder" "taken" (aB 0)) (fC (.int 1))))
 (fIf (aG (fB (f2 dIn (aB 2) (fC (.tup [(.str "open"),(.str "hang"),(.str "either")])))))
  (aR (bH 0 (dR 0 aU "Builder" "nests") (aA (eD "Nest" (cI [.im (aB 1)]) b4) aC) aL))
  (fIf (aG (fB (f2 dEq (aB 2) (fC (.str "or")))))
  (aR (bH 0 (bP 0 (dR 0 aU "Builder" "nests") (bL (fC (.int 1)))) aC (kW "Nest" "end_row" eh)))
  (fIf (aG (fE fG (aB 2)))
  (aI (aM 3 (bH 0 (dR 0 aU "Builder" "nests") aC bZ))
 (aR (bH 0 (dR 0 (bP 0 (dR 0 aU "Builder" "nests") (bL (fC (.int 1)))) "Nest" "pieces") (aA (aE dw (aA (dA "Nest" "as_piece" (aB 3)) aC)) aC) aL)))
  (aR (bH 0 (dR 0 (bP 0 (dR 0 aU "Builder" "nests") (bL (fC (.int 1)))) "Nest" "pieces") (aA (bC (aB 1)) aC) aL))))))))
abbrev gW:Stmt:=lY (top 13) 2
theorem lB:FnScope ["self","token","kind","nest"] ["self","token"] (aY gW):=⟨rfl,rfl,rfl,by decide+kernel,rfl,by decide+kernel,by decide+kernel⟩
theorem zc5{n:Nat}{f:Addr}{fd:FuncData}{ao:(tz6)}{ag:Addr}{bv:FuncData}{b4:(tz7)}{bj:Addr}{d5:FuncData}{eh:(tz7)}{bq:Addr}{jq:FuncData}{dw:(tz6)}{bf:Addr}{i5:FuncData}{a_OPENERS:Addr}{a_OPENER_OF:Addr}(aj:Mn K κ "Builder" "add" "Builder.add" gW ["self","token"] f fd)
  (am:Mn K κ "Builder" "can_stand" "Builder.can_stand" fN ["self","kind"] ag bv) (bh:FnOk P w K mg base CX0 (n+1) ag bv ["self","kind"] (SpP 2 K κ ao))
  (gk:Kn K mg κ "Nest" "Nest.__init__" jE ["self","opener"] bj d5) (du:FnOk P w K mg base CX0 n bj d5 ["self","opener"] (SpE 2 K κ (cY [true,false]) b4))
  (ci:Mn K κ "Nest" "end_row" "Nest.end_row" iP ["self"] bq jq) (g8:FnOk P w K mg base CX0 (n+1) bq jq ["self"] (SpE 1 K κ (cY [true]) eh))
  (b5:Mn K κ "Nest" "as_piece" "Nest.as_piece" iF ["self"] bf i5) (gl:FnOk P w K mg base CX0 (n+1) bf i5 ["self"] (SpP 1 K κ dw))
  (ac:Cls K (κ "Builder"))
  (ae:Cls K (κ "Nest"))
  (bd:dZ K (κ "Builder") "taken")
  (ai:dZ K (κ "Builder") "nests")
  (ar:dZ K (κ "Nest") "pieces")
  (dg:mg "OPENERS"=some (.ref a_OPENERS)) (k_OPENERS:∀H,Rep K κ H (.ref a_OPENERS) (.tup [(.str "open"),(.str "hang"),(.str "either")]) [])
  (bi:mg "OPENER_OF"=some (.ref a_OPENER_OF)) (k_OPENER_OF:uI P w K κ a_OPENER_OF fG lC):
  FnOk P w K mg base CX0 ((n+1)+1) f fd ["self","token"] (SpE 2 K κ (cY [true,false]) (gE 2 2 (cY [true,false]) (lF ao b4 eh dw))):=
 tH aj.F lB (fun i hi=>qL hi) fun cdv A outer s H E hr=>
 (bE (dP 2 lB.nd rfl (.inl rfl) rfl rfl (QP.e (QV.p (eS (aD 1) (QP.v aN)))))
 (bE (eK (QT.e (pM (nE (QP.v (sE am bh hr (aD 0) rfl (aV (aD 2) bW) (cS fQ))))))
  (bI tD)
  eC)
 (bE (kK (C:="Builder") ac bd rfl (cK eX (iO (C:="Builder") ac bd (aD 0)) (QP.v aN)) (cR 0))
 (bI (eK (QT.e (dC vB (aD 2) (QP.v (nR (v:= .ref a_OPENERS) (d:=(.tup [(.str "open"),(.str "hang"),(.str "either")])) rfl dg rfl k_OPENERS)) (by with_unfolding_all rfl)))
  (bI (fP (gC (j:=0) rfl (jT (C:="Builder") ac ai (cR 0)) (aW (wA gk du hr rfl (pN (aD 1) lW) rfl rfl (jN 1)) bO))))
  (bI (eK (QT.e (dC (iB (Room.units hr)) (aD 2) (QP.v cJ) (cZ _)))
  (bI (fP (xI ci g8 hr rfl (iM (jT (C:="Builder") ac ai (cR 0)) (QP.v (iU (QP.v aN)))) (jN 0))))
  (bI (eK (QT.e (zA rfl bi k_OPENER_OF (aD 2)))
  (bE (dP 3 lB.nd rfl (.inl rfl) rfl rfl (sA (j:=0) rfl (jT (C:="Builder") ac ai (cR 0))))
 (bI (fP (gC (j:=0) rfl (jT (C:="Nest") ae ar (iM (jT (C:="Builder") ac ai (cR 0)) (QP.v (iU (QP.v aN))))) (aW (qM b5 gl hr (aD 3)) bO)))))
  (bI (fP (gC (j:=0) rfl (jT (C:="Nest") ae ar (iM (jT (C:="Builder") ac ai (cR 0)) (QP.v (iU (QP.v aN))))) (aW (QV.p (aD 1)) bO)))))))))))))
def kM(ao:(tz6)):PSt->Option Int:=
 (oQ (aM 2 (aF (bC (f2 dIx (aB 1) (fC (.int 0))))))
 (vL (aP (fT (aE ao (aA (dA "Builder" "can_stand" (aB 0)) (aA (aB 2) aC))))) (nV (f2 aO (dJ "Builder" "taken" (aB 0)) (fC (.int 1))))))
theorem zG{n:Nat}{f:Addr}{fd:FuncData}{ao:(tz6)}{ag:Addr}{bv:FuncData}{aa:Addr}{a_OPENERS:Addr}{a_OPENER_OF:Addr}(aj:Mn K κ "Builder" "add" "Builder.add" gW ["self","token"] f fd)
  (am:Mn K κ "Builder" "can_stand" "Builder.can_stand" fN ["self","kind"] ag bv) (bh:FnOk P w K mg base CX0 (n+2) ag bv ["self","kind"] (SpP 2 K κ ao))
  (N_NoPiece:NumI P w K mg base "NoPiece" aa)
  (ac:Cls K (κ "Builder"))
  (ae:Cls K (κ "Nest"))
  (bd:dZ K (κ "Builder") "taken")
  (ai:dZ K (κ "Builder") "nests")
  (ar:dZ K (κ "Nest") "pieces")
  (dg:mg "OPENERS"=some (.ref a_OPENERS)) (k_OPENERS:∀H,Rep K κ H (.ref a_OPENERS) (.tup [(.str "open"),(.str "hang"),(.str "either")]) [])
  (bi:mg "OPENER_OF"=some (.ref a_OPENER_OF)) (k_OPENER_OF:uI P w K κ a_OPENER_OF fG lC):
  FnOk P w K mg base (CXn P w base aa) ((n+2)+1) f fd ["self","token"] (yD 2 K κ (cY [true,false]) aa (gN 2 2 (kM ao))):=
 zb8 aj.F lB fun cdv A outer s H E hr=>
 (sH (dP 2 lB.nd rfl (.inl rfl) rfl rfl (QP.e (QV.p (eS (aD 1) (QP.v aN)))))
 (mX (zi7 (pM (nE (QP.v (sE am bh hr (aD 0) rfl (aV (aD 2) bW) (cS fQ))))) (mX (tR N_NoPiece rfl hr (QP.v (cK eX (iO (C:="Builder") ac bd (aD 0)) (QP.v aN))))))))
def nW:tz1:=
 (aZ (aF (aE bK (aA (dJ "Nest" "pieces" (f2 dIx (dJ "Builder" "nests" (aB 0)) (fC (.int 0)))) aC))))
abbrev fZ:Stmt:=lY (top 13) 3
theorem sI:FnScope ["self"] ["self"] (aY fZ):=⟨rfl,rfl,rfl,by decide+kernel,rfl,by decide+kernel,by decide+kernel⟩
theorem sJ{n:Nat}{f:Addr}{fd:FuncData}(bc:Mn K κ "Builder" "row_so_far" "Builder.row_so_far" fZ ["self"] f fd)
  (ac:Cls K (κ "Builder"))
  (ae:Cls K (κ "Nest"))
  (ar:dZ K (κ "Nest") "pieces")
  (ai:dZ K (κ "Builder") "nests")
  (az:mg "tuple"=none):
  FnOk P w K mg base CX0 (n+1) f fd ["self"] (SpP 1 K κ (gP 1 0 (nW))):=
 gQ bc.F sI fun cdv A outer s H E B hr=>
 (bI (eB (QP.e (gZ lV rfl az boot_tuple (aV (iO (C:="Nest") ae ar (eS (iO (C:="Builder") ac ai (aD 0)) (QP.v aN))) bW)))))
def lR(cb:(tz6)):tz1:=
 (aI (fIf (aG (fB (f2 dGt (aE bD (aA (dJ "Builder" "nests" (aB 0)) aC)) (fC (.int 1)))))
  qT
  aJ)
 (aZ (aF (aE cb (aA (dA "Builder" "row_so_far" (aB 0)) aC)))))
abbrev fA:Stmt:=lY (top 13) 4
theorem oH:FnScope ["self"] ["self"] (aY fA):=⟨rfl,rfl,rfl,by decide+kernel,rfl,by decide+kernel,by decide+kernel⟩
theorem tZ{n:Nat}{f:Addr}{fd:FuncData}{cb:(tz6)}{au:Addr}{gc:FuncData}(ad:Mn K κ "Builder" "whole_row" "Builder.whole_row" fA ["self"] f fd)
  (bc:Mn K κ "Builder" "row_so_far" "Builder.row_so_far" fZ ["self"] au gc) (dm:FnOk P w K mg base CX0 n au gc ["self"] (SpP 1 K κ cb))
  (ac:Cls K (κ "Builder"))
  (ai:dZ K (κ "Builder") "nests")
  (ah:mg "len"=none):
  FnOk P w K mg base CX0 (n+1) f fd ["self"] (SpP 1 K κ (gP 1 0 (lR cb))):=
 gQ ad.F oH fun cdv A outer s H E B hr=>
 (bE (eK (QT.e (dC sX (QP.v (eJ jB rfl ah boot_len (aV (iO (C:="Builder") ac ai (aD 0)) bW))) (QP.v aN) (cZ _)))
  (bI tD)
  eC)
 (bI (eB (QP.e (qM bc dm hr (aD 0))))))
def iG:PSt->Option Int:=
 (vL (fB (f2 dGt (aE bD (aA (dJ "Builder" "nests" (aB 0)) aC)) (fC (.int 1)))) (nV (f2 aO (dJ "Builder" "taken" (aB 0)) (fC (.int 1)))))
theorem sK{n:Nat}{f:Addr}{fd:FuncData}{aa:Addr}(ad:Mn K κ "Builder" "whole_row" "Builder.whole_row" fA ["self"] f fd)
  (N_NoPiece:NumI P w K mg base "NoPiece" aa)
  (ac:Cls K (κ "Builder"))
  (ai:dZ K (κ "Builder") "nests")
  (bd:dZ K (κ "Builder") "taken")
  (ah:mg "len"=none):
  FnOk P w K mg base (CXn P w base aa) ((n+2)+1) f fd ["self"] (rQ 1 K κ aa (gN 1 0 (iG))):=
 wD ad.F oH fun cdv A outer s H E B hr=>
 (mX (zi7 (dC sX (QP.v (eJ jB rfl ah boot_len (aV (iO (C:="Builder") ac ai (aD 0)) bW))) (QP.v aN) (cZ _)) (mX (tR N_NoPiece rfl hr (QP.v (cK eX (iO (C:="Builder") ac bd (aD 0)) (QP.v aN)))))))
abbrev mF:Stmt:=lY (top 4) 0
theorem zH:FnScope ["self","at"] ["self","at"] (aY mF):=⟨rfl,rfl,rfl,by decide+kernel,rfl,by decide+kernel,by decide+kernel⟩
end L3
namespace My
open PySem PySem.Spec PyProof.Rows L2 L3
def gM:Leaf->D
 | .word x=> .tup [.str "word",.str x]
 | .gap x=> .tup [.str "gap",.str x]
 | .stop c=> .tup [.str "stop",.int c]
 | .fin=> .tup [.str "end"]
def tkD:Tk->D
 | .leaf l=>gM l
 | .opn=> .tup [.str "open"]
 | .cls=> .tup [.str "close"]
 | .hng n=> .tup [.str "hang",.int n]
 | .bck=> .tup [.str "back"]
 | .eit=> .tup [.str "either"]
 | .orr=> .tup [.str "or"]
 | .don=> .tup [.str "done"]
mutual
def pcD:Pc->D
 | .leaf l=>gM l
 | .group r=> .tup [.str "group",.tup (dY r)]
 | .hang n r=> .tup [.str "hang",.int n,.tup (dY r)]
 | .either rs=> .tup [.str "either",.tup (eR rs)]
def dY:List Pc->List D
 |[]=>[]
 |p::r=>pcD p::dY r
def eR:List (List Pc)->List D
 |[]=>[]
 |r::rs=> .tup (dY r)::eR rs
end
def aK(ts:List Tk):List D:=ts.map tkD
theorem iC(a b:List Tk):aK (a++b)=aK a++aK b:=by simp [aK]
theorem eQ(a:List Tk):(aK a).length=a.length:=by simp [aK]
theorem xR(l:Leaf):(gM l).imm=true:=by cases l<;>rfl
theorem pP(t:Tk):(tkD t).imm=true:=by cases t<;>first|rfl|exact xR _
theorem xS:∀a b:List D,D.imms (a++b)=(D.imms a&&D.imms b)
 |[],b=>by simp [D.imms]
 |x::a,b=>by simp [D.imms,xS a b,Bool.and_assoc]
theorem jW:∀ts:List Tk,D.imms (aK ts)=true
 |[]=>rfl
 |t::ts=>by show(D.imm (tkD t)&&D.imms (aK ts))=true;rw [pP,jW ts];rfl
mutual
theorem yz8:∀p:Pc,(pcD p).imm=true
 | .leaf l=>xR l
 | .group r=>by show(D.imm (.str "group")&&(D.imm (.tup (dY r))&&D.imms []))=true;rw [show D.imm (.tup (dY r))=D.imms (dY r) from rfl,jF r];rfl
 | .hang n r=>by show(D.imm (.str "hang")&&(D.imm (.int n)&&(D.imm (.tup (dY r))&&D.imms [])))=true;rw [show D.imm (.tup (dY r))=D.imms (dY r) from rfl,jF r];rfl
 | .either rs=>by show(D.imm (.str "either")&&(D.imm (.tup (eR rs))&&D.imms []))=true;rw [show D.imm (.tup (eR rs))=D.imms (eR rs) from rfl,uA rs];rfl
theorem jF:∀r:List Pc,D.imms (dY r)=true
 |[]=>rfl
 |p::r=>by show(D.imm (pcD p)&&D.imms (dY r))=true;rw [yz8 p,jF r];rfl
theorem uA:∀rs:List (List Pc),D.imms (eR rs)=true
 |[]=>rfl
 |r::rs=>by show(D.imm (.tup (dY r))&&D.imms (eR rs))=true;rw [show D.imm (.tup (dY r))=D.imms (dY r) from rfl,jF r,uA rs];rfl
end
theorem nM:∀a b:List Pc,dY (a++b)=dY a++dY b
 |[],b=>rfl
 |p::a,b=>by show pcD p::dY (a++b)=pcD p::(dY a++dY b);rw [nM a b]
theorem pQ:∀a b:List (List Pc),eR (a++b)=eR a++eR b
 |[],b=>rfl
 |p::a,b=>by show D.tup (dY p)::eR (a++b)=D.tup (dY p)::(eR a++eR b);rw [pQ a b]
theorem jZ:∀a:List Pc,(dY a).length=a.length
 |[]=>rfl
 |p::a=>by show(dY a).length+1=a.length+1;rw [jZ a]
theorem jU:∀a:List (List Pc),(eR a).length=a.length
 |[]=>rfl
 |p::a=>by show(eR a).length+1=a.length+1;rw [jU a]
theorem zu3{α β:Type}(f:α->β)(hf:∀a b,f a=f b->a=b):∀{l m:List α},l.map f=m.map f->l=m
 |[],[],_=>rfl
 |[],_::_,h=>by simp at h
 |_::_,[],h=>by simp at h
 |a::l,b::m,h=>by
  simp only [List.map_cons,List.cons.injEq] at h
  rw [hf a b h.1,zu3 f hf h.2]
theorem aH(a b:String):(Str.ofString a=Str.ofString b)=(a=b):=by
 refine propext ⟨fun h=> ?_,fun h=>by rw [h]⟩
 rw [Str.ofString_eq_toList,Str.ofString_eq_toList] at h
 have h1:(a.toList.map Char.toNat).toArray=(b.toList.map Char.toNat).toArray:=(Str.mk.inj h)
 have h2:a.toList.map Char.toNat=b.toList.map Char.toNat:=by simpa using congrArg Array.toList h1
 have h3:a.toList=b.toList:=zu3 _ (fun x y e=>by
  have:Char.ofNat x.toNat=Char.ofNat y.toNat:=by rw [e]
  simpa using this) h2
 exact String.toList_inj.mp h3
theorem bR{α:Type}(a:α)(l:List α):atI (a::l) 0=some a:=by simp [atI,ixN]
theorem bS{α:Type}(a b:α)(l:List α):atI (a::b::l) 1=some b:=by
 have h:ixN (a::b::l).length 1=some 1:=by unfold ixN;rw [if_pos (by decide),if_pos (by simp only [List.length_cons];omega)];rfl
 simp only [atI,h];rfl
theorem bU{α:Type}(a b c:α)(l:List α):atI (a::b::c::l) 2=some c:=by
 have h:ixN (a::b::c::l).length 2=some 2:=by unfold ixN;rw [if_pos (by decide),if_pos (by simp only [List.length_cons];omega)];rfl
 simp only [atI,h];rfl
theorem sz{n:Nat}(h:n<=1000):n<=sizeLine:=zi5 h
theorem sz1{n:Nat}(h:n<=1000):n<sizeLine:=qX h
theorem zr7{rs:List (List Pc)}{r:List Pc}(h:r∈rs):(dS r).length<=(kA rs).length:=by
 induction rs with
 |nil=>simp at h
 |cons q rs ih=>
  show _<=(Tk.orr::(dS q++kA rs)).length
  rw [List.length_cons,List.length_append]
  rcases List.mem_cons.mp h with e|e
  ·subst e;omega
  ·have:=ih e;omega
theorem zr8{rs:List (List Pc)}{r:List Pc}(h:r∈rs):(dS r).length<=(pF rs).length:=by
 cases rs with
 |nil=>simp at h
 |cons q rs=>
  show _<=(dS q++kA rs).length
  rw [List.length_append]
  rcases List.mem_cons.mp h with e|e
  ·subst e;omega
  ·have:=zr7 e;omega
theorem aQ(n:Nat):ixN (n+1) (-1)=some n:=by
 unfold ixN
 rw [if_neg (by decide),if_pos (by omega)]
 congr 1
 omega
theorem aT{α:Type}(l:List α)(a b:α):(l++[a]).set l.length b=l++[b]:=by
 induction l with
 |nil=>rfl
 |cons x l ih=>show x::(l++[a]).set l.length b=_;rw [ih];rfl
theorem cD(n:Nat):ixN (n+1) 0=some 0:=by unfold ixN;rw [if_pos (by decide),if_pos (by omega)];rfl
theorem kT:ixN 3 1=some 1:=by decide
theorem kU:ixN 3 2=some 2:=by decide
theorem dO:ixN 2 1=some 1:=by decide
theorem yz9(a:D)(l:List D):L2.nC (a::l) (some 1) none=l:=by
 unfold L2.nC
 have:=HT.sIx_nat (a::l).length 0 1
 rw [show((1:Nat):Int)=(1:Int) from rfl] at this
 have e:min 1 (a::l).length=1:=by simp
 rw [this,e,HT.sIx_none]
 show(l.drop 0).take _=l
 rw [List.drop_zero]
 exact List.take_of_length_le (by simp)
theorem cE(i j:Int):fO (.int i) (.int j)=if 0<j then some (.int (i % j)) else none:=by simp [fO,dII]
theorem cG(i j:Int):iX (.int i) (.int j)=if 0<j/\j<1073741824 then some (.int (i/j)) else none:=by simp [iX,dII]
theorem zh7(x y:Str):(x++y).cps.toList=x.cps.toList++y.cps.toList:=by
 show(x.cps++y.cps).toList=_
 simp
theorem zh8(x y:Str):(x++y).length=x.length+y.length:=by
 show(x.cps++y.cps).size=x.cps.size+y.cps.size
 simp
def sg:Str:=("abcdefghijklmnopqrstuvwxyzABCDEFGHIJKLMNOPQRSTUVWXYZ0123456789":Str)++("!\"#$&'()*+,-./:;<=>?\x40[\\]^_`{|}~":Str)
theorem yg1:sg.cps.toList.length=93:=by decide+kernel
theorem yt3:sg.cps.toList.all uM=true:=by decide+kernel
theorem yt4:sg.length<=sizeLine:=by
 have e:sg.length=sg.cps.toList.length:=by simp [Str.length]
 rw [e,yg1];exact sz (by decide)
theorem sL{α:Type}(xs:List α)(i:Int)(h0:0<=i)(h1:i<xs.length):∃v∈xs,atI xs i=some v:=by
 have hn:i.toNat<xs.length:=by omega
 obtain⟨v,hv⟩:∃v,xs[i.toNat]? =some v:=⟨_,List.getElem?_eq_getElem hn⟩
 refine⟨v,List.mem_of_getElem? hv,?_⟩
 have e:i=((i.toNat:Nat):Int):=by omega
 rw [e]
 exact rV hv
theorem xd6(i:Int)(h0:0<=i)(h1:i<93):∃c,atI sg.cps.toList i=some c/\uM c=true:=by
 obtain⟨c,hc,e⟩:=sL sg.cps.toList i h0 (by rw [yg1];omega)
 exact⟨c,e,List.all_eq_true.mp yt3 c hc⟩
theorem zI(n:Nat):hX 0 n=((List.range n).map fun(k:Nat)=>(k:Int)).map .int:=by
 unfold hX
 rw [List.map_map]
 refine List.map_congr_left fun k _=> ?_
 show D.int (0+(k:Int))=D.int (k:Int)
 rw [Int.zero_add]
theorem yt5(m:Int):∃s:Int,atI [D.int 1,.int 2,.int 3,.int 4,.int 5,.int 6,.int 7,.int 8,.int 10,.int 11,.int 9,.int 12] (m % 12)=some (.int s)/\1<=s/\s<=12:=by
 have h0:=Int.emod_nonneg m (show(12:Int)≠0 by decide)
 have h1:=Int.emod_lt_of_pos m (show(0:Int)<12 by decide)
 obtain⟨d,hd,e⟩:=sL [D.int 1,.int 2,.int 3,.int 4,.int 5,.int 6,.int 7,.int 8,.int 10,.int 11,.int 9,.int 12] (m % 12) h0 (by simpa using h1)
 simp only [List.mem_cons,List.not_mem_nil,or_false] at hd
 rcases hd with rfl|rfl|rfl|rfl|rfl|rfl|rfl|rfl|rfl|rfl|rfl|rfl<;>exact⟨_,e,by decide,by decide⟩
theorem xa0(k:Int):∃x:Str,atI [D.str (Str.ofString " "),.str (Str.ofString " "),.str (Str.ofString " "),.str (Str.ofString "")] (k % 4)=some (.str x)/\(x=""\/x=" "):=by
 have h0:=Int.emod_nonneg k (show(4:Int)≠0 by decide)
 have h1:=Int.emod_lt_of_pos k (show(0:Int)<4 by decide)
 obtain⟨d,hd,e⟩:=sL [D.str (Str.ofString " "),.str (Str.ofString " "),.str (Str.ofString " "),.str (Str.ofString "")] (k % 4) h0 (by simpa using h1)
 simp only [List.mem_cons,List.not_mem_nil,or_false] at hd
 rcases hd with rfl|rfl|rfl|rfl
 ·exact⟨_,e,.inr rfl⟩
 ·exact⟨_,e,.inr rfl⟩
 ·exact⟨_,e,.inr rfl⟩
 ·exact⟨_,e,.inl rfl⟩
theorem yt6(a b k:Int)(ha:0<=a/\a<=40)(hb:0<=b/\b<=40):∃c:Int,atI [D.int a,.int b] (k % 2)=some (.int c)/\0<=c/\c<=40:=by
 have h0:=Int.emod_nonneg k (show(2:Int)≠0 by decide)
 have h1:=Int.emod_lt_of_pos k (show(0:Int)<2 by decide)
 obtain⟨d,hd,e⟩:=sL [D.int a,.int b] (k % 2) h0 (by simpa using h1)
 simp only [List.mem_cons,List.not_mem_nil,or_false] at hd
 rcases hd with rfl|rfl
 ·exact⟨_,e,ha⟩
 ·exact⟨_,e,hb⟩
theorem xf9{α:Type}(a b c d:α):atI [a,b,c,d] 3=some d:=rfl
theorem yt7{i j:Int}(h1: -1000000<=i)(h2:i<=1000000)(h3: -1000000<=j)(h4:j<=1000000):fV [.int i,.int j]=some (hX i (j-i).toNat):=by
 rw [fV]
 exact if_pos ⟨by omega,by omega,by omega,by omega⟩
theorem wE{j:Int}(h3: -1000000<=j)(h4:j<=1000000):fS [.int j]=some (hX 0 j.toNat):=by
 rw [fS]
 exact if_pos ⟨by omega,by omega⟩
theorem xa1(a:Int)(n:Nat):hX a n=((List.range n).map fun(k:Nat)=>a+(k:Int)).map .int:=by
 unfold hX
 rw [List.map_map];rfl
theorem cF{f g:tz1}{p p':PSt}(h:f p=some (.nx,p')):aI f g p=g p':=by unfold aI;rw [h];rfl
theorem gY{f g:tz1}{p p':PSt}{d:D}(h:f p=some (.ret d,p')):aI f g p=some (.ret d,p'):=by unfold aI;rw [h];rfl
theorem wF{c:PSt->Option (Bool×PSt)}{f g:tz1}{p p':PSt}(h:c p=some (true,p')):fIf c f g p=f p':=by unfold fIf;rw [h];rfl
theorem pJ{c:PSt->Option (Bool×PSt)}{f g:tz1}{p p':PSt}(h:c p=some (false,p')):fIf c f g p=g p':=by unfold fIf;rw [h];rfl
theorem gF{i:Nat}{f:tz2}{p:PSt}{d:D}(h:f p=some d):aM i (aF f) p=some (.nx,p.set i (some d)):=by unfold aM aF;rw [h];rfl
theorem fW{f:tz2}{p:PSt}{d:D}(h:f p=some d):aZ (aF f) p=some (.ret d,p):=by unfold aZ aF;rw [h];rfl
theorem jL{np n:Nat}{f:tz1}{ds:List D}{d:D}{p:PSt}(hl:ds.length=np)(h:f (ds.map some++List.replicate n none)=some (.ret d,p)):gP np n f ds=some d:=by
 unfold gP;rw [if_pos hl,h];rfl
theorem fR{g:D->D->Option D}{fa fb:tz2}{p:PSt}{x y d:D}(h1:fa p=some x)(h2:fb p=some y)(h3:g x y=some d):f2 g fa fb p=some d:=by unfold f2;rw [h1,h2];exact h3
theorem eL{h:tz6}{g:tz3}{p:PSt}{ds:List D}{d:D}(h1:g p=some ds)(h2:h ds=some d):aE h g p=some d:=by unfold aE;rw [h1];exact h2
theorem xd7(n:Nat)(h:n<=63):∃k:Nat,(if (40:Int)<(n:Int)+2 then(40:Int) else(n:Int)+2)=(k:Int)/\k<=40:=by
 by_cases c:(40:Int)<(n:Int)+2
 ·exact⟨40,by rw [if_pos c];rfl,Nat.le_refl _⟩
 ·exact⟨n+2,by rw [if_neg c];push_cast;rfl,by omega⟩
theorem zo5{o:Bool}{ys:List D}{n:Nat}(h:D.imms ys=true)(hn:n<=1000)(hl:ys.length*n<=10000):fD (.lst o ys) (.int (n:Int))=some (.lst true (List.replicate n ys).flatten):=by
 have e:((n:Int)).toNat=n:=by omega
 rw [fD]
 rw [if_pos,e]
 have hs:sizeLine=16777216:=sizeLine_eq
 simp only [Bool.and_eq_true,decide_eq_true_eq]
 rw [e]
 exact⟨⟨⟨h,by omega⟩,by omega⟩,by omega⟩
theorem zo6{o o':Bool}{ys zs:List D}(h1:D.imms ys=true)(h2:D.imms zs=true)(h:ys.length+zs.length<=1000):aO (.lst o ys) (.lst o' zs)=some (.lst true (ys++zs)):=by
 rw [aO]
 exact if_pos (by rw [h1,h2];simpa using sz h)
theorem eW{f:tz2}{g:tz3}{p:PSt}{d:D}{ds:List D}(h1:f p=some d)(h2:g p=some ds):aA f g p=some (d::ds):=by unfold aA;rw [h1,h2];rfl
theorem zc6{g:tz3}{p:PSt}{ds:List D}(h:g p=some ds)(hl:ds.length<=1000):aX g p=some (.lst true ds):=by unfold aX;rw [h];exact if_pos hl
def bJ:Tk->String
 | .leaf (.word _)=>"word"| .leaf (.gap _)=>"gap"| .leaf (.stop _)=>"stop"| .leaf .fin=>"end"
 | .opn=>"open"| .cls=>"close"| .hng _=>"hang"| .bck=>"back"| .eit=>"either"| .orr=>"or"| .don=>"done"
def xf7:Tk->List D
 | .leaf (.word x)=>[.str x]| .leaf (.gap x)=>[.str x]| .leaf (.stop c)=>[.int c]| .hng n=>[.int n]
 |_=>[]
theorem xT(t:Tk):tkD t= .tup (.str (bJ t)::xf7 t):=by
 cases t with
 |leaf l=>cases l<;>rfl
 |_=>rfl
theorem uB(k:Nat)(n:Nat):hX (k:Int) (n+1)= .int k::hX ((k+1:Nat):Int) n:=by
 unfold hX
 rw [List.range_succ_eq_map,List.map_cons,List.map_map]
 congr 1
 ·simp
  intro j _
  omega
theorem xg0{n:Nat}(h:n<=1000):fS [.int (n:Int)]=some (hX ((0:Nat):Int) n):=wE (j:=(n:Int)) (by omega) (by omega)
theorem zo7{f:tz4}{p:PSt}{b:Bool}(h:f p=some b):aG f p=some (b,p):=by unfold aG;rw [h];rfl
theorem uC{f:tz2}{p:PSt}{b:Bool}(h:f p=some (.bl b)):fB f p=some b:=by unfold fB;rw [h];rfl
theorem iV{c:tz4}{F:tz1}{p:PSt}(h:c p=some false):fIf (aG c) F aJ p=some (.nx,p):=(pJ (zo7 h)).trans rfl
theorem jI{c:tz4}{F G:tz1}{p:PSt}(h:c p=some true):fIf (aG c) F G p=F p:=wF (zo7 h)
def wQ:Option Tk->D
 |none=> .tup [.str "top"]
 |some t=>tkD t
def fmD(f:Fm):D:= .lst true [wQ f.op,.lst true (eR f.full),.lst true (dY f.parts)]
def eV:List Fm->List D
 |[]=>[]
 |f::fs=>eV fs++[fmD f]
theorem wX:∀fs,(eV fs).length=fs.length
 |[]=>rfl
 |f::fs=>by rw [eV,List.length_append,wX fs];rfl
structure Bnd(k:Nat)(fs:List Fm):Prop where
 len:fs.length<=k+1
 full:∀f∈fs,f.full.length<=k
 parts:∀f∈fs,f.parts.length<=k
theorem ym4{k:Nat}{fs fs':List Fm}{t:Tk}(h:Bnd k fs)(e:step fs t=some fs'):Bnd (k+1) fs':=by
 have hl:=h.len;have hf:=h.full;have hp:=h.parts
 have two:∀{g f:Fm} {r:List Fm},(∀x∈f::r,x.full.length<=k/\x.parts.length<=k)->(g.full.length<=k+1/\g.parts.length<=k+1)->∀x∈g::r,x.full.length<=k+1/\x.parts.length<=k+1:=fun h1 h2 x hx=>(List.mem_cons.mp hx).elim (fun e=>e▸h2) fun hx=>by have:=h1 x (List.mem_cons_of_mem _ hx);omega
 have all:∀x∈fs,x.full.length<=k/\x.parts.length<=k:=fun x hx=>⟨hf x hx,hp x hx⟩
 have fin:∀{gs:List Fm},gs.length<=k+2->(∀x∈gs,x.full.length<=k+1/\x.parts.length<=k+1)->Bnd (k+1) gs:=fun a b=>⟨a,fun f hf=>(b f hf).1,fun f hf=>(b f hf).2⟩
 have new:∀{o:Option Tk},Bnd (k+1) ((⟨o,[],[]⟩:Fm)::fs):=fun {o}=>fin (by simp;omega) fun x hx=>(List.mem_cons.mp hx).elim (fun e=>e▸⟨Nat.zero_le _,Nat.zero_le _⟩) fun hx=>by have:=all x hx;omega
 unfold step at e
 split at e
 ·cases e
  rename_i f gs l
  have:=all f List.mem_cons_self
  exact fin (by simp [gP,aI,aJ,aM,cU,aF,fIf,aG,fB,f2,aB,fC,bC,aZ,cN,bQ,aR,bH,aU,bV,bX,aA,aC,aX,bF,fKs,aE,dEq,dNe,eqB,dB,dIx,bD,aL,dD,bZ,dX,dG,dI,cO,eM,cT,cB,fSl,D.imm,D.imms,cM,bK,aO,fT,bG,aH,bR,bS,bU,bP,cA,cC,bL,dIn,inB,bN,D.flat,D.flats,inV,eqV,eZ,fJ,eY,cH,dSl,bB,bM,aP,aQ,aT,cD,kT,kU,dO,L2.aS] at hl|-;omega) (two all ⟨by show f.full.length<=_;omega,by show(f.parts++[_]).length<=_;simp;omega⟩)
 ·cases e;exact new
 ·cases e;exact new
 ·cases e;exact new
 ·cases e
  rename_i full parts gs
  have a1:full.length<=k:=(all _ List.mem_cons_self).1
  exact fin (by simp [gP,aI,aJ,aM,cU,aF,fIf,aG,fB,f2,aB,fC,bC,aZ,cN,bQ,aR,bH,aU,bV,bX,aA,aC,aX,bF,fKs,aE,dEq,dNe,eqB,dB,dIx,bD,aL,dD,bZ,dX,dG,dI,cO,eM,cT,cB,fSl,D.imm,D.imms,cM,bK,aO,fT,bG,aH,bR,bS,bU,bP,cA,cC,bL,dIn,inB,bN,D.flat,D.flats,inV,eqV,eZ,fJ,eY,cH,dSl,bB,bM,aP,aQ,aT,cD,kT,kU,dO,L2.aS] at hl|-;omega) (two all ⟨by show(full++[parts]).length<=_;simp;omega,Nat.zero_le _⟩)
 ·cases e
  rename_i full parts g gs
  have a1:=all g (List.mem_cons_of_mem _ List.mem_cons_self)
  exact fin (by simp [gP,aI,aJ,aM,cU,aF,fIf,aG,fB,f2,aB,fC,bC,aZ,cN,bQ,aR,bH,aU,bV,bX,aA,aC,aX,bF,fKs,aE,dEq,dNe,eqB,dB,dIx,bD,aL,dD,bZ,dX,dG,dI,cO,eM,cT,cB,fSl,D.imm,D.imms,cM,bK,aO,fT,bG,aH,bR,bS,bU,bP,cA,cC,bL,dIn,inB,bN,D.flat,D.flats,inV,eqV,eZ,fJ,eY,cH,dSl,bB,bM,aP,aQ,aT,cD,kT,kU,dO,L2.aS] at hl|-;omega) (two (f:=g) (fun x hx=>all x (List.mem_cons_of_mem _ hx)) ⟨by show g.full.length<=_;omega,by show(g.parts++[_]).length<=_;simp;omega⟩)
 ·cases e
  rename_i n full parts g gs
  have a1:=all g (List.mem_cons_of_mem _ List.mem_cons_self)
  exact fin (by simp [gP,aI,aJ,aM,cU,aF,fIf,aG,fB,f2,aB,fC,bC,aZ,cN,bQ,aR,bH,aU,bV,bX,aA,aC,aX,bF,fKs,aE,dEq,dNe,eqB,dB,dIx,bD,aL,dD,bZ,dX,dG,dI,cO,eM,cT,cB,fSl,D.imm,D.imms,cM,bK,aO,fT,bG,aH,bR,bS,bU,bP,cA,cC,bL,dIn,inB,bN,D.flat,D.flats,inV,eqV,eZ,fJ,eY,cH,dSl,bB,bM,aP,aQ,aT,cD,kT,kU,dO,L2.aS] at hl|-;omega) (two (f:=g) (fun x hx=>all x (List.mem_cons_of_mem _ hx)) ⟨by show g.full.length<=_;omega,by show(g.parts++[_]).length<=_;simp;omega⟩)
 ·rename_i full parts g gs
  split at e
  ·cases e
  ·cases e
   have a1:=all g (List.mem_cons_of_mem _ List.mem_cons_self)
   exact fin (by simp [gP,aI,aJ,aM,cU,aF,fIf,aG,fB,f2,aB,fC,bC,aZ,cN,bQ,aR,bH,aU,bV,bX,aA,aC,aX,bF,fKs,aE,dEq,dNe,eqB,dB,dIx,bD,aL,dD,bZ,dX,dG,dI,cO,eM,cT,cB,fSl,D.imm,D.imms,cM,bK,aO,fT,bG,aH,bR,bS,bU,bP,cA,cC,bL,dIn,inB,bN,D.flat,D.flats,inV,eqV,eZ,fJ,eY,cH,dSl,bB,bM,aP,aQ,aT,cD,kT,kU,dO,L2.aS] at hl|-;omega) (two (f:=g) (fun x hx=>all x (List.mem_cons_of_mem _ hx)) ⟨by show g.full.length<=_;omega,by show(g.parts++[_]).length<=_;simp;omega⟩)
 ·cases e
def kF:tz1:=
   (fIf (aG (fB (f2 dIn (f2 dIx (aB 2) (fC (.int 0))) (aX (fKs [.str "open",.str "hang",.str "either"])))))
   (aR (bH 1 aU (aA (aX (aA (bC (aB 2)) (aA (aX aC) (aA (aX aC) aC)))) aC) aL))
   (fIf (aG (fB (f2 dEq (f2 dIx (aB 2) (fC (.int 0))) (fC (.str "or")))))
   (aI (aR (bH 1 (bP 1 (bP 1 aU (bL (fC (.int 1)))) (fC (.int 1))) (aA (aE bK (aA (f2 dIx (f2 dIx (aB 1) (bL (fC (.int 1)))) (fC (.int 2))) aC)) aC) aL))
 (cA 1 (bP 1 aU (bL (fC (.int 1)))) (fC (.int 2)) (aX aC)))
  (fIf (aG (fB (f2 dIn (f2 dIx (aB 2) (fC (.int 0))) (aX (fKs [.str "close",.str "back",.str "done"])))))
  (aI (eZ [3,4,5] (bH 1 aU aC bZ))
 (aI (aM 4 (aF (f2 aO (aB 4) (aX (aA (aE bK (aA (aB 5) aC)) aC)))))
 (aI (aM 6 (aF (bF (aA (fC (.str "either")) (aA (aE bK (aA (aB 4) aC)) aC)))))
 (aI (fIf (aG (fB (f2 dNe (f2 dIx (aB 3) (fC (.int 0))) (fC (.str "either")))))
  (aM 6 (aF (f2 aO (f2 aO (bF (aA (f2 dIx (aX (aA (fC (.str "group")) (aA (fC (.str "hang")) aC))) (aE cH (aA (f2 dEq (f2 dIx (aB 3) (fC (.int 0))) (fC (.str "hang"))) aC))) aC)) (fSl (aB 3) (cT (fC (.int 1))) cB)) (bF (aA (bC (f2 dIx (aB 4) (fC (.int 0)))) aC)))))
  aJ)
 (aR (bH 1 (bP 1 (bP 1 aU (bL (fC (.int 1)))) (fC (.int 2))) (aA (bC (aB 6)) aC) aL))))))
  (aR (bH 1 (bP 1 (bP 1 aU (bL (fC (.int 1)))) (fC (.int 2))) (aA (bC (aB 2)) aC) aL)))))
theorem zy7{x0 x3 x4 x5 x6:Option D}{f:Fm}{fs:List Fm}(l:Leaf)(hb:f.parts.length<1000):
  kF [x0,some (.lst true (eV (f::fs))),some (gM l),x3,x4,x5,x6]=some (.nx,[x0,some (.lst true (eV (put f (.leaf l)::fs))),some (gM l),x3,x4,x5,x6]):=by
 have hz:(dY f.parts).length<sizeLine:=by rw [jZ];exact sz1 (by omega)
 cases l<;>simp [gP,aI,aJ,aM,cU,aF,fIf,aG,fB,f2,aB,fC,bC,aZ,cN,bQ,aR,bH,aU,bV,bX,aA,aC,aX,bF,fKs,aE,dEq,dNe,eqB,dB,dIx,bD,aL,dD,bZ,dX,dG,dI,cO,eM,cT,cB,fSl,D.imm,D.imms,cM,bK,aO,fT,bG,aH,bR,bS,bU,bP,cA,cC,bL,dIn,inB,bN,D.flat,D.flats,inV,eqV,eZ,fJ,eY,cH,dSl,bB,bM,aP,aQ,aT,cD,kT,kU,dO,L2.aS,kF,eV,hz,fmD,gM,put,nM,dY,pcD]
theorem uD{x0 x3 x4 x5 x6:Option D}{fs:List Fm}(t:Tk)(ht:t= .opn\/(∃n,t= .hng n)\/t= .eit)(hb:fs.length<1000):
  kF [x0,some (.lst true (eV fs)),some (tkD t),x3,x4,x5,x6]=some (.nx,[x0,some (.lst true (eV (⟨some t,[],[]⟩::fs))),some (tkD t),x3,x4,x5,x6]):=by
 have hz:(eV fs).length<sizeLine:=by rw [wX];exact sz1 (by omega)
 rcases ht with rfl|⟨n,rfl⟩|rfl<;>simp [gP,aI,aJ,aM,cU,aF,fIf,aG,fB,f2,aB,fC,bC,aZ,cN,bQ,aR,bH,aU,bV,bX,aA,aC,aX,bF,fKs,aE,dEq,dNe,eqB,dB,dIx,bD,aL,dD,bZ,dX,dG,dI,cO,eM,cT,cB,fSl,D.imm,D.imms,cM,bK,aO,fT,bG,aH,bR,bS,bU,bP,cA,cC,bL,dIn,inB,bN,D.flat,D.flats,inV,eqV,eZ,fJ,eY,cH,dSl,bB,bM,aP,aQ,aT,cD,kT,kU,dO,L2.aS,kF,eV,hz,fmD,tkD,wQ,eR,dY]
theorem ym5{x0 x3 x4 x5 x6:Option D}{full:List (List Pc)}{parts:List Pc}{fs:List Fm}(hb:full.length<1000):
  kF [x0,some (.lst true (eV (⟨some .eit,full,parts⟩::fs))),some (tkD .orr),x3,x4,x5,x6]=some (.nx,[x0,some (.lst true (eV (⟨some .eit,full++[parts],[]⟩::fs))),some (tkD .orr),x3,x4,x5,x6]):=by
 have hz:(eR full).length<sizeLine:=by rw [jU];exact sz1 (by omega)
 have e:eR (full++[parts])=eR full++[.tup (dY parts)]:=by rw [pQ];rfl
 simp [gP,aI,aJ,aM,cU,aF,fIf,aG,fB,f2,aB,fC,bC,aZ,cN,bQ,aR,bH,aU,bV,bX,aA,aC,aX,bF,fKs,aE,dEq,dNe,eqB,dB,dIx,bD,aL,dD,bZ,dX,dG,dI,cO,eM,cT,cB,fSl,D.imm,D.imms,cM,bK,aO,fT,bG,aH,bR,bS,bU,bP,cA,cC,bL,dIn,inB,bN,D.flat,D.flats,inV,eqV,eZ,fJ,eY,cH,dSl,bB,bM,aP,aQ,aT,cD,kT,kU,dO,L2.aS,kF,eV,hz,fmD,tkD,wQ,e,dY,jF]
theorem yg2{x0 x3 x4 x5 x6:Option D}{parts:List Pc}{g:Fm}{fs:List Fm}(hg:g.parts.length<1000):
  ∃y3 y4 y5 y6,kF [x0,some (.lst true (eV (⟨some .opn,[],parts⟩::g::fs))),some (tkD .cls),x3,x4,x5,x6]=some (.nx,[x0,some (.lst true (eV (put g (.group parts)::fs))),some (tkD .cls),y3,y4,y5,y6]):=by
 have hz:(dY g.parts).length<sizeLine:=by rw [jZ];exact sz1 (by omega)
 have h3:(2:Nat)<=sizeLine:=by decide
 have h1:(1:Nat)<=sizeLine:=by decide
 refine⟨some (.tup [.str "open"]),some (.lst true [.tup (dY parts)]),some (.lst true (dY parts)),some (pcD (.group parts)),?_⟩
 simp [gP,aI,aJ,aM,cU,aF,fIf,aG,fB,f2,aB,fC,bC,aZ,cN,bQ,aR,bH,aU,bV,bX,aA,aC,aX,bF,fKs,aE,dEq,dNe,eqB,dB,dIx,bD,aL,dD,bZ,dX,dG,dI,cO,eM,cT,cB,fSl,D.imm,D.imms,cM,bK,aO,fT,bG,aH,bR,bS,bU,bP,cA,cC,bL,dIn,inB,bN,D.flat,D.flats,inV,eqV,eZ,fJ,eY,cH,dSl,bB,bM,aP,aQ,aT,cD,kT,kU,dO,L2.aS,kF,eV,hz,fmD,tkD,wQ,eR,jF,put,nM,dY,pcD,yz9,h3,h1]
theorem yg3{x0 x3 x4 x5 x6:Option D}{n:Int}{parts:List Pc}{g:Fm}{fs:List Fm}(hg:g.parts.length<1000):
  ∃y3 y4 y5 y6,kF [x0,some (.lst true (eV (⟨some (.hng n),[],parts⟩::g::fs))),some (tkD .bck),x3,x4,x5,x6]=some (.nx,[x0,some (.lst true (eV (put g (.hang n parts)::fs))),some (tkD .bck),y3,y4,y5,y6]):=by
 have hz:(dY g.parts).length<sizeLine:=by rw [jZ];exact sz1 (by omega)
 have h3:(3:Nat)<=sizeLine:=by decide
 have h2:(2:Nat)<=sizeLine:=by decide
 have h1:(1:Nat)<=sizeLine:=by decide
 refine⟨some (.tup [.str "hang",.int n]),some (.lst true [.tup (dY parts)]),some (.lst true (dY parts)),some (pcD (.hang n parts)),?_⟩
 simp [gP,aI,aJ,aM,cU,aF,fIf,aG,fB,f2,aB,fC,bC,aZ,cN,bQ,aR,bH,aU,bV,bX,aA,aC,aX,bF,fKs,aE,dEq,dNe,eqB,dB,dIx,bD,aL,dD,bZ,dX,dG,dI,cO,eM,cT,cB,fSl,D.imm,D.imms,cM,bK,aO,fT,bG,aH,bR,bS,bU,bP,cA,cC,bL,dIn,inB,bN,D.flat,D.flats,inV,eqV,eZ,fJ,eY,cH,dSl,bB,bM,aP,aQ,aT,cD,kT,kU,dO,L2.aS,kF,eV,hz,fmD,tkD,wQ,eR,jF,put,nM,dY,pcD,yz9,h3,h2,h1]
theorem yg4{x0 x3 x4 x5 x6:Option D}{full:List (List Pc)}{parts:List Pc}{g:Fm}{fs:List Fm}(hg:g.parts.length<1000)(hf:full.length<1000):
  ∃y3 y4 y5 y6,kF [x0,some (.lst true (eV (⟨some .eit,full,parts⟩::g::fs))),some (tkD .don),x3,x4,x5,x6]=some (.nx,[x0,some (.lst true (eV (put g (.either (full++[parts]))::fs))),some (tkD .don),y3,y4,y5,y6]):=by
 have hz:(dY g.parts).length<sizeLine:=by rw [jZ];exact sz1 (by omega)
 have hz2:(eR full).length+1<=sizeLine:=by rw [jU];exact sz (by omega)
 refine⟨some (.tup [.str "either"]),some (.lst true (eR full++[.tup (dY parts)])),some (.lst true (dY parts)),some (pcD (.either (full++[parts]))),?_⟩
 simp [gP,aI,aJ,aM,cU,aF,fIf,aG,fB,f2,aB,fC,bC,aZ,cN,bQ,aR,bH,aU,bV,bX,aA,aC,aX,bF,fKs,aE,dEq,dNe,eqB,dB,dIx,bD,aL,dD,bZ,dX,dG,dI,cO,eM,cT,cB,fSl,D.imm,D.imms,cM,bK,aO,fT,bG,aH,bR,bS,bU,bP,cA,cC,bL,dIn,inB,bN,D.flat,D.flats,inV,eqV,eZ,fJ,eY,cH,dSl,bB,bM,aP,aQ,aT,cD,kT,kU,dO,L2.aS,kF,eV,hz,hz2,fmD,tkD,wQ,pQ,eR,jF,uA,xS,put,nM,dY,pcD]
theorem zy8{x0 x3 x4 x5 x6:Option D}{fs fs':List Fm}{t:Tk}{k:Nat}(hk:k<990)(hb:Bnd k fs)(hok:∀f∈fs,f.ok)(e:step fs t=some fs'):
  ∃y3 y4 y5 y6,kF [x0,some (.lst true (eV fs)),some (tkD t),x3,x4,x5,x6]=some (.nx,[x0,some (.lst true (eV fs')),some (tkD t),y3,y4,y5,y6]):=by
 have hl:=hb.len
 unfold step at e
 split at e
 ·cases e
  rename_i f gs l
  exact⟨_,_,_,_,zy7 l (by have:=hb.parts f List.mem_cons_self;omega)⟩
 ·cases e;exact⟨_,_,_,_,uD .opn (.inl rfl) (by omega)⟩
 ·cases e;rename_i n;exact⟨_,_,_,_,uD (.hng n) (.inr (.inl ⟨n,rfl⟩)) (by omega)⟩
 ·cases e;exact⟨_,_,_,_,uD .eit (.inr (.inr rfl)) (by omega)⟩
 ·cases e
  rename_i full parts gs
  have a1:full.length<=k:=hb.full _ List.mem_cons_self
  exact⟨_,_,_,_,ym5 (by omega)⟩
 ·cases e
  rename_i full parts g gs
  have a1:=hb.parts g (List.mem_cons_of_mem _ List.mem_cons_self)
  have a2:full=[]:=hok _ List.mem_cons_self (by simp [gP,aI,aJ,aM,cU,aF,fIf,aG,fB,f2,aB,fC,bC,aZ,cN,bQ,aR,bH,aU,bV,bX,aA,aC,aX,bF,fKs,aE,dEq,dNe,eqB,dB,dIx,bD,aL,dD,bZ,dX,dG,dI,cO,eM,cT,cB,fSl,D.imm,D.imms,cM,bK,aO,fT,bG,aH,bR,bS,bU,bP,cA,cC,bL,dIn,inB,bN,D.flat,D.flats,inV,eqV,eZ,fJ,eY,cH,dSl,bB,bM,aP,aQ,aT,cD,kT,kU,dO,L2.aS])
  subst a2
  exact yg2 (by omega)
 ·cases e
  rename_i n full parts g gs
  have a1:=hb.parts g (List.mem_cons_of_mem _ List.mem_cons_self)
  have a2:full=[]:=hok _ List.mem_cons_self (by simp [gP,aI,aJ,aM,cU,aF,fIf,aG,fB,f2,aB,fC,bC,aZ,cN,bQ,aR,bH,aU,bV,bX,aA,aC,aX,bF,fKs,aE,dEq,dNe,eqB,dB,dIx,bD,aL,dD,bZ,dX,dG,dI,cO,eM,cT,cB,fSl,D.imm,D.imms,cM,bK,aO,fT,bG,aH,bR,bS,bU,bP,cA,cC,bL,dIn,inB,bN,D.flat,D.flats,inV,eqV,eZ,fJ,eY,cH,dSl,bB,bM,aP,aQ,aT,cD,kT,kU,dO,L2.aS])
  subst a2
  exact yg3 (by omega)
 ·rename_i full parts g gs
  split at e
  ·cases e
  ·cases e
   have a1:=hb.parts g (List.mem_cons_of_mem _ List.mem_cons_self)
   have a2:full.length<=k:=hb.full _ List.mem_cons_self
   exact yg4 (by omega) (by omega)
 ·cases e
theorem zg0{x0:Option D}:∀{ts:List Tk} {fs fs':List Fm} {k:Nat} {x2 x3 x4 x5 x6:Option D},k+ts.length<=990->Bnd k fs->(∀f∈fs,f.ok)->run fs ts=some fs'->
  ∃y2 y3 y4 y5 y6,eM 2 kF (aK ts) [x0,some (.lst true (eV fs)),x2,x3,x4,x5,x6]=some (.nx,[x0,some (.lst true (eV fs')),y2,y3,y4,y5,y6])
 |[],fs,fs',k,x2,x3,x4,x5,x6,_,_,_,e=>by cases e;exact⟨x2,x3,x4,x5,x6,by simp [gP,aI,aJ,aM,cU,aF,fIf,aG,fB,f2,aB,fC,bC,aZ,cN,bQ,aR,bH,aU,bV,bX,aA,aC,aX,bF,fKs,aE,dEq,dNe,eqB,dB,dIx,bD,aL,dD,bZ,dX,dG,dI,cO,eM,cT,cB,fSl,D.imm,D.imms,cM,bK,aO,fT,bG,aH,bR,bS,bU,bP,cA,cC,bL,dIn,inB,bN,D.flat,D.flats,inV,eqV,eZ,fJ,eY,cH,dSl,bB,bM,aP,aQ,aT,cD,kT,kU,dO,L2.aS,aK]⟩
 | t::ts,fs,fs',k,x2,x3,x4,x5,x6,hk,hb,hok,e=>by
  have e':(step fs t).bind (fun g=>run g ts)=some fs':=e
  rw [List.length_cons] at hk
  cases q:step fs t with
  |none=>rw [q] at e';cases e'
  |some g=>
   rw [q] at e'
   obtain⟨y3,y4,y5,y6,h1⟩:=zy8 (x0:=x0) (x3:=x3) (x4:=x4) (x5:=x5) (x6:=x6) (by omega) hb hok q
   obtain⟨z2,z3,z4,z5,z6,h2⟩:=zg0 (x0:=x0) (x2:=some (tkD t)) (x3:=y3) (x4:=y4) (x5:=y5) (x6:=y6) (k:=k+1) (by omega) (ym4 hb q) (zf4 hok q).2 e'
   refine⟨z2,z3,z4,z5,z6,?_⟩
   rw [<-h2]
   show eM 2 kF (tkD t::aK ts) _=_
   rw [eM]
   show(kF [x0,some (.lst true (eV fs)),some (tkD t),x3,x4,x5,x6]).bind _=_
   rw [h1];rfl
abbrev zX:tz6:=gP 1 6 pY
theorem ym6{ts:List Tk}{r:List Pc}{fl:List (List Pc)}{o:Bool}(h:run [fU] ts=some [⟨none,fl,r⟩])(hl:ts.length<=900):zX [.lst o (aK ts)]=some (.tup (dY r)):=by
 have hok:∀f∈[fU],f.ok:=fun f hf=>by rw [List.mem_singleton.mp hf];exact fun _=>rfl
 obtain⟨y2,y3,y4,y5,y6,q⟩:=zg0 (x0:=some (.lst o (aK ts))) (x2:=none) (x3:=none) (x4:=none) (x5:=none) (x6:=none) (k:=0) (by omega) ⟨by simp [gP,aI,aJ,aM,cU,aF,fIf,aG,fB,f2,aB,fC,bC,aZ,cN,bQ,aR,bH,aU,bV,bX,aA,aC,aX,bF,fKs,aE,dEq,dNe,eqB,dB,dIx,bD,aL,dD,bZ,dX,dG,dI,cO,eM,cT,cB,fSl,D.imm,D.imms,cM,bK,aO,fT,bG,aH,bR,bS,bU,bP,cA,cC,bL,dIn,inB,bN,D.flat,D.flats,inV,eqV,eZ,fJ,eY,cH,dSl,bB,bM,aP,aQ,aT,cD,kT,kU,dO,L2.aS],fun f hf=>by rw [List.mem_singleton.mp hf];exact Nat.zero_le _,fun f hf=>by rw [List.mem_singleton.mp hf];exact Nat.zero_le _⟩ hok h
 have e0:eV [fU]=[.lst true [.tup [.str "top"],.lst true [],.lst true []]]:=rfl
 have e1:eV [⟨none,fl,r⟩]=[.lst true [.tup [.str "top"],.lst true (eR fl),.lst true (dY r)]]:=rfl
 rw [e0,e1] at q
 have q':eM 2 kF (aK ts) [some (.lst o (aK ts)),some (.lst true [.lst true [.tup [.str "top"],.lst true [],.lst true []]]),none,none,none,none,none]=some (.nx,[some (.lst o (aK ts)),some (.lst true [.lst true [.tup [.str "top"],.lst true (eR fl),.lst true (dY r)]]),y2,y3,y4,y5,y6]):=q
 have eb:pY=aI (aM 1 (aF (aX (aA (aX (aA (bF (aA (fC (.str "top")) aC)) (aA (aX aC) (aA (aX aC) aC)))) aC)))) (aI (dG 2 (dI (aB 0)) kF) (aZ (aF (aE bK (aA (f2 dIx (f2 dIx (aB 1) (fC (.int 0))) (fC (.int 2))) aC))))):=rfl
 show gP 1 6 pY _=_
 rw [eb]
 simp [gP,aI,aJ,aM,cU,aF,fIf,aG,fB,f2,aB,fC,bC,aZ,cN,bQ,aR,bH,aU,bV,bX,aA,aC,aX,bF,fKs,aE,dEq,dNe,eqB,dB,dIx,bD,aL,dD,bZ,dX,dG,dI,cO,eM,cT,cB,fSl,D.imm,D.imms,cM,bK,aO,fT,bG,aH,bR,bS,bU,bP,cA,cC,bL,dIn,inB,bN,D.flat,D.flats,inV,eqV,eZ,fJ,eY,cH,dSl,bB,bM,aP,aQ,aT,cD,kT,kU,dO,L2.aS,q',jW,jF,-eM]
theorem zo8(m st:Int)(hs0:0<=st)(hs1:st<93):∀(l:List Int) (w:Str) (x0 x2 x5:Option D),(∀j∈l,0<=j/\j<100)->w.length+l.length<=100->w.cps.toList.all uM=true->
  ∃w' x5',eM 5 (aM 4 (aF (f2 aO (aB 4) (f2 dIx (aB 1) (f2 fO (f2 aO (f2 iX (aB 0) (fC (.int 12))) (f2 fD (aB 5) (aB 3))) (fC (.int 93))))))) (l.map .int) [some (.int m),some (.str sg),x2,some (.int st),some (.str w),x5]
   =some (.nx,[some (.int m),some (.str sg),x2,some (.int st),some (.str w'),x5'])/\w'.length=w.length+l.length/\w'.cps.toList.all uM=true
 |[],w,x0,x2,x5,_,_,hw=>⟨w,x5,by simp [gP,aI,aJ,aM,cU,aF,fIf,aG,fB,f2,aB,fC,bC,aZ,cN,bQ,aR,bH,aU,bV,bX,aA,aC,aX,bF,fKs,aE,dEq,dNe,eqB,dB,dIx,bD,aL,dD,bZ,dX,dG,dI,cO,cT,cB,fSl,D.imm,D.imms,cM,bK,aO,dM,fT,bG,aH,bR,bS,bU,bP,cA,cC,bL,dIn,inB,bN,D.flat,D.flats,inV,eqV,eZ,fJ,eY,cH,dSl,bB,bM,aP,cE,cG,fD,fF,dLt,dLe,dGt,dGe,eG,fH,fS,fV,dH,dL,aQ,aT,cD,L2.aS,eM],rfl,hw⟩
 |j::l,w,x0,x2,x5,hj,hl,hw=>by
  rw [List.length_cons] at hl
  have hj0:=hj j List.mem_cons_self
  obtain⟨c,hc,hg⟩:=xd6 ((m/12+j*st) % 93) (Int.emod_nonneg _ (by decide)) (Int.emod_lt_of_pos _ (by decide))
  have hw1:(w++(⟨#[c]⟩:Str)).length=w.length+1:=by rw [zh8];rfl
  obtain⟨w',x5',q1,q2,q3⟩:=zo8 m st hs0 hs1 l (w++⟨#[c]⟩) x0 x2 (some (.int j)) (fun i hi=>hj i (List.mem_cons_of_mem _ hi)) (by rw [hw1];omega) (by rw [zh7,List.all_append,hw];simp [gP,aI,aJ,aM,cU,aF,fIf,aG,fB,f2,aB,fC,bC,aZ,cN,bQ,aR,bH,aU,bV,bX,aA,aC,aX,bF,fKs,aE,dEq,dNe,eqB,dB,dIx,bD,aL,dD,bZ,dX,dG,dI,cO,cT,cB,fSl,D.imm,D.imms,cM,bK,aO,dM,fT,bG,aH,bR,bS,bU,bP,cA,cC,bL,dIn,inB,bN,D.flat,D.flats,inV,eqV,eZ,fJ,eY,cH,dSl,bB,bM,aP,cE,cG,fD,fF,dLt,dLe,dGt,dGe,eG,fH,fS,fV,dH,dL,aQ,aT,cD,L2.aS,hg])
  refine⟨w',x5',?_,by rw [q2,hw1,List.length_cons];omega,q3⟩
  rw [<-q1]
  have hz:w.length+(⟨#[c]⟩:Str).length<=sizeLine:=sz (by show w.length+1<=1000;omega)
  have b1:(-18446744073709551616<j/\j<18446744073709551616):=by omega
  simp [gP,aI,aJ,aM,cU,aF,fIf,aG,fB,f2,aB,fC,bC,aZ,cN,bQ,aR,bH,aU,bV,bX,aA,aC,aX,bF,fKs,aE,dEq,dNe,eqB,dB,dIx,bD,aL,dD,bZ,dX,dG,dI,cO,cT,cB,fSl,D.imm,D.imms,cM,bK,aO,dM,fT,bG,aH,bR,bS,bU,bP,cA,cC,bL,dIn,inB,bN,D.flat,D.flats,inV,eqV,eZ,fJ,eY,cH,dSl,bB,bM,aP,cE,cG,fD,fF,dLt,dLe,dGt,dGe,eG,fH,fS,fV,dH,dL,aQ,aT,cD,L2.aS,eM,hc,yt4,hz,b1]
abbrev zj2:tz6:=gP 1 5 vN
theorem yt8{m:Int}(hm:0<=m):∃z,zj2 [.int m]=some (.str z)/\yi3 z:=by
 obtain⟨s,hs,h1,h2⟩:=yt5 m
 obtain⟨w,x5,q1,q2,q3⟩:=zo8 m (m/9000 % 93) (Int.emod_nonneg _ (by decide)) (Int.emod_lt_of_pos _ (by decide)) ((List.range s.toNat).map fun(k:Nat)=>(k:Int)) "" none (some (.int s)) none
  (fun j hj=>by obtain⟨k,hk,rfl⟩:=List.mem_map.mp hj;have:=List.mem_range.mp hk;omega) (by rw [List.length_map,List.length_range];show 0+_<=100;omega) (by decide+kernel)
 rw [<-zI] at q1
 rw [List.length_map,List.length_range] at q2
 have q2':w.length=s.toNat:=by rw [q2];show 0+_=_;omega
 refine⟨w,?_,by omega,by omega,q3⟩
 have hz:(Str.ofString "abcdefghijklmnopqrstuvwxyzABCDEFGHIJKLMNOPQRSTUVWXYZ0123456789").length+(Str.ofString "!\"#$&'()*+,-./:;<=>?\x40[\\]^_`{|}~").length<=sizeLine:=by decide+kernel
 have e1:Str.ofString "abcdefghijklmnopqrstuvwxyzABCDEFGHIJKLMNOPQRSTUVWXYZ0123456789"++Str.ofString "!\"#$&'()*+,-./:;<=>?\x40[\\]^_`{|}~"=sg:=rfl
 have b1:(-4611686018427387904<=s/\s<4611686018427387904):=by omega
 simp [gP,aI,aJ,aM,cU,aF,fIf,aG,fB,f2,aB,fC,bC,aZ,cN,bQ,aR,bH,aU,bV,bX,aA,aC,aX,bF,fKs,aE,dEq,dNe,eqB,dB,dIx,bD,aL,dD,bZ,dX,dG,dI,cO,cT,cB,fSl,D.imm,D.imms,cM,bK,aO,dM,fT,bG,aH,bR,bS,bU,bP,cA,cC,bL,dIn,inB,bN,D.flat,D.flats,inV,eqV,eZ,fJ,eY,cH,dSl,bB,bM,aP,cE,cG,fD,fF,dLt,dLe,dGt,dGe,eG,fH,fS,fV,dH,dL,aQ,aT,cD,L2.aS,vN,hz,e1,hs,q1,b1]
abbrev zY:tz6:=gP 1 1 (mR zj2)
theorem zu4{m:Int}(hm:0<=m):∃l,zY [.int m]=some (gM l)/\nG l:=by
 have hd:0<=m/16:=Int.ediv_nonneg hm (by decide)
 by_cases c1:m % 16<8
 ·obtain⟨z,q,hz⟩:=yt8 hd
  refine⟨.word z,?_,hz⟩
  show gP 1 1 (mR zj2) _=_
  generalize zj2=G at q
  simp [gP,aI,aJ,aM,cU,aF,fIf,aG,fB,f2,aB,fC,bC,aZ,cN,bQ,aR,bH,aU,bV,bX,aA,aC,aX,bF,fKs,aE,dEq,dNe,eqB,dB,dIx,bD,aL,dD,bZ,dX,dG,dI,cO,cT,cB,fSl,D.imm,D.imms,cM,bK,aO,dM,fT,bG,aH,bR,bS,bU,bP,cA,cC,bL,dIn,inB,bN,D.flat,D.flats,inV,eqV,eZ,fJ,eY,cH,dSl,bB,bM,aP,cE,cG,fD,fF,dLt,dLe,dGt,dGe,eG,fH,fS,fV,dH,dL,aQ,aT,cD,L2.aS,mR,c1,q,gM]
 ·by_cases c2:m % 16<13
  ·obtain⟨x,q,hx⟩:=xa0 (m/16)
   exact⟨.gap x,by simp [gP,aI,aJ,aM,cU,aF,fIf,aG,fB,f2,aB,fC,bC,aZ,cN,bQ,aR,bH,aU,bV,bX,aA,aC,aX,bF,fKs,aE,dEq,dNe,eqB,dB,dIx,bD,aL,dD,bZ,dX,dG,dI,cO,cT,cB,fSl,D.imm,D.imms,cM,bK,aO,dM,fT,bG,aH,bR,bS,bU,bP,cA,cC,bL,dIn,inB,bN,D.flat,D.flats,inV,eqV,eZ,fJ,eY,cH,dSl,bB,bM,aP,cE,cG,fD,fF,dLt,dLe,dGt,dGe,eG,fH,fS,fV,dH,dL,aQ,aT,cD,L2.aS,mR,c1,c2,q,gM],hx⟩
  ·by_cases c3:m % 16=13
   ·exact⟨.fin,by simp [gP,aI,aJ,aM,cU,aF,fIf,aG,fB,f2,aB,fC,bC,aZ,cN,bQ,aR,bH,aU,bV,bX,aA,aC,aX,bF,fKs,aE,dEq,dNe,eqB,dB,dIx,bD,aL,dD,bZ,dX,dG,dI,cO,cT,cB,fSl,D.imm,D.imms,cM,bK,aO,dM,fT,bG,aH,bR,bS,bU,bP,cA,cC,bL,dIn,inB,bN,D.flat,D.flats,inV,eqV,eZ,fJ,eY,cH,dSl,bB,bM,aP,cE,cG,fD,fF,dLt,dLe,dGt,dGe,eG,fH,fS,fV,dH,dL,aQ,aT,cD,L2.aS,mR,c1,c2,c3,gM],trivial⟩
   ·have ha:=Int.emod_nonneg (m/16/2) (show(10:Int)≠0 by decide)
    have hb:=Int.emod_lt_of_pos (m/16/2) (show(0:Int)<10 by decide)
    have hc:=Int.emod_nonneg (m/16/2) (show(41:Int)≠0 by decide)
    have hd:=Int.emod_lt_of_pos (m/16/2) (show(0:Int)<41 by decide)
    obtain⟨c,q,h1,h2⟩:=yt6 (m/16/2 % 10) (m/16/2 % 41) (m/16) (by omega) (by omega)
    exact⟨.stop c,by simp [gP,aI,aJ,aM,cU,aF,fIf,aG,fB,f2,aB,fC,bC,aZ,cN,bQ,aR,bH,aU,bV,bX,aA,aC,aX,bF,fKs,aE,dEq,dNe,eqB,dB,dIx,bD,aL,dD,bZ,dX,dG,dI,cO,cT,cB,fSl,D.imm,D.imms,cM,bK,aO,dM,fT,bG,aH,bR,bS,bU,bP,cA,cC,bL,dIn,inB,bN,D.flat,D.flats,inV,eqV,eZ,fJ,eY,cH,dSl,bB,bM,aP,cE,cG,fD,fF,dLt,dLe,dGt,dGe,eG,fH,fS,fV,dH,dL,aQ,aT,cD,L2.aS,mR,c1,c2,c3,q,gM],h1,h2⟩
def jM(f:Fm):D:= .lst true [.str (opW (f.op.getD .eit)),.int (f.full.length+1)]
def eN:List Fm->List D
 |[]=>[]
 |f::fs=>eN fs++[jM f]
theorem iD:∀fs,(eN fs).length=fs.length
 |[]=>rfl
 |f::fs=>by rw [eN,List.length_append,iD fs];rfl
def kN(f:Fm):List Tk:=match f.op with
 |some .opn=>[.cls]
 |some (.hng _)=>[.bck]
 |_=>if f.full=[] then [.orr,.don] else [.don]
def isO(f:Fm):Prop:=∃t,f.op=some t/\xj3 t
abbrev uP:tz7:=gE 2 2 (cY [true,true]) kH
theorem yt9{f:Fm}{fs:List Fm}{ts:List Tk}(hf:isO f)(hl:ts.length<=900):uP [.lst true (aK ts),.lst true (eN (f::fs))]=some (.non,[.lst true (aK (ts++kN f)),.lst true (eN fs)]):=by
 obtain⟨t,h1,h2⟩:=hf
 have hz:ts.length<sizeLine:=sz1 (by omega)
 have hz2:ts.length+1<sizeLine:=sz1 (by omega)
 cases t with
 |opn=>simp [gP,aI,aJ,aM,cU,aF,fIf,aG,fB,f2,aB,fC,bC,aZ,cN,bQ,aR,bH,aU,bV,bX,aA,aC,aX,bF,fKs,aE,dEq,dNe,eqB,dB,dIx,bD,aL,dD,bZ,dX,dG,dI,cO,cT,cB,fSl,D.imm,D.imms,cM,bK,aO,dM,fT,bG,aH,bR,bS,bU,bP,cA,cC,bL,dIn,inB,bN,D.flat,D.flats,inV,eqV,eZ,fJ,eY,cH,dSl,bB,bM,aP,cE,cG,fD,fF,dLt,dLe,dGt,dGe,eG,fH,fS,fV,dH,dL,aQ,aT,cD,L2.aS,gE,gH,cY,dE,cQ,cP,D.key,cX,fIO,cI,fX,kH,eN,jM,h1,opW,kN,hz,iC,aK,tkD]
 |hng n=>simp [gP,aI,aJ,aM,cU,aF,fIf,aG,fB,f2,aB,fC,bC,aZ,cN,bQ,aR,bH,aU,bV,bX,aA,aC,aX,bF,fKs,aE,dEq,dNe,eqB,dB,dIx,bD,aL,dD,bZ,dX,dG,dI,cO,cT,cB,fSl,D.imm,D.imms,cM,bK,aO,dM,fT,bG,aH,bR,bS,bU,bP,cA,cC,bL,dIn,inB,bN,D.flat,D.flats,inV,eqV,eZ,fJ,eY,cH,dSl,bB,bM,aP,cE,cG,fD,fF,dLt,dLe,dGt,dGe,eG,fH,fS,fV,dH,dL,aQ,aT,cD,L2.aS,gE,gH,cY,dE,cQ,cP,D.key,cX,fIO,cI,fX,kH,eN,jM,h1,opW,kN,hz,iC,aK,tkD]
 | eit=>
  by_cases c:f.full=[]
  ·simp [gP,aI,aJ,aM,cU,aF,fIf,aG,fB,f2,aB,fC,bC,aZ,cN,bQ,aR,bH,aU,bV,bX,aA,aC,aX,bF,fKs,aE,dEq,dNe,eqB,dB,dIx,bD,aL,dD,bZ,dX,dG,dI,cO,cT,cB,fSl,D.imm,D.imms,cM,bK,aO,dM,fT,bG,aH,bR,bS,bU,bP,cA,cC,bL,dIn,inB,bN,D.flat,D.flats,inV,eqV,eZ,fJ,eY,cH,dSl,bB,bM,aP,cE,cG,fD,fF,dLt,dLe,dGt,dGe,eG,fH,fS,fV,dH,dL,aQ,aT,cD,L2.aS,gE,gH,cY,dE,cQ,cP,D.key,cX,fIO,cI,fX,kH,eN,jM,h1,opW,kN,hz,hz2,iC,aK,tkD,c]
  ·have c':¬((f.full.length:Int)+1=1):=by
    intro z
    have:f.full.length=0:=by omega
    exact c (List.eq_nil_of_length_eq_zero this)
   simp [gP,aI,aJ,aM,cU,aF,fIf,aG,fB,f2,aB,fC,bC,aZ,cN,bQ,aR,bH,aU,bV,bX,aA,aC,aX,bF,fKs,aE,dEq,dNe,eqB,dB,dIx,bD,aL,dD,bZ,dX,dG,dI,cO,cT,cB,fSl,D.imm,D.imms,cM,bK,aO,dM,fT,bG,aH,bR,bS,bU,bP,cA,cC,bL,dIn,inB,bN,D.flat,D.flats,inV,eqV,eZ,fJ,eY,cH,dSl,bB,bM,aP,cE,cG,fD,fF,dLt,dLe,dGt,dGe,eG,fH,fS,fV,dH,dL,aQ,aT,cD,L2.aS,gE,gH,cY,dE,cQ,cP,D.key,cX,fIO,cI,fX,kH,eN,jM,h1,opW,kN,hz,iC,aK,tkD,c,c']
 |_=>cases h2
local macro_rules
 |`(tactic|simp! [$as,*])=>`(tactic|simp [gP,aI,aJ,aM,cU,aF,fIf,aG,fB,f2,aB,fC,bC,aZ,cN,bQ,aR,bH,aU,bV,bX,aA,aC,aX,bF,fKs,aE,dEq,dNe,eqB,dB,dIx,bD,aL,dD,bZ,dX,dG,dI,cO,cT,cB,fSl,D.imm,D.imms,cM,bK,aO,dM,fT,bG,aH,bR,bS,bU,bP,cA,cC,bL,dIn,inB,bN,D.flat,D.flats,inV,eqV,eZ,fJ,eY,cH,dSl,bB,bM,aP,cE,cG,fD,fF,dLt,dLe,dGt,dGe,eG,fH,fS,fV,dH,dL,aQ,aT,cD,dO,L2.aS,gE,gH,cY,dE,cQ,cP,D.key,cX,fIO,cI,fX,$as,*])
def hZ(aq:tz6)(bu:tz7)(ck:tz6):tz1:=
   (aI (aM 7 (aF (aE aq (aA (aB 0) (aA (aB 6) (aA (fC (.int 31)) aC))))))
 (aI (aM 8 (aF (f2 fO (aB 7) (fC (.int 13)))))
 (fIf (aG (bB (fB (f2 dLt (aB 8) (fC (.int 4)))) (fB (f2 dLt (aE bD (aA (aB 5) aC)) (aB 3)))))
  (aI (aM 9 (aF (f2 dIx (aX (fKs [.str "open",.str "open",.str "hang",.str "either"])) (aB 8))))
 (aI (aR (bH 4 aU (aA (f2 dIx (aX (aA (bF (aA (bC (aB 9)) aC)) (aA (bF (aA (fC (.str "hang")) (aA (f2 fO (f2 iX (aB 7) (fC (.int 13))) (fC (.int 13))) aC))) aC))) (aE cH (aA (f2 dEq (aB 9) (fC (.str "hang"))) aC))) aC) aL))
 (aR (bH 5 aU (aA (aX (aA (bC (aB 9)) (aA (fC (.int 1)) aC))) aC) aL))))
  (fIf (aG (bB (fB (f2 dEq (aB 8) (fC (.int 4)))) (fB (f2 dGt (aE bD (aA (aB 5) aC)) (fC (.int 0))))))
  (aR (fIO [.io 4,.io 5] bu))
  (fIf (aG (bB (fB (f2 dLt (aB 8) (fC (.int 7)))) (bB (fB (f2 dGt (aE bD (aA (aB 5) aC)) (fC (.int 0)))) (bB (fB (f2 dEq (f2 dIx (f2 dIx (aB 5) (bL (fC (.int 1)))) (fC (.int 0))) (fC (.str "either")))) (fB (f2 dLt (f2 dIx (f2 dIx (aB 5) (bL (fC (.int 1)))) (fC (.int 1))) (fC (.int 4))))))))
  (aI (cA 5 (bP 5 aU (bL (fC (.int 1)))) (fC (.int 1)) (f2 aO (f2 dIx (f2 dIx (aB 5) (bL (fC (.int 1)))) (fC (.int 1))) (fC (.int 1))))
 (aR (bH 4 aU (aA (bF (aA (fC (.str "or")) aC)) aC) aL)))
  (aR (bH 4 aU (aA (aE ck (aA (aE aq (aA (aB 0) (aA (aB 6) (aA (fC (.int 32)) aC)))) aC)) aC) aL)))))))
def vO(bu:tz7):Nat->tz1:=lT (aG (fB (f2 dGt (aE bD (aA (aB 5) aC)) (fC (.int 0))))) (aR (fIO [.io 4,.io 5] bu))
theorem zc7(GM:tz6)(GS:tz7)(GL:tz6):nH GM GS GL=aI (aM 4 (aF (aX aC))) (aI (aM 5 (aF (aX aC))) (aI (dG 6 (fH (aA (aB 1) (aA (f2 aO (aB 1) (aB 2)) aC))) (hZ GM GS GL)) (aI (vO GS 400) (cN 4)))):=rfl
structure TokInv(nest:Nat)(ts:List Tk)(gs:List Fm)(b:Fm)(k:Nat):Prop where
 run:run [fU] ts=some (gs++[b])
 bop:b.op=none
 ops:∀f∈gs,isO f
 len:gs.length<=nest
 tk:∀t∈ts,mP t
 cnt:ts.length+2*gs.length<=3*k
 deep:yE nest (gs++[b])
theorem TokInv.ok{nest:Nat}{ts:List Tk}{gs:List Fm}{b:Fm}{k:Nat}(h:TokInv nest ts gs b k):∀f∈gs++[b],f.ok:=
 (xO (fun f hf=>by rw [List.mem_singleton.mp hf];exact fun _=>rfl) h.run).2
theorem nN{ts:List Tk}{t:Tk}{fs fs':List Fm}(h:run [fU] ts=some fs)(e:step fs t=some fs'):run [fU] (ts++[t])=some fs':=by
 rw [oG,h]
 show(step fs t).bind (fun g=>some g)=_
 rw [e];rfl
theorem zr9{fs:List Fm}{t:Tk}(ht:t= .opn\/(∃n,t= .hng n)\/t= .eit):step fs t=some (⟨some t,[],[]⟩::fs):=by
 rcases ht with rfl|⟨n,rfl⟩|rfl<;>cases fs<;>rfl
theorem TokInv.opener{nest:Nat}{ts:List Tk}{gs:List Fm}{b:Fm}{k:Nat}{t:Tk}(h:TokInv nest ts gs b k)(ht:t= .opn\/(∃n,t= .hng n)\/t= .eit)(hk:mP t)(hl:gs.length<nest):TokInv nest (ts++[t]) (⟨some t,[],[]⟩::gs) b (k+1):=by
 have e:=zr9 (fs:=gs++[b]) ht
 refine⟨nN h.run e,h.bop,fun f hf=> ?_,by simp;omega,fun x hx=> ?_,by have:=h.cnt;simp;omega,mJ h.deep (by simp;omega) e⟩
 ·rcases List.mem_cons.mp hf with z|z
  ·rw [z];exact⟨t,rfl,by rcases ht with rfl|⟨n,rfl⟩|rfl<;>trivial⟩
  ·exact h.ops f z
 ·rcases List.mem_append.mp hx with z|z
  ·exact h.tk x z
  ·rw [List.mem_singleton.mp z];exact hk
theorem TokInv.leaf{nest:Nat}{ts:List Tk}{gs:List Fm}{b:Fm}{k:Nat}{l:Leaf}(h:TokInv nest ts gs b k)(hk:nG l):∃gs' b',TokInv nest (ts++[.leaf l]) gs' b' (k+1)/\eN gs'=eN gs:=by
 have tk:∀x∈ts++[Tk.leaf l],mP x:=fun x hx=>(List.mem_append.mp hx).elim (h.tk x) fun z=>by rw [List.mem_singleton.mp z];exact hk
 cases gs with
 |nil=>
  have e:step ([]++[b]) (.leaf l)=some ([]++[put b (.leaf l)]):=rfl
  exact⟨[],put b (.leaf l),⟨nN h.run e,h.bop,h.ops,h.len,tk,by have:=h.cnt;simp [gP,aI,aJ,aM,cU,aF,fIf,aG,fB,f2,aB,fC,bC,aZ,cN,bQ,aR,bH,aU,bV,bX,aA,aC,aX,bF,fKs,aE,dEq,dNe,eqB,dB,dIx,bD,aL,dD,bZ,dX,dG,dI,cO,cT,cB,fSl,D.imm,D.imms,cM,bK,aO,dM,fT,bG,aH,bR,bS,bU,bP,cA,cC,bL,dIn,inB,bN,D.flat,D.flats,inV,eqV,eZ,fJ,eY,cH,dSl,bB,bM,aP,cE,cG,fD,fF,dLt,dLe,dGt,dGe,eG,fH,fS,fV,dH,dL,aQ,aT,cD,dO,L2.aS,gE,gH,cY,dE,cQ,cP,D.key,cX,fIO,cI,fX] at this|-;omega,mJ h.deep (by simp! [eq_self]) e⟩,rfl⟩
 |cons f gs=>
  have e:step (f::gs++[b]) (.leaf l)=some (put f (.leaf l)::gs++[b]):=rfl
  refine⟨put f (.leaf l)::gs,b,⟨nN h.run e,h.bop,fun x hx=> ?_,h.len,tk,by have:=h.cnt;simp [gP,aI,aJ,aM,cU,aF,fIf,aG,fB,f2,aB,fC,bC,aZ,cN,bQ,aR,bH,aU,bV,bX,aA,aC,aX,bF,fKs,aE,dEq,dNe,eqB,dB,dIx,bD,aL,dD,bZ,dX,dG,dI,cO,cT,cB,fSl,D.imm,D.imms,cM,bK,aO,dM,fT,bG,aH,bR,bS,bU,bP,cA,cC,bL,dIn,inB,bN,D.flat,D.flats,inV,eqV,eZ,fJ,eY,cH,dSl,bB,bM,aP,cE,cG,fD,fF,dLt,dLe,dGt,dGe,eG,fH,fS,fV,dH,dL,aQ,aT,cD,dO,L2.aS,gE,gH,cY,dE,cQ,cP,D.key,cX,fIO,cI,fX] at this|-;omega,mJ h.deep (by have:=h.len;simp [gP,aI,aJ,aM,cU,aF,fIf,aG,fB,f2,aB,fC,bC,aZ,cN,bQ,aR,bH,aU,bV,bX,aA,aC,aX,bF,fKs,aE,dEq,dNe,eqB,dB,dIx,bD,aL,dD,bZ,dX,dG,dI,cO,cT,cB,fSl,D.imm,D.imms,cM,bK,aO,dM,fT,bG,aH,bR,bS,bU,bP,cA,cC,bL,dIn,inB,bN,D.flat,D.flats,inV,eqV,eZ,fJ,eY,cH,dSl,bB,bM,aP,cE,cG,fD,fF,dLt,dLe,dGt,dGe,eG,fH,fS,fV,dH,dL,aQ,aT,cD,dO,L2.aS,gE,gH,cY,dE,cQ,cP,D.key,cX,fIO,cI,fX] at this|-;omega) e⟩,rfl⟩
  rcases List.mem_cons.mp hx with z|z
  ·rw [z];exact h.ops f List.mem_cons_self
  ·exact h.ops x (List.mem_cons_of_mem _ z)
theorem TokInv.orr{nest:Nat}{ts:List Tk}{full:List (List Pc)}{parts:List Pc}{gs:List Fm}{b:Fm}{k:Nat}(h:TokInv nest ts (⟨some .eit,full,parts⟩::gs) b k):TokInv nest (ts++[.orr]) (⟨some .eit,full++[parts],[]⟩::gs) b (k+1):=by
 have e:step (⟨some .eit,full,parts⟩::gs++[b]) .orr=some (⟨some .eit,full++[parts],[]⟩::gs++[b]):=rfl
 refine⟨nN h.run e,h.bop,fun x hx=> ?_,h.len,fun x hx=>(List.mem_append.mp hx).elim (h.tk x) fun z=>by rw [List.mem_singleton.mp z];trivial,by have:=h.cnt;simp [gP,aI,aJ,aM,cU,aF,fIf,aG,fB,f2,aB,fC,bC,aZ,cN,bQ,aR,bH,aU,bV,bX,aA,aC,aX,bF,fKs,aE,dEq,dNe,eqB,dB,dIx,bD,aL,dD,bZ,dX,dG,dI,cO,cT,cB,fSl,D.imm,D.imms,cM,bK,aO,dM,fT,bG,aH,bR,bS,bU,bP,cA,cC,bL,dIn,inB,bN,D.flat,D.flats,inV,eqV,eZ,fJ,eY,cH,dSl,bB,bM,aP,cE,cG,fD,fF,dLt,dLe,dGt,dGe,eG,fH,fS,fV,dH,dL,aQ,aT,cD,dO,L2.aS,gE,gH,cY,dE,cQ,cP,D.key,cX,fIO,cI,fX] at this|-;omega,mJ h.deep (by have:=h.len;simp [gP,aI,aJ,aM,cU,aF,fIf,aG,fB,f2,aB,fC,bC,aZ,cN,bQ,aR,bH,aU,bV,bX,aA,aC,aX,bF,fKs,aE,dEq,dNe,eqB,dB,dIx,bD,aL,dD,bZ,dX,dG,dI,cO,cT,cB,fSl,D.imm,D.imms,cM,bK,aO,dM,fT,bG,aH,bR,bS,bU,bP,cA,cC,bL,dIn,inB,bN,D.flat,D.flats,inV,eqV,eZ,fJ,eY,cH,dSl,bB,bM,aP,cE,cG,fD,fF,dLt,dLe,dGt,dGe,eG,fH,fS,fV,dH,dL,aQ,aT,cD,dO,L2.aS,gE,gH,cY,dE,cQ,cP,D.key,cX,fIO,cI,fX] at this|-;omega) e⟩
 rcases List.mem_cons.mp hx with z|z
 ·rw [z];exact⟨.eit,rfl,trivial⟩
 ·exact h.ops x (List.mem_cons_of_mem _ z)
theorem TokInv.shut{nest:Nat}{ts:List Tk}{f:Fm}{gs:List Fm}{b:Fm}{k:Nat}(h:TokInv nest ts (f::gs) b k):∃gs' b',TokInv nest (ts++kN f) gs' b' (k+1)/\eN gs'=eN gs/\gs'.length=gs.length/\(ts++kN f).length+2*gs'.length<=3*k:=by
 have hok:=h.ok
 have hdp:=h.deep
 have hlen:=h.len
 have hcnt:=h.cnt
 obtain⟨t,ht,hto⟩:=h.ops f List.mem_cons_self
 have close:∀{f:Fm} {ts:List Tk} {t:Tk} {p:Pc},My.run [fU] ts=some (f::gs++[b])->yE nest (f::gs++[b])->(∀x∈ts,mP x)->mP t->ts.length+2*(f::gs).length<=3*k+1->(∀g r,step (f::g::r) t=some (put g p::r))->
   ∃gs' b',TokInv nest (ts++[t]) gs' b' (k+1)/\eN gs'=eN gs/\gs'.length=gs.length/\(ts++[t]).length+2*gs'.length<=3*k:=by
  intro f ts t p hr hd htk hk hc hs
  have tk:∀x∈ts++[t],mP x:=fun x hx=>(List.mem_append.mp hx).elim (htk x) fun z=>by rw [List.mem_singleton.mp z];exact hk
  have ops:∀x∈gs,isO x:=fun x hx=>h.ops x (List.mem_cons_of_mem _ hx)
  cases gs with
  |nil=>
   have e:step (f::[]++[b]) t=some ([]++[put b p]):=hs b []
   exact⟨[],put b p,⟨nN hr e,h.bop,fun x hx=>absurd hx (by simp! [eq_self]),Nat.zero_le _,tk,by simp [gP,aI,aJ,aM,cU,aF,fIf,aG,fB,f2,aB,fC,bC,aZ,cN,bQ,aR,bH,aU,bV,bX,aA,aC,aX,bF,fKs,aE,dEq,dNe,eqB,dB,dIx,bD,aL,dD,bZ,dX,dG,dI,cO,cT,cB,fSl,D.imm,D.imms,cM,bK,aO,dM,fT,bG,aH,bR,bS,bU,bP,cA,cC,bL,dIn,inB,bN,D.flat,D.flats,inV,eqV,eZ,fJ,eY,cH,dSl,bB,bM,aP,cE,cG,fD,fF,dLt,dLe,dGt,dGe,eG,fH,fS,fV,dH,dL,aQ,aT,cD,dO,L2.aS,gE,gH,cY,dE,cQ,cP,D.key,cX,fIO,cI,fX] at hc|-;omega,mJ hd (by simp! [eq_self]) e⟩,rfl,rfl,by simp [gP,aI,aJ,aM,cU,aF,fIf,aG,fB,f2,aB,fC,bC,aZ,cN,bQ,aR,bH,aU,bV,bX,aA,aC,aX,bF,fKs,aE,dEq,dNe,eqB,dB,dIx,bD,aL,dD,bZ,dX,dG,dI,cO,cT,cB,fSl,D.imm,D.imms,cM,bK,aO,dM,fT,bG,aH,bR,bS,bU,bP,cA,cC,bL,dIn,inB,bN,D.flat,D.flats,inV,eqV,eZ,fJ,eY,cH,dSl,bB,bM,aP,cE,cG,fD,fF,dLt,dLe,dGt,dGe,eG,fH,fS,fV,dH,dL,aQ,aT,cD,dO,L2.aS,gE,gH,cY,dE,cQ,cP,D.key,cX,fIO,cI,fX] at hc|-;omega⟩
  |cons g gs=>
   have e:step (f::(g::gs)++[b]) t=some (put g p::gs++[b]):=hs g (gs++[b])
   refine⟨put g p::gs,b,⟨nN hr e,h.bop,fun x hx=> ?_,by simp [gP,aI,aJ,aM,cU,aF,fIf,aG,fB,f2,aB,fC,bC,aZ,cN,bQ,aR,bH,aU,bV,bX,aA,aC,aX,bF,fKs,aE,dEq,dNe,eqB,dB,dIx,bD,aL,dD,bZ,dX,dG,dI,cO,cT,cB,fSl,D.imm,D.imms,cM,bK,aO,dM,fT,bG,aH,bR,bS,bU,bP,cA,cC,bL,dIn,inB,bN,D.flat,D.flats,inV,eqV,eZ,fJ,eY,cH,dSl,bB,bM,aP,cE,cG,fD,fF,dLt,dLe,dGt,dGe,eG,fH,fS,fV,dH,dL,aQ,aT,cD,dO,L2.aS,gE,gH,cY,dE,cQ,cP,D.key,cX,fIO,cI,fX] at hlen|-;omega,tk,by simp [gP,aI,aJ,aM,cU,aF,fIf,aG,fB,f2,aB,fC,bC,aZ,cN,bQ,aR,bH,aU,bV,bX,aA,aC,aX,bF,fKs,aE,dEq,dNe,eqB,dB,dIx,bD,aL,dD,bZ,dX,dG,dI,cO,cT,cB,fSl,D.imm,D.imms,cM,bK,aO,dM,fT,bG,aH,bR,bS,bU,bP,cA,cC,bL,dIn,inB,bN,D.flat,D.flats,inV,eqV,eZ,fJ,eY,cH,dSl,bB,bM,aP,cE,cG,fD,fF,dLt,dLe,dGt,dGe,eG,fH,fS,fV,dH,dL,aQ,aT,cD,dO,L2.aS,gE,gH,cY,dE,cQ,cP,D.key,cX,fIO,cI,fX] at hc|-;omega,mJ hd (by simp [gP,aI,aJ,aM,cU,aF,fIf,aG,fB,f2,aB,fC,bC,aZ,cN,bQ,aR,bH,aU,bV,bX,aA,aC,aX,bF,fKs,aE,dEq,dNe,eqB,dB,dIx,bD,aL,dD,bZ,dX,dG,dI,cO,cT,cB,fSl,D.imm,D.imms,cM,bK,aO,dM,fT,bG,aH,bR,bS,bU,bP,cA,cC,bL,dIn,inB,bN,D.flat,D.flats,inV,eqV,eZ,fJ,eY,cH,dSl,bB,bM,aP,cE,cG,fD,fF,dLt,dLe,dGt,dGe,eG,fH,fS,fV,dH,dL,aQ,aT,cD,dO,L2.aS,gE,gH,cY,dE,cQ,cP,D.key,cX,fIO,cI,fX] at hlen|-;omega) e⟩,rfl,rfl,by simp [gP,aI,aJ,aM,cU,aF,fIf,aG,fB,f2,aB,fC,bC,aZ,cN,bQ,aR,bH,aU,bV,bX,aA,aC,aX,bF,fKs,aE,dEq,dNe,eqB,dB,dIx,bD,aL,dD,bZ,dX,dG,dI,cO,cT,cB,fSl,D.imm,D.imms,cM,bK,aO,dM,fT,bG,aH,bR,bS,bU,bP,cA,cC,bL,dIn,inB,bN,D.flat,D.flats,inV,eqV,eZ,fJ,eY,cH,dSl,bB,bM,aP,cE,cG,fD,fF,dLt,dLe,dGt,dGe,eG,fH,fS,fV,dH,dL,aQ,aT,cD,dO,L2.aS,gE,gH,cY,dE,cQ,cP,D.key,cX,fIO,cI,fX] at hc|-;omega⟩
   rcases List.mem_cons.mp hx with z|z
   ·rw [z];exact ops g List.mem_cons_self
   ·exact ops x (List.mem_cons_of_mem _ z)
 obtain⟨op,full,parts⟩:=f
 cases ht
 cases t with
 |opn=>exact close h.run hdp h.tk trivial (by omega) fun g r=>rfl
 |hng n=>exact close h.run hdp h.tk trivial (by omega) fun g r=>rfl
 | eit=>
  by_cases c:full=[]
  ·subst c
   have e1:step (⟨some .eit,[],parts⟩::gs++[b]) .orr=some (⟨some .eit,[parts],[]⟩::gs++[b]):=rfl
   have es:kN ⟨some .eit,[],parts⟩=[.orr,.don]:=rfl
   rw [es]
   have:=close (f:=⟨some .eit,[parts],[]⟩) (ts:=ts++[.orr]) (t:= .don) (p:= .either ([parts]++[[]])) (nN h.run e1) (mJ hdp (by simp [gP,aI,aJ,aM,cU,aF,fIf,aG,fB,f2,aB,fC,bC,aZ,cN,bQ,aR,bH,aU,bV,bX,aA,aC,aX,bF,fKs,aE,dEq,dNe,eqB,dB,dIx,bD,aL,dD,bZ,dX,dG,dI,cO,cT,cB,fSl,D.imm,D.imms,cM,bK,aO,dM,fT,bG,aH,bR,bS,bU,bP,cA,cC,bL,dIn,inB,bN,D.flat,D.flats,inV,eqV,eZ,fJ,eY,cH,dSl,bB,bM,aP,cE,cG,fD,fF,dLt,dLe,dGt,dGe,eG,fH,fS,fV,dH,dL,aQ,aT,cD,dO,L2.aS,gE,gH,cY,dE,cQ,cP,D.key,cX,fIO,cI,fX] at hlen|-;omega) e1) (fun x hx=>(List.mem_append.mp hx).elim (h.tk x) fun z=>by rw [List.mem_singleton.mp z];trivial) trivial (by simp [gP,aI,aJ,aM,cU,aF,fIf,aG,fB,f2,aB,fC,bC,aZ,cN,bQ,aR,bH,aU,bV,bX,aA,aC,aX,bF,fKs,aE,dEq,dNe,eqB,dB,dIx,bD,aL,dD,bZ,dX,dG,dI,cO,cT,cB,fSl,D.imm,D.imms,cM,bK,aO,dM,fT,bG,aH,bR,bS,bU,bP,cA,cC,bL,dIn,inB,bN,D.flat,D.flats,inV,eqV,eZ,fJ,eY,cH,dSl,bB,bM,aP,cE,cG,fD,fF,dLt,dLe,dGt,dGe,eG,fH,fS,fV,dH,dL,aQ,aT,cD,dO,L2.aS,gE,gH,cY,dE,cQ,cP,D.key,cX,fIO,cI,fX] at hcnt|-;omega) (fun g r=>rfl)
   simpa using this
  ·have es:kN ⟨some .eit,full,parts⟩=[.don]:=by show(if full=[] then _ else _)=_;rw [if_neg c]
   rw [es]
   exact close h.run hdp h.tk trivial (by omega) fun g r=>by show(if full=[] then none else _)=_;rw [if_neg c]
 |_=>cases hto
theorem zo9{GS:tz7}(hS:∀(f:Fm) (fs:List Fm) (ts:List Tk),isO f->ts.length<=900->GS [.lst true (aK ts),.lst true (eN (f::fs))]=some (.non,[.lst true (aK (ts++kN f)),.lst true (eN fs)])){nest:Nat}{x0 x1 x2 x3 x6 x7 x8 x9:Option D}:
  ∀(n:Nat) (gs:List Fm) (b:Fm) (ts:List Tk) (k:Nat),gs.length<n->TokInv nest ts gs b k->3*k<=300->(ts.length+2*gs.length<=300)->
  ∃ts' b' k',vO GS n [x0,x1,x2,x3,some (.lst true (aK ts)),some (.lst true (eN gs)),x6,x7,x8,x9]=some (.nx,[x0,x1,x2,x3,some (.lst true (aK ts')),some (.lst true []),x6,x7,x8,x9])/\TokInv nest ts' [] b' k'/\ts'.length<=300
 |0,_,_,_,_,h,_,_,_=>by omega
 |n+1,[],b,ts,k,_,h,hk,hc=>⟨ts,b,k,by simp! [vO,lT,eN],h,by simp [gP,aI,aJ,aM,cU,aF,fIf,aG,fB,f2,aB,fC,bC,aZ,cN,bQ,aR,bH,aU,bV,bX,aA,aC,aX,bF,fKs,aE,dEq,dNe,eqB,dB,dIx,bD,aL,dD,bZ,dX,dG,dI,cO,cT,cB,fSl,D.imm,D.imms,cM,bK,aO,dM,fT,bG,aH,bR,bS,bU,bP,cA,cC,bL,dIn,inB,bN,D.flat,D.flats,inV,eqV,eZ,fJ,eY,cH,dSl,bB,bM,aP,cE,cG,fD,fF,dLt,dLe,dGt,dGe,eG,fH,fS,fV,dH,dL,aQ,aT,cD,dO,L2.aS,gE,gH,cY,dE,cQ,cP,D.key,cX,fIO,cI,fX] at hc;omega⟩
 |n+1,f::gs,b,ts,k,hn,h,hk,hc=>by
  obtain⟨gs',b',h1,h2,h3,h4⟩:=h.shut
  have hf:=h.ops f List.mem_cons_self
  have q:=hS f gs ts hf (by simp [gP,aI,aJ,aM,cU,aF,fIf,aG,fB,f2,aB,fC,bC,aZ,cN,bQ,aR,bH,aU,bV,bX,aA,aC,aX,bF,fKs,aE,dEq,dNe,eqB,dB,dIx,bD,aL,dD,bZ,dX,dG,dI,cO,cT,cB,fSl,D.imm,D.imms,cM,bK,aO,dM,fT,bG,aH,bR,bS,bU,bP,cA,cC,bL,dIn,inB,bN,D.flat,D.flats,inV,eqV,eZ,fJ,eY,cH,dSl,bB,bM,aP,cE,cG,fD,fF,dLt,dLe,dGt,dGe,eG,fH,fS,fV,dH,dL,aQ,aT,cD,dO,L2.aS,gE,gH,cY,dE,cQ,cP,D.key,cX,fIO,cI,fX] at hc;omega)
  have h1':TokInv nest (ts++kN f) gs' b' k:=⟨h1.run,h1.bop,h1.ops,h1.len,h1.tk,h4,h1.deep⟩
  obtain⟨ts',b2,k2,w1,w2,w3⟩:=zo9 hS n gs' b' (ts++kN f) k (by rw [h3];simp [gP,aI,aJ,aM,cU,aF,fIf,aG,fB,f2,aB,fC,bC,aZ,cN,bQ,aR,bH,aU,bV,bX,aA,aC,aX,bF,fKs,aE,dEq,dNe,eqB,dB,dIx,bD,aL,dD,bZ,dX,dG,dI,cO,cT,cB,fSl,D.imm,D.imms,cM,bK,aO,dM,fT,bG,aH,bR,bS,bU,bP,cA,cC,bL,dIn,inB,bN,D.flat,D.flats,inV,eqV,eZ,fJ,eY,cH,dSl,bB,bM,aP,cE,cG,fD,fF,dLt,dLe,dGt,dGe,eG,fH,fS,fV,dH,dL,aQ,aT,cD,dO,L2.aS,gE,gH,cY,dE,cQ,cP,D.key,cX,fIO,cI,fX] at hn;omega) h1' hk (by omega)
  refine⟨ts',b2,k2,?_,w2,w3⟩
  rw [<-w1,h2]
  have hl:(eN (f::gs)).length=gs.length+1:=by rw [iD];rfl
  have hpos:(0:Int)<((gs.length:Int)+1):=by omega
  show lT _ _ (n+1) _=_
  rw [lT]
  simp! [hl,hpos,q,vO]
theorem yg5{GM:tz6}{GS:tz7}{GL:tz6}{S:D}{x1 x2 x7 x8 x9:Option D}{nest:Nat}{ts:List Tk}{gs:List Fm}{i m:Int}(hm:GM [S,.int i,.int 31]=some (.int m))(hw:m % 13<4)(hm0:0<=m)(hl:gs.length<nest)(hz:ts.length<=900)(hz2:gs.length<=900):
  ∃t y7 y8 y9,hZ GM GS GL [some S,x1,x2,some (.int nest),some (.lst true (aK ts)),some (.lst true (eN gs)),some (.int i),x7,x8,x9]=some (.nx,[some S,x1,x2,some (.int nest),some (.lst true (aK (ts++[t]))),some (.lst true (eN (⟨some t,[],[]⟩::gs))),some (.int i),y7,y8,y9])/\(t= .opn\/(∃n,t= .hng n)\/t= .eit)/\mP t:=by
 have h1:ts.length<sizeLine:=sz1 (by omega)
 have h2:gs.length<sizeLine:=sz1 (by omega)
 have h0:=Int.emod_nonneg m (show(13:Int)≠0 by decide)
 have hl':(gs.length:Int)<(nest:Int):=by omega
 have hn:m % 13=0\/m % 13=1\/m % 13=2\/m % 13=3:=by omega
 have d0:=Int.emod_nonneg (m/13) (show(13:Int)≠0 by decide)
 have d1:=Int.emod_lt_of_pos (m/13) (show(0:Int)<13 by decide)
 rcases hn with e|e|e|e
 ·exact⟨.opn,some (.int m),some (.int 0),some (.str "open"),by simp! [hZ,hm,e,iD,hl',h1,h2,eQ,iC,eN,jM,opW];simp! [aK,tkD],.inl rfl,trivial⟩
 ·exact⟨.opn,some (.int m),some (.int 1),some (.str "open"),by simp! [hZ,hm,e,iD,hl',h1,h2,eQ,iC,eN,jM,opW];simp! [aK,tkD],.inl rfl,trivial⟩
 ·exact⟨.hng (m/13 % 13),some (.int m),some (.int 2),some (.str "hang"),by simp! [hZ,hm,e,iD,hl',h1,h2,eQ,iC,eN,jM,opW];simp! [aK,tkD],.inr (.inl ⟨_,rfl⟩),⟨d0,by omega⟩⟩
 ·exact⟨.eit,some (.int m),some (.int 3),some (.str "either"),by simp! [hZ,hm,e,iD,hl',h1,h2,eQ,iC,eN,jM,opW,xf9];simp! [aK,tkD],.inr (.inr rfl),trivial⟩
section
variable{GM:tz6}{GS:tz7}{GL:tz6}{S:D}{x1 x2 x7 x8 x9:Option D}{nest:Nat}{ts:List Tk}{gs:List Fm}{i m:Int}
theorem yg6{f:Fm}(hS:∀(f:Fm) (fs:List Fm) (ts:List Tk),isO f->ts.length<=900->GS [.lst true (aK ts),.lst true (eN (f::fs))]=some (.non,[.lst true (aK (ts++kN f)),.lst true (eN fs)]))
  (hm:GM [S,.int i,.int 31]=some (.int m)) (hw:m % 13=4) (hf:isO f) (hz:ts.length<=900):
  hZ GM GS GL [some S,x1,x2,some (.int nest),some (.lst true (aK ts)),some (.lst true (eN (f::gs))),some (.int i),x7,x8,x9]=some (.nx,[some S,x1,x2,some (.int nest),some (.lst true (aK (ts++kN f))),some (.lst true (eN gs)),some (.int i),some (.int m),some (.int 4),x9]):=by
 have q:=hS f gs ts hf hz
 have hl:(eN (f::gs)).length=gs.length+1:=by rw [iD];rfl
 have hpos:(0:Int)<((gs.length:Int)+1):=by omega
 generalize eN (f::gs)=N at q hl
 simp! [hZ,hm,hw,hl,hpos,q]
theorem yu0{full:List (List Pc)}{parts:List Pc}(hm:GM [S,.int i,.int 31]=some (.int m))(hw:¬(m % 13<4/\gs.length+1<nest))(a2:¬m % 13=4)(hw2:m % 13<7)(hf:full.length<3)(hz:ts.length<=900):
  hZ GM GS GL [some S,x1,x2,some (.int nest),some (.lst true (aK ts)),some (.lst true (eN (⟨some .eit,full,parts⟩::gs))),some (.int i),x7,x8,x9]=some (.nx,[some S,x1,x2,some (.int nest),some (.lst true (aK (ts++[.orr]))),some (.lst true (eN (⟨some .eit,full++[parts],[]⟩::gs))),some (.int i),some (.int m),some (.int (m % 13)),x9]):=by
 have h1:ts.length<sizeLine:=sz1 (by omega)
 have hpos:(0:Int)<((gs.length:Int)+1):=by omega
 have a3:(full.length:Int)+1<4:=by omega
 by_cases a1:m % 13<4
 ·have a4:¬((gs.length:Int)+1<(nest:Int)):=fun w=>hw ⟨a1,by omega⟩
  simp! [hZ,hm,a1,a4,a2,hw2,eN,iD,hpos,jM,opW,a3,h1,eQ,iC]
  simp! [aK,tkD]
 ·simp! [hZ,hm,a1,a2,hw2,eN,iD,hpos,jM,opW,a3,h1,eQ,iC]
  simp! [aK,tkD]
theorem yg7{l:Leaf}{m2:Int}(hm:GM [S,.int i,.int 31]=some (.int m))(hm2:GM [S,.int i,.int 32]=some (.int m2))(hL:GL [.int m2]=some (gM l))(hz:ts.length<=900)
  (c1:¬(m % 13<4/\gs.length<nest)) (c2:¬(m % 13=4/\gs≠[])) (c3:∀f gs',gs=f::gs'->m % 13<7->f.op=some .eit->¬f.full.length<3) (hop:∀f∈gs,isO f):
  hZ GM GS GL [some S,x1,x2,some (.int nest),some (.lst true (aK ts)),some (.lst true (eN gs)),some (.int i),x7,x8,x9]=some (.nx,[some S,x1,x2,some (.int nest),some (.lst true (aK (ts++[.leaf l]))),some (.lst true (eN gs)),some (.int i),some (.int m),some (.int (m % 13)),x9]):=by
 have h1:ts.length<sizeLine:=sz1 (by omega)
 have e1:(decide (m % 13<4)&&decide ((gs.length:Int)<(nest:Int)))=false:=by
  rw [Bool.and_eq_false_iff]
  by_cases z:m % 13<4
  ·right;exact decide_eq_false fun w=>c1 ⟨z,by omega⟩
  ·left;exact decide_eq_false z
 have fin:aK (ts++[Tk.leaf l])=aK ts++[gM l]:=by simp! [aK,tkD]
 rw [fin]
 cases gs with
 | nil=>
  by_cases z:m % 13<4
  ·have z2:¬((0:Int)<(nest:Int)):=fun w=>c1 ⟨z,by simp;omega⟩
   have z3:nest=0:=by omega
   subst z3
   by_cases w1:m % 13=4<;>by_cases w2:m % 13<7<;>simp! [hZ,hm,hm2,hL,z,w1,w2,eN,h1,eQ]
  ·by_cases w1:m % 13=4<;>by_cases w2:m % 13<7<;>simp! [hZ,hm,hm2,hL,z,w1,w2,eN,h1,eQ]
 | cons f gs=>
  have w1:¬m % 13=4:=fun w=>c2 ⟨w,by simp! [eq_self]⟩
  have hpos:(0:Int)<((gs.length:Int)+1):=by omega
  obtain⟨t,ht,hto⟩:=hop f List.mem_cons_self
  have lenN:(eN (f::gs)).length=gs.length+1:=by rw [iD];rfl
  have first:∀(z:m % 13<4),¬((gs.length:Int)+1<(nest:Int)):=fun z w=>c1 ⟨z,by simp;omega⟩
  have third:m % 13<7->¬(opW (f.op.getD .eit)=Str.ofString "either"/\((f.full.length:Int)+1<4)):=fun z ⟨w1,w2⟩=>by
   have:f.op=some .eit:=by
    rw [ht] at w1|-
    cases t with
    |opn=>have:(Str.ofString "open"=Str.ofString "either"):=w1;rw [aH] at this;exact absurd this (by decide)
    |hng n=>have:(Str.ofString "hang"=Str.ofString "either"):=w1;rw [aH] at this;exact absurd this (by decide)
    |eit=>rfl
    |_=>cases hto
   exact c3 f gs rfl z this (by omega)
  by_cases z:m % 13<4
  ·have z7:m % 13<7:=by omega
   have t3:=third z7
   by_cases u1:opW (f.op.getD .eit)=Str.ofString "either"
   ·have u2:¬((f.full.length:Int)+1<4):=fun w=>t3 ⟨u1,w⟩
    simp! [hZ,hm,hm2,hL,z,first z,w1,z7,eN,iD,hpos,jM,u1,u2,h1,eQ]
   ·simp! [hZ,hm,hm2,hL,z,first z,w1,z7,eN,iD,hpos,jM,u1,h1,eQ]
  ·by_cases z7:m % 13<7
   ·have t3:=third z7
    by_cases u1:opW (f.op.getD .eit)=Str.ofString "either"
    ·have u2:¬((f.full.length:Int)+1<4):=fun w=>t3 ⟨u1,w⟩
     simp! [hZ,hm,hm2,hL,z,w1,z7,eN,iD,hpos,jM,u1,u2,h1,eQ]
    ·simp! [hZ,hm,hm2,hL,z,w1,z7,eN,iD,hpos,jM,u1,h1,eQ]
   ·simp! [hZ,hm,hm2,hL,z,w1,z7,eN,iD,hpos,jM,h1,eQ]
theorem yu1{b:Fm}{k:Nat}(hS:∀(f:Fm) (fs:List Fm) (ts:List Tk),isO f->ts.length<=900->GS [.lst true (aK ts),.lst true (eN (f::fs))]=some (.non,[.lst true (aK (ts++kN f)),.lst true (eN fs)]))
  (hL:∀m,0<=m->∃l,GL [.int m]=some (gM l)/\nG l) (hM:∀s:Int,s=31\/s=32->∃m,GM [S,.int i,.int s]=some (.int m)/\0<=m) (h:TokInv nest ts gs b k) (hk:3*k<=300) (hn:nest<=100):
  ∃ts' gs' b' y7 y8 y9,hZ GM GS GL [some S,x1,x2,some (.int nest),some (.lst true (aK ts)),some (.lst true (eN gs)),some (.int i),x7,x8,x9]=some (.nx,[some S,x1,x2,some (.int nest),some (.lst true (aK ts')),some (.lst true (eN gs')),some (.int i),y7,y8,y9])/\TokInv nest ts' gs' b' (k+1):=by
 obtain⟨m,hm,hm0⟩:=hM 31 (.inl rfl)
 obtain⟨m2,hm2,hm20⟩:=hM 32 (.inr rfl)
 have hc:=h.cnt
 have hz:ts.length<=900:=by omega
 have hln:=h.len
 by_cases c1:m % 13<4/\gs.length<nest
 ·obtain⟨t,y7,y8,y9,q,ht,htk⟩:=yg5 (GS:=GS) (GL:=GL) (x1:=x1) (x2:=x2) (x7:=x7) (x8:=x8) (x9:=x9) (ts:=ts) hm c1.1 hm0 c1.2 hz (by omega)
  exact⟨_,_,b,y7,y8,y9,q,h.opener ht htk c1.2⟩
 ·by_cases c2:m % 13=4/\gs≠[]
  ·cases gs with
   |nil=>exact absurd rfl c2.2
   |cons f gs=>
    obtain⟨gs',b',h1,h2,h3,h4⟩:=h.shut
    have q:=yg6 (GL:=GL) (x1:=x1) (x2:=x2) (x7:=x7) (x8:=x8) (x9:=x9) (nest:=nest) (gs:=gs) hS hm c2.1 (h.ops f List.mem_cons_self) hz
    exact⟨_,gs',b',_,_,_,by rw [q,h2],h1⟩
  ·by_cases c3:∃f gs',gs=f::gs'/\m % 13<7/\f.op=some .eit/\f.full.length<3
   ·obtain⟨f,gs',rfl,h7,ho,hf⟩:=c3
    obtain⟨op,full,parts⟩:=f
    cases ho
    exact⟨_,_,b,_,_,_,yu0 (GS:=GS) (GL:=GL) (x1:=x1) (x2:=x2) (x7:=x7) (x8:=x8) (x9:=x9) (nest:=nest) (gs:=gs') hm (by simpa using c1) (fun w=>c2 ⟨w,by simp! [eq_self]⟩) h7 hf hz,h.orr⟩
   ·obtain⟨l,hl,hlk⟩:=hL m2 hm20
    obtain⟨gs',b',h1,h2⟩:=h.leaf hlk
    have q:=yg7 (GS:=GS) (x1:=x1) (x2:=x2) (x7:=x7) (x8:=x8) (x9:=x9) (nest:=nest) hm hm2 hl hz c1 c2 (fun f gs' e z7 ho hf=>c3 ⟨f,gs',e,z7,ho,hf⟩) h.ops
    exact⟨_,gs',b',_,_,_,by rw [q,h2],h1⟩
theorem zu5(hS:∀(f:Fm) (fs:List Fm) (ts:List Tk),isO f->ts.length<=900->GS [.lst true (aK ts),.lst true (eN (f::fs))]=some (.non,[.lst true (aK (ts++kN f)),.lst true (eN fs)]))
  (hL:∀m,0<=m->∃l,GL [.int m]=some (gM l)/\nG l) (hn:nest<=100):∀(l:List Int) (ts:List Tk) (gs:List Fm) (b:Fm) (k:Nat) (x6 x7 x8 x9:Option D),(∀j∈l,∀s:Int,s=31\/s=32->∃m,GM [S,.int j,.int s]=some (.int m)/\0<=m)->TokInv nest ts gs b k->3*(k+l.length)<=300->
  ∃ts' gs' b' y6 y7 y8 y9,eM 6 (hZ GM GS GL) (l.map .int) [some S,x1,x2,some (.int nest),some (.lst true (aK ts)),some (.lst true (eN gs)),x6,x7,x8,x9]=some (.nx,[some S,x1,x2,some (.int nest),some (.lst true (aK ts')),some (.lst true (eN gs')),y6,y7,y8,y9])/\TokInv nest ts' gs' b' (k+l.length)
 |[],ts,gs,b,k,x6,x7,x8,x9,_,h,_=>⟨ts,gs,b,x6,x7,x8,x9,by simp! [eM],h⟩
 |j::l,ts,gs,b,k,x6,x7,x8,x9,hM,h,hk=>by
  rw [List.length_cons] at hk
  obtain⟨ts1,gs1,b1,y7,y8,y9,q,h1⟩:=yu1 (x1:=x1) (x2:=x2) (x7:=x7) (x8:=x8) (x9:=x9) hS hL (hM j List.mem_cons_self) h (by omega) hn
  obtain⟨ts2,gs2,b2,z6,z7,z8,z9,q2,h2⟩:=zu5 hS hL hn l ts1 gs1 b1 (k+1) (some (.int j)) y7 y8 y9 (fun i hi=>hM i (List.mem_cons_of_mem _ hi)) h1 (by omega)
  refine ⟨ts2, gs2, b2, z6, z7, z8, z9, ?_, by rw [List.length_cons];have e:k+(l.length+1)=k+1+l.length:=by omega
                                               rw [e];exact h2⟩
  rw [<-q2]
  show(hZ GM GS GL [some S,x1,x2,some (.int nest),some (.lst true (aK ts)),some (.lst true (eN gs)),some (.int j),x7,x8,x9]).bind _=_
  rw [q];rfl
abbrev zd2(GM GL:tz6):tz6:=gP 4 6 (nH GM uP GL)
def zq4(n:Nat)(GM:tz6)(GS:tz7)(GL:tz6):tz1:=aI (aM 4 (aF (aX aC))) (aI (aM 5 (aF (aX aC))) (aI (dG 6 (fH (aA (aB 1) (aA (f2 aO (aB 1) (aB 2)) aC))) (hZ GM GS GL)) (aI (vO GS n) (cN 4))))
theorem ym7{a many n:Nat}(hS:∀(f:Fm) (fs:List Fm) (ts:List Tk),isO f->ts.length<=900->GS [.lst true (aK ts),.lst true (eN (f::fs))]=some (.non,[.lst true (aK (ts++kN f)),.lst true (eN fs)]))(hL:∀m,0<=m->∃l,GL [.int m]=some (gM l)/\nG l)(hM:∀j s:Int,(a:Int)<=j/\j<a+many->s=31\/s=32->∃m,GM [S,.int j,.int s]=some (.int m)/\0<=m)(hn:nest<=100)(hmany:many<=90)(ha:a<=1000)(hnn:nest<n):
  ∃ts r fl,gP 4 6 (zq4 n GM GS GL) [S,.int a,.int many,.int nest]=some (.lst true (aK ts))/\run [fU] ts=some [⟨none,fl,r⟩]/\(∀t∈ts,mP t)/\ts.length<=300/\eP r<=nest:=by
 have i0:TokInv nest [] [] fU 0:=⟨rfl,rfl,fun f hf=>absurd hf (by simp! [eq_self]),Nat.zero_le _,fun t ht=>absurd ht (by simp! [eq_self]),by simp! [eq_self],⟨Nat.zero_le _,Nat.zero_le _,trivial⟩⟩
 obtain⟨ts1,gs1,b1,y6,y7,y8,y9,q,h1⟩:=zu5 (GM:=GM) (GS:=GS) (GL:=GL) (S:=S) (x1:=some (.int a)) (x2:=some (.int many)) hS hL hn ((List.range many).map fun(k:Nat)=>(a:Int)+(k:Int)) [] [] fU 0 none none none none
  (fun j hj s hs=>by obtain⟨k,hk,rfl⟩:=List.mem_map.mp hj;have:=List.mem_range.mp hk;exact hM _ s (by omega) hs) i0 (by simp;omega)
 rw [<-xa1] at q
 rw [List.length_map,List.length_range] at h1
 have hc:=h1.cnt
 have hln:=h1.len
 obtain⟨ts2,b2,k2,w,h2,h3⟩:=zo9 (GS:=GS) hS (x0:=some S) (x1:=some (.int a)) (x2:=some (.int many)) (x3:=some (.int nest)) (x6:=y6) (x7:=y7) (x8:=y8) (x9:=y9) n gs1 b1 ts1 _ (by omega) h1 (by omega) (by omega)
 obtain⟨op,fl,r⟩:=b2
 have ho:=h2.bop
 cases ho
 refine⟨ts2,r,fl,?_,h2.run,h2.tk,h3,by have:=h2.deep.1;simpa using this⟩
 have q0:eM 6 (hZ GM GS GL) (hX (a:Int) many) [some S,some (.int a),some (.int many),some (.int nest),some (.lst true []),some (.lst true []),none,none,none,none]=some (.nx,[some S,some (.int a),some (.int many),some (.int nest),some (.lst true (aK ts1)),some (.lst true (eN gs1)),y6,y7,y8,y9]):=q
 have e:((a:Int)+(many:Int)-(a:Int)).toNat=many:=by omega
 have hr:∀x4 x5:Option D,fH (aA (aB 1) (aA (f2 aO (aB 1) (aB 2)) aC)) [some S,some (.int a),some (.int many),some (.int nest),x4,x5,none,none,none,none]=some (hX (a:Int) many):=fun x4 x5=>by
  have e1:aA (aB 1) (aA (f2 aO (aB 1) (aB 2)) aC) [some S,some (.int a),some (.int many),some (.int nest),x4,x5,none,none,none,none]=some [.int a,.int ((a:Int)+(many:Int))]:=by simp! [eq_self]
  unfold fH
  rw [e1,Option.bind_some,yt7 (by omega) (by omega) (by omega) (by omega),e]
 have h1:dG 6 (fH (aA (aB 1) (aA (f2 aO (aB 1) (aB 2)) aC))) (hZ GM GS GL) [some S,some (.int a),some (.int many),some (.int nest),some (.lst true []),some (.lst true []),none,none,none,none]=some (.nx,[some S,some (.int a),some (.int many),some (.int nest),some (.lst true (aK ts1)),some (.lst true (eN gs1)),y6,y7,y8,y9]):=by
  unfold dG
  rw [hr,Option.bind_some];exact q0
 have seq:∀(f g:tz1) (p p':PSt),f p=some (.nx,p')->aI f g p=g p':=fun f g p p' h=>by unfold aI;rw [h];rfl
 have s1:zq4 n GM GS GL [some S,some (.int a),some (.int many),some (.int nest),none,none,none,none,none,none]=some (.ret (.lst true (aK ts2)),[some S,some (.int a),some (.int many),some (.int nest),none,some (.lst true []),y6,y7,y8,y9]):=by
  unfold zq4
  rw [seq _ _ _ [some S,some (.int a),some (.int many),some (.int nest),some (.lst true []),none,none,none,none,none] rfl]
  rw [seq _ _ _ [some S,some (.int a),some (.int many),some (.int nest),some (.lst true []),some (.lst true []),none,none,none,none] rfl]
  rw [seq _ _ _ _ h1,seq _ _ _ _ w]
  rfl
 unfold gP
 refine(if_pos rfl).trans ?_
 show(zq4 n GM GS GL [some S,some (.int a),some (.int many),some (.int nest),none,none,none,none,none,none]).bind _=_
 rw [s1];rfl
end
theorem yg8{GM GL:tz6}{S:D}{nest a many:Nat}(hL:∀m,0<=m->∃l,GL [.int m]=some (gM l)/\nG l)(hM:∀j s:Int,(a:Int)<=j/\j<a+many->s=31\/s=32->∃m,GM [S,.int j,.int s]=some (.int m)/\0<=m)(hn:nest<=100)(hmany:many<=90)(ha:a<=1000):
  ∃ts r fl,zd2 GM GL [S,.int a,.int many,.int nest]=some (.lst true (aK ts))/\run [fU] ts=some [⟨none,fl,r⟩]/\(∀t∈ts,mP t)/\ts.length<=300/\eP r<=nest:=by
 obtain⟨ts,r,fl,h1,h2⟩:=ym7 (n:=400) (GS:=uP) (fun f fs ts=>yt9) hL hM hn hmany ha (Nat.lt_of_le_of_lt hn (by decide))
 refine⟨ts,r,fl,?_,h2⟩
 have e:nH GM uP GL=zq4 400 GM uP GL:=zc7 GM uP GL
 show gP 4 6 (nH GM uP GL) _=_
 rw [e];exact h1
theorem wY{GM GL:tz6}{S:D}(hL:∀m,0<=m->∃l,GL [.int m]=some (gM l)/\nG l){s:Int}:∀(l:List Int),(∀j∈l,∃m,GM [S,.int j,.int s]=some (.int m)/\0<=m)->
  ∃ls:List Leaf,oO [none,some S] yC (aE GL (aA (aE GM (aA (aB 1) (aA (aB 0) (aA (fC (.int s)) aC)))) aC)) (l.map .int)=some (ls.map gM)/\ls.length=l.length/\∀x∈ls,nG x
 |[],_=>⟨[],rfl,rfl,fun x hx=>absurd hx (by simp [aI,aJ,aM,cU,aF,fIf,aG,fB,f2,aB,fC,bC,aZ,cN,bQ,aR,aA,aC,aX,bF,fKs,aE,dEq,dNe,eqB,dB,dIx,bD,cO,D.imm,D.imms,cM,bK,aO,dM,fT,bG,aH,bR,bS,bU,D.flat,D.flats,cH,bB,bM,aP,cE,cG,dLt,dLe,dGt,dGe,dH,dL,dE,cQ,cP,D.key,cX])⟩
 |j::l,h=>by
  obtain⟨m,hm,hm0⟩:=h j List.mem_cons_self
  obtain⟨x,hx,hxk⟩:=hL m hm0
  obtain⟨ls,q,hl,hk⟩:=wY hL l fun i hi=>h i (List.mem_cons_of_mem _ hi)
  refine⟨x::ls,?_,by simp [aI,aJ,aM,cU,aF,fIf,aG,fB,f2,aB,fC,bC,aZ,cN,bQ,aR,aA,aC,aX,bF,fKs,aE,dEq,dNe,eqB,dB,dIx,bD,cO,D.imm,D.imms,cM,bK,aO,dM,fT,bG,aH,bR,bS,bU,D.flat,D.flats,cH,bB,bM,aP,cE,cG,dLt,dLe,dGt,dGe,dH,dL,dE,cQ,cP,D.key,cX,hl],fun y hy=>(List.mem_cons.mp hy).elim (fun e=>e▸hxk) (hk y)⟩
  show oO [none,some S] yC _ (D.int j::l.map .int)=_
  rw [oO]
  simp [aI,aJ,aM,cU,aF,fIf,aG,fB,f2,aB,fC,bC,aZ,cN,bQ,aR,aA,aC,aX,bF,fKs,aE,dEq,dNe,eqB,dB,dIx,bD,cO,D.imm,D.imms,cM,bK,aO,dM,fT,bG,aH,bR,bS,bU,D.flat,D.flats,cH,bB,bM,aP,cE,cG,dLt,dLe,dGt,dGe,dH,dL,dE,cQ,cP,D.key,cX,yC,hm,hx,q]
theorem zJ:∀(ls:List Leaf) (r:List Pc),run [⟨none,[],r⟩] (ls.map .leaf)=some [⟨none,[],r++ls.map .leaf⟩]
 |[],r=>by simp [aI,aJ,aM,cU,aF,fIf,aG,fB,f2,aB,fC,bC,aZ,cN,bQ,aR,aA,aC,aX,bF,fKs,aE,dEq,dNe,eqB,dB,dIx,bD,cO,D.imm,D.imms,cM,bK,aO,dM,fT,bG,aH,bR,bS,bU,D.flat,D.flats,cH,bB,bM,aP,cE,cG,dLt,dLe,dGt,dGe,dH,dL,dE,cQ,cP,D.key,cX,run]
 |l::ls,r=>by
  show(step [⟨none,[],r⟩] (.leaf l)).bind (fun g=>run g (ls.map .leaf))=_
  show run [⟨none,[],r++[.leaf l]⟩] (ls.map .leaf)=_
  rw [zJ ls];simp [aI,aJ,aM,cU,aF,fIf,aG,fB,f2,aB,fC,bC,aZ,cN,bQ,aR,aA,aC,aX,bF,fKs,aE,dEq,dNe,eqB,dB,dIx,bD,cO,D.imm,D.imms,cM,bK,aO,dM,fT,bG,aH,bR,bS,bU,D.flat,D.flats,cH,bB,bM,aP,cE,cG,dLt,dLe,dGt,dGe,dH,dL,dE,cQ,cP,D.key,cX]
theorem zK:∀ls:List Leaf,eP (ls.map .leaf)=0
 |[]=>rfl
 |l::ls=>by show max 0 (eP (ls.map .leaf))=0;rw [zK ls];rfl
theorem yg9(k:Nat)(t:Tk)(us:List Tk):aK (List.replicate k t++us)=(List.replicate k [tkD t]).flatten++aK us:=by
 rw [iC]
 congr 1
 induction k with
 |zero=>rfl
 |succ k ih=>rw [List.replicate_succ,List.replicate_succ,List.flatten_cons,<-ih];rfl
theorem yh0(k:Nat)(us:List Tk):aK (List.replicate k us).flatten=(List.replicate k (aK us)).flatten:=by
 induction k with
 |zero=>rfl
 |succ k ih=>rw [List.replicate_succ,List.replicate_succ,List.flatten_cons,List.flatten_cons,iC,ih]
theorem ym8{GT:tz6}{S:D}{a w:Option D}{k:Int}{dp:Nat}{t:Tk}{ts:List Tk}(hdp:dp<=12)(hsl:(fY t).length<=3)(h3:ts.length<=300)(q:GT [S,.int 0,.int k,.int 0]=some (.lst true (aK ts))):
  f2 aO (f2 aO (f2 fD (aX (aA (bC (aB 5)) aC)) (aB 3)) (aE GT (aA (aB 0) (aA (fC (.int 0)) (aA (aB 2) (aA (fC (.int 0)) aC)))))) (f2 fD (aB 6) (aB 3)) [some S,a,some (.int k),some (.int (dp:Int)),w,some (tkD t),some (.lst true (aK (fY t)))]
   =some (.lst true (aK (List.replicate dp t++ts++(List.replicate dp (fY t)).flatten))):=by
 have lf:(List.replicate dp (fY t)).flatten.length<=36:=by rw [za5];exact Nat.le_trans (Nat.mul_le_mul hdp hsl) (by decide)
 have e0:(List.replicate dp [tkD t]).flatten=aK (List.replicate dp t):=by
  have:=yg9 dp t []
  rw [List.append_nil,show aK ([]:List Tk)=[] from rfl,List.append_nil] at this
  exact this.symm
 have a1:f2 fD (aX (aA (bC (aB 5)) aC)) (aB 3) [some S,a,some (.int k),some (.int (dp:Int)),w,some (tkD t),some (.lst true (aK (fY t)))]=some (.lst true (aK (List.replicate dp t))):=by
  rw [<-e0]
  exact fR (x:= .lst true [tkD t]) (y:= .int (dp:Int)) (by simp [aI,aJ,aM,cU,aF,fIf,aG,fB,f2,aB,fC,bC,aZ,cN,bQ,aR,aA,aC,aX,bF,fKs,aE,dEq,dNe,eqB,dB,dIx,bD,cO,D.imm,D.imms,cM,bK,aO,dM,fT,bG,aH,bR,bS,bU,D.flat,D.flats,cH,bB,bM,aP,cE,cG,dLt,dLe,dGt,dGe,dH,dL,dE,cQ,cP,D.key,cX,pP]) rfl (zo5 (by simp [aI,aJ,aM,cU,aF,fIf,aG,fB,f2,aB,fC,bC,aZ,cN,bQ,aR,aA,aC,aX,bF,fKs,aE,dEq,dNe,eqB,dB,dIx,bD,cO,D.imm,D.imms,cM,bK,aO,dM,fT,bG,aH,bR,bS,bU,D.flat,D.flats,cH,bB,bM,aP,cE,cG,dLt,dLe,dGt,dGe,dH,dL,dE,cQ,cP,D.key,cX,pP]) (by omega) (by simp;omega))
 have a2:f2 fD (aB 6) (aB 3) [some S,a,some (.int k),some (.int (dp:Int)),w,some (tkD t),some (.lst true (aK (fY t)))]=some (.lst true (aK (List.replicate dp (fY t)).flatten)):=by
  rw [yh0]
  exact fR (x:= .lst true (aK (fY t))) (y:= .int (dp:Int)) rfl rfl (zo5 (jW _) (by omega) (by rw [eQ];exact Nat.le_trans (Nat.mul_le_mul hsl hdp) (by decide)))
 have a3:=fR (g:=aO) (d:= .lst true (aK (List.replicate dp t++ts))) a1 (eL (h:=GT) (g:=aA (aB 0) (aA (fC (.int 0)) (aA (aB 2) (aA (fC (.int 0)) aC)))) (ds:=[S,.int 0,.int k,.int 0]) rfl q) (by
  rw [zo6 (jW _) (jW _) (by rw [eQ,eQ,List.length_replicate];omega),iC])
 exact fR a3 a2 (by rw [zo6 (jW _) (jW _) (by rw [eQ,eQ,List.length_append,List.length_replicate];omega),<-iC])
abbrev yp9(GT:tz6):tz1:=
 (aI (aM 3 (aF (f2 aO (fC (.int 9)) (f2 fO (f2 iX (aB 1) (fC (.int 8))) (fC (.int 4))))))
 (aI (aM 4 (aF (f2 dIx (aX (fKs [.str "open",.str "hang",.str "either"])) (f2 fO (f2 iX (aB 1) (fC (.int 32))) (fC (.int 3))))))
 (aI (aM 5 (aF (f2 dIx (aX (aA (bF (aA (bC (aB 4)) aC)) (aA (bF (aA (fC (.str "hang")) (aA (fC (.int 3)) aC))) aC))) (aE cH (aA (f2 dEq (aB 4) (fC (.str "hang"))) aC)))))
 (aI (aM 6 (aF (f2 cP (dE [("open",(aX (aA (bF (aA (fC (.str "close")) aC)) aC))),("hang",(aX (aA (bF (aA (fC (.str "back")) aC)) aC))),("either",(aX (aA (bF (aA (fC (.str "or")) aC)) (aA (bF (aA (fC (.str "end")) aC)) (aA (bF (aA (fC (.str "done")) aC)) aC)))))]) (aB 4))))
 (aZ (aF (f2 aO (f2 aO (f2 fD (aX (aA (bC (aB 5)) aC)) (aB 3)) (aE GT (aA (aB 0) (aA (fC (.int 0)) (aA (aB 2) (aA (fC (.int 0)) aC)))))) (f2 fD (aB 6) (aB 3)))))))))
theorem zc8{GT:tz6}{S:D}{m k:Int}{t:Tk}{w:String}(h3':f2 dIx (aX (fKs [.str "open",.str "hang",.str "either"])) (f2 fO (f2 iX (aB 1) (fC (.int 32))) (fC (.int 3))) [some S,some (.int m),some (.int k),some (.int (9+m/8 % 4)),none,none,none]=some (.str w))
  (h5:f2 dIx (aX (aA (bF (aA (bC (aB 4)) aC)) (aA (bF (aA (fC (.str "hang")) (aA (fC (.int 3)) aC))) aC))) (aE cH (aA (f2 dEq (aB 4) (fC (.str "hang"))) aC)) [some S,some (.int m),some (.int k),some (.int (9+m/8 % 4)),some (.str w),none,none]=some (tkD t))
  (h6:f2 cP (dE [("open",(aX (aA (bF (aA (fC (.str "close")) aC)) aC))),("hang",(aX (aA (bF (aA (fC (.str "back")) aC)) aC))),("either",(aX (aA (bF (aA (fC (.str "or")) aC)) (aA (bF (aA (fC (.str "end")) aC)) (aA (bF (aA (fC (.str "done")) aC)) aC)))))]) (aB 4) [some S,some (.int m),some (.int k),some (.int (9+m/8 % 4)),some (.str w),some (tkD t),none]=some (.lst true (aK (fY t)))):
  yp9 GT [some S,some (.int m),some (.int k),none,none,none,none]=aZ (aF (f2 aO (f2 aO (f2 fD (aX (aA (bC (aB 5)) aC)) (aB 3)) (aE GT (aA (aB 0) (aA (fC (.int 0)) (aA (aB 2) (aA (fC (.int 0)) aC)))))) (f2 fD (aB 6) (aB 3)))) [some S,some (.int m),some (.int k),some (.int (9+m/8 % 4)),some (.str w),some (tkD t),some (.lst true (aK (fY t)))]:=by
 have s3:aM 3 (aF (f2 aO (fC (.int 9)) (f2 fO (f2 iX (aB 1) (fC (.int 8))) (fC (.int 4))))) [some S,some (.int m),some (.int k),none,none,none,none]=some (.nx,[some S,some (.int m),some (.int k),some (.int (9+m/8 % 4)),none,none,none]):=gF (by simp [aI,aJ,aM,cU,aF,fIf,aG,fB,f2,aB,fC,bC,aZ,cN,bQ,aR,aA,aC,aX,bF,fKs,aE,dEq,dNe,eqB,dB,dIx,bD,cO,D.imm,D.imms,cM,bK,aO,dM,fT,bG,aH,bR,bS,bU,D.flat,D.flats,cH,bB,bM,aP,cE,cG,dLt,dLe,dGt,dGe,dH,dL,dE,cQ,cP,D.key,cX])
 exact(cF s3).trans ((cF (gF h3')).trans ((cF (gF h5)).trans (cF (gF h6))))
abbrev ya5(GM GL GT:tz6):tz6:=gP 1 6 (rJ GM GL GT)
section
variable{GM GL GT:tz6}{xs:List D}
theorem yu2(hx:xs.length<=63)(hL:∀m,0<=m->∃l,GL [.int m]=some (gM l)/\nG l)(hM:∀k s:Int,0<=k->k<1000->0<=s->s<1000->∃m,GM [.con xs,.int k,.int s]=some (.int m)/\0<=m)
  (hT:∀many nest:Nat,many<=40->nest<=4->∃ts r fl,GT [.con xs,.int 0,.int many,.int nest]=some (.lst true (aK ts))/\run [fU] ts=some [⟨none,fl,r⟩]/\(∀t∈ts,mP t)/\ts.length<=300/\eP r<=nest):
  ∃ts r fl,ya5 GM GL GT [.con xs]=some (.lst true (aK ts))/\run [fU] ts=some [⟨none,fl,r⟩]/\(∀t∈ts,mP t)/\ts.length<=400/\eP r<=16:=by
 obtain⟨m,hm,hm0⟩:=hM 0 40 (by decide) (by decide) (by decide) (by decide)
 obtain⟨k,hk,hk40⟩:=xd7 xs.length hx
 have s1:aM 1 (aF (aE GM (aA (aB 0) (aA (fC (.int 0)) (aA (fC (.int 40)) aC))))) [some (.con xs),none,none,none,none,none,none]=some (.nx,[some (.con xs),some (.int m),none,none,none,none,none]):=gF (eL rfl hm)
 have s2:aM 2 (aF (aE dH (aA (f2 aO (aE bD (aA (aB 0) aC)) (fC (.int 2))) (aA (fC (.int 40)) aC)))) [some (.con xs),some (.int m),none,none,none,none,none]=some (.nx,[some (.con xs),some (.int m),some (.int k),none,none,none,none]):=by
  rw [<-hk];exact gF (eL rfl rfl)
 have head:∀bY,rJ GM GL GT=aI (aM 1 (aF (aE GM (aA (aB 0) (aA (fC (.int 0)) (aA (fC (.int 40)) aC)))))) (aI (aM 2 (aF (aE dH (aA (f2 aO (aE bD (aA (aB 0) aC)) (fC (.int 2))) (aA (fC (.int 40)) aC))))) bY)->rJ GM GL GT [some (.con xs),none,none,none,none,none,none]=bY [some (.con xs),some (.int m),some (.int k),none,none,none,none]:=fun bY e=>by
  rw [e,cF s1,cF s2]
 have go:=head _ rfl
 by_cases c1:m % 8=1
 ·
  have n0:=Int.emod_nonneg (m/8) (show(5:Int)≠0 by decide)
  have n1:=Int.emod_lt_of_pos (m/8) (show(0:Int)<5 by decide)
  obtain⟨ls,q,hl,hlk⟩:=wY (S:= .con xs) hL (s:=41) ((List.range (196+m/8 % 5).toNat).map fun(k:Nat)=>(k:Int)) fun j hj=>by
   obtain⟨i,hi,rfl⟩:=List.mem_map.mp hj
   have:=List.mem_range.mp hi
   exact hM _ 41 (by omega) (by omega) (by decide) (by decide)
  rw [<-zI] at q
  rw [List.length_map,List.length_range] at hl
  have el:aK (ls.map Tk.leaf)=ls.map gM:=by unfold aK;rw [List.map_map];rfl
  refine⟨ls.map .leaf,ls.map .leaf,[],el▸jL rfl (p:=_) (go.trans (gY (wF (p':=[some (.con xs),some (.int m),some (.int k),none,none,none,none]) (by simp [aI,aJ,aM,cU,aF,fIf,aG,fB,f2,aB,fC,bC,aZ,cN,bQ,aR,aA,aC,aX,bF,fKs,aE,dEq,dNe,eqB,dB,dIx,bD,cO,D.imm,D.imms,cM,bK,aO,dM,fT,bG,aH,bR,bS,bU,D.flat,D.flats,cH,bB,bM,aP,cE,cG,dLt,dLe,dGt,dGe,dH,dL,dE,cQ,cP,D.key,cX,c1])|>.trans (fW (d:= .lst true (ls.map gM)) ?_)))),?_,?_,?_,?_⟩
  ·have er:eG (aA (f2 aO (fC (.int 196)) (f2 fO (f2 iX (aB 1) (fC (.int 8))) (fC (.int 5)))) aC) [some (.con xs),some (.int m),some (.int k),none,none,none,none]=some (hX 0 (196+m/8 % 5).toNat):=by
    have e1:aA (f2 aO (fC (.int 196)) (f2 fO (f2 iX (aB 1) (fC (.int 8))) (fC (.int 5)))) aC [some (.con xs),some (.int m),some (.int k),none,none,none,none]=some [.int (196+m/8 % 5)]:=by simp [aI,aJ,aM,cU,aF,fIf,aG,fB,f2,aB,fC,bC,aZ,cN,bQ,aR,aA,aC,aX,bF,fKs,aE,dEq,dNe,eqB,dB,dIx,bD,cO,D.imm,D.imms,cM,bK,aO,dM,fT,bG,aH,bR,bS,bU,D.flat,D.flats,cH,bB,bM,aP,cE,cG,dLt,dLe,dGt,dGe,dH,dL,dE,cQ,cP,D.key,cX]
    unfold eG
    rw [e1,Option.bind_some,wE (by omega) (by omega)]
   unfold zi9
   rw [er,Option.bind_some,if_pos (by unfold hX;rw [List.length_map,List.length_range];exact sz (by omega))]
   show(oO [none,some (.con xs)] yC _ _).bind _=_
   rw [q];rfl
  ·exact zJ ls []
  ·intro t ht
   obtain⟨l,hl,rfl⟩:=List.mem_map.mp ht
   exact hlk l hl
  ·rw [List.length_map,hl];omega
  ·rw [zK];exact Nat.zero_le _
 ·have go2:=go.trans (cF (pJ (p':=[some (.con xs),some (.int m),some (.int k),none,none,none,none]) (by simp [aI,aJ,aM,cU,aF,fIf,aG,fB,f2,aB,fC,bC,aZ,cN,bQ,aR,aA,aC,aX,bF,fKs,aE,dEq,dNe,eqB,dB,dIx,bD,cO,D.imm,D.imms,cM,bK,aO,dM,fT,bG,aH,bR,bS,bU,D.flat,D.flats,cH,bB,bM,aP,cE,cG,dLt,dLe,dGt,dGe,dH,dL,dE,cQ,cP,D.key,cX,c1])|>.trans rfl))
  by_cases c3:m % 8=3
  ·
   have n0:=Int.emod_nonneg (m/8) (show(4:Int)≠0 by decide)
   have n1:=Int.emod_lt_of_pos (m/8) (show(0:Int)<4 by decide)
   obtain⟨ts,r,fl,q,h1,h2,h3,h4⟩:=hT k 0 hk40 (by decide)
   have w0:=Int.emod_nonneg (m/32) (show(3:Int)≠0 by decide)
   have w1:=Int.emod_lt_of_pos (m/32) (show(0:Int)<3 by decide)
   have hw:m/32 % 3=0\/m/32 % 3=1\/m/32 % 3=2:=by omega
   have c3t:aG (fB (f2 dEq (f2 fO (aB 1) (fC (.int 8))) (fC (.int 3)))) [some (.con xs),some (.int m),some (.int k),none,none,none,none]=some (true,[some (.con xs),some (.int m),some (.int k),none,none,none,none]):=by simp [aI,aJ,aM,cU,aF,fIf,aG,fB,f2,aB,fC,bC,aZ,cN,bQ,aR,aA,aC,aX,bF,fKs,aE,dEq,dNe,eqB,dB,dIx,bD,cO,D.imm,D.imms,cM,bK,aO,dM,fT,bG,aH,bR,bS,bU,D.flat,D.flats,cH,bB,bM,aP,cE,cG,dLt,dLe,dGt,dGe,dH,dL,dE,cQ,cP,D.key,cX,c3]
   have dpN:∃n:Nat,9+m/8 % 4=((n+1:Nat):Int)/\n+1<=12:=⟨(8+m/8 % 4).toNat,by omega,by omega⟩
   have key:∀(t:Tk),(t= .opn\/(∃n,t= .hng n)\/t= .eit)->mP t->(fY t).length<=3->(∀x∈fY t,mP x)->(∃w,yp9 GT [some (.con xs),some (.int m),some (.int k),none,none,none,none]=aZ (aF (f2 aO (f2 aO (f2 fD (aX (aA (bC (aB 5)) aC)) (aB 3)) (aE GT (aA (aB 0) (aA (fC (.int 0)) (aA (aB 2) (aA (fC (.int 0)) aC)))))) (f2 fD (aB 6) (aB 3)))) [some (.con xs),some (.int m),some (.int k),some (.int (9+m/8 % 4)),w,some (tkD t),some (.lst true (aK (fY t)))])->
     ∃ts r fl,ya5 GM GL GT [.con xs]=some (.lst true (aK ts))/\run [fU] ts=some [⟨none,fl,r⟩]/\(∀t∈ts,mP t)/\ts.length<=400/\eP r<=16:=by
    intro t ht htk hsl hsk ⟨w,hgo⟩
    obtain⟨dp,hdp,hdp12⟩:=dpN
    obtain⟨r',g1,g2⟩:=ym2 t ht h1 dp
    have lf:(List.replicate (dp+1) (fY t)).flatten.length<=36:=by rw [za5];exact Nat.le_trans (Nat.mul_le_mul hdp12 hsl) (by decide)
    rw [hdp] at hgo
    have g:=hgo.trans (fW (ym8 (a:=some (.int m)) (w:=w) hdp12 hsl h3 q))
    refine⟨List.replicate (dp+1) t++ts++(List.replicate (dp+1) (fY t)).flatten,r',[],jL rfl (go2.trans (gY ((wF c3t).trans g))),g1,fun x hx=> ?_,?_,by omega⟩
    ·rcases List.mem_append.mp hx with z|z
     ·rcases List.mem_append.mp z with z|z
      ·rw [List.eq_of_mem_replicate z];exact htk
      ·exact h2 x z
     ·obtain⟨l,hl,hxl⟩:=List.mem_flatten.mp z
      rw [List.eq_of_mem_replicate hl] at hxl
      exact hsk x hxl
    ·rw [List.length_append,List.length_append,List.length_replicate];omega
   rcases hw with hw|hw|hw
   ·exact key .opn (.inl rfl) trivial (by decide) (by intro x hx;simp [aI,aJ,aM,cU,aF,fIf,aG,fB,f2,aB,fC,bC,aZ,cN,bQ,aR,aA,aC,aX,bF,fKs,aE,dEq,dNe,eqB,dB,dIx,bD,cO,D.imm,D.imms,cM,bK,aO,dM,fT,bG,aH,bR,bS,bU,D.flat,D.flats,cH,bB,bM,aP,cE,cG,dLt,dLe,dGt,dGe,dH,dL,dE,cQ,cP,D.key,cX,fY] at hx;subst hx;trivial) ⟨_,zc8 (w:="open") (by simp [aI,aJ,aM,cU,aF,fIf,aG,fB,f2,aB,fC,bC,aZ,cN,bQ,aR,aA,aC,aX,bF,fKs,aE,dEq,dNe,eqB,dB,dIx,bD,cO,D.imm,D.imms,cM,bK,aO,dM,fT,bG,aH,bR,bS,bU,D.flat,D.flats,cH,bB,bM,aP,cE,cG,dLt,dLe,dGt,dGe,dH,dL,dE,cQ,cP,D.key,cX,hw]) (by simp [aI,aJ,aM,cU,aF,fIf,aG,fB,f2,aB,fC,bC,aZ,cN,bQ,aR,aA,aC,aX,bF,fKs,aE,dEq,dNe,eqB,dB,dIx,bD,cO,D.imm,D.imms,cM,bK,aO,dM,fT,bG,aH,bR,bS,bU,D.flat,D.flats,cH,bB,bM,aP,cE,cG,dLt,dLe,dGt,dGe,dH,dL,dE,cQ,cP,D.key,cX,tkD]) (by simp [aI,aJ,aM,cU,aF,fIf,aG,fB,f2,aB,fC,bC,aZ,cN,bQ,aR,aA,aC,aX,bF,fKs,aE,dEq,dNe,eqB,dB,dIx,bD,cO,D.imm,D.imms,cM,bK,aO,dM,fT,bG,aH,bR,bS,bU,D.flat,D.flats,cH,bB,bM,aP,cE,cG,dLt,dLe,dGt,dGe,dH,dL,dE,cQ,cP,D.key,cX,fY,aK,tkD])⟩
   ·exact key (.hng 3) (.inr (.inl ⟨3,rfl⟩)) ⟨by decide,by decide⟩ (by decide) (by intro x hx;simp [aI,aJ,aM,cU,aF,fIf,aG,fB,f2,aB,fC,bC,aZ,cN,bQ,aR,aA,aC,aX,bF,fKs,aE,dEq,dNe,eqB,dB,dIx,bD,cO,D.imm,D.imms,cM,bK,aO,dM,fT,bG,aH,bR,bS,bU,D.flat,D.flats,cH,bB,bM,aP,cE,cG,dLt,dLe,dGt,dGe,dH,dL,dE,cQ,cP,D.key,cX,fY] at hx;subst hx;trivial) ⟨_,zc8 (w:="hang") (by simp [aI,aJ,aM,cU,aF,fIf,aG,fB,f2,aB,fC,bC,aZ,cN,bQ,aR,aA,aC,aX,bF,fKs,aE,dEq,dNe,eqB,dB,dIx,bD,cO,D.imm,D.imms,cM,bK,aO,dM,fT,bG,aH,bR,bS,bU,D.flat,D.flats,cH,bB,bM,aP,cE,cG,dLt,dLe,dGt,dGe,dH,dL,dE,cQ,cP,D.key,cX,hw]) (by simp [aI,aJ,aM,cU,aF,fIf,aG,fB,f2,aB,fC,bC,aZ,cN,bQ,aR,aA,aC,aX,bF,fKs,aE,dEq,dNe,eqB,dB,dIx,bD,cO,D.imm,D.imms,cM,bK,aO,dM,fT,bG,aH,bR,bS,bU,D.flat,D.flats,cH,bB,bM,aP,cE,cG,dLt,dLe,dGt,dGe,dH,dL,dE,cQ,cP,D.key,cX,tkD]) (by simp [aI,aJ,aM,cU,aF,fIf,aG,fB,f2,aB,fC,bC,aZ,cN,bQ,aR,aA,aC,aX,bF,fKs,aE,dEq,dNe,eqB,dB,dIx,bD,cO,D.imm,D.imms,cM,bK,aO,dM,fT,bG,aH,bR,bS,bU,D.flat,D.flats,cH,bB,bM,aP,cE,cG,dLt,dLe,dGt,dGe,dH,dL,dE,cQ,cP,D.key,cX,fY,aK,tkD])⟩
   ·exact key .eit (.inr (.inr rfl)) trivial (by decide) (by intro x hx;simp [aI,aJ,aM,cU,aF,fIf,aG,fB,f2,aB,fC,bC,aZ,cN,bQ,aR,aA,aC,aX,bF,fKs,aE,dEq,dNe,eqB,dB,dIx,bD,cO,D.imm,D.imms,cM,bK,aO,dM,fT,bG,aH,bR,bS,bU,D.flat,D.flats,cH,bB,bM,aP,cE,cG,dLt,dLe,dGt,dGe,dH,dL,dE,cQ,cP,D.key,cX,fY] at hx;rcases hx with rfl|rfl|rfl<;>trivial) ⟨_,zc8 (w:="either") (by simp [aI,aJ,aM,cU,aF,fIf,aG,fB,f2,aB,fC,bC,aZ,cN,bQ,aR,aA,aC,aX,bF,fKs,aE,dEq,dNe,eqB,dB,dIx,bD,cO,D.imm,D.imms,cM,bK,aO,dM,fT,bG,aH,bR,bS,bU,D.flat,D.flats,cH,bB,bM,aP,cE,cG,dLt,dLe,dGt,dGe,dH,dL,dE,cQ,cP,D.key,cX,hw]) (by simp [aI,aJ,aM,cU,aF,fIf,aG,fB,f2,aB,fC,bC,aZ,cN,bQ,aR,aA,aC,aX,bF,fKs,aE,dEq,dNe,eqB,dB,dIx,bD,cO,D.imm,D.imms,cM,bK,aO,dM,fT,bG,aH,bR,bS,bU,D.flat,D.flats,cH,bB,bM,aP,cE,cG,dLt,dLe,dGt,dGe,dH,dL,dE,cQ,cP,D.key,cX,tkD]) (by simp [aI,aJ,aM,cU,aF,fIf,aG,fB,f2,aB,fC,bC,aZ,cN,bQ,aR,aA,aC,aX,bF,fKs,aE,dEq,dNe,eqB,dB,dIx,bD,cO,D.imm,D.imms,cM,bK,aO,dM,fT,bG,aH,bR,bS,bU,D.flat,D.flats,cH,bB,bM,aP,cE,cG,dLt,dLe,dGt,dGe,dH,dL,dE,cQ,cP,D.key,cX,fY,aK,tkD,gM])⟩
  ·obtain⟨ts,r,fl,q,h1,h2,h3,h4⟩:=hT k 4 hk40 (Nat.le_refl _)
   refine⟨ts,r,fl,jL rfl (p:=_) (go2.trans ((cF (pJ (p':=[some (.con xs),some (.int m),some (.int k),none,none,none,none]) (by simp [aI,aJ,aM,cU,aF,fIf,aG,fB,f2,aB,fC,bC,aZ,cN,bQ,aR,aA,aC,aX,bF,fKs,aE,dEq,dNe,eqB,dB,dIx,bD,cO,D.imm,D.imms,cM,bK,aO,dM,fT,bG,aH,bR,bS,bU,D.flat,D.flats,cH,bB,bM,aP,cE,cG,dLt,dLe,dGt,dGe,dH,dL,dE,cQ,cP,D.key,cX,c3])|>.trans rfl)).trans (fW (eL rfl ?_)))),h1,h2,by omega,by omega⟩
   exact q
end
def mT(GS GW:tz6):tz1:=
   (fIf (aG (fT (aE gJ (aA (f2 dIx (aB 1) (aB 2)) (aA (fC (.ty "tuple")) aC)))))
   (fIf (aG (aP (fT (aE GS (aA (f2 dIx (aB 0) (aB 2)) (aA (f2 dIx (aB 1) (aB 2)) aC))))))
   (aZ (aF (fC (.bl false))))
   aJ)
   (fIf (aG (fT (aE gJ (aA (f2 dIx (aB 1) (aB 2)) (aA (fC (.ty "str")) aC)))))
   (fIf (aG (bM (aP (fT (aE gJ (aA (f2 dIx (aB 0) (aB 2)) (aA (fC (.ty "str")) aC))))) (fB (f2 dNe (f2 dIx (aB 0) (aB 2)) (f2 dIx (aB 1) (aB 2))))))
   (aZ (aF (fC (.bl false))))
   aJ)
   (fIf (aG (bM (aP (fT (aE GW (aA (f2 dIx (aB 0) (aB 2)) aC)))) (fB (f2 dNe (f2 dIx (aB 0) (aB 2)) (f2 dIx (aB 1) (aB 2))))))
   (aZ (aF (fC (.bl false))))
   aJ)))
theorem uE(i:Int):gP 1 0 lP [.int i]=some (.bl true):=by
 unfold gP lP
 simp [aI,aJ,aM,aF,fIf,aG,fB,f2,aB,fC,aZ,aA,aC,aE,dEq,dNe,eqB,dB,dIx,bD,cO,fT,bG,aH,bB,bM,aP,gJ,dTy,gS,iE,iW]
def qW(GS:tz6)(x:D):Prop:=(∃ys,x= .tup ys/\GS [x,x]=some (.bl true))\/(∃z,x= .str z)\/∃i,x= .int i
theorem yh1{GS GW:tz6}{xs:List D}{x:D}{j:Int}(hj:atI xs j=some x)(hW:∀i,GW [.int i]=some (.bl true))(hx:qW GS x):
  mT GS GW [some (.tup xs),some (.tup xs),some (.int j)]=some (.nx,[some (.tup xs),some (.tup xs),some (.int j)]):=by
 rcases hx with ⟨ys,rfl,h⟩|⟨z,rfl⟩|⟨i,rfl⟩
 ·simp [aI,aJ,aM,aF,fIf,aG,fB,f2,aB,fC,aZ,aA,aC,aE,dEq,dNe,eqB,dB,dIx,bD,cO,fT,bG,aH,bB,bM,aP,gJ,dTy,gS,iE,iW,mT,hj,h]
 ·simp [aI,aJ,aM,aF,fIf,aG,fB,f2,aB,fC,aZ,aA,aC,aE,dEq,dNe,eqB,dB,dIx,bD,cO,fT,bG,aH,bB,bM,aP,gJ,dTy,gS,iE,iW,mT,hj]
 ·simp [aI,aJ,aM,aF,fIf,aG,fB,f2,aB,fC,aZ,aA,aC,aE,dEq,dNe,eqB,dB,dIx,bD,cO,fT,bG,aH,bB,bM,aP,gJ,dTy,gS,iE,iW,mT,hj,hW]
theorem zp0{GS GW:tz6}{xs:List D}(hW:∀i,GW [.int i]=some (.bl true))(hx:∀x∈xs,qW GS x):∀(l:List Int),(∀j∈l,0<=j/\j<xs.length)->∀y,∃y',
  eM 2 (mT GS GW) (l.map .int) [some (.tup xs),some (.tup xs),y]=some (.nx,[some (.tup xs),some (.tup xs),y'])
 |[],_,y=>⟨y,rfl⟩
 |j::l,h,y=>by
  obtain⟨h0,h1⟩:=h j List.mem_cons_self
  obtain⟨x,hm,hv⟩:=sL xs j h0 h1
  obtain⟨y',q⟩:=zp0 hW hx l (fun i hi=>h i (List.mem_cons_of_mem _ hi)) (some (.int j))
  refine⟨y',?_⟩
  show(mT GS GW [some (.tup xs),some (.tup xs),some (.int j)]).bind _=_
  rw [yh1 hv hW (hx x hm)]
  exact q
theorem zc9{GS GW:tz6}{xs:List D}(hW:∀i,GW [.int i]=some (.bl true))(hx:∀x∈xs,qW GS x)(hl:xs.length<=1000):gP 2 1 (rH GS GW) [.tup xs,.tup xs]=some (.bl true):=by
 obtain⟨y',q⟩:=zp0 hW hx ((List.range xs.length).map fun(k:Nat)=>(k:Int)) (fun j hj=>by obtain⟨k,hk,rfl⟩:=List.mem_map.mp hj;have:=List.mem_range.mp hk;omega) none
 rw [<-zI] at q
 have e:rH GS GW=aI (fIf (aG (bM (aP (fT (aE gJ (aA (aB 0) (aA (fC (.ty "tuple")) aC))))) (fB (f2 dNe (aE bD (aA (aB 0) aC)) (aE bD (aA (aB 1) aC)))))) (aZ (aF (fC (.bl false)))) aJ) (aI (dG 2 (eG (aA (aE bD (aA (aB 1) aC)) aC)) (mT GS GW)) (aZ (aF (fC (.bl true))))):=rfl
 have s1:fIf (aG (bM (aP (fT (aE gJ (aA (aB 0) (aA (fC (.ty "tuple")) aC))))) (fB (f2 dNe (aE bD (aA (aB 0) aC)) (aE bD (aA (aB 1) aC)))))) (aZ (aF (fC (.bl false)))) aJ [some (.tup xs),some (.tup xs),none]=some (.nx,[some (.tup xs),some (.tup xs),none]):=by simp [aI,aJ,aM,aF,fIf,aG,fB,f2,aB,fC,aZ,aA,aC,aE,dEq,dNe,eqB,dB,dIx,bD,cO,fT,bG,aH,bB,bM,aP,gJ,dTy,gS,iE,iW]
 have er:eG (aA (aE bD (aA (aB 1) aC)) aC) [some (.tup xs),some (.tup xs),none]=some (hX 0 xs.length):=by
  have e1:aA (aE bD (aA (aB 1) aC)) aC [some (.tup xs),some (.tup xs),none]=some [.int xs.length]:=by simp [aI,aJ,aM,aF,fIf,aG,fB,f2,aB,fC,aZ,aA,aC,aE,dEq,dNe,eqB,dB,dIx,bD,cO,fT,bG,aH,bB,bM,aP,gJ,dTy,gS,iE,iW]
  unfold eG
  rw [e1,Option.bind_some,wE (by omega) (by omega)];rfl
 have s2:dG 2 (eG (aA (aE bD (aA (aB 1) aC)) aC)) (mT GS GW) [some (.tup xs),some (.tup xs),none]=some (.nx,[some (.tup xs),some (.tup xs),y']):=by
  unfold dG;rw [er];exact q
 refine jL rfl (p:=[some (.tup xs),some (.tup xs),y']) ?_
 rw [e]
 exact(cF s1).trans ((cF s2).trans (fW rfl))
def mZ:Nat->tz6
 |0=>fun _=>none
 |n+1=>gP 2 1 (rH (mZ n) (gP 1 0 lP))
theorem yu3(l:Leaf)(n:Nat):qW (mZ (n+1)) (gM l):=by
 have g:∀ys:List D,ys.length<=1000->(∀y∈ys,qW (mZ n) y)->qW (mZ (n+1)) (.tup ys):=fun ys h1 h2=> .inl ⟨ys,rfl,zc9 uE h2 h1⟩
 cases l<;>refine g _ (by simp [aI,aJ,aM,aF,fIf,aG,fB,f2,aB,fC,aZ,aA,aC,aE,dEq,dNe,eqB,dB,dIx,bD,cO,fT,bG,aH,bB,bM,aP,gJ,dTy,gS,iE,iW]) ?_<;>intro y hy<;>simp [aI,aJ,aM,aF,fIf,aG,fB,f2,aB,fC,aZ,aA,aC,aE,dEq,dNe,eqB,dB,dIx,bD,cO,fT,bG,aH,bB,bM,aP,gJ,dTy,gS,iE,iW] at hy<;>(try rcases hy with rfl|rfl)<;>(try subst hy)<;>first|exact .inr (.inl ⟨_,rfl⟩)|exact .inr (.inr ⟨_,rfl⟩)
def opD:Option Tk->D
 |none=> .tup [.str "row"]
 |some t=>tkD t
abbrev nsN:List Str:=["opener","ended","pieces"]
def eA(f:Fm):D:= .obj true "Nest" nsN [opD f.op,.lst true (eR f.full),.lst true (dY f.parts)]
def gA:List Fm->List D
 |[]=>[]
 |f::fs=>gA fs++[eA f]
theorem oJ:∀fs,(gA fs).length=fs.length
 |[]=>rfl
 |f::fs=>by rw [gA,List.length_append,oJ fs];rfl
abbrev nsB:List Str:=["taken","nests"]
def bA(n:Nat)(fs:List Fm):D:= .obj true "Builder" nsB [.int n,.lst true (gA fs)]
abbrev hU:tz7:=gE 2 0 (cY [true,false]) qV
theorem yu4(o:Option Tk):(opD o).imm=true:=by cases o with|none=>rfl|some t=>exact pP t
theorem zg1(o:Option Tk):hU [.obj true "Nest" [] [],opD o]=some (.non,[eA ⟨o,[],[]⟩,opD o]):=by
 have h:=yu4 o
 generalize hd:opD o=d at h
 simp [gP,gE,aI,aJ,aM,aF,fIf,aG,fB,f2,aB,fC,bC,aZ,bQ,aR,bH,aU,bV,bX,aA,aC,aX,bF,aE,dEq,dNe,eqB,dB,dIx,bD,aL,bZ,D.imm,D.imms,bK,aO,dM,fT,bG,aH,bR,bS,bU,bP,bL,dIn,inB,bN,D.flat,D.flats,inV,eqV,aP,bB,bM,dLt,dLe,dGt,dGe,gH,cY,cI,dR,cW,dN,cL,gI,dJ,dA,fE,D.key,cP,cX,eD,aQ,aT,cD,L2.aS,qV,h,eA,hd,eR,dY]
abbrev nA:tz7:=gE 1 0 (cY [true]) oV
theorem zy9{f:Fm}(h:f.full.length<=900):nA [eA f]=some (.non,[eA {f with full:=f.full++[f.parts],parts:=[]}]):=by
 have hz:(eR f.full).length<sizeLine:=by rw [jU];exact sz1 (by omega)
 have er:eR (f.full++[f.parts])=eR f.full++[.tup (dY f.parts)]:=by rw [pQ];rfl
 simp [gP,gE,aI,aJ,aM,aF,fIf,aG,fB,f2,aB,fC,bC,aZ,bQ,aR,bH,aU,bV,bX,aA,aC,aX,bF,aE,dEq,dNe,eqB,dB,dIx,bD,aL,bZ,D.imm,D.imms,bK,aO,dM,fT,bG,aH,bR,bS,bU,bP,bL,dIn,inB,bN,D.flat,D.flats,inV,eqV,aP,bB,bM,dLt,dLe,dGt,dGe,gH,cY,cI,dR,cW,dN,cL,gI,dJ,dA,fE,D.key,cP,cX,eD,aQ,aT,cD,L2.aS,oV,eA,hz,er,jF,dY]
abbrev nX:tz6:=gP 2 1 eE
def ya6(f:Fm)(t:Tk):Prop:=(f.op=some .opn/\t= .cls)\/(∃n,f.op=some (.hng n)/\t= .bck)\/(f.op=some .eit/\t= .orr/\f.full.length<3)\/(f.op=some .eit/\t= .don/\f.full≠[])
theorem zz0{f:Fm}{t:Tk}(h:ya6 f t):nX [eA f,.str (bJ t)]=some (.bl true):=by
 rcases h with ⟨h1,rfl⟩|⟨n,h1,rfl⟩|⟨h1,rfl,h2⟩|⟨h1,rfl,h2⟩
 ·simp [gP,gE,aI,aJ,aM,aF,fIf,aG,fB,f2,aB,fC,bC,aZ,bQ,aR,bH,aU,bV,bX,aA,aC,aX,bF,aE,dEq,dNe,eqB,dB,dIx,bD,aL,bZ,D.imm,D.imms,bK,aO,dM,fT,bG,aH,bR,bS,bU,bP,bL,dIn,inB,bN,D.flat,D.flats,inV,eqV,aP,bB,bM,dLt,dLe,dGt,dGe,gH,cY,cI,dR,cW,dN,cL,gI,dJ,dA,fE,D.key,cP,cX,eD,aQ,aT,cD,L2.aS,eE,eA,h1,opD,tkD,bJ]
 ·simp [gP,gE,aI,aJ,aM,aF,fIf,aG,fB,f2,aB,fC,bC,aZ,bQ,aR,bH,aU,bV,bX,aA,aC,aX,bF,aE,dEq,dNe,eqB,dB,dIx,bD,aL,bZ,D.imm,D.imms,bK,aO,dM,fT,bG,aH,bR,bS,bU,bP,bL,dIn,inB,bN,D.flat,D.flats,inV,eqV,aP,bB,bM,dLt,dLe,dGt,dGe,gH,cY,cI,dR,cW,dN,cL,gI,dJ,dA,fE,D.key,cP,cX,eD,aQ,aT,cD,L2.aS,eE,eA,h1,opD,tkD,bJ]
 ·have h3:((eR f.full).length:Int)+1<4:=by rw [jU];omega
  simp [gP,gE,aI,aJ,aM,aF,fIf,aG,fB,f2,aB,fC,bC,aZ,bQ,aR,bH,aU,bV,bX,aA,aC,aX,bF,aE,dEq,dNe,eqB,dB,dIx,bD,aL,bZ,D.imm,D.imms,bK,aO,dM,fT,bG,aH,bR,bS,bU,bP,bL,dIn,inB,bN,D.flat,D.flats,inV,eqV,aP,bB,bM,dLt,dLe,dGt,dGe,gH,cY,cI,dR,cW,dN,cL,gI,dJ,dA,fE,D.key,cP,cX,eD,aQ,aT,cD,L2.aS,eE,eA,h1,opD,tkD,bJ,h3]
 ·have h3:(2:Int)<=((eR f.full).length:Int)+1:=by
   rw [jU]
   cases hf:f.full with
   |nil=>exact absurd hf h2
   |cons a l=>simp;omega
  simp [gP,gE,aI,aJ,aM,aF,fIf,aG,fB,f2,aB,fC,bC,aZ,bQ,aR,bH,aU,bV,bX,aA,aC,aX,bF,aE,dEq,dNe,eqB,dB,dIx,bD,aL,bZ,D.imm,D.imms,bK,aO,dM,fT,bG,aH,bR,bS,bU,bP,bL,dIn,inB,bN,D.flat,D.flats,inV,eqV,aP,bB,bM,dLt,dLe,dGt,dGe,gH,cY,cI,dR,cW,dN,cL,gI,dJ,dA,fE,D.key,cP,cX,eD,aQ,aT,cD,L2.aS,eE,eA,h1,opD,tkD,bJ,h3]
abbrev lS:tz6:=gP 1 2 kD
def iH(f:Fm):Pc:=match f.op with
 |some .opn=> .group f.parts
 |some (.hng n)=> .hang n f.parts
 |_=> .either (f.full++[f.parts])
theorem zs0{f:Fm}(h:f.op=some .opn\/(∃n,f.op=some (.hng n))\/f.op=some .eit)(hl:f.full.length<=900):lS [eA f]=some (pcD (iH f)):=by
 have hz:(eR f.full).length+1<=sizeLine:=by rw [jU];exact sz (by omega)
 rcases h with h1|⟨n,h1⟩|h1
 ·simp [gP,gE,aI,aJ,aM,aF,fIf,aG,fB,f2,aB,fC,bC,aZ,bQ,aR,bH,aU,bV,bX,aA,aC,aX,bF,aE,dEq,dNe,eqB,dB,dIx,bD,aL,bZ,D.imm,D.imms,bK,aO,dM,fT,bG,aH,bR,bS,bU,bP,bL,dIn,inB,bN,D.flat,D.flats,inV,eqV,aP,bB,bM,dLt,dLe,dGt,dGe,gH,cY,cI,dR,cW,dN,cL,gI,dJ,dA,fE,D.key,cP,cX,eD,aQ,aT,cD,L2.aS,kD,eA,h1,opD,tkD,jF,iH,pcD]
 ·simp [gP,gE,aI,aJ,aM,aF,fIf,aG,fB,f2,aB,fC,bC,aZ,bQ,aR,bH,aU,bV,bX,aA,aC,aX,bF,aE,dEq,dNe,eqB,dB,dIx,bD,aL,bZ,D.imm,D.imms,bK,aO,dM,fT,bG,aH,bR,bS,bU,bP,bL,dIn,inB,bN,D.flat,D.flats,inV,eqV,aP,bB,bM,dLt,dLe,dGt,dGe,gH,cY,cI,dR,cW,dN,cL,gI,dJ,dA,fE,D.key,cP,cX,eD,aQ,aT,cD,L2.aS,kD,eA,h1,opD,tkD,jF,iH,pcD]
 ·simp [gP,gE,aI,aJ,aM,aF,fIf,aG,fB,f2,aB,fC,bC,aZ,bQ,aR,bH,aU,bV,bX,aA,aC,aX,bF,aE,dEq,dNe,eqB,dB,dIx,bD,aL,bZ,D.imm,D.imms,bK,aO,dM,fT,bG,aH,bR,bS,bU,bP,bL,dIn,inB,bN,D.flat,D.flats,inV,eqV,aP,bB,bM,dLt,dLe,dGt,dGe,gH,cY,cI,dR,cW,dN,cL,gI,dJ,dA,fE,D.key,cP,cX,eD,aQ,aT,cD,L2.aS,kD,eA,h1,opD,tkD,jF,iH,pcD,uA,xS,hz,pQ,eR]
abbrev pS:tz7:=gE 1 0 (cY [true]) (mE hU)
theorem xa2:pS [.obj true "Builder" [] []]=some (.non,[bA 0 [fU]]):=by
 have q:hU [.obj true "Nest" [] [],.tup [.str "row"]]=some (.non,[eA fU,.tup [.str "row"]]):=zg1 none
 show gE 1 0 (cY [true]) (mE hU) _=_
 generalize hU=G at q
 simp [gP,gE,aI,aJ,aM,aF,fIf,aG,fB,f2,aB,fC,bC,aZ,bQ,aR,bH,aU,bV,bX,aA,aC,aX,bF,aE,dEq,dNe,eqB,dB,dIx,bD,aL,bZ,D.imm,D.imms,bK,aO,dM,fT,bG,aH,bR,bS,bU,bP,bL,dIn,inB,bN,D.flat,D.flats,inV,eqV,aP,bB,bM,dLt,dLe,dGt,dGe,gH,cY,cI,dR,cW,dN,cL,gI,dJ,dA,fE,D.key,cP,cX,eD,aQ,aT,cD,L2.aS,mE,q,bA,gA]
abbrev kO:tz6:=gP 2 0 (gU nX)
def wR(t:Tk):Prop:=t= .opn\/(∃n,t= .hng n)\/t= .eit
def yF(n:Nat)(fs:List Fm)(t:Tk):Prop:=n<200/\((∃l,t= .leaf l)\/(wR t/\fs.length<=12)\/∃f r,fs=f::r/\ya6 f t)
theorem zu6{α:Type}(l:List α)(a:α):atI (l++[a]) (-1)=some a:=by
 unfold atI
 rw [List.length_append]
 show(ixN (l.length+1) (-1)).bind _=_
 rw [aQ,Option.bind_some]
 simp [gP,gE,aI,aJ,aM,aF,fIf,aG,fB,f2,aB,fC,bC,aZ,bQ,aR,bH,aU,bV,bX,aA,aC,aX,bF,aE,dEq,dNe,eqB,dB,dIx,bD,aL,bZ,D.imm,D.imms,bK,aO,dM,fT,bG,aH,bR,bS,bU,bP,bL,dIn,inB,bN,D.flat,D.flats,inV,eqV,aP,bB,bM,dLt,dLe,dGt,dGe,gH,cY,cI,dR,cW,dN,cL,gI,dJ,dA,fE,D.key,cP,cX,eD,aQ,aT,cD,L2.aS]
theorem qP{n:Nat}{fs:List Fm}{t:Tk}(hfs:fs≠[])(h:yF n fs t):kO [bA n fs,.str (bJ t)]=some (.bl true):=by
 obtain⟨hn,h⟩:=h
 have c1:fB (f2 dGe (dJ "Builder" "taken" (aB 0)) (fC (.int 200))) [some (bA n fs),some (.str (bJ t))]=some false:=uC (fR (x:= .int n) (by kernel_rfl) rfl (show some (D.bl (decide ((200:Int)<=(n:Int))))=_ by rw [decide_eq_false (by omega)]))
 have nst:dJ "Builder" "nests" (aB 0) [some (bA n fs),some (.str (bJ t))]=some (.lst true (gA fs)):=by kernel_rfl
 suffices w:∃q,gU nX [some (bA n fs),some (.str (bJ t))]=some (.ret (.bl true),q) from by
  obtain⟨q,hq⟩:=w;exact jL rfl hq
 unfold gU
 rw [cF (iV c1)]
 rcases h with ⟨l,rfl⟩|⟨ho,hl⟩|⟨f,r,rfl,hs⟩
 ·cases l<;>exact⟨_,(cF (iV (by kernel_rfl))).trans ((cF (iV (by kernel_rfl))).trans (fW rfl))⟩
 ·have ln:f2 dLt (f2 dM (aE bD (aA (dJ "Builder" "nests" (aB 0)) aC)) (fC (.int 1))) (fC (.int 12)) [some (bA n fs),some (.str (bJ t))]=some (.bl true):=by
   refine fR (fR (eL (eW nst rfl) rfl) rfl rfl) rfl ?_
   show some (D.bl (decide ((((gA fs).length:Nat):Int)-1<12)))=_
   rw [decide_eq_true (by rw [oJ];omega)]
  have c2:fB (f2 dIn (aB 1) (fC (.tup [(.str "open"),(.str "hang"),(.str "either")]))) [some (bA n fs),some (.str (bJ t))]=some true:=by
   rcases ho with rfl|⟨m,rfl⟩|rfl<;>kernel_rfl
  exact⟨_,gY ((jI c2).trans (fW ln))⟩
 ·have q:=zz0 hs
  have rc:aE nX (aA (dA "Nest" "can_end_by" (f2 dIx (dJ "Builder" "nests" (aB 0)) (bL (fC (.int 1))))) (aA (aB 1) aC)) [some (bA n (f::r)),some (.str (bJ t))]=some (.bl true):=by
   refine eL (ds:=[eA f,.str (bJ t)]) (eW ?_ (eW rfl rfl)) q
   unfold dA
   rw [fR nst rfl (show dIx (.lst true (gA r++[eA f])) (.int (-1))=some (eA f) from zu6 _ _)]
   kernel_rfl
  have c2:fB (f2 dIn (aB 1) (fC (.tup [(.str "open"),(.str "hang"),(.str "either")]))) [some (bA n (f::r)),some (.str (bJ t))]=some false:=by
   rcases hs with ⟨h1,rfl⟩|⟨m,h1,rfl⟩|⟨h1,rfl,h2⟩|⟨h1,rfl,h2⟩<;>kernel_rfl
  have c3:fE fG (aB 1) [some (bA n (f::r)),some (.str (bJ t))]=some true:=by
   rcases hs with ⟨h1,rfl⟩|⟨m,h1,rfl⟩|⟨h1,rfl,h2⟩|⟨h1,rfl,h2⟩<;>kernel_rfl
  exact⟨_,(cF (iV c2)).trans (gY ((jI c3).trans (fW rc)))⟩
abbrev oW:tz7:=gE 2 2 (cY [true,false]) (lF kO hU nA lS)
def pH(GI GE_:tz7)(GP:tz6):tz1:=
 (fIf (aG (fB (f2 dIn (aB 2) (fC (.tup [(.str "open"),(.str "hang"),(.str "either")])))))
  (aR (bH 0 (dR 0 aU "Builder" "nests") (aA (eD "Nest" (cI [.im (aB 1)]) GI) aC) aL))
  (fIf (aG (fB (f2 dEq (aB 2) (fC (.str "or")))))
  (aR (bH 0 (bP 0 (dR 0 aU "Builder" "nests") (bL (fC (.int 1)))) aC (kW "Nest" "end_row" GE_)))
  (fIf (aG (fE fG (aB 2)))
  (aI (aM 3 (bH 0 (dR 0 aU "Builder" "nests") aC bZ))
 (aR (bH 0 (dR 0 (bP 0 (dR 0 aU "Builder" "nests") (bL (fC (.int 1)))) "Nest" "pieces") (aA (aE GP (aA (dA "Nest" "as_piece" (aB 3)) aC)) aC) aL)))
  (aR (bH 0 (dR 0 (bP 0 (dR 0 aU "Builder" "nests") (bL (fC (.int 1)))) "Nest" "pieces") (aA (bC (aB 1)) aC) aL)))))
theorem zL{n:Nat}{fs fs':List Fm}{t:Tk}{y3:Option D}(hfs:fs≠[])(h:yF n fs t)
  (q:pH hU nA lS [some (bA (n+1) fs),some (tkD t),some (.str (bJ t)),none]=some (.nx,[some (bA (n+1) fs'),some (tkD t),some (.str (bJ t)),y3])):oW [bA n fs,tkD t]=some (.non,[bA (n+1) fs',tkD t]):=by
 have hc:=qP hfs h
 show gE 2 2 (cY [true,false]) (lF kO hU nA lS) _=_
 generalize kO=GC at hc
 have e:lF GC hU nA lS=aI (aM 2 (aF (bC (f2 dIx (aB 1) (fC (.int 0)))))) (aI (fIf (aG (aP (fT (aE GC (aA (dA "Builder" "can_stand" (aB 0)) (aA (aB 2) aC)))))) qT aJ) (aI (cW 0 aU "Builder" "taken" (f2 aO (dJ "Builder" "taken" (aB 0)) (fC (.int 1)))) (pH hU nA lS))):=rfl
 have s1:aM 2 (aF (bC (f2 dIx (aB 1) (fC (.int 0))))) [some (bA n fs),some (tkD t),none,none]=some (.nx,[some (bA n fs),some (tkD t),some (.str (bJ t)),none]):=by
  refine gF ?_
  rw [xT];simp [aJ,aF,aG,fB,f2,aB,fC,bC,aR,bH,aU,bV,bX,aA,aC,aE,dEq,eqB,dB,dIx,aL,bZ,D.imm,D.imms,aO,fT,bG,aH,bR,bS,bU,bP,bL,dIn,inB,bN,D.flat,D.flats,inV,eqV,aP,cI,dR,cW,dN,cL,gI,dJ,dA,fE,D.key,eD,aQ,aT,cD,L2.aS]
 have s2:fIf (aG (aP (fT (aE GC (aA (dA "Builder" "can_stand" (aB 0)) (aA (aB 2) aC)))))) qT aJ [some (bA n fs),some (tkD t),some (.str (bJ t)),none]=some (.nx,[some (bA n fs),some (tkD t),some (.str (bJ t)),none]):=by
  refine(pJ (p':=[some (bA n fs),some (tkD t),some (.str (bJ t)),none]) ?_).trans rfl
  have e1:aE GC (aA (dA "Builder" "can_stand" (aB 0)) (aA (aB 2) aC)) [some (bA n fs),some (tkD t),some (.str (bJ t)),none]=some (.bl true):=eL (eW (d:=bA n fs) (by simp [aJ,aF,aG,fB,f2,aB,fC,bC,aR,bH,aU,bV,bX,aA,aC,aE,dEq,eqB,dB,dIx,aL,bZ,D.imm,D.imms,aO,fT,bG,aH,bR,bS,bU,bP,bL,dIn,inB,bN,D.flat,D.flats,inV,eqV,aP,cI,dR,cW,dN,cL,gI,dJ,dA,fE,D.key,eD,aQ,aT,cD,L2.aS,bA]) (eW rfl rfl)) hc
  unfold aG aP fT
  rw [e1];rfl
 have s3:cW 0 aU "Builder" "taken" (f2 aO (dJ "Builder" "taken" (aB 0)) (fC (.int 1))) [some (bA n fs),some (tkD t),some (.str (bJ t)),none]=some (.nx,[some (bA (n+1) fs),some (tkD t),some (.str (bJ t)),none]):=by
  have en:((n:Int)+1)=((n+1:Nat):Int):=by omega
  simp [aJ,aF,aG,fB,f2,aB,fC,bC,aR,bH,aU,bV,bX,aA,aC,aE,dEq,eqB,dB,dIx,aL,bZ,D.imm,D.imms,aO,fT,bG,aH,bR,bS,bU,bP,bL,dIn,inB,bN,D.flat,D.flats,inV,eqV,aP,cI,dR,cW,dN,cL,gI,dJ,dA,fE,D.key,eD,aQ,aT,cD,L2.aS,bA]
 have z:=(congrFun e [some (bA n fs),some (tkD t),none,none]).trans ((cF s1).trans ((cF s2).trans ((cF s3).trans q)))
 unfold gE
 refine(if_pos rfl).trans ?_
 show(lF GC hU nA lS [some (bA n fs),some (tkD t),none,none]).bind _=_
 rw [z]
 simp [aJ,aF,aG,fB,f2,aB,fC,bC,aR,bH,aU,bV,bX,aA,aC,aE,dEq,eqB,dB,dIx,aL,bZ,D.imm,D.imms,aO,fT,bG,aH,bR,bS,bU,bP,bL,dIn,inB,bN,D.flat,D.flats,inV,eqV,aP,cI,dR,cW,dN,cL,gI,dJ,dA,fE,D.key,eD,aQ,aT,cD,L2.aS,gH,cY]
theorem xa3(t:Tk)(p0:Option D)(h:¬wR t):aG (fB (f2 dIn (aB 2) (fC (.tup [(.str "open"),(.str "hang"),(.str "either")])))) [p0,some (tkD t),some (.str (bJ t)),none]=some (false,[p0,some (tkD t),some (.str (bJ t)),none]):=by
 cases t with
 |opn=>exact absurd (.inl rfl) h
 |hng m=>exact absurd (.inr (.inl ⟨m,rfl⟩)) h
 |eit=>exact absurd (.inr (.inr rfl)) h
 |leaf l=>cases l<;>simp [aJ,aF,aG,fB,f2,aB,fC,bC,aR,bH,aU,bV,bX,aA,aC,aE,dEq,eqB,dB,dIx,aL,bZ,D.imm,D.imms,aO,fT,bG,aH,bR,bS,bU,bP,bL,dIn,inB,bN,D.flat,D.flats,inV,eqV,aP,cI,dR,cW,dN,cL,gI,dJ,dA,fE,D.key,eD,aQ,aT,cD,L2.aS,bJ]
 |_=>simp [aJ,aF,aG,fB,f2,aB,fC,bC,aR,bH,aU,bV,bX,aA,aC,aE,dEq,eqB,dB,dIx,aL,bZ,D.imm,D.imms,aO,fT,bG,aH,bR,bS,bU,bP,bL,dIn,inB,bN,D.flat,D.flats,inV,eqV,aP,cI,dR,cW,dN,cL,gI,dJ,dA,fE,D.key,eD,aQ,aT,cD,L2.aS,bJ]
theorem xg1(p0:Option D):aG (fB (f2 dEq (aB 2) (fC (.str "or")))) [p0,some (tkD .orr),some (.str (bJ .orr)),none]=some (true,[p0,some (tkD .orr),some (.str (bJ .orr)),none]):=by simp [aJ,aF,aG,fB,f2,aB,fC,bC,aR,bH,aU,bV,bX,aA,aC,aE,dEq,eqB,dB,dIx,aL,bZ,D.imm,D.imms,aO,fT,bG,aH,bR,bS,bU,bP,bL,dIn,inB,bN,D.flat,D.flats,inV,eqV,aP,cI,dR,cW,dN,cL,gI,dJ,dA,fE,D.key,eD,aQ,aT,cD,L2.aS,bJ]
theorem xa4(l:Leaf)(p0 p1:Option D):aG (fB (f2 dIn (aB 2) (fC (.tup [(.str "open"),(.str "hang"),(.str "either")])))) [p0,p1,some (.str (bJ (.leaf l))),none]=some (false,[p0,p1,some (.str (bJ (.leaf l))),none]):=by cases l<;>simp [aJ,aF,aG,fB,f2,aB,fC,bC,aR,bH,aU,bV,bX,aA,aC,aE,dEq,eqB,dB,dIx,aL,bZ,D.imm,D.imms,aO,fT,bG,aH,bR,bS,bU,bP,bL,dIn,inB,bN,D.flat,D.flats,inV,eqV,aP,cI,dR,cW,dN,cL,gI,dJ,dA,fE,D.key,eD,aQ,aT,cD,L2.aS,bJ]
theorem xg2(l:Leaf)(p0 p1:Option D):aG (fB (f2 dEq (aB 2) (fC (.str "or")))) [p0,p1,some (.str (bJ (.leaf l))),none]=some (false,[p0,p1,some (.str (bJ (.leaf l))),none]):=by cases l<;>simp [aJ,aF,aG,fB,f2,aB,fC,bC,aR,bH,aU,bV,bX,aA,aC,aE,dEq,eqB,dB,dIx,aL,bZ,D.imm,D.imms,aO,fT,bG,aH,bR,bS,bU,bP,bL,dIn,inB,bN,D.flat,D.flats,inV,eqV,aP,cI,dR,cW,dN,cL,gI,dJ,dA,fE,D.key,eD,aQ,aT,cD,L2.aS,bJ]
theorem xd8(l:Leaf)(p0 p1:Option D):aG (fE fG (aB 2)) [p0,p1,some (.str (bJ (.leaf l))),none]=some (false,[p0,p1,some (.str (bJ (.leaf l))),none]):=by cases l<;>simp [aJ,aF,aG,fB,f2,aB,fC,bC,aR,bH,aU,bV,bX,aA,aC,aE,dEq,eqB,dB,dIx,aL,bZ,D.imm,D.imms,aO,fT,bG,aH,bR,bS,bU,bP,bL,dIn,inB,bN,D.flat,D.flats,inV,eqV,aP,cI,dR,cW,dN,cL,gI,dJ,dA,fE,D.key,eD,aQ,aT,cD,L2.aS,bJ]
theorem ym9{n:Nat}{fs:List Fm}{t:Tk}(hfs:fs≠[])(ht:wR t)(h:yF n fs t)(hl:fs.length<=900):oW [bA n fs,tkD t]=some (.non,[bA (n+1) (⟨some t,[],[]⟩::fs),tkD t]):=by
 refine zL (y3:=none) hfs h ?_
 have q:hU [.obj true "Nest" [] [],tkD t]=some (.non,[eA ⟨some t,[],[]⟩,tkD t]):=zg1 (some t)
 have hi:=pP t
 generalize hU=G at q|-
 have hz:(gA fs).length<sizeLine:=by rw [oJ];exact sz1 (by omega)
 have hb:bA (n+1) (⟨some t,[],[]⟩::fs)= .obj true "Builder" nsB [.int ((n+1:Nat):Int),.lst true (gA fs++[eA ⟨some t,[],[]⟩])]:=rfl
 rw [hb]
 have c1:aG (fB (f2 dIn (aB 2) (fC (.tup [(.str "open"),(.str "hang"),(.str "either")])))) [some (bA (n+1) fs),some (tkD t),some (.str (bJ t)),none]=some (true,[some (bA (n+1) fs),some (tkD t),some (.str (bJ t)),none]):=by
  rcases ht with rfl|⟨m,rfl⟩|rfl<;>simp [aJ,aF,aG,fB,f2,aB,fC,bC,aR,bH,aU,bV,bX,aA,aC,aE,dEq,eqB,dB,dIx,aL,bZ,D.imm,D.imms,aO,fT,bG,aH,bR,bS,bU,bP,bL,dIn,inB,bN,D.flat,D.flats,inV,eqV,aP,cI,dR,cW,dN,cL,gI,dJ,dA,fE,D.key,eD,aQ,aT,cD,L2.aS,bJ]
 unfold pH
 refine(wF c1).trans ?_
 generalize tkD t=d at q hi|-
 simp [aJ,aF,aG,fB,f2,aB,fC,bC,aR,bH,aU,bV,bX,aA,aC,aE,dEq,eqB,dB,dIx,aL,bZ,D.imm,D.imms,aO,fT,bG,aH,bR,bS,bU,bP,bL,dIn,inB,bN,D.flat,D.flats,inV,eqV,aP,cI,dR,cW,dN,cL,gI,dJ,dA,fE,D.key,eD,aQ,aT,cD,L2.aS,bA,hi,q,hz]
theorem xa5{n:Nat}{f:Fm}{fs:List Fm}(hf:f.op=some .eit)(h3:f.full.length<3)(h:yF n (f::fs) .orr):oW [bA n (f::fs),tkD .orr]=some (.non,[bA (n+1) ({f with full:=f.full++[f.parts],parts:=[]}::fs),tkD .orr]):=by
 refine zL (y3:=none) (by simp [aJ,aF,aG,fB,f2,aB,fC,bC,aR,bH,aU,bV,bX,aA,aC,aE,dEq,eqB,dB,dIx,aL,bZ,D.imm,D.imms,aO,fT,bG,aH,bR,bS,bU,bP,bL,dIn,inB,bN,D.flat,D.flats,inV,eqV,aP,cI,dR,cW,dN,cL,gI,dJ,dA,fE,D.key,eD,aQ,aT,cD,L2.aS]) h ?_
 have q:=zy9 (f:=f) (by omega)
 generalize nA=G at q|-
 have hb:∀g:Fm,bA (n+1) (g::fs)= .obj true "Builder" nsB [.int ((n+1:Nat):Int),.lst true (gA fs++[eA g])]:=fun _=>rfl
 rw [hb,hb]
 have hm:kW "Nest" "end_row" G [] (eA f)=some (.non,eA {f with full:=f.full++[f.parts],parts:=[]}):=by
  have nf:cL nsN "end_row"=none:=by simp [aJ,aF,aG,fB,f2,aB,fC,bC,aR,bH,aU,bV,bX,aA,aC,aE,dEq,eqB,dB,dIx,aL,bZ,D.imm,D.imms,aO,fT,bG,aH,bR,bS,bU,bP,bL,dIn,inB,bN,D.flat,D.flats,inV,eqV,aP,cI,dR,cW,dN,cL,gI,dJ,dA,fE,D.key,eD,aQ,aT,cD,L2.aS]
  show(if (("Nest":Str)="Nest"/\cL nsN "end_row"=none) then(G [eA f]).bind _ else none)=_
  rw [if_pos ⟨rfl,nf⟩,q];rfl
 generalize eA {f with full:=f.full++[f.parts],parts:=[]}=N' at hm|-
 generalize eA f=N at hm|-
 unfold pH
 refine(pJ (xa3 _ _ (by simp [aJ,aF,aG,fB,f2,aB,fC,bC,aR,bH,aU,bV,bX,aA,aC,aE,dEq,eqB,dB,dIx,aL,bZ,D.imm,D.imms,aO,fT,bG,aH,bR,bS,bU,bP,bL,dIn,inB,bN,D.flat,D.flats,inV,eqV,aP,cI,dR,cW,dN,cL,gI,dJ,dA,fE,D.key,eD,aQ,aT,cD,L2.aS,wR]))).trans ((wF (xg1 _)).trans ?_)
 simp [aJ,aF,aG,fB,f2,aB,fC,bC,aR,bH,aU,bV,bX,aA,aC,aE,dEq,eqB,dB,dIx,aL,bZ,D.imm,D.imms,aO,fT,bG,aH,bR,bS,bU,bP,bL,dIn,inB,bN,D.flat,D.flats,inV,eqV,aP,cI,dR,cW,dN,cL,gI,dJ,dA,fE,D.key,eD,aQ,aT,cD,L2.aS,hm]
theorem yn0{n:Nat}{f:Fm}{fs:List Fm}{l:Leaf}(h:yF n (f::fs) (.leaf l))(hl:f.parts.length<=900):oW [bA n (f::fs),tkD (.leaf l)]=some (.non,[bA (n+1) (put f (.leaf l)::fs),tkD (.leaf l)]):=by
 refine zL (y3:=none) (by simp [aJ,aF,aG,fB,f2,aB,fC,bC,aR,bH,aU,bV,bX,aA,aC,aE,dEq,eqB,dB,dIx,aL,bZ,D.imm,D.imms,aO,fT,bG,aH,bR,bS,bU,bP,bL,dIn,inB,bN,D.flat,D.flats,inV,eqV,aP,cI,dR,cW,dN,cL,gI,dJ,dA,fE,D.key,eD,aQ,aT,cD,L2.aS]) h ?_
 have hz:(dY f.parts).length<sizeLine:=by rw [jZ];exact sz1 (by omega)
 have ep:dY (f.parts++[.leaf l])=dY f.parts++[gM l]:=by rw [nM];rfl
 have hi:=xR l
 have hb:∀g:Fm,bA (n+1) (g::fs)= .obj true "Builder" nsB [.int ((n+1:Nat):Int),.lst true (gA fs++[.obj true "Nest" nsN [opD g.op,.lst true (eR g.full),.lst true (dY g.parts)]])]:=fun _=>rfl
 rw [hb,hb]
 show pH hU nA lS [_,some (gM l),_,_]=some (.nx,[some (.obj true "Builder" nsB [.int ((n+1:Nat):Int),.lst true (gA fs++[.obj true "Nest" nsN [opD f.op,.lst true (eR f.full),.lst true (dY (f.parts++[.leaf l]))]])]),some (gM l),_,_])
 rw [ep]
 generalize gM l=d at hi|-
 unfold pH
 exact(pJ (xa4 l _ _)).trans ((pJ (xg2 l _ _)).trans ((pJ (xd8 l _ _)).trans (by simp [aJ,aF,aG,fB,f2,aB,fC,bC,aR,bH,aU,bV,bX,aA,aC,aE,dEq,eqB,dB,dIx,aL,bZ,D.imm,D.imms,aO,fT,bG,aH,bR,bS,bU,bP,bL,dIn,inB,bN,D.flat,D.flats,inV,eqV,aP,cI,dR,cW,dN,cL,gI,dJ,dA,fE,D.key,eD,aQ,aT,cD,L2.aS,hi,hz])))
theorem xU{n:Nat}{f g:Fm}{fs:List Fm}{t:Tk}(ht:(f.op=some .opn/\t= .cls)\/(∃m,f.op=some (.hng m)/\t= .bck)\/(f.op=some .eit/\t= .don))(h:yF n (f::g::fs) t)(hl:g.parts.length<=900)(hfl:f.full.length<=900):
  oW [bA n (f::g::fs),tkD t]=some (.non,[bA (n+1) (put g (iH f)::fs),tkD t]):=by
 refine zL (y3:=some (eA f)) (by simp [aJ,aF,aG,fB,f2,aB,fC,bC,aR,bH,aU,bV,bX,aA,aC,aE,dEq,eqB,dB,dIx,aL,bZ,D.imm,D.imms,aO,fT,bG,aH,bR,bS,bU,bP,bL,dIn,inB,bN,D.flat,D.flats,inV,eqV,aP,cI,dR,cW,dN,cL,gI,dJ,dA,fE,D.key,eD,aQ,aT,cD,L2.aS]) h ?_
 have q:=zs0 (f:=f) (ht.elim (fun z=> .inl z.1) fun z=>z.elim (fun⟨m,z,_⟩=> .inr (.inl ⟨m,z⟩)) fun z=> .inr (.inr z.1)) hfl
 have hz:(dY g.parts).length<sizeLine:=by rw [jZ];exact sz1 (by omega)
 have ep:dY (g.parts++[iH f])=dY g.parts++[pcD (iH f)]:=by rw [nM];rfl
 generalize lS=G at q|-
 have e1:bA (n+1) (f::g::fs)= .obj true "Builder" nsB [.int ((n+1:Nat):Int),.lst true (gA fs++[eA g]++[eA f])]:=rfl
 have e2:bA (n+1) (put g (iH f)::fs)= .obj true "Builder" nsB [.int ((n+1:Nat):Int),.lst true (gA fs++[.obj true "Nest" nsN [opD g.op,.lst true (eR g.full),.lst true (dY (g.parts++[iH f]))]])]:=rfl
 rw [e1,e2,ep]
 have c1:∀p0:Option D,aG (fB (f2 dIn (aB 2) (fC (.tup [(.str "open"),(.str "hang"),(.str "either")])))) [p0,some (tkD t),some (.str (bJ t)),none]=some (false,[p0,some (tkD t),some (.str (bJ t)),none]):=fun p0=>by
  rcases ht with ⟨_,rfl⟩|⟨m,_,rfl⟩|⟨_,rfl⟩<;>simp [aJ,aF,aG,fB,f2,aB,fC,bC,aR,bH,aU,bV,bX,aA,aC,aE,dEq,eqB,dB,dIx,aL,bZ,D.imm,D.imms,aO,fT,bG,aH,bR,bS,bU,bP,bL,dIn,inB,bN,D.flat,D.flats,inV,eqV,aP,cI,dR,cW,dN,cL,gI,dJ,dA,fE,D.key,eD,aQ,aT,cD,L2.aS,bJ]
 have c2:∀p0:Option D,aG (fB (f2 dEq (aB 2) (fC (.str "or")))) [p0,some (tkD t),some (.str (bJ t)),none]=some (false,[p0,some (tkD t),some (.str (bJ t)),none]):=fun p0=>by
  rcases ht with ⟨_,rfl⟩|⟨m,_,rfl⟩|⟨_,rfl⟩<;>simp [aJ,aF,aG,fB,f2,aB,fC,bC,aR,bH,aU,bV,bX,aA,aC,aE,dEq,eqB,dB,dIx,aL,bZ,D.imm,D.imms,aO,fT,bG,aH,bR,bS,bU,bP,bL,dIn,inB,bN,D.flat,D.flats,inV,eqV,aP,cI,dR,cW,dN,cL,gI,dJ,dA,fE,D.key,eD,aQ,aT,cD,L2.aS,bJ]
 have c3:∀p0:Option D,aG (fE fG (aB 2)) [p0,some (tkD t),some (.str (bJ t)),none]=some (true,[p0,some (tkD t),some (.str (bJ t)),none]):=fun p0=>by
  rcases ht with ⟨_,rfl⟩|⟨m,_,rfl⟩|⟨_,rfl⟩<;>simp [aJ,aF,aG,fB,f2,aB,fC,bC,aR,bH,aU,bV,bX,aA,aC,aE,dEq,eqB,dB,dIx,aL,bZ,D.imm,D.imms,aO,fT,bG,aH,bR,bS,bU,bP,bL,dIn,inB,bN,D.flat,D.flats,inV,eqV,aP,cI,dR,cW,dN,cL,gI,dJ,dA,fE,D.key,eD,aQ,aT,cD,L2.aS,bJ]
 have s1:aM 3 (bH 0 (dR 0 aU "Builder" "nests") aC bZ) [some (.obj true "Builder" nsB [.int ((n+1:Nat):Int),.lst true (gA fs++[eA g]++[eA f])]),some (tkD t),some (.str (bJ t)),none]=some (.nx,[some (.obj true "Builder" nsB [.int ((n+1:Nat):Int),.lst true (gA fs++[eA g])]),some (tkD t),some (.str (bJ t)),some (eA f)]):=by
  generalize gA fs++[eA g]=Z
  generalize eA f=N
  simp [aJ,aF,aG,fB,f2,aB,fC,bC,aR,bH,aU,bV,bX,aA,aC,aE,dEq,eqB,dB,dIx,aL,bZ,D.imm,D.imms,aO,fT,bG,aH,bR,bS,bU,bP,bL,dIn,inB,bN,D.flat,D.flats,inV,eqV,aP,cI,dR,cW,dN,cL,gI,dJ,dA,fE,D.key,eD,aQ,aT,cD,L2.aS,aM]
 have s2:aE G (aA (dA "Nest" "as_piece" (aB 3)) aC) [some (.obj true "Builder" nsB [.int ((n+1:Nat):Int),.lst true (gA fs++[eA g])]),some (tkD t),some (.str (bJ t)),some (eA f)]=some (pcD (iH f)):=
  eL (eW (d:=eA f) (by simp [aJ,aF,aG,fB,f2,aB,fC,bC,aR,bH,aU,bV,bX,aA,aC,aE,dEq,eqB,dB,dIx,aL,bZ,D.imm,D.imms,aO,fT,bG,aH,bR,bS,bU,bP,bL,dIn,inB,bN,D.flat,D.flats,inV,eqV,aP,cI,dR,cW,dN,cL,gI,dJ,dA,fE,D.key,eD,aQ,aT,cD,L2.aS,eA]) rfl) q
 unfold pH
 refine(pJ (c1 _)).trans ((pJ (c2 _)).trans ((wF (c3 _)).trans ((cF s1).trans ?_)))
 generalize pcD (iH f)=d at s2|-
 have s3:=eW (g:=aC) (ds:=[]) s2 rfl
 generalize aA (aE G (aA (dA "Nest" "as_piece" (aB 3)) aC)) aC=A at s3|-
 simp [aJ,aF,aG,fB,f2,aB,fC,bC,aR,bH,aU,bV,bX,aA,aC,aE,dEq,eqB,dB,dIx,aL,bZ,D.imm,D.imms,aO,fT,bG,aH,bR,bS,bU,bP,bL,dIn,inB,bN,D.flat,D.flats,inV,eqV,aP,cI,dR,cW,dN,cL,gI,dJ,dA,fE,D.key,eD,aQ,aT,cD,L2.aS,eA] at s3|-
 simp [aJ,aF,aG,fB,f2,aB,fC,bC,aR,bH,aU,bV,bX,aA,aC,aE,dEq,eqB,dB,dIx,aL,bZ,D.imm,D.imms,aO,fT,bG,aH,bR,bS,bU,bP,bL,dIn,inB,bN,D.flat,D.flats,inV,eqV,aP,cI,dR,cW,dN,cL,gI,dJ,dA,fE,D.key,eD,aQ,aT,cD,L2.aS,s3,hz]
def opB:Tk->Bool
 | .opn=>true
 | .hng _=>true
 | .eit=>true
 |_=>false
def rK(o:Option Tk)(k:Nat)(t:Tk):Bool:=match o,t with
 |some .opn,.cls=>true
 |some (.hng _),.bck=>true
 |some .eit,.orr=>decide (k<3)
 |some .eit,.don=>decide (0<k)
 |_,_=>false
def ya7(fs:List Fm):Tk->Bool
 | .leaf _=>true
 | .opn=>decide (fs.length<=12)
 | .hng _=>decide (fs.length<=12)
 | .eit=>decide (fs.length<=12)
 |t=>match fs with
  |f::_=>rK f.op f.full.length t
  |[]=>false
def mU(n:Nat)(fs:List Fm)(t:Tk):Bool:=decide (n<200)&&ya7 fs t
def Wf:List Fm->Prop
 |[]=>False
 |[f]=>f.op=none
 |f::g::r=>(∃t,f.op=some t/\opB t=true)/\Wf (g::r)
theorem Wf.put{f:Fm}{r:List Fm}{p:Pc}(h:Wf (f::r)):Wf (My.put f p::r):=by
 cases r with
 |nil=>exact h
 |cons g r=>exact h
theorem Wf.push{f:Fm}{r:List Fm}{t:Tk}(h:Wf (f::r))(ht:opB t=true):Wf (⟨some t,[],[]⟩::f::r):=⟨⟨t,rfl,ht⟩,h⟩
theorem Wf.tail{f g:Fm}{r:List Fm}(h:Wf (f::g::r)):Wf (g::r):=h.2
theorem Wf.two{f:Fm}{r:List Fm}{t:Tk}(h:Wf (f::r))(e:f.op=some t):∃g r',r=g::r':=by
 cases r with
 |nil=>rw [show f.op=none from h] at e;cases e
 |cons g r=>exact⟨g,r,rfl⟩
theorem Wf.op{f:Fm}{r:List Fm}(h:Wf (f::r)):f.op=none\/f.op=some .opn\/(∃n,f.op=some (.hng n))\/f.op=some .eit:=by
 cases r with
 |nil=>exact .inl h
 |cons g r=>
  obtain⟨⟨t,e,ht⟩,_⟩:=h
  cases t<;>first|(cases ht;done)|exact .inr (.inl e)|exact .inr (.inr (.inl ⟨_,e⟩))|exact .inr (.inr (.inr e))
theorem zg2{o:Option Tk}{k:Nat}{t:Tk}(h:rK o k t=true):(o=some .opn/\t= .cls)\/(∃n,o=some (.hng n)/\t= .bck)\/(o=some .eit/\t= .orr/\k<3)\/(o=some .eit/\t= .don/\0<k):=by
 unfold rK at h
 split at h
 ·exact .inl ⟨rfl,rfl⟩
 ·exact .inr (.inl ⟨_,rfl,rfl⟩)
 ·exact .inr (.inr (.inl ⟨rfl,rfl,of_decide_eq_true h⟩))
 ·exact .inr (.inr (.inr ⟨rfl,rfl,of_decide_eq_true h⟩))
 ·cases h
inductive Goes:List Fm->Tk->List Fm->Prop
 |leaf {f:Fm} {r:List Fm} {l:Leaf}:Goes (f::r) (.leaf l) (put f (.leaf l)::r)
 |opn {fs:List Fm} {t:Tk} (ht:opB t=true) (hl:fs.length<=12):Goes fs t (⟨some t,[],[]⟩::fs)
 |orr {f:Fm} {r:List Fm} (ho:f.op=some .eit) (hl:f.full.length<3):Goes (f::r) .orr ({f with full:=f.full++[f.parts],parts:=[]}::r)
 |cls {f g:Fm} {r:List Fm} (ho:f.op=some .opn):Goes (f::g::r) .cls (put g (.group f.parts)::r)
 |bck {f g:Fm} {r:List Fm} {n:Int} (ho:f.op=some (.hng n)):Goes (f::g::r) .bck (put g (.hang n f.parts)::r)
 |don {f g:Fm} {r:List Fm} (ho:f.op=some .eit) (hl:0<f.full.length):Goes (f::g::r) .don (put g (.either (f.full++[f.parts]))::r)
theorem zu7{n:Nat}{fs:List Fm}{t:Tk}(w:Wf fs)(h:mU n fs t=true):∃g,Goes fs t g/\Wf g:=by
 cases fs with
 |nil=>exact w.elim
 | cons f r=>
  obtain⟨_,h⟩:=Bool.and_eq_true_iff.mp h
  have sh:ya7 (f::r) t=rK f.op f.full.length t->∃g,Goes (f::r) t g/\Wf g:=fun e=>by
   rw [e] at h
   rcases zg2 h with ⟨h1,rfl⟩|⟨m,h1,rfl⟩|⟨h1,rfl,h2⟩|⟨h1,rfl,h2⟩
   ·obtain⟨g,r',rfl⟩:=w.two h1;exact⟨_,.cls h1,w.tail.put⟩
   ·obtain⟨g,r',rfl⟩:=w.two h1;exact⟨_,.bck h1,w.tail.put⟩
   ·obtain⟨g,r',rfl⟩:=w.two h1;exact⟨_,.orr h1 h2,⟨.eit,h1,rfl⟩,w.tail⟩
   ·obtain⟨g,r',rfl⟩:=w.two h1;exact⟨_,.don h1 h2,w.tail.put⟩
  cases t with
  |leaf l=>exact⟨_,.leaf,w.put⟩
  |opn=>exact⟨_,.opn rfl (of_decide_eq_true h),w.push rfl⟩
  |hng m=>exact⟨_,.opn rfl (of_decide_eq_true h),w.push rfl⟩
  |eit=>exact⟨_,.opn rfl (of_decide_eq_true h),w.push rfl⟩
  |cls=>exact sh rfl
  |bck=>exact sh rfl
  |orr=>exact sh rfl
  |don=>exact sh rfl
theorem vJ{fs g:List Fm}{t:Tk}(h:Goes fs t g):step fs t=some g:=by
 cases h with
 |leaf=>rfl
 |opn ht hl=>cases t<;>first|(cases ht;done)|(cases fs<;>rfl)
 |orr ho hl=>rename_i f r;obtain⟨o,fl,ps⟩:=f;cases ho;rfl
 |cls ho=>rename_i f g r;obtain⟨o,fl,ps⟩:=f;cases ho;rfl
 |bck ho=>rename_i f g r n;obtain⟨o,fl,ps⟩:=f;cases ho;rfl
 |don ho hl=>
  rename_i f g r
  obtain⟨o,fl,ps⟩:=f
  cases ho
  show(if fl=[] then none else _)=_
  rw [if_neg]
  intro z
  rw [show fl.length=0 by rw [z];rfl] at hl
  exact absurd hl (Nat.lt_irrefl 0)
theorem sM{n:Nat}{fs g:List Fm}{t:Tk}(w:Wf fs)(hf:mU n fs t=true)(hg:Goes fs t g):Wf g:=by
 obtain⟨g',h1,h2⟩:=zu7 w hf
 have e1:=vJ h1
 rw [vJ hg] at e1
 cases e1
 exact h2
inductive Walk8:Nat->List Fm->List Tk->List Fm->Prop
 |nil {n:Nat} {fs:List Fm}:Walk8 n fs [] fs
 |cons {n:Nat} {fs g fs':List Fm} {t:Tk} {ts:List Tk} (hf:mU n fs t=true) (hg:Goes fs t g) (h:Walk8 (n+1) g ts fs'):Walk8 n fs (t::ts) fs'
theorem zu8:∀(ts:List Tk) (n:Nat) (fs:List Fm),Wf fs->(∃fs',Walk8 n fs ts fs'/\Wf fs')\/∃a t b g,ts=a++t::b/\Walk8 n fs a g/\Wf g/\mU (n+a.length) g t=false
 |[],n,fs,w=> .inl ⟨fs,.nil,w⟩
 | t::ts,n,fs,w=>by
  cases h:mU n fs t with
  |false=>exact .inr ⟨[],t,ts,fs,rfl,.nil,w,h⟩
  |true=>
   obtain⟨g,hg,wg⟩:=zu7 w h
   rcases zu8 ts (n+1) g wg with ⟨fs',h1,h2⟩|⟨a,t',b,g',rfl,h1,h2,h3⟩
   ·exact .inl ⟨fs',.cons h hg h1,h2⟩
   ·exact .inr ⟨t::a,t',b,g',rfl,.cons h hg h1,h2,by rw [List.length_cons,show n+(a.length+1)=n+1+a.length by omega];exact h3⟩
theorem zp1:∀{ts:List Tk} {n:Nat} {fs fs':List Fm},Walk8 n fs ts fs'->run fs ts=some fs'
 |_,_,_,_,.nil=>rfl
 |_,_,_,_,.cons (t:=t) (ts:=ts) (fs:=fs) (fs':=fs') _ hg h=>by
  show(step fs t).bind (fun g=>run g ts)=some fs'
  rw [vJ hg];exact zp1 h
theorem zp2:∀{ts:List Tk} {n:Nat} {fs fs':List Fm},Walk8 n fs ts fs'->ts≠[]->n+ts.length<=200
 |_,_,_,_,.nil,h=>absurd rfl h
 |_,n,_,_,.cons (ts:=ts) hf _ h,_=>by
  have h0:n<200:=of_decide_eq_true (Bool.and_eq_true_iff.mp hf).1
  rw [List.length_cons]
  cases ts with
  |nil=>show n+(0+1)<=200;omega
  |cons t' ts=>have:=zp2 h (by simp);rw [List.length_cons] at this|-;omega
def Bd8(n:Nat)(fs:List Fm):Prop:=fs.length<=13/\∀f∈fs,f.parts.length<=n/\f.full.length<=3
theorem sN{n:Nat}{fs g:List Fm}{t:Tk}(b:Bd8 n fs)(h:Goes fs t g):Bd8 (n+1) g:=by
 obtain⟨b1,b2⟩:=b
 have up:∀{x:Fm},x∈fs->x.parts.length<=n+1/\x.full.length<=3:=fun {x} hx=>by have:=b2 x hx;omega
 cases h with
 | leaf=>
  rename_i f r l
  refine⟨b1,fun x hx=> ?_⟩
  rcases List.mem_cons.mp hx with rfl|hx
  ·have:=b2 f List.mem_cons_self
   exact⟨by show(f.parts++[_]).length<=_;simp;omega,by show f.full.length<=_;omega⟩
  ·exact up (List.mem_cons_of_mem _ hx)
 |opn ht hl=>
  refine⟨by rw [List.length_cons];omega,fun x hx=> ?_⟩
  rcases List.mem_cons.mp hx with rfl|hx
  ·exact⟨Nat.zero_le _,Nat.zero_le _⟩
  ·exact up hx
 | orr ho hl=>
  rename_i f r
  refine⟨b1,fun x hx=> ?_⟩
  rcases List.mem_cons.mp hx with rfl|hx
  ·have:=b2 f List.mem_cons_self
   exact⟨Nat.zero_le _,by show(f.full++[_]).length<=_;simp;omega⟩
  ·exact up (List.mem_cons_of_mem _ hx)
 | cls ho=>
  rename_i f g r
  refine⟨by simp at b1|-;omega,fun x hx=> ?_⟩
  rcases List.mem_cons.mp hx with rfl|hx
  ·have:=b2 g (by simp)
   exact⟨by show(g.parts++[_]).length<=_;simp;omega,by show g.full.length<=_;omega⟩
  ·exact up (by simp [hx])
 | bck ho=>
  rename_i f g r m
  refine⟨by simp at b1|-;omega,fun x hx=> ?_⟩
  rcases List.mem_cons.mp hx with rfl|hx
  ·have:=b2 g (by simp)
   exact⟨by show(g.parts++[_]).length<=_;simp;omega,by show g.full.length<=_;omega⟩
  ·exact up (by simp [hx])
 | don ho hl=>
  rename_i f g r
  refine⟨by simp at b1|-;omega,fun x hx=> ?_⟩
  rcases List.mem_cons.mp hx with rfl|hx
  ·have:=b2 g (by simp)
   exact⟨by show(g.parts++[_]).length<=_;simp;omega,by show g.full.length<=_;omega⟩
  ·exact up (by simp [hx])
local macro_rules
 |`(tactic|simp! [$as,*])=>`(tactic|simp [gP,gE,aI,aJ,aM,aF,fIf,aG,fB,f2,aB,fC,bC,aZ,bQ,aR,bH,aU,bV,bX,aA,aC,aX,bF,aE,dEq,dNe,eqB,dB,dIx,bD,aL,bZ,D.imm,D.imms,bK,aO,dM,fT,bG,aH,bR,bS,bU,bP,bL,dIn,inB,bN,D.flat,D.flats,inV,eqV,aP,bB,bM,dLt,dLe,dGt,dGe,gH,cY,cI,dR,cW,dN,cL,gI,dJ,dA,fE,D.key,cP,cX,eD,aQ,aT,cD,L2.aS,$as,*])
theorem zd0{n:Nat}{fs:List Fm}{t:Tk}(h:mU n fs t=true):yF n fs t:=by
 obtain⟨h1,h2⟩:=Bool.and_eq_true_iff.mp h
 refine⟨of_decide_eq_true h1,?_⟩
 have sh:∀{f:Fm} {r:List Fm},fs=f::r->rK f.op f.full.length t=true->(∃l,t= .leaf l)\/(wR t/\fs.length<=12)\/∃f r,fs=f::r/\ya6 f t:=fun e q=>by
  refine .inr (.inr ⟨_,_,e,?_⟩)
  rcases zg2 q with ⟨h1,h2⟩|⟨m,h1,h2⟩|⟨h1,h2,h3⟩|⟨h1,h2,h3⟩
  ·exact .inl ⟨h1,h2⟩
  ·exact .inr (.inl ⟨m,h1,h2⟩)
  ·exact .inr (.inr (.inl ⟨h1,h2,h3⟩))
  ·exact .inr (.inr (.inr ⟨h1,h2,fun z=>by rw [z] at h3;exact absurd h3 (Nat.lt_irrefl 0)⟩))
 cases t with
 |leaf l=>exact .inl ⟨l,rfl⟩
 |opn=>exact .inr (.inl ⟨.inl rfl,of_decide_eq_true h2⟩)
 |hng m=>exact .inr (.inl ⟨.inr (.inl ⟨m,rfl⟩),of_decide_eq_true h2⟩)
 |eit=>exact .inr (.inl ⟨.inr (.inr rfl),of_decide_eq_true h2⟩)
 |_=>
  cases fs with
  |nil=>cases h2
  |cons f r=>exact sh rfl h2
theorem xV{n:Nat}{fs g:List Fm}{t:Tk}(w:Wf fs)(b:Bd8 n fs)(hn:n<=200)(hf:mU n fs t=true)(hg:Goes fs t g):oW [bA n fs,tkD t]=some (.non,[bA (n+1) g,tkD t]):=by
 have ft:=zd0 hf
 obtain⟨b1,b2⟩:=b
 cases hg with
 |leaf=>rename_i f r l;exact yn0 ft (by have:=b2 f List.mem_cons_self;omega)
 |opn ht hl=>
  have hi:wR t:=by cases t<;>first|(cases ht;done)|exact .inl rfl|exact .inr (.inl ⟨_,rfl⟩)|exact .inr (.inr rfl)
  cases fs with
  |nil=>exact w.elim
  |cons f r=>exact ym9 (by simp! [eq_self]) hi ft (by omega)
 |orr ho hl=>exact xa5 ho hl ft
 |cls ho=>
  rename_i f g r
  have:=xU (f:=f) (g:=g) (fs:=r) (.inl ⟨ho,rfl⟩) ft (by have:=b2 g (by simp! [eq_self]);omega) (by have:=b2 f (by simp! [eq_self]);omega)
  rwa [show iH f= .group f.parts by unfold iH;rw [ho]] at this
 |bck ho=>
  rename_i f g r m
  have:=xU (f:=f) (g:=g) (fs:=r) (.inr (.inl ⟨m,ho,rfl⟩)) ft (by have:=b2 g (by simp! [eq_self]);omega) (by have:=b2 f (by simp! [eq_self]);omega)
  rwa [show iH f= .hang m f.parts by unfold iH;rw [ho]] at this
 |don ho hl=>
  rename_i f g r
  have:=xU (f:=f) (g:=g) (fs:=r) (.inr (.inr ⟨ho,rfl⟩)) ft (by have:=b2 g (by simp! [eq_self]);omega) (by have:=b2 f (by simp! [eq_self]);omega)
  rwa [show iH f= .either (f.full++[f.parts]) by unfold iH;rw [ho]] at this
def zd3(t:Tk):Prop:=t= .cls\/t= .bck\/t= .orr\/t= .don
theorem zz1{f:Fm}{t:Tk}(ho:f.op=none\/f.op=some .opn\/(∃n,f.op=some (.hng n))\/f.op=some .eit)(ht:zd3 t)(h:rK f.op f.full.length t=false):nX [eA f,.str (bJ t)]=some (.bl false):=by
 rcases ho with h1|h1|⟨n,h1⟩|h1<;>rw [h1] at h
 ·rcases ht with rfl|rfl|rfl|rfl<;>simp! [eE,eA,h1,opD,bJ]
 ·rcases ht with rfl|rfl|rfl|rfl<;>first|(cases h;done)|simp! [eE,eA,h1,opD,tkD,bJ]
 ·rcases ht with rfl|rfl|rfl|rfl<;>first|(cases h;done)|simp! [eE,eA,h1,opD,tkD,bJ]
 ·rcases ht with rfl|rfl|rfl|rfl
  ·simp! [eE,eA,h1,opD,tkD,bJ]
  ·simp! [eE,eA,h1,opD,tkD,bJ]
  ·have h3:¬((eR f.full).length:Int)+1<4:=by rw [jU];have:=of_decide_eq_false h;omega
   simp! [eE,eA,h1,opD,tkD,bJ,h3]
  ·have h3:¬(2:Int)<=((eR f.full).length:Int)+1:=by rw [jU];have:=of_decide_eq_false h;omega
   simp! [eE,eA,h1,opD,tkD,bJ,h3]
abbrev yi5:tz1:=aI (fIf (aG (fB (f2 dIn (aB 1) (fC (.tup [(.str "open"),(.str "hang"),(.str "either")]))))) (aZ (aF (f2 dLt (f2 dM (aE bD (aA (dJ "Builder" "nests" (aB 0)) aC)) (fC (.int 1))) (fC (.int 12))))) aJ) (aI (fIf (aG (fE fG (aB 1))) (aZ (aF (aE nX (aA (dA "Nest" "can_end_by" (f2 dIx (dJ "Builder" "nests" (aB 0)) (bL (fC (.int 1))))) (aA (aB 1) aC))))) aJ) (aZ (aF (fC (.bl true)))))
theorem zp3{n:Nat}{fs:List Fm}{t:Tk}(w:Wf fs)(h:mU n fs t=false):kO [bA n fs,.str (bJ t)]=some (.bl false):=by
 have nst:dJ "Builder" "nests" (aB 0) [some (bA n fs),some (.str (bJ t))]=some (.lst true (gA fs)):=by kernel_rfl
 have c1:fB (f2 dGe (dJ "Builder" "taken" (aB 0)) (fC (.int 200))) [some (bA n fs),some (.str (bJ t))]=some (decide (200<=n)):=uC (fR (x:= .int n) (by kernel_rfl) rfl (show some (D.bl (decide ((200:Int)<=(n:Int))))=_ by congr 2;exact decide_eq_decide.mpr (by omega)))
 suffices q:∃q,gU nX [some (bA n fs),some (.str (bJ t))]=some (.ret (.bl false),q) from by
  obtain⟨q,hq⟩:=q;exact jL rfl hq
 unfold gU
 by_cases hn:200<=n
 ·rw [decide_eq_true hn] at c1
  exact⟨_,gY ((jI c1).trans (fW rfl))⟩
 ·rw [decide_eq_false hn] at c1
  rw [cF (iV c1)]
  have hf:ya7 fs t=false:=by
   unfold mU at h
   rw [decide_eq_true (show n<200 by omega)] at h
   simpa using h
  have op:opB t=true->¬fs.length<=12->∃q,yi5 [some (bA n fs),some (.str (bJ t))]=some (.ret (.bl false),q):=fun ht hl=>by
   have ln:f2 dLt (f2 dM (aE bD (aA (dJ "Builder" "nests" (aB 0)) aC)) (fC (.int 1))) (fC (.int 12)) [some (bA n fs),some (.str (bJ t))]=some (.bl false):=by
    refine fR (fR (eL (eW nst rfl) rfl) rfl rfl) rfl ?_
    show some (D.bl (decide ((((gA fs).length:Nat):Int)-1<12)))=_
    rw [decide_eq_false (by rw [oJ];omega)]
   have c2:fB (f2 dIn (aB 1) (fC (.tup [(.str "open"),(.str "hang"),(.str "either")]))) [some (bA n fs),some (.str (bJ t))]=some true:=by
    cases t<;>first|(cases ht;done)|kernel_rfl
   exact⟨_,gY ((jI c2).trans (fW ln))⟩
  have sh:zd3 t->∀{f:Fm} {r:List Fm},fs=f::r->rK f.op f.full.length t=false->∃q,yi5 [some (bA n fs),some (.str (bJ t))]=some (.ret (.bl false),q):=fun ht f r e hs=>by
   subst e
   have q:=zz1 w.op ht hs
   have rc:aE nX (aA (dA "Nest" "can_end_by" (f2 dIx (dJ "Builder" "nests" (aB 0)) (bL (fC (.int 1))))) (aA (aB 1) aC)) [some (bA n (f::r)),some (.str (bJ t))]=some (.bl false):=by
    refine eL (ds:=[eA f,.str (bJ t)]) (eW ?_ (eW rfl rfl)) q
    unfold dA
    rw [fR nst rfl (show dIx (.lst true (gA r++[eA f])) (.int (-1))=some (eA f) from zu6 _ _)]
    kernel_rfl
   have c2:fB (f2 dIn (aB 1) (fC (.tup [(.str "open"),(.str "hang"),(.str "either")]))) [some (bA n (f::r)),some (.str (bJ t))]=some false:=by
    rcases ht with rfl|rfl|rfl|rfl<;>kernel_rfl
   have c3:fE fG (aB 1) [some (bA n (f::r)),some (.str (bJ t))]=some true:=by
    rcases ht with rfl|rfl|rfl|rfl<;>kernel_rfl
   exact⟨_,(cF (iV c2)).trans (gY ((jI c3).trans (fW rc)))⟩
  cases fs with
  |nil=>exact w.elim
  |cons f r=>
   cases t with
   |leaf l=>cases hf
   |opn=>exact op rfl (of_decide_eq_false hf)
   |hng m=>exact op rfl (of_decide_eq_false hf)
   |eit=>exact op rfl (of_decide_eq_false hf)
   |cls=>exact sh (.inl rfl) rfl hf
   |bck=>exact sh (.inr (.inl rfl)) rfl hf
   |orr=>exact sh (.inr (.inr (.inl rfl))) rfl hf
   |don=>exact sh (.inr (.inr (.inr rfl))) rfl hf
theorem yh2{k:Nat}(h:k<=1000):L2.zU (.int ((k:Int)+1))=some ((k:Int)+1):=by
 unfold L2.zU
 refine if_pos ?_
 have e:((k:Int)+1).natAbs=k+1:=by omega
 rw [e]
 exact Nat.lt_of_le_of_lt (Nat.log2_le_self _) (by omega)
abbrev uQ:List D->Option Int:=gN 2 2 (kM kO)
theorem yn1{n:Nat}{fs:List Fm}{t:Tk}{b:Bool}(hc:kO [bA n fs,.str (bJ t)]=some (.bl b))(hn:n<=1000):uQ [bA n fs,tkD t]=if b=true then none else some ((n:Int)+1):=by
 show gN 2 2 (kM kO) _=_
 generalize kO=GC at hc
 have s1:aM 2 (aF (bC (f2 dIx (aB 1) (fC (.int 0))))) [some (bA n fs),some (tkD t),none,none]=some (.nx,[some (bA n fs),some (tkD t),some (.str (bJ t)),none]):=by
  refine gF ?_
  rw [xT];simp! [eq_self]
 have e1:aE GC (aA (dA "Builder" "can_stand" (aB 0)) (aA (aB 2) aC)) [some (bA n fs),some (tkD t),some (.str (bJ t)),none]=some (.bl b):=eL (eW (d:=bA n fs) (by simp! [bA]) (eW rfl rfl)) hc
 have e2:aP (fT (aE GC (aA (dA "Builder" "can_stand" (aB 0)) (aA (aB 2) aC)))) [some (bA n fs),some (tkD t),some (.str (bJ t)),none]=some (!b):=by
  unfold aP fT
  rw [e1];rfl
 have e3:nV (f2 aO (dJ "Builder" "taken" (aB 0)) (fC (.int 1))) [some (bA n fs),some (tkD t),some (.str (bJ t)),none]=some ((n:Int)+1):=by
  unfold nV
  rw [show f2 aO (dJ "Builder" "taken" (aB 0)) (fC (.int 1)) [some (bA n fs),some (tkD t),some (.str (bJ t)),none]=some (.int ((n:Int)+1)) by simp! [bA]]
  exact yh2 hn
 unfold gN
 refine(if_pos rfl).trans ?_
 show kM GC [some (bA n fs),some (tkD t),none,none]=_
 unfold kM oQ
 rw [s1]
 show vL _ _ _=_
 unfold vL
 rw [e2]
 cases b with
 |true=>rfl
 |false=>exact e3
abbrev pI:List D->Option Int:=gN 1 0 iG
theorem xa6(n:Nat)(fs:List Fm)(hn:n<=1000):pI [bA n fs]=if 1<fs.length then some ((n:Int)+1) else none:=by
 have e1:fB (f2 dGt (aE bD (aA (dJ "Builder" "nests" (aB 0)) aC)) (fC (.int 1))) [some (bA n fs)]=some (decide (1<fs.length)):=by
  refine uC (fR (x:= .int (gA fs).length) (y:= .int 1) (eL (eW (d:= .lst true (gA fs)) (by simp! [bA]) rfl) rfl) rfl ?_)
  show some (D.bl (decide ((1:Int)<((gA fs).length:Int))))=_
  congr 2
  rw [oJ]
  exact decide_eq_decide.mpr (by omega)
 have e3:nV (f2 aO (dJ "Builder" "taken" (aB 0)) (fC (.int 1))) [some (bA n fs)]=some ((n:Int)+1):=by
  unfold nV
  rw [show f2 aO (dJ "Builder" "taken" (aB 0)) (fC (.int 1)) [some (bA n fs)]=some (.int ((n:Int)+1)) by simp! [bA]]
  exact yh2 hn
 show gN 1 0 iG _=_
 unfold gN
 refine(if_pos rfl).trans ?_
 show iG [some (bA n fs)]=_
 unfold iG vL
 rw [e1]
 by_cases h:1<fs.length
 ·rw [if_pos h,decide_eq_true h];exact e3
 ·rw [if_neg h,decide_eq_false h]
abbrev iA:tz1:=aR (bH 1 aU (cI [.im (aB 2)]) (kW "Builder" "add" oW))
abbrev jS:PSt->Option Int:=wO 1 aU (cI [.im (aB 2)]) (oR "Builder" "add" uQ)
theorem xW{x0:Option D}{n:Nat}{fs g:List Fm}{t:Tk}(q:oW [bA n fs,tkD t]=some (.non,[bA (n+1) g,tkD t])):iA [x0,some (bA n fs),some (tkD t)]=some (.nx,[x0,some (bA (n+1) g),some (tkD t)]):=by
 have hi:=pP t
 unfold iA
 generalize oW=GA at q
 have hm:kW "Builder" "add" GA [tkD t] (bA n fs)=some (.non,bA (n+1) g):=by
  have nf:cL nsB "add"=none:=by simp! [eq_self]
  show(if (("Builder":Str)="Builder"/\cL nsB "add"=none) then(GA [bA n fs,tkD t]).bind _ else none)=_
  rw [if_pos ⟨rfl,nf⟩,q];rfl
 generalize tkD t=d at hi hm|-
 simp! [hi,hm]
theorem xX{x0:Option D}{n:Nat}{fs:List Fm}{t:Tk}{r:Option Int}(q:uQ [bA n fs,tkD t]=r):jS [x0,some (bA n fs),some (tkD t)]=r:=by
 have hi:=pP t
 unfold jS
 generalize uQ=GA at q
 have hm:oR "Builder" "add" GA [tkD t] (bA n fs)=r:=by
  have nf:cL nsB "add"=none:=by simp! [eq_self]
  show(if (("Builder":Str)="Builder"/\cL nsB "add"=none) then GA [bA n fs,tkD t] else none)=_
  rw [if_pos ⟨rfl,nf⟩,q]
 have ha:cI [.im (aB 2)] [x0,some (bA n fs),some (tkD t)]=some [tkD t]:=by
  generalize tkD t=d at hi|-
  simp! [hi]
 show(match cI [.im (aB 2)] [x0,some (bA n fs),some (tkD t)] with|some ys=>(bV (pK (oR "Builder" "add" GA) ys) (bA n fs) []).bind fun r=>some r.1|none=>none)=_
 rw [ha]
 show((pK (oR "Builder" "add" GA) [tkD t] (bA n fs)).bind fun r=>some r.1)=_
 unfold pK
 rw [hm]
 cases r<;>rfl
theorem xY{x0:Option D}:∀{ts:List Tk} {n:Nat} {fs fs':List Fm} {x2:Option D},Wf fs->Bd8 n fs->Walk8 n fs ts fs'->∃y2,eM 2 iA (aK ts) [x0,some (bA n fs),x2]=some (.nx,[x0,some (bA (n+ts.length) fs'),y2])
 |_,_,_,_,x2,_,_,.nil=>⟨x2,rfl⟩
 |_,n,fs,fs',x2,w,b,.cons (t:=t) (ts:=ts) (g:=g) hf hg h=>by
  have h0:n<200:=of_decide_eq_true (Bool.and_eq_true_iff.mp hf).1
  obtain⟨y2,q⟩:=xY (x0:=x0) (x2:=some (tkD t)) (sM w hf hg) (sN b hg) h
  refine⟨y2,?_⟩
  show eM 2 iA (tkD t::aK ts) _=_
  rw [eM]
  show(iA [x0,some (bA n fs),some (tkD t)]).bind _=_
  rw [xW (xV w b (by omega) hf hg),Option.bind_some]
  show eM 2 iA (aK ts) [x0,some (bA (n+1) g),some (tkD t)]=_
  rw [q,List.length_cons,show n+1+ts.length=n+(ts.length+1) by omega]
theorem zg3{x0:Option D}:∀{ts:List Tk} {n:Nat} {fs fs':List Fm} {x2:Option D},Wf fs->Bd8 n fs->Walk8 n fs ts fs'->gL 2 iA jS (aK ts) [x0,some (bA n fs),x2]=none
 |_,_,_,_,x2,_,_,.nil=>rfl
 |_,n,fs,fs',x2,w,b,.cons (t:=t) (ts:=ts) (g:=g) hf hg h=>by
  have h0:n<200:=of_decide_eq_true (Bool.and_eq_true_iff.mp hf).1
  have q:=zg3 (x0:=x0) (x2:=some (tkD t)) (sM w hf hg) (sN b hg) h
  show gL 2 iA jS (tkD t::aK ts) _=_
  rw [gL]
  show(match jS [x0,some (bA n fs),some (tkD t)] with|some n=>some n|none=>match iA [x0,some (bA n fs),some (tkD t)] with|some (.nx,p)=>gL 2 iA jS (aK ts) p|some (.ct,p)=>gL 2 iA jS (aK ts) p|_=>none)=_
  rw [xX (yn1 (qP (by cases fs with|nil=>exact w.elim|cons=>simp! [eq_self]) (zd0 hf)) (by omega)),xW (xV w b (by omega) hf hg)]
  exact q
theorem zp4{x0:Option D}:∀{a:List Tk} {n:Nat} {fs g:List Fm} {t:Tk} {c:List Tk} {x2:Option D},Wf fs->Bd8 n fs->Walk8 n fs a g->Wf g->mU (n+a.length) g t=false->n+a.length<=900->gL 2 iA jS (aK (a++t::c)) [x0,some (bA n fs),x2]=some (((n+a.length:Nat):Int)+1)
 |_,n,fs,_,t,c,x2,w,b,.nil,wg,hb,hl=>by
  show gL 2 iA jS (tkD t::aK c) _=_
  rw [gL]
  show(match jS [x0,some (bA n fs),some (tkD t)] with|some n=>some n|none=>_)=_
  rw [xX (n:=n) (yn1 (zp3 w (show mU n fs t=false from hb)) (Nat.le_trans (show n<=900 from hl) (by decide)))]
  rfl
 |_,n,fs,g',t',c,x2,w,b,.cons (t:=t) (ts:=ts) (g:=g) hf hg h,wg,hb,hl=>by
  have h0:n<200:=of_decide_eq_true (Bool.and_eq_true_iff.mp hf).1
  rw [List.length_cons] at hb hl
  have q:=zp4 (x0:=x0) (x2:=some (tkD t)) (c:=c) (sM w hf hg) (sN b hg) h wg (by rw [show n+1+ts.length=n+(ts.length+1) by omega];exact hb) (by omega)
  show gL 2 iA jS (tkD t::aK (ts++t'::c)) _=_
  rw [gL]
  show(match jS [x0,some (bA n fs),some (tkD t)] with|some n=>some n|none=>match iA [x0,some (bA n fs),some (tkD t)] with|some (.nx,p)=>gL 2 iA jS (aK (ts++t'::c)) p|some (.ct,p)=>gL 2 iA jS (aK (ts++t'::c)) p|_=>none)=_
  rw [xX (yn1 (qP (by cases fs with|nil=>exact w.elim|cons=>simp! [eq_self]) (zd0 hf)) (by omega)),xW (xV w b (by omega) hf hg)]
  show gL 2 iA jS (aK (ts++t'::c)) [x0,some (bA (n+1) g),some (tkD t)]=_
  rw [q,List.length_cons,show n+1+ts.length=n+(ts.length+1) by omega]
abbrev zZ:tz6:=gP 1 0 nW
abbrev za0:tz6:=gP 1 0 (lR zZ)
theorem yh3(n:Nat)(f:Fm):zZ [bA n [f]]=some (.tup (dY f.parts)):=by
 refine jL rfl (p:=[some (bA n [f])]) (fW (eL (ds:=[.lst true (dY f.parts)]) (eW ?_ rfl) (by simp! [jF])))
 simp! [bA,gA,eA]
theorem zp5(n:Nat)(f:Fm):za0 [bA n [f]]=some (.tup (dY f.parts)):=by
 have q:=yh3 n f
 show gP 1 0 (lR zZ) _=_
 generalize zZ=G at q
 have s1:fIf (aG (fB (f2 dGt (aE bD (aA (dJ "Builder" "nests" (aB 0)) aC)) (fC (.int 1))))) qT aJ [some (bA n [f])]=some (.nx,[some (bA n [f])]):=by
  simp! [bA,gA]
 exact jL rfl ((cF s1).trans (fW (eL (eW (d:=bA n [f]) (by simp! [bA]) rfl) q)))
abbrev vP:tz6:=gP 1 2 (rR pS oW za0)
abbrev qD:List D->Option Int:=gN 1 2 (lD pS oW uQ pI)
theorem wf0:Wf [fU]:=rfl
theorem bd0:Bd8 0 [fU]:=⟨by simp! [eq_self],fun f hf=>by rw [List.mem_singleton.mp hf];exact⟨Nat.le_refl _,Nat.zero_le _⟩⟩
theorem zp6{o:Bool}{ts:List Tk}:aM 1 (aF (eD "Builder" aC pS)) [some (.lst o (aK ts)),none,none]=some (.nx,[some (.lst o (aK ts)),some (bA 0 [fU]),none]):=by
 have qb:=xa2
 generalize pS=GB at qb
 refine gF ?_
 unfold eD
 show((GB [.obj true "Builder" [] []]).bind _)=_
 rw [qb];rfl
theorem wG{o:Bool}{ts:List Tk}{b:D}:dI (aB 0) [some (.lst o (aK ts)),some b,none]=some (aK ts):=by
 show(if D.imms (aK ts)=true then some (aK ts) else none)=_
 rw [if_pos (jW _)]
theorem yh4{o:Bool}{ts:List Tk}{f:Fm}(h:Walk8 0 [fU] ts [f]):vP [.lst o (aK ts)]=some (.tup (dY f.parts)):=by
 obtain⟨y2,q⟩:=xY (x0:=some (.lst o (aK ts))) (x2:=none) wf0 bd0 h
 have qw:=zp5 (0+ts.length) f
 show gP 1 2 (rR pS oW za0) _=_
 have s2:dG 2 (dI (aB 0)) iA [some (.lst o (aK ts)),some (bA 0 [fU]),none]=some (.nx,[some (.lst o (aK ts)),some (bA (0+ts.length) [f]),y2]):=by
  unfold dG
  rw [wG];exact q
 generalize za0=GW at qw
 exact jL rfl ((cF zp6).trans ((cF s2).trans (fW (eL (eW (d:=bA (0+ts.length) [f]) (by simp! [bA]) rfl) qw))))
theorem yp2{np n:Nat}{f:PSt->Option Int}{ds:List D}{k:Int}(hl:ds.length=np)(h:f (ds.map some++List.replicate n none)=some k):gN np n f ds=some k:=by unfold gN;rw [if_pos hl];exact h
theorem zz2{o:Bool}{a c:List Tk}{t:Tk}{g:List Fm}(h:Walk8 0 [fU] a g)(w:Wf g)(hb:mU a.length g t=false)(hl:a.length<=900):qD [.lst o (aK (a++t::c))]=some ((a.length:Int)+1):=by
 have q:=zp4 (x0:=some (.lst o (aK (a++t::c)))) (x2:=none) (c:=c) wf0 bd0 h w (by rw [Nat.zero_add];exact hb) (by omega)
 rw [Nat.zero_add] at q
 refine yp2 rfl ?_
 show lD pS oW uQ pI [some (.lst o (aK (a++t::c))),none,none]=_
 unfold lD oQ
 rw [zp6]
 show uJ (rG 2 (dI (aB 0)) iA jS) _ [some (.lst o (aK (a++t::c))),some (bA 0 [fU]),none]=_
 unfold uJ rG
 rw [wG]
 show(match gL 2 iA jS (aK (a++t::c)) [some (.lst o (aK (a++t::c))),some (bA 0 [fU]),none] with|some n=>some n|none=>_)=_
 rw [q]
theorem zs1{o:Bool}{ts:List Tk}{fs:List Fm}(h:Walk8 0 [fU] ts fs)(h2:1<fs.length):qD [.lst o (aK ts)]=some ((ts.length:Int)+1):=by
 obtain⟨y2,q⟩:=xY (x0:=some (.lst o (aK ts))) (x2:=none) wf0 bd0 h
 have q0:=zg3 (x0:=some (.lst o (aK ts))) (x2:=none) wf0 bd0 h
 have hn:ts.length<=1000:=by
  cases ts with
  |nil=>simp! [eq_self]
  |cons t ts=>have:=zp2 h (by simp! [eq_self]);omega
 have qw:=xa6 (0+ts.length) fs (by omega)
 rw [if_pos h2,Nat.zero_add] at qw
 rw [Nat.zero_add] at q
 have s2:dG 2 (dI (aB 0)) iA [some (.lst o (aK ts)),some (bA 0 [fU]),none]=some (.nx,[some (.lst o (aK ts)),some (bA ts.length fs),y2]):=by
  unfold dG
  rw [wG];exact q
 refine yp2 rfl ?_
 show lD pS oW uQ pI [some (.lst o (aK ts)),none,none]=_
 unfold lD oQ
 rw [zp6]
 show uJ (rG 2 (dI (aB 0)) iA jS) _ [some (.lst o (aK ts)),some (bA 0 [fU]),none]=_
 unfold uJ rG
 rw [wG]
 show(match gL 2 iA jS (aK ts) [some (.lst o (aK ts)),some (bA 0 [fU]),none] with|some n=>some n|none=>match dG 2 (dI (aB 0)) iA [some (.lst o (aK ts)),some (bA 0 [fU]),none] with|some (.nx,p)=>uK "Builder" "whole_row" (aB 1) pI p|_=>none)=_
 rw [q0,s2]
 show uK "Builder" "whole_row" (aB 1) pI [some (.lst o (aK ts)),some (bA ts.length fs),y2]=_
 unfold uK
 generalize pI=GW at qw
 rw [show dA "Builder" "whole_row" (aB 1) [some (.lst o (aK ts)),some (bA ts.length fs),y2]=some (bA ts.length fs) by simp! [bA]]
 exact qw
def nwF(f:Fm):D:= .lst true [.str (match f.op with|some t=>bJ t|none=>"row"),.int ((f.full.length:Int)+1)]
def nwD:List Fm->List D
 |[]=>[]
 |[_]=>[]
 |f::g::r=>nwD (g::r)++[nwF f]
theorem wH:∀{fs:List Fm},Wf fs->(nwD fs).length+1=fs.length
 |[],w=>w.elim
 |[_],_=>rfl
 |f::g::r,w=>by
  show(nwD (g::r)++[nwF f]).length+1=(g::r).length+1
  rw [List.length_append,<-wH w.2];rfl
theorem wI(g:Fm)(p:Pc)(r:List Fm):nwD (put g p::r)=nwD (g::r):=by cases r<;>rfl
def oX:tz1:=
 (fIf (aG (fB (f2 dIn (aB 3) (aX (fKs [.str "open",.str "hang",.str "either"])))))
  (aI (fIf (aG (fB (f2 dEq (aE bD (aA (aB 1) aC)) (fC (.int 12)))))
  (aZ (aF (f2 aO (aB 2) (fC (.int 1)))))
  aJ)
 (aR (bH 1 aU (aA (aX (aA (bC (aB 3)) (aA (fC (.int 1)) aC))) aC) aL)))
  aJ)
def lG:tz1:=
 (aI (fIf (aG (bM (fB (f2 dEq (aE bD (aA (aB 1) aC)) (fC (.int 0)))) (fB (f2 dNe (f2 dIx (f2 dIx (aB 1) (bL (fC (.int 1)))) (fC (.int 0))) (aB 4)))))
  (aZ (aF (f2 aO (aB 2) (fC (.int 1)))))
  aJ)
 (aI (aM 5 (aF (bC (f2 dIx (f2 dIx (aB 1) (bL (fC (.int 1)))) (fC (.int 1))))))
 (aI (fIf (aG (bM (bB (fB (f2 dEq (aB 3) (fC (.str "or")))) (fB (f2 dEq (aB 5) (fC (.int 4))))) (bB (fB (f2 dEq (aB 3) (fC (.str "done")))) (fB (f2 dEq (aB 5) (fC (.int 1)))))))
  (aZ (aF (f2 aO (aB 2) (fC (.int 1)))))
  aJ)
 (aI (cA 1 (bP 1 aU (bL (fC (.int 1)))) (fC (.int 1)) (f2 aO (aB 5) (fC (.int 1))))
 (fIf (aG (fB (f2 dNe (aB 3) (fC (.str "or")))))
  (aR (bH 1 aU aC bZ))
  aJ)))))
def pZ:tz1:=
 (fIf (aG (fB (f2 dIn (aB 3) (aX (fKs [.str "close",.str "back",.str "or",.str "done"])))))
  (aI (aM 4 (aF (f2 cP (dE [("close",(fC (.str "open"))),("back",(fC (.str "hang"))),("or",(fC (.str "either"))),("done",(fC (.str "either")))]) (aB 3))))
 lG)
  aJ)
def nB:tz1:=
 (aI (aM 3 (aF (bC (f2 dIx (f2 dIx (aB 0) (aB 2)) (fC (.int 0))))))
 (aI (fIf (aG (fB (f2 dGe (aB 2) (fC (.int 200)))))
  (aZ (aF (f2 aO (aB 2) (fC (.int 1)))))
  aJ)
 (aI oX pZ)))
theorem rV{α:Type}{xs:List α}{n:Nat}{a:α}(h:xs[n]? =some a):atI xs (n:Int)=some a:=by
 have hl:=(List.getElem?_eq_some_iff.mp h).1
 unfold atI ixN
 rw [if_pos (by omega),if_pos (by omega)]
 show xs[((n:Int)).toNat]? =_
 rw [Int.toNat_natCast];exact h
def byT:Tk->String
 | .cls=>"open"
 | .bck=>"hang"
 |_=>"either"
theorem nU{x0 x1 x2 x4 x5:Option D}{t:Tk}(h:opB t=false):oX [x0,x1,x2,some (.str (bJ t)),x4,x5]=some (.nx,[x0,x1,x2,some (.str (bJ t)),x4,x5]):=by
 cases t with
 |leaf l=>cases l<;>simp [gP,aI,aJ,aM,aF,fIf,aG,fB,f2,aB,fC,bC,aZ,bQ,aR,bH,aU,bV,bX,aA,aC,aX,bF,fKs,aE,dEq,dNe,eqB,dB,dIx,bD,aL,bZ,D.imm,D.imms,aO,fT,bG,aH,bR,bS,bU,bP,cA,cC,bL,dIn,inB,bN,D.flat,D.flats,inV,eqV,aP,bB,bM,dLt,dLe,dGt,dGe,D.key,cP,cX,dE,cQ,aQ,aT,cD,dO,L2.aS,oX,bJ]
 |opn=>cases h
 |hng m=>cases h
 |eit=>cases h
 |_=>simp [gP,aI,aJ,aM,aF,fIf,aG,fB,f2,aB,fC,bC,aZ,bQ,aR,bH,aU,bV,bX,aA,aC,aX,bF,fKs,aE,dEq,dNe,eqB,dB,dIx,bD,aL,bZ,D.imm,D.imms,aO,fT,bG,aH,bR,bS,bU,bP,cA,cC,bL,dIn,inB,bN,D.flat,D.flats,inV,eqV,aP,bB,bM,dLt,dLe,dGt,dGe,D.key,cP,cX,dE,cQ,aQ,aT,cD,dO,L2.aS,oX,bJ]
theorem zg4{x0 x1 x2 x4 x5:Option D}{t:Tk}(h:¬zd3 t):pZ [x0,x1,x2,some (.str (bJ t)),x4,x5]=some (.nx,[x0,x1,x2,some (.str (bJ t)),x4,x5]):=by
 cases t with
 |leaf l=>cases l<;>simp [gP,aI,aJ,aM,aF,fIf,aG,fB,f2,aB,fC,bC,aZ,bQ,aR,bH,aU,bV,bX,aA,aC,aX,bF,fKs,aE,dEq,dNe,eqB,dB,dIx,bD,aL,bZ,D.imm,D.imms,aO,fT,bG,aH,bR,bS,bU,bP,cA,cC,bL,dIn,inB,bN,D.flat,D.flats,inV,eqV,aP,bB,bM,dLt,dLe,dGt,dGe,D.key,cP,cX,dE,cQ,aQ,aT,cD,dO,L2.aS,pZ,bJ]
 |cls=>exact absurd (.inl rfl) h
 |bck=>exact absurd (.inr (.inl rfl)) h
 |orr=>exact absurd (.inr (.inr (.inl rfl))) h
 |don=>exact absurd (.inr (.inr (.inr rfl))) h
 |_=>simp [gP,aI,aJ,aM,aF,fIf,aG,fB,f2,aB,fC,bC,aZ,bQ,aR,bH,aU,bV,bX,aA,aC,aX,bF,fKs,aE,dEq,dNe,eqB,dB,dIx,bD,aL,bZ,D.imm,D.imms,aO,fT,bG,aH,bR,bS,bU,bP,cA,cC,bL,dIn,inB,bN,D.flat,D.flats,inV,eqV,aP,bB,bM,dLt,dLe,dGt,dGe,D.key,cP,cX,dE,cQ,aQ,aT,cD,dO,L2.aS,pZ,bJ]
theorem yu5{x0 x4 x5:Option D}{xs:List D}{n:Nat}{t:Tk}(h:opB t=true)(hl:xs.length<12):oX [x0,some (.lst true xs),some (.int n),some (.str (bJ t)),x4,x5]=some (.nx,[x0,some (.lst true (xs++[.lst true [.str (bJ t),.int 1]])),some (.int n),some (.str (bJ t)),x4,x5]):=by
 have h1:¬(xs.length:Int)=12:=by omega
 have hz:xs.length<sizeLine:=sz1 (by omega)
 cases t<;>first|(cases h;done)|simp [gP,aI,aJ,aM,aF,fIf,aG,fB,f2,aB,fC,bC,aZ,bQ,aR,bH,aU,bV,bX,aA,aC,aX,bF,fKs,aE,dEq,dNe,eqB,dB,dIx,bD,aL,bZ,D.imm,D.imms,aO,fT,bG,aH,bR,bS,bU,bP,cA,cC,bL,dIn,inB,bN,D.flat,D.flats,inV,eqV,aP,bB,bM,dLt,dLe,dGt,dGe,D.key,cP,cX,dE,cQ,aQ,aT,cD,dO,L2.aS,oX,bJ,h1,hz]
theorem yu6{x0 x4 x5:Option D}{xs:List D}{n:Nat}{t:Tk}(h:opB t=true)(hl:xs.length=12):oX [x0,some (.lst true xs),some (.int n),some (.str (bJ t)),x4,x5]=some (.ret (.int ((n:Int)+1)),[x0,some (.lst true xs),some (.int n),some (.str (bJ t)),x4,x5]):=by
 have h1:(xs.length:Int)=12:=by omega
 cases t<;>first|(cases h;done)|simp [gP,aI,aJ,aM,aF,fIf,aG,fB,f2,aB,fC,bC,aZ,bQ,aR,bH,aU,bV,bX,aA,aC,aX,bF,fKs,aE,dEq,dNe,eqB,dB,dIx,bD,aL,bZ,D.imm,D.imms,aO,fT,bG,aH,bR,bS,bU,bP,cA,cC,bL,dIn,inB,bN,D.flat,D.flats,inV,eqV,aP,bB,bM,dLt,dLe,dGt,dGe,D.key,cP,cX,dE,cQ,aQ,aT,cD,dO,L2.aS,oX,bJ,h1]
theorem sO{x0 x1 x2 x4 x5:Option D}{t:Tk}(h:zd3 t):pZ [x0,x1,x2,some (.str (bJ t)),x4,x5]=lG [x0,x1,x2,some (.str (bJ t)),some (.str (byT t)),x5]:=by
 rcases h with rfl|rfl|rfl|rfl<;>simp [gP,aI,aJ,aM,aF,fIf,aG,fB,f2,aB,fC,bC,aZ,bQ,aR,bH,aU,bV,bX,aA,aC,aX,bF,fKs,aE,dEq,dNe,eqB,dB,dIx,bD,aL,bZ,D.imm,D.imms,aO,fT,bG,aH,bR,bS,bU,bP,cA,cC,bL,dIn,inB,bN,D.flat,D.flats,inV,eqV,aP,bB,bM,dLt,dLe,dGt,dGe,D.key,cP,cX,dE,cQ,aQ,aT,cD,dO,L2.aS,pZ,bJ,byT]
theorem yu7{x0 x5:Option D}{n:Nat}{k b:Str}:lG [x0,some (.lst true []),some (.int n),some (.str k),some (.str b),x5]=some (.ret (.int ((n:Int)+1)),[x0,some (.lst true []),some (.int n),some (.str k),some (.str b),x5]):=by simp [gP,aI,aJ,aM,aF,fIf,aG,fB,f2,aB,fC,bC,aZ,bQ,aR,bH,aU,bV,bX,aA,aC,aX,bF,fKs,aE,dEq,dNe,eqB,dB,dIx,bD,aL,bZ,D.imm,D.imms,aO,fT,bG,aH,bR,bS,bU,bP,cA,cC,bL,dIn,inB,bN,D.flat,D.flats,inV,eqV,aP,bB,bM,dLt,dLe,dGt,dGe,D.key,cP,cX,dE,cQ,aQ,aT,cD,dO,L2.aS,lG]
theorem yn2{x0 x5:Option D}{n:Nat}{k b c:Str}{i:Int}{xs:List D}(h:c≠b):lG [x0,some (.lst true (xs++[.lst true [.str c,.int i]])),some (.int n),some (.str k),some (.str b),x5]=some (.ret (.int ((n:Int)+1)),[x0,some (.lst true (xs++[.lst true [.str c,.int i]])),some (.int n),some (.str k),some (.str b),x5]):=by
 have h1:¬((xs++[D.lst true [.str c,.int i]]).length:Int)=0:=by simp;omega
 simp [gP,aI,aJ,aM,aF,fIf,aG,fB,f2,aB,fC,bC,aZ,bQ,aR,bH,aU,bV,bX,aA,aC,aX,bF,fKs,aE,dEq,dNe,eqB,dB,dIx,bD,aL,bZ,D.imm,D.imms,aO,fT,bG,aH,bR,bS,bU,bP,cA,cC,bL,dIn,inB,bN,D.flat,D.flats,inV,eqV,aP,bB,bM,dLt,dLe,dGt,dGe,D.key,cP,cX,dE,cQ,aQ,aT,cD,dO,L2.aS,lG,h]
theorem yu8{x0 x5:Option D}{n:Nat}{k b:Str}{i:Int}{xs:List D}(h:(k="or"/\i=4)\/(k="done"/\i=1)):lG [x0,some (.lst true (xs++[.lst true [.str b,.int i]])),some (.int n),some (.str k),some (.str b),x5]=some (.ret (.int ((n:Int)+1)),[x0,some (.lst true (xs++[.lst true [.str b,.int i]])),some (.int n),some (.str k),some (.str b),some (.int i)]):=by
 have h0:¬(xs.length:Int)+1=0:=by omega
 rcases h with ⟨rfl,rfl⟩|⟨rfl,rfl⟩<;>simp [gP,aI,aJ,aM,aF,fIf,aG,fB,f2,aB,fC,bC,aZ,bQ,aR,bH,aU,bV,bX,aA,aC,aX,bF,fKs,aE,dEq,dNe,eqB,dB,dIx,bD,aL,bZ,D.imm,D.imms,aO,fT,bG,aH,bR,bS,bU,bP,cA,cC,bL,dIn,inB,bN,D.flat,D.flats,inV,eqV,aP,bB,bM,dLt,dLe,dGt,dGe,D.key,cP,cX,dE,cQ,aQ,aT,cD,dO,L2.aS,lG,h0]
theorem xd9{x0 x5:Option D}{n:Nat}{b:Str}{i:Int}{xs:List D}(h:i≠4):lG [x0,some (.lst true (xs++[.lst true [.str b,.int i]])),some (.int n),some (.str "or"),some (.str b),x5]=some (.nx,[x0,some (.lst true (xs++[.lst true [.str b,.int (i+1)]])),some (.int n),some (.str "or"),some (.str b),some (.int i)]):=by
 have h0:¬(xs.length:Int)+1=0:=by omega
 simp [gP,aI,aJ,aM,aF,fIf,aG,fB,f2,aB,fC,bC,aZ,bQ,aR,bH,aU,bV,bX,aA,aC,aX,bF,fKs,aE,dEq,dNe,eqB,dB,dIx,bD,aL,bZ,D.imm,D.imms,aO,fT,bG,aH,bR,bS,bU,bP,cA,cC,bL,dIn,inB,bN,D.flat,D.flats,inV,eqV,aP,bB,bM,dLt,dLe,dGt,dGe,D.key,cP,cX,dE,cQ,aQ,aT,cD,dO,L2.aS,lG,h,h0]
theorem zd1{x0 x5:Option D}{n:Nat}{k b:Str}{i:Int}{xs:List D}(h1:k≠"or")(h2:¬(k="done"/\i=1)):lG [x0,some (.lst true (xs++[.lst true [.str b,.int i]])),some (.int n),some (.str k),some (.str b),x5]=some (.nx,[x0,some (.lst true xs),some (.int n),some (.str k),some (.str b),some (.int i)]):=by
 have h0:¬(xs.length:Int)+1=0:=by omega
 by_cases h:k="done"
 ·have:¬i=1:=fun z=>h2 ⟨h,z⟩
  simp [gP,aI,aJ,aM,aF,fIf,aG,fB,f2,aB,fC,bC,aZ,bQ,aR,bH,aU,bV,bX,aA,aC,aX,bF,fKs,aE,dEq,dNe,eqB,dB,dIx,bD,aL,bZ,D.imm,D.imms,aO,fT,bG,aH,bR,bS,bU,bP,cA,cC,bL,dIn,inB,bN,D.flat,D.flats,inV,eqV,aP,bB,bM,dLt,dLe,dGt,dGe,D.key,cP,cX,dE,cQ,aQ,aT,cD,dO,L2.aS,lG,h,this,h0]
 ·simp [gP,aI,aJ,aM,aF,fIf,aG,fB,f2,aB,fC,bC,aZ,bQ,aR,bH,aU,bV,bX,aA,aC,aX,bF,fKs,aE,dEq,dNe,eqB,dB,dIx,bD,aL,bZ,D.imm,D.imms,aO,fT,bG,aH,bR,bS,bU,bP,cA,cC,bL,dIn,inB,bN,D.flat,D.flats,inV,eqV,aP,bB,bM,dLt,dLe,dGt,dGe,D.key,cP,cX,dE,cQ,aQ,aT,cD,dO,L2.aS,lG,h1,h,h0]
theorem zM{x3 x4 x5:Option D}{o:Bool}{all:List Tk}{xs:List D}{n:Nat}{t:Tk}(h:all[n]? =some t):aM 3 (aF (bC (f2 dIx (f2 dIx (aB 0) (aB 2)) (fC (.int 0))))) [some (.lst o (aK all)),some (.lst true xs),some (.int n),x3,x4,x5]=some (.nx,[some (.lst o (aK all)),some (.lst true xs),some (.int n),some (.str (bJ t)),x4,x5]):=by
 refine gF ?_
 have q:f2 dIx (aB 0) (aB 2) [some (.lst o (aK all)),some (.lst true xs),some (.int n),x3,x4,x5]=some (tkD t):=fR (x:= .lst o (aK all)) (y:= .int n) rfl rfl (rV (by rw [show aK all=all.map tkD from rfl,List.getElem?_map,h];rfl))
 unfold bC
 rw [fR q rfl (show dIx (tkD t) (.int 0)=some (.str (bJ t)) by rw [xT];simp [gP,aI,aJ,aM,aF,fIf,aG,fB,f2,aB,fC,bC,aZ,bQ,aR,bH,aU,bV,bX,aA,aC,aX,bF,fKs,aE,dEq,dNe,eqB,dB,dIx,bD,aL,bZ,D.imm,D.imms,aO,fT,bG,aH,bR,bS,bU,bP,cA,cC,bL,dIn,inB,bN,D.flat,D.flats,inV,eqV,aP,bB,bM,dLt,dLe,dGt,dGe,D.key,cP,cX,dE,cQ,aQ,aT,cD,dO,L2.aS])]
 rfl
theorem zp7{p:PSt}{n:Nat}(h:aB 2 p=some (.int n)):fB (f2 dGe (aB 2) (fC (.int 200))) p=some (decide (200<=n)):=uC (fR (x:= .int n) (y:= .int 200) h rfl (show some (D.bl (decide ((200:Int)<=(n:Int))))=_ by rw [show decide ((200:Int)<=(n:Int))=decide (200<=n) from decide_eq_decide.mpr (by omega)]))
theorem zN{x3 x4 x5:Option D}{o:Bool}{all:List Tk}{xs:List D}{n:Nat}{t:Tk}(h:all[n]? =some t)(hn:n<200):nB [some (.lst o (aK all)),some (.lst true xs),some (.int n),x3,x4,x5]=aI oX pZ [some (.lst o (aK all)),some (.lst true xs),some (.int n),some (.str (bJ t)),x4,x5]:=by
 unfold nB
 rw [cF (zM h)]
 exact cF (iV ((zp7 rfl).trans (by rw [decide_eq_false (by omega)])))
theorem yh5{x3 x4 x5:Option D}{o:Bool}{all:List Tk}{xs:List D}{n:Nat}{t:Tk}(h:all[n]? =some t)(hn:200<=n):∃q,nB [some (.lst o (aK all)),some (.lst true xs),some (.int n),x3,x4,x5]=some (.ret (.int ((n:Int)+1)),q):=by
 unfold nB
 rw [cF (zM h)]
 exact⟨_,gY ((jI ((zp7 rfl).trans (by rw [decide_eq_true hn]))).trans (fW rfl))⟩
theorem zp8{x3 x4 x5:Option D}{o:Bool}{all:List Tk}{n:Nat}{fs g:List Fm}{t:Tk}(w:Wf fs)(b:Bd8 n fs)(ha:all[n]? =some t)(hf:mU n fs t=true)(hg:Goes fs t g):
  ∃y3 y4 y5,nB [some (.lst o (aK all)),some (.lst true (nwD fs)),some (.int n),x3,x4,x5]=some (.nx,[some (.lst o (aK all)),some (.lst true (nwD g)),some (.int n),y3,y4,y5]):=by
 have h0:n<200:=of_decide_eq_true (Bool.and_eq_true_iff.mp hf).1
 rw [zN ha h0]
 cases hg with
 |leaf=>
  rename_i f r l
  exact⟨_,_,_,by rw [cF (nU rfl),zg4 (by intro z;rcases z with z|z|z|z<;>cases z),wI]⟩
 |opn ht hl=>
  have hw:=wH w
  have ns:¬zd3 t:=by intro z;rcases z with rfl|rfl|rfl|rfl<;>cases ht
  refine⟨_,_,_,by rw [cF (yu5 ht (by omega)),zg4 ns];cases fs with|nil=>exact w.elim|cons f r=>rfl⟩
 | orr ho hl=>
  rename_i f r
  obtain⟨g',r',rfl⟩:=w.two ho
  have e:nwD (f::g'::r')=nwD (g'::r')++[.lst true [.str "either",.int ((f.full.length:Int)+1)]]:=by show _++[nwF f]=_;unfold nwF;rw [ho];rfl
  refine⟨some (.str "or"),some (.str "either"),some (.int ((f.full.length:Int)+1)),?_⟩
  rw [e,cF (nU (t:= .orr) rfl),sO (t:= .orr) (.inr (.inr (.inl rfl)))]
  refine(xd9 (by omega)).trans ?_
  have e2:nwD ({f with full:=f.full++[f.parts],parts:=[]}::g'::r')=nwD (g'::r')++[.lst true [.str "either",.int ((f.full.length:Int)+1+1)]]:=by
   show _++[nwF {f with full:=f.full++[f.parts],parts:=[]}]=_
   unfold nwF
   rw [ho]
   show _++[D.lst true [.str "either",.int (((f.full++[f.parts]).length:Int)+1)]]=_
   rw [List.length_append];rfl
  rw [e2]
 |cls ho=>
  rename_i f g' r
  have e:nwD (f::g'::r)=nwD (g'::r)++[.lst true [.str "open",.int ((f.full.length:Int)+1)]]:=by show _++[nwF f]=_;unfold nwF;rw [ho];rfl
  refine⟨some (.str "close"),some (.str "open"),some (.int ((f.full.length:Int)+1)),?_⟩
  rw [e,wI,cF (nU (t:= .cls) rfl),sO (t:= .cls) (.inl rfl)]
  exact zd1 (by simp [gP,aI,aJ,aM,aF,fIf,aG,fB,f2,aB,fC,bC,aZ,bQ,aR,bH,aU,bV,bX,aA,aC,aX,bF,fKs,aE,dEq,dNe,eqB,dB,dIx,bD,aL,bZ,D.imm,D.imms,aO,fT,bG,aH,bR,bS,bU,bP,cA,cC,bL,dIn,inB,bN,D.flat,D.flats,inV,eqV,aP,bB,bM,dLt,dLe,dGt,dGe,D.key,cP,cX,dE,cQ,aQ,aT,cD,dO,L2.aS,bJ]) (by simp [gP,aI,aJ,aM,aF,fIf,aG,fB,f2,aB,fC,bC,aZ,bQ,aR,bH,aU,bV,bX,aA,aC,aX,bF,fKs,aE,dEq,dNe,eqB,dB,dIx,bD,aL,bZ,D.imm,D.imms,aO,fT,bG,aH,bR,bS,bU,bP,cA,cC,bL,dIn,inB,bN,D.flat,D.flats,inV,eqV,aP,bB,bM,dLt,dLe,dGt,dGe,D.key,cP,cX,dE,cQ,aQ,aT,cD,dO,L2.aS,bJ])
 |bck ho=>
  rename_i f g' r m
  have e:nwD (f::g'::r)=nwD (g'::r)++[.lst true [.str "hang",.int ((f.full.length:Int)+1)]]:=by show _++[nwF f]=_;unfold nwF;rw [ho];rfl
  refine⟨some (.str "back"),some (.str "hang"),some (.int ((f.full.length:Int)+1)),?_⟩
  rw [e,wI,cF (nU (t:= .bck) rfl),sO (t:= .bck) (.inr (.inl rfl))]
  exact zd1 (by simp [gP,aI,aJ,aM,aF,fIf,aG,fB,f2,aB,fC,bC,aZ,bQ,aR,bH,aU,bV,bX,aA,aC,aX,bF,fKs,aE,dEq,dNe,eqB,dB,dIx,bD,aL,bZ,D.imm,D.imms,aO,fT,bG,aH,bR,bS,bU,bP,cA,cC,bL,dIn,inB,bN,D.flat,D.flats,inV,eqV,aP,bB,bM,dLt,dLe,dGt,dGe,D.key,cP,cX,dE,cQ,aQ,aT,cD,dO,L2.aS,bJ]) (by simp [gP,aI,aJ,aM,aF,fIf,aG,fB,f2,aB,fC,bC,aZ,bQ,aR,bH,aU,bV,bX,aA,aC,aX,bF,fKs,aE,dEq,dNe,eqB,dB,dIx,bD,aL,bZ,D.imm,D.imms,aO,fT,bG,aH,bR,bS,bU,bP,cA,cC,bL,dIn,inB,bN,D.flat,D.flats,inV,eqV,aP,bB,bM,dLt,dLe,dGt,dGe,D.key,cP,cX,dE,cQ,aQ,aT,cD,dO,L2.aS,bJ])
 |don ho hl=>
  rename_i f g' r
  have e:nwD (f::g'::r)=nwD (g'::r)++[.lst true [.str "either",.int ((f.full.length:Int)+1)]]:=by show _++[nwF f]=_;unfold nwF;rw [ho];rfl
  refine⟨some (.str "done"),some (.str "either"),some (.int ((f.full.length:Int)+1)),?_⟩
  rw [e,wI,cF (nU (t:= .don) rfl),sO (t:= .don) (.inr (.inr (.inr rfl)))]
  exact zd1 (by simp [gP,aI,aJ,aM,aF,fIf,aG,fB,f2,aB,fC,bC,aZ,bQ,aR,bH,aU,bV,bX,aA,aC,aX,bF,fKs,aE,dEq,dNe,eqB,dB,dIx,bD,aL,bZ,D.imm,D.imms,aO,fT,bG,aH,bR,bS,bU,bP,cA,cC,bL,dIn,inB,bN,D.flat,D.flats,inV,eqV,aP,bB,bM,dLt,dLe,dGt,dGe,D.key,cP,cX,dE,cQ,aQ,aT,cD,dO,L2.aS,bJ]) (fun z=>by have:=z.2;omega)
theorem yn3{x3 x4 x5:Option D}{o:Bool}{all:List Tk}{n:Nat}{fs:List Fm}{t:Tk}(w:Wf fs)(b:Bd8 n fs)(ha:all[n]? =some t)(hf:mU n fs t=false):
  ∃q,nB [some (.lst o (aK all)),some (.lst true (nwD fs)),some (.int n),x3,x4,x5]=some (.ret (.int ((n:Int)+1)),q):=by
 by_cases hn:200<=n
 ·exact yh5 ha hn
 have h0:n<200:=by omega
 rw [zN ha h0]
 have hf':ya7 fs t=false:=by
  unfold mU at hf
  rw [decide_eq_true h0] at hf
  simpa using hf
 have op:opB t=true->¬fs.length<=12->∃q,aI oX pZ [some (.lst o (aK all)),some (.lst true (nwD fs)),some (.int n),some (.str (bJ t)),x4,x5]=some (.ret (.int ((n:Int)+1)),q):=fun ht hl=>by
  have:=wH w;have:=b.1
  exact⟨_,gY (yu6 ht (by omega))⟩
 have sh:zd3 t->opB t=false->∀{f:Fm} {r:List Fm},fs=f::r->rK f.op f.full.length t=false->∃q,aI oX pZ [some (.lst o (aK all)),some (.lst true (nwD fs)),some (.int n),some (.str (bJ t)),x4,x5]=some (.ret (.int ((n:Int)+1)),q):=fun ht hno f r e hs=>by
  subst e
  rw [cF (nU hno),sO ht]
  cases r with
  |nil=>exact⟨_,yu7⟩
  | cons g' r=>
   obtain⟨t',ho,hb⟩:=w.1
   have e:nwD (f::g'::r)=nwD (g'::r)++[.lst true [.str (bJ t'),.int ((f.full.length:Int)+1)]]:=by show _++[nwF f]=_;unfold nwF;rw [ho]
   rw [e]
   by_cases hk:Str.ofString (bJ t')=Str.ofString (byT t)
   ·rw [hk]
    refine⟨_,yu8 ?_⟩
    rw [ho] at hs
    have h3:=(b.2 f List.mem_cons_self).2
    rw [aH] at hk
    rcases ht with rfl|rfl|rfl|rfl
    ·cases t'<;>first|(cases hb;done)|(cases hs;done)|(simp [gP,aI,aJ,aM,aF,fIf,aG,fB,f2,aB,fC,bC,aZ,bQ,aR,bH,aU,bV,bX,aA,aC,aX,bF,fKs,aE,dEq,dNe,eqB,dB,dIx,bD,aL,bZ,D.imm,D.imms,aO,fT,bG,aH,bR,bS,bU,bP,cA,cC,bL,dIn,inB,bN,D.flat,D.flats,inV,eqV,aP,bB,bM,dLt,dLe,dGt,dGe,D.key,cP,cX,dE,cQ,aQ,aT,cD,dO,L2.aS,bJ,byT] at hk;done)
    ·cases t'<;>first|(cases hb;done)|(cases hs;done)|(simp [gP,aI,aJ,aM,aF,fIf,aG,fB,f2,aB,fC,bC,aZ,bQ,aR,bH,aU,bV,bX,aA,aC,aX,bF,fKs,aE,dEq,dNe,eqB,dB,dIx,bD,aL,bZ,D.imm,D.imms,aO,fT,bG,aH,bR,bS,bU,bP,cA,cC,bL,dIn,inB,bN,D.flat,D.flats,inV,eqV,aP,bB,bM,dLt,dLe,dGt,dGe,D.key,cP,cX,dE,cQ,aQ,aT,cD,dO,L2.aS,bJ,byT] at hk;done)
    ·cases t'<;>first|(cases hb;done)|(simp [gP,aI,aJ,aM,aF,fIf,aG,fB,f2,aB,fC,bC,aZ,bQ,aR,bH,aU,bV,bX,aA,aC,aX,bF,fKs,aE,dEq,dNe,eqB,dB,dIx,bD,aL,bZ,D.imm,D.imms,aO,fT,bG,aH,bR,bS,bU,bP,cA,cC,bL,dIn,inB,bN,D.flat,D.flats,inV,eqV,aP,bB,bM,dLt,dLe,dGt,dGe,D.key,cP,cX,dE,cQ,aQ,aT,cD,dO,L2.aS,bJ,byT] at hk;done)|exact .inl ⟨rfl,by have:=of_decide_eq_false hs;omega⟩
    ·cases t'<;>first|(cases hb;done)|(simp [gP,aI,aJ,aM,aF,fIf,aG,fB,f2,aB,fC,bC,aZ,bQ,aR,bH,aU,bV,bX,aA,aC,aX,bF,fKs,aE,dEq,dNe,eqB,dB,dIx,bD,aL,bZ,D.imm,D.imms,aO,fT,bG,aH,bR,bS,bU,bP,cA,cC,bL,dIn,inB,bN,D.flat,D.flats,inV,eqV,aP,bB,bM,dLt,dLe,dGt,dGe,D.key,cP,cX,dE,cQ,aQ,aT,cD,dO,L2.aS,bJ,byT] at hk;done)|exact .inr ⟨rfl,by have:=of_decide_eq_false hs;omega⟩
   ·exact⟨_,yn2 hk⟩
 cases fs with
 |nil=>exact w.elim
 |cons f r=>
  cases t with
  |leaf l=>cases hf'
  |opn=>exact op rfl (of_decide_eq_false hf')
  |hng m=>exact op rfl (of_decide_eq_false hf')
  |eit=>exact op rfl (of_decide_eq_false hf')
  |cls=>exact sh (.inl rfl) rfl rfl hf'
  |bck=>exact sh (.inr (.inl rfl)) rfl rfl hf'
  |orr=>exact sh (.inr (.inr (.inl rfl))) rfl rfl hf'
  |don=>exact sh (.inr (.inr (.inr rfl))) rfl rfl hf'
theorem zg5{o:Bool}{all:List Tk}:∀{ts:List Tk} {n:Nat} {fs fs':List Fm} {x2 x3 x4 x5:Option D},Wf fs->Bd8 n fs->all.drop n=ts->Walk8 n fs ts fs'->
  ∃y2 y3 y4 y5,eM 2 nB (hX (n:Int) ts.length) [some (.lst o (aK all)),some (.lst true (nwD fs)),x2,x3,x4,x5]=some (.nx,[some (.lst o (aK all)),some (.lst true (nwD fs')),y2,y3,y4,y5])
 |[],_,_,_,x2,x3,x4,x5,_,_,_,.nil=>⟨x2,x3,x4,x5,rfl⟩
 |t::ts,n,fs,fs',x2,x3,x4,x5,w,b,ea,.cons (g:=g) hf hg h=>by
  have ha:all[n]? =some t:=by rw [<-List.head?_drop,ea];rfl
  obtain⟨y3,y4,y5,q1⟩:=zp8 (x3:=x3) (x4:=x4) (x5:=x5) (o:=o) w b ha hf hg
  obtain⟨z2,z3,z4,z5,q2⟩:=zg5 (o:=o) (x2:=some (.int n)) (x3:=y3) (x4:=y4) (x5:=y5) (sM w hf hg) (sN b hg) (by rw [<-List.drop_drop,ea];rfl) h
  refine⟨z2,z3,z4,z5,?_⟩
  rw [List.length_cons,uB,eM]
  show(nB [some (.lst o (aK all)),some (.lst true (nwD fs)),some (.int n),x3,x4,x5]).bind _=_
  rw [q1,Option.bind_some]
  exact q2
theorem zg6{o:Bool}{all:List Tk}:∀{a:List Tk} {n:Nat} {fs g:List Fm} {t:Tk} {c:List Tk} {x2 x3 x4 x5:Option D},Wf fs->Bd8 n fs->all.drop n=a++t::c->Walk8 n fs a g->Wf g->mU (n+a.length) g t=false->
  ∃q,eM 2 nB (hX (n:Int) (a++t::c).length) [some (.lst o (aK all)),some (.lst true (nwD fs)),x2,x3,x4,x5]=some (.ret (.int (((n+a.length:Nat):Int)+1)),q)
 |[],n,fs,_,t,c,x2,x3,x4,x5,w,b,ea,.nil,wg,hb=>by
  have ha:all[n]? =some t:=by rw [<-List.head?_drop,ea];rfl
  obtain⟨q,q1⟩:=yn3 (x3:=x3) (x4:=x4) (x5:=x5) (o:=o) w b ha hb
  refine⟨q,?_⟩
  rw [List.nil_append,List.length_cons,uB,eM]
  show(nB [some (.lst o (aK all)),some (.lst true (nwD fs)),some (.int n),x3,x4,x5]).bind _=_
  rw [q1];rfl
 |t::ts,n,fs,g',t',c,x2,x3,x4,x5,w,b,ea,.cons (g:=g) hf hg h,wg,hb=>by
  have ha:all[n]? =some t:=by rw [<-List.head?_drop,ea];rfl
  rw [List.length_cons] at hb
  obtain⟨y3,y4,y5,q1⟩:=zp8 (x3:=x3) (x4:=x4) (x5:=x5) (o:=o) w b ha hf hg
  obtain⟨q,q2⟩:=zg6 (o:=o) (c:=c) (x2:=some (.int n)) (x3:=y3) (x4:=y4) (x5:=y5) (sM w hf hg) (sN b hg) (by rw [<-List.drop_drop,ea];rfl) h wg (by rw [show n+1+ts.length=n+(ts.length+1) by omega];exact hb)
  refine⟨q,?_⟩
  rw [List.cons_append,List.length_cons,uB,eM]
  show(nB [some (.lst o (aK all)),some (.lst true (nwD fs)),some (.int n),x3,x4,x5]).bind _=_
  rw [q1,Option.bind_some,List.length_cons,show n+(ts.length+1)=n+1+ts.length by omega]
  exact q2
abbrev pT:tz6:=gP 1 5 lE
theorem zp9:lE=aI (aM 1 (aF (aX aC))) (aI (dG 2 (eG (aA (aE bD (aA (aB 0) aC)) aC)) nB) (aI (fIf (aG (fB (f2 dGt (aE bD (aA (aB 1) aC)) (fC (.int 0))))) (aZ (aF (f2 aO (aE bD (aA (aB 0) aC)) (fC (.int 1))))) aJ) (aZ (aF (fC (.int 0)))))):=rfl
theorem xZ{x:Option D}:aM 1 (aF (aX aC)) [x,none,none,none,none,none]=some (.nx,[x,some (.lst true []),none,none,none,none]):=gF (zc6 rfl (by simp [gP,aI,aJ,aM,aF,fIf,aG,fB,f2,aB,fC,bC,aZ,bQ,aR,bH,aU,bV,bX,aA,aC,aX,bF,fKs,aE,dEq,dNe,eqB,dB,dIx,bD,aL,bZ,D.imm,D.imms,aO,fT,bG,aH,bR,bS,bU,bP,cA,cC,bL,dIn,inB,bN,D.flat,D.flats,inV,eqV,aP,bB,bM,dLt,dLe,dGt,dGe,D.key,cP,cX,dE,cQ,aQ,aT,cD,dO,L2.aS]))
theorem zg7{o:Bool}{ts:List Tk}{x:Option D}(hl:ts.length<=1000):eG (aA (aE bD (aA (aB 0) aC)) aC) [some (.lst o (aK ts)),x,none,none,none,none]=some (hX ((0:Nat):Int) ts.length):=by
 have e:aA (aE bD (aA (aB 0) aC)) aC [some (.lst o (aK ts)),x,none,none,none,none]=some [.int ts.length]:=eW (eL (ds:=[.lst o (aK ts)]) rfl (by rw [bD,eQ])) rfl
 unfold eG
 rw [e,Option.bind_some];exact xg0 hl
theorem yh6{o:Bool}{a c:List Tk}{t:Tk}{g:List Fm}(h:Walk8 0 [fU] a g)(w:Wf g)(hb:mU a.length g t=false)(hl:(a++t::c).length<=1000):pT [.lst o (aK (a++t::c))]=some (.int ((a.length:Int)+1)):=by
 obtain⟨q,q1⟩:=zg6 (o:=o) (all:=a++t::c) (x2:=none) (x3:=none) (x4:=none) (x5:=none) (c:=c) wf0 bd0 (List.drop_zero) h w (by rw [Nat.zero_add];exact hb)
 rw [Nat.zero_add] at q1
 show gP 1 5 lE _=_
 rw [zp9]
 refine jL (p:=q) rfl ((cF xZ).trans (gY ?_))
 unfold dG
 rw [zg7 hl]
 exact q1
theorem yh7{o:Bool}{ts:List Tk}{fs:List Fm}(h:Walk8 0 [fU] ts fs)(w:Wf fs)(hl:ts.length<=1000):pT [.lst o (aK ts)]=some (.int (if 1<fs.length then(ts.length:Int)+1 else 0)):=by
 obtain⟨y2,y3,y4,y5,q1⟩:=zg5 (o:=o) (all:=ts) (x2:=none) (x3:=none) (x4:=none) (x5:=none) wf0 bd0 (List.drop_zero) h
 have hw:=wH w
 show gP 1 5 lE _=_
 rw [zp9]
 have s2:dG 2 (eG (aA (aE bD (aA (aB 0) aC)) aC)) nB [some (.lst o (aK ts)),some (.lst true []),none,none,none,none]=some (.nx,[some (.lst o (aK ts)),some (.lst true (nwD fs)),y2,y3,y4,y5]):=by
  unfold dG
  rw [zg7 hl];exact q1
 have c1:fB (f2 dGt (aE bD (aA (aB 1) aC)) (fC (.int 0))) [some (.lst o (aK ts)),some (.lst true (nwD fs)),y2,y3,y4,y5]=some (decide (1<fs.length)):=by
  refine uC (fR (x:= .int (nwD fs).length) (y:= .int 0) rfl rfl ?_)
  show some (D.bl (decide ((0:Int)<((nwD fs).length:Int))))=_
  rw [show decide ((0:Int)<((nwD fs).length:Int))=decide (1<fs.length) from decide_eq_decide.mpr (by omega)]
 by_cases h1:1<fs.length
 ·rw [decide_eq_true h1] at c1
  rw [if_pos h1]
  refine jL rfl ((cF xZ).trans ((cF s2).trans (gY ((jI c1).trans (fW ?_)))))
  show some (D.int (((aK ts).length:Int)+1))=_
  rw [eQ]
 ·rw [decide_eq_false h1] at c1
  rw [if_neg h1]
  exact jL rfl ((cF xZ).trans ((cF s2).trans ((cF (iV c1)).trans (fW rfl))))
theorem zg8(ts:List Tk)(k:Nat):(aK ts).take k=aK (ts.take k):=by simp [aK,List.map_take]
theorem zg9(ts:List Tk)(k:Nat):(aK ts).drop k=aK (ts.drop k):=by simp [aK,List.map_drop]
theorem yn4(ts:List Tk):(aK ts).reverse=aK ts.reverse:=by simp [aK]
theorem zq0(ts:List Tk)(a:Nat):L2.nC (aK ts) none (some (a:Int))=aK (ts.take (min a ts.length)):=by
 unfold L2.nC
 rw [HT.sIx_none,HT.sIx_nat,eQ,List.drop_zero,Nat.sub_zero,zg8]
theorem yh8(ts:List Tk)(a:Nat):L2.nC (aK ts) (some (a:Int)) none=aK (ts.drop (min a ts.length)):=by
 unfold L2.nC
 rw [HT.sIx_none,HT.sIx_nat,eQ,zg9,List.take_of_length_le (by rw [eQ,List.length_drop];exact Nat.le_refl _)]
theorem yu9(ts:List Tk)(a b:Nat):L2.nC (aK ts) (some (a:Int)) (some (b:Int))=aK ((ts.drop (min a ts.length)).take (min b ts.length-min a ts.length)):=by
 unfold L2.nC
 rw [HT.sIx_nat,HT.sIx_nat,eQ,zg9,zg8]
theorem wJ{o:Bool}{ts:List Tk}{fl fh:PSt->Option (Option Int)}{p:PSt}{lo hi:Option Int}{us:List Tk}{f:tz2}(h0:f p=some (.lst o (aK ts)))(h1:fl p=some lo)(h2:fh p=some hi)(e:L2.nC (aK ts) lo hi=aK us):fSl f fl fh p=some (.lst true (aK us)):=by
 unfold fSl
 rw [h0,h1,h2]
 show(if D.imms (aK ts)=true then some (D.lst true (L2.nC (aK ts) lo hi)) else none)=_
 rw [if_pos (jW _),e]
theorem pB{f:tz2}{p:PSt}{i:Int}(h:f p=some (.int i)):cT f p=some (some i):=by unfold cT;rw [h];rfl
theorem yA{f g:tz2}{p:PSt}{o o':Bool}{a b:List Tk}(h1:f p=some (.lst o (aK a)))(h2:g p=some (.lst o' (aK b)))(hl:a.length+b.length<=1000):f2 aO f g p=some (.lst true (aK (a++b))):=
 fR h1 h2 (by rw [zo6 (jW _) (jW _) (by rw [eQ,eQ];exact hl),iC])
def iT(ts:List Tk):Prop:=∀t∈ts,mP t
theorem iT.app{a b:List Tk}(h:iT a)(k:iT b):iT (a++b):=fun t ht=>(List.mem_append.mp ht).elim (h t) (k t)
theorem iT.take{a:List Tk}(h:iT a)(n:Nat):iT (a.take n):=fun t ht=>h t (List.mem_of_mem_take ht)
theorem iT.drop{a:List Tk}(h:iT a)(n:Nat):iT (a.drop n):=fun t ht=>h t (List.mem_of_mem_drop ht)
theorem iT.rev{a:List Tk}(h:iT a):iT a.reverse:=fun t ht=>h t (List.mem_reverse.mp ht)
def qA:List Tk:=[.opn,.cls,.hng 2,.bck,.eit,.orr,.don,.leaf .fin]
theorem yv0:iT qA:=fun t ht=>by
 simp [qA] at ht
 rcases ht with rfl|rfl|rfl|rfl|rfl|rfl|rfl|rfl<;>first|trivial|exact⟨by decide,by decide⟩
theorem yv1(m:Int):∃t,atI (aK qA) (m % 8)=some (tkD t)/\mP t:=by
 have h0:0<=m % 8:=Int.emod_nonneg _ (by decide)
 have h1:m % 8<8:=Int.emod_lt_of_pos _ (by decide)
 obtain⟨n,hn⟩:∃n:Nat,m % 8=(n:Int):=⟨(m % 8).toNat,by omega⟩
 have hl:n<qA.length:=by show n<8;omega
 refine⟨qA[n],?_,yv0 _ (List.getElem_mem hl)⟩
 rw [hn]
 exact rV (by rw [show aK qA=qA.map tkD from rfl,List.getElem?_map,List.getElem?_eq_getElem hl];rfl)
abbrev uR:tz6:=gP 2 5 oS
abbrev pC(o:Bool)(ts:List Tk)(m:Int)(a b:Nat)(x6:Option D):PSt:=[some (.lst o (aK ts)),some (.int m),some (.int (m % 5)),some (.int a),some (.int b),some (.lst true (aK qA)),x6]
theorem zz3{o:Bool}{ts:List Tk}{m:Int}(hm:0<=m)(hl:ts.length<=900)(hk:iT ts):∃us,uR [.lst o (aK ts),.int m]=some (.lst true (aK us))/\us.length<=ts.length+1/\iT us:=by
 obtain⟨a,ha⟩:∃a:Nat,m/5 % (if ((ts.length:Int))>1 then(ts.length:Int) else 1)=(a:Int):=⟨(m/5 % (if ((ts.length:Int))>1 then(ts.length:Int) else 1)).toNat,by
  have:0<=m/5 % (if ((ts.length:Int))>1 then(ts.length:Int) else 1):=Int.emod_nonneg _ (by split<;>omega)
  omega⟩
 obtain⟨b,hb⟩:∃b:Nat,m/1500 % ((ts.length:Int)+1)=(b:Int):=⟨(m/1500 % ((ts.length:Int)+1)).toNat,by
  have:0<=m/1500 % ((ts.length:Int)+1):=Int.emod_nonneg _ (by omega)
  omega⟩
 have hb1:b<=ts.length:=by
  have:m/1500 % ((ts.length:Int)+1)<(ts.length:Int)+1:=Int.emod_lt_of_pos _ (by omega)
  omega
 suffices h:∃us q,oS [some (.lst o (aK ts)),some (.int m),none,none,none,none,none]=some (.ret (.lst true (aK us)),q)/\us.length<=ts.length+1/\iT us from by
  obtain⟨us,q,h1,h2⟩:=h
  exact⟨us,jL rfl h1,h2⟩
 unfold oS
 have s1:aM 2 (aF (f2 fO (aB 1) (fC (.int 5)))) [some (.lst o (aK ts)),some (.int m),none,none,none,none,none]=some (.nx,[some (.lst o (aK ts)),some (.int m),some (.int (m % 5)),none,none,none,none]):=gF (fR (x:= .int m) (y:= .int 5) rfl rfl (by rw [cE];rfl))
 have s2:aM 3 (aF (f2 fO (f2 iX (aB 1) (fC (.int 5))) (aE dL (aA (fC (.int 1)) (aA (aE bD (aA (aB 0) aC)) aC))))) [some (.lst o (aK ts)),some (.int m),some (.int (m % 5)),none,none,none,none]=some (.nx,[some (.lst o (aK ts)),some (.int m),some (.int (m % 5)),some (.int a),none,none,none]):=by
  refine gF (fR (x:= .int (m/5)) (y:= .int (if ((ts.length:Int))>1 then(ts.length:Int) else 1)) (fR (x:= .int m) (y:= .int 5) rfl rfl (by rw [cG];rfl)) (eL (ds:=[.int 1,.int ts.length]) ?_ rfl) ?_)
  ·refine eW rfl (eW (eL (ds:=[.lst o (aK ts)]) rfl ?_) rfl)
   show some (D.int ((aK ts).length:Int))=_
   rw [eQ]
  ·rw [cE,if_pos (by split<;>omega),ha]
 have s3:aM 4 (aF (f2 fO (f2 iX (aB 1) (fC (.int 1500))) (f2 aO (aE bD (aA (aB 0) aC)) (fC (.int 1))))) [some (.lst o (aK ts)),some (.int m),some (.int (m % 5)),some (.int a),none,none,none]=some (.nx,[some (.lst o (aK ts)),some (.int m),some (.int (m % 5)),some (.int a),some (.int b),none,none]):=by
  refine gF (fR (x:= .int (m/1500)) (y:= .int ((ts.length:Int)+1)) (fR (x:= .int m) (y:= .int 1500) rfl rfl (by rw [cG];rfl)) (fR (x:= .int ts.length) (y:= .int 1) (eL (ds:=[.lst o (aK ts)]) rfl ?_) rfl rfl) ?_)
  ·show some (D.int ((aK ts).length:Int))=_
   rw [eQ]
  ·rw [cE,if_pos (by omega),hb]
 have s4:aM 5 (aF (aX (aA (bF (aA (fC (.str "open")) aC)) (aA (bF (aA (fC (.str "close")) aC)) (aA (bF (aA (fC (.str "hang")) (aA (fC (.int 2)) aC))) (aA (bF (aA (fC (.str "back")) aC)) (aA (bF (aA (fC (.str "either")) aC)) (aA (bF (aA (fC (.str "or")) aC)) (aA (bF (aA (fC (.str "done")) aC)) (aA (bF (aA (fC (.str "end")) aC)) aC)))))))))) [some (.lst o (aK ts)),some (.int m),some (.int (m % 5)),some (.int a),some (.int b),none,none]=some (.nx,(pC o ts m a b none)):=gF rfl
 have eq:∀k:Int,∀x6,fB (f2 dEq (aB 2) (fC (.int k))) (pC o ts m a b x6)=some (decide (m % 5=k)):=fun k x6=>uC (fR (x:= .int (m % 5)) (y:= .int k) rfl rfl rfl)
 have hia:∀x6,fSl (aB 0) cB (cT (aB 3)) (pC o ts m a b x6)=some (.lst true (aK (ts.take (min a ts.length)))):=fun _=>wJ rfl rfl (pB rfl) (zq0 ts a)
 have hib:∀x6,fSl (aB 0) cB (cT (aB 4)) (pC o ts m a b x6)=some (.lst true (aK (ts.take (min b ts.length)))):=fun _=>wJ rfl rfl (pB rfl) (zq0 ts b)
 have lob:∀x6,fSl (aB 0) (cT (aB 4)) cB (pC o ts m a b x6)=some (.lst true (aK (ts.drop (min b ts.length)))):=fun _=>wJ rfl (pB rfl) rfl (yh8 ts b)
 have loa:∀(k:Nat) x6,fSl (aB 0) (cT (f2 aO (aB 3) (fC (.int (k:Int))))) cB (pC o ts m a b x6)=some (.lst true (aK (ts.drop (min (a+k) ts.length)))):=fun k _=>wJ rfl (pB (i:=((a+k:Nat):Int)) rfl) rfl (yh8 ts (a+k))
 have mid:∀(k:Nat) x6,fSl (aB 0) (cT (aB 3)) (cT (f2 aO (aB 3) (fC (.int (k:Int))))) (pC o ts m a b x6)=some (.lst true (aK ((ts.drop (min a ts.length)).take (min (a+k) ts.length-min a ts.length)))):=fun k _=>wJ rfl (pB rfl) (pB (i:=((a+k:Nat):Int)) rfl) (yu9 ts a (a+k))
 rw [cF s1,cF s2,cF s3,cF s4]
 by_cases w0:m % 5=0
 ·refine⟨_,_,gY ((jI ((eq 0 none).trans (by rw [decide_eq_true w0]))).trans (fW (yA (hia none) (loa 1 none) ?_))),?_,(hk.take _).app (hk.drop _)⟩
  ·simp only [List.length_take,List.length_drop];omega
  ·simp only [List.length_append,List.length_take,List.length_drop];omega
 rw [cF (iV ((eq 0 none).trans (by rw [decide_eq_false w0])))]
 by_cases w1:m % 5=1
 ·refine⟨_,_,gY ((jI ((eq 1 none).trans (by rw [decide_eq_true w1]))).trans (fW (yA (yA (hib none) (mid 1 none) ?_) (lob none) ?_))),?_,((hk.take _).app ((hk.drop _).take _)).app (hk.drop _)⟩
  ·simp only [List.length_take,List.length_drop];omega
  ·simp only [List.length_append,List.length_take,List.length_drop];omega
  ·simp only [List.length_append,List.length_take,List.length_drop];omega
 rw [cF (iV ((eq 1 none).trans (by rw [decide_eq_false w1])))]
 by_cases w2:m % 5=2
 ·have r6:aM 6 (aF (ya2 (fSl (aB 0) (cT (aB 3)) (cT (f2 aO (aB 3) (fC (.int 2))))))) (pC o ts m a b none)=some (.nx,(pC o ts m a b (some (.lst true (aK ((ts.drop (min a ts.length)).take (min (a+2) ts.length-min a ts.length)).reverse))))):=by
   refine gF ?_
   refine(congrArg (fun z=>Option.bind z yo3) (mid 2 none)).trans ?_
   show(if D.imms (aK _)=true then some (D.lst true (aK _).reverse) else none)=_
   rw [if_pos (jW _),yn4]
  refine⟨_,_,gY ((jI ((eq 2 none).trans (by rw [decide_eq_true w2]))).trans ((cF r6).trans (fW (yA (yA (o':=true) (hia _) rfl ?_) (loa 2 _) ?_)))),?_,((hk.take _).app ((hk.drop _).take _).rev).app (hk.drop _)⟩
  ·simp only [List.length_reverse,List.length_take,List.length_drop];omega
  ·simp only [List.length_append,List.length_reverse,List.length_take,List.length_drop];omega
  ·simp only [List.length_append,List.length_reverse,List.length_take,List.length_drop];omega
 rw [cF (iV ((eq 2 none).trans (by rw [decide_eq_false w2])))]
 by_cases w3:m % 5=3
 ·obtain⟨t,ht,htk⟩:=yv1 (m/5)
  have one:aX (aA (bC (f2 dIx (aB 5) (f2 fO (f2 iX (aB 1) (fC (.int 5))) (fC (.int 8))))) aC) (pC o ts m a b none)=some (.lst true (aK [t])):=by
   refine zc6 (ds:=[tkD t]) (eW ?_ rfl) (show 1<=1000 by decide)
   unfold bC
   rw [fR (x:= .lst true (aK qA)) (y:= .int (m/5 % 8)) rfl (fR (x:= .int (m/5)) (y:= .int 8) (fR (x:= .int m) (y:= .int 5) rfl rfl (by rw [cG];rfl)) rfl (by rw [cE];rfl)) ht]
   show(if (tkD t).imm=true then some (tkD t) else none)=_
   rw [if_pos (pP t)]
  refine⟨_,_,gY ((jI ((eq 3 none).trans (by rw [decide_eq_true w3]))).trans (fW (yA (yA (hib none) one ?_) (lob none) ?_))),?_,((hk.take _).app (fun x hx=>by rw [List.mem_singleton.mp hx];exact htk)).app (hk.drop _)⟩
  ·simp only [List.length_take,List.length_singleton];omega
  ·simp only [List.length_append,List.length_take,List.length_drop,List.length_singleton];omega
  ·simp only [List.length_append,List.length_take,List.length_drop,List.length_singleton];omega
 rw [cF (iV ((eq 3 none).trans (by rw [decide_eq_false w3])))]
 refine⟨_,_,fW (wJ rfl rfl (pB (i:=((a+1:Nat):Int)) rfl) (zq0 ts (a+1))),?_,hk.take _⟩
 simp only [List.length_take];omega
theorem qQ{n:Nat}{ys:List D}(hl:ys.length<=1000)(h:∀y∈ys,qW (mZ n) y):qW (mZ (n+1)) (.tup ys):= .inl ⟨ys,rfl,zc9 uE h hl⟩
theorem zz4(p:Pc):1<=(jQ p).length:=by cases p<;>simp [aI,aJ,aM,aF,fIf,aG,fB,f2,aB,fC,aZ,aA,aC,aE,dEq,dNe,eqB,dB,dIx,bD,cO,fT,bG,aH,bB,bM,aP,gJ,dTy,gS,iE,iW,jQ]
theorem oK:∀r:List Pc,r.length<=(dS r).length
 |[]=>Nat.le_refl _
 |p::r=>by
  show r.length+1<=(jQ p++dS r).length
  rw [List.length_append]
  have:=oK r;have:=zz4 p;omega
theorem uV:∀rs:List (List Pc),rs.length<=(kA rs).length
 |[]=>Nat.le_refl _
 |r::rs=>by
  show rs.length+1<=(Tk.orr::(dS r++kA rs)).length
  rw [List.length_cons,List.length_append]
  have:=uV rs;omega
theorem zh9(rs:List (List Pc)):rs.length<=(pF rs).length+1:=by
 cases rs with
 |nil=>simp [aI,aJ,aM,aF,fIf,aG,fB,f2,aB,fC,aZ,aA,aC,aE,dEq,dNe,eqB,dB,dIx,bD,cO,fT,bG,aH,bB,bM,aP,gJ,dTy,gS,iE,iW]
 |cons r rs=>
  show rs.length+1<=(dS r++kA rs).length+1
  rw [List.length_append]
  have:=uV rs;omega
mutual
theorem xg3:∀(p:Pc) (n:Nat),3*nD p+1<=n->(jQ p).length<=900->qW (mZ n) (pcD p)
 | .leaf l,n,h,_=>by
  obtain⟨m,rfl⟩:∃m,n=m+1:=⟨n-1,by omega⟩
  exact yu3 l m
 | .group r,n,h,hl=>by
  have h':3*(eP r+1)+1<=n:=h
  obtain⟨m,rfl⟩:∃m,n=m+2:=⟨n-2,by omega⟩
  have e:(jQ (.group r)).length=(dS r).length+2:=by simp [aI,aJ,aM,aF,fIf,aG,fB,f2,aB,fC,aZ,aA,aC,aE,dEq,dNe,eqB,dB,dIx,bD,cO,fT,bG,aH,bB,bM,aP,gJ,dTy,gS,iE,iW,jQ]
  have hr:=oK r
  refine qQ (by simp [aI,aJ,aM,aF,fIf,aG,fB,f2,aB,fC,aZ,aA,aC,aE,dEq,dNe,eqB,dB,dIx,bD,cO,fT,bG,aH,bB,bM,aP,gJ,dTy,gS,iE,iW]) fun y hy=> ?_
  simp [aI,aJ,aM,aF,fIf,aG,fB,f2,aB,fC,aZ,aA,aC,aE,dEq,dNe,eqB,dB,dIx,bD,cO,fT,bG,aH,bB,bM,aP,gJ,dTy,gS,iE,iW] at hy
  rcases hy with rfl|rfl
  ·exact .inr (.inl ⟨_,rfl⟩)
  ·exact qQ (by rw [jZ];omega) (zq1 r m (by omega) (by omega))
 | .hang k r,n,h,hl=>by
  have h':3*(eP r+1)+1<=n:=h
  obtain⟨m,rfl⟩:∃m,n=m+2:=⟨n-2,by omega⟩
  have e:(jQ (.hang k r)).length=(dS r).length+2:=by simp [aI,aJ,aM,aF,fIf,aG,fB,f2,aB,fC,aZ,aA,aC,aE,dEq,dNe,eqB,dB,dIx,bD,cO,fT,bG,aH,bB,bM,aP,gJ,dTy,gS,iE,iW,jQ]
  have hr:=oK r
  refine qQ (by simp [aI,aJ,aM,aF,fIf,aG,fB,f2,aB,fC,aZ,aA,aC,aE,dEq,dNe,eqB,dB,dIx,bD,cO,fT,bG,aH,bB,bM,aP,gJ,dTy,gS,iE,iW]) fun y hy=> ?_
  simp [aI,aJ,aM,aF,fIf,aG,fB,f2,aB,fC,aZ,aA,aC,aE,dEq,dNe,eqB,dB,dIx,bD,cO,fT,bG,aH,bB,bM,aP,gJ,dTy,gS,iE,iW] at hy
  rcases hy with rfl|rfl|rfl
  ·exact .inr (.inl ⟨_,rfl⟩)
  ·exact .inr (.inr ⟨_,rfl⟩)
  ·exact qQ (by rw [jZ];omega) (zq1 r m (by omega) (by omega))
 | .either rs,n,h,hl=>by
  have h':3*(gT rs+1)+1<=n:=h
  obtain⟨m,rfl⟩:∃m,n=m+3:=⟨n-3,by omega⟩
  have e:(jQ (.either rs)).length=(pF rs).length+2:=by simp [aI,aJ,aM,aF,fIf,aG,fB,f2,aB,fC,aZ,aA,aC,aE,dEq,dNe,eqB,dB,dIx,bD,cO,fT,bG,aH,bB,bM,aP,gJ,dTy,gS,iE,iW,jQ]
  have hr:=zh9 rs
  refine qQ (by simp [aI,aJ,aM,aF,fIf,aG,fB,f2,aB,fC,aZ,aA,aC,aE,dEq,dNe,eqB,dB,dIx,bD,cO,fT,bG,aH,bB,bM,aP,gJ,dTy,gS,iE,iW]) fun y hy=> ?_
  simp [aI,aJ,aM,aF,fIf,aG,fB,f2,aB,fC,aZ,aA,aC,aE,dEq,dNe,eqB,dB,dIx,bD,cO,fT,bG,aH,bB,bM,aP,gJ,dTy,gS,iE,iW] at hy
  rcases hy with rfl|rfl
  ·exact .inr (.inl ⟨_,rfl⟩)
  ·exact qQ (by rw [jU];omega) (yp3 rs m (by omega) (fun r hr=>by have:=zr8 hr;omega))
theorem zq1:∀(r:List Pc) (n:Nat),3*eP r+1<=n->(dS r).length<=900->∀x∈dY r,qW (mZ n) x
 |[],_,_,_,_,hx=>by simp [aI,aJ,aM,aF,fIf,aG,fB,f2,aB,fC,aZ,aA,aC,aE,dEq,dNe,eqB,dB,dIx,bD,cO,fT,bG,aH,bB,bM,aP,gJ,dTy,gS,iE,iW,dY] at hx
 |p::r,n,h,hl,x,hx=>by
  have h':3*max (nD p) (eP r)+1<=n:=h
  have hl':(jQ p).length+(dS r).length<=900:=by rw [<-List.length_append];exact hl
  have hx':x∈pcD p::dY r:=hx
  rcases List.mem_cons.mp hx' with rfl|hx'
  ·exact xg3 p n (by omega) (by omega)
  ·exact zq1 r n (by omega) (by omega) x hx'
theorem yp3:∀(rs:List (List Pc)) (n:Nat),3*gT rs+1<=n->(∀r∈rs,(dS r).length<=900)->∀x∈eR rs,qW (mZ (n+1)) x
 |[],_,_,_,_,hx=>by simp [aI,aJ,aM,aF,fIf,aG,fB,f2,aB,fC,aZ,aA,aC,aE,dEq,dNe,eqB,dB,dIx,bD,cO,fT,bG,aH,bB,bM,aP,gJ,dTy,gS,iE,iW,eR] at hx
 | r::rs,n,h,hl,x,hx=>by
  have h':3*max (eP r) (gT rs)+1<=n:=h
  have hx':x∈D.tup (dY r)::eR rs:=hx
  rcases List.mem_cons.mp hx' with rfl|hx'
  ·have h9:=hl r List.mem_cons_self
   have hr:=oK r
   exact qQ (by rw [jZ];omega) (zq1 r n (by omega) h9)
  ·exact yp3 rs n (by omega) (fun r' hr=>hl r' (List.mem_cons_of_mem _ hr)) x hx'
end
def Dp8:List Fm->Prop
 |[]=>True
 |f::r=>eP f.parts+(r.length+1)<=13/\gT f.full+(r.length+1)<=13/\Dp8 r
theorem zh0:∀a b:List Pc,eP (a++b)=max (eP a) (eP b)
 |[],b=>by show eP b=max 0 (eP b);omega
 |p::a,b=>by
  show max (nD p) (eP (a++b))=max (max (nD p) (eP a)) (eP b)
  rw [zh0 a b];omega
theorem uF:∀a b:List (List Pc),gT (a++b)=max (gT a) (gT b)
 |[],b=>by show gT b=max 0 (gT b);omega
 |p::a,b=>by
  show max (eP p) (gT (a++b))=max (max (eP p) (gT a)) (gT b)
  rw [uF a b];omega
theorem zO{f:Fm}{r:List Fm}{p:Pc}(h:Dp8 (f::r))(hp:nD p+(r.length+1)<=13):Dp8 (put f p::r):=by
 obtain⟨h1,h2,h3⟩:=h
 refine⟨?_,h2,h3⟩
 show eP (f.parts++[p])+_<=13
 rw [zh0]
 have e:eP [p]=max (nD p) 0:=rfl
 omega
theorem yv2{fs g:List Fm}{t:Tk}(d:Dp8 fs)(h:Goes fs t g):Dp8 g:=by
 cases h with
 |leaf=>exact zO d (by obtain⟨h1,_⟩:=d;show 0+_<=13;omega)
 |opn ht hl=>exact⟨by show 0+_<=13;omega,by show 0+_<=13;omega,d⟩
 |orr ho hl=>
  rename_i f r
  obtain⟨h1,h2,h3⟩:=d
  refine⟨by show 0+_<=13;omega,?_,h3⟩
  show gT (f.full++[f.parts])+_<=13
  rw [uF]
  have e:gT [f.parts]=max (eP f.parts) 0:=rfl
  omega
 |cls ho=>
  obtain⟨h1,h2,h3⟩:=d
  refine zO h3 ?_
  show _+1+_<=13
  rw [List.length_cons] at h1;omega
 |bck ho=>
  obtain⟨h1,h2,h3⟩:=d
  refine zO h3 ?_
  show _+1+_<=13
  rw [List.length_cons] at h1;omega
 |don ho hl=>
  rename_i f g r
  obtain⟨h1,h2,h3⟩:=d
  refine zO h3 ?_
  show gT (f.full++[f.parts])+1+_<=13
  rw [uF]
  have e:gT [f.parts]=max (eP f.parts) 0:=rfl
  rw [List.length_cons] at h1 h2;omega
theorem zu9:∀{ts:List Tk} {n:Nat} {fs fs':List Fm},Walk8 n fs ts fs'->Dp8 fs->Dp8 fs'
 |_,_,_,_,.nil,d=>d
 |_,_,_,_,.cons _ hg h,d=>zu9 h (yv2 d hg)
theorem yv3{x:Str}(h:x.cps.toList.all uM=true):x.cps.all (·<128)=true:=by
 rw [<-Array.all_toList]
 exact List.all_eq_true.mpr fun c hc=>by
  have:=List.all_eq_true.mp h c hc
  simp [aI,aJ,aM,aF,fIf,aG,fB,f2,aB,fC,aZ,aA,aC,aE,dEq,dNe,eqB,dB,dIx,bD,cO,fT,bG,aH,bB,bM,aP,gJ,dTy,gS,iE,iW,uM] at this
  simpa using by omega
theorem wK{x:Str}(h:x.cps.all (·<128)=true):PyData.canLay0 (.str x)=true:=by
 have:=L2.zk6 (ys:=[x]) (fun y hy=>by rw [List.mem_singleton.mp hy];exact h)
 have e:PyData.canLayAll0 ([x].map PyData.str)=(PyData.canLay0 (.str x)&&true):=rfl
 rw [e,Bool.and_true] at this
 exact this
theorem yv4{t:Tk}(h:mP t):∃p,(tkD t).data=some p/\p.canLay0=true/\p.depth<=2:=by
 have one:∀z:String,(Str.ofString z).cps.all (·<128)=true->∃p,(D.tup [.str z]).data=some p/\p.canLay0=true/\p.depth<=2:=fun z hz=>⟨.tuple [.str z],rfl,by show(PyData.canLay0 (.str z)&&true)=true;rw [wK hz];rfl,by show max 0 0+1<=2;decide⟩
 have two:∀(z:String) (x:Str),(Str.ofString z).cps.all (·<128)=true->x.cps.all (·<128)=true->∃p,(D.tup [.str z,.str x]).data=some p/\p.canLay0=true/\p.depth<=2:=fun z x hz hx=>⟨.tuple [.str z,.str x],rfl,by show(PyData.canLay0 (.str z)&&(PyData.canLay0 (.str x)&&true))=true;rw [wK hz,wK hx];rfl,by show max 0 (max 0 0)+1<=2;decide⟩
 have twi:∀(z:String) (i:Int),(Str.ofString z).cps.all (·<128)=true->∃p,(D.tup [.str z,.int i]).data=some p/\p.canLay0=true/\p.depth<=2:=fun z i hz=>⟨.tuple [.str z,.int i],rfl,by show(PyData.canLay0 (.str z)&&(true&&true))=true;rw [wK hz];rfl,by show max 0 (max 0 0)+1<=2;decide⟩
 cases t with
 |leaf l=>
  cases l with
  |word x=>exact two "word" x (by decide+kernel) (yv3 h.2.2)
  |gap x=>exact two "gap" x (by decide+kernel) (by rcases(show x=""\/x=" " from h) with rfl|rfl<;>decide+kernel)
  |stop c=>exact twi "stop" c (by decide+kernel)
  |fin=>exact one "end" (by decide+kernel)
 |hng m=>exact twi "hang" m (by decide+kernel)
 |opn=>exact one "open" (by decide+kernel)
 |cls=>exact one "close" (by decide+kernel)
 |bck=>exact one "back" (by decide+kernel)
 |eit=>exact one "either" (by decide+kernel)
 |orr=>exact one "or" (by decide+kernel)
 |don=>exact one "done" (by decide+kernel)
theorem zq2:∀{ts:List Tk},iT ts->∃ps,D.datas (aK ts)=some ps/\PyData.canLayAll0 ps=true/\PyData.depthAll ps<=2
 |[],_=>⟨[],rfl,rfl,by decide⟩
 | t::ts,h=>by
  obtain⟨p,a1,a2,a3⟩:=yv4 (h t List.mem_cons_self)
  obtain⟨ps,b1,b2,b3⟩:=zq2 (ts:=ts) fun x hx=>h x (List.mem_cons_of_mem _ hx)
  refine⟨p::ps,?_,?_,?_⟩
  ·show((tkD t).data).bind (fun p=>(D.datas (aK ts)).map (p::·))=_
   rw [a1,b1];rfl
  ·show(PyData.canLay0 p&&PyData.canLayAll0 ps)=true
   rw [a2,b2];rfl
  ·show max (PyData.depth p) (PyData.depthAll ps)<=2
   omega
theorem xa7{o o':Bool}{ts:List Tk}(h:iT ts):dEq (.lst o (aK ts)) (.lst o' (aK ts))=some (.bl true):=by
 obtain⟨ps,b1,b2,b3⟩:=zq2 h
 have e:∀o,D.data (.lst o (aK ts))=some (.list ps):=fun o=>by rw [D.data,b1];rfl
 have c:PyData.canLay0 (.list ps)=true:=b2
 have d:PyData.depth (.list ps)<=60:=by show PyData.depthAll ps+1<=60;omega
 show(vK _ _).map D.bl=_
 unfold vK
 rw [e,e]
 show(if (PyData.canLay0 _&&PyData.canLay0 _&&decide (PyData.depth _<=60))=true then some (PyData.eqv _ _) else none).map D.bl=_
 rw [c,decide_eq_true d,PySem.SeqAt.eqv_refl _ c];rfl
abbrev zj3:tz6:=gP 1 2 (uO qD (gP 1 0 lP))
theorem yh9{d:D}{n:Int}(h:qD [d]=some n):zj3 [d]=some (.int n):=by
 refine jL rfl (p:=[some d,some .non,none]) ?_
 show uO qD (gP 1 0 lP) [some d,none,none]=_
 generalize qD=G at h
 unfold uO
 rw [cF (p':=[some d,some .non,none]) (gF rfl)]
 show((G [d]).bind fun n=>if okN (gP 1 0 lP) n=true then some (Fl.ret (.int n),[some d,some .non,none]) else none)=_
 rw [h,Option.bind_some,if_pos]
 unfold okN
 rw [uE]
theorem xa8{ts:List Tk}(hl:ts.length<=900):(∃k:Int,0<k/\pT [.lst true (aK ts)]=some (.int k)/\zj3 [.lst true (aK ts)]=some (.int k))\/
  (pT [.lst true (aK ts)]=some (.int 0)/\∃r,vP [.lst true (aK ts)]=some r/\zX [.lst true (aK ts)]=some r/\mZ 50 [r,r]=some (.bl true)):=by
 rcases zu8 ts 0 [fU] wf0 with ⟨fs,h,w⟩|⟨a,t,b,g,rfl,h,w,hb⟩
 ·have q:=yh7 (o:=true) h w (by omega)
  by_cases h1:1<fs.length
  ·rw [if_pos h1] at q
   exact .inl ⟨_,by omega,q,yh9 (zs1 h h1)⟩
  ·rw [if_neg h1] at q
   refine .inr ⟨q,?_⟩
   cases fs with
   |nil=>exact w.elim
   | cons f r=>
    cases r with
    |cons g r=>exact absurd (show 1<(f::g::r).length by simp [aI,aJ,aM,aF,fIf,aG,fB,f2,aB,fC,aZ,aA,aC,aE,dEq,dNe,eqB,dB,dIx,bD,cO,fT,bG,aH,bB,bM,aP,gJ,dTy,gS,iE,iW]) h1
    |nil=>
     obtain⟨op,fl,parts⟩:=f
     have ho:op=none:=w
     subst ho
     have hr:=zp1 h
     have hrow:=yt2 hr
     have hdp:=(zu9 h ⟨by show 0+_<=13;decide,by show 0+_<=13;decide,trivial⟩).1
     have hdp':eP parts+(0+1)<=13:=hdp
     have hln:(dS parts).length<=900:=by rw [hrow];exact hl
     have hpl:=oK parts
     exact⟨_,yh4 h,ym6 hr hl,zc9 uE (zq1 parts 49 (by omega) hln) (by rw [jZ];exact Nat.le_trans hpl (Nat.le_trans hln (by decide)))⟩
 ·rw [Nat.zero_add] at hb
  rw [List.length_append,List.length_cons] at hl
  exact .inl ⟨_,by omega,yh6 h w hb (by rw [List.length_append,List.length_cons];omega),yh9 (zz2 h w hb (by omega))⟩
theorem xa9(m:Int):∃c:Nat,atI [D.int 0,.int 1,.int 1,.int 2,.int 3] (m % 5)=some (.int c)/\c<=3:=by
 have h0:0<=m % 5:=Int.emod_nonneg _ (by decide)
 have h1:m % 5<5:=Int.emod_lt_of_pos _ (by decide)
 rcases(show m % 5=0\/m % 5=1\/m % 5=2\/m % 5=3\/m % 5=4 by omega) with h|h|h|h|h<;>rw [h]
 ·exact⟨0,rfl,by decide⟩
 ·exact⟨1,rfl,by decide⟩
 ·exact⟨1,rfl,by decide⟩
 ·exact⟨2,rfl,by decide⟩
 ·exact⟨3,rfl,by decide⟩
abbrev zj4(GM:tz6):tz1:=aM 1 (aF (aE uR (aA (aB 1) (aA (aE GM (aA (aB 0) (aA (f2 aO (fC (.int 3)) (aB 2)) (aA (fC (.int 44)) aC)))) aC))))
theorem zP{GM:tz6}{xs:List D}(hM:∀k s:Int,0<=k->k<1000->0<=s->s<1000->∃m,GM [.con xs,.int k,.int s]=some (.int m)/\0<=m):∀(l:List Int),(∀j∈l,0<=j/\j<100)->∀(ts:List Tk) (x2:Option D),ts.length+l.length<=900->iT ts->
  ∃us y2,eM 2 (zj4 GM) (l.map .int) [some (.con xs),some (.lst true (aK ts)),x2,none,none,none]=some (.nx,[some (.con xs),some (.lst true (aK us)),y2,none,none,none])/\us.length<=ts.length+l.length/\iT us
 |[],_,ts,x2,_,hk=>⟨ts,x2,rfl,Nat.le_refl _,hk⟩
 |j::l,hj,ts,x2,hl,hk=>by
  rw [List.length_cons] at hl
  obtain⟨j0,j1⟩:=hj j List.mem_cons_self
  obtain⟨m,hm,hm0⟩:=hM (3+j) 44 (by omega) (by omega) (by decide) (by decide)
  obtain⟨us,q,ul,uk⟩:=zz3 (o:=true) (ts:=ts) hm0 (by omega) hk
  obtain⟨vs,y2,q2,vl,vk⟩:=zP hM l (fun i hi=>hj i (List.mem_cons_of_mem _ hi)) us (some (.int j)) (by omega) uk
  refine⟨vs,y2,?_,by rw [List.length_cons];omega,vk⟩
  have s1:zj4 GM [some (.con xs),some (.lst true (aK ts)),some (.int j),none,none,none]=some (.nx,[some (.con xs),some (.lst true (aK us)),some (.int j),none,none,none]):=gF (eL (ds:=[.lst true (aK ts),.int m]) (eW rfl (eW (eL (ds:=[.con xs,.int (3+j),.int 44]) rfl hm) rfl)) q)
  rw [List.map_cons,eM]
  show(zj4 GM [some (.con xs),some (.lst true (aK ts)),some (.int j),none,none,none]).bind _=_
  rw [s1,Option.bind_some]
  exact q2
theorem yi0{f g:tz2}{p:PSt}(h1:f p=some (.bl true))(h2:g p=some (.bl true)):iE f g p=some (.bl true):=by
 unfold iE
 rw [h1];exact h2
theorem zz5{GSm GM:tz6}{xs:List D}{ts:List Tk}(h0:GSm [.con xs]=some (.lst true (aK ts)))(hl:ts.length<=400)(hk:iT ts)(hM:∀k s:Int,0<=k->k<1000->0<=s->s<1000->∃m,GM [.con xs,.int k,.int s]=some (.int m)/\0<=m):
  gP 1 5 (zq3 GSm GM uR pT zj3 vP (mZ 50) zX) [.con xs]=some (.bl true):=by
 obtain⟨m,hm,hm0⟩:=hM 2 43 (by decide) (by decide) (by decide) (by decide)
 obtain⟨c,hc,hc3⟩:=xa9 m
 obtain⟨us,y2,q,ul,uk⟩:=zP hM ((List.range c).map fun(k:Nat)=>(k:Int)) (fun j hj=>by obtain⟨k,hk,rfl⟩:=List.mem_map.mp hj;have:=List.mem_range.mp hk;omega) ts none (by rw [List.length_map,List.length_range];omega) hk
 rw [<-zI] at q
 rw [List.length_map,List.length_range] at ul
 have s1:aM 1 (aF (aE GSm (aA (aB 0) aC))) [some (.con xs),none,none,none,none,none]=some (.nx,[some (.con xs),some (.lst true (aK ts)),none,none,none,none]):=gF (eL rfl h0)
 have er:eG (aA (f2 dIx (aX (fKs [.int 0,.int 1,.int 1,.int 2,.int 3])) (f2 fO (aE GM (aA (aB 0) (aA (fC (.int 2)) (aA (fC (.int 43)) aC)))) (fC (.int 5)))) aC) [some (.con xs),some (.lst true (aK ts)),none,none,none,none]=some (hX 0 c):=by
  have e1:aA (f2 dIx (aX (fKs [.int 0,.int 1,.int 1,.int 2,.int 3])) (f2 fO (aE GM (aA (aB 0) (aA (fC (.int 2)) (aA (fC (.int 43)) aC)))) (fC (.int 5)))) aC [some (.con xs),some (.lst true (aK ts)),none,none,none,none]=some [.int c]:=by
   refine eW (fR (x:= .lst true [.int 0,.int 1,.int 1,.int 2,.int 3]) (y:= .int (m % 5)) (zc6 rfl (show 5<=1000 by decide)) (fR (x:= .int m) (y:= .int 5) (eL rfl hm) rfl (by rw [cE];rfl)) hc) rfl
  unfold eG
  rw [e1,Option.bind_some,wE (by omega) (by omega)];rfl
 have s2:dG 2 (eG (aA (f2 dIx (aX (fKs [.int 0,.int 1,.int 1,.int 2,.int 3])) (f2 fO (aE GM (aA (aB 0) (aA (fC (.int 2)) (aA (fC (.int 43)) aC)))) (fC (.int 5)))) aC)) (zj4 GM) [some (.con xs),some (.lst true (aK ts)),none,none,none,none]=some (.nx,[some (.con xs),some (.lst true (aK us)),y2,none,none,none]):=by
  unfold dG;rw [er];exact q
 have s4:∀d3,aM 4 (aF (aE cM (aA (aB 1) aC))) [some (.con xs),some (.lst true (aK us)),y2,some d3,none,none]=some (.nx,[some (.con xs),some (.lst true (aK us)),y2,some d3,some (.lst true (aK us)),none]):=fun d3=>gF (eL (ds:=[.lst true (aK us)]) rfl (by rw [cM,if_pos (jW _)]))
 have eqt:=xa7 (o:=true) (o':=true) uk
 have s3:∀k:Int,pT [.lst true (aK us)]=some (.int k)->aM 3 (aF (aE pT (aA (aB 1) aC))) [some (.con xs),some (.lst true (aK us)),y2,none,none,none]=some (.nx,[some (.con xs),some (.lst true (aK us)),y2,some (.int k),none,none]):=fun k hk=>gF (eL rfl hk)
 have c5:∀k:Int,fB (f2 dGt (aB 3) (fC (.int 0))) [some (.con xs),some (.lst true (aK us)),y2,some (.int k),some (.lst true (aK us)),none]=some (decide (0<k)):=fun k=>uC (fR (x:= .int k) (y:= .int 0) rfl rfl rfl)
 rcases xa8 (ts:=us) (by omega) with ⟨k,hk0,f1,f2'⟩|⟨f1,r,r1,r2,r3⟩
 ·refine jL rfl ((cF s1).trans ((cF s2).trans ((cF (s3 k f1)).trans ((cF (s4 _)).trans (gY ((jI ((c5 k).trans (by rw [decide_eq_true hk0]))).trans (fW (yi0 (fR (x:= .int k) (y:= .int k) (eL rfl f2') rfl ?_) (fR rfl rfl eqt)))))))))
  show some (D.bl (decide (k=k)))=_
  rw [decide_eq_true rfl]
 ·have s5:aM 5 (aF (aE vP (aA (aB 4) aC))) [some (.con xs),some (.lst true (aK us)),y2,some (.int 0),some (.lst true (aK us)),none]=some (.nx,[some (.con xs),some (.lst true (aK us)),y2,some (.int 0),some (.lst true (aK us)),some r]):=gF (eL rfl r1)
  exact jL rfl ((cF s1).trans ((cF s2).trans ((cF (s3 0 f1)).trans ((cF (s4 _)).trans ((cF (iV ((c5 0).trans (by rw [decide_eq_false (by decide)])))).trans ((cF s5).trans (fW (yi0 (fR rfl rfl eqt) (eL (ds:=[r,r]) (eW rfl (eW (eL rfl r2) rfl)) r3)))))))))
theorem zz6{GM:tz6}{xs:List D}(hx:xs.length<=63)(hM:∀k s:Int,0<=k->k<1000->0<=s->s<1000->∃m,GM [.con xs,.int k,.int s]=some (.int m)/\0<=m):
  gP 1 5 (zq3 (ya5 GM zY (zd2 GM zY)) GM uR pT zj3 vP (mZ 50) zX) [.con xs]=some (.bl true):=by
 obtain⟨ts,r,fl,q,h1,h2,h3,h4⟩:=yu2 (GL:=zY) (GT:=zd2 GM zY) hx (fun m hm=>zu4 hm) hM (fun many nest h1 h2=>yg8 (a:=0) (fun m hm=>zu4 hm) (fun j s hj hs=>hM j s (by omega) (by omega) (by omega) (by omega)) (by omega) (by omega) (by omega))
 exact zz5 q h3 h2 hM
end My
namespace My
open PySem PySem.Spec PyProof.Rows L2 L3
variable{P:Program}{w:World}{K:tz0}{mg:tzA}{base:Heap}{κ:tz9}
abbrev zq5:List D->Option (List Int):=D.ints
theorem zQ:∀ns:List Int,zq5 (ns.map .int)=some ns
 |[]=>rfl
 |n::ns=>by show(D.ints (ns.map .int)).map (n::·)=_;rw [show D.ints (ns.map .int)=some ns from zQ ns];rfl
def yo4:tz6
 |[.con xs,.int k,.int s]=>match zq5 xs with
  |some ns=>if ns.length<=63/\(0<=k/\k<1000000)/\(0<=s/\s<1000000) then some (.int (uN ns k s)) else none
  |none=>none
 |_=>none
theorem yn5{ns:List Int}(h:ns.length<=63)(k s:Int)(hk:0<=k)(hk1:k<1000)(hs:0<=s)(hs1:s<1000):∃m,yo4 [.con (ns.map .int),.int k,.int s]=some (.int m)/\0<=m:=by
 refine⟨uN ns k s,?_,(zr4 ns k s).1⟩
 show(match zq5 (ns.map .int) with|some ns=>if ns.length<=63/\(0<=k/\k<1000000)/\(0<=s/\s<1000000) then some (D.int (uN ns k s)) else none|none=>none)=_
 rw [zQ]
 exact if_pos ⟨h,⟨hk,by omega⟩,hs,by omega⟩
theorem xg4{k:Nat}{f:Addr}{fd:FuncData}{ps:List Str}(F:FnOk P w K mg base CX0 k f fd ps (zv0 K)):FnOk P w K mg base CX0 k f fd ps (SpP 3 K κ yo4):=by
 refine F.imp fun vs H Q E ⟨_,ds,fp,d,r,e,q⟩=> ?_
 unfold yo4 at e
 split at e
 ·rename_i xs k s
  split at e
  ·rename_i ns hns
   obtain⟨hc,e⟩:=dU e
   cases e
   obtain⟨v1,us,f,g,rfl,r1,r2,rfl⟩:=r.split
   obtain⟨v2,us2,f2,g2,rfl,r3,r4,rfl⟩:=r2.split
   obtain⟨v3,rfl,r5⟩:=r4.one_inv
   rw [r3.is_int,r5.is_int]
   obtain⟨a,vs,rfl,hS,hs⟩:=r1.con_inv
   rw [zt3 hs hns] at hS
   exact⟨a,ns,k,s,rfl,hS.l,hc.1,hc.2.1,hc.2.2,q _ H [] (SameK.refl H) (fun _ ha=>absurd ha (by simp)) List.nodup_nil (.int _)⟩
  ·cases e
 ·cases e
def zj5(K:tz0):Sp:=fun vs H Q _=>∃(a:Addr) (ns:List Int),vs=[.ref a]/\SqF K H a (ns.map V.int)/\ns.length<=63/\∀H',Q (.bl true) H'
theorem zh1{H:Hp}:∀ns:List Int,Reps K κ H (ns.map V.int) (ns.map .int) []
 |[]=> .nil
 |n::ns=> .cons (f:=[]) (g:=[]) (.int n) (zh1 ns)
theorem xg5{k:Nat}{f:Addr}{fd:FuncData}{ps:List Str}{g:tz6}(F:FnOk P w K mg base CX0 k f fd ps (SpP 1 K κ g))(h:∀ns:List Int,ns.length<=63->g [.con (ns.map .int)]=some (.bl true)):FnOk P w K mg base CX0 k f fd ps (zj5 K):=
 F.imp fun vs H Q E ⟨a,ns,e,hS,hl,q⟩=>e▸⟨rfl,[.con (ns.map .int)],[],.bl true,.cons (f:=[]) (g:=[]) (.con hS (zh1 ns)) .nil,h ns hl,fun v H' fv _ _ _ r=>by cases r;exact q H'⟩
def Cur:Nat->(List Value->Prop)->Prop
 |0,P=>P []
 |n+1,P=>∀a,Cur n fun us=>P (a::us)
theorem fM{n:Nat}:∀{P:List Value->Prop},Cur n P->∀us:List Value,us.length=n->P us:=by
 induction n with
 |zero=>intro P h us hl;cases List.eq_nil_of_length_eq_zero hl;exact h
 |succ n ih=>
  intro P h us hl
  cases us with
  |nil=>cases hl
  |cons a us=>exact ih (h a) us (Nat.succ.inj hl)
theorem lN{h:Heap}(X:K.In h)(G:h.Ns mainGlobals mg){x:Str}{st:Stmt}{f:Addr}{od an:Option Addr}{sl:Array (Option Value)}{oc kV dc pm cd ct:Value}{ps:List Str}
  (a:PySem.W.nsIn K mainGlobals x=some (some (.ref f))) (l:K.lookup f=some ⟨oc,od,.func (PySem.W.fnOf x x (eO st) (dF st) (aY st) .none kV dc pm an cd ct),sl⟩) (c:PySem.W.codeIn K cd x=true) (k:PySem.W.keepIn K (.ref f)=true)
  (hb:∀(kV doc pm:Value) (an:Option Addr) (cdv ct:Value) (us:List Value),us.length=ps.length->bindArgs (PySem.W.fnOf x x (eO st) (dF st) (aY st) .none kV doc pm an cdv ct) ⟨us,[]⟩=pure (ps.zip us)):
  Dn K mg x st ps f (PySem.W.fnOf x x (eO st) (dF st) (aY st) .none kV dc pm an cd ct):=
 ⟨gX l c k,(gX l c k).binds hb,PySem.W.mg_of X G a⟩
theorem xg6{l:PySem.W.OpenLaw}{q:Program}{loose:List Str}{XP:(tzA)->Heap->Prop}{YP:World->Heap->Prop}{d:DefRec}{K:Params->tz0}{lev:Nat}(hn:l.most=some 63)(hdf:d.params.defaults=[])(hr:Room lev callerA)
  (hY:∀(w:World) (h:Heap),YP w h->(K w.params).In h)
  (F:∀(w:World) (mg:tzA) (fa:Addr) (h:Heap),(K w.params).In h->h.Ns mainGlobals mg->mg d.name=some (.ref fa)->
   ∃fd:FuncData,(∀(s:Shared) (u:Value),BindsTo s fd ⟨[u],[]⟩ [("_law_script",u)])/\∀base:Heap,(K w.params).In base->base.Ns mainGlobals mg->FnOk l.prog w (K w.params) mg base CX0 lev fa fd ["_law_script"] (zj5 (K w.params))):
  PySem.W.WalkO q loose XP YP l.row.toRowW d [] (fun f vs=>PySem.call f vs):=
 L2.yr0 (n:=63) (k:=lev) (x:="_law_script") (CX:=fun _=>CX0) (sp:=fun w=>zj5 (K w.params)) hn (by decide) hdf hr hY F (fun _ H a ns hl hO hS=>⟨a,ns,rfl,by
  rcases hS with (h|h)|h
  ·rcases hO a with z|⟨o,xs,z⟩<;>rw [h] at z<;>cases z
  ·exact .inl h
  ·exact .inr h,hl,fun _=>rfl⟩) fun _ _ _ _ _ z=>z
end My
namespace My
open PySem PySem.Spec PyProof.Rows L2 L3
theorem xb0{l:PySem.W.OpenLaw}{w:World}{K:tz0}{h:Heap}{mg:tzA}{fa f0 f1 f2 f3 f4 f5 f6 f7 f8 f9 f10 f11 f12 f13 f14:Addr}(X:K.In h)(G:h.Ns mainGlobals mg)(hfa:mg "law"=some (.ref fa))
  {od0 an0 od1 an1 od2 an2 od3 an3 od4 an4 od5 an5 od6 an6 od7 an7 od8 an8 od9 an9 od10 an10 od11 an11 od12 an12 od13 an13 od14 an14:Option Addr} {sl0 sl1 sl2 sl3 sl4 sl5 sl6 sl7 sl8 sl9 sl10 sl11 sl12 sl13 sl14:Array (Option Value)} {oc0 kV0 dc0 pm0 cd0 ct0 oc1 kV1 dc1 pm1 cd1 ct1 oc2 kV2 dc2 pm2 cd2 ct2 oc3 kV3 dc3 pm3 cd3 ct3 oc4 kV4 dc4 pm4 cd4 ct4 oc5 kV5 dc5 pm5 cd5 ct5 oc6 kV6 dc6 pm6 cd6 ct6 oc7 kV7 dc7 pm7 cd7 ct7 oc8 kV8 dc8 pm8 cd8 ct8 oc9 kV9 dc9 pm9 cd9 ct9 oc10 kV10 dc10 pm10 cd10 ct10 oc11 kV11 dc11 pm11 cd11 ct11 oc12 kV12 dc12 pm12 cd12 ct12 oc13 kV13 dc13 pm13 cd13 ct13 oc14 kV14 dc14 pm14 cd14 ct14:Value}
  {v0 v1 v2 v3:Value}
  (a0:PySem.W.nsIn K mainGlobals "row_of"=some (some (.ref f0))) (l0:K.lookup f0=some ⟨oc0,od0,.func (PySem.W.fnOf "row_of" "row_of" (eO jC) (dF jC) (aY jC) .none kV0 dc0 pm0 an0 cd0 ct0),sl0⟩) (c0:PySem.W.codeIn K cd0 "row_of"=true) (k0:PySem.W.keepIn K (.ref f0)=true)
  (a1:PySem.W.nsIn K mainGlobals "_law_cell_at"=some (some (.ref f1))) (l1:K.lookup f1=some ⟨oc1,od1,.func (PySem.W.fnOf "_law_cell_at" "_law_cell_at" (eO kB) (dF kB) (aY kB) .none kV1 dc1 pm1 an1 cd1 ct1),sl1⟩) (c1:PySem.W.codeIn K cd1 "_law_cell_at"=true) (k1:PySem.W.keepIn K (.ref f1)=true)
  (a2:PySem.W.nsIn K mainGlobals "_law_mixed"=some (some (.ref f2))) (l2:K.lookup f2=some ⟨oc2,od2,.func (PySem.W.fnOf "_law_mixed" "_law_mixed" (eO jR) (dF jR) (aY jR) .none kV2 dc2 pm2 an2 cd2 ct2),sl2⟩) (c2:PySem.W.codeIn K cd2 "_law_mixed"=true) (k2:PySem.W.keepIn K (.ref f2)=true)
  (a3:PySem.W.nsIn K mainGlobals "_law_word"=some (some (.ref f3))) (l3:K.lookup f3=some ⟨oc3,od3,.func (PySem.W.fnOf "_law_word" "_law_word" (eO mQ) (dF mQ) (aY mQ) .none kV3 dc3 pm3 an3 cd3 ct3),sl3⟩) (c3:PySem.W.codeIn K cd3 "_law_word"=true) (k3:PySem.W.keepIn K (.ref f3)=true)
  (a4:PySem.W.nsIn K mainGlobals "_law_whole"=some (some (.ref f4))) (l4:K.lookup f4=some ⟨oc4,od4,.func (PySem.W.fnOf "_law_whole" "_law_whole" (eO kL) (dF kL) (aY kL) .none kV4 dc4 pm4 an4 cd4 ct4),sl4⟩) (c4:PySem.W.codeIn K cd4 "_law_whole"=true) (k4:PySem.W.keepIn K (.ref f4)=true)
  (a5:PySem.W.nsIn K mainGlobals "_law_leaf"=some (some (.ref f5))) (l5:K.lookup f5=some ⟨oc5,od5,.func (PySem.W.fnOf "_law_leaf" "_law_leaf" (eO lJ) (dF lJ) (aY lJ) .none kV5 dc5 pm5 an5 cd5 ct5),sl5⟩) (c5:PySem.W.codeIn K cd5 "_law_leaf"=true) (k5:PySem.W.keepIn K (.ref f5)=true)
  (a6:PySem.W.nsIn K mainGlobals "_law_shutting"=some (some (.ref f6))) (l6:K.lookup f6=some ⟨oc6,od6,.func (PySem.W.fnOf "_law_shutting" "_law_shutting" (eO jJ) (dF jJ) (aY jJ) .none kV6 dc6 pm6 an6 cd6 ct6),sl6⟩) (c6:PySem.W.codeIn K cd6 "_law_shutting"=true) (k6:PySem.W.keepIn K (.ref f6)=true)
  (a7:PySem.W.nsIn K mainGlobals "_law_tokens"=some (some (.ref f7))) (l7:K.lookup f7=some ⟨oc7,od7,.func (PySem.W.fnOf "_law_tokens" "_law_tokens" (eO kS) (dF kS) (aY kS) .none kV7 dc7 pm7 an7 cd7 ct7),sl7⟩) (c7:PySem.W.codeIn K cd7 "_law_tokens"=true) (k7:PySem.W.keepIn K (.ref f7)=true)
  (a8:PySem.W.nsIn K mainGlobals "_law_built"=some (some (.ref f8))) (l8:K.lookup f8=some ⟨oc8,od8,.func (PySem.W.fnOf "_law_built" "_law_built" (eO lQ) (dF lQ) (aY lQ) .none kV8 dc8 pm8 an8 cd8 ct8),sl8⟩) (c8:PySem.W.codeIn K cd8 "_law_built"=true) (k8:PySem.W.keepIn K (.ref f8)=true)
  (a9:PySem.W.nsIn K mainGlobals "_law_same"=some (some (.ref f9))) (l9:K.lookup f9=some ⟨oc9,od9,.func (PySem.W.fnOf "_law_same" "_law_same" (eO mS) (dF mS) (aY mS) .none kV9 dc9 pm9 an9 cd9 ct9),sl9⟩) (c9:PySem.W.codeIn K cd9 "_law_same"=true) (k9:PySem.W.keepIn K (.ref f9)=true)
  (a10:PySem.W.nsIn K mainGlobals "_law_some"=some (some (.ref f10))) (l10:K.lookup f10=some ⟨oc10,od10,.func (PySem.W.fnOf "_law_some" "_law_some" (eO lK) (dF lK) (aY lK) .none kV10 dc10 pm10 an10 cd10 ct10),sl10⟩) (c10:PySem.W.codeIn K cd10 "_law_some"=true) (k10:PySem.W.keepIn K (.ref f10)=true)
  (a11:PySem.W.nsIn K mainGlobals "_law_changed"=some (some (.ref f11))) (l11:K.lookup f11=some ⟨oc11,od11,.func (PySem.W.fnOf "_law_changed" "_law_changed" (eO kC) (dF kC) (aY kC) .none kV11 dc11 pm11 an11 cd11 ct11),sl11⟩) (c11:PySem.W.codeIn K cd11 "_law_changed"=true) (k11:PySem.W.keepIn K (.ref f11)=true)
  (a12:PySem.W.nsIn K mainGlobals "_law_first_bad"=some (some (.ref f12))) (l12:K.lookup f12=some ⟨oc12,od12,.func (PySem.W.fnOf "_law_first_bad" "_law_first_bad" (eO iY) (dF iY) (aY iY) .none kV12 dc12 pm12 an12 cd12 ct12),sl12⟩) (c12:PySem.W.codeIn K cd12 "_law_first_bad"=true) (k12:PySem.W.keepIn K (.ref f12)=true)
  (a13:PySem.W.nsIn K mainGlobals "_law_bad"=some (some (.ref f13))) (l13:K.lookup f13=some ⟨oc13,od13,.func (PySem.W.fnOf "_law_bad" "_law_bad" (eO nP) (dF nP) (aY nP) .none kV13 dc13 pm13 an13 cd13 ct13),sl13⟩) (c13:PySem.W.codeIn K cd13 "_law_bad"=true) (k13:PySem.W.keepIn K (.ref f13)=true)
  (a14:PySem.W.nsIn K mainGlobals "law"=some (some (.ref f14))) (l14:K.lookup f14=some ⟨oc14,od14,.func (PySem.W.fnOf "law" "law" (eO oU) (dF oU) (aY oU) .none kV14 dc14 pm14 an14 cd14 ct14),sl14⟩) (c14:PySem.W.codeIn K cd14 "law"=true) (k14:PySem.W.keepIn K (.ref f14)=true)
  (z0:PySem.W.nsIn K mainGlobals "len"=some none)
  (z1:PySem.W.nsIn K mainGlobals "max"=some none)
  (z2:PySem.W.nsIn K mainGlobals "range"=some none)
  (z3:PySem.W.nsIn K mainGlobals "isinstance"=some none)
  (z4:PySem.W.nsIn K mainGlobals "int"=some none)
  (z5:PySem.W.nsIn K mainGlobals "bool"=some none)
  (z6:PySem.W.nsIn K mainGlobals "tuple"=some none)
  (z7:PySem.W.nsIn K mainGlobals "str"=some none)
  (z8:PySem.W.nsIn K mainGlobals "min"=some none)
  (z9:PySem.W.nsIn K mainGlobals "list"=some none)
  (z10:PySem.W.nsIn K mainGlobals "reversed"=some none)
  (z11:PySem.W.nsIn K mainGlobals "ValueError"=some none)
  (g0:PySem.W.nsIn K mainGlobals "FEWEST_ROWS"=some (some v0))
  (gi0:∃t,v0= .int 2 t)
  (g1:PySem.W.nsIn K mainGlobals "MOST_ROWS"=some (some v1))
  (gi1:∃t,v1= .int 4 t)
  (g2:PySem.W.nsIn K mainGlobals "DEEPEST"=some (some v2))
  (gi2:∃t,v2= .int 12 t)
  (g3:PySem.W.nsIn K mainGlobals "MOST_TOKENS"=some (some v3))
  (gi3:∃t,v3= .int 200 t)
  {aOPENERS:Addr} {odOPENERS:Option Addr} {nOPENERS:Nat} {slOPENERS:Array (Option Value)} {uOPENERS_0 uOPENERS_1 uOPENERS_2:Tok}
  (g4:PySem.W.nsIn K mainGlobals "OPENERS"=some (some (.ref aOPENERS)))
  (dtOPENERS:K.lookup aOPENERS=some ⟨.type "tuple",odOPENERS,.seq #[.str "open" uOPENERS_0,.str "hang" uOPENERS_1,.str "either" uOPENERS_2] nOPENERS,slOPENERS⟩)
  {aOPENER_OF:Addr} {esOPENER_OF:Array DictEntry} {epOPENER_OF:Nat} {tOPENER_OF0 tOPENER_OF1 tOPENER_OF2 tOPENER_OF3:Tok}
  {bOPENER_OF0:Tok}
  {bOPENER_OF1:Tok}
  {bOPENER_OF2:Tok}
  {bOPENER_OF3:Tok}
  (g5:PySem.W.nsIn K mainGlobals "OPENER_OF"=some (some (.ref aOPENER_OF)))
  (dlOPENER_OF:K.lookup aOPENER_OF=some ⟨.type "dict",none,.dict esOPENER_OF epOPENER_OF,#[]⟩)
  (deOPENER_OF:esOPENER_OF= #[⟨hashStr w "close",.str "close" tOPENER_OF0,.str "open" bOPENER_OF0⟩,⟨hashStr w "back",.str "back" tOPENER_OF1,.str "hang" bOPENER_OF1⟩,⟨hashStr w "or",.str "or" tOPENER_OF2,.str "either" bOPENER_OF2⟩,⟨hashStr w "done",.str "done" tOPENER_OF3,.str "either" bOPENER_OF3⟩])
  (dsOPENER_OF:(aOPENER_OF==sysModules)=false)
  {b9:Addr} {bj bq ax bf:Addr} {od_Nest_init an_Nest_init od_Nest_end_row an_Nest_end_row od_Nest_can_end_by an_Nest_can_end_by od_Nest_as_piece an_Nest_as_piece:Option Addr} {sl_Nest_init sl_Nest_end_row sl_Nest_can_end_by sl_Nest_as_piece:Array (Option Value)} {oc_Nest_init kV_Nest_init dc_Nest_init pm_Nest_init cd_Nest_init ct_Nest_init oc_Nest_end_row kV_Nest_end_row dc_Nest_end_row pm_Nest_end_row cd_Nest_end_row ct_Nest_end_row oc_Nest_can_end_by kV_Nest_can_end_by dc_Nest_can_end_by pm_Nest_can_end_by cd_Nest_can_end_by ct_Nest_can_end_by oc_Nest_as_piece kV_Nest_as_piece dc_Nest_as_piece pm_Nest_as_piece cd_Nest_as_piece ct_Nest_as_piece:Value}
  (t4:PySem.W.nsIn K mainGlobals "Nest"=some (some (.ref b9)))
  (t5:PySem.W.plainGet K b9 Str.empty=true)
  (t6:PySem.W.hasDictIn K b9=true)
  (t7:PySem.W.plainOver K b9=true)
  (t8:PySem.W.findIn K (.ref b9) "__setattr__"=some (some (.builtin "object.__setattr__")))
  (t9:PySem.W.makesIn K b9=true)
  (ua:PySem.W.keepIn K (.ref b9)=true)
  (qj:PySem.W.findIn K (.ref b9) "__init__"=some (some (.ref bj)))
  (qk:PySem.W.isFn K (.ref bj)=true)
  (lw:K.lookup bj=some ⟨oc_Nest_init,od_Nest_init,.func (PySem.W.fnOf "__init__" "Nest.__init__" (eO jE) (dF jE) (aY jE) .none kV_Nest_init dc_Nest_init pm_Nest_init an_Nest_init cd_Nest_init ct_Nest_init),sl_Nest_init⟩)
  (lx:PySem.W.codeIn K cd_Nest_init "Nest.__init__"=true)
  (ly:PySem.W.keepIn K (.ref bj)=true)
  (nt:PySem.W.findIn K (.ref b9) "end_row"=some (some (.ref bq)))
  (nu:PySem.W.isFn K (.ref bq)=true)
  (jr:K.lookup bq=some ⟨oc_Nest_end_row,od_Nest_end_row,.func (PySem.W.fnOf "end_row" "Nest.end_row" (eO iP) (dF iP) (aY iP) .none kV_Nest_end_row dc_Nest_end_row pm_Nest_end_row an_Nest_end_row cd_Nest_end_row ct_Nest_end_row),sl_Nest_end_row⟩)
  (js:PySem.W.codeIn K cd_Nest_end_row "Nest.end_row"=true)
  (gm:PySem.W.keepIn K (.ref bq)=true)
  (lz:PySem.W.findIn K (.ref b9) "can_end_by"=some (some (.ref ax)))
  (ma:PySem.W.isFn K (.ref ax)=true)
  (ij:K.lookup ax=some ⟨oc_Nest_can_end_by,od_Nest_can_end_by,.func (PySem.W.fnOf "can_end_by" "Nest.can_end_by" (eO gO) (dF gO) (aY gO) .none kV_Nest_can_end_by dc_Nest_can_end_by pm_Nest_can_end_by an_Nest_can_end_by cd_Nest_can_end_by ct_Nest_can_end_by),sl_Nest_can_end_by⟩)
  (ik:PySem.W.codeIn K cd_Nest_can_end_by "Nest.can_end_by"=true)
  (d6:PySem.W.keepIn K (.ref ax)=true)
  (nn:PySem.W.findIn K (.ref b9) "as_piece"=some (some (.ref bf)))
  (no:PySem.W.isFn K (.ref bf)=true)
  (i6:K.lookup bf=some ⟨oc_Nest_as_piece,od_Nest_as_piece,.func (PySem.W.fnOf "as_piece" "Nest.as_piece" (eO iF) (dF iF) (aY iF) .none kV_Nest_as_piece dc_Nest_as_piece pm_Nest_as_piece an_Nest_as_piece cd_Nest_as_piece ct_Nest_as_piece),sl_Nest_as_piece⟩)
  (i7:PySem.W.codeIn K cd_Nest_as_piece "Nest.as_piece"=true)
  (fk:PySem.W.keepIn K (.ref bf)=true)
  (sx:PySem.W.findIn K (.ref b9) "opener"=some none)
  (tm:PySem.W.findIn K (.ref b9) "ended"=some none)
  (sy:PySem.W.findIn K (.ref b9) "pieces"=some none)
  {ay:Addr} {aw ag av au af:Addr} {od_Builder_init an_Builder_init od_Builder_can_stand an_Builder_can_stand od_Builder_add an_Builder_add od_Builder_row_so_far an_Builder_row_so_far od_Builder_whole_row an_Builder_whole_row:Option Addr} {sl_Builder_init sl_Builder_can_stand sl_Builder_add sl_Builder_row_so_far sl_Builder_whole_row:Array (Option Value)} {oc_Builder_init kV_Builder_init dc_Builder_init pm_Builder_init cd_Builder_init ct_Builder_init oc_Builder_can_stand kV_Builder_can_stand dc_Builder_can_stand pm_Builder_can_stand cd_Builder_can_stand ct_Builder_can_stand oc_Builder_add kV_Builder_add dc_Builder_add pm_Builder_add cd_Builder_add ct_Builder_add oc_Builder_row_so_far kV_Builder_row_so_far dc_Builder_row_so_far pm_Builder_row_so_far cd_Builder_row_so_far ct_Builder_row_so_far oc_Builder_whole_row kV_Builder_whole_row dc_Builder_whole_row pm_Builder_whole_row cd_Builder_whole_row ct_Builder_whole_row:Value}
  (rn:PySem.W.nsIn K mainGlobals "Builder"=some (some (.ref ay)))
  (rq:PySem.W.plainGet K ay Str.empty=true)
  (rz:PySem.W.hasDictIn K ay=true)
  (r9:PySem.W.plainOver K ay=true)
  (sd:PySem.W.findIn K (.ref ay) "__setattr__"=some (some (.builtin "object.__setattr__")))
  (se:PySem.W.makesIn K ay=true)
  (sf:PySem.W.keepIn K (.ref ay)=true)
  (nv:PySem.W.findIn K (.ref ay) "__init__"=some (some (.ref aw)))
  (ny:PySem.W.isFn K (.ref aw)=true)
  (jt:K.lookup aw=some ⟨oc_Builder_init,od_Builder_init,.func (PySem.W.fnOf "__init__" "Builder.__init__" (eO hJ) (dF hJ) (aY hJ) .none kV_Builder_init dc_Builder_init pm_Builder_init an_Builder_init cd_Builder_init ct_Builder_init),sl_Builder_init⟩)
  (ju:PySem.W.codeIn K cd_Builder_init "Builder.__init__"=true)
  (jv:PySem.W.keepIn K (.ref aw)=true)
  (ky:PySem.W.findIn K (.ref ay) "can_stand"=some (some (.ref ag)))
  (kz:PySem.W.isFn K (.ref ag)=true)
  (gn:K.lookup ag=some ⟨oc_Builder_can_stand,od_Builder_can_stand,.func (PySem.W.fnOf "can_stand" "Builder.can_stand" (eO fN) (dF fN) (aY fN) .none kV_Builder_can_stand dc_Builder_can_stand pm_Builder_can_stand an_Builder_can_stand cd_Builder_can_stand ct_Builder_can_stand),sl_Builder_can_stand⟩)
  (gq:PySem.W.codeIn K cd_Builder_can_stand "Builder.can_stand"=true)
  (dq:PySem.W.keepIn K (.ref ag)=true)
  (oj:PySem.W.findIn K (.ref ay) "add"=some (some (.ref av)))
  (om:PySem.W.isFn K (.ref av)=true)
  (ka:K.lookup av=some ⟨oc_Builder_add,od_Builder_add,.func (PySem.W.fnOf "add" "Builder.add" (eO gW) (dF gW) (aY gW) .none kV_Builder_add dc_Builder_add pm_Builder_add an_Builder_add cd_Builder_add ct_Builder_add),sl_Builder_add⟩)
  (kc:PySem.W.codeIn K cd_Builder_add "Builder.add"=true)
  (g9:PySem.W.keepIn K (.ref av)=true)
  (ke:PySem.W.findIn K (.ref ay) "row_so_far"=some (some (.ref au)))
  (kf:PySem.W.isFn K (.ref au)=true)
  (gd:K.lookup au=some ⟨oc_Builder_row_so_far,od_Builder_row_so_far,.func (PySem.W.fnOf "row_so_far" "Builder.row_so_far" (eO fZ) (dF fZ) (aY fZ) .none kV_Builder_row_so_far dc_Builder_row_so_far pm_Builder_row_so_far an_Builder_row_so_far cd_Builder_row_so_far ct_Builder_row_so_far),sl_Builder_row_so_far⟩)
  (gf:PySem.W.codeIn K cd_Builder_row_so_far "Builder.row_so_far"=true)
  (de:PySem.W.keepIn K (.ref au)=true)
  (la:PySem.W.findIn K (.ref ay) "whole_row"=some (some (.ref af)))
  (lb:PySem.W.isFn K (.ref af)=true)
  (gu:K.lookup af=some ⟨oc_Builder_whole_row,od_Builder_whole_row,.func (PySem.W.fnOf "whole_row" "Builder.whole_row" (eO fA) (dF fA) (aY fA) .none kV_Builder_whole_row dc_Builder_whole_row pm_Builder_whole_row an_Builder_whole_row cd_Builder_whole_row ct_Builder_whole_row),sl_Builder_whole_row⟩)
  (gv:PySem.W.codeIn K cd_Builder_whole_row "Builder.whole_row"=true)
  (dr:PySem.W.keepIn K (.ref af)=true)
  (tq:PySem.W.findIn K (.ref ay) "taken"=some none)
  (tu:PySem.W.findIn K (.ref ay) "nests"=some none)
  {aa bz:Addr} {od_NoPiece_init an_NoPiece_init:Option Addr} {sl_NoPiece_init:Array (Option Value)} {oc_NoPiece_init kV_NoPiece_init dc_NoPiece_init pm_NoPiece_init cd_NoPiece_init ct_NoPiece_init:Value}
  (si:PySem.W.nsIn K mainGlobals "NoPiece"=some (some (.ref aa)))
  (tz:PySem.W.findIn K (.ref aa) "__init__"=some (some (.ref bz)))
  (nz:PySem.W.isFn K (.ref bz)=true)
  (jw:K.lookup bz=some ⟨oc_NoPiece_init,od_NoPiece_init,.func (PySem.W.fnOf "__init__" "NoPiece.__init__" (eO mF) (dF mF) (aY mF) .none kV_NoPiece_init dc_NoPiece_init pm_NoPiece_init an_NoPiece_init cd_NoPiece_init ct_NoPiece_init),sl_NoPiece_init⟩)
  (jx:PySem.W.codeIn K cd_NoPiece_init "NoPiece.__init__"=true)
  (jy:PySem.W.keepIn K (.ref bz)=true)
  (nE_NoPiece:zV K aa bz=true)
  (sj:PySem.W.findIn K (.ref aa) "__setattr__"=some (some (.builtin "object.__setattr__")))
  (at_NoPiece:PySem.W.findIn K (.ref aa) "at"=some none)
  (d4:PySem.W.mroIn K aa (.ref aa)=some true)
  (qr:PySem.W.findIn K (.ref aa) "__getattribute__"=some (some (.builtin "BaseException.__getattribute__")))
  (qt:PySem.W.findIn K (.ref aa) "__getattr__"=some none)
  (qu:PySem.W.mroIn K aa (.type "BaseException")=some true)
  (qv:PySem.W.findIn K (.ref aa) "__class__"=some (some (.builtin "object.__class__")))
  (qx:PySem.W.specialIn K (.builtin "object.__class__") "__get__"=some (some (.builtin "getset_descriptor.__get__")))
  (qy:PySem.W.takesIn K (.builtin "object.__class__")=some true)
  (qz:PySem.W.mroIn K aa (.type "object")=some true)
  {d8:Addr} (re:PySem.W.nsIn K mainGlobals "NoChoice"=some (some (.ref d8)))
  {g7:Addr} (tj:PySem.W.nsIn K mainGlobals "NoRoom"=some (some (.ref g7)))
  (b7:PySem.W.kitAny K (.ref aa) [.ref d8,.ref g7]=some false)
  {b0:Addr} (md:PySem.W.nsIn K mainGlobals "LineError"=some (some (.ref b0)))
  (dl:PySem.W.kitOne K (.ref aa) (.ref b0)=some true)
  (db:PySem.W.kitOne K (.ref aa) (.type "ValueError")=some true)
  (big_NoPiece:PySem.W.specialIn K (.ref b0) "__getattribute__"=some (some (.builtin "type.__getattribute__")))
  (bir_NoPiece:PySem.W.readsIn K b0 (.type "type")=true)
  (bif_NoPiece:PySem.W.findCls K (.ref b0) (.type "type") "__init__"=some (.val (.builtin "ValueError.__init__")))
  :∃fd:FuncData,(∀(s:Shared) (v:Value),BindsTo s fd ⟨[v],[]⟩ [("_law_script",v)])/\∀base:Heap,K.In base->base.Ns mainGlobals mg->FnOk l.prog w K mg base CX0 52 fa fd ["_law_script"] (zj5 K):=by
 have e:=hfa.symm.trans (PySem.W.mg_of X G a14)
 cases e
 have bn:=lN (st:=jC) (ps:=["tokens"]) X G a0 l0 c0 k0 fun _ _ _ _ _ _=>fM (fun _=>rfl)
 have ia:=lN (st:=kB) (ps:=["_law_script","_law_k"]) X G a1 l1 c1 k1 fun _ _ _ _ _ _=>fM (fun _ _=>rfl)
 have bo:=lN (st:=jR) (ps:=["_law_script","_law_k","_law_salt"]) X G a2 l2 c2 k2 fun _ _ _ _ _ _=>fM (fun _ _ _=>rfl)
 have gy:=lN (st:=mQ) (ps:=["_law_number"]) X G a3 l3 c3 k3 fun _ _ _ _ _ _=>fM (fun _=>rfl)
 have cu:=lN (st:=kL) (ps:=["_law_found"]) X G a4 l4 c4 k4 fun _ _ _ _ _ _=>fM (fun _=>rfl)
 have di:=lN (st:=lJ) (ps:=["_law_number"]) X G a5 l5 c5 k5 fun _ _ _ _ _ _=>fM (fun _=>rfl)
 have cj:=lN (st:=jJ) (ps:=["_law_some_here","_law_now"]) X G a6 l6 c6 k6 fun _ _ _ _ _ _=>fM (fun _ _=>rfl)
 have dj:=lN (st:=kS) (ps:=["_law_script","_law_at","_law_many","_law_nest"]) X G a7 l7 c7 k7 fun _ _ _ _ _ _=>fM (fun _ _ _ _=>rfl)
 have fz:=lN (st:=lQ) (ps:=["_law_some_here"]) X G a8 l8 c8 k8 fun _ _ _ _ _ _=>fM (fun _=>rfl)
 have fj:=lN (st:=mS) (ps:=["_law_found","_law_due"]) X G a9 l9 c9 k9 fun _ _ _ _ _ _=>fM (fun _ _=>rfl)
 have g6:=lN (st:=lK) (ps:=["_law_script"]) X G a10 l10 c10 k10 fun _ _ _ _ _ _=>fM (fun _=>rfl)
 have dt:=lN (st:=kC) (ps:=["_law_some_here","_law_number"]) X G a11 l11 c11 k11 fun _ _ _ _ _ _=>fM (fun _ _=>rfl)
 have cn:=lN (st:=iY) (ps:=["_law_some_here"]) X G a12 l12 c12 k12 fun _ _ _ _ _ _=>fM (fun _=>rfl)
 have iy:=lN (st:=nP) (ps:=["_law_some_here"]) X G a13 l13 c13 k13 fun _ _ _ _ _ _=>fM (fun _=>rfl)
 have rm:=lN (st:=oU) (ps:=["_law_script"]) X G a14 l14 c14 k14 fun _ _ _ _ _ _=>fM (fun _=>rfl)
 obtain⟨κ,hκ⟩:∃κ,κ=(kap [("Nest",b9),("Builder",ay)]):=⟨_,rfl⟩
 have ej:κ "Nest"=b9:=by rw [hκ];simp [kap,aH]
 have ae:Cls K (κ "Nest"):=by rw [ej];exact⟨t5,t6,t7,t8⟩
 have gk:Kn K mg κ "Nest" "Nest.__init__" jE ["self","opener"] bj _:=⟨(gX lw lx ly),((gX lw lx ly).binds fun _ _ _ _ _ _=>fM (fun _ _=>rfl)),(by rw [ej];exact⟨t9,qj,qk,ua⟩),(by rw [ej];exact PySem.W.mg_of X G t4)⟩
 have ci:Mn K κ "Nest" "end_row" "Nest.end_row" iP ["self"] bq _:=⟨(gX jr js gm),((gX jr js gm).binds fun _ _ _ _ _ _=>fM (fun _=>rfl)),ae,(by rw [ej];exact⟨nt,nu,gm⟩)⟩
 have bw:Mn K κ "Nest" "can_end_by" "Nest.can_end_by" gO ["self","kind"] ax _:=⟨(gX ij ik d6),((gX ij ik d6).binds fun _ _ _ _ _ _=>fM (fun _ _=>rfl)),ae,(by rw [ej];exact⟨lz,ma,d6⟩)⟩
 have b5:Mn K κ "Nest" "as_piece" "Nest.as_piece" iF ["self"] bf _:=⟨(gX i6 i7 fk),((gX i6 i7 fk).binds fun _ _ _ _ _ _=>fM (fun _=>rfl)),ae,(by rw [ej];exact⟨nn,no,fk⟩)⟩
 have ce:dZ K (κ "Nest") "opener":=by rw [ej];exact sx
 have b8:dZ K (κ "Nest") "ended":=by rw [ej];exact tm
 have ar:dZ K (κ "Nest") "pieces":=by rw [ej];exact sy
 have cc:κ "Builder"=ay:=by rw [hκ];simp [kap,aH]
 have ac:Cls K (κ "Builder"):=by rw [cc];exact⟨rq,rz,r9,sd⟩
 have cr:Kn K mg κ "Builder" "Builder.__init__" hJ ["self"] aw _:=⟨(gX jt ju jv),((gX jt ju jv).binds fun _ _ _ _ _ _=>fM (fun _=>rfl)),(by rw [cc];exact⟨se,nv,ny,sf⟩),(by rw [cc];exact PySem.W.mg_of X G rn)⟩
 have am:Mn K κ "Builder" "can_stand" "Builder.can_stand" fN ["self","kind"] ag _:=⟨(gX gn gq dq),((gX gn gq dq).binds fun _ _ _ _ _ _=>fM (fun _ _=>rfl)),ac,(by rw [cc];exact⟨ky,kz,dq⟩)⟩
 have aj:Mn K κ "Builder" "add" "Builder.add" gW ["self","token"] av _:=⟨(gX ka kc g9),((gX ka kc g9).binds fun _ _ _ _ _ _=>fM (fun _ _=>rfl)),ac,(by rw [cc];exact⟨oj,om,g9⟩)⟩
 have bc:Mn K κ "Builder" "row_so_far" "Builder.row_so_far" fZ ["self"] au _:=⟨(gX gd gf de),((gX gd gf de).binds fun _ _ _ _ _ _=>fM (fun _=>rfl)),ac,(by rw [cc];exact⟨ke,kf,de⟩)⟩
 have ad:Mn K κ "Builder" "whole_row" "Builder.whole_row" fA ["self"] af _:=⟨(gX gu gv dr),((gX gu gv dr).binds fun _ _ _ _ _ _=>fM (fun _=>rfl)),ac,(by rw [cc];exact⟨la,lb,dr⟩)⟩
 have bd:dZ K (κ "Builder") "taken":=by rw [cc];exact tq
 have ai:dZ K (κ "Builder") "nests":=by rw [cc];exact tu
 have ah:=PySem.W.mg_none_of X G z0
 have my:=PySem.W.mg_none_of X G z1
 have bg:=PySem.W.mg_none_of X G z2
 have al:=PySem.W.mg_none_of X G z3
 have ez:=PySem.W.mg_none_of X G z4
 have qe:=PySem.W.mg_none_of X G z5
 have az:=PySem.W.mg_none_of X G z6
 have qd:=PySem.W.mg_none_of X G z7
 have rl:=PySem.W.mg_none_of X G z8
 have j8:=PySem.W.mg_none_of X G z9
 have kr:=PySem.W.mg_none_of X G z10
 have i4:=PySem.W.mg_none_of X G z11
 have iq:=PySem.W.mg_of X G g0
 obtain⟨t0,ei0⟩:=gi0
 subst ei0
 have j7:=PySem.W.mg_of X G g1
 obtain⟨t1,ei1⟩:=gi1
 subst ei1
 have lu:=PySem.W.mg_of X G g2
 obtain⟨t2,ei2⟩:=gi2
 subst ei2
 have ir:=PySem.W.mg_of X G g3
 obtain⟨t3,ei3⟩:=gi3
 subst ei3
 have dg:=PySem.W.mg_of X G g4
 have k_OPENERS:∀H,Rep K κ H (.ref aOPENERS) (.tup [(.str "open"),(.str "hang"),(.str "either")]) []:=fun H=>yl1 (ys:=[("open",uOPENERS_0),("hang",uOPENERS_1),("either",uOPENERS_2)]) dtOPENERS (Nat.le_of_ble_eq_true rfl) H
 have bi:=PySem.W.mg_of X G g5
 have k_OPENER_OF:uI l.prog w K κ aOPENER_OF fG lC:=⟨[(.inr "close",.str "open"),(.inr "back",.str "hang"),(.inr "or",.str "either"),(.inr "done",.str "either")],⟨dsOPENER_OF,_,esOPENER_OF,epOPENER_OF,[(.inr "close",.str "open" bOPENER_OF0),(.inr "back",.str "hang" bOPENER_OF1),(.inr "or",.str "either" bOPENER_OF2),(.inr "done",.str "either" bOPENER_OF3)],dlOPENER_OF,⟨rfl,rfl,rfl⟩,rfl,(.cons ⟨rfl,⟨_,rfl⟩⟩ (.cons ⟨rfl,⟨_,rfl⟩⟩ (.cons ⟨rfl,⟨_,rfl⟩⟩ (.cons ⟨rfl,⟨_,rfl⟩⟩ .nil)))),(by subst deOPENER_OF;intro e he;simp only [List.mem_toArray,List.mem_cons,List.not_mem_nil,or_false] at he;rcases he with rfl|rfl|rfl|rfl<;>exact⟨_,lU _ _ _ _,rfl⟩),(by subst deOPENER_OF;exact(.cons (lU _ _ _ _) rfl (.cons (lU _ _ _ _) rfl (.cons (lU _ _ _ _) rfl (.cons (lU _ _ _ _) rfl .nil))))),(show(fG:List Key).Nodup by decide+kernel)⟩,rfl,fun _=>(.cons (f:=[]) (g:=[]) (.str _) (.cons (f:=[]) (g:=[]) (.str _) (.cons (f:=[]) (g:=[]) (.str _) (.cons (f:=[]) (g:=[]) (.str _) .nil))))⟩
 refine⟨PySem.W.fnOf "law" "law" (eO oU) (dF oU) (aY oU) .none kV14 dc14 pm14 an14 cd14 ct14,fun s v=> .of_eq rfl,fun base KB _=> ?_⟩
 have d9:KExc K aa:=⟨qr,qt,qv,qx,qy,qz,qu,(by obtain⟨cd,e,_⟩:=zn5 nE_NoPiece;rw [e];rfl)⟩
 have kn_NoPiece:KNum K aa:=⟨d9,at_NoPiece,zn5 nE_NoPiece⟩
 have kt:=PySem.W.mg_of X G re
 have nj:=PySem.W.mg_of X G tj
 have j4:=PySem.W.mg_of X G md
 have NC_NoPiece:NumCls K aa bz base:=⟨yt1 KB nE_NoPiece,ym0 KB nz,sj,at_NoPiece⟩
 have N_NoPiece:NumI l.prog w K mg base "NoPiece" aa:=⟨PySem.W.mg_of X G si,bz,_,NC_NoPiece,yt0 (k:=0) (gX jw jx jy) zH rfl (PySem.W.mg_of X G md) ⟨big_NoPiece,bir_NoPiece,bif_NoPiece⟩ NC_NoPiece rfl (by decide+kernel) (by decide) (fun _ _=>⟨_,rfl⟩),((gX jw jx jy).binds fun _ _ _ _ _ _=>fM (fun _ _=>rfl))⟩
 have H1:=zo0 (P:=l.prog) (w:=w) (base:=base) (n:=0) ia ah
 have H2:=zy3 (n:=1) bo ia H1 ah my
 have bx:=xg4 (κ:=κ) H2
 have ni:=yf7 (P:=l.prog) (w:=w) (base:=base) (κ:=κ) (n:=0) gy bg
 have gz:=yf8 (P:=l.prog) (w:=w) (base:=base) (κ:=κ) (n:=1) di gy (ni.mono (by decide))
 have gg:=zh6 (P:=l.prog) (w:=w) (base:=base) (κ:=κ) (n:=0) cj
 have iu:=zr6 (P:=l.prog) (w:=w) (base:=base) (κ:=κ) (n:=2) dj bo (bx.mono (by decide)) cj (gg.mono (by decide)) di (gz.mono (by decide)) bg ah ez
 have nk:=yg0 (P:=l.prog) (w:=w) (base:=base) (κ:=κ) (n:=3) g6 bo (bx.mono (by decide)) di (gz.mono (by decide)) dj (iu.mono (by decide)) rl ah ez bg
 have j6:=zo2 (P:=l.prog) (w:=w) (base:=base) (κ:=κ) (n:=0) dt my j8 ah kr
 have il:=zc4 (P:=l.prog) (w:=w) (base:=base) (κ:=κ) (n:=0) cn bg ah
 have du:=zo4 (P:=l.prog) (w:=w) (base:=base) (κ:=κ) (n:=0) gk ae ce b8 ar
 have cg:=zF (P:=l.prog) (w:=w) (base:=base) (κ:=κ) (n:=1) cr gk (du.mono (by decide)) ac bd ai
 have eo:=vI (P:=l.prog) (w:=w) (base:=base) (κ:=κ) (n:=0) bw ae ce b8 ah iq j7 bi k_OPENER_OF
 have bh:=tY (P:=l.prog) (w:=w) (base:=base) (κ:=κ) (n:=1) am bw (eo.mono (by decide)) ac bd ai ah lu ir dg k_OPENERS bi k_OPENER_OF
 have g8:=zD (P:=l.prog) (w:=w) (base:=base) (κ:=κ) (n:=0) ci ae ar b8 az
 have gl:=xQ (P:=l.prog) (w:=w) (base:=base) (κ:=κ) (n:=0) b5 ae ce ar b8 az
 have b6:=zc5 (P:=l.prog) (w:=w) (base:=base) (κ:=κ) (n:=1) aj am (bh.mono (by decide)) gk (du.mono (by decide)) ci (g8.mono (by decide)) b5 (gl.mono (by decide)) ac ae bd ai ar dg k_OPENERS bi k_OPENER_OF
 have gx:=zG (P:=l.prog) (w:=w) (base:=base) (κ:=κ) (n:=0) aj am (bh.mono (by decide)) N_NoPiece ac ae bd ai ar dg k_OPENERS bi k_OPENER_OF
 have dh:=sK (P:=l.prog) (w:=w) (base:=base) (κ:=κ) (n:=0) ad N_NoPiece ac ai bd ah
 have jz:=zo1 (P:=l.prog) (w:=w) (base:=base) (κ:=κ) (n:=3) bn cr (cg.mono (by decide)) aj (b6.mono (by decide)) (gx.mono (by decide)) ad (dh.mono (by decide)) N_NoPiece
 have gb:=zy5 (P:=l.prog) (w:=w) (base:=base) (κ:=κ) (n:=0) cu al ez qe
 have oi:=ym3 (P:=l.prog) (w:=w) (base:=base) (κ:=κ) (n:=5) iy bn (jz.mono (by decide)) cu (gb.mono (by decide)) N_NoPiece d4 d9 kn_NoPiece kt nj b7 j4 dl db al i4
 have dm:=sJ (P:=l.prog) (w:=w) (base:=base) (κ:=κ) (n:=0) bc ac ae ar ai az
 have dv:=tZ (P:=l.prog) (w:=w) (base:=base) (κ:=κ) (n:=1) ad bc (dm.mono (by decide)) ac ai ah
 have kx:=zr5 (P:=l.prog) (w:=w) (base:=base) (κ:=κ) (n:=3) bn cr (cg.mono (by decide)) aj (b6.mono (by decide)) ad (dv.mono (by decide))
 have tw:∀n,FnOk l.prog w K mg base CX0 (n+1) _ _ ["_law_found","_law_due"] (SpP 2 K κ (mZ n)):=fun n=>by
  induction n with
  |zero=>exact FnOk.noneP (ps:=["_law_found","_law_due"])
  |succ n ih=>exact yf9 fj ih cu (gb.mono (by omega)) bg ah al az qd
 have i3:=tw 50
 have lr:=zy6 (P:=l.prog) (w:=w) (base:=base) (κ:=κ) (n:=0) fz az ez
 have vb:=yz7 (P:=l.prog) (w:=w) (base:=base) (κ:=κ) (n:=51) rm g6 (nk.mono (by decide)) bo (bx.mono (by decide)) dt (j6.mono (by decide)) cn (il.mono (by decide)) iy (oi.mono (by decide)) bn (kx.mono (by decide)) fj (i3.mono (by decide)) fz (lr.mono (by decide)) bg j8
 exact xg5 vb fun ns hl=>zz6 (by rw [List.length_map];exact hl) (yn5 hl)
end My
open PySem PySem.W PyProof.Rows
set_option maxRecDepth 100000 in
set_option maxHeartbeats 0 in
theorem PySem.Challenge.cw_linepress_k08_rows_put_together_holds : PySem.Challenge.rw_linepress_k08_rows_put_together.Holds := by
 w_on;o_law;k_head;(case hw=>w_witness2)
 k_fill
 refine My.xg6 (lev:=52) (l:=PySem.Challenge.rw_linepress_k08_rows_put_together) rfl rfl ⟨rfl,by decide,by decide⟩ (fun w h Y=>PySem.W.kIn_of Y) ?F
 case F=>
  intro w mg fa h KX G hmg
  refine' My.xb0 KX G hmg ?vc ?vd ?ve ?vf ?vg ?vh ?vi ?vj ?vm ?vn ?vo ?vp ?vq ?vt ?vv ?vw ?vx ?vy ?vz ?v4 ?v5 ?v6 ?v7 ?v8 ?v9 ?wa ?wb ?wc ?wd ?we ?wf ?wj ?wk ?wm ?wn ?wo ?wq ?wr ?wt ?wu ?ub ?uc ?ud ?ue ?uf ?ug ?uh ?ui ?uj ?um ?uo ?uq ?ur ?ut ?uu ?uv ?uw ?ux ?uy ?uz ?wv ?ww ?wx ?wy ?wz ?w4 ?w6 ?w8 ?xa ?xb ?u0 ?u4 ?xc ?u5 ?xf ?u7 ?xg ?u9 ?xh ?va ?xi ?ql ?xj ?on ?oo ?oq ?sk ?so ?sr ?ss ?su ?sv ?sw ?n6 ?n8 ?n9 ?oa ?og ?me ?mf ?mh ?mi ?mj ?kg ?kh ?ki ?kj ?km ?lh ?li ?lj ?ll ?lm ?qm ?rf ?qo ?pi ?pj ?pq ?pr ?pw ?pz ?p7 ?ml ?mm ?mn ?mo ?mq ?je ?jf ?jg ?jh ?ji ?m6 ?m7 ?m9 ?na ?nc ?i8 ?i9 ?ja ?jb ?jc ?jj ?jk ?jl ?jm ?jn ?rg ?rh ?p8 ?mr ?mt ?mv ?mw ?mx ?p9 ?qa ?qc ?kn ?ot ?ou ?oy ?oz ?o4 ?o5 ?o6 ?o7 ?qp ?gw ?oh ?jo ?jd ?o8 ?o9 ?pb
  (case vc=>k_is)
  (case vd=>k_is)
  (case ve=>k_is)
  (case vf=>k_is)
  (case vg=>k_is)
  (case vh=>k_is)
  (case vi=>k_is)
  (case vj=>k_is)
  (case vm=>k_is)
  (case vn=>k_is)
  (case vo=>k_is)
  (case vp=>k_is)
  (case vq=>k_is)
  (case vt=>k_is)
  (case vv=>k_is)
  (case vw=>k_is)
  (case vx=>k_is)
  (case vy=>k_is)
  (case vz=>k_is)
  (case v4=>k_is)
  (case v5=>k_is)
  (case v6=>k_is)
  (case v7=>k_is)
  (case v8=>k_is)
  (case v9=>k_is)
  (case wa=>k_is)
  (case wb=>k_is)
  (case wc=>k_is)
  (case wd=>k_is)
  (case we=>k_is)
  (case wf=>k_is)
  (case wj=>k_is)
  (case wk=>k_is)
  (case wm=>k_is)
  (case wn=>k_is)
  (case wo=>k_is)
  (case wq=>k_is)
  (case wr=>k_is)
  (case wt=>k_is)
  (case wu=>k_is)
  (case ub=>k_is)
  (case uc=>k_is)
  (case ud=>k_is)
  (case ue=>k_is)
  (case uf=>k_is)
  (case ug=>k_is)
  (case uh=>k_is)
  (case ui=>k_is)
  (case uj=>k_is)
  (case um=>k_is)
  (case uo=>k_is)
  (case uq=>k_is)
  (case ur=>k_is)
  (case ut=>k_is)
  (case uu=>k_is)
  (case uv=>k_is)
  (case uw=>k_is)
  (case ux=>k_is)
  (case uy=>k_is)
  (case uz=>k_is)
  (case wv=>k_is)
  (case ww=>k_is)
  (case wx=>k_is)
  (case wy=>k_is)
  (case wz=>k_is)
  (case w4=>k_is)
  (case w6=>k_is)
  (case w8=>k_is)
  (case xa=>k_is)
  (case xb=>k_is)
  (case u0=>k_is)
  (case u4=>k_is)
  (case xc=>k_is)
  (case u5=>exact⟨_,rfl⟩)
  (case xf=>k_is)
  (case u7=>exact⟨_,rfl⟩)
  (case xg=>k_is)
  (case u9=>exact⟨_,rfl⟩)
  (case xh=>k_is)
  (case va=>exact⟨_,rfl⟩)
  (case xi=>k_is)
  (case ql=>k_is)
  (case xj=>k_is)
  (case on=>k_is)
  (case oo=>rfl)
  (case oq=>rfl)
  (case sk=>k_is)
  (case so=>k_is)
  (case sr=>k_is)
  (case ss=>k_is)
  (case su=>k_is)
  (case sv=>k_is)
  (case sw=>k_is)
  (case n6=>k_is)
  (case n8=>k_is)
  (case n9=>k_is)
  (case oa=>k_is)
  (case og=>k_is)
  (case me=>k_is)
  (case mf=>k_is)
  (case mh=>k_is)
  (case mi=>k_is)
  (case mj=>k_is)
  (case kg=>k_is)
  (case kh=>k_is)
  (case ki=>k_is)
  (case kj=>k_is)
  (case km=>k_is)
  (case lh=>k_is)
  (case li=>k_is)
  (case lj=>k_is)
  (case ll=>k_is)
  (case lm=>k_is)
  (case qm=>k_is)
  (case rf=>k_is)
  (case qo=>k_is)
  (case pi=>k_is)
  (case pj=>k_is)
  (case pq=>k_is)
  (case pr=>k_is)
  (case pw=>k_is)
  (case pz=>k_is)
  (case p7=>k_is)
  (case ml=>k_is)
  (case mm=>k_is)
  (case mn=>k_is)
  (case mo=>k_is)
  (case mq=>k_is)
  (case je=>k_is)
  (case jf=>k_is)
  (case jg=>k_is)
  (case jh=>k_is)
  (case ji=>k_is)
  (case m6=>k_is)
  (case m7=>k_is)
  (case m9=>k_is)
  (case na=>k_is)
  (case nc=>k_is)
  (case i8=>k_is)
  (case i9=>k_is)
  (case ja=>k_is)
  (case jb=>k_is)
  (case jc=>k_is)
  (case jj=>k_is)
  (case jk=>k_is)
  (case jl=>k_is)
  (case jm=>k_is)
  (case jn=>k_is)
  (case rg=>k_is)
  (case rh=>k_is)
  (case p8=>k_is)
  (case mr=>k_is)
  (case mt=>k_is)
  (case mv=>k_is)
  (case mw=>k_is)
  (case mx=>k_is)
  (case p9=>kernel_rfl)
  (case qa=>k_is)
  (case qc=>k_is)
  (case kn=>k_is)
  (case ot=>k_is)
  (case ou=>k_is)
  (case oy=>k_is)
  (case oz=>k_is)
  (case o4=>k_is)
  (case o5=>k_is)
  (case o6=>k_is)
  (case o7=>k_is)
  (case qp=>k_is)
  (case gw=>kit_is)
  (case oh=>k_is)
  (case jo=>kit_is)
  (case jd=>kit_is)
  (case o8=>k_is)
  (case o9=>k_is)
  (case pb=>k_is)
#print axioms PySem.Challenge.cw_linepress_k08_rows_put_together_holds

