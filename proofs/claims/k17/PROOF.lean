import PyProof.Rows.All
import Wide.All
import OpenK.AllK
import Wide.FinOn
import Lean
import PyProof.EqAt
import PyProof.EqKinds
import PyProof.TupleCall
import PySem.Challenge.RW_linepress_k17_any_notation
set_option Elab.async false
set_option genSizeOfSpec false
set_option genInjectivity false
def PySem.W.Fast.tw15028431630064217775:=()
def PySem.W.Fast.tw1172918578929666555:=()
def PySem.W.Fast.tw15439180972773723851:=()
def PySem.W.Fast.tw530630815919315208:=()
def PySem.W.Fast.tw11286374641883002198:=()
def PySem.W.Fast.tw4294962891815751624:=()
def PySem.W.Fast.tw10857168629335928851:=()
def PySem.W.Fast.tw16550346564357562283:=()
def PySem.W.Fast.tw13234399483139868809:=()
def PySem.W.Fast.tw16639692208413703027:=()
def PySem.W.Fast.tw7200691058918569724:=()
def PySem.W.Fast.tw8985491695661585286:=()
def PySem.W.Fast.tw17180843751073008884:=()
def PySem.W.Fast.tw16310609146454056698:=()
def PySem.W.Fast.tw9477932079735087547:=()
def PySem.W.Fast.tw14270010108574407284:=()
def PySem.W.Fast.tw7633323529310473016:=()
def PySem.W.Fast.tw9772111613784827651:=()
def PySem.W.Fast.tw12393869698760497647:=()
def PySem.W.Fast.tw3667488200312155963:=()
def PySem.W.Fast.tw13425226056667001764:=()
def PySem.W.Fast.tw10062575565783848120:=()
def PySem.W.Fast.tw17615118113111446225:=()
def PySem.W.Fast.tw496986956991989840:=()
def PySem.W.Fast.tw5343198032894418168:=()
def PySem.W.Fast.tw11597957331916294174:=()
def PySem.W.Fast.tw4634317016312030822:=()
def PySem.W.Fast.tw1989593718433510703:=()
def PySem.W.Fast.tw10300851114388002042:=()
def PySem.W.Fast.tw3666737271364274367:=()
def PySem.W.Fast.tw9949287926657181585:=()
def PySem.W.Fast.tw5080825115080792408:=()
def PySem.W.Fast.tw2321261609764128446:=()
def PySem.W.Fast.tw3100068635068527991:=()
def PySem.W.Fast.tw16241631384427740080:=()
def PySem.W.Fast.tw5849485943277823652:=()
def PySem.W.Fast.tw1729135825817182096:=()
def PySem.W.Fast.tw18356136724085174152:=()
def PySem.W.Fast.tw12173827754992042596:=()
def PySem.W.Fast.tw16899054239884614638:=()
def PySem.W.Fast.tw3829701116334694925:=()
def PySem.W.Fast.tw11483409024762774846:=()
def PySem.W.Fast.tw11472448068801557714:=()
def PySem.W.Fast.tw324074175117150952:=()
def PySem.W.Fast.tw17135292619713062963:=()
def PySem.W.Fast.tw7879301105967319762:=()
def PySem.W.Fast.tw11789874981407266831:=()
def PySem.W.Fast.tw8024989613682562580:=()
set_option linter.all false
set_option maxRecDepth 100000
set_option maxHeartbeats 1000000
namespace L2
open PySem PySem.Spec PyProof.Rows
abbrev Key:=Sum Int Str
abbrev _root_.tz9:=Str->Addr
abbrev _root_.tz0:=PySem.W.Frag
abbrev _root_.tzA:=Str->Option Value
abbrev _root_.tzB:=List (Addr×Obj)
def yI:Key->Value->Bool
 | .inl k,v=>Value.isInt k v
 | .inr x,v=>Value.isStrOf x v
def we5(w:World):Key->Int
 | .inl k=>hashInt k
 | .inr x=>hashStr w x
theorem gL:∀{k:Key} {v:Value},yI k v=true->(∃i t,k=Sum.inl i/\v=Value.int i t)\/(∃x t,k=Sum.inr x/\v=Value.str x t)
 | .inl i,v,h=>by
  obtain⟨t,e⟩:=Value.isInt_shape (k:=i) (v:=v) h
  exact .inl ⟨i,t,rfl,e⟩
 | .inr x,v,h=>by
  obtain⟨t,e⟩:=Value.isStrOf_shape (x:=x) (v:=v) h
  exact .inr ⟨x,t,rfl,e⟩
theorem yo1(i:Int)(t:Tok):yI (.inl i) (.int i t)=true:=by simp [yI,Value.isInt]
theorem yo2(x:Str)(t:Tok):yI (.inr x) (.str x t)=true:=by simp [yI,Value.isStrOf]
theorem xp7(a b:Int):decide ((Sum.inl a:Key)=Sum.inl b)=(a==b):=by
 by_cases e:a=b
 ·subst e;simp
 ·have h:¬(Sum.inl a:Key)=Sum.inl b:=fun q=>e (Sum.inl.inj q)
  rw [decide_eq_false h]
  exact(beq_eq_false_iff_ne.mpr e).symm
theorem xp8(a b:Str):decide ((Sum.inr a:Key)=Sum.inr b)=decide (a=b):=by
 by_cases e:a=b
 ·subst e;simp
 ·have h:¬(Sum.inr a:Key)=Sum.inr b:=fun q=>e (Sum.inr.inj q)
  rw [decide_eq_false h,decide_eq_false e]
theorem xp9(a:Int)(b:Str):decide ((Sum.inl a:Key)=Sum.inr b)=false:=decide_eq_false (fun q=>nomatch q)
theorem xq0(a:Str)(b:Int):decide ((Sum.inr a:Key)=Sum.inl b)=false:=decide_eq_false (fun q=>nomatch q)
def fA(prog:Program)(w:World):PySem.KeyKind prog w Key where
 is:=yI
 hash:=we5 w
 inj:=fun v a b ha hb=>by
  rcases gL ha with ⟨i,t,rfl,rfl⟩|⟨x,t,rfl,rfl⟩
  ·rcases gL hb with ⟨j,u,rfl,e⟩|⟨y,u,rfl,e⟩
   ·injection e with e1 _;rw [e1]
   ·exact nomatch e
  ·rcases gL hb with ⟨j,u,rfl,e⟩|⟨y,u,rfl,e⟩
   ·exact nomatch e
   ·injection e with e1 _;rw [e1]
 byValue:=fun k v h=>by
  rcases gL h with ⟨i,t,rfl,rfl⟩|⟨x,t,rfl,rfl⟩<;>rfl
 pyHash:=fun hv h=>by
  rcases gL hv with ⟨i,t,rfl,rfl⟩|⟨x,t,rfl,rfl⟩
  ·exact wpAny_pyHash_int h
  ·exact wpAny_pyHash_str h
 eqBool:=fun hu hv h=>by
  rcases gL hu with ⟨i,t,rfl,rfl⟩|⟨x,t,rfl,rfl⟩
  ·rcases gL hv with ⟨j,u,rfl,rfl⟩|⟨y,u,rfl,rfl⟩
   ·rw [xp7] at h;exact wpAny_eqBool_int h
   ·rw [xp9] at h;exact SeqAt.EqAt.int_str i t y u _ _ _ _ h
  ·rcases gL hv with ⟨j,u,rfl,rfl⟩|⟨y,u,rfl,rfl⟩
   ·rw [xq0] at h;exact SeqAt.EqAt.str_int x t j u _ _ _ _ h
   ·rw [xp8] at h;exact wpAny_eqBool_str h
 «strs»:=fun k x t v h=>by
  rcases gL h with ⟨i,u,rfl,e⟩|⟨y,u,rfl,e⟩
  ·exact nomatch e
  ·injection e with e1 _
   subst e1
   cases v<;>rfl
theorem zz8(prog:Program)(w:World)(i:Int)(t:Tok):(fA prog w).is (.inl i) (.int i t)=true:=yo1 i t
theorem dO(prog:Program)(w:World)(x:Str)(t:Tok):(fA prog w).is (.inr x) (.str x t)=true:=yo2 x t
set_option genInjectivity true in
inductive V where
 |non|bl (b:Bool)|int (i:Int)|str (x:Str)|byt (b:Array UInt8)|flt (b:UInt64)|ref (a:Addr)|ty (n:String)
 deriving DecidableEq
def cM:V->Value->Prop
 | .non,u=>u=Value.none
 | .bl b,u=>u=Value.bool b
 | .int i,u=>∃t,u=Value.int i t
 | .str x,u=>∃t,u=Value.str x t
 | .byt b,u=>∃t,u=Value.bytes b t
 | .flt b,u=>∃t,u=Value.float b t
 | .ref a,u=>u=Value.ref a
 | .ty n,u=>u=Value.type n
abbrev bN:List V->List Value->Prop:=Paired cM
theorem bN.length{xs:List V}{us:List Value}(r:bN xs us):xs.length=us.length:=Paired.length r
theorem bN.get:∀{xs:List V} {us:List Value} {i:Nat} {x:V},bN xs us->xs[i]? =some x->∃u,us[i]? =some u/\cM x u
 |_,_,_,_,.nil,e=>by simp at e
 |_,_,0,_,.cons r _,e=>by simp at e;subst e;exact⟨_,rfl,r⟩
 |_,_,i+1,x,.cons _ t,e=>by
  obtain⟨u,h1,h2⟩:=bN.get (i:=i) (x:=x) t (by simpa using e)
  exact⟨u,by simpa using h1,h2⟩
theorem bN.set{x:V}{u:Value}(r:cM x u):∀{xs:List V} {us:List Value} (i:Nat),bN xs us->bN (xs.set i x) (us.set i u)
 |_,_,_,.nil=> .nil
 |_,_,0,.cons _ t=> .cons r t
 |_,_,i+1,.cons q t=> .cons q (bN.set r i t)
theorem bN.append:∀{xs ys:List V} {us ws:List Value},bN xs us->bN ys ws->bN (xs++ys) (us++ws)
 |_,_,_,_,.nil,s=>s
 |_,_,_,_,.cons r t,s=> .cons r (bN.append t s)
theorem bN.take:∀{xs:List V} {us:List Value} (n:Nat),bN xs us->bN (xs.take n) (us.take n)
 |_,_,0,_=> .nil
 |_,_,_+1,.nil=> .nil
 |_,_,n+1,.cons r t=> .cons r (bN.take n t)
theorem bN.drop:∀{xs:List V} {us:List Value} (n:Nat),bN xs us->bN (xs.drop n) (us.drop n)
 |_,_,0,r=>r
 |_,_,_+1,.nil=> .nil
 |_,_,n+1,.cons _ t=>bN.drop n t
def jC:Option V->Option Value->Prop
 |some v,some u=>cM v u
 |none,none=>True
 |_,_=>False
def KV{κ:Type}:List (κ×V)->List (κ×Value)->Prop:=Paired fun(p:κ×V) (q:κ×Value)=>p.1=q.1/\cM p.2 q.2
def kV:Key->V
 | .inl i=> .int i
 | .inr x=> .str x
inductive HO where
 |lst (xs:List V)
 |tup (xs:List V)
 |dK (kvs:List (Key×V))|dT (kvs:List (List Key×V))
 |set (S:Int->Bool) (n:Nat)
 |ins (C dx:Addr) (fs:List (Str×V))
 |own (x:Addr)
 |xd (fs:List (Str×V))
 |met (f x:Addr)
 |rng (lo hi:Int)
 |frz (o:Obj) (u:HO)
 |tbl (ps:Array Value)
 |ext (φ:Heap->Prop)
abbrev Hp:=Addr->Option HO
def upd(H:Hp)(a:Addr)(o:HO):Hp:=fun b=>if b=a then some o else H b
theorem dA{H:Hp}{a:Addr}{o:HO}:upd H a o a=some o:=by unfold upd;rw [if_pos rfl]
theorem cI{H:Hp}{a b:Addr}{o:HO}(h:b≠a):upd H a o b=H b:=by unfold upd;rw [if_neg h]
theorem yb6{H:Hp}{a:Addr}{o u:HO}:upd (upd H a o) a u=upd H a u:=by
 funext b;unfold upd;split<;>rfl
theorem xg6{H:Hp}{a b:Addr}{o u:HO}(h:H a=some o)(h':H b=some u)(d:o≠u):a≠b:=by
 intro e;subst e;rw [h] at h';exact d (Option.some.inj h')
theorem eQ{H:Hp}{a b:Addr}{o:HO}(h:H a=some o)(h':H b=none):a≠b:=by
 intro e;subst e;rw [h] at h';cases h'
section
variable(P:Program)(w:World)
def dU(H:Hp)(h:Heap)(a:Addr):HO->Prop
 | .lst xs=>xs.length<=sizeLine/\∃(its:List Value) (n:Nat),bN xs its/\h.get? a=some {cls:= .type "list",data:= .seq its.toArray n}
 | .tup xs=>xs.length<=sizeLine/\∃its:List Value,bN xs its/\IsTup h a its.toArray
 | .dK kvs=>kvs.length<=sizeLine/\(a==sysModules)=false/\∃vs,KV kvs vs/\h.DictOf (fA P w) a vs
 | .dT kvs=>kvs.length<=sizeLine/\(a==sysModules)=false/\∃xs:List (List Key×Addr×Value),
   Paired (fun(p:List Key×V) (q:List Key×Addr×Value)=>p.1=q.1/\H q.2.1=some (.tup (p.1.map kV))/\cM p.2 q.2.2) kvs xs/\
   ∃o es ep,h.get? a=some o/\o.ExactDict/\o.data= .dict es ep/\es.toList=xs.map (entryOfKey (tupleKind (fA P w)))/\(xs.map (·.1)).Nodup
 | .set S n=>h.SetOf (intKind P w) a S n
 | .ins C dx fs=>H dx=some (.own a)/\fs.length<=1000/\dx≠a/\h.get? a=some (PySem.W.instObj C dx)/\
   ∃mA,h.Ns1 dx mA/\(∀f,jC (fs.lookup f) (mA f))/\PySem.Within mA (fs.map (·.1))
 | .own _=>∃o,h.get? a=some o
 | .xd fs=>∃mA,h.Ns1 a mA/\∀f,jC (fs.lookup f) (mA f)
 | .rng lo hi=>∃t u v,h.get? a=some {cls:= .type "range",data:= .fields #[.int lo t,.int hi u,.int 1 v]}
 | .frz o u=>h.get? a=some o/\dU H h a u
 | .tbl ps=>h.get? a=some {cls:= .none,data:= .fields ps}
 | .met f x=>h.get? a=some (PySem.W.methodObj (.ref f) (.ref x))
 | .ext φ=>φ h/\(∃o,h.get? a=some o)/\∀h1 h2:Heap,φ h1->(∀o,h1.get? a=some o->h2.get? a=some o)->φ h2
def HOk(H:Hp)(h:Heap):Prop:=∀a o,H a=some o->dU P w H h a o
end
section
variable{P:Program}{w:World}{H H':Hp}{h h':Heap}{a:Addr}{o:HO}
theorem dU.lt(x:dU P w H h a o):a<h.objs.size:=by
 cases o with
 |lst xs=>obtain⟨_,_,_,_,e⟩:=x;exact Heap.lt_size e
 |tup xs=>obtain⟨_,_,_,p⟩:=x;exact p.lt
 |dK kvs=>obtain⟨_,_,_,_,o,_,_,e,_⟩:=x;exact Heap.lt_size e
 |dT kvs=>obtain⟨_,_,_,_,o,_,_,e,_⟩:=x;exact Heap.lt_size e
 |set S n=>obtain⟨o,_,_,_,e,_⟩:=x;exact Heap.lt_size e
 |ins C dx fs=>obtain⟨_,_,_,e,_⟩:=x;exact Heap.lt_size e
 |own y=>obtain⟨_,e⟩:=x;exact Heap.lt_size e
 |xd fs=>obtain⟨_,⟨_,_,_,e,_⟩,_⟩:=x;exact Heap.lt_size e
 |rng lo hi=>obtain⟨_,_,_,e⟩:=x;exact Heap.lt_size e
 |frz ob u=>obtain⟨e,_⟩:=x;exact Heap.lt_size e
 |tbl ps=>exact Heap.lt_size (show h.get? a=some _ from x)
 |met f y=>exact Heap.lt_size (show h.get? a=some _ from x)
 |ext φ=>obtain⟨_,⟨_,e⟩,_⟩:=x;exact Heap.lt_size e
theorem Paired.mapP{α β:Type}{F G:α->β->Prop}:∀{l₁:List α} {l₂:List β},Paired F l₁ l₂->(∀a b,F a b->G a b)->Paired G l₁ l₂
 |_,_,.nil,_=> .nil
 |_,_,.cons r t,f=> .cons (f _ _ r) (Paired.mapP t f)
theorem dU.stay(x:dU P w H h a o)(k:∀b u,(b=a\/H b=some (.own a))->h.get? b=some u->h'.get? b=some u)
  (ho:∀b,H b=some (.own a)->H' b=some (.own a)) (ht:∀b xs,H b=some (.tup xs)->H' b=some (.tup xs)):dU P w H' h' a o:=by
 induction o with
 |lst xs=>obtain⟨z,its,n,r,e⟩:=x;exact⟨z,its,n,r,k _ _ (.inl rfl) e⟩
 |tup xs=>obtain⟨z,its,r,ob,e,c⟩:=x;exact⟨z,its,r,ob,k _ _ (.inl rfl) e,c⟩
 |dK kvs=>obtain⟨z,y,vs,r,ob,es,ep,e,c⟩:=x;exact⟨z,y,vs,r,ob,es,ep,k _ _ (.inl rfl) e,c⟩
 |dT kvs=>
  obtain⟨z,y,xs,r,ob,es,ep,e,c⟩:=x
  exact⟨z,y,xs,Paired.mapP r fun p q z=>⟨z.1,ht _ _ z.2.1,z.2.2⟩,ob,es,ep,k _ _ (.inl rfl) e,c⟩
 |set S n=>obtain⟨ob,es,ep,t,e,c⟩:=x;exact⟨ob,es,ep,t,k _ _ (.inl rfl) e,c⟩
 |ins C dx fs=>
  obtain⟨d,z,ne,e,mA,⟨od,es,ep,e2,c⟩,r⟩:=x
  exact⟨ho _ d,z,ne,k _ _ (.inl rfl) e,mA,⟨od,es,ep,k _ _ (.inr d) e2,c⟩,r⟩
 |own y=>obtain⟨ob,e⟩:=x;exact⟨ob,k _ _ (.inl rfl) e⟩
 |xd fs=>obtain⟨mA,⟨od,es,ep,e,c⟩,r⟩:=x;exact⟨mA,⟨od,es,ep,k _ _ (.inl rfl) e,c⟩,r⟩
 |rng lo hi=>obtain⟨t,u,v,e⟩:=x;exact⟨t,u,v,k _ _ (.inl rfl) e⟩
 |frz ob u ih=>obtain⟨e,q⟩:=x;exact⟨k _ _ (.inl rfl) e,ih q⟩
 |tbl ps=>
  have e:h.get? a=some {cls:= .none,data:= .fields ps}:=x
  show h'.get? a=some {cls:= .none,data:= .fields ps}
  exact k a _ (.inl rfl) e
 |met f y=>
  have e:h.get? a=some (PySem.W.methodObj (.ref f) (.ref y)):=x
  show h'.get? a=some (PySem.W.methodObj (.ref f) (.ref y))
  exact k a _ (.inl rfl) e
 |ext φ=>obtain⟨p,⟨o,e⟩,st⟩:=x;exact⟨st _ _ p fun o q=>k _ _ (.inl rfl) q,⟨o,k _ _ (.inl rfl) e⟩,st⟩
theorem HOk.lt(x:HOk P w H h)(e:H a=some o):a<h.objs.size:=(x a o e).lt
theorem HOk.fresh(x:HOk P w H h)(e:h.objs.size<=a):H a=none:=by
 cases q:H a with
 |none=>rfl
 |some u=>exact absurd (Nat.lt_of_lt_of_le (x.lt q) e) (Nat.lt_irrefl _)
theorem HOk.kept(x:HOk P w H h)(k:∀b u,h.get? b=some u->h'.get? b=some u):HOk P w H h':=fun a o e=>
 (x a o e).stay (fun b u _ q=>k b u q) (fun _ q=>q) fun _ _ q=>q
theorem HOk.laid(x:HOk P w H h)(k:∀b u,h.get? b=some u->h'.get? b=some u)(hp:h.objs.size<=a)(new:dU P w (upd H a o) h' a o):HOk P w (upd H a o) h':=fun b u e=>by
 have hn:=x.fresh hp
 by_cases hb:b=a
 ·subst hb;rw [dA] at e;cases e;exact new
 ·rw [cI hb] at e
  exact(x b u e).stay (fun c v _ q=>k c v q) (fun c q=>by rw [cI (eQ q hn)];exact q) fun c xs q=>by rw [cI (eQ q hn)];exact q
end
def Rd(H:Hp)(a:Addr)(u:HO):Prop:=H a=some u\/∃o,H a=some (.frz o u)
theorem Rd.ok{P:Program}{w:World}{H:Hp}{h:Heap}{a:Addr}{u:HO}(r:Rd H a u)(x:HOk P w H h):dU P w H h a u:=by
 rcases r with r|⟨o,r⟩
 ·exact x a u r
 ·obtain⟨_,q⟩:=x a _ r
  exact q
def Mut:Option HO->Prop
 |some (.lst _)=>True
 |some (.dK _)=>True
 |some (.dT _)=>True
 |some (.set _ _)=>True
 |some (.ins _ _ _)=>True
 |some (.ext _)=>True
 |_=>False
section
variable{P:Program}{w:World}{H:Hp}{h h':Heap}{x e:Addr}{o':HO}
theorem HOk.write(ok:HOk P w H h)(mu:Mut (H x))(he:e=x\/H e=some (.own x))(k:∀b u,b≠e->h.get? b=some u->h'.get? b=some u)(heo:∃u,h'.get? e=some u)
  (new:dU P w (upd H x o') h' x o'):HOk P w (upd H x o') h':=fun b u q=>by
 have nown:∀c y,H c=some (.own y)->c≠x:=fun c y r z=>by subst z;rw [r] at mu;exact mu
 have ntup:∀c xs,H c=some (.tup xs)->c≠x:=fun c xs r z=>by subst z;rw [r] at mu;exact mu
 by_cases hb:b=x
 ·subst hb;rw [dA] at q;cases q;exact new
 ·rw [cI hb] at q
  by_cases hbe:b=e
  ·have q':H b=some (.own x):=by
    rcases he with z|z
    ·exact absurd (hbe.trans z) hb
    ·rw [hbe];exact z
   rw [q] at q';cases q'
   obtain⟨v,hv⟩:=heo
   exact⟨v,by rw [hbe];exact hv⟩
  ·refine(ok b u q).stay (fun c v hc r=>k c v ?_ r) (fun c r=>by rw [cI (nown c b r)];exact r) fun c xs r=>by rw [cI (ntup c xs r)];exact r
   rcases hc with rfl|hc
   ·exact hbe
   ·rintro rfl
    rcases he with z|z
    ·exact nown c b hc z
    ·rw [hc] at z;cases z;exact hb rfl
end
structure Un(fs ex:List Addr)(H H':Hp)(h h':Heap):Prop where
 keep:∀b o,h.get? b=some o->H b=none->b∉fs->b∉ex->h'.get? b=some o
 slot:∀b o,h.get? b=some o->H b=none->b∈fs->b∉ex->∃sl,h'.get? b=some {o with slots:=sl}
 free:∀b o,h.get? b=some o->H b=none->b∉ex->H' b=none
 there:∀b o,h.get? b=some o->b∉ex->∃o',h'.get? b=some o'
 tups:∀b xs,H b=some (.tup xs)->H' b=some (.tup xs)
 frzs:∀b o u,H b=some (.frz o u)->H' b=some (.frz o u)
 tbls:∀b ps,H b=some (.tbl ps)->∃more,H' b=some (.tbl (ps++more))
section
variable{fs fs' ex ex':List Addr}{H H1 H2:Hp}{h h1 h2 h':Heap}{a x e:Addr}{o:HO}
theorem Un.any(u:Un fs ex H H1 h h1){b:Addr}{ob:Obj}(q:h.get? b=some ob)(n:H b=none)(hx:b∉ex):∃sl,h1.get? b=some {ob with slots:=sl}:=by
 by_cases hb:b∈fs
 ·exact u.slot b ob q n hb hx
 ·exact⟨ob.slots,u.keep b ob q n hb hx⟩
theorem Un.trans(a:Un fs ex H H1 h h1)(b:Un fs ex H1 H2 h1 h2):Un fs ex H H2 h h2 where
 keep:=fun c ob q n hc hx=>b.keep c ob (a.keep c ob q n hc hx) (a.free c ob q n hx) hc hx
 slot:=fun c ob q n hc hx=>by
  obtain⟨sl,e1⟩:=a.slot c ob q n hc hx
  obtain⟨sl',e2⟩:=b.slot c _ e1 (a.free c ob q n hx) hc hx
  exact⟨sl',e2⟩
 free:=fun c ob q n hx=>by
  obtain⟨o',e1⟩:=a.there c ob q hx
  exact b.free c o' e1 (a.free c ob q n hx) hx
 there:=fun c ob q hx=>by
  obtain⟨o',e1⟩:=a.there c ob q hx
  exact b.there c o' e1 hx
 tups:=fun c xs q=>b.tups c xs (a.tups c xs q)
 frzs:=fun c ob xs q=>b.frzs c ob xs (a.frzs c ob xs q)
 tbls:=fun c ps q=>by
  obtain⟨m1,e1⟩:=a.tbls c ps q
  obtain⟨m2,e2⟩:=b.tbls c _ e1
  exact⟨m1++m2,by rw [e2,Array.append_assoc]⟩
theorem Un.kept(k:∀b u,h.get? b=some u->h'.get? b=some u):Un fs ex H H h h':=
 ⟨fun b ob q _ _ _=>k b ob q,fun b ob q _ _ _=>⟨ob.slots,k b ob q⟩,fun _ _ _ n _=>n,fun b ob q _=>⟨ob,k b ob q⟩,fun _ _ q=>q,fun _ _ _ q=>q,fun _ ps q=>⟨#[],by rw [q];simp⟩⟩
theorem Un.refl:Un fs ex H H h h:=Un.kept fun _ _ q=>q
theorem Un.laid(k:∀b u,h.get? b=some u->h'.get? b=some u)(hp:h.objs.size<=a)(hn:H a=none):Un fs ex H (upd H a o) h h' where
 keep:=fun b u q _ _ _=>k b u q
 slot:=fun b u q _ _ _=>⟨u.slots,k b u q⟩
 free:=fun b u q n _=>by rw [cI (Nat.ne_of_lt (Nat.lt_of_lt_of_le (Heap.lt_size q) hp))];exact n
 there:=fun b u q _=>⟨u,k b u q⟩
 tups:=fun b xs q=>by rw [cI (eQ q hn)];exact q
 frzs:=fun b u xs q=>by rw [cI (eQ q hn)];exact q
 tbls:=fun b ps q=>⟨#[],by rw [cI (eQ q hn),q];simp⟩
theorem Un.write(mu:Mut (H x))(he:e=x\/H e=some (.own x))(k:∀b u,b≠e->h.get? b=some u->h'.get? b=some u)(heo:∃u,h'.get? e=some u):Un fs ex H (upd H x o) h h':=by
 have hx:∀b,H b=none->b≠x:=fun b n z=>by subst z;rw [n] at mu;exact mu
 have hb:∀b,H b=none->b≠e:=fun b n z=>by
  subst z
  rcases he with r|r
  ·exact hx b n r
  ·rw [n] at r;cases r
 have hm:∀b u,H b=some u->¬Mut (some u)->b≠x:=fun b u q nm z=>by subst z;rw [q] at mu;exact nm mu
 refine⟨fun b u q n _ _=>k b u (hb b n) q,fun b u q n _ _=>⟨u.slots,k b u (hb b n) q⟩,fun b u q n _=>by rw [cI (hx b n)];exact n,fun b u q _=> ?_,
  fun b xs q=>by rw [cI (hm b _ q fun z=>z)];exact q,fun b u xs q=>by rw [cI (hm b _ q fun z=>z)];exact q,fun b ps q=>⟨#[],by rw [cI (hm b _ q fun z=>z),q];simp⟩⟩
 by_cases hbe:b=e
 ·subst hbe;exact heo
 ·exact⟨u,k b u hbe q⟩
theorem Un.mono(u:Un fs ex H H1 h h1)(hs:∀b∈fs,b∈fs')(hx:∀b∈ex,b∈ex'):Un fs' ex' H H1 h h1:=
 ⟨fun b ob q n hb he=>u.keep b ob q n (fun z=>hb (hs b z)) fun z=>he (hx b z),fun _ _ q n _ he=>u.any q n fun z=>he (hx _ z),fun b ob q n he=>u.free b ob q n fun z=>he (hx b z),fun b ob q he=>u.there b ob q fun z=>he (hx b z),u.tups,u.frzs,u.tbls⟩
end
def trk(h:Heap)(H:Hp):List Addr:=(List.range h.objs.size).filter fun a=>(H a).isSome
def vO(h:Heap)(H:Hp):Heap:=PySem.W.hideAll h (trk h H)
theorem yo3(h:Heap)(H:Hp):(vO h H).objs.size=h.objs.size:=PySem.W.hideAll_size _ _
theorem yy2{h:Heap}{H:Hp}{b:Addr}{o:Obj}(e:h.get? b=some o)(n:H b=none):(vO h H).get? b=some o:=
 PySem.W.hideAll_get _ e fun hm=>by
  have q:(H b).isSome=true:=(List.mem_filter.mp hm).2
  rw [n] at q;simp at q
theorem xj5{h:Heap}{H:Hp}{b:Addr}{o:Obj}(e:(vO h H).get? b=some o):h.get? b=some o/\H b=none:=by
 have e':h.get? b=some o:=PySem.W.of_hideAll (trk h H) e
 refine⟨e',?_⟩
 cases q:H b with
 |none=>rfl
 |some x=>
  have hm:b∈trk h H:=List.mem_filter.mpr ⟨List.mem_range.mpr (Heap.lt_size e'),by simp [q]⟩
  have z:(vO h H).get? b=none:=PySem.W.hideAll_none (trk h H) hm
  rw [z] at e;cases e
def xp4(g h:Heap)(L:Addr):tzB:=(List.range h.objs.size).filterMap fun a=>if a=L\/(g.get? a).isSome=true then none else(h.get? a).map fun o=>(a,o)
def bK(g h:Heap)(L d:Addr):tzB:=(xp4 g h L).filter fun p=>decide (p.1≠d)
structure Mod(K:tz0)(mg:tzA)(base:Heap):Prop where
 kin:K.In base
 glob:base.Ns mainGlobals mg
 blt:∃mb,base.Ns builtinsNs mb/\∀x:Str,x≠"__name__"->mb x=bootBuiltins x
 nolimit:base.NoLimit
structure Cx where
 prog:Program
 w:World
 K:tz0
 mg:tzA
 base:Heap
 A:Around
 N:List Str
 s₀:Shared
 H₀:Hp
 env:Env
 outer:List Env
 stack:List Env
 ex:List Addr
 fn:Str->Bool
 calm:Bool
 pn:tzB
 xe:Value->Shared->Prop
def frs(l:List Env):List Addr:=l.filterMap (·.frame)
abbrev Cx.fs(X:Cx):List Addr:=frs X.outer
def Vis(sc:Scope)(x:Str):Prop:=sc.names.lookup x=some .local\/sc.names.lookup x=some .cell\/sc.names.lookup x=some .free
def Loc(sc:Scope)(x:Str):Prop:=sc.names.lookup x=some .local\/sc.names.lookup x=some .cell
def xx1(env:Env)(h:Heap)(m:tzA)(x:Str)(u:Value):Prop:=
 (env.kindOf x=some .local/\m x=some u)\/((env.kindOf x=some .cell\/env.kindOf x=some .free)/\∃c,env.cells.lookup x=some c/\h.IsCell c (some u))
structure Cx.Ok(X:Cx):Prop where
 mod:Mod X.K X.mg X.base
 kind:X.env.scope.kind= .function
 glob:X.env.globals=mainGlobals
 blt:X.env.builtins=builtinsNs
 above:X.s₀.heap.objs.size<=X.env.locals
 inj:∀x y c,X.env.cells.lookup x=some c->X.env.cells.lookup y=some c->x=y
 has:∀x,(X.env.kindOf x=some .cell\/X.env.kindOf x=some .free)->∃c,X.env.cells.lookup x=some c
 cab:∀x c,X.fn x=true->X.env.cells.lookup x=some c->X.s₀.heap.objs.size<=c
 hd:X.calm=true->X.A.handled=none
 frames:X.A.frames=some X.stack
 stk:X.stack=X.outer\/(X.stack=X.env::X.outer/\X.env.frame=some X.env.locals)
 exf:∀b∈X.ex,b≠X.env.locals/\∀x c,X.env.cells.lookup x=some c->c≠b
 bs:∀b o,X.base.get? b=some o->X.s₀.heap.get? b=some o/\X.H₀ b=none
 bsz:X.base.objs.size<=X.s₀.heap.objs.size
 noex:∀b o,X.base.get? b=some o->b∉X.ex
 exfs:∀b∈X.ex,b∉X.fs
 funs:X.s₀.heap.FunFrames X.base X.outer
 frf:∀b∈X.fs,X.H₀ b=none
structure Inv(X:Cx)(pins:tzB)(σ:List (Option V))(H:Hp)(s:Shared):Prop where
 ok:X.Ok
 os:s.os=X.s₀.os
 bare:AllBare s.gens
 base:Un X.fs X.ex X.H₀ H X.s₀.heap s.heap
 loc:∃m,s.heap.Ns X.env.locals m/\∀(i:Nat) (x:Str) (v:V),X.N[i]? =some x->σ[i]? =some (some v)->Vis X.env.scope x->∃u,cM v u/\xx1 X.env s.heap m x u
 cell:∀x c,X.env.cells.lookup x=some c->∃v,s.heap.IsCell c v
 free:H X.env.locals=none
 freeC:∀x c,X.env.cells.lookup x=some c->H c=none
 pin:∀p∈X.pn++pins,s.heap.get? p.1=some p.2/\H p.1=none/\p.1≠X.env.locals/\p.1∉X.fs/\∀v,p.2.data≠ .cell v
 hok:HOk X.prog X.w H s.heap
 len:σ.length=X.N.length
section
variable{X:Cx}{pins:tzB}{σ:List (Option V)}{H H':Hp}{s:Shared}{h':Heap}
theorem Cx.Ok.nofr(ok:X.Ok){b:Addr}{o:Obj}(e:X.base.get? b=some o):b∉X.fs:=fun hb=>by
 have:=(ok.funs.mem hb).1
 rw [e] at this;cases this
theorem Inv.bs(I:Inv X pins σ H s):∀b o,X.base.get? b=some o->s.heap.get? b=some o/\H b=none:=fun b o e=>
 ⟨I.base.keep b o (I.ok.bs b o e).1 (I.ok.bs b o e).2 (I.ok.nofr e) (I.ok.noex b o e),I.base.free b o (I.ok.bs b o e).1 (I.ok.bs b o e).2 (I.ok.noex b o e)⟩
theorem Inv.bk(I:Inv X pins σ H s):∀b o,X.base.get? b=some o->s.heap.get? b=some o:=fun b o e=>(I.bs b o e).1
theorem Inv.mod(I:Inv X pins σ H s):Mod X.K X.mg X.base:=I.ok.mod
theorem Inv.kIn(I:Inv X pins σ H s):X.K.In s.heap:=I.ok.mod.kin.keeps I.bk
theorem Inv.lt(I:Inv X pins σ H s):X.env.locals<s.heap.objs.size:=let ⟨_,hn,_⟩:=I.loc;hn.lt
theorem Inv.sz(I:Inv X pins σ H s):X.s₀.heap.objs.size<=s.heap.objs.size:=Nat.le_trans I.ok.above (Nat.le_of_lt I.lt)
theorem Inv.nofs(I:Inv X pins σ H s){a:Addr}(h:s.heap.objs.size<=a):a∉X.fs:=fun hb=>by
 obtain⟨_,o,ho,_⟩:=I.ok.funs.mem hb
 exact absurd (Nat.lt_of_lt_of_le (Heap.lt_size ho) (Nat.le_trans I.sz h)) (Nat.lt_irrefl _)
theorem Inv.cne(I:Inv X pins σ H s):∀x c,X.env.cells.lookup x=some c->c≠X.env.locals:=fun x c e z=>by
 obtain⟨v,o,ho,hd⟩:=I.cell x c e
 obtain⟨m,⟨o',es,ep,ho',hd',_⟩,_⟩:=I.loc
 rw [z,ho'] at ho;cases ho;rw [hd'] at hd;cases hd
theorem Inv.funs(I:Inv X pins σ H s):s.heap.FunFrames X.base X.outer:=by
 have all:∀(l:List Env),(∀b∈frs l,b∈X.fs)->X.s₀.heap.FunFrames X.base l->s.heap.FunFrames X.base l:=by
  intro l
  induction l with
  |nil=>intro _ _;trivial
  |cons env r ih=>
   intro hs hl
   obtain⟨hk,⟨L,o,hf,hn,ho,hd⟩,hr⟩:=hl
   have hL:L∈X.fs:=hs L (by unfold frs;rw [List.filterMap_cons,hf];exact List.mem_cons_self)
   obtain⟨sl,e⟩:=I.base.slot L o ho (I.ok.frf L hL) hL fun z=>I.ok.exfs L z hL
   exact⟨hk,⟨L,_,hf,hn,e,hd⟩,ih (fun b hb=>hs b (by unfold frs;rw [List.filterMap_cons,hf];exact List.mem_cons_of_mem _ hb)) hr⟩
 exact all X.outer (fun _ hb=>hb) I.ok.funs
theorem Inv.stack(I:Inv X pins σ H s):s.heap.FunFrames X.base X.stack:=by
 rcases I.ok.stk with e|⟨e,hf⟩
 ·rw [e];exact I.funs
 ·rw [e]
  obtain⟨m,hn,_⟩:=I.loc
  refine .cons (by rw [I.ok.kind];decide) hf hn ?_ I.funs
  exact Heap.get?_none_of_le (Nat.le_trans I.ok.bsz I.ok.above)
theorem Inv.stkSub(I:Inv X pins σ H s):∀b∈frs X.stack,b∈X.env.locals::X.fs:=fun b hb=>by
 rcases I.ok.stk with e|⟨e,hf⟩
 ·rw [e] at hb;exact List.mem_cons_of_mem _ hb
 ·rw [e] at hb
  unfold frs at hb
  rw [List.filterMap_cons,hf] at hb
  exact hb
theorem Inv.stkFree(I:Inv X pins σ H s):∀b∈frs X.stack,H b=none:=fun b hb=>by
 rcases List.mem_cons.mp (I.stkSub b hb) with e|hb
 ·rw [e];exact I.free
 ·obtain⟨_,o,ho,_⟩:=I.ok.funs.mem hb
  exact I.base.free b o ho (I.ok.frf b hb) fun z=>I.ok.exfs b z hb
theorem Inv.step{g':Array GenState}{t':Nat}{d':Drawn}{ch:List Addr}(I:Inv X pins σ H s)
  (hch:∀b∈ch,(b∈X.ex\/X.s₀.heap.objs.size<=b)/\b≠X.env.locals/\(∀x c,X.env.cells.lookup x=some c->c≠b)/\∀p∈X.pn++pins,p.1≠b)
  (keep:∀b o,b≠X.env.locals->b∉X.fs->b∉ch->s.heap.get? b=some o->H b=none->h'.get? b=some o)
  (slot:∀b o,b≠X.env.locals->b∈X.fs->b∉ch->s.heap.get? b=some o->H b=none->∃sl,h'.get? b=some {o with slots:=sl}) (free:∀b o,b∉ch->s.heap.get? b=some o->H b=none->H' b=none)
  (there:∀b o,b∉ch->s.heap.get? b=some o->∃o',h'.get? b=some o')
  (tups:∀b xs,H b=some (.tup xs)->H' b=some (.tup xs)) (frzs:∀b o u,H b=some (.frz o u)->H' b=some (.frz o u)) (tbls:∀b ps,H b=some (.tbl ps)->∃more,H' b=some (.tbl (ps++more)))
  (ns:∀m,s.heap.Ns X.env.locals m->h'.Ns X.env.locals m) (hok:HOk X.prog X.w H' h') (hg:AllBare g'):
  Inv X pins σ H' {s with heap:=h',gens:=g',drawn:=d',toks:=t'}:=by
 have neL:∀b o,X.s₀.heap.get? b=some o->b≠X.env.locals:=fun b o e=>Nat.ne_of_lt (Nat.lt_of_lt_of_le (Heap.lt_size e) I.ok.above)
 have neC:∀b o,X.s₀.heap.get? b=some o->b∉X.ex->b∉ch:=fun b o e hx hb=>by
  rcases(hch b hb).1 with z|z
  ·exact hx z
  ·exact absurd (Nat.lt_of_lt_of_le (Heap.lt_size e) z) (Nat.lt_irrefl _)
 have cellK:∀x c,X.env.cells.lookup x=some c->∀v,s.heap.IsCell c v->h'.IsCell c v:=fun x c e v ⟨o,ho,hd⟩=>by
  have nch:c∉ch:=fun z=>(hch c z).2.2.1 x c e rfl
  by_cases hc:c∈X.fs
  ·obtain⟨sl,q⟩:=slot c o (I.cne x c e) hc nch ho (I.freeC x c e)
   exact⟨_,q,hd⟩
  ·exact⟨o,keep c o (I.cne x c e) hc nch ho (I.freeC x c e),hd⟩
 refine⟨I.ok,I.os,hg,⟨fun b o e n hb hx=> ?_,fun b o e n hb hx=> ?_,fun b o e n hx=> ?_,fun b o e hx=> ?_,fun b xs e=>tups b xs (I.base.tups b xs e),fun b o xs e=>frzs b o xs (I.base.frzs b o xs e),fun b ps e=> ?_⟩,?_,fun x c e=> ?_,?_,fun x c e=> ?_,fun p hp=> ?_,hok,I.len⟩
 ·exact keep b o (neL b o e) hb (neC b o e hx) (I.base.keep b o e n hb hx) (I.base.free b o e n hx)
 ·obtain⟨sl,e1⟩:=I.base.slot b o e n hb hx
  obtain⟨sl',e2⟩:=slot b _ (neL b o e) hb (neC b o e hx) e1 (I.base.free b o e n hx)
  exact⟨sl',e2⟩
 ·obtain⟨o',e1⟩:=I.base.there b o e hx
  exact free b o' (neC b o e hx) e1 (I.base.free b o e n hx)
 ·obtain⟨o',e1⟩:=I.base.there b o e hx
  exact there b o' (neC b o e hx) e1
 ·obtain⟨m1,e1⟩:=I.base.tbls b ps e
  obtain⟨m2,e2⟩:=tbls b _ e1
  exact⟨m1++m2,by rw [e2,Array.append_assoc]⟩
 ·obtain⟨m,hn,hl⟩:=I.loc
  refine⟨m,ns m hn,fun i x v e1 e2 e3=> ?_⟩
  obtain⟨u,r,l⟩:=hl i x v e1 e2 e3
  refine⟨u,r,?_⟩
  rcases l with l|⟨k,c,e,z⟩
  ·exact .inl l
  ·exact .inr ⟨k,c,e,cellK x c e _ z⟩
 ·obtain⟨v,z⟩:=I.cell x c e
  exact⟨v,cellK x c e v z⟩
 ·obtain⟨m,⟨o,_,_,ho,_⟩,_⟩:=I.loc
  exact free _ o (fun z=>(hch _ z).2.1 rfl) ho I.free
 ·obtain⟨v,o,ho,hd⟩:=I.cell x c e
  exact free c o (fun z=>(hch c z).2.2.1 x c e rfl) ho (I.freeC x c e)
 ·obtain⟨e,n,ne,nf,d⟩:=I.pin p hp
  have nch:p.1∉ch:=fun z=>(hch p.1 z).2.2.2 p hp rfl
  exact⟨keep p.1 p.2 ne nf nch e n,free p.1 p.2 nch e n,ne,nf,d⟩
theorem Inv.un{t':Nat}(I:Inv X pins σ H s)(u:Un X.fs [] H H' s.heap h')(hok:HOk X.prog X.w H' h'):Inv X pins σ H' {s with heap:=h',toks:=t'}:=by
 obtain⟨m,⟨o,es,ep,ho,r⟩,_⟩:=id I.loc
 obtain⟨sl,hL⟩:=u.any ho I.free (by simp)
 exact I.step (g':=s.gens) (d':=s.drawn) (ch:=[]) (fun _ z=>nomatch z) (fun b o _ hb _ e n=>u.keep b o e n hb (by simp)) (fun b o _ hb _ e n=>u.slot b o e n hb (by simp)) (fun b o _ e n=>u.free b o e n (by simp)) (fun b o _ e=>u.there b o e (by simp)) u.tups u.frzs u.tbls (fun m' hm=>by
  obtain⟨o',es',ep',ho',r'⟩:=hm
  rw [ho] at ho';cases ho'
  exact⟨_,es',ep',hL,r'⟩) hok I.bare
theorem Inv.call{g':Array GenState}{t':Nat}{d':Drawn}{ch:List Addr}(I:Inv X pins σ H s)(u:Un (frs X.stack) ch H H' s.heap h')(hok:HOk X.prog X.w H' h')(hg:AllBare g')
  (hch:∀b∈ch,(b∈X.ex\/X.s₀.heap.objs.size<=b)/\b≠X.env.locals/\(∀x c,X.env.cells.lookup x=some c->c≠b)/\∀p∈X.pn++pins,p.1≠b):
  Inv X pins σ H' {s with heap:=h',gens:=g',drawn:=d',toks:=t'}:=by
 obtain⟨m,⟨o,es,ep,ho,r⟩,_⟩:=id I.loc
 obtain⟨sl,hL⟩:=u.any ho I.free fun z=>(hch _ z).2.1 rfl
 exact I.step (ch:=ch) hch (fun b o hL hb hc e n=>u.keep b o e n (fun z=>(List.mem_cons.mp (I.stkSub b z)).elim hL hb) hc) (fun b o _ _ hc e n=>u.any e n hc) (fun b o hc e n=>u.free b o e n hc) (fun b o hc e=>u.there b o e hc) u.tups u.frzs u.tbls (fun m' hm=>by
  obtain⟨o',es',ep',ho',r'⟩:=hm
  rw [ho] at ho';cases ho'
  exact⟨_,es',ep',hL,r'⟩) hok hg
theorem Inv.turned{t':Nat}{it:Addr}(I:Inv X pins σ H s)(k:∀b o,b≠it->s.heap.get? b=some o->h'.get? b=some o)(hn:H it=none)(hL:it≠X.env.locals)
  (h1:it∈X.ex\/X.s₀.heap.objs.size<=it) (h2:∀x c,X.env.cells.lookup x=some c->c≠it) (h3:∀p∈X.pn++pins,p.1≠it):Inv X pins σ H {s with heap:=h',toks:=t'}:=by
 have nit:∀b u,H b=some u->b≠it:=fun b u e z=>by rw [z,hn] at e;cases e
 refine I.step (g':=s.gens) (d':=s.drawn) (ch:=[it]) (fun b hb=> ?_) (fun b o _ _ hc e _=>k b o (fun z=>hc (by simp [z])) e) (fun b o _ _ hc e _=>⟨o.slots,k b o (fun z=>hc (by simp [z])) e⟩) (fun _ _ _ _ n=>n)
  (fun b o hc e=>⟨o,k b o (fun z=>hc (by simp [z])) e⟩) (fun _ _ e=>e) (fun _ _ _ e=>e) (fun b ps e=>⟨#[],by rw [e];simp⟩) (fun m hm=> ?_) (fun b u e=> ?_) I.bare
 ·have e:b=it:=by simpa using hb
  subst e
  exact⟨h1,hL,h2,h3⟩
 ·obtain⟨o,es,ep,ho,r⟩:=hm
  exact⟨o,es,ep,k _ o (Ne.symm hL) ho,r⟩
 ·refine(I.hok b u e).stay (fun c v hc q=>k c v ?_ q) (fun _ q=>q) fun _ _ q=>q
  rcases hc with z|z
  ·rw [z];exact nit b u e
  ·exact nit c _ z
theorem Inv.tok(I:Inv X pins σ H s)(t:Nat):Inv X pins σ H {s with toks:=t}:=I.un (h':=s.heap) (t':=t) Un.refl I.hok
theorem Inv.kept{t':Nat}(I:Inv X pins σ H s)(k:∀b u,s.heap.get? b=some u->h'.get? b=some u):Inv X pins σ H {s with heap:=h',toks:=t'}:=I.un (Un.kept k) (I.hok.kept k)
theorem Inv.laid{a:Addr}{o:HO}{t':Nat}(I:Inv X pins σ H s)(k:∀b u,s.heap.get? b=some u->h'.get? b=some u)(hp:s.heap.objs.size<=a)(new:dU X.prog X.w (upd H a o) h' a o):
  Inv X pins σ (upd H a o) {s with heap:=h',toks:=t'}:=I.un (Un.laid k hp (I.hok.fresh hp)) (I.hok.laid k hp new)
theorem Inv.write{x e:Addr}{o:HO}{t':Nat}(I:Inv X pins σ H s)(mu:Mut (H x))(he:e=x\/H e=some (.own x))(k:∀b u,b≠e->s.heap.get? b=some u->h'.get? b=some u)(heo:∃u,h'.get? e=some u)
  (new:dU X.prog X.w (upd H x o) h' x o):Inv X pins σ (upd H x o) {s with heap:=h',toks:=t'}:=I.un (Un.write mu he k heo) (I.hok.write mu he k heo new)
theorem Inv.pins_of{pins':tzB}(I:Inv X pins σ H s)(h:∀p∈pins',s.heap.get? p.1=some p.2/\H p.1=none/\p.1≠X.env.locals/\p.1∉X.fs/\∀v,p.2.data≠ .cell v):Inv X pins' σ H s:=
 ⟨I.ok,I.os,I.bare,I.base,I.loc,I.cell,I.free,I.freeC,fun p hp=>(List.mem_append.mp hp).elim (fun z=>I.pin p (List.mem_append_left _ z)) (h p),I.hok,I.len⟩
theorem zp6{N:List Str}(hN:N.Nodup){i j:Nat}{x:Str}(a:N[i]? =some x)(b:N[j]? =some x):i=j:=by
 obtain⟨h1,e1⟩:=List.getElem?_eq_some_iff.mp a
 obtain⟨h2,e2⟩:=List.getElem?_eq_some_iff.mp b
 exact(List.getElem_inj hN).mp (e1.trans e2.symm)
theorem yo4{M:Model}{A:Around}{E:Value->Shared->Prop}{i:Nat}{x:Str}{v:V}{u:Value}{Q:Unit->Shared->Prop}(I:Inv X pins σ H s)(hN:X.N.Nodup)(hi:X.N[i]? =some x)(hx:Loc X.env.scope x)(r:cM v u)
  (h:∀s',Inv X pins (σ.set i (some v)) H s'->(∃a,Heap.SameBut a s.heap s'.heap/\(a=X.env.locals\/X.env.cells.lookup x=some a))->Q () s') (hf:X.fn x=true\/X.env.scope.names.lookup x=some .local:=by first|exact .inl rfl|exact .inr rfl|assumption):wpAny M A (storeName X.env x u) Q E s:=by
 obtain⟨m,hn,hl⟩:=id I.loc
 have hcls:(X.env.scope.kind== .class||(X.env.scope.kind== .module&&X.env.locals !=X.env.globals))=false:=by rw [I.ok.kind];rfl
 have hiσ:i<σ.length:=by rw [I.len];exact(List.getElem?_eq_some_iff.mp hi).1
 have cne:=I.cne
 have tracked:∀{a:Addr} {h':Heap},(∃o,s.heap.get? a=some o/\H a=none)->Heap.SameBut a s.heap h'->HOk X.prog X.w H h':=fun {a h'} ha hs b ob e=>by
  obtain⟨_,_,hfree⟩:=ha
  refine(I.hok b ob e).stay (fun c w' hc q=>(hs.2 c ?_).trans q) (fun _ q=>q) fun _ _ q=>q
  rintro rfl
  rcases hc with rfl|hc
  ·rw [hfree] at e;cases e
  ·rw [hfree] at hc;cases hc
 rcases hx with hk|hk
 ·refine wpAny_storeName_local hk hn (fun h' hn' hs=> ?_) hcls
  obtain⟨oL,_,_,hoL,_⟩:=id hn
  refine h _ ⟨I.ok,I.os,I.bare,⟨fun b o e n hb hx=> ?_,fun b o e n hb hx=> ?_,I.base.free,fun b o e hx=> ?_,I.base.tups,I.base.frzs,I.base.tbls⟩,⟨_,hn',fun j y v' e1 e2 e3=> ?_⟩,fun y c e=> ?_,I.free,I.freeC,fun p hp=> ?_,tracked ⟨oL,hoL,I.free⟩ hs,by simpa using I.len⟩ ⟨_,hs,.inl rfl⟩
  ·exact(hs.2 b (Nat.ne_of_lt (Nat.lt_of_lt_of_le (Heap.lt_size e) I.ok.above))).trans (I.base.keep b o e n hb hx)
  ·obtain⟨sl,e1⟩:=I.base.slot b o e n hb hx
   exact⟨sl,(hs.2 b (Nat.ne_of_lt (Nat.lt_of_lt_of_le (Heap.lt_size e) I.ok.above))).trans e1⟩
  ·obtain⟨o',e1⟩:=I.base.there b o e hx
   exact⟨o',(hs.2 b (Nat.ne_of_lt (Nat.lt_of_lt_of_le (Heap.lt_size e) I.ok.above))).trans e1⟩
  ·by_cases hj:j=i
   ·subst hj
    rw [hi] at e1;cases e1
    rw [List.getElem?_set_self hiσ] at e2
    cases e2
    exact⟨u,r,.inl ⟨hk,by simp⟩⟩
   ·rw [List.getElem?_set_ne (Ne.symm hj)] at e2
    obtain⟨u',r',q⟩:=hl j y v' e1 e2 e3
    refine⟨u',r',?_⟩
    rcases q with ⟨k,e⟩|⟨k,c,e,z⟩
    ·refine .inl ⟨k,?_⟩
     have:y≠x:=fun e=>hj (zp6 hN e1 (e▸hi))
     simp [this,e]
    ·exact .inr ⟨k,c,e,z.sameBut hs (cne y c e)⟩
  ·obtain⟨w',z⟩:=I.cell y c e
   exact⟨w',z.sameBut hs (cne y c e)⟩
  ·obtain⟨e,n,ne,nf,d⟩:=I.pin p hp
   exact⟨(hs.2 p.1 ne).trans e,n,ne,nf,d⟩
 ·have hfn:X.fn x=true:=by
   rcases hf with z|z
   ·exact z
   ·rw [z] at hk;cases hk
  obtain⟨c,hc⟩:=I.ok.has x (.inl hk)
  obtain⟨w',z⟩:=I.cell x c hc
  refine wpAny_storeName_cell I.ok.kind hk hc z (fun h' hc' hs=> ?_)
  obtain⟨oc,hoc,hocd⟩:=id z
  refine h {s with heap:=h'} ⟨I.ok,I.os,I.bare,⟨fun b o e n hb hx=> ?_,fun b o e n hb hx=> ?_,I.base.free,fun b o e hx=> ?_,I.base.tups,I.base.frzs,I.base.tbls⟩,⟨m,hn.sameBut hs (Ne.symm (cne x c hc)),fun j y v' e1 e2 e3=> ?_⟩,fun y c' e=> ?_,I.free,I.freeC,fun p hp=> ?_,tracked ⟨oc,hoc,I.freeC x c hc⟩ hs,by simpa using I.len⟩ ⟨c,hs,.inr hc⟩
  ·exact(hs.2 b (Nat.ne_of_lt (Nat.lt_of_lt_of_le (Heap.lt_size e) (I.ok.cab x c hfn hc)))).trans (I.base.keep b o e n hb hx)
  ·obtain⟨sl,e1⟩:=I.base.slot b o e n hb hx
   exact⟨sl,(hs.2 b (Nat.ne_of_lt (Nat.lt_of_lt_of_le (Heap.lt_size e) (I.ok.cab x c hfn hc)))).trans e1⟩
  ·obtain⟨o',e1⟩:=I.base.there b o e hx
   exact⟨o',(hs.2 b (Nat.ne_of_lt (Nat.lt_of_lt_of_le (Heap.lt_size e) (I.ok.cab x c hfn hc)))).trans e1⟩
  ·by_cases hj:j=i
   ·subst hj
    rw [hi] at e1;cases e1
    rw [List.getElem?_set_self hiσ] at e2
    cases e2
    exact⟨u,r,.inr ⟨.inl hk,c,hc,hc'⟩⟩
   ·rw [List.getElem?_set_ne (Ne.symm hj)] at e2
    obtain⟨u',r',q⟩:=hl j y v' e1 e2 e3
    refine⟨u',r',?_⟩
    rcases q with q|⟨k,c',e,z'⟩
    ·exact .inl q
    ·refine .inr ⟨k,c',e,z'.sameBut hs ?_⟩
     rintro rfl
     exact hj (zp6 hN e1 (I.ok.inj _ _ _ e hc▸hi))
  ·by_cases hcc:c'=c
   ·subst hcc;exact⟨_,hc'⟩
   ·obtain⟨w2,z2⟩:=I.cell y c' e
    exact⟨w2,z2.sameBut hs hcc⟩
  ·obtain⟨e,n,ne,nf,d⟩:=I.pin p hp
   refine⟨(hs.2 p.1 ?_).trans e,n,ne,nf,d⟩
   intro q
   rw [q,hoc] at e
   have q':oc=p.2:=Option.some.inj e
   exact d w' (by rw [<-q'];exact hocd)
theorem uJ{M:Model}{A:Around}{E:Value->Shared->Prop}{i:Nat}{x:Str}{v:V}{u:Value}{Q:Unit->Shared->Prop}(I:Inv X pins σ H s)(hN:X.N.Nodup)(hi:X.N[i]? =some x)(hx:Loc X.env.scope x)(r:cM v u)
  (h:∀s',Inv X pins (σ.set i (some v)) H s'->Q () s') (hf:X.fn x=true\/X.env.scope.names.lookup x=some .local:=by first|exact .inl rfl|exact .inr rfl|assumption):wpAny M A (storeName X.env x u) Q E s:=
 yo4 I hN hi hx r (fun s' I' _=>h s' I') hf
theorem Inv.call'{s':Shared}{ch:List Addr}(I:Inv X pins σ H s)(ho:s'.os=s.os)(u:Un (frs X.stack) ch H H' s.heap s'.heap)(hok:HOk X.prog X.w H' s'.heap)(hg:AllBare s'.gens)
  (hch:∀b∈ch,(b∈X.ex\/X.s₀.heap.objs.size<=b)/\b≠X.env.locals/\(∀x c,X.env.cells.lookup x=some c->c≠b)/\∀p∈X.pn++pins,p.1≠b):Inv X pins σ H' s':=by
 obtain⟨h',g',d',t',o'⟩:=s'
 have e:o'=s.os:=ho
 subst e
 exact I.call (g':=g') (t':=t') (d':=d') u hok hg hch
end
abbrev XK:=Value->Option Addr->Hp->Prop
abbrev St:=List (Option V)
abbrev VK:=V->Hp->Prop
abbrev TE:=St->Hp->VK->Prop
abbrev TT:=St->Hp->(Bool->Hp->Prop)->Prop
abbrev TA:=St->Hp->(List V->Hp->Prop)->Prop
structure Ends where
 nx:St->Hp->Prop
 rt:VK
 bk:St->Hp->Prop:=fun _ _=>False
 ct:St->Hp->Prop:=fun _ _=>False
abbrev TS:=Ends->St->Hp->Prop
def EP(X:Cx)(pins:tzB)(σ:St)(Q:VK)(u:Value)(s':Shared):Prop:=∃v H',Inv X pins σ H' s'/\cM v u/\Q v H'
def TP(X:Cx)(pins:tzB)(σ:St)(Q:Bool->Hp->Prop)(b:Bool)(s':Shared):Prop:=∃H',Inv X pins σ H' s'/\Q b H'
def AP(X:Cx)(pins:tzB)(σ:St)(Q:List V->Hp->Prop)(us:List Value)(s':Shared):Prop:=∃vs H',Inv X pins σ H' s'/\bN vs us/\Q vs H'
def SP(X:Cx)(pins:tzB)(D:Ends)(f:Flow)(s':Shared):Prop:=
 match f with
 | .next=>∃σ' H',Inv X pins σ' H' s'/\D.nx σ' H'
 | .brk=>∃σ' H',Inv X pins σ' H' s'/\D.bk σ' H'
 | .cont=>∃σ' H',Inv X pins σ' H' s'/\D.ct σ' H'
 | .ret u=>∃v σ' H',Inv X pins σ' H' s'/\cM v u/\D.rt v H'
def PEd(X:Cx)(e:Expr)(t:TE):Prop:=
 ∀(pins:tzB) (s:Shared) (σ:St) (H:Hp) (Q:VK),Inv X pins σ H s->t σ H Q->wpAny (model X.prog X.w) X.A (eval e X.env) (EP X pins σ Q) X.xe s
structure PE(X:Cx)(e:Expr)(t:TE):Prop where
 go:PEd X e t
instance {X:Cx} {e:Expr} {t:TE}:CoeFun (PE X e t) fun _=>PEd X e t:=⟨PE.go⟩
def PTd(X:Cx)(e:Expr)(t:TT):Prop:=
 ∀(pins:tzB) (s:Shared) (σ:St) (H:Hp) (Q:Bool->Hp->Prop),Inv X pins σ H s->t σ H Q->wpAny (model X.prog X.w) X.A (isTrue e X.env (eval e X.env)) (TP X pins σ Q) X.xe s
structure PT(X:Cx)(e:Expr)(t:TT):Prop where
 go:PTd X e t
instance {X:Cx} {e:Expr} {t:TT}:CoeFun (PT X e t) fun _=>PTd X e t:=⟨PT.go⟩
def PWd(X:Cx)(e:Expr)(t:TT):Prop:=
 ∀(whole:Sem Value) (pins:tzB) (s:Shared) (σ:St) (H:Hp) (Q:Bool->Hp->Prop),Inv X pins σ H s->t σ H Q->wpAny (model X.prog X.w) X.A (isTrue e X.env whole) (TP X pins σ Q) X.xe s
structure PW(X:Cx)(e:Expr)(t:TT):Prop where
 go:PWd X e t
instance {X:Cx} {e:Expr} {t:TT}:CoeFun (PW X e t) fun _=>PWd X e t:=⟨PW.go⟩
theorem PW.pt{X:Cx}{e:Expr}{t:TT}(h:PW X e t):PT X e t:=⟨h _⟩
def PAd(X:Cx)(es:List Expr)(t:TA):Prop:=
 ∀(pos:Pos) (pins:tzB) (s:Shared) (σ:St) (H:Hp) (Q:List V->Hp->Prop),Inv X pins σ H s->t σ H Q->wpAny (model X.prog X.w) X.A (spliced (backTo pos (starEach es X.env))) (AP X pins σ Q) X.xe s
structure PA(X:Cx)(es:List Expr)(t:TA):Prop where
 go:PAd X es t
instance {X:Cx} {es:List Expr} {t:TA}:CoeFun (PA X es t) fun _=>PAd X es t:=⟨PA.go⟩
def PSd(X:Cx)(st:Stmt)(t:TS):Prop:=
 ∀(pins:tzB) (s:Shared) (σ:St) (H:Hp) (D:Ends),Inv X pins σ H s->t D σ H->wpAny (model X.prog X.w) X.A (exec st X.env) (SP X pins D) X.xe s
structure PS(X:Cx)(st:Stmt)(t:TS):Prop where
 go:PSd X st t
instance {X:Cx} {st:Stmt} {t:TS}:CoeFun (PS X st t) fun _=>PSd X st t:=⟨PS.go⟩
def xx2(X:Cx)(st:List Stmt)(t:TS):Prop:=
 ∀(pins:tzB) (s:Shared) (σ:St) (H:Hp) (D:Ends),Inv X pins σ H s->t D σ H->wpAny (model X.prog X.w) X.A (execs st X.env) (SP X pins D) X.xe s
structure PSs(X:Cx)(st:List Stmt)(t:TS):Prop where
 go:xx2 X st t
instance {X:Cx} {st:List Stmt} {t:TS}:CoeFun (PSs X st t) fun _=>xx2 X st t:=⟨PSs.go⟩
theorem thn{α:Type}{t:Sem α}{Q Q':α->Shared->Prop}{M:Model}{A:Around}{E:Value->Shared->Prop}{s:Shared}(h:wpAny M A t Q E s)(hQ:∀a s,Q a s->Q' a s):wpAny M A t Q' E s:=wpAny_mono h hQ fun _ _ x=>x
section
variable{X:Cx}
def xx3(i:Nat):TE:=fun σ H Q=>∃v,σ[i]? =some (some v)/\Q v H
def tC(v:V):TE:=fun _ H Q=>Q v H
theorem iP{i:Nat}{x:Str}{pos:Pos}(hN:X.N[i]? =some x)(hv:Vis X.env.scope x)(hd:(x==("__debug__":Str))=false:=by decide)(hcd:(x==("__classdict__":Str))=false:=by decide):PE X (.Name x pos) (xx3 i):=⟨by
 intro pins s σ H Q I h
 obtain⟨v,e,h⟩:=h
 obtain⟨m,hn,hl⟩:=I.loc
 obtain⟨u,r,l⟩:=hl i x v hN e hv
 have fin:EP X pins σ Q u s:=⟨v,H,I,r,h⟩
 rcases l with ⟨hk,hm⟩|⟨hk,c,hc,hcell⟩
 ·exact wpAny_Name (wpAny_loadName_local I.ok.kind hk hn hm fin) hd
 ·rcases hk with hk|hk
  ·exact wpAny_Name (wpAny_loadName_cell I.ok.kind hk hc hcell fin) hd
  ·exact wpAny_Name (wpAny_loadName_free I.ok.kind hk hc hcell fin hcd) hd⟩
theorem iB{i j pos}:PE X (.Constant (.int i) j pos) (tC (.int i)):=⟨fun _ _ _ H _ I h=>wpAny_Constant_int ⟨.int i,H,I.tok _,⟨_,rfl⟩,h⟩⟩
theorem xg7{b j pos}:PE X (.Constant (.bool b) j pos) (tC (.bl b)):=⟨fun _ _ _ H _ I h=>Constant_bool ⟨.bl b,H,I,rfl,h⟩⟩
theorem yo5{j pos}:PE X (.Constant .none j pos) (tC .non):=⟨fun _ _ _ H _ I h=>Constant_none ⟨.non,H,I,rfl,h⟩⟩
theorem yo6{x j pos}:PE X (.Constant (.str x) j pos) (tC (.str x)):=⟨fun _ _ _ H _ I h=>Calls.Constant_str ⟨.str x,H,I.tok _,⟨_,rfl⟩,h⟩⟩
def Gl(X:Cx)(x:Str):Prop:=X.env.kindOf x=some .globalImplicit
theorem oX{E:Value->Shared->Prop}{pins:tzB}{s:Shared}{σ:St}{H:Hp}{x:Str}{u:Value}{pos:Pos}{Q:Value->Shared->Prop}(I:Inv X pins σ H s)(hg:Gl X x)(hm:X.mg x=some u)(h:Q u s)
  (hd:(x==("__debug__":Str))=false:=by decide):wpAny (model X.prog X.w) X.A (eval (.Name x pos) X.env) Q E s:=
 Calls.Name_function_global I.ok.kind hg (Calls.loadGlobal_global (by rw [I.ok.glob];exact I.mod.glob.keeps I.bk) hm h) hd
theorem rA{E:Value->Shared->Prop}{pins:tzB}{s:Shared}{σ:St}{H:Hp}{x:Str}{u:Value}{pos:Pos}{Q:Value->Shared->Prop}(I:Inv X pins σ H s)(hg:Gl X x)(hm:X.mg x=none)(hv:bootBuiltins x=some u)(h:Q u s)
  (hn:x≠"__name__":=by decide) (hd:(x==("__debug__":Str))=false:=by decide):wpAny (model X.prog X.w) X.A (eval (.Name x pos) X.env) Q E s:=by
 obtain⟨mb,h1,h2⟩:=I.mod.blt
 exact Calls.Name_function_global I.ok.kind hg (Calls.loadGlobal_builtin (by rw [I.ok.glob];exact I.mod.glob.keeps I.bk) hm (by rw [I.ok.blt];exact h1.keeps I.bk) ((h2 x hn).trans hv) h) hd
theorem qT{x:Str}{v:V}{u:Value}{pos:Pos}(hg:Gl X x)(hm:X.mg x=some u)(r:cM v u)(hd:(x==("__debug__":Str))=false:=by decide):PE X (.Name x pos) (tC v):=
 ⟨fun _ _ _ H _ I h=>oX I hg hm ⟨v,H,I,r,h⟩ hd⟩
theorem xR{x:Str}{v:V}{u:Value}{pos:Pos}(hg:Gl X x)(hm:X.mg x=none)(hv:bootBuiltins x=some u)(r:cM v u)(hn:x≠"__name__":=by decide)(hd:(x==("__debug__":Str))=false:=by decide):PE X (.Name x pos) (tC v):=
 ⟨fun _ _ _ H _ I h=>rA I hg hm hv ⟨v,H,I,r,h⟩ hn hd⟩
variable{a b:Expr}{ta tb:TE}{pos:Pos}
def PC(X:Cx)(op:CmpOp)(a b:Expr)(t:TE):Prop:=
 ∀(pins:tzB) (s:Shared) (σ:St) (H:Hp) (Q:VK),Inv X pins σ H s->t σ H Q->
  wpAny (model X.prog X.w) X.A (eval a X.env) (fun v s₁=>wpAny (model X.prog X.w) X.A (eval b X.env) (fun u s₂=>wpAny (model X.prog X.w) X.A (compareOp op v u) (EP X pins σ Q) X.xe s₂) X.xe s₁) X.xe s
theorem yy3(b:Expr){op:CmpOp}(h:op≠ .In)(h2:op≠ .NotIn):behindInMarks op b=false:=by
 have e1:(op==CmpOp.In)=false:=by cases op<;>first|rfl|exact absurd rfl h
 have e2:(op==CmpOp.NotIn)=false:=by cases op<;>first|rfl|exact absurd rfl h2
 cases b<;>simp [behindInMarks,e1,e2]
def we6(ta:TE):TE:=fun σ H Q=>ta σ H fun x H1=>Q (.bl (decide (x= .non))) H1
theorem cM.none_iff{x:V}{v:Value}(r:cM x v):(v==Value.none)=decide (x= .non):=by
 cases x with
 |non=>cases r;rfl
 |bl _=>cases r;rfl
 |int _=>obtain⟨t,rfl⟩:=r;rfl
 |str _=>obtain⟨t,rfl⟩:=r;rfl
 |byt _=>obtain⟨t,rfl⟩:=r;rfl
 |flt _=>obtain⟨t,rfl⟩:=r;rfl
 |ref _=>cases r;rfl
 |ty _=>cases r;rfl
theorem xq1{j pos'}(ha:PE X a ta):PC X .Is a (.Constant .none j pos') (we6 ta):=by
 intro pins s σ H Q I h
 refine thn (ha pins s σ H _ I h) fun v s1 ⟨x,H1,I1,r1,q1⟩=> ?_
 exact Constant_none (is_none_gen ⟨.bl _,H1,I1,by rw [r1.none_iff];rfl,q1⟩)
def tB(t:TE):TT:=fun σ H Q=>t σ H fun x H1=>∃c,x= .bl c/\Q c H1
theorem yo7{op:CmpOp}{t:TE}(h:PC X op a b t)(h1:behindInMarks op b=false:=by first|exact yy3 _ (by decide) (by decide)|rfl):PT X (.Compare a [op] [b] pos) (tB t):=⟨by
 intro pins s σ H Q I hw
 refine wpAny_isTrue_Compare1 (thn (h pins s σ H _ I hw) fun v s1 h1=>thn h1 fun u s2 h2=>thn h2 fun c s3 ⟨x,H1,I1,r1,q1⟩=> ?_) h1
 obtain⟨d,rfl,q⟩:=q1
 cases r1
 exact wpAny_truthy_bool ⟨H1,I1,q⟩⟩
theorem wN{e:Expr}{t:TE}(h:PE X e t)(he:∀whole,isTrue e X.env whole=(do let v<-whole;standAt e.pos;holding [v] (truthy v)):=by intro _;rfl):PT X e (tB t):=⟨by
 intro pins s σ H Q I hw
 refine isTrue_plain (thn (h pins s σ H _ I hw) fun v s1 ⟨x,H1,I1,r1,q1⟩=> ?_) (he _)
 obtain⟨d,rfl,q⟩:=q1
 cases r1
 exact wpAny_truthy_bool ⟨H1,I1,q⟩⟩
variable{tA tB':TT}{bK:List Expr}
def we7(t u:TT):TT:=fun σ H Q=>t σ H fun c H1=>if c=true then u σ H1 Q else Q false H1
def tOr(t u:TT):TT:=fun σ H Q=>t σ H fun c H1=>if c=true then Q true H1 else u σ H1 Q
def we8(t:TT):TT:=fun σ H Q=>t σ H fun c H1=>Q (!c) H1
theorem xj6(ha:PT X a tA):PW X (.BoolOp .And [a] pos) tA:=⟨by
 intro wh pins s σ H Q I h
 refine isTrue_and (thn (ha pins s σ H Q I h) fun c s1 e=> ?_)
 cases c with
 |true=>exact isTrue_and_nil e
 |false=>exact e⟩
theorem zp7(ha:PT X a tA):PW X (.BoolOp .Or [a] pos) tA:=⟨by
 intro wh pins s σ H Q I h
 refine isTrue_or (thn (ha pins s σ H Q I h) fun c s1 e=> ?_)
 cases c with
 |false=>exact isTrue_or_nil e
 |true=>exact e⟩
theorem xq2(ha:PT X a tA)(hb:PW X (.BoolOp .And (b::bK) pos) tB'):PW X (.BoolOp .And (a::b::bK) pos) (we7 tA tB'):=⟨by
 intro wh pins s σ H Q I h
 refine isTrue_and (thn (ha pins s σ H _ I h) fun c s1 ⟨H1,I1,q1⟩=> ?_)
 cases c with
 |true=>exact hb wh pins s1 σ H1 Q I1 q1
 |false=>exact⟨H1,I1,q1⟩⟩
theorem zX(ha:PT X a tA)(hb:PW X (.BoolOp .Or (b::bK) pos) tB'):PW X (.BoolOp .Or (a::b::bK) pos) (tOr tA tB'):=⟨by
 intro wh pins s σ H Q I h
 refine isTrue_or (thn (ha pins s σ H _ I h) fun c s1 ⟨H1,I1,q1⟩=> ?_)
 cases c with
 |true=>exact⟨H1,I1,q1⟩
 |false=>exact hb wh pins s1 σ H1 Q I1 q1⟩
theorem zY(ha:PT X a tA):PT X (.UnaryOp .Not a pos) (we8 tA):=⟨by
 intro pins s σ H Q I h
 exact isTrue_not (ha pins s σ H (fun c H1=>Q (!c) H1) I h)⟩
def wb8(ta tb:TE):TE:=fun σ H Q=>ta σ H fun x H1=>∃c,x= .bl c/\if c=true then tb σ H1 Q else Q (.bl false) H1
theorem xq3{op}{t:TE}(h:PE X a t):PE X (.BoolOp op [a] pos) t:=⟨fun pins s σ H Q I hw=>BoolOp_one (h pins s σ H Q I hw)⟩
theorem xq4(ha:PE X a ta)(hb:PE X (.BoolOp .And (b::bK) pos) tb):PE X (.BoolOp .And (a::b::bK) pos) (wb8 ta tb):=⟨by
 intro pins s σ H Q I h
 refine BoolOp_and (thn (ha pins s σ H _ I h) fun v s1 ⟨x,H1,I1,r1,q1⟩=> ?_)
 obtain⟨c,rfl,q1⟩:=q1
 cases r1
 refine wpAny_truthy_bool ?_
 cases c with
 |true=>exact hb pins s1 σ H1 Q I1 q1
 |false=>exact⟨.bl false,H1,I1,rfl,q1⟩⟩
end
def SqL(K:tz0)(H:Hp)(a:Addr)(xs:List V):Prop:=
 Rd H a (.lst xs)\/
  ∃(o:Obj) (its:Array Value) (n:Nat),K.lookup a=some o/\o.cls= .type "list"/\o.dict=none/\o.data= .seq its n/\its.size<=sizeLine/\bN xs its.toList
def SqT(K:tz0)(H:Hp)(a:Addr)(xs:List V):Prop:=
 Rd H a (.tup xs)\/
  ∃(o:Obj) (its:Array Value) (n:Nat),K.lookup a=some o/\o.cls= .type "tuple"/\o.data= .seq its n/\its.size<=sizeLine/\bN xs its.toList
def we9:Value->Option V
 | .none=>some .non
 | .bool b=>some (.bl b)
 | .int i _=>some (.int i)
 | .str x _=>some (.str x)
 | .bytes b _=>some (.byt b)
 | .float b _=>some (.flt b)
 | .ref a=>some (.ref a)
 | .type n=>some (.ty n)
 |_=>none
theorem cM.abs{x:V}{u:Value}(r:cM x u):we9 u=some x:=by
 cases x with
 |non=>cases r;rfl
 |bl _=>cases r;rfl
 |int _=>obtain⟨t,rfl⟩:=r;rfl
 |str _=>obtain⟨t,rfl⟩:=r;rfl
 |byt _=>obtain⟨t,rfl⟩:=r;rfl
 |flt _=>obtain⟨t,rfl⟩:=r;rfl
 |ref _=>cases r;rfl
 |ty _=>cases r;rfl
theorem cM.inj{x y:V}{u:Value}(r:cM x u)(q:cM y u):x=y:=Option.some.inj (r.abs.symm.trans q.abs)
theorem bN.inj:∀{xs ys:List V} {us:List Value},bN xs us->bN ys us->xs=ys
 |_,_,_,.nil,.nil=>rfl
 |_,_,_,.cons r t,.cons r' t'=>by rw [r.inj r',bN.inj t t']
section
variable{X:Cx}{pins:tzB}{σ:St}{H:Hp}{s:Shared}{a:Addr}{xs ys:List V}
theorem Inv.list(I:Inv X pins σ H s)(h:SqL X.K H a xs):∃its:List Value,bN xs its/\PlainL s.heap a its.toArray/\xs.length<=sizeLine:=by
 rcases h with h|⟨o,its,n,hk,hc,hd,hs,hz,r⟩
 ·obtain⟨z,its,n,r,e⟩:=h.ok I.hok
  exact⟨its,r,⟨_,n,e,rfl,rfl,rfl⟩,z⟩
 ·refine⟨its.toList,r,⟨o,n,I.kIn a o hk,hc,hd,by simpa using hs⟩,?_⟩
  have e:=r.length
  simp only [Array.length_toList] at e
  omega
theorem Inv.tuple(I:Inv X pins σ H s)(h:SqT X.K H a xs):∃its:List Value,bN xs its/\IsTup s.heap a its.toArray/\xs.length<=sizeLine:=by
 rcases h with h|⟨o,its,n,hk,hc,hs,hz,r⟩
 ·obtain⟨z,its,r,p⟩:=h.ok I.hok
  exact⟨its,r,p,z⟩
 ·refine⟨its.toList,r,⟨o,I.kIn a o hk,hc,n,by simpa using hs⟩,?_⟩
  have e:=r.length
  simp only [Array.length_toList] at e
  omega
theorem Inv.list_inj(I:Inv X pins σ H s)(h:SqL X.K H a xs)(h':SqL X.K H a ys):xs=ys:=by
 obtain⟨its,r,⟨o,n,e,_,_,d⟩,_⟩:=I.list h
 obtain⟨its',r',⟨o',n',e',_,_,d'⟩,_⟩:=I.list h'
 rw [e] at e';cases e'
 rw [d] at d'
 injection d' with d1 _
 have:its=its':=by simpa using congrArg Array.toList d1
 subst this
 exact r.inj r'
theorem Inv.tuple_inj(I:Inv X pins σ H s)(h:SqT X.K H a xs)(h':SqT X.K H a ys):xs=ys:=by
 obtain⟨its,r,⟨o,e,_,n,d⟩,_⟩:=I.tuple h
 obtain⟨its',r',⟨o',e',_,n',d'⟩,_⟩:=I.tuple h'
 rw [e] at e';cases e'
 rw [d] at d'
 injection d' with d1 _
 have:its=its':=by simpa using congrArg Array.toList d1
 subst this
 exact r.inj r'
end
abbrev Cx.wish(X:Cx)(E:Value->Shared->Prop):Cx:={X with xe:=E}
abbrev Cx.nox(X:Cx):Cx:=X.wish fun _ _=>False
theorem Cx.Ok.wish{X:Cx}(ok:X.Ok)(E:Value->Shared->Prop):(X.wish E).Ok:=
 ⟨ok.mod,ok.kind,ok.glob,ok.blt,ok.above,ok.inj,ok.has,ok.cab,ok.hd,ok.frames,ok.stk,ok.exf,ok.bs,ok.bsz,ok.noex,ok.exfs,ok.funs,ok.frf⟩
theorem Cx.Ok.unwish{X:Cx}{E:Value->Shared->Prop}(ok:(X.wish E).Ok):X.Ok:=
 ⟨ok.mod,ok.kind,ok.glob,ok.blt,ok.above,ok.inj,ok.has,ok.cab,ok.hd,ok.frames,ok.stk,ok.exf,ok.bs,ok.bsz,ok.noex,ok.exfs,ok.funs,ok.frf⟩
section
variable{X:Cx}{pins:tzB}{σ:St}{H:Hp}{s:Shared}{E:Value->Shared->Prop}
theorem Inv.wish(I:Inv X pins σ H s)(E:Value->Shared->Prop):Inv (X.wish E) pins σ H s:=⟨I.ok.wish E,I.os,I.bare,I.base,I.loc,I.cell,I.free,I.freeC,I.pin,I.hok,I.len⟩
theorem Inv.unwish(I:Inv (X.wish E) pins σ H s):Inv X pins σ H s:=⟨I.ok.unwish,I.os,I.bare,I.base,I.loc,I.cell,I.free,I.freeC,I.pin,I.hok,I.len⟩
theorem SP.unwish{D:Ends}{f:Flow}{s':Shared}(h:SP (X.wish E) pins D f s'):SP X pins D f s':=by
 cases f with
 |next=>obtain⟨σ',H',I,q⟩:=h;exact⟨σ',H',I.unwish,q⟩
 |brk=>obtain⟨σ',H',I,q⟩:=h;exact⟨σ',H',I.unwish,q⟩
 |cont=>obtain⟨σ',H',I,q⟩:=h;exact⟨σ',H',I.unwish,q⟩
 |ret u=>obtain⟨v,σ',H',I,r,q⟩:=h;exact⟨v,σ',H',I.unwish,r,q⟩
theorem PE.nox{e:Expr}{t:TE}(h:PE X.nox e t):PE X e t:=⟨fun pins s σ H Q I hw=>
 wpAny_mono (h pins s σ H Q (I.wish _) hw) (fun _ _ ⟨v,H',I',r,q⟩=>⟨v,H',I'.unwish,r,q⟩) fun _ _ z=>False.elim z⟩
theorem PT.nox{e:Expr}{t:TT}(h:PT X.nox e t):PT X e t:=⟨fun pins s σ H Q I hw=>
 wpAny_mono (h pins s σ H Q (I.wish _) hw) (fun _ _ ⟨H',I',q⟩=>⟨H',I'.unwish,q⟩) fun _ _ z=>False.elim z⟩
theorem PSs.nox{st:List Stmt}{t:TS}(h:PSs X.nox st t):PSs X st t:=⟨fun pins s σ H D I hw=>
 wpAny_mono (h pins s σ H D (I.wish _) hw) (fun _ _ q=>q.unwish) fun _ _ z=>False.elim z⟩
end
section
variable{X:Cx}{st:Stmt}{bK:List Stmt}{t u:TS}{e:Expr}{te:TE}{pos:Pos}
def wb9:TS:=fun D σ H=>D.nx σ H
def wf1(t u:TS):TS:=fun D σ H=>t {D with nx:=u D} σ H
theorem xS:PSs X [] wb9:=⟨fun _ _ σ H _ I h=>wpAny_execs_nil ⟨σ,H,I,h⟩⟩
theorem gX(h1:PS X st t)(h2:PSs X bK u):PSs X (st::bK) (wf1 t u):=⟨by
 intro pins s σ H D I h
 refine wpAny_execs_cons (thn (h1 pins s σ H {D with nx:=u D} I h) fun f s1 q=> ?_)
 cases f with
 |next=>
  obtain⟨σ',H',I',q⟩:=q
  exact h2 pins s1 σ' H' D I' q
 |ret v=>exact q
 |brk=>exact q
 |cont=>exact q⟩
theorem qU(h1:PS X st t):PSs X [st] t:=⟨by
 intro pins s σ H D I h
 refine wpAny_execs_cons (thn (h1 pins s σ H D I h) fun f s1 q=> ?_)
 cases f with
 |next=>exact wpAny_execs_nil q
 |ret v=>exact q
 |brk=>exact q
 |cont=>exact q⟩
theorem Inv.quiet{pins:tzB}{σ:St}{H:Hp}{s:Shared}(I:Inv X pins σ H s):interactive X.env=false:=by simp [interactive,I.ok.kind]
def wc0(te:TE):TS:=fun D σ H=>te σ H fun _ H1=>D.nx σ H1
theorem yb7(he:PE X e te)(hs:swapsWith e none pos.line X.env=pure false:=by rfl):PS X (.Expr e pos) (wc0 te):=⟨by
 intro pins s σ H D I h
 exact wpAny_Expr_any (thn (he pins s σ H _ I h) fun v s1 ⟨x,H1,I1,r1,q1⟩=>⟨σ,H1,I1,q1⟩) I.quiet hs⟩
def wf2(te:TE):TS:=fun D σ H=>te σ H D.rt
theorem rB(he:PE X e te):PS X (.Return (some e) pos) (wf2 te):=⟨by
 intro pins s σ H D I h
 exact wpAny_Return_some (thn (he pins s σ H _ I h) fun v s1 ⟨x,H1,I1,r1,q1⟩=>⟨x,σ,H1,I1,r1,q1⟩)⟩
def wf3(c:TT)(t u:TS):TS:=fun D σ H=>c σ H fun b H1=>if b=true then t D σ H1 else u D σ H1
theorem zZ{c:Expr}{a b:List Stmt}{tc:TT}(hc:PT X c tc)(ha:PSs X a t)(hb:PSs X b u):PS X (.If c a b pos) (wf3 tc t u):=⟨by
 intro pins s σ H D I h
 refine wpAny_If (thn (hc pins s σ H _ I h) fun d s1 ⟨H1,I1,q1⟩=> ?_)
 cases d with
 |true=>exact ha pins s1 σ H1 D I1 q1
 |false=>exact hb pins s1 σ H1 D I1 q1⟩
def xx4:TS:=fun _ _ _=>False
theorem yy4:PS X st xx4:=⟨fun _ _ _ _ _ _ h=>h.elim⟩
end
abbrev TG:=V->St->Hp->(St->Hp->Prop)->Prop
abbrev TGs:=List V->St->Hp->(St->Hp->Prop)->Prop
def PGd(X:Cx)(target:Expr)(t:TG):Prop:=
 ∀(pins:tzB) (s:Shared) (σ:St) (H:Hp) (v:V) (u:Value) (Q:St->Hp->Prop),Inv X pins σ H s->cM v u->t v σ H Q->
  wpAny (model X.prog X.w) X.A (assign target X.env u) (fun _ s'=>∃σ' H',Inv X pins σ' H' s'/\Q σ' H') X.xe s
structure PG(X:Cx)(target:Expr)(t:TG):Prop where
 go:PGd X target t
instance {X:Cx} {target:Expr} {t:TG}:CoeFun (PG X target t) fun _=>PGd X target t:=⟨PG.go⟩
def xx5(X:Cx)(ts:List Expr)(t:TGs):Prop:=
 ∀(pins:tzB) (s:Shared) (σ:St) (H:Hp) (vs:List V) (us:List Value) (Q:St->Hp->Prop),Inv X pins σ H s->bN vs us->t vs σ H Q->
  wpAny (model X.prog X.w) X.A (assignInOrder ((assignEach ts X.env).map (·.2)) us) (fun _ s'=>∃σ' H',Inv X pins σ' H' s'/\Q σ' H') X.xe s
structure PGs(X:Cx)(ts:List Expr)(t:TGs):Prop where
 go:xx5 X ts t
instance {X:Cx} {ts:List Expr} {t:TGs}:CoeFun (PGs X ts t) fun _=>xx5 X ts t:=⟨PGs.go⟩
abbrev xf1:=V->V->V->Hp->(Hp->Prop)->Prop
def xx6(X:Cx)(t:xf1):Prop:=
 ∀(pins:tzB) (s:Shared) (σ:St) (H:Hp) (o i v:V) (ov iv u:Value) (Q:Hp->Prop),Inv X pins σ H s->cM o ov->cM i iv->cM v u->t o i v H Q->
  wpAny (model X.prog X.w) X.A (setItem ov iv u) (fun _ s'=>∃H',Inv X pins σ H' s'/\Q H') X.xe s
section
variable{X:Cx}{pos:Pos}
def sQ(i:Nat):TG:=fun v σ H Q=>Q (σ.set i (some v)) H
theorem kZ{i:Nat}{x:Str}(hN:X.N.Nodup)(hi:X.N[i]? =some x)(hx:Loc X.env.scope x)(hf:X.fn x=true\/X.env.scope.names.lookup x=some .local:=by first|exact .inl rfl|exact .inr rfl|assumption):PG X (.Name x pos) (sQ i):=⟨by
 intro pins s σ H v u Q I r h
 exact wpAny_assign_Name (uJ I hN hi hx r (fun s' I'=>⟨_,H,I',h⟩) hf)⟩
def xx7:TGs:=fun vs σ H Q=>vs=[]/\Q σ H
def xi0(t:TG)(u:TGs):TGs:=fun vs σ H Q=>∃v r,vs=v::r/\t v σ H fun σ' H'=>u r σ' H' Q
theorem xj7:PGs X [] xx7:=⟨by
 intro pins s σ H vs us Q I r h
 obtain⟨e,h⟩:=h
 subst e
 cases r
 exact assignInOrder_nil ⟨σ,H,I,h⟩⟩
theorem uK{e:Expr}{es:List Expr}{t:TG}{u:TGs}(h1:PG X e t)(h2:PGs X es u)
  (hs:(assignEach (e::es) X.env).map (·.2)=assign e X.env::(assignEach es X.env).map (·.2):=by rfl):PGs X (e::es) (xi0 t u):=⟨by
 intro pins s σ H vs us Q I r h
 obtain⟨v,vr,e1,h⟩:=h
 subst e1
 cases r with
 |cons r rr=>
  rw [hs]
  refine assignInOrder_cons (thn (h1 pins s σ H _ _ _ I r h) fun _ s1 ⟨σ1,H1,I1,q1⟩=> ?_)
  exact h2 pins s1 σ1 H1 _ _ Q I1 rr q1⟩
def xx8(K:tz0)(n:Nat)(t:TGs):TG:=fun v σ H Q=>∃a xs,v= .ref a/\SqT K H a xs/\xs.length=n/\t xs σ H Q
theorem xq5{es:List Expr}{k:Nat}{t:TGs}{n:Nat}(hc:X.calm=true)(h:PGs X es t)
  (hn:(assignEach es X.env).length=n:=by rfl) (hst:(assignEach es X.env).findIdx? (·.1)=none:=by rfl):PG X (.Tuple es k pos) (xx8 X.K n t):=⟨by
 intro pins s σ H v u Q I r hw
 obtain⟨a,xs,e1,hq,hl,hw⟩:=hw
 subst e1
 cases r
 obtain⟨its,rv,ht,hz⟩:=I.tuple hq
 refine assign_Tuple_tuple (I.ok.hd hc) ht (by simp [hn,<-hl,rv.length]) hst fun h' hx=> ?_
 have I1:Inv X pins σ H {s with heap:=h'}:=I.kept (t':=s.toks) fun b o e=>hx b o (Nat.ne_of_lt (Heap.lt_size e)) e
 exact h pins _ σ H xs _ Q I1 (by simpa using rv) hw⟩
def wf4(to ti:TE)(t:xf1):TG:=fun v σ H Q=>to σ H fun o H1=>ti σ H1 fun i H2=>t o i v H2 fun H3=>Q σ H3
theorem xq6{o i:Expr}{to ti:TE}{t:xf1}(ho:PE X o to)(hi:PE X i ti)(hs:xx6 X t)
  (ha:∀v,assign (.Subscript o i pos) X.env v=(do
   let ov<-holding [v] (eval o X.env)
   let iv<-holding [v,ov] (eval i X.env)
   standAt pos
   holding [v,ov,iv] (setItem ov iv v)
   release [v,ov,iv] []):=by intro _;rfl):PG X (.Subscript o i pos) (wf4 to ti t):=⟨by
 intro pins s σ H v u Q I r h
 rw [ha]
 refine wpAny_bind (wpAny_holding (thn (ho pins s σ H _ I h) fun ov s1 ⟨x,H1,I1,r1,q1⟩=> ?_))
 refine wpAny_bind (wpAny_holding (thn (hi pins s1 σ H1 _ I1 q1) fun iv s2 ⟨y,H2,I2,r2,q2⟩=> ?_))
 refine wpAny_bind (wpAny_standAt (wpAny_bind (wpAny_holding (thn (hs pins s2 σ H2 x y v ov iv u _ I2 r1 r2 r q2) fun _ s3 ⟨H3,I3,q3⟩=> ?_))))
 exact wpAny_release ⟨σ,H3,I3,q3⟩⟩
def xx9(te:TE)(g:TG):TS:=fun D σ H=>te σ H fun x H1=>g x σ H1 D.nx
theorem yo8{tg e:Expr}{te:TE}{g:TG}(he:PE X e te)(hg:PG X tg g)(hs:swapsWithSole [tg] e pos.line X.env=pure false:=by rfl)(hw:swappedStores [tg] e X.env=pure none:=by rfl)
  (h1:(assignEach [tg] X.env).map (·.2)=[assign tg X.env]:=by rfl):PS X (.Assign [tg] e pos) (xx9 te g):=⟨by
 intro pins s σ H D I h
 refine wpAny_Assign_stores (thn (he pins s σ H _ I h) fun v s1 ⟨x,H1,I1,r1,q1⟩=> ?_) hs hw
 rw [h1]
 exact thn (hg pins s1 σ H1 x v _ I1 r1 q1) fun _ s2 q=>q⟩
theorem tL{i:Nat}{x:Str}{e:Expr}{te:TE}{pos':Pos}(hN:X.N.Nodup)(hi:X.N[i]? =some x)(hx:Loc X.env.scope x)(he:PE X e te)(hs:swapsWith e (some (.Name x pos')) pos.line X.env=pure false:=by rfl)(hf:X.fn x=true\/X.env.scope.names.lookup x=some .local:=by first|exact .inl rfl|exact .inr rfl|assumption):
  PS X (.Assign [.Name x pos'] e pos) (xx9 te (sQ i)):=⟨by
 intro pins s σ H D I h
 refine wpAny_Assign_Name (thn (he pins s σ H _ I h) fun v s1 ⟨y,H1,I1,r1,q1⟩=> ?_) hs
 exact uJ I1 hN hi hx r1 (fun s2 I2=>⟨_,H1,I2,q1⟩) hf⟩
def xy0(c:TT)(tb:TS):TS:=fun D σ H=>∃W:Nat->St->Hp->Prop,(∃m,W m σ H)/\∀m σ H,W m σ H->
 c σ H fun b H1=>if b=true then ∃N:St->Hp->Prop,(∀σ' H',N σ' H'->∃m',m'<m/\W m' σ' H')/\tb {D with nx:=N,ct:=N,bk:=D.nx} σ H1 else D.nx σ H1
theorem yy5{c:Expr}{body:List Stmt}{tc:TT}{tb:TS}(hp:PassesOwn (model X.prog X.w) X.A X.env X.xe)(hc:PT X c tc)(hb:PSs X body tb):PS X (.While c body [] pos) (xy0 tc tb):=⟨by
 intro pins s σ H D I h
 obtain⟨W,⟨m0,w0⟩,turn⟩:=h
 refine wpAny_While (codeAny_whileLoop (fun n s'=>∃σ' H',Inv X pins σ' H' s'/\W n σ' H') ?_ m0 ⟨σ,H,I,w0⟩)
 rintro n s1 ⟨σ1,H1,I1,w1⟩
 refine wpAny_passesOwn hp (thn (hc pins s1 σ1 H1 _ I1 (turn n σ1 H1 w1)) fun b s2 ⟨H2,I2,q2⟩=> ?_)
 cases b with
 | true=>
  obtain⟨N,hN,q2⟩:=q2
  rw [if_pos rfl]
  refine wpAny_passesOwn hp (thn (hb pins s2 σ1 H2 _ I2 q2) fun f s3 q3=> ?_)
  cases f with
  |next=>
   obtain⟨σ3,H3,I3,n3⟩:=q3
   obtain⟨m',hm,w3⟩:=hN σ3 H3 n3
   exact⟨m',hm,σ3,H3,I3,w3⟩
  |cont=>
   obtain⟨σ3,H3,I3,n3⟩:=q3
   obtain⟨m',hm,w3⟩:=hN σ3 H3 n3
   exact⟨m',hm,σ3,H3,I3,w3⟩
  |brk=>exact q3
  |ret v=>exact q3
 |false=>
  rw [if_neg Bool.false_ne_true]
  exact wpAny_execs_nil ⟨σ1,H2,I2,q2⟩⟩
end
structure It where
 go:Nat->Hp->Prop
 yld:Nat->Hp->V->Hp->Prop
 stop:Nat->Hp->Prop
def rT(X:Cx)(pins:tzB)(H:Hp)(b:Addr):Prop:=
 H b=none/\b≠X.env.locals/\b∉X.fs/\(b∈X.ex\/X.s₀.heap.objs.size<=b)/\(∀x c,X.env.cells.lookup x=some c->c≠b)/\∀p∈X.pn++pins,p.1≠b
theorem Inv.fpOk{X:Cx}{pins:tzB}{σ:St}{H H':Hp}{s:Shared}{b:Addr}(I:Inv X pins σ H s)(hb:s.heap.objs.size<=b)(hn:H' b=none):rT X pins H' b:=by
 refine⟨hn,Nat.ne_of_gt (Nat.lt_of_lt_of_le I.lt hb),I.nofs hb,.inr (Nat.le_trans I.sz hb),fun x c e z=> ?_,fun p hp z=> ?_⟩
 ·obtain⟨v,q⟩:=I.cell x c e
  exact absurd (Nat.lt_of_lt_of_le q.lt (by rw [z];exact hb)) (Nat.lt_irrefl _)
 ·exact absurd (Nat.lt_of_lt_of_le (Heap.lt_size (I.pin p hp).1) (by rw [z];exact hb)) (Nat.lt_irrefl _)
structure Turn(P:Program)(w:World)(K:tz0)(tg:Expr)(J:It)(fp:List Addr)(it:Addr)(tn:Nat->Heap->Prop):Prop where
 mem:it∈fp
 obj:∀i h,tn i h->∀b∈fp,∃o,h.get? b=some o/\∀v,o.data≠ .cell v
 keep:∀i h h',tn i h->(∀b∈fp,∀o,h.get? b=some o->h'.get? b=some o)->tn i h'
 item:∀(X:Cx),X.prog=P->X.w=w->X.K=K->X.calm=true->∀(i:Nat) (pins:tzB) (s:Shared) (σ:St) (H:Hp) (E:Value->Shared->Prop),Inv X pins σ H s->(∀b∈fp,rT X pins H b)->tn i s.heap->J.go i H->
  wpAny (model P w) X.A (pyNext (.ref it)) (fun r s1=>∃u,r=some u/\
   wpAny (model P w) X.A (letOwnedTupleGo tg (.ref it) u) (fun _ s2=>∃x H',Inv X pins σ H' s2/\cM x u/\J.yld i H x H'/\tn (i+1) s2.heap/\∀b∈fp,H' b=none) E s1) E s
 done:∀(X:Cx),X.prog=P->X.w=w->X.K=K->X.calm=true->∀(i:Nat) (pins:tzB) (s:Shared) (σ:St) (H:Hp) (E:Value->Shared->Prop),Inv X pins σ H s->(∀b∈fp,rT X pins H b)->tn i s.heap->J.stop i H->
  wpAny (model P w) X.A (pyNext (.ref it)) (fun r s1=>r=none/\Inv X pins σ H s1) E s
 self:∀(A:Around) (i:Nat) (s:Shared) (Q:Value->Shared->Prop) (E:Value->Shared->Prop),tn i s.heap->Q (.ref it) s->wpAny (model P w) A (pyIter (.ref it)) Q E s
abbrev TI:=St->Hp->(It->Hp->Prop)->Prop
def PIE(X:Cx)(pins:tzB)(σ:St)(tg:Expr)(R:It->Hp->Prop)(itv:Value)(s2:Shared):Prop:=
 ∃(it:Addr) (fp:List Addr) (tn:Nat->Heap->Prop) (J:It) (H':Hp),itv= .ref it/\Inv X pins σ H' s2/\Turn X.prog X.w X.K tg J fp it tn/\tn 0 s2.heap/\(∀b∈fp,rT X pins H' b)/\R J H'
def PId(X:Cx)(tg iter:Expr)(wi:TI):Prop:=
 ∀(pins:tzB) (s:Shared) (σ:St) (H:Hp) (R:It->Hp->Prop),Inv X pins σ H s->wi σ H R->
  wpAny (model X.prog X.w) X.A (eval iter X.env) (fun v s1=>wpAny (model X.prog X.w) X.A (pyIter v) (PIE X pins σ tg R) X.xe s1) X.xe s
structure PI(X:Cx)(tg iter:Expr)(wi:TI):Prop where
 go:PId X tg iter wi
instance {X:Cx} {tg iter:Expr} {wi:TI}:CoeFun (PI X tg iter wi) fun _=>PId X tg iter wi:=⟨PI.go⟩
theorem zo1{M:Model}{A:Around}{E:Value->Shared->Prop}{s:Shared}{tg:Expr}{it:Addr}{u:Value}{o:Obj}{n:String}{vs:Array Value}{Q:Unit->Shared->Prop}(ho:s.heap.get? it=some o)(hc:o.cls= .type n)(hd:o.data= .fields vs)
  (hn:["enumerate","zip","dict_itemiterator","dict_reverseitemiterator","odict_iterator","itertools.zip_longest","itertools.pairwise"].contains n=false) (hQ:Q () s):wpAny M A (letOwnedTupleGo tg (.ref it) u) Q E s:=by
 unfold letOwnedTupleGo
 cases tg<;>first
  |exact wpAny_pure hQ
  | (cases u<;>first
    |exact wpAny_pure hQ
    | (refine wpAny_bind (wpAny_load ho ?_)
       rw [hc,hd]
       show wpAny M A (if (["enumerate","zip","dict_itemiterator","dict_reverseitemiterator","odict_iterator","itertools.zip_longest","itertools.pairwise"].contains n&&vs[0]? ==some (rawInt _))=true then _ else _) Q E s
       rw [if_neg (by intro h;rw [hn,Bool.false_and] at h;cases h)]
       exact wpAny_pure hQ))
def Itl(K:tz0)(a:Addr):It:=
 ⟨fun i H=>∃xs x,SqL K H a xs/\xs[i]? =some x,fun i H x H'=>H'=H/\∀xs,SqL K H a xs->xs[i]? =some x,fun i H=>∃xs,SqL K H a xs/\xs.length<=i⟩
def Itt(K:tz0)(a:Addr):It:=
 ⟨fun i H=>∃xs x,SqT K H a xs/\xs[i]? =some x,fun i H x H'=>H'=H/\∀xs,SqT K H a xs->xs[i]? =some x,fun i H=>∃xs,SqT K H a xs/\xs.length<=i⟩
def Itr(lo:Int)(n:Nat):It:=⟨fun i _=>i<n,fun i H x H'=>H'=H/\x= .int (lo+i),fun i _=>n<=i⟩
theorem yo9{P:Program}{w:World}{K:tz0}{tg:Expr}(a it:Addr):Turn P w K tg (Itl K a) [it] it (fun i h=>h.IsListIter it a i) where
 mem:=by simp
 obj:=fun i h st b hb=>by
  have e:b=it:=by simpa using hb
  subst e
  obtain⟨o,e,c,d⟩:=st
  exact⟨o,e,fun v z=>by rw [d] at z;cases z⟩
 keep:=fun i h h' st k=>st.at fun o e=>k it (by simp) o e
 item:=by
  intro X hP hw hK hc i pins s σ H E I hf st hg
  subst hP hw hK
  obtain⟨xs,x,hq,hx⟩:=hg
  obtain⟨its,rv,p,hz⟩:=I.list hq
  obtain⟨u,hu,ru⟩:=rv.get hx
  obtain⟨f0,f1,f2,f3,f4,f5⟩:=hf it (by simp)
  refine wpAny_pyNext_list_item st p.isList (x:=u) (by simpa using hu) fun h' st' sb=> ?_
  have I1:Inv X pins σ H {s with heap:=h'}:=I.turned (t':=s.toks) (fun b o hb e=>(sb.2 b hb).trans e) f0 f1 f3 f4 f5
  obtain⟨o,e,c,d⟩:=id st'
  exact⟨u,rfl,zo1 (s:={s with heap:=h'}) e c d (by decide) ⟨x,H,I1,ru,⟨rfl,fun ys hy=>by rw [I.list_inj hy hq];exact hx⟩,st',fun b hb=>(hf b hb).1⟩⟩
 done:=by
  intro X hP hw hK hc i pins s σ H E I hf st hg
  subst hP hw hK
  obtain⟨xs,hq,hx⟩:=hg
  obtain⟨its,rv,p,hz⟩:=I.list hq
  obtain⟨f0,f1,f2,f3,f4,f5⟩:=hf it (by simp)
  have hl:=rv.length
  exact wpAny_pyNext_list_end (I.ok.hd hc) st p.isList (by simp;omega) fun h' eb=>⟨rfl,I.turned (t':=s.toks) (fun b o hb e=>eb b o hb e) f0 f1 f3 f4 f5⟩
 self:=fun _ _ _ _ _ st h=>wpAny_pyIter_listiter st h
theorem yh2{P:Program}{w:World}{K:tz0}{tg:Expr}(a it:Addr):Turn P w K tg (Itt K a) [it] it (fun i h=>h.IsTupleIter it a i) where
 mem:=by simp
 obj:=fun i h st b hb=>by
  have e:b=it:=by simpa using hb
  subst e
  obtain⟨o,e,c,d⟩:=st
  exact⟨o,e,fun v z=>by rw [d] at z;cases z⟩
 keep:=fun i h h' st k=>st.at fun o e=>k it (by simp) o e
 item:=by
  intro X hP hw hK hc i pins s σ H E I hf st hg
  subst hP hw hK
  obtain⟨xs,x,hq,hx⟩:=hg
  obtain⟨its,rv,p,hz⟩:=I.tuple hq
  obtain⟨u,hu,ru⟩:=rv.get hx
  obtain⟨f0,f1,f2,f3,f4,f5⟩:=hf it (by simp)
  refine wpAny_pyNext_tuple_item st (show s.heap.IsTuple a its.toArray from p) (x:=u) (by simpa using hu) fun h' st' sb=> ?_
  have I1:Inv X pins σ H {s with heap:=h'}:=I.turned (t':=s.toks) (fun b o hb e=>(sb.2 b hb).trans e) f0 f1 f3 f4 f5
  obtain⟨o,e,c,d⟩:=id st'
  exact⟨u,rfl,zo1 (s:={s with heap:=h'}) e c d (by decide) ⟨x,H,I1,ru,⟨rfl,fun ys hy=>by rw [I.tuple_inj hy hq];exact hx⟩,st',fun b hb=>(hf b hb).1⟩⟩
 done:=by
  intro X hP hw hK hc i pins s σ H E I hf st hg
  subst hP hw hK
  obtain⟨xs,hq,hx⟩:=hg
  obtain⟨its,rv,p,hz⟩:=I.tuple hq
  obtain⟨f0,f1,f2,f3,f4,f5⟩:=hf it (by simp)
  have hl:=rv.length
  exact wpAny_pyNext_tuple_end (I.ok.hd hc) st (show s.heap.IsTuple a its.toArray from p) (by simp;omega) fun h' eb=>⟨rfl,I.turned (t':=s.toks) (fun b o hb e=>eb b o hb e) f0 f1 f3 f4 f5⟩
 self:=fun _ _ _ _ _ st h=>wpAny_pyIter_tupleiter st h
theorem yh3{P:Program}{w:World}{K:tz0}{tg:Expr}(it:Addr)(lo:Int)(n:Nat):Turn P w K tg (Itr lo n) [it] it (fun i h=>IsRangeIter h it (lo+(i:Nat)*1) ((n:Int)-(i:Nat)) 1) where
 mem:=by simp
 obj:=fun i h st b hb=>by
  have e:b=it:=by simpa using hb
  subst e
  exact⟨_,st,fun v z=>by
   have z':Data.fields _=Data.cell v:=z
   cases z'⟩
 keep:=fun i h h' st k=>k it (by simp) _ st
 item:=by
  intro X hP hw hK hc i pins s σ H E I hf st hg
  subst hP hw hK
  obtain⟨f0,f1,f2,f3,f4,f5⟩:=hf it (by simp)
  have W:=Walks.range (prog:=X.prog) (w:=X.w) (I.ok.hd hc) it lo 1 n
  refine W.item i s _ _ hg st fun v h' tk hv st' kk=> ?_
  obtain⟨t,rfl⟩:=hv
  have I1:Inv X pins σ H {s with heap:=h',toks:=tk}:=I.turned (fun b o hb e=>kk b o (by simpa using hb) e) f0 f1 f3 f4 f5
  refine⟨_,rfl,zo1 (s:={s with heap:=h',toks:=tk}) (n:="range_iterator") st' rfl rfl (by decide) ⟨.int (lo+i),H,I1,⟨t,?_⟩,⟨rfl,rfl⟩,st',fun b hb=>(hf b hb).1⟩⟩
  rw [Int.mul_one]
 done:=by
  intro X hP hw hK hc i pins s σ H E I hf st hg
  subst hP hw hK
  obtain⟨f0,f1,f2,f3,f4,f5⟩:=hf it (by simp)
  exact wpAny_pyNext_range_end (I.ok.hd hc) st (by have:n<=i:=hg;omega) fun h' eb=>⟨rfl,I.turned (t':=s.toks) (fun b o hb e=>eb b o hb e) f0 f1 f3 f4 f5⟩
 self:=fun _ _ _ _ _ st h=>wpAny_pyIter_rangeiter st h
section
variable{X:Cx}{tg:Expr}
theorem zp8{pins:tzB}{σ:St}{H:Hp}{s:Shared}{R:It->Hp->Prop}{E:Value->Shared->Prop}{lo hi:Int}{t u v:Tok}{tk:Nat}(I:Inv X pins σ H s)(h1: -(2^62)<=lo)(h2:lo<2^62)(h3: -(2^62)<=hi)(h4:hi<2^62)
  (q:R (Itr lo (hi-lo).toNat) H):wpAny (model X.prog X.w) X.A (pyIter (.ref s.heap.objs.size)) (PIE X pins σ tg R) E {s with heap:=s.heap.push {cls:= .type "range",data:= .fields #[.int lo t,.int hi u,.int 1 v]},toks:=tk}:=by
 refine wpAny_pyIter_range (IsRange.new ..) (small_one h1 h2 h3 h4) ?_
 have I1:Inv X pins σ H {s with heap:=s.heap.push {cls:= .type "range",data:= .fields #[.int lo t,.int hi u,.int 1 v]},toks:=tk}:=I.kept fun b o e=>Heap.get?_push_of_some _ e
 refine⟨(s.heap.push {cls:= .type "range",data:= .fields #[.int lo t,.int hi u,.int 1 v]}).objs.size,[(s.heap.push {cls:= .type "range",data:= .fields #[.int lo t,.int hi u,.int 1 v]}).objs.size],_,_,H,rfl,
  I1.kept (t':=tk) fun b o e=>Heap.get?_push_of_some _ e,yh3 _ lo (hi-lo).toNat,?_,fun b hb=> ?_,q⟩
 ·have e1:lo+((0:Nat):Int)*1=lo:=by simp
  have e2:(((hi-lo).toNat:Nat):Int)-((0:Nat):Int)=Builtin.Range.rangeSize lo hi 1:=by rw [rangeSize_one];split<;>omega
  show IsRangeIter _ _ (lo+((0:Nat):Int)*1) ((((hi-lo).toNat:Nat):Int)-((0:Nat):Int)) 1
  rw [e1,e2]
  exact Heap.get?_push_size _ rfl
 ·have e:b=(s.heap.push {cls:= .type "range",data:= .fields #[.int lo t,.int hi u,.int 1 v]}).objs.size:=by simpa using hb
  subst e
  exact I1.fpOk (Nat.le_refl _) (I1.hok.fresh (Nat.le_refl _))
def wc1(ta:TA):TI:=fun σ H R=>ta σ H fun vs H1=>∃j:Int,vs=[.int j]/\ -(2^62)<=j/\j<2^62/\R (Itr 0 j.toNat) H1
def wc2(ta:TA):TI:=fun σ H R=>ta σ H fun vs H1=>∃i j:Int,vs=[.int i,.int j]/\(-(2^62)<=i/\i<2^62/\ -(2^62)<=j/\j<2^62)/\R (Itr i (j-i).toNat) H1
theorem yp0{a:Expr}{ta:TA}{p pos:Pos}(hg:Gl X "range")(hm:X.mg "range"=none)(ha:PA X [a] ta)(hs:starEach [a] X.env=[(false,eval a X.env)]:=by rfl):PI X tg (.Call (.Name "range" p) [a] [] pos) (wc1 ta):=⟨by
 intro pins s σ H R I h
 refine Call_ (rA I hg hm boot_range (PyProof.Rows.callWith_type1 (thn (ha pos pins s σ H _ I h) fun us s1 ⟨vs,H1,I1,r1,q1⟩=> ?_) hs rfl))
 obtain⟨j,e,q1,q2,q⟩:=q1
 subst e
 cases r1 with
 |cons r rr=>
  cases rr
  obtain⟨t,rfl⟩:=r
  exact call_range_1 (zp8 I1 (by omega) (by omega) q1 q2 (by simpa using q))⟩
theorem yp1{a b:Expr}{ta:TA}{p pos:Pos}(hg:Gl X "range")(hm:X.mg "range"=none)(ha:PA X [a,b] ta)(hs:starEach [a,b] X.env=[(false,eval a X.env),(false,eval b X.env)]:=by rfl)(hs2:starEach [b] X.env=[(false,eval b X.env)]:=by rfl):
  PI X tg (.Call (.Name "range" p) [a,b] [] pos) (wc2 ta):=⟨by
 intro pins s σ H R I h
 refine Call_ (rA I hg hm boot_range (PyProof.Rows.callWith_type1 (thn (ha pos pins s σ H _ I h) fun us s1 ⟨vs,H1,I1,r1,q1⟩=> ?_) (by rw [hs,hs2]) (by rw [hs2];rfl)))
 obtain⟨i,j,e,⟨q1,q2,q3,q4⟩,q⟩:=q1
 subst e
 cases r1 with
 | cons r rr=>
  cases rr with
  |cons r' rr=>
   cases rr
   obtain⟨t,rfl⟩:=r
   obtain⟨t',rfl⟩:=r'
   exact call_range_2 (zp8 I1 q1 q2 q3 q4 q)⟩
def wf5(wi:TI)(g:TG)(tb:TS):TS:=fun D σ H=>wi σ H fun J H1=>∃W:Nat->Nat->St->Hp->Prop,(∃m,W 0 m σ H1)/\∀i m σ H,W i m σ H->
 (J.stop i H/\D.nx σ H)\/(J.go i H/\∃N:St->Hp->Prop,(∀σ' H',N σ' H'->∃m',m'<m/\W (i+1) m' σ' H')/\∀x H',J.yld i H x H'->g x σ H' fun σ2 H2=>tb {D with nx:=N,ct:=N,bk:=D.nx} σ2 H2)
def uF(fp:List Addr)(h:Heap):tzB:=fp.filterMap fun b=>(h.get? b).map fun o=>(b,o)
theorem qO{fp:List Addr}{h:Heap}{b:Addr}{o:Obj}(hb:b∈fp)(e:h.get? b=some o):(b,o)∈uF fp h:=List.mem_filterMap.mpr ⟨b,hb,by rw [e];rfl⟩
theorem yp2{fp:List Addr}{h:Heap}{p:Addr×Obj}(hp:p∈uF fp h):p.1∈fp/\h.get? p.1=some p.2:=by
 obtain⟨b,hb,e⟩:=List.mem_filterMap.mp hp
 cases q:h.get? b with
 |none=>rw [q] at e;cases e
 |some o=>
  rw [q] at e
  have e':(b,o)=p:=Option.some.inj e
  subst e'
  exact⟨hb,q⟩
theorem Inv.pinned{pins:tzB}{σ:St}{H:Hp}{s:Shared}{fp:List Addr}(I:Inv X pins σ H s)(hf:∀b∈fp,rT X pins H b)(ho:∀b∈fp,∃o,s.heap.get? b=some o/\∀v,o.data≠ .cell v):Inv X (pins++uF fp s.heap) σ H s:=
 I.pins_of fun p hp=>(List.mem_append.mp hp).elim (fun z=>I.pin p (List.mem_append_right _ z)) fun z=>by
  obtain⟨hb,e⟩:=yp2 z
  obtain⟨f0,f1,f2,_⟩:=hf p.1 hb
  obtain⟨o,e',d⟩:=ho p.1 hb
  rw [e] at e';cases e'
  exact⟨e,f0,f1,f2,d⟩
theorem Inv.unpinned{pins pl:tzB}{σ:St}{H:Hp}{s:Shared}(I:Inv X (pins++pl) σ H s):Inv X pins σ H s:=I.pins_of fun p hp=>I.pin p (List.mem_append_right _ (List.mem_append_left _ hp))
theorem zp9{iter:Expr}{body:List Stmt}{wi:TI}{g:TG}{tb:TS}{pos:Pos}(hp:PassesOwn (model X.prog X.w) X.A X.env X.xe)(hc:X.calm=true)(hi:PI X tg iter wi)(hg:PG X tg g)(hb:PSs X body tb)
  (hs:∀x,foldedSetIterable iter X.env x=pure x:=by intro _;rfl):PS X (.For tg iter body [] pos) (wf5 wi g tb):=⟨by
 intro pins s σ H D I h
 refine wpAny_For (thn (hi pins s σ H _ I h) fun v s1 h1=>thn h1 fun itv s2 h2=> ?_) hs
 obtain⟨it,fp,tn,J,H2,e,I2,T,st2,f2,W,⟨m0,w0⟩,turn⟩:=h2
 subst e
 have stat:∀{H':Hp},(∀b∈fp,H' b=none)->∀b∈fp,rT X pins H' b:=fun hn b hb=>⟨hn b hb,(f2 b hb).2⟩
 refine codeAny_forLoop_any (fun n s'=>∃i σ' H',Inv X pins σ' H' s'/\tn i s'.heap/\(∀b∈fp,H' b=none)/\W i n σ' H') ?_ m0 ⟨0,σ,H2,I2,st2,fun b hb=>(f2 b hb).1,w0⟩
 rintro n s3 ⟨i,σ3,H3,I3,st3,fr3,w3⟩
 rcases turn i n σ3 H3 w3 with ⟨stop,qn⟩|⟨go,N,hN,step⟩
 ·refine wpAny_passesOwn hp (thn (T.done X rfl rfl rfl hc i pins s3 σ3 H3 X.xe I3 (stat fr3) st3 stop) fun r s4 ⟨hr,I4⟩=> ?_)
  subst hr
  exact wpAny_execs_nil ⟨σ3,H3,I4,qn⟩
 ·refine wpAny_passesOwn hp (thn (T.item X rfl rfl rfl hc i pins s3 σ3 H3 X.xe I3 (stat fr3) st3 go) fun r s4 ⟨u,hr,h4⟩=> ?_)
  subst hr
  refine wpAny_passesOwn hp (thn h4 fun _ s5 ⟨x,H5,I5,r5,y5,st5,fr5⟩=> ?_)
  have I5':=I5.pinned (stat fr5) (T.obj _ _ st5)
  refine wpAny_passesOwn hp (thn (hg _ s5 σ3 H5 x u _ I5' r5 (step x H5 y5)) fun _ s6 ⟨σ6,H6,I6,q6⟩=> ?_)
  refine wpAny_passesOwn hp (thn (hb _ s6 σ6 H6 _ I6 q6) fun f s7 q7=> ?_)
  have again:∀{σ7:St} {H7:Hp},Inv X (pins++uF fp s5.heap) σ7 H7 s7->N σ7 H7->∃m,m<n/\∃i σ' H',Inv X pins σ' H' s7/\tn i s7.heap/\(∀b∈fp,H' b=none)/\W i m σ' H':=fun {σ7 H7} I7 n7=>by
   obtain⟨m',hm,w7⟩:=hN σ7 H7 n7
   refine⟨m',hm,i+1,σ7,H7,I7.unpinned,T.keep _ _ _ st5 fun b hb o e=>(I7.pin (b,o) (List.mem_append_right _ (List.mem_append_right _ (qO hb e)))).1,fun b hb=> ?_,w7⟩
   obtain⟨o,e,d⟩:=T.obj _ _ st5 b hb
   exact(I7.pin (b,o) (List.mem_append_right _ (List.mem_append_right _ (qO hb e)))).2.1
  cases f with
  |next=>obtain⟨σ7,H7,I7,n7⟩:=q7;exact again I7 n7
  |cont=>obtain⟨σ7,H7,I7,n7⟩:=q7;exact again I7 n7
  |brk=>obtain⟨σ7,H7,I7,q7⟩:=q7;exact⟨σ7,H7,I7.unpinned,q7⟩
  |ret v=>obtain⟨x7,σ7,H7,I7,r7,q7⟩:=q7;exact⟨x7,σ7,H7,I7.unpinned,r7,q7⟩⟩
end
abbrev R2:=V->V->Hp->VK->Prop
def xy1(X:Cx)(f:Value->Value->Sem Value)(r:R2):Prop:=
 ∀(pins:tzB) (s:Shared) (σ:St) (H:Hp) (x y:V) (v u:Value) (Q:VK),Inv X pins σ H s->cM x v->cM y u->r x y H Q->
  wpAny (model X.prog X.w) X.A (f v u) (EP X pins σ Q) X.xe s
structure OpR(X:Cx)(f:Value->Value->Sem Value)(r:R2):Prop where
 go:xy1 X f r
instance {X:Cx} {f:Value->Value->Sem Value} {r:R2}:CoeFun (OpR X f r) fun _=>xy1 X f r:=⟨OpR.go⟩
def UnR(X:Cx)(f:Value->Sem Value)(r:V->Hp->VK->Prop):Prop:=
 ∀(pins:tzB) (s:Shared) (σ:St) (H:Hp) (x:V) (v:Value) (Q:VK),Inv X pins σ H s->cM x v->r x H Q->
  wpAny (model X.prog X.w) X.A (f v) (EP X pins σ Q) X.xe s
def yx7(X:Cx)(f:Value)(r:List V->Hp->VK->Prop):Prop:=
 ∀(pins:tzB) (s:Shared) (σ:St) (H:Hp) (xs:List V) (us:List Value) (Q:VK),Inv X pins σ H s->bN xs us->r xs H Q->
  wpAny (model X.prog X.w) X.A (call f us) (EP X pins σ Q) X.xe s
structure CallR(X:Cx)(f:Value)(r:List V->Hp->VK->Prop):Prop where
 go:yx7 X f r
instance {X:Cx} {f:Value} {r:List V->Hp->VK->Prop}:CoeFun (CallR X f r) fun _=>yx7 X f r:=⟨CallR.go⟩
def wf6(X:Cx)(r:V->Hp->(Bool->Hp->Prop)->Prop):Prop:=
 ∀(pins:tzB) (s:Shared) (σ:St) (H:Hp) (x:V) (v:Value) (Q:Bool->Hp->Prop),Inv X pins σ H s->cM x v->r x H Q->
  wpAny (model X.prog X.w) X.A (truthy v) (TP X pins σ Q) X.xe s
def tOp(r:R2)(ta tb:TE):TE:=fun σ H Q=>ta σ H fun x H1=>tb σ H1 fun y H2=>r x y H2 Q
def tUn(r:V->Hp->VK->Prop)(ta:TE):TE:=fun σ H Q=>ta σ H fun x H1=>r x H1 Q
def rI(C:Int->Int->Prop)(g:Int->Int->V):R2:=fun x y H Q=>∃i j,x= .int i/\y= .int j/\C i j/\Q (g i j) H
def rI0(g:Int->Int->V):R2:=fun x y H Q=>∃i j,x= .int i/\y= .int j/\Q (g i j) H
def rU(g:Int->V):V->Hp->VK->Prop:=fun x H Q=>∃i,x= .int i/\Q (g i) H
section
variable{X:Cx}{a b c:Expr}{ta tb tc:TE}{pos:Pos}
theorem yy6(ha:PE X a ta)(hb:PE X b tb){pins:tzB}{s:Shared}{σ:St}{H:Hp}{R:V->V->Hp->Prop}(I:Inv X pins σ H s)
  (h:ta σ H fun x H1=>tb σ H1 fun y H2=>R x y H2) {Q:Value->Shared->Prop} {f:Value->Value->Sem Value}
  (hf:∀v u s2 x y H2,Inv X pins σ H2 s2->cM x v->cM y u->R x y H2->wpAny (model X.prog X.w) X.A (f v u) Q X.xe s2):
  wpAny (model X.prog X.w) X.A (eval a X.env) (fun v s₁=>wpAny (model X.prog X.w) X.A (eval b X.env) (fun u s₂=>wpAny (model X.prog X.w) X.A (f v u) Q X.xe s₂) X.xe s₁) X.xe s:=by
 refine thn (ha pins s σ H _ I h) fun v s1 ⟨x,H1,I1,r1,q1⟩=> ?_
 refine thn (hb pins s1 σ H1 _ I1 q1) fun u s2 ⟨y,H2,I2,r2,q2⟩=> ?_
 exact hf v u s2 x y H2 I2 r1 r2 q2
theorem gM{op:Operator}{r:R2}(ho:OpR X (binaryOp op) r)(ha:PE X a ta)(hb:PE X b tb):PE X (.BinOp a op b pos) (tOp r ta tb):=⟨by
 intro pins s σ H Q I h
 exact wpAny_BinOp (yy6 ha hb I h fun v u s2 x y H2 I2 rx ry q=>ho pins s2 σ H2 x y v u Q I2 rx ry q)⟩
theorem xz7{op:UnaryOp}{r:V->Hp->VK->Prop}(ho:UnR X (unaryOp op) r)(ha:PE X a ta):PE X (.UnaryOp op a pos) (tUn r ta):=⟨by
 intro pins s σ H Q I h
 exact UnaryOp_ (thn (ha pins s σ H _ I h) fun v s1 ⟨x,H1,I1,r1,q1⟩=>ho pins s1 σ H1 x v Q I1 r1 q1)⟩
theorem opI{f:Value->Value->Sem Value}{C:Int->Int->Prop}{g:Int->Int->Int}
  (rule:∀(i j:Int) (t u:Tok) (s:Shared) (Q:Value->Shared->Prop) (E:Value->Shared->Prop),C i j->Q (.int (g i j) s.toks) {s with toks:=s.toks+1}->wpAny (model X.prog X.w) X.A (f (.int i t) (.int j u)) Q E s):
  OpR X f (rI C fun i j=> .int (g i j)):=⟨by
 intro pins s σ H x y v u Q I rx ry h
 obtain⟨i,j,rfl,rfl,hc,q⟩:=h
 obtain⟨t,rfl⟩:=rx
 obtain⟨t',rfl⟩:=ry
 exact rule i j t t' s _ _ hc ⟨.int (g i j),H,I.tok _,⟨_,rfl⟩,q⟩⟩
theorem yy7{f:Value->Value->Sem Value}{g:Int->Int->Int}
  (rule:∀(i j:Int) (t u:Tok) (s:Shared) (Q:Value->Shared->Prop) (E:Value->Shared->Prop),Q (.int (g i j) s.toks) {s with toks:=s.toks+1}->wpAny (model X.prog X.w) X.A (f (.int i t) (.int j u)) Q E s):
  OpR X f (rI0 fun i j=> .int (g i j)):=⟨by
 intro pins s σ H x y v u Q I rx ry h
 obtain⟨i,j,rfl,rfl,q⟩:=h
 obtain⟨t,rfl⟩:=rx
 obtain⟨t',rfl⟩:=ry
 exact rule i j t t' s _ _ ⟨.int (g i j),H,I.tok _,⟨_,rfl⟩,q⟩⟩
theorem yh4{f:Value->Value->Sem Value}{g:Int->Int->Bool}
  (rule:∀(i j:Int) (t u:Tok) (s:Shared) (Q:Value->Shared->Prop) (E:Value->Shared->Prop),Q (.bool (g i j)) s->wpAny (model X.prog X.w) X.A (f (.int i t) (.int j u)) Q E s):
  OpR X f (rI0 fun i j=> .bl (g i j)):=⟨by
 intro pins s σ H x y v u Q I rx ry h
 obtain⟨i,j,rfl,rfl,q⟩:=h
 obtain⟨t,rfl⟩:=rx
 obtain⟨t',rfl⟩:=ry
 exact rule i j t t' s _ _ ⟨.bl (g i j),H,I,rfl,q⟩⟩
def wf7(i j:Int):Prop:=0<j/\j<1073741824
def xf2(i j:Int):Prop:=(-(2^64)<i/\i<2^64)\/(-(2^64)<j/\j<2^64)
theorem xf2.ok{i j:Int}(h:xf2 i j):IntMulOk i j:=by
 rcases h with ⟨h1,h2⟩|⟨h1,h2⟩
 ·exact .of_left (intBits_le_64 h1 h2)
 ·exact .of_right (intBits_le_64 h1 h2)
theorem yh5(k:Nat):(0:Int)<=2^k:=by
 rw [two_pow_cast]
 exact Int.natCast_nonneg _
theorem tM:OpR X (binaryOp .Add) (rI0 fun i j=> .int (i+j)):=yy7 fun _ _ _ _ _ _ _ q=>add_int q
theorem xq7:OpR X (binaryOp .Sub) (rI0 fun i j=> .int (i-j)):=yy7 fun _ _ _ _ _ _ _ q=>sub_int q
theorem nW:OpR X (binaryOp .Mult) (rI xf2 fun i j=> .int (i*j)):=opI fun _ _ _ _ _ _ _ hc q=>mul_int q hc.ok
theorem yb8:OpR X (binaryOp .FloorDiv) (rI wf7 fun i j=> .int (i/j)):=opI fun i j _ _ _ _ _ hc q=>by
 have h1:(0:Int)<j:=hc.1
 have h2:j<1073741824:=hc.2
 exact floordiv_int (by omega) (by rw [Int.fdiv_eq_ediv_of_nonneg i (by omega)];exact q) (.inl (PyProof.noPylong_small (by omega)))
theorem za0:OpR X (binaryOp .Mod) (rI (fun _ j=>0<j) fun i j=> .int (i % j)):=opI fun i j _ _ _ _ _ hc q=>by
 have h1:(0:Int)<j:=hc
 exact mod_int' (by omega) (by rw [Int.fmod_eq_emod_of_nonneg i (by omega)];exact q)
theorem xq8:OpR X (binaryOp .RShift) (rI (fun _ j=>0<=j) fun i j=> .int (i/2^j.toNat)):=opI fun i j _ _ _ _ _ hc q=>
 rshift_int hc (by rw [Int.fdiv_eq_ediv_of_nonneg i (yh5 _)];exact q)
theorem yp3:OpR X (binaryOp .BitAnd) (rI0 fun i j=> .int (Builtin.bitAnd i j)):=yy7 fun _ _ _ _ _ _ _ q=>and_int q
theorem unI{f:Value->Sem Value}{g:Int->Int}
  (rule:∀(i:Int) (t:Tok) (s:Shared) (Q:Value->Shared->Prop) (E:Value->Shared->Prop),Q (.int (g i) s.toks) {s with toks:=s.toks+1}->wpAny (model X.prog X.w) X.A (f (.int i t)) Q E s):
  UnR X f (rU fun i=> .int (g i)):=by
 intro pins s σ H x v Q I rx h
 obtain⟨i,rfl,q⟩:=h
 obtain⟨t,rfl⟩:=rx
 exact rule i t s _ _ ⟨.int (g i),H,I.tok _,⟨_,rfl⟩,q⟩
theorem xq9:UnR X (unaryOp .USub) (rU fun i=> .int (-i)):=unI fun _ _ _ _ _ q=>neg_int q
end
def xy2:V->V->Bool
 | .non,.non=>true| .non,.int _=>true| .int _,.non=>true| .non,.bl _=>true| .bl _,.non=>true| .non,.str _=>true| .str _,.non=>true
 | .int _,.int _=>true| .bl _,.bl _=>true| .str _,.str _=>true| .byt _,.byt _=>true
 | .int _,.str _=>true| .str _,.int _=>true| .bl _,.str _=>true| .str _,.bl _=>true
 |_,_=>false
def rEq:R2:=fun x y H Q=>xy2 x y=true/\Q (.bl (decide (x=y))) H
def rNe:R2:=fun x y H Q=>xy2 x y=true/\Q (.bl (!decide (x=y))) H
theorem yb9{i j:Int}:decide (V.int i=V.int j)=(i==j):=by
 rw [Bool.eq_iff_iff]
 simp
theorem yp4{i j:Bool}:decide (V.bl i=V.bl j)=(i==j):=by
 rw [Bool.eq_iff_iff]
 simp
theorem yc0{i j:Str}:decide (V.str i=V.str j)=(i==j):=by
 rw [Bool.eq_iff_iff]
 simp
theorem yc1{i j:Array UInt8}:decide (V.byt i=V.byt j)=(i.toList==j.toList):=by
 rw [Bool.eq_iff_iff]
 cases i
 cases j
 simp
section
variable{X:Cx}{a b c:Expr}{ta tb tc:TE}{pos:Pos}
theorem dH{pins:tzB}{σ:St}{H:Hp}{s:Shared}{Q:VK}{k k':Bool}(I:Inv X pins σ H s)(q:Q (.bl k) H)(e:k=k'):EP X pins σ Q (.bool k') s:=by
 subst e
 exact⟨.bl k,H,I,rfl,q⟩
theorem yh6:OpR X (compareOp .Eq) rEq:=⟨by
 intro pins s σ H x y v u Q I rx ry h
 obtain⟨hs,q⟩:=h
 cases x with
 |non=>
  cases rx
  cases y with
  |non=>cases ry;exact PySem.EqNone.eq_none_none (dH I q (by simp))
  |bl j=>cases ry;exact PySem.EqNone.eq_none_bool (dH I q (by simp))
  |int j=>obtain⟨t',rfl⟩:=ry;exact PySem.EqNone.eq_none_int (dH I q (by simp))
  |str j=>obtain⟨t',rfl⟩:=ry;exact PySem.EqNone.eq_none_str (dH I q (by simp))
  |_=>exact absurd (show false=true from hs) Bool.false_ne_true
 |bl i=>
  cases rx
  cases y with
  |non=>cases ry;exact PySem.EqNone.eq_bool_none (dH I q (by simp))
  |bl j=>cases ry;exact eq_bool (dH I q yp4)
  |str j=>obtain⟨t',rfl⟩:=ry;exact PySem.EqMixed.eq_bool_str (dH I q (by simp))
  |_=>exact absurd (show false=true from hs) Bool.false_ne_true
 |int i=>
  obtain⟨t,rfl⟩:=rx
  cases y with
  |non=>cases ry;exact PySem.EqNone.eq_int_none (dH I q (by simp))
  |int j=>obtain⟨t',rfl⟩:=ry;exact eq_int (dH I q yb9)
  |str j=>obtain⟨t',rfl⟩:=ry;exact PySem.EqMixed.eq_int_str (dH I q (by simp))
  |_=>exact absurd (show false=true from hs) Bool.false_ne_true
 |str i=>
  obtain⟨t,rfl⟩:=rx
  cases y with
  |non=>cases ry;exact PySem.EqNone.eq_str_none (dH I q (by simp))
  |bl j=>cases ry;exact PySem.EqMixed.eq_str_bool (dH I q (by simp))
  |int j=>obtain⟨t',rfl⟩:=ry;exact PySem.EqMixed.eq_str_int (dH I q (by simp))
  |str j=>obtain⟨t',rfl⟩:=ry;exact eq_str (dH I q yc0)
  |_=>exact absurd (show false=true from hs) Bool.false_ne_true
 |byt i=>
  obtain⟨t,rfl⟩:=rx
  cases y with
  |byt j=>obtain⟨t',rfl⟩:=ry;exact PySem.W.eq_bytes (dH I q yc1)
  |_=>exact absurd (show false=true from hs) Bool.false_ne_true
 |_=>cases y<;>exact absurd (show false=true from hs) Bool.false_ne_true⟩
theorem xg8:OpR X (compareOp .NotEq) rNe:=⟨by
 intro pins s σ H x y v u Q I rx ry h
 obtain⟨hs,q⟩:=h
 cases x with
 |non=>
  cases rx
  cases y with
  |non=>cases ry;exact PySem.EqNone.ne_none_none (dH I q (by simp))
  |bl j=>cases ry;exact PySem.EqNone.ne_none_bool (dH I q (by simp))
  |int j=>obtain⟨t',rfl⟩:=ry;exact PySem.EqNone.ne_none_int (dH I q (by simp))
  |str j=>obtain⟨t',rfl⟩:=ry;exact PySem.EqNone.ne_none_str (dH I q (by simp))
  |_=>exact absurd (show false=true from hs) Bool.false_ne_true
 |bl i=>
  cases rx
  cases y with
  |non=>cases ry;exact PySem.EqNone.ne_bool_none (dH I q (by simp))
  |bl j=>cases ry;exact ne_bool (dH I q (congrArg not yp4))
  |str j=>obtain⟨t',rfl⟩:=ry;exact PySem.EqMixed.ne_bool_str (dH I q (by simp))
  |_=>exact absurd (show false=true from hs) Bool.false_ne_true
 |int i=>
  obtain⟨t,rfl⟩:=rx
  cases y with
  |non=>cases ry;exact PySem.EqNone.ne_int_none (dH I q (by simp))
  |int j=>obtain⟨t',rfl⟩:=ry;exact ne_int (dH I q (congrArg not yb9))
  |str j=>obtain⟨t',rfl⟩:=ry;exact PySem.EqMixed.ne_int_str (dH I q (by simp))
  |_=>exact absurd (show false=true from hs) Bool.false_ne_true
 |str i=>
  obtain⟨t,rfl⟩:=rx
  cases y with
  |non=>cases ry;exact PySem.EqNone.ne_str_none (dH I q (by simp))
  |bl j=>cases ry;exact PySem.EqMixed.ne_str_bool (dH I q (by simp))
  |int j=>obtain⟨t',rfl⟩:=ry;exact PySem.EqMixed.ne_str_int (dH I q (by simp))
  |str j=>obtain⟨t',rfl⟩:=ry;exact ne_str (dH I q (congrArg not yc0))
  |_=>exact absurd (show false=true from hs) Bool.false_ne_true
 |byt i=>
  obtain⟨t,rfl⟩:=rx
  cases y with
  |byt j=>obtain⟨t',rfl⟩:=ry;exact PySem.W.ne_bytes (dH I q (congrArg not yc1))
  |_=>exact absurd (show false=true from hs) Bool.false_ne_true
 |_=>cases y<;>exact absurd (show false=true from hs) Bool.false_ne_true⟩
theorem xz8:OpR X (compareOp .Lt) (rI0 fun i j=> .bl (decide (i<j))):=yh4 fun _ _ _ _ _ _ _ q=>lt_int q
theorem xz9:OpR X (compareOp .LtE) (rI0 fun i j=> .bl (decide (i<=j))):=yh4 fun _ _ _ _ _ _ _ q=>le_int q
theorem wa0:OpR X (compareOp .Gt) (rI0 fun i j=> .bl (decide (j<i))):=yh4 fun _ _ _ _ _ _ _ q=>gt_int q
theorem wa1:OpR X (compareOp .GtE) (rI0 fun i j=> .bl (decide (j<=i))):=yh4 fun _ _ _ _ _ _ _ q=>ge_int q
theorem yp5:OpR X (compareOp .Lt) (fun x y H Q=>∃i j,x= .str i/\y= .str j/\Q (.bl (decide (i.cps.toList<j.cps.toList))) H):=⟨by
 intro pins s σ H x y v u Q I rx ry h
 obtain⟨i,j,rfl,rfl,q⟩:=h
 obtain⟨t,rfl⟩:=rx
 obtain⟨t',rfl⟩:=ry
 exact lt_str (dH I q rfl)⟩
theorem xr0:OpR X (compareOp .Is) (fun x y H Q=>y= .non/\Q (.bl (decide (x= .non))) H):=⟨by
 intro pins s σ H x y v u Q I rx ry h
 obtain⟨rfl,q⟩:=h
 cases ry
 refine is_none_gen (dH I q ?_)
 cases x<;>first
  |(cases rx;rfl)
  |(obtain⟨t,rfl⟩:=rx;rfl)⟩
theorem bB(b:Expr){op:CmpOp}(h:op≠ .In:=by decide)(h2:op≠ .NotIn:=by decide):behindInMarks op b=false:=by
 have e1:(op==CmpOp.In)=false:=by cases op<;>first|rfl|exact absurd rfl h
 have e2:(op==CmpOp.NotIn)=false:=by cases op<;>first|rfl|exact absurd rfl h2
 cases b<;>simp [behindInMarks,e1,e2]
theorem xj8{op:CmpOp}{r:R2}(ho:OpR X (compareOp op) r)(ha:PE X a ta)(hb:PE X b tb)(hm:behindInMarks op b=false):PE X (.Compare a [op] [b] pos) (tOp r ta tb):=⟨by
 intro pins s σ H Q I h
 exact wpAny_Compare1 (yy6 ha hb I h fun v u s2 x y H2 I2 rx ry q=>ho pins s2 σ H2 x y v u Q I2 rx ry q) hm⟩
def xi1(t:TE):TT:=fun σ H Q=>t σ H fun x H'=>∃k,x= .bl k/\Q k H'
theorem yc2{op:CmpOp}{r:R2}(ho:OpR X (compareOp op) r)(ha:PE X a ta)(hb:PE X b tb)(hm:behindInMarks op b=false):PT X (.Compare a [op] [b] pos) (xi1 (tOp r ta tb)):=⟨by
 intro pins s σ H Q I h
 refine wpAny_isTrue_Compare1 (thn (ha pins s σ H _ I h) fun v s1 ⟨x,H1,I1,r1,q1⟩=>thn (hb pins s1 σ H1 _ I1 q1) fun u s2 ⟨y,H2,I2,r2,q2⟩=>
  thn (ho pins s2 σ H2 x y v u _ I2 r1 r2 q2) fun c s3 ⟨z,H3,I3,r3,k,e,q3⟩=> ?_) hm
 subst e
 cases r3
 exact wpAny_truthy_bool ⟨H3,I3,q3⟩⟩
def zy2(r r':R2)(ta tb tc:TE):TE:=fun σ H Q=>ta σ H fun x H1=>tb σ H1 fun y H2=>r x y H2 fun z H3=>∃k,z= .bl k/\
 (if k=true then tc σ H3 fun w' H4=>r' y w' H4 Q else Q (.bl false) H3)
theorem yy8{op op':CmpOp}{r r':R2}(ho:OpR X (compareOp op) r)(ho':OpR X (compareOp op') r')(ha:PE X a ta)(hb:PE X b tb)(hc:PE X c tc)
  (hm:lastMarks [op,op'] [b,c]=false:=by with_unfolding_all rfl):PE X (.Compare a [op,op'] [b,c] pos) (zy2 r r' ta tb tc):=⟨by
 intro pins s σ H Q I h
 refine Compare_chain (thn (ha pins s σ H _ I h) fun v s1 ⟨x,H1,I1,r1,q1⟩=>chain_link (thn (hb pins s1 σ H1 _ I1 q1) fun u s2 ⟨y,H2,I2,r2,q2⟩=>
  thn (ho pins s2 σ H2 x y v u _ I2 r1 r2 q2) fun d s3 ⟨z,H3,I3,r3,k,e,q3⟩=> ?_)) hm
 subst e
 cases r3
 refine wpAny_truthy_bool ?_
 cases k with
 |false=>exact ite_ff ⟨.bl false,H3,I3,rfl,q3⟩
 |true=>exact ite_tt (chain_last (thn (hc pins s3 σ H3 _ I3 q3) fun w' s4 ⟨z',H4,I4,r4,q4⟩=>ho' pins s4 σ H4 y z' u w' Q I4 r2 r4 q4))⟩
theorem yy9{op op':CmpOp}{r r':R2}(ho:OpR X (compareOp op) r)(ho':OpR X (compareOp op') r')(ha:PE X a ta)(hb:PE X b tb)(hc:PE X c tc)
  (hm:lastMarks [op,op'] [b,c]=false:=by with_unfolding_all rfl):PT X (.Compare a [op,op'] [b,c] pos) (xi1 (zy2 r r' ta tb tc)):=⟨by
 intro pins s σ H Q I h
 refine isTrue_chain (thn (ha pins s σ H _ I h) fun v s1 ⟨x,H1,I1,r1,q1⟩=>test_link (thn (hb pins s1 σ H1 _ I1 q1) fun u s2 ⟨y,H2,I2,r2,q2⟩=>
  thn (ho pins s2 σ H2 x y v u _ I2 r1 r2 q2) fun d s3 ⟨z,H3,I3,r3,k,e,q3⟩=> ?_)) hm
 subst e
 cases r3
 refine wpAny_truthy_bool ?_
 cases k with
 |false=>
  obtain⟨k',e',q'⟩:=q3
  cases e'
  exact ite_ff ⟨H3,I3,q'⟩
 |true=>
  refine ite_tt (test_last (thn (hc pins s3 σ H3 _ I3 q3) fun w' s4 ⟨z',H4,I4,r4,q4⟩=>thn (ho' pins s4 σ H4 y z' u w' _ I4 r2 r4 q4) fun d' s5 ⟨z2,H5,I5,r5,k2,e2,q5⟩=> ?_))
  subst e2
  cases r5
  exact wpAny_truthy_bool ⟨H5,I5,q5⟩⟩
def xf3(K:tz0)(x:V)(H:Hp)(k:Bool):Prop:=
 match x with
 | .non=>k=false
 | .bl b=>k=b
 | .int i=>k=(i !=0)
 | .str y=>y.length<=sizeLine/\k=((y.length:Int) !=0)
 | .byt y=>y.size<=sizeLine/\k=((y.size:Int) !=0)
 | .ref p=>(∃xs,SqL K H p xs/\k= !xs.isEmpty)\/(∃xs,SqT K H p xs/\k= !xs.isEmpty)\/∃kvs,H p=some (.dK kvs)/\k= !kvs.isEmpty
 |_=>False
theorem yh7{κ:Type}{kvs:List (κ×V)}{vs:List (κ×Value)}(r:KV kvs vs):(!vs.isEmpty)= !kvs.isEmpty:=by
 cases r<;>rfl
theorem za1{xs:List V}{its:List Value}(r:bN xs its):(!its.toArray.isEmpty)= !xs.isEmpty:=by
 cases r<;>simp
theorem rC:(sizeLine:Nat)<2^63:=by rw [sizeLine_eq];decide
theorem xr1:wf6 X (fun x H Q=>∃k,xf3 X.K x H k/\Q k H):=by
 intro pins s σ H x v Q I rx h
 obtain⟨k,e,q⟩:=h
 have hl:=rC
 have hs:sizeLine=16777216:=sizeLine_eq
 cases x with
 |non=>
  cases rx
  have e':k=false:=e
  subst e'
  exact truthy_none ⟨H,I,q⟩
 |bl b=>
  cases rx
  have e':k=b:=e
  subst e'
  exact wpAny_truthy_bool ⟨H,I,q⟩
 |int i=>
  obtain⟨t,rfl⟩:=rx
  have e':k=(i !=0):=e
  subst e'
  exact PySem.P.truthy_int ⟨H,I,q⟩
 |str y=>
  obtain⟨t,rfl⟩:=rx
  obtain⟨hy,e'⟩:y.length<=sizeLine/\k=((y.length:Int) !=0):=e
  subst e'
  exact PySem.P.truthy_str (by omega) ⟨H,I.tok _,q⟩
 |byt y=>
  obtain⟨t,rfl⟩:=rx
  obtain⟨hy,e'⟩:y.size<=sizeLine/\k=((y.size:Int) !=0):=e
  subst e'
  exact PySem.W.truthy_bytes (by omega) ⟨H,I.tok _,q⟩
 | ref p=>
  cases rx
  have e':(∃xs,SqL X.K H p xs/\k= !xs.isEmpty)\/(∃xs,SqT X.K H p xs/\k= !xs.isEmpty)\/∃kvs,H p=some (.dK kvs)/\k= !kvs.isEmpty:=e
  rcases e' with ⟨xs,hx,e'⟩|⟨xs,hx,e'⟩|⟨kvs,hx,e'⟩
  ·subst e'
   obtain⟨its,r,pl,hz⟩:=I.list hx
   have hlen:=r.length
   exact wpAny_truthy_list pl.isList (by simp only [List.size_toArray];omega) ⟨H,I.tok _,by rw [za1 r];exact q⟩
  ·subst e'
   obtain⟨its,r,pl,hz⟩:=I.tuple hx
   have hlen:=r.length
   exact truthy_tuple pl (by simp only [List.size_toArray];omega) ⟨H,I.tok _,by rw [za1 r];exact q⟩
  ·subst e'
   obtain⟨hz,hS,vs,r,m⟩:kvs.length<=sizeLine/\(p==sysModules)=false/\∃vs,KV kvs vs/\s.heap.DictOf (fA X.prog X.w) p vs:=I.hok p _ hx
   have hlen:kvs.length=vs.length:=Paired.length r
   exact wpAny_truthy_dict hS m (by omega) ⟨H,I.tok _,by rw [yh7 r];exact q⟩
 |_=>exact(show False from e).elim
theorem yz0(ha:PE X a ta)(he:∀whole,isTrue a X.env whole=(do let v<-whole;standAt a.pos;holding [v] (truthy v))):
  PT X a (fun σ H Q=>ta σ H fun x H'=>∃k,xf3 X.K x H' k/\Q k H'):=⟨by
 intro pins s σ H Q I h
 exact isTrue_plain (thn (ha pins s σ H _ I h) fun v s1 ⟨x,H1,I1,r1,q1⟩=>xr1 pins s1 σ H1 x v Q I1 r1 q1) (he _)⟩
theorem yh8:OpR X (binaryOp .Add) (fun x y H Q=>∃i j,x= .str i/\y= .str j/\i.length+j.length<=sizeLine/\Q (.str (i++j)) H):=⟨by
 intro pins s σ H x y v u Q I rx ry h
 obtain⟨i,j,rfl,rfl,hz,q⟩:=h
 obtain⟨t,rfl⟩:=rx
 obtain⟨t',rfl⟩:=ry
 exact add_str (fun t' tk=>⟨.str (i++j),H,I.tok _,⟨_,rfl⟩,q⟩) hz⟩
theorem nX{x:V}{us:List Value}(r:bN [x] us):∃u,us=[u]/\cM x u:=by
 cases r with
 |cons r1 r2=>cases r2;exact⟨_,rfl,r1⟩
theorem zo2{x y:V}{us:List Value}(r:bN [x,y] us):∃u w',us=[u,w']/\cM x u/\cM y w':=by
 cases r with
 |cons r1 r2=>
  cases r2 with
  |cons r3 r4=>cases r4;exact⟨_,_,rfl,r1,r3⟩
theorem zi7(hc:X.calm=true):CallR X (.builtin "max") (fun xs H Q=>∃i j,xs=[.int i,.int j]/\Q (.int (if j>i then j else i)) H):=⟨by
 intro pins s σ H xs us Q I r h
 obtain⟨i,j,rfl,q⟩:=h
 obtain⟨u,w',rfl,⟨t,rfl⟩,⟨t',rfl⟩⟩:=zo2 r
 refine max_two_ints (I.ok.hd hc) fun h' tk k=>⟨_,H,I.kept k,?_,q⟩
 by_cases hj:j>i
 ·rw [if_pos hj,if_pos hj];exact⟨_,rfl⟩
 ·rw [if_neg hj,if_neg hj];exact⟨_,rfl⟩⟩
theorem yp6(hc:X.calm=true):CallR X (.builtin "min") (fun xs H Q=>∃i j,xs=[.int i,.int j]/\Q (.int (if j<i then j else i)) H):=⟨by
 intro pins s σ H xs us Q I r h
 obtain⟨i,j,rfl,q⟩:=h
 obtain⟨u,w',rfl,⟨t,rfl⟩,⟨t',rfl⟩⟩:=zo2 r
 refine min_two_ints (I.ok.hd hc) fun h' tk k=>⟨_,H,I.kept k,?_,q⟩
 by_cases hj:j<i
 ·rw [if_pos hj,if_pos hj];exact⟨_,rfl⟩
 ·rw [if_neg hj,if_neg hj];exact⟨_,rfl⟩⟩
theorem zi8:CallR X (.type "int") (fun xs H Q=>(∃i,xs=[.int i]/\Q (.int i) H)\/∃k,xs=[.bl k]/\Q (.int (if k then 1 else 0)) H):=⟨by
 intro pins s σ H xs us Q I r h
 rcases h with ⟨i,rfl,q⟩|⟨k,rfl,q⟩
 ·obtain⟨u,rfl,t,rfl⟩:=nX r
  exact call_int_int ⟨.int i,H,I,⟨_,rfl⟩,q⟩
 ·obtain⟨u,rfl,r1⟩:=nX r
  cases r1
  exact call_int_bool ⟨.int (if k then 1 else 0),H,I.tok _,⟨_,rfl⟩,q⟩⟩
theorem zq0:CallR X (.type "str") (fun xs H Q=>∃i,xs=[.int i]/\i.natAbs.log2<1920/\Q (.str (toString i)) H):=⟨by
 intro pins s σ H xs us Q I r h
 obtain⟨i,rfl,hz,q⟩:=h
 obtain⟨u,rfl,t,rfl⟩:=nX r
 exact PySem.P.str_of_int hz ⟨.str _,H,I.tok _,⟨_,rfl⟩,q⟩⟩
end
structure ObjM(h:Heap)(x dx C:Addr)(mA:tzA):Prop where
 obj:h.get? x=some (PySem.W.instObj C dx)
 ns:h.Ns1 dx mA
 ne:dx≠x
theorem yp7{h:Heap}{dx:Addr}{mA:tzA}(n:h.Ns1 dx mA):∃od,h.get? dx=some od/\∀name,PySem.W.lookIn name od=some (mA name):=by
 obtain⟨o,es,ep,ho,hd,hk,_,hm⟩:=n
 refine⟨o,ho,fun name=> ?_⟩
 have e:=hm name
 unfold nsFind findBy at e
 rw [<-Array.find?_toList] at e
 unfold PySem.W.lookIn
 rw [hd]
 dsimp only
 split
 ·rename_i y q
  rw [q] at e
  exact congrArg some e
 ·rename_i q
  rw [q] at e
  have a:es.toList.any (·.refKey)=false:=by
   rw [List.any_eq_false]
   intro y hy
   obtain⟨z,t,hkey⟩:=hk y (Array.mem_toList_iff.mp hy)
   simp [DictEntry.refKey,hkey]
  have a':¬es.toList.any (·.refKey)=true:=by rw [a];exact Bool.false_ne_true
  rw [if_neg a']
  exact congrArg some e
theorem ObjM.look{h:Heap}{x dx C:Addr}{mA:tzA}(I:ObjM h x dx C mA):∃od,PySem.W.InstAt h x (PySem.W.instObj C dx) C (some od)/\∀name,PySem.W.lookIn name od=some (mA name):=
 let ⟨od,ho,hl⟩:=yp7 I.ns
 ⟨od,⟨I.obj,rfl,rfl,ho⟩,hl⟩
section
variable{prog:Program}{w:World}{A:Around}{E:Value->Shared->Prop}{s:Shared}{K:tz0}{x dx C f:Addr}{mA:tzA}{name:Str}{v:Value}
theorem yc3{expr:Bool}{Q:Value->Shared->Prop}(X:K.In s.heap)(I:ObjM s.heap x dx C mA)(hg:PySem.W.plainGet K C name=true)(hh:PySem.W.hasDictIn K C=true)
  (ha:PySem.W.findIn K (.ref C) name=some none) (hv:mA name=some v) (hv':PySem.W.handedIn v=true) (h:Q v {s with toks:=s.toks+1}):
  wpAny (model prog w) A (getAttr (.ref x) name expr) Q E s:=by
 obtain⟨od,J,hl⟩:=I.look
 exact PySem.W.get_value X J (PySem.W.plainGet_of hg).1 (PySem.W.findObj_own hh ha rfl (by rw [hl,hv])) hv' h
theorem yz1{pl:Sem Bool}{Q:Value×List Value->Shared->Prop}(X:K.In s.heap)(I:ObjM s.heap x dx C mA)(hg:PySem.W.plainGet K C name=true)
  (hf:PySem.W.findIn K (.ref C) name=some (some (.ref f))) (ht:PySem.W.isFn K (.ref f)=true) (hv:mA name=none) (h:Q (.ref f,[.ref x]) s):
  wpAny (model prog w) A (getMethod (.ref x) name pl) Q E s:=by
 obtain⟨od,J,hl⟩:=I.look
 exact PySem.W.method_fn X J (PySem.W.plainGet_of hg).1 (PySem.W.plainGet_of hg).2 hf (beq_iff_eq.mp ht) (by show(PySem.W.lookIn name od).map (·.isSome)=some false;rw [hl,hv];rfl) h
theorem xj9{ns:List Str}{Q:Unit->Shared->Prop}(X:K.In s.heap)(I:ObjM s.heap x dx C mA)
  (hs:PySem.W.findIn K (.ref C) "__setattr__"=some (some (.builtin "object.__setattr__"))) (hp:PySem.W.plainOver K C=true) (ht:PySem.W.takerIn K C name=some none) (hh:PySem.W.hasDictIn K C=true)
  (hw:PySem.Within mA ns) (hsz:ns.length<=sizeLine)
  (h:∀h',ObjM h' x dx C (fun y=>if y=name then some v else mA y)->Heap.SameBut dx s.heap h'->Q () {s with heap:=h',toks:=s.toks+2}):
  wpAny (model prog w) A (setAttr (.ref x) name v) Q E s:=by
 obtain⟨od,J,hl⟩:=I.look
 refine PySem.W.set_plain X J hs (PySem.W.osa_open (s:={s with toks:=s.toks+1}) (r:=none) X J hp ht fun b=> ?_)
 obtain⟨cd,hc,hd'⟩:=PySem.W.any_some hh
 have hx:s.heap.get? x=some ⟨.ref C,some dx,.plain,#[]⟩:=I.obj
 refine wpAny_bind (wpAny_pure (wpAny_bind (wpAny_bind (wpAny_loadPart hx (wpAny_bind (PySem.W.Looks.here (s:={s with toks:=s.toks+1}) (PySem.W.looks_clsIn X hc) ?_))))))
 rw [hd']
 refine wpAny_pure (a:=some dx) (wpAny_bind (wpAny_pure (wpAny_bind ?_)))
 refine wpAny_nsSet1 (s:={s with toks:=s.toks+1}) I.ns fun h' hn2 hs2=> ?_
 obtain⟨oD,esD,epD,hoD,hdD,hcD⟩:=hn2.count (PySem.Within.cons name v hw)
 refine wpAny_bind (wpAny_lookBehind hoD (by rw [hdD];exact pastItsLine_dict (Nat.le_trans hcD (by rw [List.length_cons];omega))) ?_)
 exact wpAny_pure (h _ ⟨(hs2.2 _ (Ne.symm I.ne)).trans I.obj,hn2,I.ne⟩ hs2)
theorem yz2{R:Result->Shared->Prop}{vs:List Value}{kw:List (Str×Value)}(X:K.In s.heap)(hm:PySem.W.makesIn K C=true)
  (hi:PySem.W.findIn K (.ref C) "__init__"=some (some (.ref f))) (hf:PySem.W.typeIn K (.ref f)=some (.type "function"))
  (h:codeAny (model prog w) (A.under (.builtin "type.__call__" ⟨.ref C::vs,kw⟩)) (.call (.ref f) ⟨.ref (s.heap.objs.size+1)::vs,kw⟩) (PySem.W.InitBack (s.heap.objs.size+1) R)
   {s with heap:=(s.heap.push PySem.W.emptyDict).push (PySem.W.instObj C s.heap.objs.size)}):
  codeAny (model prog w) A (.call (.ref C) ⟨vs,kw⟩) R s:=by
 obtain⟨hh,g,d,t,os⟩:=s
 exact PySem.W.make_core (PySem.W.makes_of X hm) (PySem.W.looks_findIn X hi) (fun self=>PySem.W.bind_fn X self hf) (.inl rfl) h
end
def gS(f:Str)(v:V):List (Str×V)->List (Str×V)
 |[]=>[(f,v)]
 |(g,x)::r=>if g=f then(g,v)::r else(g,x)::gS f v r
theorem yT(f g:Str)(v:V):∀fs:List (Str×V),(gS f v fs).lookup g=if g=f then some v else fs.lookup g
 | []=>by
  show List.lookup g [(f,v)]=_
  by_cases h:g=f
  ·have hb:(g==f)=true:=beq_iff_eq.mpr h
   simp only [List.lookup,hb,if_pos h]
  ·have hb:(g==f)=false:=beq_eq_false_iff_ne.mpr h
   simp only [List.lookup,hb,if_neg h]
 | (k,x)::r=>by
  have ih:=yT f g v r
  rw [show gS f v ((k,x)::r)=(if k=f then(k,v)::r else(k,x)::gS f v r) from rfl]
  by_cases hk:k=f
  ·rw [if_pos hk]
   by_cases h:g=k
   ·have hb:(g==k)=true:=beq_iff_eq.mpr h
    simp only [List.lookup,hb,if_pos (h.trans hk)]
   ·have hb:(g==k)=false:=beq_eq_false_iff_ne.mpr h
    simp only [List.lookup,hb,if_neg (fun e:g=f=>h (e.trans hk.symm))]
  ·rw [if_neg hk]
   by_cases h:g=k
   ·have hb:(g==k)=true:=beq_iff_eq.mpr h
    simp only [List.lookup,hb,if_neg (fun e:g=f=>hk (h.symm.trans e))]
   ·have hb:(g==k)=false:=beq_eq_false_iff_ne.mpr h
    simp only [List.lookup,hb]
    exact ih
theorem wO(f:Str)(v:V):∀fs:List (Str×V),f∈(gS f v fs).map (·.1)/\∀g,g∈fs.map (·.1)->g∈(gS f v fs).map (·.1)
 |[]=>⟨by simp [gS],fun g h=>by simp at h⟩
 | (k,x)::r=>by
  obtain⟨i1,i2⟩:=wO f v r
  rw [show gS f v ((k,x)::r)=(if k=f then(k,v)::r else(k,x)::gS f v r) from rfl]
  by_cases hk:k=f
  ·rw [if_pos hk]
   subst hk
   exact⟨by simp,fun g h=>by simpa using h⟩
  ·rw [if_neg hk]
   refine⟨?_,fun g h=> ?_⟩
   ·rw [List.map_cons]
    exact List.mem_cons_of_mem _ i1
   ·rw [List.map_cons] at h|-
    rcases List.mem_cons.mp h with e|e
    ·exact List.mem_cons.mpr (.inl e)
    ·exact List.mem_cons_of_mem _ (i2 g e)
theorem yU(f:Str)(v:V):∀fs:List (Str×V),(gS f v fs).length<=fs.length+1
 |[]=>by simp [gS]
 |(k,x)::r=>by
  have ih:=yU f v r
  rw [show gS f v ((k,x)::r)=(if k=f then(k,v)::r else(k,x)::gS f v r) from rfl]
  by_cases hk:k=f
  ·rw [if_pos hk,List.length_cons,List.length_cons];omega
  ·rw [if_neg hk,List.length_cons,List.length_cons];omega
theorem jC.some_of{v:V}{o:Option Value}(r:jC (some v) o):∃u,o=some u/\cM v u:=by
 cases o with
 |none=>exact(show False from r).elim
 |some u=>exact⟨u,rfl,r⟩
theorem jC.none_of{o:Option Value}(r:jC none o):o=none:=by
 cases o with
 |none=>rfl
 |some u=>exact(show False from r).elim
theorem wP{v:V}{u:Value}(r:cM v u):PySem.W.handedIn u=true:=by
 cases v with
 |non=>cases(show u=Value.none from r);rfl
 |bl b=>cases(show u=Value.bool b from r);rfl
 |int i=>obtain⟨t,e⟩:=(show ∃t,u=Value.int i t from r);cases e;rfl
 |str x=>obtain⟨t,e⟩:=(show ∃t,u=Value.str x t from r);cases e;rfl
 |byt b=>obtain⟨t,e⟩:=(show ∃t,u=Value.bytes b t from r);cases e;rfl
 |flt b=>obtain⟨t,e⟩:=(show ∃t,u=Value.float b t from r);cases e;rfl
 |ref a=>cases(show u=Value.ref a from r);rfl
 |ty n=>cases(show u=Value.type n from r);rfl
section
variable{P:Program}{w:World}{H H':Hp}{h h':Heap}{a C dx:Addr}{fs fs':List (Str×V)}
theorem xT(hok:HOk P w H h)(e:H a=some (.ins C dx fs)):∃mA,ObjM h a dx C mA/\(∀f,jC (fs.lookup f) (mA f))/\PySem.Within mA (fs.map (·.1))/\fs.length<=1000/\H dx=some (.own a):=by
 obtain⟨d,z,ne,ob,mA,n,r,q⟩:=(show dU P w H h a (.ins C dx fs) from hok a _ e)
 exact⟨mA,⟨ob,n,ne⟩,r,q,z,d⟩
end
structure Cls(K:tz0)(C:Addr):Prop where
 pg:PySem.W.plainGet K C Str.empty=true
 hd:PySem.W.hasDictIn K C=true
 po:PySem.W.plainOver K C=true
 sa:PySem.W.findIn K (.ref C) "__setattr__"=some (some (.builtin "object.__setattr__"))
theorem Cls.get{K:tz0}{C:Addr}(c:Cls K C)(f:Str):PySem.W.plainGet K C f=true:=c.pg
def cY(K:tz0)(C:Addr)(f:Str):Prop:=PySem.W.findIn K (.ref C) f=some none
theorem cY.taker{K:tz0}{C:Addr}{f:Str}(n:cY K C f):PySem.W.takerIn K C f=some none:=by
 unfold PySem.W.takerIn
 rw [show PySem.W.findIn K (.ref C) f=some none from n]
 rfl
structure Con(K:tz0)(C:Addr)(f:Str)(v:V)(u:Value):Prop where
 at_:PySem.W.findIn K (.ref C) f=some (some u)
 rel:cM v u
 get:PySem.W.specialIn K u "__get__"=some none
 cp:PySem.W.copiedNames.contains f=false
structure Meth(K:tz0)(C:Addr)(m:Str)(f:Addr):Prop where
 at_:PySem.W.findIn K (.ref C) m=some (some (.ref f))
 fn:PySem.W.isFn K (.ref f)=true
 kp:PySem.W.keepIn K (.ref f)=true
section
variable{X:Cx}{pins:tzB}{σ:St}{H:Hp}{s:Shared}{a C dx:Addr}{fs:List (Str×V)}{f:Str}{v:V}{A:Around}{E:Value->Shared->Prop}
theorem yh9{b:Bool}{Q:Value->Shared->Prop}(I:Inv X pins σ H s)(e:H a=some (.ins C dx fs))(c:Cls X.K C)(n:cY X.K C f)(l:fs.lookup f=some v)
  (h:∀u s',Inv X pins σ H s'->cM v u->Q u s'):wpAny (model X.prog X.w) A (getAttr (.ref a) f b) Q E s:=by
 obtain⟨mA,O,r,_,_,_⟩:=xT I.hok e
 obtain⟨u,hu,ru⟩:=jC.some_of (v:=v) (o:=mA f) (by rw [<-l];exact r f)
 exact yc3 I.kIn O (c.get f) c.hd n hu (wP ru) (h u _ (I.tok _) ru)
theorem za2{m:Str}{g:Addr}{pl:Sem Bool}{Q:Value×List Value->Shared->Prop}(I:Inv X pins σ H s)(e:H a=some (.ins C dx fs))(c:Cls X.K C)(k:Meth X.K C m g)(l:fs.lookup m=none)
  (h:Q (.ref g,[.ref a]) s):wpAny (model X.prog X.w) A (getMethod (.ref a) m pl) Q E s:=by
 obtain⟨mA,O,r,_,_,_⟩:=xT I.hok e
 have hn:mA m=none:=jC.none_of (by rw [<-l];exact r m)
 exact yz1 I.kIn O (c.get m) k.at_ k.fn hn h
theorem yi0{y:V}{u:Value}{Q:Unit->Shared->Prop}(I:Inv X pins σ H s)(e:H a=some (.ins C dx fs))(c:Cls X.K C)(n:cY X.K C f)(hl:fs.length<1000)(ry:cM y u)
  (h:∀s',Inv X pins σ (upd H a (.ins C dx (gS f y fs))) s'->Q () s'):wpAny (model X.prog X.w) A (setAttr (.ref a) f u) Q E s:=by
 obtain⟨mA,O,r,wi,_,ho⟩:=xT I.hok e
 have hz:(fs.map (·.1)).length<=sizeLine:=by rw [List.length_map,sizeLine_eq];omega
 refine xj9 I.kIn O c.sa c.po n.taker c.hd wi hz fun h' O' sb=>h _ ?_
 have hd:∃o,h'.get? dx=some o:=let ⟨o,_,_,e',_⟩:=O'.ns;⟨o,e'⟩
 refine I.write (x:=a) (e:=dx) (by rw [e];exact True.intro) (.inr ho) (fun b q hb z=>(sb.2 b hb).trans z) hd ?_
 refine⟨by rw [cI O.ne];exact ho,?_,O.ne,O'.obj,_,O'.ns,fun g=> ?_,fun g hg=> ?_⟩
 ·have:=yU f y fs;omega
 ·show jC ((gS f y fs).lookup g) (if g=f then some u else mA g)
  rw [yT]
  by_cases q:g=f
  ·rw [if_pos q,if_pos q];exact ry
  ·rw [if_neg q,if_neg q];exact r g
 ·by_cases q:g=f
  ·rw [q];exact(wO f y fs).1
  ·refine(wO f y fs).2 g (wi g fun z=>hg ?_)
   show(if g=f then some u else mA g)=none
   rw [if_neg q];exact z
theorem Inv.made(I:Inv X pins σ H s):Inv X pins σ (upd (upd H s.heap.objs.size (.own (s.heap.objs.size+1))) (s.heap.objs.size+1) (.ins C s.heap.objs.size []))
  {s with heap:=(s.heap.push PySem.W.emptyDict).push (PySem.W.instObj C s.heap.objs.size)}:=by
 have e1:(s.heap.push PySem.W.emptyDict).get? s.heap.objs.size=some PySem.W.emptyDict:=Heap.get?_push_size s.heap rfl
 have e2:((s.heap.push PySem.W.emptyDict).push (PySem.W.instObj C s.heap.objs.size)).get? (s.heap.objs.size+1)=some (PySem.W.instObj C s.heap.objs.size):=by
  have:=Heap.get?_push_size (s.heap.push PySem.W.emptyDict) (o:=PySem.W.instObj C s.heap.objs.size) rfl
  rwa [Heap.size_push] at this
 have e3:(s.heap.push PySem.W.emptyDict).Ns s.heap.objs.size (fun _=>none):=⟨PySem.W.emptyDict,#[],_,e1,rfl,(fun e he=>absurd he (by simp)),fun _=>rfl⟩
 have I1:=I.laid (a:=s.heap.objs.size) (o:= .own (s.heap.objs.size+1)) (h':=s.heap.push PySem.W.emptyDict) (t':=s.toks) (fun b u q=>Heap.get?_push_of_some _ q) (Nat.le_refl _) ⟨_,e1⟩
 refine I1.laid (a:=s.heap.objs.size+1) (o:= .ins C s.heap.objs.size []) (t':=s.toks) (fun b u q=>Heap.get?_push_of_some _ q) (Nat.le_of_eq (Heap.size_push _ _)) ?_
 have ne:s.heap.objs.size≠s.heap.objs.size+1:=Nat.ne_of_lt (Nat.lt_succ_self _)
 refine⟨by rw [cI ne,dA],Nat.zero_le _,ne,e2,fun _=>none,(Heap.Ns1.of_empty e3).at fun o q=>Heap.get?_push_of_some _ q,fun _=>True.intro,fun y hy=>absurd rfl hy⟩
theorem yc4{prog:Program}{w:World}{env:Env}{e:Expr}{f:Str}{pos:Pos}{s:Shared}{Q:Value->Shared->Prop}(hb:attributeBase e f env (eval e env)=eval e env)
  (h:wpAny (model prog w) A (eval e env) (fun o s₁=>wpAny (model prog w) A (getAttr o f true) Q E s₁) E s):wpAny (model prog w) A (eval (.Attribute e f pos) env) Q E s:=
 Attribute_any_ h (by rw [arm_eval_Attribute,hb])
end
def wf8(K:tz0)(ta:TE)(f:Str):TE:=fun σ H Q=>ta σ H fun x H1=>∃a C dx fs v,x= .ref a/\H1 a=some (.ins C dx fs)/\Cls K C/\cY K C f/\fs.lookup f=some v/\Q v H1
def wf9(K:tz0)(ta tv:TE)(f:Str):TS:=fun D σ H=>tv σ H fun y H1=>ta σ H1 fun x H2=>∃a C dx fs,x= .ref a/\H2 a=some (.ins C dx fs)/\Cls K C/\cY K C f/\fs.length<1000/\
 D.nx σ (upd H2 a (.ins C dx (gS f y fs)))
section
variable{X:Cx}{o e value:Expr}{f:Str}{pos pos' tpos:Pos}{ta tv:TE}
theorem xr2(he:PE X e ta)(hb:attributeBase e f X.env (eval e X.env)=eval e X.env):PE X (.Attribute e f pos) (wf8 X.K ta f):=⟨by
 intro pins s σ H Q I h
 refine yc4 hb (thn (he pins s σ H _ I h) fun u s1 ⟨x,H1,I1,rx,a,C,dx,fs,v,ex,ea,c,n,l,q⟩=> ?_)
 subst ex
 obtain rfl:u=Value.ref a:=rx
 exact yh9 I1 ea c n l fun u' s2 I2 ru=>⟨v,H1,I2,ru,q⟩⟩
theorem xr3(ha:PE X o ta)(hv:PE X value tv)(hs:swapsWith value (some (.Attribute o f pos')) pos.line X.env=pure false):PS X (.Assign [.Attribute o f pos'] value pos) (wf9 X.K ta tv f):=⟨by
 intro pins s σ H D I h
 refine plainObj_wpAny_Assign_Attribute (thn (hv pins s σ H _ I h) fun u s1 ⟨y,H1,I1,ry,q⟩=>thn (ha pins s1 σ H1 _ I1 q) fun ov s2 ⟨x,H2,I2,rx,a,C,dx,fs,ex,ea,c,n,l,q2⟩=> ?_) hs
 subst ex
 obtain rfl:ov=Value.ref a:=rx
 exact yi0 I2 ea c n l ry fun s3 I3=>⟨σ,_,I3,q2⟩⟩
end
section
variable{X:Cx}{pins:tzB}{σ:St}{H:Hp}{s:Shared}{A:Around}{E:Value->Shared->Prop}{Q:Value->Shared->Prop}{c:Value}{b:Bool}
inductive TyOf(K:tz0)(H:Hp):V->Value->Prop where
 |non:TyOf K H .non (.type "NoneType")
 |bl (x:Bool):TyOf K H (.bl x) (.type "bool")
 |int (i:Int):TyOf K H (.int i) (.type "int")
 |str (x:Str):TyOf K H (.str x) (.type "str")
 |flt (x:UInt64):TyOf K H (.flt x) (.type "float")
 |lst {a:Addr} {xs:List V} (e:H a=some (.lst xs)):TyOf K H (.ref a) (.type "list")
 |frz {a:Addr} {o:Obj} {xs:List V} (e:H a=some (.frz o (.lst xs))):TyOf K H (.ref a) (.type "list")
 |tup {a:Addr} {xs:List V} (e:H a=some (.tup xs)):TyOf K H (.ref a) (.type "tuple")
 |dK {a:Addr} {kvs:List (Key×V)} (e:H a=some (.dK kvs)):TyOf K H (.ref a) (.type "dict")
 |dT {a:Addr} {kvs:List (List Key×V)} (e:H a=some (.dT kvs)):TyOf K H (.ref a) (.type "dict")
 | ins {a C dx:Addr} {fs:List (Str×V)} (e:H a=some (.ins C dx fs)) (cl:Cls K C) (ha:PySem.W.findIn K (.ref C) "__class__"=some (some (.builtin "object.__class__")))
   (hn:PySem.W.specialIn K (.builtin "object.__class__") "__get__"=some (some (.builtin "getset_descriptor.__get__"))) (htk:PySem.W.takesIn K (.builtin "object.__class__")=some true)
   (hm:PySem.W.mroIn K C (.type "object")=some true):TyOf K H (.ref a) (.ref C)
theorem yp8{x:V}{u t:Value}(I:Inv X pins σ H s)(rx:cM x u)(ty:TyOf X.K H x t)(e:PySem.W.kitOne X.K t c=some b)(h:∀tk,Q (.bool b) {s with toks:=tk}):
  wpAny (model X.prog X.w) A (call (.builtin "isinstance") [u,c]) Q E s:=by
 cases ty with
 |non=>cases(show u=Value.none from rx);exact PySem.W.kia_one PySem.W.kitx_none I.kIn True.intro e (fun z=>nomatch z) h
 |bl y=>cases(show u=Value.bool y from rx);exact PySem.W.kia_one PySem.W.kitx_bool I.kIn True.intro e (fun z=>nomatch z) h
 |int i=>obtain⟨t,q⟩:=(show ∃t,u=Value.int i t from rx);cases q;exact PySem.W.kia_one PySem.W.kitx_int I.kIn True.intro e (fun z=>nomatch z) h
 |str y=>obtain⟨t,q⟩:=(show ∃t,u=Value.str y t from rx);cases q;exact PySem.W.kia_one PySem.W.kitx_str I.kIn True.intro e (fun z=>nomatch z) h
 |flt y=>obtain⟨t,q⟩:=(show ∃t,u=Value.float y t from rx);cases q;exact PySem.W.kia_one PySem.W.kitx_float I.kIn True.intro e (fun z=>nomatch z) h
 | @lst a xs ea=>
  cases(show u=Value.ref a from rx)
  obtain⟨_,_,n,_,h1⟩:=(show dU X.prog X.w H s.heap a (.lst xs) from I.hok a _ ea)
  exact PySem.W.kia_one PySem.W.kitx_list I.kIn ⟨_,h1,rfl⟩ e (fun z=>nomatch z) h
 | @frz a ob xs ea=>
  cases(show u=Value.ref a from rx)
  obtain⟨_,_,_,n,_,h1⟩:=(show dU X.prog X.w H s.heap a (.frz ob (.lst xs)) from I.hok a _ ea)
  exact PySem.W.kia_one PySem.W.kitx_list I.kIn ⟨_,h1,rfl⟩ e (fun z=>nomatch z) h
 | @tup a xs ea=>
  cases(show u=Value.ref a from rx)
  obtain⟨_,_,_,p⟩:=(show dU X.prog X.w H s.heap a (.tup xs) from I.hok a _ ea)
  obtain⟨o,h1,h2,_⟩:=p
  exact PySem.W.kia_one PySem.W.kitx_tuple I.kIn ⟨o,h1,h2⟩ e (fun z=>nomatch z) h
 | @dK a kvs ea=>
  cases(show u=Value.ref a from rx)
  obtain⟨_,_,vs,_,p⟩:=(show dU X.prog X.w H s.heap a (.dK kvs) from I.hok a _ ea)
  obtain⟨o,es,ep,h1,h2,_⟩:=p
  exact PySem.W.kia_one PySem.W.kitx_dict I.kIn ⟨o,h1,h2.1⟩ e (fun z=>nomatch z) h
 | @dT a kvs ea=>
  cases(show u=Value.ref a from rx)
  obtain⟨_,_,xs,_,o,es,ep,h1,h2,_⟩:=(show dU X.prog X.w H s.heap a (.dT kvs) from I.hok a _ ea)
  exact PySem.W.kia_one PySem.W.kitx_dict I.kIn ⟨o,h1,h2.1⟩ e (fun z=>nomatch z) h
 | @ins a C dx fs ea cl ha hn htk hm=>
  cases(show u=Value.ref a from rx)
  obtain⟨mA,O,_⟩:=xT I.hok ea
  obtain⟨od,J,_⟩:=O.look
  exact PySem.W.kia_one (PySem.W.kitx_own (cl.get _) cl.hd ha hn htk hm) I.kIn J e (fun z=>nomatch z) h
end
structure Room(k:Nat)(A:Around):Prop where
 hd:A.handled=none
 dp:A.depth+3*k+5<recursionLimit
 un:A.units+16*k+200<cLine
theorem Room.mono{j k:Nat}{A:Around}(r:Room k A)(h:j<=k):Room j A:=⟨r.hd,by have:=r.dp;omega,by have:=r.un;omega⟩
theorem Room.deeper{k:Nat}{A:Around}(r:Room (k+1) A)(env:Env):Room k (A.deeper env):=
 ⟨r.hd,by have:=r.dp;show A.depth+1+3*k+5<_;omega,by have:=r.un;show A.units+3+16*k+200<_;omega⟩
theorem yi1{A:Around}{C:Addr}{us:List Value}{kw:List (Str×Value)}:(A.under (.builtin "type.__call__" ⟨.ref C::us,kw⟩)).depth=A.depth+1:=by
 first|rfl|simp [Around.under,Code.weight,Code.isCreation,Code.isGuard,Code.isCaller,Code.frames,Code.isFrame,guardIds]
theorem yi2{A:Around}{C:Addr}{us:List Value}{kw:List (Str×Value)}:(A.under (.builtin "type.__call__" ⟨.ref C::us,kw⟩)).units=A.units+1:=by
 first|rfl|simp [Around.under,Code.cUnits,Code.frames,Code.isFrame]
theorem Room.make{k:Nat}{A:Around}(r:Room (k+1) A)(C:Addr)(us:List Value)(kw:List (Str×Value)):Room k (A.under (.builtin "type.__call__" ⟨.ref C::us,kw⟩)):=
 ⟨r.hd,by have:=r.dp;rw [yi1];omega,by have:=r.un;rw [yi2];omega⟩
theorem Room.depth{k:Nat}{A:Around}(r:Room k A):A.depth<recursionLimit:=by have:=r.dp;omega
theorem Room.units{k:Nat}{A:Around}(r:Room k A):A.units+64<cLine:=by have:=r.un;omega
theorem Room.units0{k:Nat}{A:Around}(r:Room k A):A.units<cLine:=by have:=r.un;omega
def xf4:TA:=fun _ H Q=>Q [] H
def wc3(ta:TE)(tr:TA):TA:=fun σ H Q=>ta σ H fun x H1=>tr σ H1 fun xs H2=>Q (x::xs) H2
section
variable{X:Cx}{e:Expr}{es:List Expr}{te:TE}{t:TA}{pos:Pos}
theorem jG:PA X [] xf4:=⟨fun _ _ _ _ H Q I h=>Calls.spliced_nil ⟨[],H,I,.nil,h⟩⟩
theorem eB(ha:PE X e te)(hr:PA X es t)(hs:starEach (e::es) X.env=(false,eval e X.env)::starEach es X.env:=by rfl):PA X (e::es) (wc3 te t):=⟨by
 intro pos pins s σ H Q I h
 rw [hs]
 show wpAny _ _ (spliced ((false,eval e X.env)::backTo pos (starEach es X.env))) _ _ s
 refine Calls.spliced_cons (thn (ha pins s σ H _ I h) fun u s1 ⟨x,H1,I1,r1,q1⟩=> ?_)
 exact thn (hr pos pins s1 σ H1 _ I1 q1) fun us s2 ⟨xs,H2,I2,r2,q2⟩=>⟨x::xs,H2,I2,.cons r1 r2,q2⟩⟩
def wg0(t:TA):TE:=fun σ H Q=>t σ H fun xs H1=>xs.length<=sizeLine/\∀p,H1 p=none->Q (.ref p) (upd H1 p (.tup xs))
def wg1(t:TA):TE:=fun σ H Q=>t σ H fun xs H1=>xs.length<=sizeLine/\∀p,H1 p=none->Q (.ref p) (upd H1 p (.lst xs))
theorem yp9{x1}(h:PA X es t):PE X (.Tuple es x1 pos) (wg0 t):=⟨by
 intro pins s σ H Q I hq
 refine wpAny_Tuple_spliced (thn (h pos pins s σ H _ I hq) fun us s1 ⟨xs,H1,I1,r,z,q⟩=>⟨by rw [<-r.length];exact z,?_⟩)
 have hf:H1 s1.heap.objs.size=none:=I1.hok.fresh (Nat.le_refl _)
 refine⟨.ref s1.heap.objs.size,upd H1 s1.heap.objs.size (.tup xs),I1.laid (t':=s1.toks) (fun b u e=>Heap.get?_push_of_some _ e) (Nat.le_refl _) ?_,rfl,q _ hf⟩
 exact⟨z,us,r,⟨_,Heap.get?_push_size _ rfl,rfl,_,rfl⟩⟩⟩
theorem xr4(h:PA X es t):PE X (.List es pos) (wg1 t):=⟨by
 intro pins s σ H Q I hq
 refine wpAny_List_spliced (thn (h pos pins s σ H _ I hq) fun us s1 ⟨xs,H1,I1,r,z,q⟩=>⟨by rw [<-r.length];exact z,?_⟩)
 have hf:H1 s1.heap.objs.size=none:=I1.hok.fresh (Nat.le_refl _)
 refine⟨.ref s1.heap.objs.size,upd H1 s1.heap.objs.size (.lst xs),I1.laid (t':=s1.toks) (fun b u e=>Heap.get?_push_of_some _ e) (Nat.le_refl _) ?_,rfl,q _ hf⟩
 exact⟨z,us,0,r,Heap.get?_push_size _ rfl⟩⟩
end
abbrev Sp:=List V->Hp->VK->XK->Prop
abbrev CXT:=List Env->Hp->Shared->XK->Value->Shared->Prop
structure Env0(P:Program)(w:World)(K:tz0)(mg:tzA)(base:Heap)(A:Around)(outer:List Env)(s:Shared)(H:Hp):Prop where
 frames:A.frames=some outer
 mod:Mod K mg base
 bs:∀b o,base.get? b=some o->s.heap.get? b=some o/\H b=none
 bsz:base.objs.size<=s.heap.objs.size
 funs:s.heap.FunFrames base outer
 frf:∀b∈frs outer,H b=none
 hok:HOk P w H s.heap
 bare:AllBare s.gens
def CE(outer:List Env)(P:Program)(w:World)(H:Hp)(s:Shared)(Q:VK)(u:Value)(s':Shared):Prop:=
 ∃v H',s'.os=s.os/\AllBare s'.gens/\Un (frs outer) [] H H' s.heap s'.heap/\HOk P w H' s'.heap/\cM v u/\Q v H'
def CR(CX:CXT)(outer:List Env)(P:Program)(w:World)(H:Hp)(s:Shared)(Q:VK)(E:XK)(r:Result)(s':Shared):Prop:=
 match r with
 | .ok (.ret u)=>CE outer P w H s Q u s'
 | .ok _=>False
 | .error e=>CX outer H s E e s'
structure FnOk(P:Program)(w:World)(K:tz0)(mg:tzA)(base:Heap)(CX:CXT)(k:Nat)(f:Addr)(fd:FuncData)(ps:List Str)(sp:Sp):Prop where
 len:∀vs H Q E,sp vs H Q E->vs.length=ps.length
 run:∀(A:Around) (outer:List Env) (s:Shared) (H:Hp) (args:Args) (us:List Value) (vs:List V) (Q:VK) (E:XK),Room k A->Env0 P w K mg base A outer s H->BindsTo s fd args (ps.zip us)->bN vs us->sp vs H Q E->
  codeAny (model P w) A (.call (.ref f) args) (CR CX outer P w H s Q E) s
theorem FnOk.mono{P:Program}{w:World}{K:tz0}{mg:tzA}{base:Heap}{CX:CXT}{j k:Nat}{f:Addr}{fd:FuncData}{ps:List Str}{sp:Sp}(F:FnOk P w K mg base CX j f fd ps sp)(h:j<=k):
  FnOk P w K mg base CX k f fd ps sp:=⟨F.len,fun A outer s H args us vs Q E hr=>F.run A outer s H args us vs Q E (hr.mono h)⟩
theorem FnOk.imp{P:Program}{w:World}{K:tz0}{mg:tzA}{base:Heap}{CX:CXT}{k:Nat}{f:Addr}{fd:FuncData}{ps:List Str}{sp sp':Sp}(F:FnOk P w K mg base CX k f fd ps sp)
  (h:∀vs H Q E,sp' vs H Q E->sp vs H Q E):FnOk P w K mg base CX k f fd ps sp':=
 ⟨fun vs H Q E q=>F.len vs H Q E (h _ _ _ _ q),fun A outer s H args us vs Q E hr he hb hv hs=>F.run A outer s H args us vs Q E hr he hb hv (h _ _ _ _ hs)⟩
theorem Env0.make{P:Program}{w:World}{K:tz0}{mg:tzA}{base:Heap}{A:Around}{outer:List Env}{s:Shared}{H:Hp}(e:Env0 P w K mg base A outer s H)(C:Addr)(us:List Value)(kw:List (Str×Value)):
  Env0 P w K mg base (A.under (.builtin "type.__call__" ⟨.ref C::us,kw⟩)) outer s H:=⟨by first|exact e.frames|(simpa [Around.under,Code.envs,Code.isFrame,pushEnvs] using e.frames),e.mod,e.bs,e.bsz,e.funs,e.frf,e.hok,e.bare⟩
section
variable{X:Cx}{pins:tzB}{σ:St}{H:Hp}{s s':Shared}
theorem Inv.env0(I:Inv X pins σ H s):Env0 X.prog X.w X.K X.mg X.base X.A X.stack s H:=
 ⟨I.ok.frames,I.ok.mod,I.bs,Nat.le_trans I.ok.bsz I.sz,I.stack,I.stkFree,I.hok,I.bare⟩
theorem Inv.after{Q:VK}{u:Value}(I:Inv X pins σ H s)(h:CE X.stack X.prog X.w H s Q u s'):EP X pins σ Q u s':=by
 obtain⟨v,H',os,bare,un,hok,r,q⟩:=h
 obtain⟨hh,g,d,t,os'⟩:=s'
 obtain rfl:os'=s.os:=os
 exact⟨v,H',I.call (h':=hh) (g':=g) (d':=d) (t':=t) (ch:=[]) un hok bare (fun b z=>absurd z (by simp)),r,q⟩
end
def xi2(sp:Sp)(dvs:List V)(E:XK)(t:TA):TE:=fun σ H Q=>t σ H fun vs H1=>sp (vs++dvs) H1 Q E
def xi3(C:Addr)(m:Str)(sp:Sp)(dvs:List V)(E:XK)(ta:TE)(t:TA):TE:=fun σ H Q=>ta σ H fun x H1=>∃a dx fs,x= .ref a/\H1 a=some (.ins C dx fs)/\fs.lookup m=none/\
 t σ H1 fun vs H2=>sp (x::(vs++dvs)) H2 Q E
def xi4(C:Addr)(sp:Sp)(dvs:List V)(E:XK)(t:TA):TE:=fun σ H Q=>t σ H fun vs H1=>∀x dx,H1 x=none->H1 dx=none->dx≠x->
 sp (.ref x::(vs++dvs)) (upd (upd H1 dx (.own x)) x (.ins C dx [])) (fun v H2=>v= .non/\Q (.ref x) H2) E
def lH(K:tz0)(fd:FuncData)(ps:List Str)(ds:List Value):Prop:=
 ∀(s:Shared) (us:List Value),K.In s.heap->(us++ds).length=ps.length->BindsTo s fd ⟨us,[]⟩ (ps.zip (us++ds))
theorem lH.all{K:tz0}{fd:FuncData}{ps:List Str}(h:∀us:List Value,us.length=ps.length->bindArgs fd ⟨us,[]⟩=pure (ps.zip us)):lH K fd ps []:=fun s us _ hl=>by
 rw [List.append_nil] at hl|-
 exact .of_eq (h us hl)
def oO(CX:CXT)(X:Cx)(E:XK):Prop:=∀(pins:tzB) (σ:St) (H:Hp) (s:Shared) (e:Value) (s':Shared),Inv X pins σ H s->CX X.stack H s E e s'->X.xe e s'
section
variable{X:Cx}{CX:CXT}{k:Nat}{f C:Addr}{fd:FuncData}{ps:List Str}{sp:Sp}{dvs:List V}{ds:List Value}{E:XK}{x m:Str}{p pos apos:Pos}{e o:Expr}{es:List Expr}{ta:TE}{t:TA}
theorem zq1{pins:tzB}{σ:St}{H:Hp}{s:Shared}{Q:VK}{us:List Value}{vs:List V}(F:FnOk X.prog X.w X.K X.mg X.base CX k f fd ps sp)(hr:Room k X.A)(hb:lH X.K fd ps ds)(hd:bN dvs ds)(hx:oO CX X E)
  (I:Inv X pins σ H s) (r:bN vs us) (h:sp (vs++dvs) H Q E):wpAny (model X.prog X.w) X.A (call (.ref f) us) (EP X pins σ Q) X.xe s:=by
 have r2:bN (vs++dvs) (us++ds):=r.append hd
 have hl:(us++ds).length=ps.length:=by rw [<-r2.length];exact F.len _ _ _ _ h
 refine wpAny_call (codeAny_mono (F.run X.A X.stack s H ⟨us,[]⟩ (us++ds) (vs++dvs) Q E hr I.env0 (hb s us I.kIn hl) r2 h) fun r s' hq=> ?_)
 cases r with
 |error e=>exact hx pins σ H s e s' I hq
 |ok fl=>
  cases fl with
  |ret u=>exact I.after hq
  |next=>exact False.elim hq
  |brk=>exact False.elim hq
  |cont=>exact False.elim hq
theorem yc5(F:FnOk X.prog X.w X.K X.mg X.base CX k f fd ps sp)(hr:Room k X.A)(hg:Gl X x)(hm:X.mg x=some (.ref f))(hk:PySem.W.keepIn X.K (.ref f)=true)(hb:lH X.K fd ps ds)(hd:bN dvs ds)(hx:oO CX X E)
  (ha:PA X (e::es) t) (hdb:(x==("__debug__":Str))=false:=by decide) (he:starEach (e::es) X.env=(false,eval e X.env)::starEach es X.env:=by rfl) (hpl:(backTo pos (starEach es X.env)).any (·.1)=false:=by rfl):
  PE X (.Call (.Name x p) (e::es) [] pos) (xi2 sp dvs E t):=⟨by
 intro pins s σ H Q I h
 refine wpAny_Call_Name_kw (oX I hg hm ?_ hdb)
 refine PySem.W.callWith_K (h₀:=X.base) I.ok.mod.kin hk (thn (ha pos pins s σ H _ I h) fun us s1 ⟨vs,H1,I1,r,q⟩=>⟨I1.kIn,?_⟩) he hpl
 exact zq1 F hr hb hd hx I1 r q⟩
theorem zf8{pl:Sem Bool}(he:PE X o ta)(c:Cls X.K C)(hm:Meth X.K C m f)(F:FnOk X.prog X.w X.K X.mg X.base CX k f fd ps sp)(hr:Room k X.A)(hb:lH X.K fd ps ds)(hd:bN dvs ds)(hx:oO CX X E)(ha:PA X (e::es) t)
  (hst:starEach (e::es) X.env=(false,eval e X.env)::starEach es X.env:=by rfl) (hpl:(backTo pos (starEach es X.env)).any (·.1)=false:=by rfl)
  (ht:eval (.Call (.Attribute o m apos) (e::es) [] pos) X.env=(do
   let ov<-eval o X.env
   standAt apos.atName
   let (f,first)<-holding [ov] (getMethod ov m pl)
   callWith pos f first (backTo pos (starEach (e::es) X.env)) (backToKw pos (keywordEach [] X.env))):=by rfl):
  PE X (.Call (.Attribute o m apos) (e::es) [] pos) (xi3 C m sp dvs E ta t):=⟨by
 intro pins s σ H Q I h
 refine PySem.W.methodCall_KW (pl:=pl) (thn (he pins s σ H _ I h) fun u s1 ⟨x,H1,I1,rx,a,dx,fs,ex,ea,l,q⟩=> ?_) ht
 subst ex
 obtain rfl:u=Value.ref a:=rx
 refine za2 I1 ea c hm l ?_
 refine PySem.W.callWith_K (first:=[.ref a]) (h₀:=X.base) I.ok.mod.kin hm.kp (thn (ha pos pins s1 σ H1 _ I1 q) fun us s2 ⟨vs,H2,I2,r,q2⟩=>⟨I2.kIn,?_⟩) hst hpl
 exact zq1 (us:= .ref a::us) (vs:= .ref a::vs) F hr hb hd hx I2 (.cons rfl r) q2⟩
theorem yX{pl:Sem Bool}(he:PE X o ta)(c:Cls X.K C)(hm:Meth X.K C m f)(F:FnOk X.prog X.w X.K X.mg X.base CX k f fd ps sp)(hr:Room k X.A)(hb:lH X.K fd ps ds)(hd:bN dvs ds)(hx:oO CX X E)
  (ht:eval (.Call (.Attribute o m apos) [] [] pos) X.env=(do
   let ov<-eval o X.env
   standAt apos.atName
   let (f,first)<-holding [ov] (getMethod ov m pl)
   callWith pos f first (backTo pos (starEach [] X.env)) (backToKw pos (keywordEach [] X.env))):=by rfl):
  PE X (.Call (.Attribute o m apos) [] [] pos) (xi3 C m sp dvs E ta xf4):=⟨by
 intro pins s σ H Q I h
 refine PySem.W.methodCall_KW (pl:=pl) (thn (he pins s σ H _ I h) fun u s1 ⟨x,H1,I1,rx,a,dx,fs,ex,ea,l,q⟩=> ?_) ht
 subst ex
 obtain rfl:u=Value.ref a:=rx
 refine za2 I1 ea c hm l ?_
 exact PySem.W.callWith_K0 (first:=[.ref a]) I1.kIn hm.kp (zq1 (us:=[.ref a]) (vs:=[.ref a]) F hr hb hd hx I1 (.cons rfl .nil) q)⟩
structure Mk(K:tz0)(C f:Addr):Prop where
 makes:PySem.W.makesIn K C=true
 init:PySem.W.findIn K (.ref C) "__init__"=some (some (.ref f))
 fn:PySem.W.isFn K (.ref f)=true
 kp:PySem.W.keepIn K (.ref C)=true
theorem zq2{pins:tzB}{σ:St}{H:Hp}{s:Shared}{Q:VK}{us:List Value}{vs:List V}(M:Mk X.K C f)(F:FnOk X.prog X.w X.K X.mg X.base CX k f fd ps sp)(hr:Room (k+1) X.A)(hb:lH X.K fd ps ds)(hd:bN dvs ds)
  (hx:oO CX X E) (I:Inv X pins σ H s) (r:bN vs us)
  (h:∀x dx,H x=none->H dx=none->dx≠x->sp (.ref x::(vs++dvs)) (upd (upd H dx (.own x)) x (.ins C dx [])) (fun v H2=>v= .non/\Q (.ref x) H2) E):
  wpAny (model X.prog X.w) X.A (call (.ref C) us) (EP X pins σ Q) X.xe s:=by
 have hq:=h (s.heap.objs.size+1) s.heap.objs.size (I.hok.fresh (Nat.le_succ _)) (I.hok.fresh (Nat.le_refl _)) (Nat.ne_of_lt (Nat.lt_succ_self _))
 have I2:=Inv.made (C:=C) I
 have r2:bN (V.ref (s.heap.objs.size+1)::(vs++dvs)) (Value.ref (s.heap.objs.size+1)::(us++ds)):= .cons rfl (r.append hd)
 have hl:(Value.ref (s.heap.objs.size+1)::us++ds).length=ps.length:=by
  have e:=r2.length
  rw [F.len _ _ _ _ hq] at e
  exact e.symm
 refine wpAny_call (yz2 (f:=f) I.kIn M.makes M.init (beq_iff_eq.mp M.fn) (codeAny_mono (F.run _ X.stack _ _ ⟨Value.ref (s.heap.objs.size+1)::us,[]⟩ (Value.ref (s.heap.objs.size+1)::(us++ds)) _ _ E (hr.make C us [])
  (I2.env0.make C us []) (hb _ (Value.ref (s.heap.objs.size+1)::us) I2.kIn hl) r2 hq) fun r s' hq'=> ?_))
 cases r with
 |error e=>exact hx pins σ _ _ e s' I2 hq'
 | ok fl=>
  cases fl with
  |ret u=>
   obtain⟨v,H',I3,rv,ev,q3⟩:=I2.after hq'
   subst ev
   exact⟨rv,⟨V.ref (s.heap.objs.size+1),H',I3,rfl,q3⟩⟩
  |next=>exact False.elim hq'
  |brk=>exact False.elim hq'
  |cont=>exact False.elim hq'
theorem xk0(M:Mk X.K C f)(F:FnOk X.prog X.w X.K X.mg X.base CX k f fd ps sp)(hr:Room (k+1) X.A)(hg:Gl X x)(hm:X.mg x=some (.ref C))(hb:lH X.K fd ps ds)(hd:bN dvs ds)(hx:oO CX X E)
  (ha:PA X (e::es) t) (hdb:(x==("__debug__":Str))=false:=by decide) (he:starEach (e::es) X.env=(false,eval e X.env)::starEach es X.env:=by rfl) (hpl:(backTo pos (starEach es X.env)).any (·.1)=false:=by rfl):
  PE X (.Call (.Name x p) (e::es) [] pos) (xi4 C sp dvs E t):=⟨by
 intro pins s σ H Q I h
 refine wpAny_Call_Name_kw (oX I hg hm ?_ hdb)
 refine PySem.W.callWith_K (h₀:=X.base) I.ok.mod.kin M.kp (thn (ha pos pins s σ H _ I h) fun us s1 ⟨vs,H1,I1,r,q⟩=>⟨I1.kIn,?_⟩) he hpl
 exact zq2 M F hr hb hd hx I1 r q⟩
theorem yz3(M:Mk X.K C f)(F:FnOk X.prog X.w X.K X.mg X.base CX k f fd ps sp)(hr:Room (k+1) X.A)(hg:Gl X x)(hm:X.mg x=some (.ref C))(hb:lH X.K fd ps ds)(hd:bN dvs ds)(hx:oO CX X E)
  (hdb:(x==("__debug__":Str))=false:=by decide):PE X (.Call (.Name x p) [] [] pos) (xi4 C sp dvs E xf4):=⟨by
 intro pins s σ H Q I h
 refine wpAny_Call_Name_kw (oX I hg hm ?_ hdb)
 exact PySem.W.callWith_K0 I.kIn M.kp (zq2 (us:=[]) M F hr hb hd hx I .nil h)⟩
end
section
variable{X:Cx}{CX:CXT}{k:Nat}{f C:Addr}{fd:FuncData}{ps ks:List Str}{sp:Sp}{E:XK}{x m:Str}{p pos apos kpos:Pos}{e o:Expr}{es:List Expr}{kws:List Keyword}{te ta:TE}{t tk:TA}{nm:Option Str}
structure KBinds(K:tz0)(fd:FuncData)(ps ks:List Str)(g:List Value->List Value->List Value)(gV:List V->List V->List V):Prop where
 to:∀(s:Shared) (us ws:List Value),K.In s.heap->(g us ws).length=ps.length->BindsTo s fd ⟨us,ks.zip ws⟩ (ps.zip (g us ws))
 rel:∀{vs:List V} {us:List Value} {zs:List V} {ws:List Value},bN vs us->bN zs ws->bN (gV vs zs) (g us ws)
variable{g:List Value->List Value->List Value}{gV:List V->List V->List V}
end
structure FnScope(N P:List Str)(sc:Scope):Prop where
 kind:sc.kind= .function
 co:sc.isCoroutine=false
 gen:sc.isGenerator=false
 nd:N.Nodup
 pre:N.take P.length=P
 par:∀x∈P,sc.names.lookup x=some .local\/sc.names.lookup x=some .cell
 nofree:∀y∈sc.names,y.2≠ .free
theorem zi9{kindOf:Str->Option NameKind}{x:Str}:∀{binds:List (Str×Value)} {m:tzA},(∀v,(x,v)∉binds)->bindL kindOf binds m x=m x
 |[],_,_=>rfl
 | (n,v)::r,m,h=>by
  unfold bindL
  rw [zi9 fun w hw=>h w (List.mem_cons_of_mem _ hw)]
  split
  ·have:x≠n:=by rintro rfl;exact h v List.mem_cons_self
   simp [this]
  ·rfl
theorem zj0{kindOf:Str->Option NameKind}{x:Str}:∀{binds:List (Str×Value)} {m:tzA},(∀v,(x,v)∉binds)->bindC kindOf binds m x=m x
 |[],_,_=>rfl
 | (n,v)::r,m,h=>by
  unfold bindC
  rw [zj0 fun w hw=>h w (List.mem_cons_of_mem _ hw)]
  split
  ·rfl
  ·have:x≠n:=by rintro rfl;exact h v List.mem_cons_self
   simp [this]
theorem zj1{kindOf:Str->Option NameKind}{x:Str}{v:Value}:∀{P:List Str} {vs:List Value} {i:Nat} {m:tzA},P.Nodup->P[i]? =some x->vs[i]? =some v->kindOf x=some .local->
  bindL kindOf (P.zip vs) m x=some v
 |[],_,_,_,_,h,_,_=>by simp at h
 |_::_,[],_,_,_,_,h,_=>by simp at h
 |p::P,w::vs,0,m,nd,h1,h2,hk=>by
  simp at h1 h2;subst h1;subst h2
  show bindL kindOf ((p,w)::P.zip vs) m p=_
  unfold bindL
  rw [zi9 fun v hv=>(List.nodup_cons.mp nd).1 (List.of_mem_zip hv).1,if_pos hk]
  simp
 |p::P,w::vs,i+1,m,nd,h1,h2,hk=>by
  show bindL kindOf ((p,w)::P.zip vs) m x=_
  unfold bindL
  exact zj1 (i:=i) (List.nodup_cons.mp nd).2 (by simpa using h1) (by simpa using h2) hk
theorem zj2{kindOf:Str->Option NameKind}{x:Str}{v:Value}:∀{P:List Str} {vs:List Value} {i:Nat} {m:tzA},P.Nodup->P[i]? =some x->vs[i]? =some v->kindOf x≠some .local->
  bindC kindOf (P.zip vs) m x=some v
 |[],_,_,_,_,h,_,_=>by simp at h
 |_::_,[],_,_,_,_,h,_=>by simp at h
 |p::P,w::vs,0,m,nd,h1,h2,hk=>by
  simp at h1 h2;subst h1;subst h2
  show bindC kindOf ((p,w)::P.zip vs) m p=_
  unfold bindC
  rw [zj0 fun v hv=>(List.nodup_cons.mp nd).1 (List.of_mem_zip hv).1,if_neg hk]
  simp
 |p::P,w::vs,i+1,m,nd,h1,h2,hk=>by
  show bindC kindOf ((p,w)::P.zip vs) m x=_
  unfold bindC
  exact zj2 (i:=i) (List.nodup_cons.mp nd).2 (by simpa using h1) (by simpa using h2) hk
def start(N:List Str)(vs:List V):St:=vs.map some++List.replicate (N.length-vs.length) none
def fQ(CX:CXT)(P:Program)(w:World)(K:tz0)(mg:tzA)(base:Heap)(N:List Str)(qual:Str)(scope:Scope)(f:Addr)(cd:Value)(A:Around)(outer:List Env)(s:Shared)(H:Hp)(E:XK):Cx where
 prog:=P
 w:=w
 K:=K
 mg:=mg
 base:=base
 A:=A.deeper (envOfC qual scope s.heap.objs.size f cd)
 N:=N
 s₀:=s
 H₀:=H
 env:=envOfC qual scope s.heap.objs.size f cd
 outer:=outer
 stack:=envOfC qual scope s.heap.objs.size f cd::outer
 ex:=[]
 calm:=true
 fn:=fun _=>true
 pn:=[]
 xe:=fun e s'=>wpAny (model P w) (A.deeper (envOfC qual scope s.heap.objs.size f cd)) (leaving (envOfC qual scope s.heap.objs.size f cd) e) (fun _ s''=>CX outer H s E e s'') (fun e' s''=>CX outer H s E e' s'') s'
theorem zq3{sc:Scope}{n:Nat}{x:Str}(h:sc.names.lookup x=some .cell):∃c,(cellsFrom n sc.names []).lookup x=some c:=by
 have q:=PySem.W.cellsFrom_some sc.names n [] (.inl h)
 exact Option.isSome_iff_exists.mp q
theorem yq0{CX:CXT}{P:Program}{w:World}{K:tz0}{mg:tzA}{base:Heap}{N ps:List Str}{qual:Str}{scope:Scope}{f:Addr}{cd:Value}{A:Around}{outer:List Env}{s s1:Shared}{H:Hp}{E:XK}{us:List Value}{vs:List V}
  (S:FnScope N ps scope) (hd:A.handled=none) (e0:Env0 P w K mg base A outer s H) (hl:vs.length=ps.length) (r:bN vs us)
  (x:InCallC s s.heap.objs.size (bindL (envOfC qual scope s.heap.objs.size f cd).kindOf (ps.zip us) fun _=>none) (cellsFrom (s.heap.objs.size+1) scope.names []) (bindC (envOfC qual scope s.heap.objs.size f cd).kindOf (ps.zip us) fun _=>none) s1):
  Inv (fQ CX P w K mg base N qual scope f cd A outer s H E) [] (start N vs) H s1:=by
 have hpl:ps.length<=N.length:=by have:=congrArg List.length S.pre;rw [List.length_take] at this;omega
 obtain⟨h1,tk,rfl,hk⟩:=x.done
 have noA:∀b:Addr,b∉(fQ CX P w K mg base N qual scope f cd A outer s H E).ex:=fun b z=>absurd (show b∈([]:List Addr) from z) (by simp)
 refine⟨⟨e0.mod,S.kind,rfl,rfl,Nat.le_refl _,fun y z c h1 h2=> ?_,fun y hy=> ?_,fun y c _ h=> ?_,fun _=>hd,Around.frames_deeper e0.frames,.inr ⟨rfl,rfl⟩,fun b z=>absurd z (noA b),e0.bs,e0.bsz,fun b _ _=>noA b,fun b z=>absurd z (noA b),e0.funs,e0.frf⟩,
  rfl,e0.bare,Un.kept hk,⟨_,x.toInCall.ns,fun i y v h1 h2 h3=> ?_⟩,fun y c h=>⟨_,x.cell y c h⟩,e0.hok.fresh (Nat.le_refl _),fun y c h=> ?_,fun p hp=>absurd (show p∈([]:tzB) from hp) (by simp),e0.hok.kept hk,?_⟩
 ·exact name_of_addr x.apart (PySem.mem_of_lookup h1) (PySem.mem_of_lookup h2)
 ·have hy:scope.names.lookup y=some .cell\/scope.names.lookup y=some .free:=hy
  rcases hy with hy|hy
  ·exact zq3 hy
  ·exact absurd rfl (S.nofree _ (PySem.mem_of_lookup hy))
 ·exact Nat.le_of_lt (x.above y c (PySem.mem_of_lookup h))
 ·have hi:i<vs.length:=by
   unfold start at h2
   by_cases hi:i<vs.length
   ·exact hi
   ·rw [List.getElem?_append_right (by simpa using hi)] at h2
    rw [List.getElem?_replicate] at h2
    split at h2<;>cases h2
  have ha:vs[i]? =some v:=by
   unfold start at h2
   rw [List.getElem?_append_left (by simpa using hi),List.getElem?_map] at h2
   cases e:vs[i]? with
   |none=>rw [e] at h2;cases h2
   |some a=>rw [e] at h2;cases h2;rfl
  obtain⟨u,hu,rv⟩:=r.get ha
  have hp:ps[i]? =some y:=by
   rw [<-S.pre,List.getElem?_take_of_lt (by omega)];exact h1
  have ndP:ps.Nodup:=by rw [<-S.pre];exact S.nd.sublist (List.take_sublist _ _)
  refine⟨u,rv,?_⟩
  rcases S.par y (List.mem_of_getElem? hp) with k|k
  ·exact .inl ⟨k,zj1 ndP hp hu k⟩
  ·obtain⟨c,e⟩:=zq3 (n:=s.heap.objs.size+1) k
   refine .inr ⟨.inl k,c,e,?_⟩
   have q:=x.cell y c e
   rw [zj2 ndP hp hu (by show scope.names.lookup y≠_;rw [k];decide)] at q
   exact q
 ·exact e0.hok.fresh (Nat.le_of_lt (x.above y c (PySem.mem_of_lookup h)))
 ·unfold start
  show _=N.length
  rw [List.length_append,List.length_map,List.length_replicate]
  omega
theorem zo3{CX:CXT}{P:Program}{w:World}{K:tz0}{mg:tzA}{base:Heap}{k:Nat}{f:Addr}{name qual:Str}{params:Arguments}{body:List Stmt}{scope:Scope}{dV kV doc pm cdv ct oc:Value}{an od:Option Addr}
  {osl:Array (Option Value)} {N ps:List Str} {sp:Sp} (lk:K.lookup f=some ⟨oc,od,.func (PySem.W.fnOf name qual params body scope dV kV doc pm an cdv ct),osl⟩) (hcd:PySem.W.codeIn K cdv qual=true) (S:FnScope N ps scope)
  (len:∀vs H Q E,sp vs H Q E->vs.length=ps.length)
  (hbody:∀(A:Around) (outer:List Env) (s:Shared) (H:Hp) (vs:List V) (Q:VK) (E:XK),Room k (A.deeper (envOfC qual scope s.heap.objs.size f cdv))->sp vs H Q E->
   ∃t,PSs (fQ CX P w K mg base N qual scope f cdv A outer s H E) body t/\t {nx:=fun _ H'=>Q .non H',rt:=Q} (start N vs) H):
  FnOk P w K mg base CX (k+1) f (PySem.W.fnOf name qual params body scope dV kV doc pm an cdv ct) ps sp:=by
 refine⟨len,fun A outer s H args us vs Q E hr e0 hb r hsp=> ?_⟩
 have hl:=len _ _ _ _ hsp
 have KX:K.In s.heap:=e0.mod.kin.keeps fun b o e=>(e0.bs b o e).1
 have lim:s.heap.NoLimit:=e0.mod.nolimit.keeps fun b o e=>(e0.bs b o e).1
 have hkind:∀y∈ps.zip us,scope.names.lookup y.1=some .local\/(scope.names.lookup y.1=some .cell/\((cellsFrom (s.heap.objs.size+1) scope.names []).lookup y.1).isSome=true):=fun⟨n,v⟩ hy=>by
  rcases S.par n (List.of_mem_zip hy).1 with q|q
  ·exact .inl q
  ·exact .inr ⟨q,PySem.W.cellsFrom_some _ _ _ (.inl q)⟩
 refine codeAny_call_function hr.depth (KX _ _ lk) rfl S.co S.gen rfl (PySem.W.codeRec_of KX hcd) (hb _ _ _ _ ?_)
 refine wpAny_newFunctionEnv_cells S.kind hkind fun env he s1 x=> ?_
 subst he
 refine⟨lim.keeps x.toInCall.keep,codeAny_func ?_⟩
 obtain⟨t,ht,hq⟩:=hbody A outer s H vs Q E (hr.deeper _) hsp
 have I:Inv (fQ CX P w K mg base N qual scope f cdv A outer s H E) [] (start N vs) H s1:=yq0 S hr.hd e0 hl r x
 refine wpAny_mono (ht [] s1 (start N vs) H _ I hq) (fun fl s' hs=> ?_) fun e s' hs=>hs
 have fin:∀{σ':St} {H':Hp} {v:V} {u:Value},Inv (fQ CX P w K mg base N qual scope f cdv A outer s H E) [] σ' H' s'->cM v u->Q v H'->CE outer P w H s Q u s':=
  fun {σ' H' v u} J rv q=>⟨v,H',J.os,J.bare,J.base,J.hok,rv,q⟩
 cases fl with
 |ret u=>
  obtain⟨v,σ',H',J,rv,q⟩:=hs
  exact fin J rv q
 |next=>
  obtain⟨σ',H',J,q⟩:=hs
  exact fin (v:=V.non) (u:=Value.none) J rfl q
 |brk=>
  obtain⟨_,_,_,q⟩:=hs
  exact False.elim q
 |cont=>
  obtain⟨_,_,_,q⟩:=hs
  exact False.elim q
section
variable{X:Cx}{x:Str}{p pos:Pos}{e:Expr}{es:List Expr}{t:TA}{id T:String}{r:List V->Hp->VK->Prop}
def tCB(r:List V->Hp->VK->Prop)(t:TA):TE:=fun σ H Q=>t σ H fun vs H1=>r vs H1 Q
theorem lQ(hc:CallR X (.builtin id) r)(hg:Gl X x)(hm:X.mg x=none)(hv:bootBuiltins x=some (.builtin id))(ha:PA X (e::es) t)(hn:x≠"__name__":=by decide)(hdb:(x==("__debug__":Str))=false:=by decide)
  (he:starEach (e::es) X.env=(false,eval e X.env)::starEach es X.env:=by rfl) (hpl:(backTo pos (starEach es X.env)).any (·.1)=false:=by rfl):PE X (.Call (.Name x p) (e::es) [] pos) (tCB r t):=⟨by
 intro pins s σ H Q I h
 refine wpAny_Call_Name_kw (rA I hg hm hv ?_ hn hdb)
 exact PyProof.Rows.callWith_builtin1 (thn (ha pos pins s σ H _ I h) fun us s1 ⟨vs,H1,I1,r1,q1⟩=>hc pins s1 σ H1 vs us Q I1 r1 q1) he hpl⟩
theorem yq1(hc:CallR X (.type T) r)(hg:Gl X x)(hm:X.mg x=none)(hv:bootBuiltins x=some (.type T))(ha:PA X (e::es) t)(hn:x≠"__name__":=by decide)(hdb:(x==("__debug__":Str))=false:=by decide)
  (he:starEach (e::es) X.env=(false,eval e X.env)::starEach es X.env:=by rfl) (hpl:(backTo pos (starEach es X.env)).any (·.1)=false:=by rfl):PE X (.Call (.Name x p) (e::es) [] pos) (tCB r t):=⟨by
 intro pins s σ H Q I h
 refine wpAny_Call_Name_kw (rA I hg hm hv ?_ hn hdb)
 exact PyProof.Rows.callWith_type1 (thn (ha pos pins s σ H _ I h) fun us s1 ⟨vs,H1,I1,r1,q1⟩=>hc pins s1 σ H1 vs us Q I1 r1 q1) he hpl⟩
end
end L2
namespace HT
open PySem PyProof.Rows
section
open PySem.SeqAt
open PySem.AutoSeq1 (wpAny_loadPart')
open PySem.MeetsSeq PySem.MeetsSeq2 PySem.MeetsSeq3
end
section
variable{prog:Program}{w:World}{A:Around}{E:Value->Shared->Prop}{s:Shared}
def sIx(n d:Nat):Option Int->Nat
 |none=>d
 |some v=>if v<0 then(v+(n:Int)).toNat else min v.toNat n
theorem sIx_none(n d:Nat):sIx n d none=d:=rfl
theorem sIx_nat(n d k:Nat):sIx n d (some (k:Int))=min k n:=by
 show(if (k:Int)<0 then((k:Int)+(n:Int)).toNat else min (k:Int).toNat n)=min k n
 rw [if_neg (by omega),Int.toNat_natCast]
end
end HT
namespace L2
open PySem PySem.Spec PyProof.Rows
abbrev TO:=St->Hp->(Option Int->Hp->Prop)->Prop
def POd(X:Cx)(e:Option Expr)(t:TO):Prop:=
 ∀(pins:tzB) (s:Shared) (σ:St) (H:Hp) (Q:Option Int->Hp->Prop),Inv X pins σ H s->t σ H Q->
  wpAny (model X.prog X.w) X.A (evalPart e X.env) (fun u s'=>∃o H',Inv X pins σ H' s'/\IsPart u o/\Q o H') X.xe s
structure PO(X:Cx)(e:Option Expr)(t:TO):Prop where
 go:POd X e t
instance {X:Cx} {e:Option Expr} {t:TO}:CoeFun (PO X e t) fun _=>POd X e t:=⟨PO.go⟩
def xp5:TO:=fun _ H Q=>Q none H
def wc4(t:TE):TO:=fun σ H Q=>t σ H fun x H1=>∃i,x= .int i/\Q (some i) H1
section
variable{X:Cx}{e:Expr}{te:TE}{lo hi:Option Expr}{tl th:TO}{pos p2:Pos}
theorem xk1:PO X none xp5:=⟨by
 intro pins s σ H Q I h
 rw [evalPart_none]
 exact wpAny_pure ⟨none,H,I,.none,h⟩⟩
theorem xk2(h:PE X e te):PO X (some e) (wc4 te):=⟨by
 intro pins s σ H Q I hw
 rw [evalPart_some]
 refine thn (h pins s σ H _ I hw) fun u s1 ⟨x,H1,I1,r1,q1⟩=> ?_
 obtain⟨i,rfl,q⟩:=q1
 obtain⟨t,rfl⟩:=r1
 exact⟨some i,H1,I1,.int i t,q⟩⟩
def SlR(X:Cx)(r:V->Option Int->Option Int->Hp->VK->Prop):Prop:=
 ∀(pins:tzB) (s:Shared) (σ:St) (H:Hp) (x:V) (v vl vu:Value) (lo hi:Option Int) (sl:Addr) (Q:VK),Inv X pins σ H s->cM x v->s.heap.IsSliceOf sl vl vu .none->IsPart vl lo->IsPart vu hi->r x lo hi H Q->
  ∃T id,typeLookup (.type T) "__getitem__"=pure (some (.builtin id))/\s.TypeIs v T/\wpAny (model X.prog X.w) X.A (getItem v (.ref sl)) (EP X pins σ Q) X.xe s
def tSl(r:V->Option Int->Option Int->Hp->VK->Prop)(te:TE)(tl th:TO):TE:=fun σ H Q=>te σ H fun x H1=>tl σ H1 fun l H2=>th σ H2 fun u H3=>r x l u H3 Q
theorem yz4{r:V->Option Int->Option Int->Hp->VK->Prop}(hr:SlR X r)(he:PE X e te)(hl:PO X lo tl)(hu:PO X hi th):PE X (.Subscript e (.Slice lo hi none p2) pos) (tSl r te tl th):=⟨by
 intro pins s σ H Q I h
 refine Subscript_ (thn (he pins s σ H _ I h) fun v s1 ⟨x,H1,I1,r1,q1⟩=> ?_)
 refine wpAny_Slice (thn (hl pins s1 σ H1 _ I1 q1) fun vl s2 ⟨l,H2,I2,pl,q2⟩=>thn (hu pins s2 σ H2 _ I2 q2) fun vu s3 ⟨u,H3,I3,pu,q3⟩=> ?_)
 rw [evalPart_none]
 refine wpAny_pure ?_
 have I4:Inv X pins σ H3 {s3 with heap:=s3.heap.push {cls:= .type "slice",data:= .fields #[vl,vu,.none]}}:=I3.kept (t':=s3.toks) fun b ob q=>Heap.get?_push_of_some _ q
 obtain⟨T,id,hT,ht,hg⟩:=hr pins {s3 with heap:=s3.heap.push {cls:= .type "slice",data:= .fields #[vl,vu,.none]}} σ H3 x v vl vu l u s3.heap.objs.size Q I4 r1 (Heap.IsSliceOf.new ..) pl pu q3
 show wpAny (model X.prog X.w) X.A (subscriptTail e (.Slice lo hi none p2) v (.ref s3.heap.objs.size)) (EP X pins σ Q) X.xe {s3 with heap:=s3.heap.push {cls:= .type "slice",data:= .fields #[vl,vu,.none]}}
 exact tail_any (ops:=[.ref s3.heap.objs.size,v]) ht hT hg (by with_unfolding_all rfl)⟩
def zi5(xs:List V)(lo hi:Option Int):List V:=(xs.drop (HT.sIx xs.length 0 lo)).take (HT.sIx xs.length xs.length hi-HT.sIx xs.length 0 lo)
theorem zz9(xs:List V)(lo hi:Option Int):(zi5 xs lo hi).length<=xs.length:=by
 unfold zi5
 rw [List.length_take,List.length_drop]
 omega
end
def ixN(n:Nat)(i:Int):Option Nat:=if 0<=i then(if i<n then some i.toNat else none) else if-(n:Int)<=i then some (i+n).toNat else none
def atI{α:Type}(xs:List α)(i:Int):Option α:=(ixN xs.length i).bind fun j=>xs[j]?
theorem xU{n:Nat}{i:Int}{j:Nat}(h:ixN n i=some j):seqIndex? i n=some j/\j<n/\ -(n:Int)<=i/\i<n:=by
 unfold ixN at h
 by_cases h0:0<=i
 ·rw [if_pos h0] at h
  by_cases h1:i<n
  ·rw [if_pos h1] at h
   have e:i.toNat=j:=Option.some.inj h
   exact⟨by rw [seqIndex_of h0 h1,e],by omega,by omega,h1⟩
  ·rw [if_neg h1] at h;cases h
 ·rw [if_neg h0] at h
  by_cases h1: -(n:Int)<=i
  ·rw [if_pos h1] at h
   have e:(i+n).toNat=j:=Option.some.inj h
   exact⟨by rw [seqIndex_neg (by omega) h1,e],by omega,h1,by omega⟩
  ·rw [if_neg h1] at h;cases h
theorem zf9{α:Type}{xs:List α}{i:Int}{v:α}(h:atI xs i=some v):∃j,seqIndex? i xs.length=some j/\xs[j]? =some v/\j<xs.length/\ -(xs.length:Int)<=i/\i<xs.length:=by
 unfold atI at h
 cases e:ixN xs.length i with
 |none=>rw [e] at h;cases h
 |some j=>
  rw [e] at h
  obtain⟨h1,h2,h3,h4⟩:=xU e
  exact⟨j,h1,h,h2,h3,h4⟩
theorem qV{α:Type}{xs:List α}{j:Nat}{v:α}(h:xs[j]? =some v):atI xs (j:Int)=some v:=by
 have hj:j<xs.length:=(List.getElem?_eq_some_iff.mp h).1
 have e:ixN xs.length (j:Int)=some j:=by
  unfold ixN
  rw [if_pos (by omega),if_pos (by omega)];simp
 unfold atI;rw [e];exact h
theorem zq4{α:Type}(xs:List α)(v:α):atI (xs++[v]) (-1)=some v:=by
 have hl:(xs++[v]).length=xs.length+1:=by simp
 have e:ixN (xs++[v]).length (-1)=some xs.length:=by
  unfold ixN
  rw [hl,if_neg (by decide),if_pos (by omega)]
  congr 1
  omega
 unfold atI
 rw [e]
 show(xs++[v])[xs.length]? =some v
 simp
def yJ(b:Expr):Prop:=∀o i,subscripted b false o i=operate [o,i] (getItem o i)
def IxR(X:Cx)(r:R2):Prop:=
 ∀(value slice:Expr) (pins:tzB) (s:Shared) (σ:St) (H:Hp) (x y:V) (v u:Value) (Q:VK),Inv X pins σ H s->cM x v->cM y u->r x y H Q->
  subscripted slice false v u=operate [v,u] (getItem v u)->wpAny (model X.prog X.w) X.A (subscriptTail value slice v u) (EP X pins σ Q) X.xe s
def xy3(X:Cx)(id:String)(r:V->List V->Hp->VK->Prop):Prop:=
 ∀(pins:tzB) (s:Shared) (σ:St) (H:Hp) (x:V) (xs:List V) (v:Value) (us:List Value) (Q:VK),Inv X pins σ H s->cM x v->bN xs us->r x xs H Q->
  wpAny (model X.prog X.w) X.A (call (.builtin id) (v::us)) (EP X pins σ Q) X.xe s
structure MtR(X:Cx)(id:String)(r:V->List V->Hp->VK->Prop):Prop where
 go:xy3 X id r
instance {X:Cx} {id:String} {r:V->List V->Hp->VK->Prop}:CoeFun (MtR X id r) fun _=>xy3 X id r:=⟨MtR.go⟩
section
variable{X:Cx}{a b:Expr}{ta tb:TE}{pos:Pos}
theorem IxR.or{r r':R2}(h:IxR X r)(h':IxR X r'):IxR X (fun x y H Q=>r x y H Q\/r' x y H Q):=by
 intro value slice pins s σ H x y v u Q I rx ry q hs
 rcases q with q|q
 ·exact h value slice pins s σ H x y v u Q I rx ry q hs
 ·exact h' value slice pins s σ H x y v u Q I rx ry q hs
theorem zo4{r:R2}(hr:IxR X r)(ha:PE X a ta)(hb:PE X b tb)(hs:yJ b):PE X (.Subscript a b pos) (tOp r ta tb):=⟨by
 intro pins s σ H Q I h
 exact Subscript_ (yy6 ha hb I h fun v u s2 x y H2 I2 rx ry q=>hr a b pins s2 σ H2 x y v u Q I2 rx ry q (hs _ _))⟩
def xy4(K:tz0):R2:=fun x y H Q=>∃p xs i v,x= .ref p/\y= .int i/\SqL K H p xs/\atI xs i=some v/\Q v H
def xy5(K:tz0):R2:=fun x y H Q=>∃p xs i v,x= .ref p/\y= .int i/\SqT K H p xs/\atI xs i=some v/\Q v H
def xy6:R2:=fun x y H Q=>∃z i c,x= .str z/\y= .int i/\z.length<=sizeLine/\atI z.cps.toList i=some c/\Q (.str ⟨#[c]⟩) H
theorem zg0:IxR X (xy4 X.K):=by
 intro value slice pins s σ H x y v u Q I rx ry h hs
 obtain⟨p,xs,i,z,rfl,rfl,hq,he,q⟩:=h
 cases rx
 obtain⟨t,rfl⟩:=ry
 obtain⟨its,r,pl,hz⟩:=I.list hq
 obtain⟨j,h1,h2,h3,h4,h5⟩:=zf9 he
 obtain⟨w,ew,rw'⟩:=r.get h2
 have hl:=r.length
 have hn:=rC
 have fin:EP X pins σ Q w s:=⟨z,H,I,rw',q⟩
 by_cases h0:0<=i
 ·have hj:i.toNat=j:=by
   rw [seqIndex_of h0 h5] at h1
   exact Option.some.inj h1
  exact item_listR pl.isList h0 (by omega) (by rw [hj];simpa using ew) fin hs
 ·have hj:(i+(its.toArray.size:Int)).toNat=j:=by
   rw [seqIndex_neg (by omega) h4] at h1
   rw [List.size_toArray,<-hl]
   exact Option.some.inj h1
  exact subscriptTail_builtinR (x:=w) pl.isList.typeIs slot_list_getitem.lookup
   (wpAny_getItem_list_neg (Q:=fun r s'=>r=w/\EP X pins σ Q r s') pl.isList (by omega) (by rw [List.size_toArray]<;>omega) (by omega) (by rw [hj];simpa using ew) ⟨rfl,fin⟩) hs
theorem xr5:IxR X (xy5 X.K):=by
 intro value slice pins s σ H x y v u Q I rx ry h hs
 obtain⟨p,xs,i,z,rfl,rfl,hq,he,q⟩:=h
 cases rx
 obtain⟨t,rfl⟩:=ry
 obtain⟨its,r,pl,hz⟩:=I.tuple hq
 obtain⟨j,h1,h2,h3,h4,h5⟩:=zf9 he
 obtain⟨w,ew,rw'⟩:=r.get h2
 have hl:=r.length
 have hn:=rC
 have fin:EP X pins σ Q w s:=⟨z,H,I,rw',q⟩
 exact subscriptTail_builtinR (x:=w) pl.typeIs slot_tuple_getitem.lookup
  (getItem_tuple (j:=j) (Q:=fun r s'=>r=w/\EP X pins σ Q r s') pl (by omega) (by omega) (by rw [List.size_toArray,<-hl];exact h1) (by simpa using ew) ⟨rfl,fin⟩) hs
theorem xr6:IxR X xy6:=by
 intro value slice pins s σ H x y v u Q I rx ry h hs
 obtain⟨z,i,c,rfl,rfl,hz,he,q⟩:=h
 obtain⟨t,rfl⟩:=rx
 obtain⟨t',rfl⟩:=ry
 obtain⟨j,h1,h2,h3,h4,h5⟩:=zf9 he
 have hl:z.cps.toList.length=z.length:=by simp [Str.length]
 rw [hl] at h1 h4 h5
 have hn:=rC
 exact tail_any (typeIs_str s z t) slot_str_getitem.lookup (getItem_str (c:=c) (by
  have e1:decide (i< -(2^63:Int))=false:=decide_eq_false (by omega)
  have e2:decide (i>=2^63)=false:=decide_eq_false (by omega)
  rw [e1,e2,Bool.or_false]) (by rw [h1];simpa using h2) ⟨.str ⟨#[c]⟩,H,I.tok _,⟨_,rfl⟩,q⟩) hs
def rIx(K:tz0):R2:=fun x y H Q=>xy4 K x y H Q\/xy5 K x y H Q\/xy6 x y H Q
theorem yq2:IxR X (rIx X.K):=zg0.or (xr5.or xr6)
theorem yi3(its:List Value)(n j:Nat)(u:Value):Obj.mapSeq (·.setIfInBounds j u) {cls:= .type "list",data:= .seq its.toArray n}={cls:= .type "list",data:= .seq (its.set j u).toArray n}:=by
 simp [Obj.mapSeq]
theorem Inv.lst{pins:tzB}{σ:St}{H:Hp}{s:Shared}{p:Addr}{xs:List V}(I:Inv X pins σ H s)(h:H p=some (.lst xs)):
  ∃(its:List Value) (n:Nat),bN xs its/\s.heap.get? p=some {cls:= .type "list",data:= .seq its.toArray n}/\xs.length<=sizeLine:=by
 obtain⟨z,its,n,r,e⟩:=I.hok p _ h
 exact⟨its,n,r,e,z⟩
theorem Inv.lstUpd{pins:tzB}{σ:St}{H:Hp}{s:Shared}{p:Addr}{xs ys:List V}{its its':List Value}{n n':Nat}{f:Obj->Obj}(I:Inv X pins σ H s)(h:H p=some (.lst xs))
  (ho:s.heap.get? p=some {cls:= .type "list",data:= .seq its.toArray n}) (hf:f {cls:= .type "list",data:= .seq its.toArray n}={cls:= .type "list",data:= .seq its'.toArray n'}) (r:bN ys its') (hz:ys.length<=sizeLine) (t:Nat):
  Inv X pins σ (upd H p (.lst ys)) {s with heap:=s.heap.update p f,toks:=t}:=by
 have e:(s.heap.update p f).get? p=some {cls:= .type "list",data:= .seq its'.toArray n'}:=by
  rw [Heap.get?_update_self f ho (by rw [hf]<;>rfl),hf]
 refine I.write (x:=p) (e:=p) (by rw [h];trivial) (.inl rfl) (fun b u hb q=>(Heap.get?_update_other _ _ (Ne.symm hb)).trans q) ⟨_,e⟩ ?_
 exact⟨hz,its',n',r,e⟩
def wc5:V->V->V->Hp->(Hp->Prop)->Prop:=fun o i v H Q=>∃p xs k j,o= .ref p/\i= .int k/\H p=some (.lst xs)/\ixN xs.length k=some j/\Q (upd H p (.lst (xs.set j v)))
theorem yz5:xx6 X wc5:=by
 intro pins s σ H o i v ov iv u Q I ro ri rv h
 obtain⟨p,xs,k,j,rfl,rfl,hp,hj,q⟩:=h
 cases ro
 obtain⟨t,rfl⟩:=ri
 obtain⟨its,n,r,ho,hz⟩:=I.lst hp
 obtain⟨h1,h2,h3,h4⟩:=xU hj
 have hl:=r.length
 have hn:=rC
 have I':Inv X pins σ (upd H p (.lst (xs.set j v))) {s with heap:=s.heap.update p (Obj.mapSeq (·.setIfInBounds j u))}:=
  I.lstUpd hp ho (yi3 its n j u) (r.set rv j) (by rw [List.length_set];exact hz) s.toks
 by_cases h0:0<=k
 ·have hk:k.toNat=j:=by
   rw [seqIndex_of h0 h4] at h1
   exact Option.some.inj h1
  exact PySem.W.ki_setAt ho h0 (by omega) (by rw [List.size_toArray,<-hl];exact h4) (by rw [hk];exact⟨_,I',q⟩)
 ·have hk:(k+(its.toArray.size:Int)).toNat=j:=by
   rw [seqIndex_neg (by omega) h3] at h1
   rw [List.size_toArray,<-hl]
   exact Option.some.inj h1
  exact PySem.W.ki_setBack ho (by omega) (by rw [List.size_toArray,<-hl];exact h3) (by omega) (by rw [hk];exact⟨_,I',q⟩)
theorem zq5(lo hi:Option Int)(n:Nat):(sliceBounds lo hi none n).1=((HT.sIx n 0 lo:Nat):Int)/\(sliceBounds lo hi none n).2.1=((HT.sIx n n hi:Nat):Int)/\(sliceBounds lo hi none n).2.2=1:=by
 refine⟨?_,?_,rfl⟩
 ·cases lo with
  |none=>simp [sliceBounds,HT.sIx]
  |some i=>
   simp only [sliceBounds,HT.sIx,Option.getD_none,show(1:Int)>0 by decide,if_true]
   by_cases h:i<0
   ·simp only [h,if_true]<;>omega
   ·simp only [h,if_false]<;>omega
 ·cases hi with
  |none=>simp [sliceBounds,HT.sIx]
  |some i=>
   simp only [sliceBounds,HT.sIx,Option.getD_none,show(1:Int)>0 by decide,if_true]
   by_cases h:i<0
   ·simp only [h,if_true]<;>omega
   ·simp only [h,if_false]<;>omega
theorem zn5(its:List Value)(lo hi:Option Int):slicePick its.toArray lo hi none=((its.drop (HT.sIx its.length 0 lo)).take (HT.sIx its.length its.length hi-HT.sIx its.length 0 lo)).toArray:=by
 obtain⟨h1,h2,h3⟩:=zq5 lo hi its.toArray.size
 unfold slicePick
 rw [h1,h2,h3]
 simp only [sliceRange_one,pick_run,List.size_toArray]<;>rfl
def wg2(K:tz0):V->Option Int->Option Int->Hp->VK->Prop:=fun x lo hi H Q=>∃a xs,x= .ref a/\SqL K H a xs/\∀p,H p=none->Q (.ref p) (upd H p (.lst (zi5 xs lo hi)))
theorem xk3:SlR X (wg2 X.K):=by
 intro pins s σ H x v vl vu lo hi sl Q I rx hs pl pu h
 obtain⟨a,xs,rfl,hx,q⟩:=h
 cases rx
 obtain⟨its,r,ht,hz⟩:=I.list hx
 have hlen:=r.length
 refine⟨"list",_,slot_list_getitem.lookup,ht.isList.typeIs,?_⟩
 refine wpAny_getItem_list_slice ht.isList hs pl pu .none (by simp) ?_ (by rw [List.size_toArray]<;>omega)
 rw [zn5,<-hlen]
 refine⟨.ref s.heap.objs.size,_,I.laid (t':=s.toks) (o:= .lst (zi5 xs lo hi)) (fun b ob q=>Heap.get?_push_of_some _ q) (Nat.le_refl _) ?_,rfl,q _ (I.hok.fresh (Nat.le_refl _))⟩
 exact⟨Nat.le_trans (zz9 xs lo hi) hz,_,0,(r.drop (HT.sIx xs.length 0 lo)).take (HT.sIx xs.length xs.length hi-HT.sIx xs.length 0 lo),Heap.get?_push_size _ rfl⟩
def lI:V->Bool
 | .non=>true
 | .bl _=>true
 | .int _=>true
 | .str _=>true
 |_=>false
def eqV:V->V->Bool
 | .non,.non=>true
 | .bl a,.bl b=>a==b
 | .bl a,.int b=>(if a then 1 else 0)==b
 | .int a,.bl b=>a==(if b then 1 else 0)
 | .int a,.int b=>a==b
 | .str a,.str b=>a==b
 |_,_=>false
theorem xr7{A:Around}{s:Shared}{y x:V}{u v:Value}(ry:cM y u)(rx:cM x v)(fy:lI y=true)(fx:lI x=true):SeqAt.EqAt A s u v (eqV y x):=by
 cases y with
 |non=>
  cases ry
  cases x with
  |non=>cases rx;exact SeqAt.EqAt.same _
  |bl b=>cases rx;exact SeqAt.EqAt.none_bool b
  |int b=>obtain⟨t,rfl⟩:=rx;exact SeqAt.EqAt.none_int b t
  |str b=>obtain⟨t,rfl⟩:=rx;exact SeqAt.EqAt.none_str b t
  |_=>exact absurd (show false=true from fx) Bool.false_ne_true
 |bl a=>
  cases ry
  cases x with
  |non=>cases rx;exact SeqAt.EqAt.bool_none a
  |bl b=>cases rx;exact SeqAt.EqAt.bool_bool a b
  |int b=>obtain⟨t,rfl⟩:=rx;exact SeqAt.EqAt.bool_int a b t
  |str b=>obtain⟨t,rfl⟩:=rx;exact SeqAt.EqAt.bool_str a b t
  |_=>exact absurd (show false=true from fx) Bool.false_ne_true
 |int a=>
  obtain⟨t',rfl⟩:=ry
  cases x with
  |non=>cases rx;exact SeqAt.EqAt.int_none a t'
  |bl b=>cases rx;exact SeqAt.EqAt.int_bool a t' b
  |int b=>obtain⟨t,rfl⟩:=rx;exact SeqAt.EqAt.int_int a t' b t
  |str b=>obtain⟨t,rfl⟩:=rx;exact SeqAt.EqAt.int_str a t' b t
  |_=>exact absurd (show false=true from fx) Bool.false_ne_true
 |str a=>
  obtain⟨t',rfl⟩:=ry
  cases x with
  |non=>cases rx;exact SeqAt.EqAt.str_none a t'
  |bl b=>cases rx;exact SeqAt.EqAt.str_bool a t' b
  |int b=>obtain⟨t,rfl⟩:=rx;exact SeqAt.EqAt.str_int a t' b t
  |str b=>obtain⟨t,rfl⟩:=rx;exact SeqAt.EqAt.str_str a t' b t
  |_=>exact absurd (show false=true from fx) Bool.false_ne_true
 |_=>exact absurd (show false=true from fy) Bool.false_ne_true
def eqU(x:V)(u:Value):Bool:=match u with
 | .none=>eqV .non x
 | .bool b=>eqV (.bl b) x
 | .int i _=>eqV (.int i) x
 | .str z _=>eqV (.str z) x
 |_=>false
theorem yq3{x y:V}{u:Value}(r:cM y u)(f:lI y=true):eqU x u=eqV y x:=by
 cases y with
 |non=>cases r;rfl
 |bl b=>cases r;rfl
 |int i=>obtain⟨t,rfl⟩:=r;rfl
 |str z=>obtain⟨t,rfl⟩:=r;rfl
 |_=>exact absurd (show false=true from f) Bool.false_ne_true
theorem zg1{x:V}:∀{xs:List V} {us:List Value},bN xs us->xs.all lI=true->us.any (eqU x)=xs.any fun y=>eqV y x
 |_,_,.nil,_=>rfl
 |y::xs,u::us,.cons r t,f=>by
  rw [List.all_cons,Bool.and_eq_true] at f
  rw [List.any_cons,List.any_cons,yq3 r f.1,zg1 t f.2]
theorem yY{A:Around}{s:Shared}{x:V}{v:Value}(rx:cM x v)(fx:lI x=true):∀{xs:List V} {us:List Value},bN xs us->xs.all lI=true->∀u∈us,SeqAt.EqAt A s u v (eqU x u)
 |_,_,.nil,_=>fun u hu=>by cases hu
 |y::xs,u::us,.cons r t,f=>fun u' hu=>by
  rw [List.all_cons,Bool.and_eq_true] at f
  rcases List.mem_cons.mp hu with rfl|hu
  ·rw [yq3 r f.1];exact xr7 r rx f.1 fx
  ·exact yY rx fx t f.2 u' hu
def inV(x:V)(xs:List V):Bool:=xs.any fun y=>eqV y x
def rIn(K:tz0)(neg:Bool):R2:=fun x y H Q=>∃p xs,y= .ref p/\(SqL K H p xs\/SqT K H p xs)/\lI x=true/\xs.all lI=true/\Q (.bl (if neg then !inV x xs else inV x xs)) H
theorem yq4:OpR X (compareOp .In) (rIn X.K false):=⟨by
 intro pins s σ H x y v u Q I rx ry h
 obtain⟨p,xs,rfl,hq,fx,fs,q⟩:=h
 cases ry
 rcases hq with hq|hq
 ·obtain⟨its,r,pl,hz⟩:=I.list hq
  refine SeqAt.in_listAt (eqU x) pl.isList (fun w hw=>yY rx fx r fs w (by simpa using hw)) ⟨.bl _,H,I,rfl,?_⟩
  rw [show its.toArray.any (eqU x)=its.any (eqU x) by simp,zg1 r fs]
  exact q
 ·obtain⟨its,r,pl,hz⟩:=I.tuple hq
  refine SeqAt.in_tupleAt (eqU x) pl (fun w hw=>yY rx fx r fs w (by simpa using hw)) ⟨.bl _,H,I,rfl,?_⟩
  rw [show its.toArray.any (eqU x)=its.any (eqU x) by simp,zg1 r fs]
  exact q⟩
theorem zq6:OpR X (compareOp .NotIn) (fun x y H Q=>∃i j,x= .str i/\y= .str j/\Q (.bl (!(!(Builtin.Str.occurrences j i 0 j.length 1).isEmpty))) H):=⟨by
 intro pins s σ H x y v u Q I rx ry h
 obtain⟨i,j,rfl,rfl,q⟩:=h
 obtain⟨t,rfl⟩:=rx
 obtain⟨t',rfl⟩:=ry
 exact notIn_str ⟨.bl _,H,I,rfl,q⟩⟩
theorem jH:CallR X (.builtin "len") (fun xs H Q=>∃p ys,xs=[.ref p]/\(SqL X.K H p ys\/SqT X.K H p ys)/\Q (.int ys.length) H):=⟨by
 intro pins s σ H xs us Q I r h
 obtain⟨p,ys,rfl,hq,q⟩:=h
 obtain⟨u,rfl,rx⟩:=nX r
 cases rx
 have hn:=rC
 rcases hq with hq|hq
 ·obtain⟨its,r',pl,hz⟩:=I.list hq
  have hlen:=r'.length
  exact Calls.call_len_list pl.isList (by simp only [List.size_toArray]<;>omega) ⟨.int ys.length,H,I.tok _,⟨s.toks+1,by rw [List.size_toArray,hlen]⟩,q⟩
 ·obtain⟨its,r',pl,hz⟩:=I.tuple hq
  have hlen:=r'.length
  exact len_tuple pl (by simp only [List.size_toArray]<;>omega) ⟨.int ys.length,H,I.tok _,⟨s.toks+1,by rw [List.size_toArray,hlen]⟩,q⟩⟩
theorem zq7:CallR X (.builtin "len") (fun xs H Q=>∃z,xs=[.str z]/\z.length<=sizeLine/\Q (.int z.length) H):=⟨by
 intro pins s σ H xs us Q I r h
 obtain⟨z,rfl,hz,q⟩:=h
 obtain⟨u,rfl,t,rfl⟩:=nX r
 have hn:=rC
 exact len_str (by omega) ⟨.int z.length,H,I.tok _,⟨_,rfl⟩,q⟩⟩
theorem wH:CallR X (.type "tuple") (fun xs H Q=>∃p ys,xs=[.ref p]/\((SqL X.K H p ys/\∀l,H l=none->Q (.ref l) (upd H l (.tup ys)))\/(SqT X.K H p ys/\Q (.ref p) H))):=⟨by
 intro pins s σ H xs us Q I r h
 obtain⟨p,ys,rfl,h⟩:=h
 obtain⟨u,rfl,rx⟩:=nX r
 cases rx
 rcases h with ⟨hq,q⟩|⟨hq,q⟩
 ·obtain⟨its,r',pl,hz⟩:=I.list hq
  have hlen:=r'.length
  refine call_tuple_list pl.isList (fun h' kp=> ?_) (by simp only [List.size_toArray]<;>omega)
  have I1:Inv X pins σ H {s with heap:=h'}:=I.kept (t':=s.toks) kp
  have I2:Inv X pins σ (upd H h'.objs.size (.tup ys)) {s with heap:=h'.push {cls:= .type "tuple",data:= .seq its.toArray}}:=
   I1.laid (t':=s.toks) (fun b o e=>Heap.get?_push_of_some _ e) (Nat.le_refl _) (show dU X.prog X.w _ _ _ (.tup ys) from⟨hz,its,r',IsTup.new _ _⟩)
  exact⟨.ref h'.objs.size,_,I2,rfl,q _ (I1.hok.fresh (Nat.le_refl _))⟩
 ·obtain⟨its,r',pl,hz⟩:=I.tuple hq
  exact call_tuple_same pl ⟨.ref p,H,I,rfl,q⟩⟩
def tyV(K:tz0)(T:String)(x:V)(H:Hp):Prop:=match x with
 | .str _=>T="str"
 | .int _=>T="int"
 | .ref p=>(T="list"/\∃xs,SqL K H p xs)\/(T="tuple"/\∃o,K.lookup p=some o/\o.cls= .type "tuple"/\o.dict=none)\/
   (T="dict"/\((∃kvs,H p=some (.dK kvs))\/∃kvs,H p=some (.dT kvs)))\/(T="set"/\∃S n,H p=some (.set S n))
 |_=>False
theorem yq5{pins:tzB}{σ:St}{H:Hp}{s:Shared}{T:String}{x:V}{v:Value}(I:Inv X pins σ H s)(r:cM x v)(ty:tyV X.K T x H):
  s.TypeIs v T/\∀a,v= .ref a->∃ob,s.heap.get? a=some ob/\ob.dict=none:=by
 cases x with
 |str z=>
  obtain⟨t,rfl⟩:=r
  cases(show T="str" from ty)
  exact⟨typeIs_str s z t,fun _ e=>nomatch e⟩
 |int i=>
  obtain⟨t,rfl⟩:=r
  cases(show T="int" from ty)
  exact⟨typeIs_int s i t,fun _ e=>nomatch e⟩
 | ref p=>
  cases r
  rcases ty with ⟨rfl,xs,hq⟩|⟨rfl,o,hk,hc,hd⟩|⟨rfl,hk⟩|⟨rfl,S,n,hk⟩
  ·obtain⟨its,_,pl,_⟩:=I.list hq
   refine⟨pl.isList.typeIs,fun a e=> ?_⟩
   cases e
   obtain⟨o,n,e,c,hd,_⟩:=pl
   exact⟨o,e,hd⟩
  ·refine⟨⟨o,I.kIn p o hk,hc⟩,fun a e=> ?_⟩
   cases e
   exact⟨o,I.kIn _ o hk,hd⟩
  ·have z:∃o,s.heap.get? p=some o/\o.ExactDict:=by
    rcases hk with ⟨kvs,hk⟩|⟨kvs,hk⟩
    ·obtain⟨_,_,_,_,o,_,_,e,ex,_⟩:=I.hok p _ hk
     exact⟨o,e,ex⟩
    ·obtain⟨_,_,_,_,o,_,_,e,ex,_⟩:=I.hok p _ hk
     exact⟨o,e,ex⟩
   obtain⟨o,e,ex⟩:=z
   refine⟨⟨o,e,ex.1⟩,fun a e2=> ?_⟩
   cases e2
   exact⟨o,e,ex.2.1⟩
  ·obtain⟨o,_,_,_,e,ex,_⟩:=I.hok p _ hk
   refine⟨⟨o,e,ex.1⟩,fun a e2=> ?_⟩
   cases e2
   exact⟨o,e,ex.2.1⟩
 |_=>exact False.elim ty
def wg3(K:tz0)(T:String)(r:V->List V->Hp->VK->Prop)(to:TE):TE:=fun σ H Q=>to σ H fun x H1=>tyV K T x H1/\r x [] H1 Q
def tBM(K:tz0)(T:String)(r:V->List V->Hp->VK->Prop)(to:TE)(t:TA):TE:=fun σ H Q=>to σ H fun x H1=>tyV K T x H1/\t σ H1 fun xs H2=>r x xs H2 Q
variable{o e:Expr}{es:List Expr}{to:TE}{t:TA}{name:Str}{apos cpos:Pos}{T id:String}{r:V->List V->Hp->VK->Prop}
theorem xr8(pa:PlainAttrs T)(slot:Slot T name id)(hty:typeOf (.builtin id)=pure (.type "method_descriptor"))(hm:MtR X id r)(ho:PE X o to)
  (hbase:attributeBase o name X.env (eval o X.env)=eval o X.env:=by rfl) (hline:(apos.endLine==cpos.line)=true:=by rfl):PE X (.Call (.Attribute o name apos) [] [] cpos) (wg3 X.K T r to):=⟨by
 intro pins s σ H Q I h
 refine wpAny_Call_method0_late hbase hline (thn (ho pins s σ H _ I h) fun v s1 ⟨x,H1,I1,r1,ty,q1⟩=> ?_)
 obtain⟨h1,h2⟩:=yq5 I1 r1 ty
 exact⟨T,id,pa,slot,hty,h1,h2,Calls.callWith_builtin rfl (PySem.evalArgs_none (hm pins s1 σ H1 x [] v [] Q I1 r1 .nil q1))⟩⟩
theorem xg9(pa:PlainAttrs T)(slot:Slot T name id)(hty:typeOf (.builtin id)=pure (.type "method_descriptor"))(hm:MtR X id r)(ho:PE X o to)(ha:PA X (e::es) t)
  (hbase:attributeBase o name X.env (eval o X.env)=eval o X.env:=by rfl)
  (hfew:((backTo cpos (starEach (e::es) X.env)).all (fun x=> !x.1)&&(backToKw cpos (keywordEach [] X.env)).all (fun x=>x.1.isSome)
   &&decide ((e::es).length+([]:List Keyword).length+(if ([]:List Keyword).isEmpty then 0 else 1)<30))=true:=by rfl)
  (hline:(apos.endLine==cpos.line)=true:=by rfl) (hs:starEach (e::es) X.env=(false,eval e X.env)::starEach es X.env:=by rfl) (hplain:(backTo cpos (starEach es X.env)).any (·.1)=false:=by rfl):
  PE X (.Call (.Attribute o name apos) (e::es) [] cpos) (tBM X.K T r to t):=⟨by
 intro pins s σ H Q I h
 refine wpAny_Call_method_late hbase hfew hline rfl (thn (ho pins s σ H _ I h) fun v s1 ⟨x,H1,I1,r1,ty,q1⟩=> ?_)
 obtain⟨h1,h2⟩:=yq5 I1 r1 ty
 refine⟨T,id,pa,slot,hty,h1,h2,?_⟩
 have hA:=ha cpos pins s1 σ H1 _ I1 q1
 rw [hs] at hA|-
 refine Calls.callWith_builtin (by show(false||(backTo cpos (starEach es X.env)).any (·.1))=false;rw [hplain]<;>rfl) (Calls.evalArgs_plain ?_)
 exact thn hA fun us s2 ⟨vs,H2,I2,r2,q2⟩=>hm pins s2 σ H2 x vs v us Q I2 r1 r2 q2⟩
end
theorem bN.one:∀{x:V} {us:List Value},bN [x] us->∃u,us=[u]/\cM x u
 |_,_,.cons r .nil=>⟨_,rfl,r⟩
theorem bN.zero:∀{us:List Value},bN [] us->us=[]
 |_,.nil=>rfl
theorem bN.dropLast{xs:List V}{us:List Value}(h:bN xs us):bN xs.dropLast us.dropLast:=by
 induction h with
 |nil=>exact .nil
 |cons r t ih=>
  cases t with
  |nil=>exact .nil
  |cons q t'=>exact .cons r ih
theorem bN.rep{xs:List V}{us:List Value}(h:bN xs us):∀k:Nat,bN (List.replicate k xs).flatten (List.replicate k us).flatten
 |0=> .nil
 |k+1=>by
  rw [List.replicate_succ,List.replicate_succ,List.flatten_cons,List.flatten_cons]
  exact bN.append h (bN.rep h k)
theorem yi4{α:Type}(l:List α):l.eraseIdx (l.length-1)=l.dropLast:=by
 induction l with
 |nil=>rfl
 | cons a r ih=>
  cases r with
  |nil=>rfl
  | cons b r=>
   have e:(a::b::r).length-1=((b::r).length-1)+1:=by
    have h1:(a::b::r).length=r.length+2:=rfl
    have h2:(b::r).length=r.length+1:=rfl
    omega
   rw [e,List.eraseIdx_cons_succ,ih]
   all_goals rfl
theorem zj3(its:List Value):∀(k:Nat) (acc:List Value),
  List.foldl (fun x1 x2=>x1++x2) acc.toArray (List.replicate k its.toArray)=(acc++(List.replicate k its).flatten).toArray
 |0,acc=>by simp
 | k+1,acc=>by
  have e:acc.toArray++its.toArray=(acc++its).toArray:=by simp
  have e2:(acc++its)++(List.replicate k its).flatten=acc++(List.replicate (k+1) its).flatten:=by
   rw [List.replicate_succ,List.flatten_cons,List.append_assoc]
  rw [<-e2,<-zj3 its k (acc++its),<-e,List.replicate_succ,List.foldl_cons]
section
variable{X:Cx}{pins:tzB}{σ:St}{H:Hp}{s:Shared}{l b:Addr}{xs ys zs:List V}
theorem Inv.lset{its its':List Value}{n:Nat}{f:Array Value->Array Value}{t':Nat}(I:Inv X pins σ H s)(hH:H l=some (.lst xs))
  (e:s.heap.get? l=some {cls:= .type "list",data:= .seq its.toArray n}) (hf:f its.toArray=its'.toArray) (hv:bN ys its') (hz:ys.length<=sizeLine):
  Inv X pins σ (upd H l (.lst ys)) {s with heap:=s.heap.update l (Obj.mapSeq f),toks:=t'}:=by
 have q:=PySem.IsL.update e f
 rw [hf] at q
 refine I.write (x:=l) (e:=l) (by rw [hH];exact trivial) (.inl rfl) (fun b' u hb hu=>(Heap.get?_update_other s.heap (Obj.mapSeq f) (Ne.symm hb)).trans hu) ⟨_,q⟩ ?_
 exact⟨hz,its',_,hv,q⟩
theorem Inv.lnew{its:List Value}{t':Nat}(I:Inv X pins σ H s)(hv:bN ys its)(hz:ys.length<=sizeLine):
  Inv X pins σ (upd H s.heap.objs.size (.lst ys)) {s with heap:=s.heap.push {cls:= .type "list",data:= .seq its.toArray},toks:=t'}:=
 I.laid (fun _ _ q=>Heap.get?_push_of_some _ q) (Nat.le_refl _) ⟨hz,its,0,hv,Heap.get?_push_size _ rfl⟩
theorem Inv.fresh(I:Inv X pins σ H s):H s.heap.objs.size=none:=I.hok.fresh (Nat.le_refl _)
theorem Inv.lstM(I:Inv X pins σ H s)(hH:H l=some (.lst xs)):xs.length<=sizeLine/\∃(its:List Value) (n:Nat),bN xs its/\xs.length=its.length/\s.heap.get? l=some {cls:= .type "list",data:= .seq its.toArray n}:=by
 obtain⟨z,its,n,r,e⟩:=I.hok l _ hH
 exact⟨z,its,n,r,r.length,e⟩
theorem yz6{n:Nat}(h:n<=sizeLine):Builtin.List.listTooLong n=false:=by
 unfold Builtin.List.listTooLong
 exact decide_eq_false (by omega)
end
section
variable{X:Cx}
def xp6:V->List V->Hp->VK->Prop:=fun x vs H Q=>∃l xs y,x= .ref l/\vs=[y]/\H l=some (.lst xs)/\xs.length<sizeLine/\Q .non (upd H l (.lst (xs++[y])))
theorem zj4:MtR X "list.append" xp6:=⟨by
 intro pins s σ H x vs v us Q I rx rv h
 obtain⟨l,xs,y,rfl,rfl,hH,hz,q⟩:=h
 cases rx
 obtain⟨u,rfl,ru⟩:=rv.one
 obtain⟨z,its,n,r,hl,e⟩:=I.lstM hH
 refine call_meets F.slot_list_append ⟨_,e,rfl⟩ F.entry_list_append (F.args_list_append_2 _ _) (PySem.list_append l its.toArray n u (by rw [List.size_toArray];omega)) ⟨e,?_⟩
 refine⟨.non,_,I.lset (its':=its++[u]) hH e (by simp) (r.append (.cons ru .nil)) ?_,rfl,q⟩
 rw [List.length_append,List.length_singleton]
 omega⟩
def wg4:V->List V->Hp->VK->Prop:=fun x vs H Q=>∃l xs y,x= .ref l/\vs=[]/\H l=some (.lst xs)/\xs[xs.length-1]? =some y/\Q y (upd H l (.lst xs.dropLast))
theorem xr9:MtR X "list.pop" wg4:=⟨by
 intro pins s σ H x vs v us Q I rx rv h
 obtain⟨l,xs,y,rfl,rfl,hH,hy,q⟩:=h
 cases rx
 have hus:=rv.zero
 subst hus
 obtain⟨z,its,n,r,hl,e⟩:=I.lstM hH
 obtain⟨u,hu,ru⟩:=r.get hy
 have hy':its.toArray[its.toArray.size-1]? =some u:=by
  show its.toArray[its.length-1]? =some u
  rw [<-Array.getElem?_toList,<-hl]
  exact hu
 refine call_meets F.slot_list_pop ⟨_,e,rfl⟩ F.entry_list_pop (F.args_list_pop_1 _) (MeetsSeq.list_pop_last l its.toArray n u hy' (by rw [List.size_toArray];omega)) ⟨e,?_⟩
 refine⟨y,_,I.lset (its':=its.dropLast) hH e ?_ r.dropLast ?_,ru,q⟩
 ·show its.toArray.eraseIdxIfInBounds (its.toArray.size-1)=its.dropLast.toArray
  rw [List.size_toArray,List.eraseIdxIfInBounds_toArray,yi4]
 ·rw [List.length_dropLast]
  omega⟩
theorem xk4{α:Type}(xs:List α)(k:Nat):(List.replicate k xs).flatten.length=k*xs.length:=by
 induction k with
 |zero=>simp
 |succ k ih=>rw [List.replicate_succ,List.flatten_cons,List.length_append,ih,Nat.succ_mul,Nat.add_comm]
end
end L2
namespace Att
open PySem PySem.W PySem.Calls PyProof.Rows
theorem za3{P:Params}{h:Heap}:∀(ns:List Int) (vs:List Value),WellAll P h vs (ns.map WData.int)->IntsAre vs ns:=by
 intro ns
 induction ns with
 |nil=>
  intro vs w
  rw [List.map_nil] at w
  cases w
  exact .nil
 | cons n ns ih=>
  intro vs w
  rw [List.map_cons] at w
  cases w with
  |cons a b=>
   cases a
   exact .cons _ _ (ih _ b)
theorem yq6{l:OpenLaw}{n:Nat}(hn:l.most=some n){P:Params}{h:Heap}{args:List WData}{vals:List Value}
  (hpre:l.row.toRowW.claim.pre args=true) (hwl:WellAll P h vals args):
  ∃a vs ns,vals=[Value.ref a]/\args=[WData.list (ns.map WData.int)]/\h.get? a=some {cls:= .type "list",data:= .seq vs.toArray}/\IntsAre vs ns/\ns.length<=n:=by
 have hsh:WShape.hasAll [] args [.list .int]=true:=(pre_splitW hpre).1
 have hc:l.pre.holds [] {args:=args}=true:=(pre_splitW hpre).2
 obtain⟨d,r,rfl,h1,h2⟩:=hasAllW_cons hsh
 obtain rfl:=hasAllW_nil h2
 obtain⟨xs,rfl,h3⟩:=hasW_list h1
 obtain⟨ns,rfl⟩:=items_int h3
 have hlen:ns.length<=n:=by
  unfold OpenLaw.pre at hc
  have h4:(WTm.not (.lt (.lit (.int (n:Int))) (.len (.arg 0)))).holds [] {args:=[.list (ns.map .int)]}=true:=by
   have h4:=(holds_andW hc).1
   rw [hn] at h4
   exact h4
  have h5:=condW_of h4 (w_not (w_lt w_lit (w_len_list (w_arg rfl))))
  rw [List.length_map] at h5
  refine Nat.le_of_not_lt fun q=> ?_
  have q':(n:Int)<((ns.length:Nat):Int):=by omega
  first
   |(rw [decide_eq_true q'] at h5;exact absurd h5 (by decide))
   |(simp at h5;omega)
 cases hwl with
 |cons w1 w2=>
  cases w2
  cases w1 with
  |list ho hall=>exact⟨_,_,ns,rfl,rfl,ho,za3 ns _ hall,hlen⟩
theorem yq7(l:OpenLaw)(args:List WData):l.row.toRowW.claim.post args (.bool true) args=true:=
 postW_of (r:=l.row.toRowW) (X:=(true==true))
  (show WShape.has [] (.bool true) .bool=true by first|rfl|decide|simp [WShape.has,WShape.arms,WShape.armsAll])
  (show(WTm.eq .res (.lit (.bool true))).value [] {args:=args,res:=some (.bool true),after:=args}=some (.bool (true==true)) from w_eq_bool (w_res rfl) w_lit) rfl
theorem attach_call{l:OpenLaw}{n:Nat}{q:Program}{loose:List Str}{XP:(tzA)->Heap->Prop}{YP:World->Heap->Prop}{d:DefRec}
  (hn:l.most=some n) (hdf:d.params.defaults=[])
  (call:∀(w:World) (s₀ s₁:Shared) (mg mb:tzA) (fa:Addr) (o:Obj) (pm cd doc:Value) (a:Addr) (vs:List Value) (ns:List Int),
   Ground q loose [] XP w s₀ mg mb s₁.heap->YP w s₁.heap->
   s₁.heap.get? fa=some o->o.data= .func (docDef d.name d.params d.body d.scope pm cd doc)->s₁.heap.CodeRec cd d.name->mg d.name=some (.ref fa)->
   s₁.heap.get? a=some {cls:= .type "list",data:= .seq vs.toArray}->IntsAre vs ns->ns.length<=n->s₁.gens= #[]->
   codeAny (model l.prog w) callerA (.call (.ref fa) ⟨[.ref a],[]⟩) (fun r s'=>r= .ok (.ret (.bool true))/\OldK s₁.heap s'.heap/\s'.os=s₁.os/\AllBare s'.gens) s₁):
  WalkO q loose XP YP l.row.toRowW d [] (fun f vs=>PySem.call f vs):=by
 intro w s₀ s₁ mg mb G Y fa o pm cd doc dV kV ho hd hcd hD hmg hg args vals as hpre hlay hrd hwl hlo
 obtain rfl:dV= .none:=Dflts.none hD hdf
 obtain rfl:kV= .none:=Dflts.noKw hD
 obtain⟨a,vs,ns,rfl,rfl,hobj,hints,hlen⟩:=yq6 hn hpre hwl
 refine enter_call (codeAny_mono (call w s₀ s₁ mg mb fa o pm cd doc a vs ns G Y ho (fd_plain hd) hcd hmg hobj hints hlen hg) fun r s' hq=> ?_)
 obtain⟨rfl,h2,h3,h4⟩:=hq
 exact⟨.inl ⟨.bool true,.bool true,[],rfl,fun _=>rfl,.bool true,yq7 l _,fun _=>⟨List.Pairwise.nil,fun _ hm=>(nomatch hm)⟩⟩,h2,h3,h4⟩
end Att
namespace L2
open PySem PySem.Spec PyProof.Rows
theorem zj5:∀{vs:List Value} {ns:List Int},IntsAre vs ns->bN (ns.map V.int) vs
 |_,_,.nil=> .nil
 |_,_,.cons n t h=> .cons ⟨t,rfl⟩ (zj5 h)
def xf5(H:Hp):Prop:=∀b,H b=none\/∃o xs,H b=some (.frz o (.lst xs))
theorem yz7{P:Program}{w:World}{K:tz0}{mg mb:tzA}{CX:CXT}{k:Nat}{fa a:Addr}{fd:FuncData}{x:Str}{sp:Sp}{s₁:Shared}{vs:List Value}{ns:List Int}
  (KX:K.In s₁.heap) (hns:s₁.heap.Ns mainGlobals mg) (hb:s₁.heap.Ns builtinsNs mb) (hbb:∀x:Str,x≠"__name__"->mb x=bootBuiltins x) (hlim:s₁.heap.NoLimit) (hg:s₁.gens= #[])
  (ha:s₁.heap.get? a=some {cls:= .type "list",data:= .seq vs.toArray}) (hi:IntsAre vs ns) (hl:ns.length<=sizeLine) (hr:Room k callerA)
  (F:∀base:Heap,K.In base->base.Ns mainGlobals mg->FnOk P w K mg base CX k fa fd [x] sp) (hbind:∀(s:Shared) (u:Value),BindsTo s fd ⟨[u],[]⟩ [(x,u)])
  (hsp:∀H:Hp,xf5 H->SqL K H a (ns.map V.int)->sp [.ref a] H (fun v _=>v= .bl true) fun _ _ _=>False)
  (hCX:∀H e s',CX [] H s₁ (fun _ _ _=>False) e s'->False):
  codeAny (model P w) callerA (.call (.ref fa) ⟨[.ref a],[]⟩) (fun r s'=>r= .ok (.ret (.bool true))/\OldK s₁.heap s'.heap/\s'.os=s₁.os/\AllBare s'.gens) s₁:=by
 have rv:=zj5 hi
 have lenV:=hi.length
 have core:∀H:Hp,xf5 H->SqL K H a (ns.map V.int)->HOk P w H s₁.heap->(∀b,H b≠none->b=a)->(H a≠none->K.lookup a=none)->
   codeAny (model P w) callerA (.call (.ref fa) ⟨[.ref a],[]⟩) (fun r s'=>r= .ok (.ret (.bool true))/\OldK s₁.heap s'.heap/\s'.os=s₁.os/\AllBare s'.gens) s₁:=by
  intro H hO hS hok hA hK
  have base_of:∀{b:Addr} {o:Obj},s₁.heap.get? b=some o->H b=none->(vO s₁.heap H).get? b=some o:=fun e n=>yy2 e n
  have noA:∀{b:Addr} {o:Obj} {es:Array DictEntry} {ep:Nat},s₁.heap.get? b=some o->o.data= .dict es ep->H b=none:=fun {b o es ep} e d=>by
   cases q:H b with
   |none=>rfl
   |some u=>
    have e':b=a:=hA b (by rw [q];simp)
    subst e'
    rw [ha] at e;cases e
    have d':Data.seq vs.toArray _=Data.dict es ep:=d
    cases d'
  have nsK:∀{b:Addr} {m:tzA},s₁.heap.Ns b m->(vO s₁.heap H).Ns b m:=fun {b m} ⟨o,es,ep,e,d,r⟩=>⟨o,es,ep,base_of e (noA e d),d,r⟩
  have hKb:K.In (vO s₁.heap H):=fun b o e=>base_of (KX b o e) (by
   cases q:H b with
   |none=>rfl
   |some u=>
    have e':b=a:=hA b (by rw [q];simp)
    subst e'
    rw [hK (by rw [q];simp)] at e;cases e)
  have hM:Mod K mg (vO s₁.heap H):=⟨hKb,nsK hns,⟨mb,nsK hb,hbb⟩,let ⟨mc,h1,h2⟩:=hlim;⟨mc,nsK h1,h2⟩⟩
  have e0:Env0 P w K mg (vO s₁.heap H) callerA [] s₁ H:=⟨rfl,hM,fun b o e=>xj5 e,Nat.le_of_eq (yo3 _ _),trivial,fun b hb=>absurd (show b∈([]:List Addr) from hb) (by simp),hok,.of_eq hg⟩
  refine codeAny_mono ((F _ hKb (nsK hns)).run callerA [] s₁ H ⟨[.ref a],[]⟩ [.ref a] [.ref a] _ _ hr e0 (hbind s₁ (.ref a)) (.cons rfl .nil) (hsp H hO hS)) fun r s' h=> ?_
  cases r with
  |error e=>exact(hCX H e s' h).elim
  | ok fl=>
   cases fl with
   |next=>exact False.elim h
   |brk=>exact False.elim h
   |cont=>exact False.elim h
   | ret u=>
    obtain⟨v,H',os,bare,un,hok',r',q⟩:=h
    have q':v= .bl true:=q
    subst q'
    obtain rfl:u=Value.bool true:=r'
    refine⟨rfl,OldK.of_keep fun b o e=> ?_,os,bare⟩
    cases q:H b with
    |none=>exact un.keep b o e q (by intro z;exact absurd (show b∈([]:List Addr) from z) (by simp)) (by simp)
    | some u=>
     rcases hO b with z|⟨ob,xs,z⟩
     ·rw [q] at z;cases z
     ·have z2:=un.frzs b ob _ z
      obtain⟨e1,_⟩:=hok b _ z
      obtain⟨e2,_⟩:=hok' b _ z2
      rw [e] at e1;cases e1
      exact e2
 cases hk:K.lookup a with
 |some o=>
  have e:=KX a o hk
  rw [ha] at e
  cases e
  refine core (fun _=>none) (fun _=> .inl rfl) (.inr ⟨_,vs.toArray,_,hk,rfl,rfl,rfl,by rw [List.size_toArray,lenV];exact hl,by simpa using rv⟩) (fun b u z=>by have z':(none:Option HO)=some u:=z;cases z') (fun b z=>absurd rfl z) fun z=>absurd rfl z
 | none=>
  refine core (fun b=>if b=a then some (.frz {cls:= .type "list",data:= .seq vs.toArray} (.lst (ns.map V.int))) else none) (fun b=> ?_) (.inl (.inr ⟨{cls:= .type "list",data:= .seq vs.toArray},if_pos rfl⟩)) (fun b u z=> ?_) (fun b z=> ?_) fun _=>hk
  ·by_cases hb:b=a
   ·exact .inr ⟨_,_,if_pos hb⟩
   ·exact .inl (if_neg hb)
  ·by_cases hb:b=a
   ·have z':=(if_pos hb).symm.trans z
    cases z'
    subst hb
    exact⟨ha,by rw [List.length_map];exact hl,vs,_,rv,ha⟩
   ·have z':=(if_neg hb).symm.trans z
    cases z'
  ·by_cases hb:b=a
   ·exact hb
   ·exact absurd (if_neg hb) z
theorem xk5{l:PySem.W.OpenLaw}{n k:Nat}{q:Program}{loose:List Str}{XP:(tzA)->Heap->Prop}{YP:World->Heap->Prop}{d:DefRec}{K:Params->tz0}{CX:World->CXT}{sp:World->Sp}{x:Str}
  (hn:l.most=some n) (hn2:n<=sizeLine) (hdf:d.params.defaults=[]) (hr:Room k callerA)
  (hY:∀(w:World) (h:Heap),YP w h->(K w.params).In h)
  (F:∀(w:World) (mg:tzA) (fa:Addr) (h:Heap),(K w.params).In h->h.Ns mainGlobals mg->mg d.name=some (.ref fa)->
   ∃fd:FuncData,(∀(s:Shared) (u:Value),BindsTo s fd ⟨[u],[]⟩ [(x,u)])/\
    ∀base:Heap,(K w.params).In base->base.Ns mainGlobals mg->FnOk l.prog w (K w.params) mg base (CX w) k fa fd [x] (sp w))
  (hsp:∀(w:World) (H:Hp) (a:Addr) (ns:List Int),ns.length<=n->xf5 H->SqL (K w.params) H a (ns.map V.int)->sp w [.ref a] H (fun v _=>v= .bl true) fun _ _ _=>False)
  (hCX:∀(w:World) (H:Hp) (s:Shared) (e:Value) (s':Shared),CX w [] H s (fun _ _ _=>False) e s'->False):
  PySem.W.WalkO q loose XP YP l.row.toRowW d [] (fun f vs=>PySem.call f vs):=by
 refine Att.attach_call hn hdf fun w s₀ s₁ mg mb fa o pm cd doc a vs ns G Y ho hd hcd hmg hobj hints hlen hg=> ?_
 have KX:=hY w _ Y
 obtain⟨fd,hb,hF⟩:=F w mg fa _ KX G.T.g hmg
 exact yz7 KX G.T.g G.T.b G.T.builtins G.T.nolimit hg hobj hints (Nat.le_trans hlen hn2) hr hF hb (fun H hO hS=>hsp w H a ns hlen hO hS) fun H e s'=>hCX w H s₁ e s'
def lC(s:Stmt)(j:Nat):Stmt:=match s with
 | .ClassDef _ _ _ body _ _ _ _ _ _ _=>body.getD j (.Pass ⟨0,0,0,0⟩)
 |_=> .Pass ⟨0,0,0,0⟩
def uG(s:Stmt):Arguments:=match s with
 | .FunctionDef _ a _ _ _ _ _ _ _ _=>a
 |_=>{posonlyargs:=[],args:=[],vararg:=none,kwonlyargs:=[],kw_defaults:=[],kwarg:=none,defaults:=[]}
def jO(s:Stmt):List Stmt:=match s with
 | .FunctionDef _ _ b _ _ _ _ _ _ _=>b
 |_=>[]
def aW(s:Stmt):Scope:=match s with
 | .FunctionDef _ _ _ _ _ _ sc _ _ _=>sc
 |_=>{kind:= .function,names:=[],isGenerator:=false,isCoroutine:=false}
abbrev CX0:CXT:=fun _ _ _ _ _ _=>False
abbrev E0:XK:=fun _ _ _=>False
theorem uL{X:Cx}:oO CX0 X E0:=fun _ _ _ _ _ _ _ h=>h.elim
structure Fun(K:tz0)(x qual:Str)(st:Stmt)(f:Addr)(fd:FuncData):Prop where
 ex:∃(oc:Value) (od:Option Addr) (kV doc pm:Value) (an:Option Addr) (cdv ct:Value) (osl:Array (Option Value)),
  fd=PySem.W.fnOf x qual (uG st) (jO st) (aW st) .none kV doc pm an cdv ct/\K.lookup f=some ⟨oc,od,.func fd,osl⟩/\PySem.W.codeIn K cdv qual=true
 kp:PySem.W.keepIn K (.ref f)=true
section
variable{P:Program}{w:World}{K:tz0}{mg:tzA}{base:Heap}
theorem Fun.ok{x qual:Str}{st:Stmt}{f:Addr}{fd:FuncData}{N ps:List Str}{k:Nat}{sp:Sp}(F:Fun K x qual st f fd)(S:FnScope N ps (aW st))(len:∀vs H Q E,sp vs H Q E->vs.length=ps.length)
  (hbody:∀(cdv:Value) (A:Around) (outer:List Env) (s:Shared) (H:Hp) (vs:List V) (Q:VK) (E:XK),Room k (A.deeper (envOfC qual (aW st) s.heap.objs.size f cdv))->sp vs H Q E->
   ∃t,PSs (fQ CX0 P w K mg base N qual (aW st) f cdv A outer s H E).nox (jO st) t/\t {nx:=fun _ H'=>Q .non H',rt:=Q} (start N vs) H):FnOk P w K mg base CX0 (k+1) f fd ps sp:=by
 obtain⟨oc,od,kV,doc,pm,an,cdv,ct,osl,rfl,lk,hcd⟩:=F.ex
 refine zo3 lk hcd S len fun A outer s H vs Q E hr hsp=> ?_
 obtain⟨t,h,q⟩:=hbody cdv A outer s H vs Q E hr hsp
 exact⟨t,h.nox,q⟩
theorem Fun.binds{x qual:Str}{st:Stmt}{f:Addr}{fd:FuncData}{ps:List Str}(F:Fun K x qual st f fd)
  (h:∀(kV doc pm:Value) (an:Option Addr) (cdv ct:Value) (us:List Value),us.length=ps.length->bindArgs (PySem.W.fnOf x qual (uG st) (jO st) (aW st) .none kV doc pm an cdv ct) ⟨us,[]⟩=pure (ps.zip us)):lH K fd ps []:=by
 obtain⟨oc,od,kV,doc,pm,an,cdv,ct,osl,rfl,lk,hcd⟩:=F.ex
 exact .all (h kV doc pm an cdv ct)
theorem yq8{x qual:Str}{st:Stmt}{f:Addr}{oc:Value}{od an:Option Addr}{osl:Array (Option Value)}{kV doc pm cdv ct:Value}(l:K.lookup f=some ⟨oc,od,.func (PySem.W.fnOf x qual (uG st) (jO st) (aW st) .none kV doc pm an cdv ct),osl⟩)
  (c:PySem.W.codeIn K cdv qual=true) (k:PySem.W.keepIn K (.ref f)=true):Fun K x qual st f (PySem.W.fnOf x qual (uG st) (jO st) (aW st) .none kV doc pm an cdv ct):=⟨⟨oc,od,kV,doc,pm,an,cdv,ct,osl,rfl,l,c⟩,k⟩
end
theorem wa2{A:Around}{k:Nat}(hr:Room k A):A.units+1<cLine:=Nat.lt_of_le_of_lt (Nat.add_le_add_left (by decide:1<=64) _) hr.units
theorem sE{n:Nat}(h:n<=1000):n<sizeLine:=Nat.lt_of_le_of_lt h (by decide)
section
variable{X:Cx}
theorem pv(i:Nat){x:Str}{pos:Pos}(hN:X.N[i]? =some x:=by rfl)(hv:Vis X.env.scope x:=by first|exact Or.inl rfl|exact Or.inr (Or.inl rfl)|exact Or.inr (Or.inr rfl))(hd:(x==("__debug__":Str))=false:=by decide)
  (hcd:(x==("__classdict__":Str))=false:=by decide):PE X (.Name x pos) (xx3 i):=iP hN hv hd hcd
end
theorem wd4{c A B:Prop}[Decidable c](h1:c->A)(h2:¬c->B):if c then A else B:=by
 by_cases h:c
 ·rw [if_pos h]
  exact h1 h
 ·rw [if_neg h]
  exact h2 h
def yn5(H H':Hp):Prop:=∀b o,H b=some o->H' b=some o
theorem yn5.free{H H':Hp}(e:yn5 H H'){l:Addr}(h:H' l=Option.none):H l=Option.none:=by
 cases q:H l with
 |none=>rfl
 |some o=>
  rw [e l o q] at h
  cases h
section
variable{κ:Type}[DecidableEq κ]
def lE(kvs:List (κ×V))(k:κ):Option V:=(kvs.find? fun kv=>decide (kv.1=k)).map (·.2)
def rV(kvs:List (κ×V))(k:κ)(v:V):List (κ×V):=
 if (kvs.any fun kv=>decide (kv.1=k))=true then kvs.map (fun kv=>if kv.1=k then(kv.1,v) else kv) else kvs++[(k,v)]
theorem uM{p:κ×V}{r:List (κ×V)}{k:κ}(e:p.1=k):lE (p::r) k=some p.2:=by simp [lE,List.find?_cons,e]
theorem uN{p:κ×V}{r:List (κ×V)}{k:κ}(e:¬p.1=k):lE (p::r) k=lE r k:=by simp [lE,List.find?_cons,e]
theorem yZ(k:κ):∀kvs:List (κ×V),(kvs.any fun kv=>decide (kv.1=k))=(lE kvs k).isSome
 |[]=>rfl
 |p::r=>by
  rw [List.any_cons]
  by_cases e:p.1=k
  ·simp only [uM e,decide_eq_true e,Bool.true_or,Option.isSome_some]
  ·rw [uN e,decide_eq_false e,Bool.false_or];exact yZ k r
theorem ya0(kvs:List (κ×V))(k:κ)(v:V):(rV kvs k v).length<=kvs.length+1:=by
 unfold rV
 split
 ·rw [List.length_map];omega
 ·rw [List.length_append,List.length_cons,List.length_nil];omega
theorem yz8{kvs:List (κ×V)}{k:κ}(v:V)(h:lE kvs k=none):rV kvs k v=kvs++[(k,v)]:=by
 unfold rV
 rw [yZ,h]
 exact if_neg (by decide)
theorem jC.isSome_eq{o:Option V}{u:Option Value}(r:jC o u):o.isSome=u.isSome:=by
 cases o with
 |none=>cases u with
  |none=>rfl
  |some _=>exact(show False from r).elim
 |some _=>cases u with
  |none=>exact(show False from r).elim
  |some _=>rfl
theorem KV.val{kvs:List (κ×V)}{vs:List (κ×Value)}(r:KV kvs vs)(k:κ):jC (lE kvs k) (valueAt vs k):=by
 unfold KV at r
 induction r with
 |nil=>exact True.intro
 | @cons p q ps qs h t ih=>
  obtain⟨h1,h2⟩:=h
  by_cases e:p.1=k
  ·have e':q.1=k:=h1.symm.trans e
   have b:valueAt (q::qs) k=some q.2:=by simp [valueAt,List.find?_cons,e']
   rw [uM e,b];exact h2
  ·have e':¬q.1=k:=fun z=>e (h1.trans z)
   have b:valueAt (q::qs) k=valueAt qs k:=by simp [valueAt,List.find?_cons,e']
   rw [uN e,b];exact ih
theorem KV.any{kvs:List (κ×V)}{vs:List (κ×Value)}(r:KV kvs vs)(k:κ):(kvs.any fun kv=>decide (kv.1=k))=vs.any fun kv=>decide (kv.1=k):=by
 unfold KV at r
 induction r with
 |nil=>rfl
 |cons h t ih=>rw [List.any_cons,List.any_cons,ih,h.1]
theorem KV.repl{kvs:List (κ×V)}{vs:List (κ×Value)}(r:KV kvs vs)(k:κ){y:V}{u:Value}(ry:cM y u):
  KV (kvs.map fun kv=>if kv.1=k then(kv.1,y) else kv) (vs.map fun kv=>if kv.1=k then(kv.1,u) else kv):=by
 unfold KV at r|-
 induction r with
 |nil=>exact .nil
 | @cons p q ps qs h t ih=>
  rw [List.map_cons,List.map_cons]
  refine .cons ?_ ih
  obtain⟨h1,h2⟩:=h
  by_cases e:p.1=k
  ·rw [if_pos e,if_pos (h1.symm.trans e)];exact⟨h1,ry⟩
  ·rw [if_neg e,if_neg (fun z=>e (h1.trans z))];exact⟨h1,h2⟩
theorem KV.put{kvs:List (κ×V)}{vs:List (κ×Value)}(r:KV kvs vs)(k:κ){y:V}{u:Value}(ry:cM y u):KV (rV kvs k y) (stored vs k u):=by
 unfold rV stored
 rw [r.any k]
 by_cases e:(vs.any fun kv=>decide (kv.1=k))=true
 ·rw [if_pos e,if_pos e];exact r.repl k ry
 ·rw [if_neg e,if_neg e];exact Paired.snoc r ⟨rfl,ry⟩
end
theorem za4{P:Program}{w:World}{k:Key}{u:Value}(r:cM (kV k) u):(fA P w).is k u=true:=by
 cases k with
 |inl i=>obtain⟨t,e⟩:=(show ∃t,u=Value.int i t from r);subst e;exact zz8 P w i t
 |inr x=>obtain⟨t,e⟩:=(show ∃t,u=Value.str x t from r);subst e;exact dO P w x t
theorem zj6{P:Program}{w:World}:∀{ks:List Key} {us:List Value},bN (ks.map kV) us->ItemsAre (fA P w) ks us
 |[],_,r=>by rw [List.map_nil] at r;cases r;exact .nil
 |k::ks,_,r=>by
  rw [List.map_cons] at r
  cases r with
  |cons h t=>exact .cons (za4 h) (zj6 t)
abbrev KT(H:Hp):List (List Key×V)->List (List Key×Addr×Value)->Prop:=Paired fun p q=>p.1=q.1/\H q.2.1=some (.tup (p.1.map kV))/\cM p.2 q.2.2
theorem KT.val{H:Hp}{kvs:List (List Key×V)}{xs:List (List Key×Addr×Value)}(r:KT H kvs xs)(k:List Key):jC (lE kvs k) ((atKey xs k).map (·.2)):=by
 induction r with
 |nil=>exact True.intro
 | @cons p q ps qs h t ih=>
  obtain⟨h1,_,h2⟩:=h
  by_cases e:p.1=k
  ·have e':q.1=k:=h1.symm.trans e
   have b:atKey (q::qs) k=some q.2:=by simp [atKey,List.find?_cons,e']
   rw [uM e,b];exact h2
  ·have e':¬q.1=k:=fun z=>e (h1.trans z)
   have b:atKey (q::qs) k=atKey qs k:=by simp [atKey,List.find?_cons,e']
   rw [uN e,b];exact ih
section
variable{P:Program}{w:World}{H:Hp}{h:Heap}{a:Addr}
theorem xh0{u:HO}(ok:HOk P w H h)(e:Rd H a u):dU P w H h a u:=e.ok ok
theorem yi5{kvs:List (Key×V)}(ok:HOk P w H h)(e:Rd H a (.dK kvs)):kvs.length<=sizeLine/\(a==sysModules)=false/\∃vs,KV kvs vs/\h.DictOf (fA P w) a vs:=
 show dU P w H h a (.dK kvs) from xh0 ok e
theorem wa3{kvs:List (Key×V)}(ok:HOk P w H h)(e:H a=some (.dK kvs)):kvs.length<=sizeLine/\(a==sysModules)=false/\∃vs,KV kvs vs/\h.DictOf (fA P w) a vs:=yi5 ok (.inl e)
theorem yq9{ks:List Key}(ok:HOk P w H h)(e:H a=some (.tup (ks.map kV))):(tupleKind (fA P w)).is h ks a:=by
 obtain⟨_,its,r,o,h1,h2,n,h3⟩:=(show dU P w H h a (.tup (ks.map kV)) from ok a _ e)
 exact⟨o,its.toArray,n,h1,h2,h3,by simpa using zj6 r⟩
theorem xh1{kvs:List (List Key×V)}(ok:HOk P w H h)(e:Rd H a (.dT kvs)):kvs.length<=sizeLine/\(a==sysModules)=false/\
  ∃xs,KT H kvs xs/\h.DictOfH (tupleKind (fA P w)) a xs:=by
 obtain⟨z,y,xs,r,o,es,ep,h1,h2,h3,h4,h5⟩:=(show dU P w H h a (.dT kvs) from xh0 ok e)
 refine⟨z,y,xs,r,o,es,ep,h1,h2,h3,h4,fun x hx=> ?_,h5⟩
 have all:∀{l:List (List Key×V)} {m:List (List Key×Addr×Value)},KT H l m->∀x∈m,(tupleKind (fA P w)).is h x.1 x.2.1:=by
  intro l m q
  induction q with
  |nil=>intro x hx;exact nomatch hx
  | @cons p q ps qs hq t ih=>
   intro x hx
   rcases List.mem_cons.mp hx with e|hx
   ·subst e
    exact yq9 ok (by rw [<-hq.1];exact hq.2.1)
   ·exact ih x hx
 exact all r x hx
end
def yn6(H:Hp)(a:Addr)(y:V)(r:Option V):Prop:=
 (∃kvs k,Rd H a (.dK kvs)/\y=kV k/\r=lE kvs k)\/∃kvs k b,Rd H a (.dT kvs)/\y= .ref b/\H b=some (.tup (k.map kV))/\r=lE kvs k
section
variable{X:Cx}{pins:tzB}{σ:St}{H:Hp}{s:Shared}{a:Addr}{y v:V}{u r:Value}{o:Option V}{A:Around}{E:Value->Shared->Prop}
theorem Inv.big(I:Inv X pins σ H s):sysModules<s.heap.objs.size:=by
 have h:mainGlobals<s.heap.objs.size:=(I.mod.glob.keeps I.bk).lt
 exact Nat.lt_trans (by decide) h
theorem yr0{Q:Value->Shared->Prop}(hu:A.units+1<cLine)(I:Inv X pins σ H s)(g:yn6 H a y (some v))(ry:cM y u)(h:∀w' s',Inv X pins σ H s'->cM v w'->Q w' s'):
  wpAny (model X.prog X.w) A (getItem (.ref a) u) Q E s:=by
 rcases g with ⟨kvs,k,e,ey,l⟩|⟨kvs,k,b,e,ey,eb,l⟩
 ·subst ey
  obtain⟨z,hd,vs,rel,dd⟩:=yi5 I.hok e
  obtain⟨w',hw,rw'⟩:=jC.some_of (v:=v) (o:=valueAt vs k) (by rw [l];exact rel.val k)
  exact wpAny_getItem_of (za4 ry) dd.mapOf hw (h w' _ (I.tok _) rw')
 ·subst ey
  cases(show u=Value.ref b from ry)
  obtain⟨z,hd,xs,rel,dd⟩:=xh1 I.hok e
  obtain⟨w',hw,rw'⟩:=jC.some_of (v:=v) (o:=(atKey xs k).map (·.2)) (by rw [l];exact rel.val k)
  obtain⟨p,hp,hp2⟩:=Option.map_eq_some_iff.mp hw
  refine wpAny_getItem_heap (tupleKind_room_in1 hu) (yq9 I.hok eb) dd hp ?_
  rw [hp2]
  exact h w' _ (I.tok _) rw'
theorem xk6{h':Heap}{t':Nat}{ob:HO}(I:Inv X pins σ H s)(mu:Mut (H a))(hs:Heap.SameBut a s.heap h')(he:∃q,h'.get? a=some q)(new:dU X.prog X.w (upd H a ob) h' a ob):
  Inv X pins σ (upd H a ob) {s with heap:=h',toks:=t'}:=
 I.write (x:=a) (e:=a) mu (.inl rfl) (fun b q hb z=>(hs.2 b hb).trans z) he new
theorem xs0{P:Program}{w:World}{H':Hp}{h':Heap}{kvs:List (Key×V)}{vs:List (Key×Value)}(z:kvs.length<=sizeLine)(hd:(a==sysModules)=false)(rel:KV kvs vs)(dd:h'.DictOf (fA P w) a vs):
  dU P w H' h' a (.dK kvs):=⟨z,hd,vs,rel,dd⟩
end
def zy3(i:Expr):Prop:=∀ov iv,subscripted i false ov iv=operate [ov,iv] (getItem ov iv)
theorem yc6{prog:Program}{w:World}{A:Around}{E:Value->Shared->Prop}{s:Shared}{env:Env}{value slice:Expr}{pos:Pos}{T id:String}{Q:Value->Shared->Prop}
  (hl:typeLookup (.type T) "__getitem__"=pure (some (.builtin id))) (hs:zy3 slice)
  (h:wpAny (model prog w) A (eval value env) (fun o s₁=>wpAny (model prog w) A (eval slice env) (fun i s₂=>s₂.TypeIs o T/\wpAny (model prog w) A (getItem o i) Q E s₂) E s₁) E s):
  wpAny (model prog w) A (eval (.Subscript value slice pos) env) Q E s:=by
 refine Subscript_ (wpAny_mono h (fun o s₁ h₁=>wpAny_mono h₁ (fun i s₂ h₂=> ?_) fun _ _ x=>x) fun _ _ x=>x)
 obtain⟨hT,h₂⟩:=h₂
 unfold subscriptTail
 refine wpAny_bind ?_
 rw [getitemInPython_of_ne hT.not_modules]
 refine wpAny_bind (wpAny_specialOf hT hl ?_)
 have fin:wpAny (model prog w) A (subscripted slice false o i) (fun r s₃=>wpAny (model prog w) A (letTemporaryGo value o r>>=fun _=>pure r) Q E s₃) E s₂:=by
  rw [hs o i]
  exact wpAny_operating (wpAny_mono h₂ (fun r s₃ h₃=>wpAny_bind (wpAny_letTemporaryGo (wpAny_pure h₃))) fun _ _ x=>x)
 first
  |exact wpAny_pure (wpAny_bind fin)
  |exact wpAny_bind (wpAny_pure (wpAny_bind fin))
  |exact wpAny_bind fin
theorem ya1{X:Cx}{pins:tzB}{σ:St}{H:Hp}{s:Shared}{a:Addr}{y:V}{o:Option V}(I:Inv X pins σ H s)(g:yn6 H a y o):s.TypeIs (.ref a) "dict":=by
 rcases g with ⟨kvs,k,e,_,_⟩|⟨kvs,k,b,e,_,_,_⟩
 ·obtain⟨_,_,vs,_,dd⟩:=yi5 I.hok e
  exact dd.typeIs
 ·obtain⟨_,_,xs,_,dd⟩:=xh1 I.hok e
  exact dd.typeIs
def wc6(td ty:TE):TE:=fun σ H Q=>td σ H fun x H1=>ty σ H1 fun y H2=>∃a v,x= .ref a/\yn6 H2 a y (some v)/\Q v H2
section
variable{X:Cx}{o i e value:Expr}{pos pos' tpos:Pos}{td ty tv:TE}
theorem xk7(hu:X.A.units+1<cLine)(ho:PE X o td)(hi:PE X i ty)(hs:zy3 i):PE X (.Subscript o i pos) (wc6 td ty):=⟨by
 intro pins s σ H Q I h
 refine yc6 PySem.F.slot_dict_getitem.lookup hs (thn (ho pins s σ H _ I h) fun u s1 ⟨x,H1,I1,rx,q1⟩=>thn (hi pins s1 σ H1 _ I1 q1) fun iv s2 ⟨y,H2,I2,ry,a,v,ex,g,q2⟩=> ?_)
 subst ex
 obtain rfl:u=Value.ref a:=rx
 exact⟨ya1 I2 g,yr0 hu I2 g ry fun w' s3 I3 rw'=>⟨v,H2,I3,rw',q2⟩⟩⟩
end
theorem yz9{P:Program}{w:World}{H:Hp}(h:Heap)(hb:sysModules<h.objs.size):dU P w H (h.push {cls:= .type "dict",data:= .dict #[]}) h.objs.size (.dK []):=
 ⟨Nat.zero_le _,beq_eq_false_iff_ne.mpr (Ne.symm (Nat.ne_of_lt hb)),[],.nil,Heap.DictOf.new h⟩
def ze4:List (TE×TE)->St->Hp->(List (V×V)->Hp->Prop)->Prop
 |[],_,H,Q=>Q [] H
 |(tk,tv)::r,σ,H,Q=>tk σ H fun x H1=>tv σ H1 fun y H2=>ze4 r σ H2 fun ps H3=>Q ((x,y)::ps) H3
abbrev VV:List (V×V)->List (Value×Value)->Prop:=Paired fun p q=>cM p.1 q.1/\cM p.2 q.2
def xy7(X:Cx)(pos:Pos)(keys:List (Option Expr))(values:List Expr)(trs:List (TE×TE)):Prop:=
 ∀(pins:tzB) (s:Shared) (σ:St) (H:Hp) (Q:List (V×V)->Hp->Prop),Inv X pins σ H s->ze4 trs σ H Q->
  wpAny (model X.prog X.w) X.A (evalPairs (pairTrees keys values X.env pos)) (fun vs s'=>∃ps H',Inv X pins σ H' s'/\VV ps vs/\Q ps H') X.xe s
structure PPs(X:Cx)(pos:Pos)(keys:List (Option Expr))(values:List Expr)(trs:List (TE×TE)):Prop where
 go:xy7 X pos keys values trs
instance {X:Cx} {pos:Pos} {keys:List (Option Expr)} {values:List Expr} {trs:List (TE×TE)}:CoeFun (PPs X pos keys values trs) fun _=>xy7 X pos keys values trs:=⟨PPs.go⟩
theorem xk8{X:Cx}{pos:Pos}:PPs X pos [] [] []:=⟨fun pins s σ H Q I h=>pairTrees_nil_walk ⟨[],H,I,.nil,h⟩⟩
theorem uO{X:Cx}{pos:Pos}{k v:Expr}{ks:List (Option Expr)}{vs:List Expr}{tk tv:TE}{trs:List (TE×TE)}(hk:PE X k tk)(hv:PE X v tv)(hr:PPs X pos ks vs trs):
  PPs X pos (some k::ks) (v::vs) ((tk,tv)::trs):=⟨fun pins s σ H Q I h=>
 pairTrees_cons_walk (thn (hk pins s σ H _ I h) fun u s1 ⟨x,H1,I1,rx,q1⟩=>thn (hv pins s1 σ H1 _ I1 q1) fun w2 s2 ⟨y,H2,I2,ry,q2⟩=>
  thn (hr pins s2 σ H2 _ I2 q2) fun ws s3 ⟨ps,H3,I3,rel,q3⟩=>⟨(x,y)::ps,H3,I3,.cons ⟨rx,ry⟩ rel,q3⟩)⟩
def pU(kvs more:List (Key×V)):List (Key×V):=more.foldl (fun acc kv=>rV acc kv.1 kv.2) kvs
theorem KV.merge:∀{more:List (Key×V)} {rs:List (Key×Value)} {kvs:List (Key×V)} {vs:List (Key×Value)},KV more rs->KV kvs vs->KV (pU kvs more) (merged vs rs):=by
 intro more rs kvs vs r
 unfold KV at r
 induction r generalizing kvs vs with
 |nil=>intro q;exact q
 | @cons p q ps qs h t ih=>
  intro r0
  have e:KV (rV kvs p.1 p.2) (stored vs q.1 q.2):=by
   have:=r0.put p.1 h.2
   rw [<-h.1];exact this
  exact ih e
theorem wI:∀(more kvs:List (Key×V)),(pU kvs more).length<=kvs.length+more.length
 |[],kvs=>by show kvs.length<=kvs.length+0;omega
 |p::r,kvs=>by
  have h1:=wI r (rV kvs p.1 p.2)
  have h2:=ya0 kvs p.1 p.2
  show(pU (rV kvs p.1 p.2) r).length<=_
  rw [List.length_cons];omega
theorem za5{P:Program}{w:World}:∀{kvs:List (Key×V)} {ws:List (Value×Value)},VV (kvs.map fun kv=>(kV kv.1,kv.2)) ws->∃rs,Carries (fA P w) ws rs/\KV kvs rs
 |[],_,r=>by rw [List.map_nil] at r;cases r;exact⟨[],True.intro,.nil⟩
 | p::kvs,_,r=>by
  rw [List.map_cons] at r
  cases r with
  | @cons a b as bs h t=>
   obtain⟨rs,c,q⟩:=za5 (P:=P) (w:=w) t
   obtain⟨b1,b2⟩:=b
   exact⟨(p.1,b2)::rs,⟨za4 h.1,rfl,c⟩,.cons ⟨rfl,h.2⟩ q⟩
def wc7(trs:List (TE×TE)):TE:=fun σ H Q=>∀p,H p=none->ze4 trs σ (upd H p (.dK [])) fun ps H2=>H2 p=some (.dK [])/\∃kvs:List (Key×V),ps=kvs.map (fun kv=>(kV kv.1,kv.2))/\kvs.length<=15/\Q (.ref p) (upd H2 p (.dK (pU [] kvs)))
theorem xk9{X:Cx}{pos:Pos}{keys:List (Option Expr)}{values:List Expr}{trs:List (TE×TE)}(h:PPs X pos keys values trs)(hall:keys.all (·.isSome)=true)(hl:keys.length=values.length)(h0:keys≠[])
  (h15:keys.length<=15):PE X (.Dict keys values pos) (wc7 trs):=⟨by
 intro pins s σ H Q I q
 have hn:=I.hok.fresh (Nat.le_refl s.heap.objs.size)
 have I1:=I.laid (a:=s.heap.objs.size) (o:= .dK []) (h':=s.heap.push {cls:= .type "dict",data:= .dict #[]}) (t':=s.toks) (fun _ _ q=>Heap.get?_push_of_some _ q) (Nat.le_refl _) (yz9 s.heap I.big)
 refine wpAny_Dict_walk (knd:=fA X.prog X.w) hall hl h0 h15 (thn (h pins _ σ _ _ I1 (q _ hn)) fun ws s2 ⟨ps,H2,I2,rel,e,kvs,ep,lk,q2⟩=> ?_)
 subst ep
 obtain⟨rs,c,rk⟩:=za5 (P:=X.prog) (w:=X.w) rel
 obtain⟨z,hd,vs0,r0,dd⟩:=wa3 I2.hok e
 cases r0
 refine⟨rs,c,dd,fun h' dd' hs=>⟨.ref s.heap.objs.size,_,?_,rfl,q2⟩⟩
 have hz:(pU [] kvs).length<=sizeLine:=by
  have h1:=wI kvs []
  rw [List.length_nil] at h1
  rw [sizeLine_eq];omega
 have he:∃q,h'.get? s.heap.objs.size=some q:=let ⟨q,_,_,hq,_⟩:=dd';⟨q,hq⟩
 exact xk6 I2 (by rw [e];exact True.intro) hs he (xs0 hz hd (rk.merge .nil) dd')⟩
structure M1(X:Cx)(o:Expr)(m:Str)(apos:Pos)(e:Expr)(cpos:Pos):Prop where
 base:attributeBase o m X.env (eval o X.env)=eval o X.env
 few:((backTo cpos (starEach [e] X.env)).all (fun x=> !x.1)&&(backToKw cpos (keywordEach [] X.env)).all (fun x=>x.1.isSome)
  &&decide (([e]:List Expr).length+([]:List Keyword).length+(if ([]:List Keyword).isEmpty then 0 else 1)<30))=true
 line:(apos.endLine==cpos.line)=true
 trees:backTo cpos (starEach [e] X.env)=[(false,eval e X.env)]
structure M2(X:Cx)(o:Expr)(m:Str)(apos:Pos)(e f:Expr)(cpos:Pos):Prop where
 base:attributeBase o m X.env (eval o X.env)=eval o X.env
 few:((backTo cpos (starEach [e,f] X.env)).all (fun x=> !x.1)&&(backToKw cpos (keywordEach [] X.env)).all (fun x=>x.1.isSome)
  &&decide (([e,f]:List Expr).length+([]:List Keyword).length+(if ([]:List Keyword).isEmpty then 0 else 1)<30))=true
 line:(apos.endLine==cpos.line)=true
 trees:backTo cpos (starEach [e,f] X.env)=[(false,eval e X.env),(false,eval f X.env)]
structure Dn(K:tz0)(mg:tzA)(x:Str)(st:Stmt)(ps:List Str)(f:Addr)(fd:FuncData):Prop where
 F:Fun K x x st f fd
 b:lH K fd ps []
 m:mg x=some (.ref f)
section
variable{X:Cx}{x:Str}{st:Stmt}{ps:List Str}{f:Addr}{fd:FuncData}{k:Nat}{sp:Sp}{p pos:Pos}{e:Expr}{es:List Expr}{t:TA}
theorem yi6(D:Dn X.K X.mg x st ps f fd)(G:FnOk X.prog X.w X.K X.mg X.base CX0 k f fd ps sp)(hr:Room k X.A)(hg:Gl X x)(ha:PA X (e::es) t)
  (hdb:(x==("__debug__":Str))=false:=by decide) (he:starEach (e::es) X.env=(false,eval e X.env)::starEach es X.env:=by rfl) (hpl:(backTo pos (starEach es X.env)).any (·.1)=false:=by rfl):
  PE X (.Call (.Name x p) (e::es) [] pos) (xi2 sp [] E0 t):=yc5 G hr hg D.m D.F.kp D.b .nil uL ha hdb he hpl
end
theorem xa0{H:Hp}{p:Addr}(h:H p=none)(o:HO):yn5 H (upd H p o):=fun b u q=>by rw [cI (eQ q h)];exact q
theorem zo5{n:Nat}(h:n<=1000):n<=sizeLine:=Nat.le_of_lt (sE h)
def uH(H:Hp):V->Option String
 | .non=>some "NoneType"
 | .bl _=>some "bool"
 | .int _=>some "int"
 | .str _=>some "str"
 | .ref a=>match H a with
  |some (.lst _)=>some "list"
  |some (.frz _ (.lst _))=>some "list"
  |some (.tup _)=>some "tuple"
  |some (.dK _)=>some "dict"
  |_=>none
 |_=>none
def eR(t c:String):Bool:=decide (t=c)||(decide (t="bool")&&decide (c="int"))
def kinds:List String:=["NoneType","bool","int","str","list","tuple","dict"]
theorem zq8(K:tz0):∀t∈kinds,∀c∈["bool","int","str","list","tuple","dict"],PySem.W.kitOne K (.type t) (.type c)=some (eR t c):=by
 intro t ht c hc
 simp only [kinds,List.mem_cons,List.not_mem_nil,or_false] at ht hc
 rcases ht with rfl|rfl|rfl|rfl|rfl|rfl|rfl<;>rcases hc with rfl|rfl|rfl|rfl|rfl|rfl<;>rfl
theorem yr1{K:tz0}{H:Hp}{x:V}{t:String}(h:uH H x=some t):TyOf K H x (.type t)/\t∈kinds:=by
 cases x with
 |non=>cases h;exact⟨.non,by decide⟩
 |bl b=>cases h;exact⟨.bl b,by decide⟩
 |int i=>cases h;exact⟨.int i,by decide⟩
 |str x=>cases h;exact⟨.str x,by decide⟩
 | ref a=>
  have h':(match H a with
   |some (.lst _)=>some "list"
   |some (.frz _ (.lst _))=>some "list"
   |some (.tup _)=>some "tuple"
   |some (.dK _)=>some "dict"
   |_=>none)=some t:=h
  cases e:H a with
  |none=>rw [e] at h';cases h'
  | some o=>
   rw [e] at h'
   cases o with
   |lst xs=>cases h';exact⟨.lst e,by decide⟩
   |tup xs=>cases h';exact⟨.tup e,by decide⟩
   |dK kvs=>cases h';exact⟨.dK e,by decide⟩
   |frz ob u=>
    cases u with
    |lst xs=>cases h';exact⟨.frz e,by decide⟩
    |_=>cases h'
   |_=>cases h'
 |_=>cases h
section
variable{X:Cx}
theorem zq9:CallR X (.builtin "isinstance") (fun xs H Q=>∃x c t,xs=[x,.ty c]/\uH H x=some t/\c∈["bool","int","str","list","tuple","dict"]/\Q (.bl (eR t c)) H):=⟨by
 intro pins s σ H xs us Q I r h
 obtain⟨x,c,t,rfl,ht,hc,q⟩:=h
 obtain⟨u,v,rfl,rx,rc⟩:=zo2 r
 cases(show v=Value.type c from rc)
 obtain⟨ty,hk⟩:=yr1 (K:=X.K) ht
 exact yp8 I rx ty (zq8 X.K t hk c hc) fun tk=>⟨.bl (eR t c),H,I.tok tk,rfl,q⟩⟩
def sLt(i j:Str):Bool:=decide (i.cps.toList<j.cps.toList)
theorem yr2:OpR X (compareOp .LtE) (fun x y H Q=>∃i j,x= .str i/\y= .str j/\Q (.bl (!sLt j i)) H):=⟨by
 intro pins s σ H x y v u Q I rx ry h
 obtain⟨i,j,rfl,rfl,q⟩:=h
 obtain⟨t,rfl⟩:=rx
 obtain⟨t',rfl⟩:=ry
 exact PySem.P.le_str (dH I q rfl)⟩
theorem zj7:∀{bs:List Bool} {us:List Value},bN (bs.map V.bl) us->LSm.BoolsAre us bs
 |[],_,.nil=> .nil
 |b::bs,_,.cons r t=>by
  cases(show _=Value.bool b from r)
  exact .cons b (zj7 t)
theorem yr3(hc:X.calm=true):CallR X (.builtin "all") (fun xs H Q=>∃(a:Addr) (bs:List Bool),xs=[.ref a]/\SqL X.K H a (bs.map V.bl)/\Q (.bl (bs.all id)) H):=⟨by
 intro pins s σ H xs us Q I r h
 obtain⟨a,bs,rfl,hq,q⟩:=h
 obtain⟨u,rfl,rx⟩:=nX r
 cases(show u=Value.ref a from rx)
 obtain⟨its,rv,p,hz⟩:=I.list hq
 have hl:=p.isList
 have hb:=zj7 rv
 have hlt:a<s.heap.objs.size:=by obtain⟨_,e,_⟩:=hl;exact Heap.lt_size e
 refine call_all_walk (wpAny_pyIter_list hl ?_)
 refine⟨s.heap.objs.size,[s.heap.objs.size,a],[s.heap.objs.size],its.toArray.size,_,_,fun i=>(bs[i]?).getD true,rfl,Walks.list (A:=X.A.in1) (I.ok.hd hc) _ a (Nat.ne_of_lt hlt) its.toArray,
  ⟨⟨_,Heap.get?_push_size _ rfl,rfl,rfl⟩,hl.push _⟩,fun i v s' Q' E' hP hQ=> ?_,fun h' tk hk=> ?_⟩
 ·obtain⟨b,e,rfl⟩:=hb.get i v (by simpa using hP)
  simp only [e,Option.getD_some] at hQ
  exact wpAny_truthy_bool hQ
 ·have e:((List.range its.toArray.size).all fun i=>(bs[i]?).getD true)=bs.all id:=by
   rw [List.size_toArray,hb.length];exact LSm.range_all bs
  rw [e]
  exact⟨.bl (bs.all id),H,I.kept (LSm.kept_iter hk),rfl,q⟩⟩
end
theorem uP{env:Env}:∀(names:List (Str×NameKind)) (cs:List (Str×Addr)),
  (∀y∈names,y.2= .free->∃c,env.cells.lookup y.1=some c)->(∀x c,cs.lookup x=some c->env.cells.lookup x=some c)->
  ∃ cl,(forIn names cs fun(y:Str×NameKind) (r:List (Str×Addr))=>
    (if (y.2== .free)=true then(do let a<-cellOf env y.1;pure (ForInStep.yield ((y.1,a)::r))) else pure (ForInStep.yield r):Sem (ForInStep (List (Str×Addr)))))=pure cl/\
   (∀x c,cl.lookup x=some c->env.cells.lookup x=some c)/\(∀x c,cs.lookup x=some c->∃c',cl.lookup x=some c')/\(∀y∈names,y.2= .free->∃c,cl.lookup y.1=some c)
 |[],cs,_,hc=>⟨cs,rfl,hc,fun x c h=>⟨c,h⟩,fun y hy=>absurd hy (List.not_mem_nil)⟩
 | (n,k)::r,cs,hn,hc=>by
  have hr:∀y∈r,y.2= .free->∃c,env.cells.lookup y.1=some c:=fun y hy=>hn y (List.mem_cons_of_mem _ hy)
  by_cases hk:k= .free
  ·subst hk
   obtain⟨c,e⟩:=hn (n,.free) List.mem_cons_self rfl
   have hc':∀x c',((n,c)::cs).lookup x=some c'->env.cells.lookup x=some c':=fun x c' h=>by
    rw [List.lookup_cons] at h
    cases hx:x==n with
    |true=>
     rw [hx] at h
     have e1:x=n:=by simpa using hx
     have e2:c=c':=Option.some.inj h
     rw [e1,<-e2];exact e
    |false=>rw [hx] at h;exact hc x c' h
   obtain⟨cl,h1,h2,h3,h4⟩:=uP (env:=env) r ((n,c)::cs) hr hc'
   refine⟨cl,?_,h2,fun x c' h=> ?_,fun y hy hf=> ?_⟩
   ·rw [List.forIn_cons]
    have e0:cellOf env n=pure c:=by unfold cellOf;rw [e]
    simp only [e0]
    exact h1
   ·cases hx:x==n with
    |true=>
     have e1:x=n:=by simpa using hx
     exact h3 x c (by rw [List.lookup_cons,hx])
    |false=>exact h3 x c' (by rw [List.lookup_cons,hx];exact h)
   ·rcases List.mem_cons.mp hy with e1|hy
    ·rw [e1];exact h3 n c (by rw [List.lookup_cons];simp)
    ·exact h4 y hy hf
  ·obtain⟨cl,h1,h2,h3,h4⟩:=uP (env:=env) r cs hr hc
   refine⟨cl,?_,h2,h3,fun y hy hf=> ?_⟩
   ·rw [List.forIn_cons]
    have e0:(k==NameKind.free)=false:=by simpa using hk
    simp only [e0]
    exact h1
   ·rcases List.mem_cons.mp hy with e1|hy
    ·rw [e1] at hf;exact absurd hf hk
    ·exact h4 y hy hf
theorem yi7{env:Env}{scope:Scope}(h:∀y∈scope.names,y.2= .free->∃c,env.cells.lookup y.1=some c):
  ∃cl,closureFor scope env=pure cl/\(∀x c,cl.lookup x=some c->env.cells.lookup x=some c)/\(∀y∈scope.names,y.2= .free->∃c,cl.lookup y.1=some c):=by
 obtain⟨cl,h1,h2,_,h4⟩:=uP (env:=env) scope.names [] h (fun x c e=>by simp at e)
 refine⟨cl,?_,h2,h4⟩
 have e:((forIn scope.names [] fun(y:Str×NameKind) (r:List (Str×Addr))=>
    (if (y.2== .free)=true then(do let a<-cellOf env y.1;pure (ForInStep.yield ((y.1,a)::r))) else pure (ForInStep.yield r):Sem (ForInStep (List (Str×Addr)))))>>=fun s=>pure s)=pure cl:=by rw [h1];rfl
 exact e
structure CScope(sc:Scope)(NX N:List Str)(pick:List (Option Nat))(scope:Scope):Prop where
 kind:scope.kind= .function
 nocell:∀y∈scope.names,y.2≠ .cell
 names:∀y∈scope.names,y.2= .local->scope.names.lookup y.1=some .local
 frees:∀y∈scope.names,y.2= .free->sc.names.lookup y.1=some .cell\/sc.names.lookup y.1=some .free
 pk:∀p∈N.zip pick,∀j∈p.2,NX[j]? =some p.1/\scope.names.lookup p.1=some .free
 nd:N.Nodup
 len:pick.length=N.length
def qI(pick:List (Option Nat))(σ:St):St:=pick.map fun o=>o.bind fun j=>(σ[j]?).join
def cxB(X:Cx)(N:List Str)(scope:Scope)(cl:List (Str×Addr))(fp:List Addr)(s:Shared)(H:Hp):Cx where
 prog:=X.prog
 w:=X.w
 K:=X.K
 mg:=X.mg
 base:=X.base
 A:=X.A
 N:=N
 s₀:=s
 H₀:=H
 env:=compEnvC scope cl s.heap.objs.size X.env
 outer:=X.stack
 stack:=X.stack
 ex:=fp
 fn:=fun _=>false
 calm:=X.calm
 pn:=[]
 xe:=fun _ _=>False
def xy8(X:Cx)(ifs:List Expr)(t:TT):Prop:=
 ∀(pins:tzB) (s:Shared) (σ:St) (H:Hp) (Q:Bool->Hp->Prop),Inv X pins σ H s->t σ H Q->
  wpAny (model X.prog X.w) X.A (forIn ifs true fun c r=>if r=true then do let ok<-isTrue c X.env (eval c X.env);pure (ForInStep.yield ok) else pure (ForInStep.yield r)) (TP X pins σ Q) X.xe s
structure PTs(X:Cx)(ifs:List Expr)(t:TT):Prop where
 go:xy8 X ifs t
instance {X:Cx} {ifs:List Expr} {t:TT}:CoeFun (PTs X ifs t) fun _=>xy8 X ifs t:=⟨PTs.go⟩
def wg5:TT:=fun _ H Q=>Q true H
theorem xs1{X:Cx}:PTs X [] wg5:=⟨fun pins s σ H Q I h=>wpAny_tests_nil ⟨H,I,h⟩⟩
section
variable{prog:Program}{w:World}{A:Around}{R:Result->Shared->Prop}{s:Shared}
theorem yr4{elt target iter:Expr}{ifs:List Expr}{scope:Scope}{pos:Pos}{it acc:Value}{env:Env}(I:Nat->Shared->Prop)
  (turn:∀n s,I n s->wpAny (model prog w) A (pyNext it) (fun r s1=>match r with
   |none=>R (.ok .next) s1
   | some v=>wpAny (model prog w) A (letOwnedTupleGo target it v) (fun _ s1=>wpAny (model prog w) A (assign target env v) (fun _ s2=>
     wpAny (model prog w) A (forIn ifs true fun c r=>if r=true then do let ok<-isTrue c env (eval c env);pure (ForInStep.yield ok) else pure (ForInStep.yield r)) (fun ok s3=>
      if ok=true then wpAny (model prog w) A (eval elt env) (fun x s4=>
       wpAny (model prog w) A (call (.builtin "list.append") [acc,x]) (fun _ s5=>∃m,m<n/\I m s5) (fun _ _=>False) s4) (fun _ _=>False) s3
      else ∃m,m<n/\I m s3) (fun _ _=>False) s2) (fun _ _=>False) s1) (fun _ _=>False) s1) (fun _ _=>False) s)
  (n:Nat) (h:I n s):codeAny (model prog w) A (.compLoop (.ListComp elt [⟨target,iter,ifs,0⟩] scope pos) 0 it acc env) R s:=by
 refine codeAny_loop rfl I (fun n s hI=> ?_) n h
 show wpAny _ A ((compTurn (.ListComp elt [⟨target,iter,ifs,0⟩] scope pos) 0 it acc env).onRaise (fun x=>do noteFrame x env;theTreesLotGoes x)) _ _ s
 refine wpAny_noted ?_
 rw [compTurn_list]
 refine wpAny_bind (wpAny_standAt (wpAny_bind (wpAny_mono (turn n s hI) (fun r s1 h1=> ?_) fun _ _ z=>z.elim)))
 cases r with
 |none=>exact wpAny_pure h1
 | some v=>
  refine wpAny_bind (wpAny_mono h1 (fun _ s1 h1=>wpAny_bind (wpAny_mono h1 (fun _ s2 h2=>wpAny_bind (wpAny_mono h2 (fun ok s3 h3=> ?_) fun _ _ z=>z.elim)) fun _ _ z=>z.elim)) fun _ _ z=>z.elim)
  cases ok with
  |false=>exact wpAny_pure ⟨rfl,h3⟩
  |true=>
   exact wpAny_bind (wpAny_bind (wpAny_mono h3 (fun x s4 h4=>wpAny_bind (wpAny_mono h4 (fun _ s5 h5=>wpAny_pure (wpAny_pure ⟨rfl,h5⟩)) fun _ _ z=>z.elim)) fun _ _ z=>z.elim))
end
def xy9(pick:List (Option Nat))(wi:TI)(g:TG)(tt:TT)(te:TE)(σ:St)(H:Hp)(Q:Addr->Hp->Prop):Prop:=wi σ H fun J H1=>∀D,H1 D=none->
 ∃ W:Nat->Nat->St->Hp->Prop,(∃m,W 0 m (qI pick σ) (upd H1 D (.lst [])))/\∀i m σ' H',W i m σ' H'->
  (J.stop i H'/\Q D H')\/(J.go i H'/\∀x H2,J.yld i H' x H2->g x σ' H2 fun σ3 H3=>tt σ3 H3 fun b H4=>
   if b=true then te σ3 H4 fun y H5=>∃ys,H5 D=some (.lst ys)/\ys.length<sizeLine/\∃m',m'<m/\W (i+1) m' σ3 (upd H5 D (.lst (ys++[y]))) else ∃m',m'<m/\W (i+1) m' σ3 H4)
def wc8(pick:List (Option Nat))(wi:TI)(g:TG)(tt:TT)(te:TE):TE:=fun σ H Q=>xy9 pick wi g tt te σ H fun D H'=>Q (.ref D) H'
section
variable{X:Cx}{sc:Scope}{NX N:List Str}{pick:List (Option Nat)}{elt tg iter:Expr}{ifs:List Expr}{scope:Scope}{pos:Pos}{wi:TI}{g:TG}{tt:TT}{te:TE}
theorem iK{env:Env}:∀{names:List (Str×NameKind)} {x:Str} {k:NameKind},(∀y∈names,y.2≠ .cell)->
  (names.map fun(n,k)=>if (k==NameKind.free&&env.scope.kind== .function&&env.kindOf n==some .cell) then(n,NameKind.cell) else(n,k)).lookup x=some k->(k= .cell\/k= .free)->(x,NameKind.free)∈names
 |[],_,_,_,h,_=>by simp at h
 | (n,k0)::r,x,k,hn,h,hk=>by
  have hr:∀y∈r,y.2≠ .cell:=fun y hy=>hn y (List.mem_cons_of_mem _ hy)
  have h':List.lookup x ((if (k0==NameKind.free&&env.scope.kind== .function&&env.kindOf n==some .cell)=true then(n,NameKind.cell) else(n,k0))::(r.map fun(n,k)=>if (k==NameKind.free&&env.scope.kind== .function&&env.kindOf n==some .cell) then(n,NameKind.cell) else(n,k)))=some k:=h
  by_cases hc:(k0==NameKind.free&&env.scope.kind== .function&&env.kindOf n==some .cell)=true
  ·rw [if_pos hc,List.lookup_cons] at h'
   cases hx:x==n with
   | true=>
    have e1:x=n:=by simpa using hx
    have e2:k0= .free:=by
     simp only [Bool.and_eq_true,beq_iff_eq] at hc
     exact hc.1.1
    rw [e1,e2];exact List.mem_cons_self
   |false=>rw [hx] at h';exact List.mem_cons_of_mem _ (iK hr h' hk)
  ·rw [if_neg hc,List.lookup_cons] at h'
   cases hx:x==n with
   | true=>
    rw [hx] at h'
    have e1:x=n:=by simpa using hx
    have e2:k0=k:=Option.some.inj h'
    have e3:k0= .free:=by
     rcases hk with z|z
     ·exact absurd (e2.trans z) (hn (n,k0) List.mem_cons_self)
     ·exact e2.trans z
    rw [e1,e3];exact List.mem_cons_self
   |false=>rw [hx] at h';exact List.mem_cons_of_mem _ (iK hr h' hk)
theorem sF{env:Env}:∀{names:List (Str×NameKind)} {x:Str},names.lookup x=some .free->
  (names.map fun(n,k)=>if (k==NameKind.free&&env.scope.kind== .function&&env.kindOf n==some .cell) then(n,NameKind.cell) else(n,k)).lookup x=some .cell\/
  (names.map fun(n,k)=>if (k==NameKind.free&&env.scope.kind== .function&&env.kindOf n==some .cell) then(n,NameKind.cell) else(n,k)).lookup x=some .free
 |[],_,h=>by simp at h
 | (n,k0)::r,x,h=>by
  have ih:= @sF env r x
  show List.lookup x ((if (k0==NameKind.free&&env.scope.kind== .function&&env.kindOf n==some .cell)=true then(n,NameKind.cell) else(n,k0))::_)=_\/List.lookup x ((if (k0==NameKind.free&&env.scope.kind== .function&&env.kindOf n==some .cell)=true then(n,NameKind.cell) else(n,k0))::_)=_
  rw [List.lookup_cons] at h
  cases hx:x==n with
  |true=>
   rw [hx] at h
   have e:k0= .free:=Option.some.inj h
   subst e
   by_cases hc:(NameKind.free==NameKind.free&&env.scope.kind== .function&&env.kindOf n==some .cell)=true
   ·rw [if_pos hc];left;rw [List.lookup_cons,hx]
   ·rw [if_neg hc];right;rw [List.lookup_cons,hx]
  | false=>
   rw [hx] at h
   rcases ih h with z|z
   ·left
    by_cases hc:(k0==NameKind.free&&env.scope.kind== .function&&env.kindOf n==some .cell)=true
    ·rw [if_pos hc,List.lookup_cons,hx];exact z
    ·rw [if_neg hc,List.lookup_cons,hx];exact z
   ·right
    by_cases hc:(k0==NameKind.free&&env.scope.kind== .function&&env.kindOf n==some .cell)=true
    ·rw [if_pos hc,List.lookup_cons,hx];exact z
    ·rw [if_neg hc,List.lookup_cons,hx];exact z
theorem yr5{pins:tzB}{σ:St}{H:Hp}{s:Shared}{cl:List (Str×Addr)}{fp:List Addr}{h':Heap}{tk:Nat}(S:CScope sc NX N pick scope)(hsc:X.env.scope=sc)(hNX:X.N=NX)
  (I:Inv X pins σ H s) (hf:∀b∈fp,rT X pins H b) (ho:∀b∈fp,∃o,s.heap.get? b=some o)
  (c1:∀x c,cl.lookup x=some c->X.env.cells.lookup x=some c) (c2:∀y∈scope.names,y.2= .free->∃c,cl.lookup y.1=some c)
  (hns:h'.Ns s.heap.objs.size fun _=>none) (hk:∀b o,s.heap.get? b=some o->h'.get? b=some o):
  Inv (cxB X N scope cl fp s H) [] (qI pick σ) H {s with heap:=h',toks:=tk}:=by
 have lt:∀b∈fp,b<s.heap.objs.size:=fun b hb=>by obtain⟨o,e⟩:=ho b hb;exact Heap.lt_size e
 refine⟨⟨I.ok.mod,S.kind,I.ok.glob,I.ok.blt,Nat.le_refl _,fun x y c h1 h2=>I.ok.inj x y c (c1 x c h1) (c1 y c h2),fun x hx=> ?_,fun x c z=>absurd z (by simp [cxB]),I.ok.hd,I.ok.frames,.inl rfl,
  fun b hb=>⟨Nat.ne_of_lt (lt b hb),fun x c e=>(hf b hb).2.2.2.2.1 x c (c1 x c e)⟩,I.bs,Nat.le_trans I.ok.bsz I.sz,fun b o e hb=> ?_,fun b hb z=> ?_,I.stack,I.stkFree⟩,
  rfl,I.bare,Un.kept hk,⟨_,hns,fun i x v h1 h2 h3=> ?_⟩,fun x c e=> ?_,I.hok.fresh (Nat.le_refl _),fun x c e=>I.freeC x c (c1 x c e),fun p hp=>absurd (show p∈([]:tzB) from hp) (by simp),I.hok.kept hk,?_⟩
 ·have hx':(relabel scope X.env).names.lookup x=some .cell\/(relabel scope X.env).names.lookup x=some .free:=hx
  have hm:(x,NameKind.free)∈scope.names:=by
   rcases hx' with z|z
   ·exact iK S.nocell z (.inl rfl)
   ·exact iK S.nocell z (.inr rfl)
  exact c2 _ hm rfl
 ·rcases(hf b hb).2.2.2.1 with z|z
  ·exact I.ok.noex b o e z
  ·exact absurd (Nat.lt_of_lt_of_le (Heap.lt_size e) (Nat.le_trans I.ok.bsz z)) (Nat.lt_irrefl _)
 ·rcases List.mem_cons.mp (I.stkSub b z) with z|z
  ·exact(hf b hb).2.1 z
  ·exact(hf b hb).2.2.1 z
 ·
  have hN':N[i]? =some x:=h1
  have h2':(qI pick σ)[i]? =some (some v):=h2
  unfold qI at h2'
  rw [List.getElem?_map] at h2'
  cases ep:pick[i]? with
  |none=>rw [ep] at h2';cases h2'
  | some o=>
   rw [ep] at h2'
   cases o with
   |none=>cases h2'
   | some j=>
    have h4:(σ[j]?).join=some v:=Option.some.inj h2'
    have h5:σ[j]? =some (some v):=by
     cases e:σ[j]? with
     |none=>rw [e] at h4;cases h4
     |some q=>rw [e] at h4;exact congrArg some h4
    have hz:(x,some j)∈N.zip pick:=by
     refine List.mem_of_getElem? (i:=i) ?_
     rw [List.getElem?_zip_eq_some];exact⟨hN',ep⟩
    obtain⟨h6,h7⟩:=S.pk _ hz j rfl
    have hfr:(x,NameKind.free)∈scope.names:=PySem.mem_of_lookup h7
    have hcf:=S.frees _ hfr rfl
    have hcf':X.env.kindOf x=some .cell\/X.env.kindOf x=some .free:=by
     show X.env.scope.names.lookup x=_\/X.env.scope.names.lookup x=_
     rw [hsc];exact hcf
    obtain⟨m,hn,hl⟩:=I.loc
    obtain⟨u,ru,lk⟩:=hl j x v (by rw [hNX];exact h6) h5 (.inr hcf')
    refine⟨u,ru,.inr ⟨sF h7,?_⟩⟩
    obtain⟨c,ec⟩:=c2 _ hfr rfl
    refine⟨c,ec,?_⟩
    rcases lk with ⟨k1,_⟩|⟨_,c',ec',hcell⟩
    ·rcases hcf' with z|z
     ·rw [k1] at z;cases z
     ·rw [k1] at z;cases z
    ·have e':=c1 x c ec
     rw [ec'] at e'
     cases e'
     obtain⟨o,e1,e2⟩:=hcell
     exact⟨o,hk _ _ e1,e2⟩
 ·obtain⟨v,o,e1,e2⟩:=I.cell x c (c1 x c e)
  exact⟨v,o,hk _ _ e1,e2⟩
 ·show(qI pick σ).length=N.length
  unfold qI
  rw [List.length_map];exact S.len
theorem yi8{pins:tzB}{σ σ':St}{H H':Hp}{s s':Shared}{cl:List (Str×Addr)}{fp:List Addr}(I:Inv X pins σ H s)(hf:∀b∈fp,rT X pins H b)
  (J:Inv (cxB X N scope cl fp s H) [] σ' H' s'):Inv X pins σ H' s':=
 I.call' (ch:=fp) J.os J.base J.hok J.bare fun b hb=>⟨(hf b hb).2.2.2.1,(hf b hb).2.1,(hf b hb).2.2.2.2.1,(hf b hb).2.2.2.2.2⟩
theorem yi9{pins:tzB}{σ:St}{H2:Hp}{s2:Shared}{cl:List (Str×Addr)}{J:It}{fp:List Addr}{it:Addr}{tn:Nat->Heap->Prop}{RR:Value->Addr->Result->Shared->Prop}{E:Value->Shared->Prop}{Q:Addr->Hp->Prop}
  (S:CScope sc NX N pick scope) (hsc:X.env.scope=sc) (hNX:X.N=NX) (hc:X.calm=true)
  (hg:∀cl fp s H,PG (cxB X N scope cl fp s H) tg g) (ht:∀cl fp s H,PTs (cxB X N scope cl fp s H) ifs tt) (he:∀cl fp s H,PE (cxB X N scope cl fp s H) elt te)
  (I2:Inv X pins σ H2 s2) (T:Turn X.prog X.w X.K tg J fp it tn) (st2:tn 0 s2.heap) (f2:∀b∈fp,rT X pins H2 b)
  (c1:∀x c,cl.lookup x=some c->X.env.cells.lookup x=some c) (c2:∀y∈scope.names,y.2= .free->∃c,cl.lookup y.1=some c)
  (q:∀D,H2 D=none->∃W:Nat->Nat->St->Hp->Prop,(∃m,W 0 m (qI pick σ) (upd H2 D (.lst [])))/\∀i m σ' H',W i m σ' H'->
   (J.stop i H'/\Q D H')\/(J.go i H'/\∀x H2,J.yld i H' x H2->g x σ' H2 fun σ3 H3=>tt σ3 H3 fun b H4=>
    if b=true then te σ3 H4 fun y H5=>∃ys,H5 D=some (.lst ys)/\ys.length<sizeLine/\∃m',m'<m/\W (i+1) m' σ3 (upd H5 D (.lst (ys++[y]))) else ∃m',m'<m/\W (i+1) m' σ3 H4))
  (fin:∀D C H' s',Inv X pins σ H' s'->H' C=none->X.s₀.heap.objs.size<=C->C≠X.env.locals->(∀x c,X.env.cells.lookup x=some c->c≠C)->(∀p∈X.pn++pins,p.1≠C)->(∃m,s'.heap.Ns C m)->Q D H'->RR (.ref D) C (.ok .next) s'):
  wpAny (model X.prog X.w) X.A (newList []) (fun acc s3=>wpAny (model X.prog X.w) X.A (newFunctionEnv scope X.env.globals cl [] X.env.qual none .none (some X.env)) (fun cenv s4=>
   codeAny (model X.prog X.w) X.A (.compStart (.ListComp elt [⟨tg,iter,ifs,0⟩] scope pos) 0 (.ref it) acc {cenv with scope:=relabel scope X.env}) (RR acc cenv.locals) s4) E s3) E s2:=by
 have hD:H2 s2.heap.objs.size=none:=I2.hok.fresh (Nat.le_refl _)
 obtain⟨W,⟨m0,w0⟩,turn⟩:=q _ hD
 refine wpAny_newObj_type (wpAny_newFunctionEnv S.nocell (by intro y hy;simp at hy) (fun h1 hns hsb=> ?_) S.kind)
 have I3:Inv X pins σ (upd H2 s2.heap.objs.size (.lst [])) {s2 with heap:=s2.heap.push {cls:= .type "list",dict:=none,data:= .seq ([]:List Value).toArray}}:=
  I2.lnew (t':=s2.toks) (its:=[]) (ys:=[]) .nil (Nat.zero_le _)
 have ne:∀b∈fp,b≠s2.heap.objs.size:=fun b hb z=>by
  obtain⟨o,e,_⟩:=T.obj _ _ st2 b hb
  exact absurd (Heap.lt_size e) (by rw [z];exact Nat.lt_irrefl _)
 have f3:∀b∈fp,rT X pins (upd H2 s2.heap.objs.size (.lst [])) b:=fun b hb=>⟨by rw [cI (ne b hb)];exact(f2 b hb).1,(f2 b hb).2⟩
 have ho3:∀b∈fp,∀o,s2.heap.get? b=some o->(s2.heap.push {cls:= .type "list",dict:=none,data:= .seq ([]:List Value).toArray}).get? b=some o:=fun b _ o e=>Heap.get?_push_of_some _ e
 have st3:=T.keep _ _ _ st2 ho3
 generalize hH3:s2.heap.push {cls:= .type "list",dict:=none,data:= .seq ([]:List Value).toArray}=H3 at hns hsb I3 ho3 st3|-
 dsimp only at hns hsb|-
 have hk:∀b o,H3.get? b=some o->h1.get? b=some o:=fun b o e=>hsb.extBut b o (Nat.ne_of_lt (Heap.lt_size e)) (Heap.get?_push_of_some _ e)
 have B0:Inv (cxB X N scope cl fp {s2 with heap:=H3} (upd H2 s2.heap.objs.size (.lst []))) [] (qI pick σ) (upd H2 s2.heap.objs.size (.lst [])) {s2 with heap:=h1,toks:=s2.toks+([]:List (Str×Value)).length}:=
  yr5 (s:={s2 with heap:=H3}) S hsc hNX I3 f3 (fun b hb=>by obtain⟨o,e,_⟩:=T.obj _ _ st3 b hb;exact⟨o,e⟩) c1 c2 hns hk
 have st4:tn 0 h1:=T.keep _ _ _ st3 fun b _ o e=>hk b o e
 have fpY:∀{H':Hp},(∀b∈fp,H' b=none)->∀b∈fp,rT (cxB X N scope cl fp {s2 with heap:=H3} (upd H2 s2.heap.objs.size (.lst []))) [] H' b:=fun hn b hb=>
  ⟨hn b hb,(B0.ok.exf b hb).1,B0.ok.exfs b hb,.inl hb,(B0.ok.exf b hb).2,fun p hp=>absurd (show p∈([]:tzB) from hp) (by simp)⟩
 have loop:∀s4:Shared,s4={s2 with heap:=h1,toks:=s2.toks+([]:List (Str×Value)).length}->
   codeAny (model X.prog X.w) X.A (.compLoop (.ListComp elt [⟨tg,iter,ifs,0⟩] scope pos) 0 (.ref it) (.ref s2.heap.objs.size) (compEnvC scope cl H3.objs.size X.env)) (RR (.ref s2.heap.objs.size) H3.objs.size) s4:=by
  rintro s4 rfl
  refine yr4 (fun n s'=>∃i σ' H',Inv (cxB X N scope cl fp {s2 with heap:=H3} (upd H2 s2.heap.objs.size (.lst []))) [] σ' H' s'/\tn i s'.heap/\(∀b∈fp,H' b=none)/\W i n σ' H') ?_ m0
   ⟨0,_,_,B0,st4,fun b hb=>(f3 b hb).1,w0⟩
  rintro n s5 ⟨i,σ5,H5,I5,st5,fr5,w5⟩
  rcases turn i n σ5 H5 w5 with ⟨stop,qn⟩|⟨go,step⟩
  ·refine thn (T.done (cxB X N scope cl fp {s2 with heap:=H3} (upd H2 s2.heap.objs.size (.lst []))) rfl rfl rfl hc i [] s5 σ5 H5 _ I5 (fpY fr5) st5 stop) fun r s6 ⟨hr,I6⟩=> ?_
   subst hr
   obtain⟨m,hm,_⟩:=I6.loc
   have sz:X.s₀.heap.objs.size<=H3.objs.size:=I3.sz
   refine fin _ _ H5 s6 (yi8 I3 f3 I6) I6.free sz (Nat.ne_of_gt I3.lt) (fun x c e z=> ?_) (fun p hp z=> ?_) ⟨m,hm⟩ qn
   ·obtain⟨v,z2⟩:=I3.cell x c e
    exact absurd z2.lt (by rw [z];exact Nat.lt_irrefl _)
   ·exact absurd (Heap.lt_size (I3.pin p hp).1) (by rw [z];exact Nat.lt_irrefl _)
  ·refine thn (T.item (cxB X N scope cl fp {s2 with heap:=H3} (upd H2 s2.heap.objs.size (.lst []))) rfl rfl rfl hc i [] s5 σ5 H5 _ I5 (fpY fr5) st5 go) fun r s6 ⟨u,hr,h6⟩=> ?_
   subst hr
   refine thn h6 fun _ s7 ⟨x,H7,I7,r7,y7,st7,fr7⟩=> ?_
   have I7':=I7.pinned (fpY fr7) (T.obj _ _ st7)
   have back:∀{σ8:St} {H8:Hp} {s8:Shared},Inv (cxB X N scope cl fp {s2 with heap:=H3} (upd H2 s2.heap.objs.size (.lst []))) ([]++uF fp s7.heap) σ8 H8 s8->
     tn (i+1) s8.heap/\∀b∈fp,H8 b=none:=fun {σ8 H8 s8} I8=>by
    refine⟨T.keep _ _ _ st7 fun b hb o e=>(I8.pin (b,o) (List.mem_append_right _ (List.mem_append_right _ (qO hb e)))).1,fun b hb=> ?_⟩
    obtain⟨o,e,d⟩:=T.obj _ _ st7 b hb
    exact(I8.pin (b,o) (List.mem_append_right _ (List.mem_append_right _ (qO hb e)))).2.1
   refine thn (hg _ _ _ _ _ s7 σ5 H7 x u _ I7' r7 (step x H7 y7)) fun _ s8 ⟨σ8,H8,I8,q8⟩=> ?_
   refine thn (ht _ _ _ _ _ s8 σ8 H8 _ I8 q8) fun ok s9 ⟨H9,I9,q9⟩=> ?_
   cases ok with
   |false=>
    rw [if_neg (by decide)] at q9|-
    obtain⟨m',hm,w9⟩:=q9
    obtain⟨b1,b2⟩:=back I9
    exact⟨m',hm,i+1,σ8,H9,I9.unpinned,b1,b2,w9⟩
   | true=>
    rw [if_pos rfl] at q9|-
    refine thn (he _ _ _ _ _ s9 σ8 H9 _ I9 q9) fun v s10 ⟨y,H10,I10,ry,ys,hys,hlen,m',hm,w10⟩=> ?_
    have ap:=zj4 (X:=cxB X N scope cl fp {s2 with heap:=H3} (upd H2 s2.heap.objs.size (.lst []))) ([]++uF fp s7.heap) s10 σ8 H10 (.ref s2.heap.objs.size) [y] (.ref s2.heap.objs.size) [v]
     (fun z H'=>z= .non/\H'=upd H10 s2.heap.objs.size (.lst (ys++[y]))) I10 rfl (.cons ry .nil) ⟨_,ys,y,rfl,rfl,hys,hlen,rfl,rfl⟩
    refine thn ap fun z s11 ⟨z',H11,I11,_,_,e11⟩=> ?_
    subst e11
    obtain⟨b1,b2⟩:=back I11
    exact⟨m',hm,i+1,σ8,_,I11.unpinned,b1,b2,w10⟩
 exact codeAny_compStart_list (loop _ rfl) (T.self _ _ _ _ _ st4 (loop _ rfl))
theorem xl0(S:CScope sc NX N pick scope)(hsc:X.env.scope=sc)(hNX:X.N=NX)(hc:X.calm=true)(hi:PI X tg iter wi)
  (hg:∀cl fp s H,PG (cxB X N scope cl fp s H) tg g) (ht:∀cl fp s H,PTs (cxB X N scope cl fp s H) ifs tt) (he:∀cl fp s H,PE (cxB X N scope cl fp s H) elt te)
  (hs:∀x,foldedSetIterable iter X.env x=pure x:=by intro _;rfl):PE X (.ListComp elt [⟨tg,iter,ifs,0⟩] scope pos) (wc8 pick wi g tt te):=⟨by
 intro pins s σ H Q I h
 rw [eval_ListComp]
 have hfr:∀y∈scope.names,y.2= .free->∃c,X.env.cells.lookup y.1=some c:=fun y hy hf=>I.ok.has y.1 (by
  show X.env.scope.names.lookup y.1=_\/X.env.scope.names.lookup y.1=_
  rw [hsc];exact S.frees y hy hf)
 obtain⟨cl,hcl,c1,c2⟩:=yi7 hfr
 refine wpAny_comprehension_free (use:=none) rfl hs hcl S.kind S.names (thn (hi pins s σ H _ I h) fun v s1 h1=>thn h1 fun itv s2 h2=> ?_)
 obtain⟨it,fp,tn,J,H2,e,I2,T,st2,f2,q⟩:=h2
 subst e
 refine yi9 (RR:=fun acc C=>compPost (model X.prog X.w) X.A X.xe none (EP X pins σ Q) acc C) (Q:=fun D H'=>Q (.ref D) H') S hsc hNX hc hg ht he I2 T st2 f2 c1 c2 q ?_
 intro D C H' s' I' n1 n2 n3 n4 n5 ⟨m,hm⟩ q'
 exact⟨m,hm,fun h' hb=>⟨.ref D,H',I'.turned (t':=s'.toks) (it:=C) (fun b o hbc e=>(hb.2 b hbc).trans e) n1 n3 (.inr n2) n4 n5,rfl,q'⟩⟩⟩
end
def Its(x:Str):It:=⟨fun i _=>i<x.cps.size,fun i H v H'=>H'=H/\∃c,x.cps[i]? =some c/\v= .str ⟨#[c]⟩,fun i _=>x.cps.size<=i⟩
theorem xa1{P:Program}{w:World}{K:tz0}{tg:Expr}(x:Str)(t:Tok)(it:Addr):Turn P w K tg (Its x) [it] it (fun i h=>h.IsStrIter it "str_ascii_iterator" x t i) where
 mem:=by simp
 obj:=fun i h st b hb=>by
  have e:b=it:=by simpa using hb
  subst e
  obtain⟨o,e,c,d⟩:=st
  exact⟨o,e,fun v z=>by rw [d] at z;cases z⟩
 keep:=fun i h h' st k=>by
  obtain⟨o,e,c,d⟩:=st
  exact⟨o,k it (by simp) o e,c,d⟩
 item:=by
  intro X hP hw hK hc i pins s σ H E I hf st hg
  subst hP hw hK
  have hx:x.cps[i]? =some x.cps[i]:=Array.getElem?_eq_getElem hg
  obtain⟨f0,f1,f2,f3,f4,f5⟩:=hf it (by simp)
  refine wpAny_pyNext_ascii_item st hx fun h' st' sb=> ?_
  have I1:Inv X pins σ H {s with heap:=h',toks:=s.toks+1}:=I.turned (t':=s.toks+1) (fun b o hb e=>(sb.2 b hb).trans e) f0 f1 f3 f4 f5
  obtain⟨o,e,c,d⟩:=id st'
  exact⟨_,rfl,zo1 (s:={s with heap:=h',toks:=s.toks+1}) e c d (by decide) ⟨.str ⟨#[x.cps[i]]⟩,H,I1,⟨_,rfl⟩,⟨rfl,_,hx,rfl⟩,st',fun b hb=>(hf b hb).1⟩⟩
 done:=by
  intro X hP hw hK hc i pins s σ H E I hf st hg
  subst hP hw hK
  obtain⟨f0,f1,f2,f3,f4,f5⟩:=hf it (by simp)
  exact wpAny_pyNext_ascii_end (I.ok.hd hc) st (Array.getElem?_eq_none hg) fun h' eb=>⟨rfl,I.turned (t':=s.toks) (fun b o hb e=>eb b o hb e) f0 f1 f3 f4 f5⟩
 self:=fun _ _ _ _ _ st h=>wpAny_pyIter_striter_ascii st h
def wg6(tl:TE):TI:=fun σ H R=>tl σ H fun x H1=>∃z,x= .str z/\z.cps.all (·<128)=true/\R (Its z) H1
section
variable{X:Cx}{tg:Expr}
theorem xs2{l:Expr}{tl:TE}(hl:PE X l tl):PI X tg l (wg6 tl):=⟨by
 intro pins s σ H R I h
 refine thn (hl pins s σ H _ I h) fun v s1 ⟨x,H1,I1,r1,q1⟩=> ?_
 obtain⟨z,e,ha,q⟩:=q1
 subst e
 obtain⟨t,rfl⟩:=r1
 refine wpAny_pyIter_ascii ha ?_
 refine⟨s1.heap.objs.size,[s1.heap.objs.size],_,_,H1,rfl,I1.kept (t':=s1.toks) fun b o e=>Heap.get?_push_of_some _ e,xa1 z t _,⟨_,Heap.get?_push_size _ rfl,rfl,rfl⟩,fun b hb=> ?_,q⟩
 have e:b=s1.heap.objs.size:=by simpa using hb
 subst e
 exact I1.fpOk (Nat.le_refl _) (I1.hok.fresh (Nat.le_refl _))⟩
def zy4(z:Str):List V:=z.cps.toList.map fun c=>V.str ⟨#[c]⟩
theorem yj0(z:Str):(zy4 z).length=z.cps.size:=by unfold zy4;simp
theorem goS{z:Str}{H1:Hp}{D:Addr}:∀i x ys,(zy4 z)[i]? =some x->(Its z).go i (upd H1 D (.lst ys)):=fun i x ys h=>by
 have:=(List.getElem?_eq_some_iff.mp h).1
 rw [yj0] at this;exact this
theorem zj8:∀(l:List (Str×Tok)),bN ((l.map (·.1)).map V.str) (strValues l)
 |[]=> .nil
 |(x,t)::r=> .cons ⟨t,rfl⟩ (zj8 r)
theorem zr0:∀{ys:List Str} {us:List Value},bN (ys.map V.str) us->StrsAre us ys
 |[],_,.nil=> .nil
 |y::ys,_,.cons r t=>by
  obtain⟨k,rfl⟩:=r
  exact .cons y k (zr0 t)
theorem xa2:MtR X "str.split" (fun x xs H Q=>∃z y,x= .str z/\xs=[.str y]/\(y.length==0)=false/\z.length<1000000/\∀p,H p=none->Q (.ref p) (upd H p (.lst ((Txt.split z y).map V.str)))):=⟨by
 intro pins s σ H x xs v us Q I rx r h
 obtain⟨z,y,rfl,rfl,hy,hz,q⟩:=h
 obtain⟨t,rfl⟩:=rx
 obtain⟨u,rfl,t',rfl⟩:=nX r
 have hs:sizeLine=16777216:=sizeLine_eq
 have hsz:z.length<=sizeLine:=by omega
 have hoc:=StrLaws.occ_length_le_len z y 0 z.length (z.length+1)
 have hpb:(Builtin.Str.partsBetween z (Builtin.Str.occurrences z y 0 z.length (z.length+1)) y.length).length<=z.length+2:=by
  unfold Builtin.Str.partsBetween
  rw [List.length_map,List.length_zip]
  simp only [List.length_cons,List.length_map,List.length_append,List.length_nil]
  omega
 have hn:H s.heap.objs.size=none:=I.fresh
 have fin:∀(l:List (Str×Tok)) (tk:Nat),l.map (·.1)=Txt.split z y->l.length<=sizeLine->EP X pins σ Q (.ref s.heap.objs.size) {s with heap:=s.heap.push {cls:= .type "list",data:= .seq (strValues l).toArray},toks:=tk}:=fun l tk e hl=>by
  refine⟨.ref s.heap.objs.size,_,I.lnew (t':=tk) (ys:=(l.map (·.1)).map V.str) (zj8 l) (by rw [List.length_map,List.length_map];exact hl),rfl,?_⟩
  rw [e];exact q _ hn
 cases h1:(decide (z.length<y.length)||decide (Builtin.Str.strKind z<Builtin.Str.strKind y))
 ·cases hf:(Builtin.Str.occurrences z y 0 z.length (z.length+1)).isEmpty
  ·refine call_meets F.slot_str_split (typeIs_str _ _ _) F.entry_str_split (F.args_str_split_2 _ _) (meets_str_split_sep z y t t' h1 hy hf hsz (by omega)) ?_
   show wants _ _ _ {s with toks:=_,heap:=s.heap.push {cls:= .type "list",data:= .seq (strsFrom s.toks (Builtin.Str.partsBetween z (Builtin.Str.occurrences z y 0 z.length (z.length+1)) y.length)).toArray}}
   rw [strsFrom_eq]
   refine fin (numbered s.toks _) _ ((numbered_texts _ _).trans ((if_neg (ne_true_of_eq_false h1)).trans (if_neg (ne_true_of_eq_false hf))).symm) ?_
   have e:=congrArg List.length (numbered_texts s.toks (Builtin.Str.partsBetween z (Builtin.Str.occurrences z y 0 z.length (z.length+1)) y.length))
   rw [List.length_map] at e
   omega
  ·exact call_meets F.slot_str_split (typeIs_str _ _ _) F.entry_str_split (F.args_str_split_2 _ _) (meets_str_split_not_found z y t t' h1 hy hf) (fin [(z,t)] s.toks ((if_neg (ne_true_of_eq_false h1)).trans (if_pos hf)).symm (by simp;omega))
 ·exact call_meets F.slot_str_split (typeIs_str _ _ _) F.entry_str_split (F.args_str_split_2 _ _) (meets_str_split_cannot_occur z y t t' h1) (fin [(z,t)] s.toks (if_pos h1).symm (by simp;omega))⟩
theorem xl1:MtR X "str.join" (fun x xs H Q=>∃(z:Str) (a:Addr) (ys:List Str),x= .str z/\xs=[.ref a]/\SqL X.K H a (ys.map V.str)/\z.length<=16/\(ys.map (·.length)).sum+ys.length<=1048576/\Q (.str (Txt.join z ys)) H):=⟨by
 intro pins s σ H x xs v us Q I rx r h
 obtain⟨z,a,ys,rfl,rfl,hq,hz,hw,q⟩:=h
 obtain⟨t,rfl⟩:=rx
 obtain⟨u,rfl,ru⟩:=nX r
 cases(show u=Value.ref a from ru)
 obtain⟨its,rv,p,hl⟩:=I.list hq
 exact join_listW p.isList (by simpa using zr0 rv) hz hw fun t' k=>⟨.str _,H,I.tok k,⟨_,rfl⟩,q⟩⟩
end
section
variable{X:Cx}
theorem xs3:SlR X (fun x lo hi H Q=>∃z:Str,x= .str z/\z.length<=sizeLine/\Q (.str (Txt.slice z lo hi)) H):=by
 intro pins s σ H x v vl vu lo hi sl Q I rx hs pl pu h
 obtain⟨z,rfl,hz,q⟩:=h
 obtain⟨t,rfl⟩:=rx
 refine⟨"str",_,F.slot_str_getitem.lookup,typeIs_str _ _ _,?_⟩
 have fin:∀t' k,EP X pins σ Q (.str (Txt.slice z lo hi) t') {s with toks:=k}:=fun t' k=>⟨.str _,H,I.tok k,⟨_,rfl⟩,q⟩
 cases pl with
 |none=>
  cases pu with
  |none=>exact wpAny_getItem_str_slice (l:=none) (u:=none) (st:=none) hs rfl (post_val_or_str ⟨Nat.le_trans (Txt.slice_le z _ _) hz,fun t' k=>fin t' k⟩)
  |int j u=>exact wpAny_getItem_str_slice (l:=none) (u:=some (j,u)) (st:=none) hs rfl (post_val_or_str ⟨Nat.le_trans (Txt.slice_le z _ _) hz,fun t' k=>fin t' k⟩)
 |int i u'=>
  cases pu with
  |none=>exact wpAny_getItem_str_slice (l:=some (i,u')) (u:=none) (st:=none) hs rfl (post_val_or_str ⟨Nat.le_trans (Txt.slice_le z _ _) hz,fun t' k=>fin t' k⟩)
  |int j u=>exact wpAny_getItem_str_slice (l:=some (i,u')) (u:=some (j,u)) (st:=none) hs rfl (post_val_or_str ⟨Nat.le_trans (Txt.slice_le z _ _) hz,fun t' k=>fin t' k⟩)
theorem yr6(z:Str)(lo hi:Option Int):∀c∈(Txt.slice z lo hi).cps.toList,c∈z.cps.toList:=by
 intro c hc
 have e:(Txt.slice z lo hi)=if ((none:Option Int).getD 1==1&&(Builtin.Str.strSliceIndices lo hi 1 z.length).length==z.length)=true then z else⟨((Builtin.Str.strSliceIndices lo hi 1 z.length).filterMap (z.cps[·]?)).toArray⟩:=rfl
 rw [e] at hc
 split at hc
 ·exact hc
 ·have hc':c∈(Builtin.Str.strSliceIndices lo hi 1 z.length).filterMap (z.cps[·]?):=by simpa using hc
  obtain⟨i,_,h⟩:=List.mem_filterMap.mp hc'
  have:=Array.mem_of_getElem? h
  simpa using this
end
mutual
inductive Dp(K:tz0)(H:Hp):V->PyData->Prop
 |non:Dp K H .non .none
 |bl (b:Bool):Dp K H (.bl b) (.bool b)
 |int (i:Int):Dp K H (.int i) (.int i)
 |str (x:Str):Dp K H (.str x) (.str x)
 |lst {a:Addr} {xs:List V} {ds:List PyData}:SqL K H a xs->DpAll K H xs ds->Dp K H (.ref a) (.list ds)
 |tup {a:Addr} {xs:List V} {ds:List PyData}:SqT K H a xs->DpAll K H xs ds->Dp K H (.ref a) (.tuple ds)
inductive DpAll(K:tz0)(H:Hp):List V->List PyData->Prop
 |nil:DpAll K H [] []
 |cons {v:V} {vs:List V} {d:PyData} {ds:List PyData}:Dp K H v d->DpAll K H vs ds->DpAll K H (v::vs) (d::ds)
end
section
variable{X:Cx}{pins:tzB}{σ:St}{H:Hp}{s:Shared}
mutual
theorem Dp.reads(I:Inv X pins σ H s):∀{v:V} {d:PyData} {u:Value},Dp X.K H v d->cM v u->∃as,Reads s.heap u d as
 |_,_,u,.non,r=>by cases(show u=Value.none from r);exact⟨_,.none⟩
 |_,_,u,.bl b,r=>by cases(show u=Value.bool b from r);exact⟨_,.bool b⟩
 |_,_,u,.int i,r=>by obtain⟨t,rfl⟩:=r;exact⟨_,.int i t⟩
 |_,_,u,.str x,r=>by obtain⟨t,rfl⟩:=r;exact⟨_,.str x t⟩
 |_,_,u,.lst (a:=a) h hs,r=>by
  cases(show u=Value.ref a from r)
  obtain⟨its,rv,p,hz⟩:=I.list h
  obtain⟨as,ra⟩:=DpAll.reads I hs rv
  obtain⟨o,e,c,n,d⟩:=p.isList
  exact⟨_,.list e c d (by simpa using ra)⟩
 |_,_,u,.tup (a:=a) h hs,r=>by
  cases(show u=Value.ref a from r)
  obtain⟨its,rv,p,hz⟩:=I.tuple h
  obtain⟨as,ra⟩:=DpAll.reads I hs rv
  obtain⟨o,e,c,n,d⟩:=p
  exact⟨_,.tuple e c d (by simpa using ra)⟩
theorem DpAll.reads(I:Inv X pins σ H s):∀{vs:List V} {ds:List PyData} {us:List Value},DpAll X.K H vs ds->bN vs us->∃as,ReadsAll s.heap us ds as
 |_,_,_,.nil,.nil=>⟨_,.nil⟩
 |_,_,_,.cons h hs,.cons r rs=>by
  obtain⟨as,ra⟩:=Dp.reads I h r
  obtain⟨bs,rb⟩:=DpAll.reads I hs rs
  exact⟨_,.cons ra rb⟩
end
end
section
variable{X:Cx}
def xz0(K:tz0)(neg:Bool):R2:=fun x y H Q=>∃d e,Dp K H x d/\Dp K H y e/\d.canLay0=true/\e.canLay0=true/\d.depth<=60/\Q (.bl (if neg then !PyData.eqv d e else PyData.eqv d e)) H
theorem xs4(hu:X.A.units+64<cLine):OpR X (compareOp .Eq) (xz0 X.K false):=⟨by
 intro pins s σ H x y v u Q I rx ry h
 obtain⟨d,e,hx,hy,cx,cy,dz,q⟩:=h
 obtain⟨as,ra⟩:=hx.reads I rx
 obtain⟨bs,rb⟩:=hy.reads I ry
 exact SeqAt.compareEq_reads ra rb cx cy (by have:=Nat.min_le_left d.depth e.depth;omega) ⟨.bl _,H,I,rfl,q⟩⟩
theorem xs5(hu:X.A.units+64<cLine):OpR X (compareOp .NotEq) (xz0 X.K true):=⟨by
 intro pins s σ H x y v u Q I rx ry h
 obtain⟨d,e,hx,hy,cx,cy,dz,q⟩:=h
 obtain⟨as,ra⟩:=hx.reads I rx
 obtain⟨bs,rb⟩:=hy.reads I ry
 exact SeqAt.compareNe_reads ra rb cx cy (by have:=Nat.min_le_left d.depth e.depth;omega) ⟨.bl _,H,I,rfl,q⟩⟩
end
section
variable{prog:Program}{w:World}{A:Around}{E:Value->Shared->Prop}{s:Shared}{env:Env}
theorem ya2{l:Addr}{items:Array Value}{elts:List Expr}{k:Nat}{pos:Pos}{Q:Unit->Shared->Prop}(hh:A.handled=none)(hl:s.heap.IsList l items)(hn:(assignEach elts env).length=items.size)
  (hstar:(assignEach elts env).findIdx? (·.1)=none) (h:∀h',Heap.ExtBut s.heap.objs.size s.heap h'->wpAny (model prog w) A (assignInOrder ((assignEach elts env).map (·.2)) items.toList) Q E {s with heap:=h'}):
  wpAny (model prog w) A (assign (.Tuple elts k pos) env (.ref l)) Q E s:=by
 rw [assign_Tuple]
 refine wpAny_bind (wpAny_standAt ?_)
 unfold unpack
 rw [hn,hstar]
 exact wpAny_bind (wpAny_holding (PySem.W.kun_itemsOf hh hl h))
end
section
variable{X:Cx}{pos:Pos}
def xz1(K:tz0)(n:Nat)(t:TGs):TG:=fun v σ H Q=>∃a xs,v= .ref a/\SqL K H a xs/\xs.length=n/\t xs σ H Q
theorem xs6{es:List Expr}{k:Nat}{t:TGs}{n:Nat}(hc:X.calm=true)(h:PGs X es t)
  (hn:(assignEach es X.env).length=n:=by rfl) (hst:(assignEach es X.env).findIdx? (·.1)=none:=by rfl):PG X (.Tuple es k pos) (xz1 X.K n t):=⟨by
 intro pins s σ H v u Q I r hw
 obtain⟨a,xs,e1,hq,hl,hw⟩:=hw
 subst e1
 cases r
 obtain⟨its,rv,ht,hz⟩:=I.list hq
 refine ya2 (I.ok.hd hc) ht.isList (by simp [hn,<-hl,rv.length]) hst fun h' hx=> ?_
 have I1:Inv X pins σ H {s with heap:=h'}:=I.kept (t':=s.toks) fun b o e=>hx b o (Nat.ne_of_lt (Heap.lt_size e)) e
 exact h pins _ σ H xs _ Q I1 (by simpa using rv) hw⟩
end
inductive AreC:List Expr->List V->Prop
 |nil:AreC [] []
 |int {i:Int} {j:Nat} {pos:Pos} {es:List Expr} {vs:List V}:AreC es vs->AreC (.Constant (.int i) j pos::es) (.int i::vs)
 |str {x:Str} {j:Nat} {pos:Pos} {es:List Expr} {vs:List V}:AreC es vs->AreC (.Constant (.str x) j pos::es) (.str x::vs)
 |bl {b:Bool} {j:Nat} {pos:Pos} {es:List Expr} {vs:List V}:AreC es vs->AreC (.Constant (.bool b) j pos::es) (.bl b::vs)
 |non {j:Nat} {pos:Pos} {es:List Expr} {vs:List V}:AreC es vs->AreC (.Constant .none j pos::es) (.non::vs)
def ze5(vs:List V):TA:=fun _ H Q=>Q vs H
theorem yr7{X:Cx}{es:List Expr}{vs:List V}(h:AreC es vs):PA X es (ze5 vs):=by
 induction h with
 |nil=>exact jG
 |int _ ih=>exact⟨fun pos pins s σ H Q I q=>eB (t:=ze5 _) iB ih rfl pos pins s σ H Q I q⟩
 |str _ ih=>exact⟨fun pos pins s σ H Q I q=>eB (t:=ze5 _) yo6 ih rfl pos pins s σ H Q I q⟩
 |bl _ ih=>exact⟨fun pos pins s σ H Q I q=>eB (t:=ze5 _) xg7 ih rfl pos pins s σ H Q I q⟩
 |non _ ih=>exact⟨fun pos pins s σ H Q I q=>eB (t:=ze5 _) yo5 ih rfl pos pins s σ H Q I q⟩
set_option genInjectivity true in
inductive D where
 |non|bl (b:Bool)|int (i:Int)|str (x:Str)|ty (n:String)
 |tup (xs:List D)|con (xs:List D)|lst (o:Bool) (xs:List D)|dic (o:Bool) (ks:List Key) (vs:List D)|obj (o:Bool) (C:Str) (ns:List Str) (vs:List D)
mutual
def D.imm:D->Bool
 | .tup xs=>D.imms xs
 | .con xs=>D.imms xs
 | .lst o xs=> !o&&D.imms xs
 | .dic o _ vs=> !o&&D.imms vs
 | .obj o _ _ vs=> !o&&D.imms vs
 |_=>true
def D.imms:List D->Bool
 |[]=>true
 |d::ds=>d.imm&&D.imms ds
end
def kd:HO->Bool
 | .lst _=>true
 | .tup _=>true
 | .dK _=>true
 | .ins _ _ _=>true
 | .frz _ _=>true
 | .xd _=>true
 |_=>false
def tf:HO->Bool
 | .tup _=>true
 | .frz _ _=>true
 |_=>false
theorem nK(h:tf o=true):kd o=true:=by cases o<;>first|rfl|cases h
def SqF(K:tz0)(H:Hp)(a:Addr)(xs:List V):Prop:=(∃o,H a=some (.frz o (.lst xs)))\/
 ∃(o:Obj) (its:Array Value) (n:Nat),K.lookup a=some o/\o.cls= .type "list"/\o.dict=none/\o.data= .seq its n/\its.size<=sizeLine/\bN xs its.toList
mutual
inductive Rep(K:tz0)(κ:tz9)(H:Hp):V->D->List Addr->Prop
 |non:Rep K κ H .non .non []
 |bl (b:Bool):Rep K κ H (.bl b) (.bl b) []
 |int (i:Int):Rep K κ H (.int i) (.int i) []
 |str (x:Str):Rep K κ H (.str x) (.str x) []
 |ty (n:String):Rep K κ H (.ty n) (.ty n) []
 |tup {a:Addr} {vs:List V} {ds:List D}:SqT K H a vs->Reps K κ H vs ds []->Rep K κ H (.ref a) (.tup ds) []
 |con {a:Addr} {vs:List V} {ds:List D}:SqF K H a vs->Reps K κ H vs ds []->Rep K κ H (.ref a) (.con ds) []
 |lst {a:Addr} {vs:List V} {ds:List D} {fp:List Addr}:H a=some (.lst vs)->Reps K κ H vs ds fp->Rep K κ H (.ref a) (.lst true ds) (a::fp)
 |lstF {a:Addr} {o:Obj} {vs:List V} {ds:List D}:H a=some (.frz o (.lst vs))->Reps K κ H vs ds []->Rep K κ H (.ref a) (.lst false ds) []
 |dic {a:Addr} {kvs:List (Key×V)} {ks:List Key} {ds:List D} {fp:List Addr}:H a=some (.dK kvs)->kvs.map (·.1)=ks->Reps K κ H (kvs.map (·.2)) ds fp->Rep K κ H (.ref a) (.dic true ks ds) (a::fp)
 |dicF {a:Addr} {o:Obj} {kvs:List (Key×V)} {ks:List Key} {ds:List D}:H a=some (.frz o (.dK kvs))->kvs.map (·.1)=ks->Reps K κ H (kvs.map (·.2)) ds []->Rep K κ H (.ref a) (.dic false ks ds) []
 |obj {a dx:Addr} {C:Str} {fs:List (Str×V)} {ns:List Str} {ds:List D} {fp:List Addr}:H a=some (.ins (κ C) dx fs)->fs.map (·.1)=ns->Reps K κ H (fs.map (·.2)) ds fp->Rep K κ H (.ref a) (.obj true C ns ds) (a::fp)
 |objF {a dx:Addr} {o:Obj} {C:Str} {fs:List (Str×V)} {ns:List Str} {ds:List D}:H a=some (.frz o (.ins (κ C) dx fs))->fs.map (·.1)=ns->Reps K κ H (fs.map (·.2)) ds []->Rep K κ H (.ref a) (.obj false C ns ds) []
inductive Reps(K:tz0)(κ:tz9)(H:Hp):List V->List D->List Addr->Prop
 |nil:Reps K κ H [] [] []
 |cons {v:V} {vs:List V} {d:D} {ds:List D} {f g:List Addr}:Rep K κ H v d f->Reps K κ H vs ds g->Reps K κ H (v::vs) (d::ds) (f++g)
end
section
variable{K:tz0}{κ:tz9}{H H':Hp}
theorem SqT.tf(t:∀a o,H a=some o->tf o=true->H' a=some o){a:Addr}{xs:List V}(h:SqT K H a xs):SqT K H' a xs:=by
 rcases h with (h|⟨o,h⟩)|h
 ·exact .inl (.inl (t _ _ h rfl))
 ·exact .inl (.inr ⟨o,t _ _ h rfl⟩)
 ·exact .inr h
theorem SqF.tf(t:∀a o,H a=some o->tf o=true->H' a=some o){a:Addr}{xs:List V}(h:SqF K H a xs):SqF K H' a xs:=h.elim (fun⟨o,h⟩=> .inl ⟨o,t _ _ h rfl⟩) .inr
theorem SqF.l(h:SqF K H a xs):SqL K H a xs:=h.elim (fun⟨o,h⟩=> .inl (.inr ⟨o,h⟩)) .inr
theorem hJ{P:Addr->Prop}:∀a∈([]:List Addr),P a:=fun _ h=>nomatch h
theorem Reps.move(t:∀a o,H a=some o->tf o=true->H' a=some o){vs:List V}{ds:List D}{fp:List Addr}(h:Reps K κ H vs ds fp):(∀a∈fp,H' a=H a)->Reps K κ H' vs ds fp:=
 Reps.rec (motive_1:=fun v d fp _=>(∀a∈fp,H' a=H a)->Rep K κ H' v d fp) (motive_2:=fun vs ds fp _=>(∀a∈fp,H' a=H a)->Reps K κ H' vs ds fp)
  (fun _=> .non) (fun b _=> .bl b) (fun b _=> .int b) (fun b _=> .str b) (fun b _=> .ty b) (fun h _ ih _=> .tup (h.tf t) (ih hJ)) (fun h _ ih _=> .con (h.tf t) (ih hJ))
  (fun h _ ih k=> .lst ((k _ List.mem_cons_self).trans h) (ih fun a ha=>k a (List.mem_cons_of_mem _ ha))) (fun h _ ih _=> .lstF (t _ _ h rfl) (ih hJ))
  (fun h e _ ih k=> .dic ((k _ List.mem_cons_self).trans h) e (ih fun a ha=>k a (List.mem_cons_of_mem _ ha))) (fun h e _ ih _=> .dicF (t _ _ h rfl) e (ih hJ))
  (fun h e _ ih k=> .obj ((k _ List.mem_cons_self).trans h) e (ih fun a ha=>k a (List.mem_cons_of_mem _ ha))) (fun h e _ ih _=> .objF (t _ _ h rfl) e (ih hJ))
  (fun _=> .nil) (fun _ _ i1 i2 k=> .cons (i1 fun a ha=>k a (List.mem_append_left _ ha)) (i2 fun a ha=>k a (List.mem_append_right _ ha))) h
theorem Reps.nil_fp(h:Reps K κ H vs [] fp):vs=[]/\fp=[]:=by cases h;exact⟨rfl,rfl⟩
theorem Reps.one_inv(r:Reps K κ H vs [d] fp):∃v,vs=[v]/\Rep K κ H v d fp:=by
 cases r with
 |cons h hs=>
  obtain⟨rfl,rfl⟩:=hs.nil_fp
  exact⟨_,rfl,by rw [List.append_nil];exact h⟩
theorem Reps.one(h:Rep K κ H v d f):Reps K κ H [v] [d] f:=by have:=Reps.cons h (Reps.nil (K:=K) (κ:=κ) (H:=H));rwa [List.append_nil] at this
theorem Rep.move(t:∀a o,H a=some o->tf o=true->H' a=some o){v:V}{d:D}{fp:List Addr}(h:Rep K κ H v d fp)(k:∀a∈fp,H' a=H a):Rep K κ H' v d fp:=by
 obtain⟨u,e,r⟩:=((Reps.one h).move t k).one_inv
 cases e;exact r
theorem Reps.own{vs:List V}{ds:List D}{fp:List Addr}(h:Reps K κ H vs ds fp):∀a∈fp,∃o,H a=some o/\kd o=true/\tf o=false:=
 Reps.rec (motive_1:=fun _ _ fp _=>∀a∈fp,∃o,H a=some o/\kd o=true/\tf o=false) (motive_2:=fun _ _ fp _=>∀a∈fp,∃o,H a=some o/\kd o=true/\tf o=false)
  hJ (fun _=>hJ) (fun _=>hJ) (fun _=>hJ) (fun _=>hJ) (fun _ _ _=>hJ) (fun _ _ _=>hJ)
  (fun h _ ih a ha=>(List.mem_cons.mp ha).elim (fun e=>e▸⟨_,h,rfl,rfl⟩) (ih a)) (fun _ _ _=>hJ)
  (fun h _ _ ih a ha=>(List.mem_cons.mp ha).elim (fun e=>e▸⟨_,h,rfl,rfl⟩) (ih a)) (fun _ _ _ _=>hJ)
  (fun h _ _ ih a ha=>(List.mem_cons.mp ha).elim (fun e=>e▸⟨_,h,rfl,rfl⟩) (ih a)) (fun _ _ _ _=>hJ)
  hJ (fun _ _ i1 i2 a ha=>(List.mem_append.mp ha).elim (i1 a) (i2 a)) h
theorem Rep.own(h:Rep K κ H v d fp):∀a∈fp,∃o,H a=some o/\kd o=true/\tf o=false:=(Reps.one h).own
theorem Rep.imm(h:Rep K κ H v d fp)(e:d.imm=true):fp=[]:=by
 cases h<;>first|rfl|exact nomatch e
theorem Reps.imm:∀{vs:List V} {ds:List D} {fp:List Addr},Reps K κ H vs ds fp->D.imms ds=true->fp=[]
 |_,_,_,.nil,_=>rfl
 |_,_,_,.cons h hs,e=>by
  rw [D.imms,Bool.and_eq_true] at e
  rw [h.imm e.1,Reps.imm hs e.2];rfl
theorem Reps.length:∀{vs:List V} {ds:List D} {fp:List Addr},Reps K κ H vs ds fp->vs.length=ds.length
 |_,_,_,.nil=>rfl
 |_,_,_,.cons _ hs=>by rw [List.length_cons,List.length_cons,Reps.length hs]
theorem Reps.get:∀{vs:List V} {ds:List D} {fp:List Addr} {i:Nat} {d:D},Reps K κ H vs ds fp->ds[i]? =some d->∃v f,vs[i]? =some v/\Rep K κ H v d f/\∀a∈f,a∈fp
 |_,_,_,_,_,.nil,e=>by simp at e
 |_,_,_,0,_,.cons h _,e=>by simp at e;subst e;exact⟨_,_,rfl,h,fun a ha=>List.mem_append_left _ ha⟩
 |_,_,_,i+1,_,.cons _ hs,e=>by
  obtain⟨v,f,h1,h2,h3⟩:=Reps.get (i:=i) hs (by simpa using e)
  exact⟨v,f,by simpa using h1,h2,fun a ha=>List.mem_append_right _ (h3 a ha)⟩
theorem Reps.append:∀{vs:List V} {ds:List D} {f:List Addr} {us:List V} {es:List D} {g:List Addr},Reps K κ H vs ds f->Reps K κ H us es g->Reps K κ H (vs++us) (ds++es) (f++g)
 |_,_,_,_,_,_,.nil,r=>r
 |_,_,_,_,_,_,.cons h hs,r=>by rw [List.append_assoc];exact .cons h (Reps.append hs r)
theorem Reps.split:∀{vs:List V} {d:D} {ds:List D} {fp:List Addr},Reps K κ H vs (d::ds) fp->∃v us f g,vs=v::us/\Rep K κ H v d f/\Reps K κ H us ds g/\fp=f++g
 |_,_,_,_,.cons h hs=>⟨_,_,_,_,rfl,h,hs,rfl⟩
theorem Reps.nilp:∀{vs:List V} {ds:List D},Reps K κ H vs ds []->Paired (fun v d=>Rep K κ H v d []) vs ds:=by
 intro vs ds h
 generalize e:([]:List Addr)=fp at h
 induction h using Reps.rec (motive_1:=fun _ _ _ _=>True) with
 |nil=>exact .nil
 |cons h hs _ ih=>
  obtain⟨e1,e2⟩:=List.append_eq_nil_iff.mp e.symm
  subst e1;subst e2
  exact .cons h (ih rfl)
 |_=>trivial
theorem Reps.ofp:∀{vs:List V} {ds:List D},Paired (fun v d=>Rep K κ H v d []) vs ds->Reps K κ H vs ds []
 |_,_,.nil=> .nil
 |_,_,.cons h hs=> .cons (f:=[]) (g:=[]) h (Reps.ofp hs)
end
theorem Paired.takeN:∀{l₁:List α} {l₂:List β} (n:Nat),Paired R l₁ l₂->Paired R (l₁.take n) (l₂.take n)
 |_,_,0,_=> .nil
 |_,_,_+1,.nil=> .nil
 |_,_,n+1,.cons h t=> .cons h (Paired.takeN n t)
theorem Paired.dropN:∀{l₁:List α} {l₂:List β} (n:Nat),Paired R l₁ l₂->Paired R (l₁.drop n) (l₂.drop n)
 |_,_,0,r=>r
 |_,_,_+1,.nil=> .nil
 |_,_,n+1,.cons _ t=>Paired.dropN n t
theorem Paired.app:∀{l₁:List α} {l₂:List β} {m₁:List α} {m₂:List β},Paired R l₁ l₂->Paired R m₁ m₂->Paired R (l₁++m₁) (l₂++m₂)
 |_,_,_,_,.nil,r=>r
 |_,_,_,_,.cons h t,r=> .cons h (Paired.app t r)
theorem Paired.rev:∀{l₁:List α} {l₂:List β},Paired R l₁ l₂->Paired R l₁.reverse l₂.reverse
 |_,_,.nil=> .nil
 |_,_,.cons h t=>by rw [List.reverse_cons,List.reverse_cons];exact Paired.app (Paired.rev t) (.cons h .nil)
theorem Paired.repl(r:Paired R l₁ l₂):∀k:Nat,Paired R (List.replicate k l₁).flatten (List.replicate k l₂).flatten
 |0=> .nil
 |k+1=>by rw [List.replicate_succ,List.replicate_succ,List.flatten_cons,List.flatten_cons];exact Paired.app r (Paired.repl r k)
structure SameK(H H':Hp):Prop where
 keep:∀a o,H a=some o->kd o=true->H' a=some o
 grow:∀a,H' a=none->H a=none
theorem SameK.refl(H:Hp):SameK H H:=⟨fun _ _ h _=>h,fun _ h=>h⟩
theorem SameK.trans(a:SameK H H1)(b:SameK H1 H2):SameK H H2:=⟨fun c o h k=>b.keep c o (a.keep c o h k) k,fun c h=>a.grow c (b.grow c h)⟩
theorem SameK.of(h:yn5 H H'):SameK H H':=⟨fun a o e _=>h a o e,fun a e=>h.free e⟩
theorem SameK.new(h:H p=none)(o:HO):SameK H (upd H p o):= .of (xa0 h o)
section
variable{K:tz0}{κ:tz9}{H H':Hp}
theorem Rep.same(e:SameK H H'){v:V}{d:D}{fp:List Addr}(r:Rep K κ H v d fp):Rep K κ H' v d fp:=
 r.move (fun a o h t=>e.keep a o h (nK t)) fun a ha=>by obtain⟨o,h,k,_⟩:=r.own a ha;rw [h];exact e.keep a o h k
theorem Reps.same(e:SameK H H'){v:List V}{d:List D}{fp:List Addr}(r:Reps K κ H v d fp):Reps K κ H' v d fp:=
 r.move (fun a o h t=>e.keep a o h (nK t)) fun a ha=>by obtain⟨o,h,k,_⟩:=r.own a ha;rw [h];exact e.keep a o h k
end
theorem PE.imp(h:PE X e t)(k:∀σ H Q,t' σ H Q->t σ H Q):PE X e t':=⟨fun pins s σ H Q I q=>h pins s σ H Q I (k σ H Q q)⟩
theorem PT.imp(h:PT X e t)(k:∀σ H Q,t' σ H Q->t σ H Q):PT X e t':=⟨fun pins s σ H Q I q=>h pins s σ H Q I (k σ H Q q)⟩
theorem PW.imp(h:PW X e t)(k:∀σ H Q,t' σ H Q->t σ H Q):PW X e t':=⟨fun wh pins s σ H Q I q=>h wh pins s σ H Q I (k σ H Q q)⟩
theorem PA.imp(h:PA X e t)(k:∀σ H Q,t' σ H Q->t σ H Q):PA X e t':=⟨fun pos pins s σ H Q I q=>h pos pins s σ H Q I (k σ H Q q)⟩
theorem PS.imp{X:Cx}{st:Stmt}{t t':TS}(h:PS X st t)(k:∀D σ H,t' D σ H->t D σ H):PS X st t':=⟨fun pins s σ H D I q=>h pins s σ H D I (k D σ H q)⟩
theorem PSs.imp{X:Cx}{st:List Stmt}{t t':TS}(h:PSs X st t)(k:∀D σ H,t' D σ H->t D σ H):PSs X st t':=⟨fun pins s σ H D I q=>h pins s σ H D I (k D σ H q)⟩
abbrev PSt:=List (Option D)
abbrev _root_.tz7:=List D->Option (D×List D)
abbrev _root_.tz8:=PSt->Option (D×PSt)
abbrev _root_.tz3:=PSt->Option (List D)
abbrev _root_.tz4:=PSt->Option Bool
abbrev _root_.tz6:=List D->Option D
abbrev _root_.tz2:=PSt->Option D
abbrev _root_.tz5:=PSt->Bool
def WS(K:tz0)(κ:tz9)(H:Hp)(σ:St)(ps:PSt):Prop:=∀(i:Nat) (d:D),ps[i]? =some (some d)->∃v fp,σ[i]? =some (some v)/\Rep K κ H v d fp
theorem WS.same{K:tz0}{κ:tz9}{H H':Hp}{σ:St}{ps:PSt}(w:WS K κ H σ ps)(e:SameK H H'):WS K κ H' σ ps:=fun i d h=>by
 obtain⟨v,fp,h1,h2⟩:=w i d h
 exact⟨v,fp,h1,h2.same e⟩
def lF(K:tz0)(κ:tz9)(H:Hp)(d:D)(Q:VK):Prop:=∀v H' fv,SameK H H'->(∀a∈fv,H a=none)->fv.Nodup->Rep K κ H' v d fv->Q v H'
def xz2(K:tz0)(κ:tz9)(H:Hp)(d:D)(Q:VK):Prop:=∀v H' fp,SameK H H'->Rep K κ H' v d fp->Q v H'
def tV(K:tz0)(κ:tz9)(f:tz2):TE:=fun σ H Q=>∃ps d,WS K κ H σ ps/\f ps=some d/\xz2 K κ H d Q
def tP(K:tz0)(κ:tz9)(f:tz2):TE:=fun σ H Q=>∃ps d,WS K κ H σ ps/\f ps=some d/\lF K κ H d Q
def tQ(K:tz0)(κ:tz9)(f:tz4):TT:=fun σ H Q=>∃ps b,WS K κ H σ ps/\f ps=some b/\∀H',SameK H H'->Q b H'
def tVA(K:tz0)(κ:tz9)(f:tz3):TA:=fun σ H Q=>∃ps ds,WS K κ H σ ps/\f ps=some ds/\∀vs H' fp,SameK H H'->Reps K κ H' vs ds fp->Q vs H'
def tPA(K:tz0)(κ:tz9)(f:tz3):TA:=fun σ H Q=>∃ps ds,WS K κ H σ ps/\f ps=some ds/\∀vs H' fv,SameK H H'->(∀a∈fv,H a=none)->fv.Nodup->Reps K κ H' vs ds fv->Q vs H'
abbrev QV(X:Cx)(κ:tz9)(e:Expr)(f:tz2):Prop:=PE X e (tV X.K κ f)
abbrev QP(X:Cx)(κ:tz9)(e:Expr)(f:tz2):Prop:=PE X e (tP X.K κ f)
abbrev QT(X:Cx)(κ:tz9)(e:Expr)(f:tz4):Prop:=PT X e (tQ X.K κ f)
abbrev QW(X:Cx)(κ:tz9)(e:Expr)(f:tz4):Prop:=PW X e (tQ X.K κ f)
abbrev QVA(X:Cx)(κ:tz9)(es:List Expr)(f:tz3):Prop:=PA X es (tVA X.K κ f)
abbrev QPA(X:Cx)(κ:tz9)(es:List Expr)(f:tz3):Prop:=PA X es (tPA X.K κ f)
theorem lF.see{K:tz0}{κ:tz9}{H:Hp}{d:D}{Q:VK}(h:xz2 K κ H d Q):lF K κ H d Q:=fun v H' fv s _ _ r=>h v H' fv s r
theorem lF.after{K:tz0}{κ:tz9}{H H1:Hp}{d:D}{Q:VK}(h:lF K κ H d Q)(s:SameK H H1):lF K κ H1 d Q:=
 fun v H' fv s' n nd r=>h v H' fv (s.trans s') (fun a ha=>s.grow a (n a ha)) nd r
theorem lF.now{K:tz0}{κ:tz9}{H:Hp}{d:D}{Q:VK}{v:V}(h:lF K κ H d Q)(r:Rep K κ H v d []):Q v H:=h v H [] (.refl H) (fun _ h=>absurd h (by simp)) List.nodup_nil r
theorem lF.at{K:tz0}{κ:tz9}{H:Hp}{d:D}{Q:VK}{p:Addr}{o:HO}{fv:List Addr}(h:lF K κ H d Q)(hp:H p=none)(hn:∀a∈fv,H a=none)(nd:fv.Nodup)(r:Rep K κ (upd H p o) (.ref p) d fv):Q (.ref p) (upd H p o):=
 h _ _ fv (.new hp o) hn nd r
section
variable{X:Cx}{κ:tz9}{e a b:Expr}{f fa fb:tz2}
theorem QP.v(h:QP X κ e f):QV X κ e f:=h.imp fun _ _ _ ⟨ps,d,w,e,q⟩=>⟨ps,d,w,e,.see q⟩
def dI(f:tz2):tz2:=fun ps=>(f ps).bind fun d=>if d.imm=true then some d else none
theorem QV.p(h:QV X κ e f):QP X κ e (dI f):=h.imp fun σ H Q hh_=>by
 obtain⟨ps,d,w,e,q⟩:=hh_
 unfold dI at e
 cases e1:f ps with
 |none=>rw [e1] at e;cases e
 | some d1=>
  rw [e1] at e
  by_cases hi:d1.imm=true
  ·have e2:d1=d:=by simpa [hi] using e
   subst e2
   refine⟨ps,d1,w,e1,fun v H' fp s r=> ?_⟩
   have:=r.imm hi;subst this
   exact q v H' [] s (fun _ h=>absurd h (by simp)) List.nodup_nil r
  ·simp [hi] at e
def aA(i:Nat):tz2:=fun ps=>(ps[i]?).join
theorem aC(i:Nat){x:Str}{pos:Pos}(hN:X.N[i]? =some x:=by rfl)(hv:Vis X.env.scope x:=by first|exact Or.inl rfl|exact Or.inr (Or.inl rfl)|exact Or.inr (Or.inr rfl))(hd:(x==("__debug__":Str))=false:=by decide)
  (hcd:(x==("__classdict__":Str))=false:=by decide):QV X κ (.Name x pos) (aA i):=(iP hN hv hd hcd).imp fun σ H Q hh_=>by
 obtain⟨ps,d,w,e,q⟩:=hh_
 have e':ps[i]? =some (some d):=by
  unfold aA at e
  cases q:ps[i]? with
  |none=>rw [q] at e;cases e
  |some o=>rw [q] at e;exact congrArg some e
 obtain⟨v,fp,h1,h2⟩:=w i d e'
 exact⟨v,h1,q v H fp (.refl H) h2⟩
def fC(d:D):tz2:=fun _=>some d
theorem aF{i j pos}:QP X κ (.Constant (.int i) j pos) (fC (.int i)):=iB.imp fun σ H Q ⟨ps,d,w,e,q⟩=>by cases e;exact q _ H [] (.refl H) (fun _ h=>absurd h (by simp)) List.nodup_nil (.int i)
theorem aX{x j pos}:QP X κ (.Constant (.str x) j pos) (fC (.str x)):=yo6.imp fun σ H Q ⟨ps,d,w,e,q⟩=>by cases e;exact q _ H [] (.refl H) (fun _ h=>absurd h (by simp)) List.nodup_nil (.str x)
theorem sG{b j pos}:QP X κ (.Constant (.bool b) j pos) (fC (.bl b)):=xg7.imp fun σ H Q ⟨ps,d,w,e,q⟩=>by cases e;exact q _ H [] (.refl H) (fun _ h=>absurd h (by simp)) List.nodup_nil (.bl b)
theorem tR{j pos}:QP X κ (.Constant .none j pos) (fC .non):=yo5.imp fun σ H Q ⟨ps,d,w,e,q⟩=>by cases e;exact q _ H [] (.refl H) (fun _ h=>absurd h (by simp)) List.nodup_nil .non
theorem iO(hg:Gl X x)(hm:X.mg x=some u)(r:cM v u)(hd:∀H,Rep X.K κ H v d [])(hdb:(x==("__debug__":Str))=false:=by decide):QP X κ (.Name x pos) (fC d):=
 (qT hg hm r hdb).imp fun σ H Q ⟨ps,d,w,e,q⟩=>by cases e;exact q _ H [] (.refl H) (fun _ h=>absurd h (by simp)) List.nodup_nil (hd H)
theorem wa4(hg:Gl X x)(hm:X.mg x=none)(hv:bootBuiltins x=some (.type n))(hn:x≠"__name__":=by decide)(hd:(x==("__debug__":Str))=false:=by decide):QP X κ (.Name x pos) (fC (.ty n)):=
 (xR (v:= .ty n) hg hm hv rfl hn hd).imp fun σ H Q ⟨ps,d,w,e,q⟩=>by cases e;exact q _ H [] (.refl H) (fun _ h=>absurd h (by simp)) List.nodup_nil (.ty n)
def f2(g:D->D->Option D)(fa fb:tz2):tz2:=fun ps=>(fa ps).bind fun x=>(fb ps).bind fun y=>g x y
def POp(K:tz0)(κ:tz9)(g:D->D->Option D):R2:=fun x y H Q=>∃dx dy d fx fy,Rep K κ H x dx fx/\Rep K κ H y dy fy/\g dx dy=some d/\lF K κ H d Q
theorem tT(h:f2 g fa fb ps=some d):∃x y,fa ps=some x/\fb ps=some y/\g x y=some d:=by
 unfold f2 at h
 cases e1:fa ps with
 |none=>rw [e1] at h;cases h
 |some x=>
  rw [e1] at h
  cases e2:fb ps with
  |none=>rw [e2] at h;cases h
  |some y=>rw [e2] at h;exact⟨x,y,rfl,rfl,h⟩
theorem zr1(hr:∀x y H Q,POp X.K κ g x y H Q->r x y H Q)(h:tP X.K κ (f2 g fa fb) σ H Q):tOp r (tV X.K κ fa) (tV X.K κ fb) σ H Q:=by
 obtain⟨ps,d,w,e,q⟩:=h
 obtain⟨x,y,e1,e2,e3⟩:=tT e
 exact⟨ps,x,w,e1,fun v H1 fp s1 r1=>⟨ps,y,w.same s1,e2,fun u H2 fq s2 r2=>hr _ _ _ _ ⟨x,y,d,fp,fq,r1.same s2,r2,e3,q.after (s1.trans s2)⟩⟩⟩
theorem aV(ho:OpR X (binaryOp op) (POp X.K κ g))(ha:QV X κ a fa)(hb:QV X κ b fb):QP X κ (.BinOp a op b pos) (f2 g fa fb):=
 (gM ho ha hb).imp fun _ _ _ h=>zr1 (fun _ _ _ _ h=>h) h
theorem nE(ho:OpR X (compareOp op) (POp X.K κ g))(ha:QV X κ a fa)(hb:QV X κ b fb)(hm:behindInMarks op b=false):QP X κ (.Compare a [op] [b] pos) (f2 g fa fb):=
 (xj8 ho ha hb hm).imp fun _ _ _ h=>zr1 (fun _ _ _ _ h=>h) h
def dB:D->Option Bool
 | .bl b=>some b
 |_=>none
def fB(f:tz2):tz4:=fun ps=>(f ps).bind dB
theorem yc7{f:tz2}{ps:PSt}{b:Bool}(h:fB f ps=some b):f ps=some (.bl b):=by
 unfold fB at h
 cases e:f ps with
 |none=>rw [e] at h;cases h
 |some d=>rw [e] at h;cases d<;>first|(cases h;rfl)|cases h
theorem Rep.is_bl{K:tz0}{H:Hp}{v:V}{b:Bool}{fp:List Addr}(r:Rep K κ H v (.bl b) fp):v= .bl b:=by cases r;rfl
theorem Rep.is_int{K:tz0}{H:Hp}{v:V}{b:Int}{fp:List Addr}(r:Rep K κ H v (.int b) fp):v= .int b:=by cases r;rfl
theorem Rep.is_str{K:tz0}{H:Hp}{v:V}{b:Str}{fp:List Addr}(r:Rep K κ H v (.str b) fp):v= .str b:=by cases r;rfl
theorem bC(ho:OpR X (compareOp op) (POp X.K κ g))(ha:QV X κ a fa)(hb:QV X κ b fb)(hm:behindInMarks op b=false):QT X κ (.Compare a [op] [b] pos) (fB (f2 g fa fb)):=
 (yc2 ho ha hb hm).imp fun σ H Q ⟨ps,c,w,e,q⟩=>zr1 (Q:=fun x H'=>∃k,x= .bl k/\Q k H') (fun _ _ _ _ h=>h) ⟨ps,_,w,yc7 e,fun v H' fv s _ _ r=>⟨c,r.is_bl,q H' s⟩⟩
def f3(g g':D->D->Option D)(fa fb fc:tz2):tz2:=fun ps=>(fa ps).bind fun x=>(fb ps).bind fun y=>(g x y).bind fun k=>match k with
 | .bl true=>(fc ps).bind fun z=>g' y z
 | .bl false=>some (.bl false)
 |_=>none
def zy5:D->Option Bool
 | .non=>some false
 | .bl b=>some b
 | .int i=>some (i !=0)
 | .str y=>if y.length<=sizeLine then some ((y.length:Int) !=0) else none
 | .lst _ xs=>some (!xs.isEmpty)
 | .tup xs=>some (!xs.isEmpty)
 | .con xs=>some (!xs.isEmpty)
 |_=>none
theorem nY{K:tz0}{H:Hp}{vs:List V}{ds:List D}{fp:List Addr}(r:Reps K κ H vs ds fp):ds.isEmpty=vs.isEmpty:=by cases r<;>rfl
theorem xl2{K:tz0}{H:Hp}{v:V}{d:D}{fp:List Addr}{b:Bool}(r:Rep K κ H v d fp)(h:zy5 d=some b):xf3 K v H b:=by
 cases r with
 |non=>cases h;rfl
 |bl b=>cases h;rfl
 |int i=>cases h;rfl
 |str x=>
  rw [zy5] at h
  split at h
  ·cases h;exact⟨by assumption,rfl⟩
  ·cases h
 |tup s rs=>cases h;exact .inr (.inl ⟨_,s,by rw [nY rs]⟩)
 |con s rs=>cases h;exact .inl ⟨_,s.l,by rw [nY rs]⟩
 |lst s rs=>cases h;exact .inl ⟨_,.inl (.inl s),by rw [nY rs]⟩
 |lstF s rs=>cases h;exact .inl ⟨_,.inl (.inr ⟨_,s⟩),by rw [nY rs]⟩
 |_=>cases h
def fT(f:tz2):tz4:=fun ps=>(f ps).bind zy5
theorem xl3{f:tz2}{ps:PSt}{b:Bool}(h:fT f ps=some b):∃d,f ps=some d/\zy5 d=some b:=by
 unfold fT at h
 cases e:f ps with
 |none=>rw [e] at h;cases h
 |some d=>rw [e] at h;exact⟨d,rfl,h⟩
theorem nF(ha:QV X κ a fa)(he:∀whole,isTrue a X.env whole=(do let v<-whole;standAt a.pos;holding [v] (truthy v)):=by intro _;rfl):QT X κ a (fT fa):=
 (yz0 ha he).imp fun σ H Q hh_=>by
  obtain⟨ps,c,w,e,q⟩:=hh_
  obtain⟨d,e1,e2⟩:=xl3 e
  exact⟨ps,d,w,e1,fun v H' fp s r=>⟨c,xl2 r e2,q H' s⟩⟩
def cZ(f g:tz4):tz4:=fun ps=>(f ps).bind fun c=>if c=true then g ps else some false
def jP(f g:tz4):tz4:=fun ps=>(f ps).bind fun c=>if c=true then some true else g ps
def mS(f:tz4):tz4:=fun ps=>(f ps).map (!·)
variable{pos:Pos}{bK:List Expr}{ta tb:tz4}
theorem jI(ha:QT X κ a ta):QW X κ (.BoolOp .And [a] pos) ta:=xj6 ha
theorem wQ(ha:QT X κ a ta):QW X κ (.BoolOp .Or [a] pos) ta:=zp7 ha
theorem jJ(ha:QT X κ a ta)(hb:QW X κ (.BoolOp .And (b::bK) pos) tb):QW X κ (.BoolOp .And (a::b::bK) pos) (cZ ta tb):=
 (xq2 ha hb).imp fun σ H Q hh_=>by
  obtain⟨ps,c,w,e,q⟩:=hh_
  unfold cZ at e
  cases e1:ta ps with
  |none=>rw [e1] at e;cases e
  | some k=>
   rw [e1] at e
   refine⟨ps,k,w,e1,fun H1 s1=> ?_⟩
   cases k with
   |true=>rw [if_pos rfl];exact⟨ps,c,w.same s1,by simpa using e,fun H2 s2=>q H2 (s1.trans s2)⟩
   |false=>
    rw [if_neg Bool.false_ne_true]
    have:c=false:=by simpa using e.symm
    subst this;exact q H1 s1
theorem xV(ha:QT X κ a ta)(hb:QW X κ (.BoolOp .Or (b::bK) pos) tb):QW X κ (.BoolOp .Or (a::b::bK) pos) (jP ta tb):=
 (zX ha hb).imp fun σ H Q hh_=>by
  obtain⟨ps,c,w,e,q⟩:=hh_
  unfold jP at e
  cases e1:ta ps with
  |none=>rw [e1] at e;cases e
  | some k=>
   rw [e1] at e
   refine⟨ps,k,w,e1,fun H1 s1=> ?_⟩
   cases k with
   |true=>
    rw [if_pos rfl]
    have:c=true:=by simpa using e.symm
    subst this;exact q H1 s1
   |false=>rw [if_neg Bool.false_ne_true];exact⟨ps,c,w.same s1,by simpa using e,fun H2 s2=>q H2 (s1.trans s2)⟩
theorem nB(h:QW X κ a ta):QT X κ a ta:=PW.pt h
theorem zr2(ha:QT X κ a ta):QT X κ (.UnaryOp .Not a pos) (mS ta):=
 (zY ha).imp fun σ H Q hh_=>by
  obtain⟨ps,c,w,e,q⟩:=hh_
  unfold mS at e
  cases e1:ta ps with
  |none=>rw [e1] at e;cases e
  |some k=>
   rw [e1] at e
   have:c= !k:=by simpa using e.symm
   subst this
   exact⟨ps,k,w,e1,fun H1 s1=>q H1 s1⟩
def fD(f g:tz2):tz2:=fun ps=>(f ps).bind fun c=>match c with
 | .bl true=>g ps
 | .bl false=>some (.bl false)
 |_=>none
theorem xh2{d:D}{α:Type}{x y:Option α}{z:α}(h:(match d with| .bl true=>x| .bl false=>y|_=>none)=some z):∃b,d= .bl b/\(if b=true then x else y)=some z:=by
 cases d with
 |bl b=>cases b<;>exact⟨_,rfl,h⟩
 |_=>cases h
theorem xs7{op}(h:QP X κ a fa):QP X κ (.BoolOp op [a] pos) fa:=xq3 h
theorem xs8(ha:QP X κ a fa)(hb:QP X κ (.BoolOp .And (b::bK) pos) fb):QP X κ (.BoolOp .And (a::b::bK) pos) (fD fa fb):=
 (xq4 ha hb).imp fun σ H Q hh_=>by
  obtain⟨ps,d,w,e,q⟩:=hh_
  unfold fD at e
  cases e1:fa ps with
  |none=>rw [e1] at e;cases e
  | some k=>
   rw [e1] at e
   obtain⟨c,rfl,e2⟩:=xh2 (x:=fb ps) (y:=some (.bl false)) e
   refine⟨ps,_,w,e1,fun v H1 fv s1 _ _ r1=>⟨c,r1.is_bl,?_⟩⟩
   cases c with
   |true=>rw [if_pos rfl] at e2|-;exact⟨ps,d,w.same s1,e2,q.after s1⟩
   |false=>
    rw [if_neg Bool.false_ne_true] at e2|-
    cases e2;exact(q.after s1).now (.bl false)
def dR(f:tz2):tz2:=fun ps=>(f ps).bind fun c=>match c with
 | .int i=>some (.int (-i))
 |_=>none
theorem hU(ha:QV X κ a fa):QP X κ (.UnaryOp .USub a pos) (dR fa):=
 (xz7 xq9 ha).imp fun σ H Q hh_=>by
  obtain⟨ps,d,w,e,q⟩:=hh_
  unfold dR at e
  cases e1:fa ps with
  |none=>rw [e1] at e;cases e
  |some k=>
   rw [e1] at e
   cases k with
   |int i=>cases e;exact⟨ps,_,w,e1,fun v H1 fp s1 r1=>⟨i,r1.is_int,(q.after s1).now (.int _)⟩⟩
   |_=>cases e
end
section
variable{X:Cx}{κ:tz9}
theorem Inv.lstR(I:Inv X pins σ H s)(h:Rd H l (.lst xs)):
  xs.length<=sizeLine/\∃(its:List Value) (n:Nat),bN xs its/\xs.length=its.length/\s.heap.get? l=some {cls:= .type "list",data:= .seq its.toArray n}:=by
 obtain⟨z,its,n,r,e⟩:=h.ok I.hok
 exact⟨z,its,n,r,r.length,e⟩
theorem xl4:OpR X (binaryOp .Add) (fun x y H Q=>∃l b xs zs,x= .ref l/\y= .ref b/\Rd H l (.lst xs)/\Rd H b (.lst zs)/\xs.length+zs.length<=sizeLine/\∀p,H p=none->Q (.ref p) (upd H p (.lst (xs++zs)))):=⟨by
 intro pins s σ H x y v u Q I rx ry h
 obtain⟨l,b,xs,zs,rfl,rfl,hH,hB,hz,q⟩:=h
 cases rx
 cases ry
 obtain⟨z,its,n,r,hl,e⟩:=I.lstR hH
 obtain⟨z2,its2,n2,r2,hl2,e2⟩:=I.lstR hB
 refine PySem.P.add_list e e2 ?_ (by rw [List.size_toArray,List.size_toArray];omega)
 have ea:its.toArray++its2.toArray=(its++its2).toArray:=by simp
 rw [ea]
 exact⟨.ref _,_,I.lnew (t':=s.toks) (r.append r2) (by rw [List.length_append];omega),rfl,q _ I.fresh⟩⟩
theorem xl5:OpR X (binaryOp .Mult) (fun x y H Q=>∃l k xs,x= .ref l/\y= .int k/\Rd H l (.lst xs)/\ -(2^63)<=k/\k<2^63/\xs.length*k.toNat<=sizeLine/\
  ∀p,H p=none->Q (.ref p) (upd H p (.lst (List.replicate k.toNat xs).flatten))):=⟨by
 intro pins s σ H x y v u Q I rx ry h
 obtain⟨l,k,xs,rfl,rfl,hH,h1,h2,hz,q⟩:=h
 cases rx
 obtain⟨t,rfl⟩:=ry
 obtain⟨z,its,n,r,hl,e⟩:=I.lstR hH
 have hlen:its.toArray.size*k.toNat<=sizeLine:=by rw [List.size_toArray,<-hl];exact hz
 have hcap:¬its.toArray.size*k.toNat>(2^63-1)/8:=by
  have:(sizeLine:Nat)<=(2^63-1)/8:=by decide
  omega
 have hfit:¬(!Builtin.List.listFitsIndex k)=true:=by
  rw [fitsIndex_both h1 h2]
  exact Bool.false_ne_true
 have hlong:¬Builtin.List.listTooLong (its.toArray.size*k.toNat)=true:=by
  rw [yz6 hlen]
  exact Bool.false_ne_true
 have hnew:List.foldl (fun x1 x2=>x1++x2) #[] (List.replicate (if its.toArray.isEmpty=true then 0 else k.toNat) its.toArray)=(List.replicate k.toNat its).flatten.toArray:=by
  have f0:∀m:Nat,List.foldl (fun x1 x2=>x1++x2) #[] (List.replicate m its.toArray)=(List.replicate m its).flatten.toArray:=fun m=>by
   have:=zj3 its m []
   rw [List.nil_append] at this
   exact this
  rw [f0]
  cases its with
  |nil=>simp
  |cons a r'=>rw [if_neg (by simp)]
 refine wpAny_binaryOp_repeat_ref (T:="list") (U:="int") (by decide) ⟨_,e,rfl⟩ (fun s'=>typeIs_int s' k t) noFill_list_mul F.fills_int_mul F.slot_int_rmul repeat_list F.slot_int_index.lookup
  (call_meets F.slot_int_rmul (typeIs_int s k t) F.entry_int_rmul (F.args_int_rmul_2 _ _) (int___rmul___int_list k t l its.toArray n)
   ⟨e,rfl,⟨_,e,rfl⟩,call_meets F.slot_list_mul ⟨_,e,rfl⟩ F.entry_list_mul (F.args_list_mul_2 _ _) (AutoListH.list___mul___list_int_3 l its.toArray n k t hfit hcap hlong) ⟨e,?_⟩⟩)
 rw [hnew]
 exact⟨.ref _,_,I.lnew (t':=s.toks) (r.rep k.toNat) (by rw [xk4,Nat.mul_comm];exact hz),rfl,q _ I.fresh⟩⟩
theorem Rep.lst_inv{K:tz0}{H:Hp}{v:V}{o:Bool}{ds:List D}{fp:List Addr}(r:Rep K κ H v (.lst o ds) fp):∃a vs g,v= .ref a/\Rd H a (.lst vs)/\Reps K κ H vs ds g/\g.Sublist fp:=by
 cases r with
 |lst h hs=>exact⟨_,_,_,rfl,.inl h,hs,List.sublist_cons_self _ _⟩
 |lstF h hs=>exact⟨_,_,_,rfl,.inr ⟨_,h⟩,hs,.refl _⟩
theorem Rep.lstT_inv{K:tz0}{H:Hp}{v:V}{ds:List D}{fp:List Addr}(r:Rep K κ H v (.lst true ds) fp):∃a vs g,v= .ref a/\H a=some (.lst vs)/\Reps K κ H vs ds g/\fp=a::g:=by
 cases r with
 |lst h hs=>exact⟨_,_,_,rfl,h,hs,rfl⟩
theorem Rep.objT_inv{K:tz0}{H:Hp}{v:V}{C:Str}{ns:List Str}{ds:List D}{fp:List Addr}(r:Rep K κ H v (.obj true C ns ds) fp):∃a dx fs g,v= .ref a/\H a=some (.ins (κ C) dx fs)/\fs.map (·.1)=ns/\Reps K κ H (fs.map (·.2)) ds g/\fp=a::g:=by
 cases r with
 |obj h e hs=>exact⟨_,_,_,_,rfl,h,e,hs,rfl⟩
theorem Rep.tup_inv{K:tz0}{H:Hp}{v:V}{ds:List D}{fp:List Addr}(r:Rep K κ H v (.tup ds) fp):∃a vs,v= .ref a/\SqT K H a vs/\Reps K κ H vs ds []:=by
 cases r with
 |tup h hs=>exact⟨_,_,rfl,h,hs⟩
theorem Reps.pair{K:tz0}{H:Hp}{vs:List V}{ds:List D}{fp:List Addr}(r:Reps K κ H vs ds fp)(h:D.imms ds=true):Paired (fun v d=>Rep K κ H v d []) vs ds:=by
 have e:=r.imm h
 subst e
 exact r.nilp
theorem Rep.con_inv{K:tz0}{H:Hp}{v:V}{ds:List D}{fp:List Addr}(r:Rep K κ H v (.con ds) fp):∃a vs,v= .ref a/\SqF K H a vs/\Reps K κ H vs ds []:=by
 cases r with
 |con h hs=>exact⟨_,_,rfl,h,hs⟩
theorem tU{K:tz0}{H:Hp}{vs:List V}{ds:List D}{Q:VK}{p:Addr}(hp:H p=none)(r:Paired (fun v d=>Rep K κ H v d []) vs ds)(q:lF K κ H (.lst true ds) Q):Q (.ref p) (upd H p (.lst vs)):=
 q.at hp (fv:=[p]) (fun a ha=>by simp at ha;subst ha;exact hp) (by simp) (.lst dA ((Reps.ofp r).same (.new hp _)))
theorem yc8{K:tz0}{H:Hp}{vs:List V}{ds:List D}{Q:VK}{p:Addr}(hp:H p=none)(r:Paired (fun v d=>Rep K κ H v d []) vs ds)(q:lF K κ H (.tup ds) Q):Q (.ref p) (upd H p (.tup vs)):=
 q.at hp (fv:=[]) (fun a ha=>by simp at ha) (by simp) (.tup (.inl (.inl dA)) ((Reps.ofp r).same (.new hp _)))
def aZ:D->D->Option D
 | .int i,.int j=>some (.int (i+j))
 | .str x,.str y=>if x.length+y.length<=sizeLine then some (.str (x++y)) else none
 | .lst _ xs,.lst _ ys=>if (D.imms xs&&D.imms ys&&decide (xs.length+ys.length<=sizeLine))=true then some (.lst true (xs++ys)) else none
 |_,_=>none
theorem bind_some(h:o.bind g=some z):∃x,o=some x/\g x=some z:=by
 cases o with
 |none=>cases h
 |some x=>exact⟨x,rfl,h⟩
theorem bV[Decidable c]{x:Option α}{z:α}(h:(if c then x else none)=some z):c/\x=some z:=by
 by_cases k:c
 ·rw [if_pos k] at h;exact⟨k,h⟩
 ·rw [if_neg k] at h;cases h
theorem cG:OpR X (binaryOp .Add) (POp X.K κ aZ):=⟨by
 rintro pins s σ H x y v u Q I rx ry ⟨dx,dy,d,fx,fy,r1,r2,e,q⟩
 unfold aZ at e
 split at e
 ·rename_i i j
  cases e;exact tM pins s σ H x y v u Q I rx ry ⟨i,j,r1.is_int,r2.is_int,q.now (.int _)⟩
 ·rename_i i j
  obtain⟨hc,e⟩:=bV e
  cases e;exact yh8 pins s σ H x y v u Q I rx ry ⟨i,j,r1.is_str,r2.is_str,hc,q.now (.str _)⟩
 ·rename_i o xs o' ys
  obtain⟨hc,e⟩:=bV e
  simp only [Bool.and_eq_true,decide_eq_true_eq] at hc
  cases e
  obtain⟨a,vs,g,rfl,h1,s1,_⟩:=r1.lst_inv
  obtain⟨b,us,g',rfl,h2,s2,_⟩:=r2.lst_inv
  exact xl4 pins s σ H _ _ v u Q I rx ry ⟨a,b,vs,us,rfl,rfl,h1,h2,by rw [s1.length,s2.length];exact hc.2,fun p hp=>tU hp (Paired.app (s1.pair hc.1.1) (s2.pair hc.1.2)) q⟩
 ·cases e⟩
def dII(C:Int->Int->Bool)(g:Int->Int->D):D->D->Option D
 | .int i,.int j=>if C i j=true then some (g i j) else none
 |_,_=>none
theorem zr3(h:dII C g x y=some d):∃i j,x= .int i/\y= .int j/\C i j=true/\d=g i j:=by
 unfold dII at h
 split at h
 ·obtain⟨hc,h⟩:=bV h
  cases h;exact⟨_,_,rfl,rfl,hc,rfl⟩
 ·cases h
def eO:D->D->Option D
 | .int i,.int j=>some (.int (i-j))
 |_,_=>none
theorem wa5:OpR X (binaryOp .Sub) (POp X.K κ eO):=⟨by
 rintro pins s σ H x y v u Q I rx ry ⟨dx,dy,d,fx,fy,r1,r2,e,q⟩
 unfold eO at e
 split at e
 ·rename_i i j
  cases e;exact xq7 pins s σ H x y v u Q I rx ry ⟨i,j,r1.is_int,r2.is_int,q.now (.int _)⟩
 ·cases e⟩
def lX(i j:Int):Bool:=(decide (-(2^64)<i)&&decide (i<2^64))||(decide (-(2^64)<j)&&decide (j<2^64))
def nD:D->D->Option D
 | .int i,.int j=>if lX i j=true then some (.int (i*j)) else none
 | .lst _ xs,.int k=>if (D.imms xs&&decide (-(2^63)<=k)&&decide (k<2^63)&&decide (xs.length*k.toNat<=sizeLine))=true then some (.lst true (List.replicate k.toNat xs).flatten) else none
 |_,_=>none
theorem yj1:OpR X (binaryOp .Mult) (POp X.K κ nD):=⟨by
 rintro pins s σ H x y v u Q I rx ry ⟨dx,dy,d,fx,fy,r1,r2,e,q⟩
 unfold nD at e
 split at e
 ·rename_i i j
  obtain⟨hc,e⟩:=bV e
  cases e
  refine nW pins s σ H x y v u Q I rx ry ⟨i,j,r1.is_int,r2.is_int,?_,q.now (.int _)⟩
  unfold lX at hc
  simp only [Bool.or_eq_true,Bool.and_eq_true,decide_eq_true_eq] at hc
  exact hc
 ·rename_i o xs k
  obtain⟨hc,e⟩:=bV e
  simp only [Bool.and_eq_true,decide_eq_true_eq] at hc
  cases e
  obtain⟨a,vs,g,rfl,h1,s1,_⟩:=r1.lst_inv
  have l1:=s1.length
  exact xl5 pins s σ H _ _ v u Q I rx ry ⟨a,k,vs,rfl,r2.is_int,h1,hc.1.1.2,hc.1.2,by rw [l1];exact hc.2,fun p hp=>tU hp (Paired.repl (s1.pair hc.1.1.1) _) q⟩
 ·cases e⟩
def cW:D->D->Option D:=dII (fun _ j=>decide (0<j)) fun i j=> .int (i % j)
theorem eJ:OpR X (binaryOp .Mod) (POp X.K κ cW):=⟨by
 rintro pins s σ H x y v u Q I rx ry ⟨dx,dy,d,fx,fy,r1,r2,e,q⟩
 obtain⟨i,j,rfl,rfl,hc,rfl⟩:=zr3 e
 exact za0 pins s σ H x y v u Q I rx ry ⟨i,j,r1.is_int,r2.is_int,of_decide_eq_true hc,q.now (.int _)⟩⟩
def eP:D->D->Option D:=dII (fun _ j=>decide (0<j)&&decide (j<1073741824)) fun i j=> .int (i/j)
theorem iQ:OpR X (binaryOp .FloorDiv) (POp X.K κ eP):=⟨by
 rintro pins s σ H x y v u Q I rx ry ⟨dx,dy,d,fx,fy,r1,r2,e,q⟩
 obtain⟨i,j,rfl,rfl,hc,rfl⟩:=zr3 e
 simp only [Bool.and_eq_true,decide_eq_true_eq] at hc
 exact yb8 pins s σ H x y v u Q I rx ry ⟨i,j,r1.is_int,r2.is_int,hc,q.now (.int _)⟩⟩
def D.ints:List D->Option (List Int)
 |[]=>some []
 | .int i::ds=>(D.ints ds).map (i::·)
 |_::_=>none
theorem yc9{K:tz0}{H:Hp}:∀{vs:List V} {ds:List D} {fp:List Addr} {ns:List Int},Reps K κ H vs ds fp->D.ints ds=some ns->vs=ns.map V.int
 |_,_,_,_,.nil,e=>by cases e;rfl
 | _,d::ds,_,ns,.cons h hs,e=>by
  cases d with
  |int i=>
   rw [D.ints] at e
   cases e1:D.ints ds with
   |none=>rw [e1] at e;cases e
   |some ms=>rw [e1] at e;cases e;rw [h.is_int,yc9 hs e1];rfl
  |_=>cases e
def dLt:D->D->Option D
 | .int i,.int j=>some (.bl (decide (i<j)))
 | .str i,.str j=>some (.bl (decide (i.cps.toList<j.cps.toList)))
 |_,_=>none
theorem tG(hu:X.A.units<cLine):OpR X (compareOp .Lt) (POp X.K κ dLt):=⟨by
 rintro pins s σ H x y v u Q I rx ry ⟨dx,dy,d,fx,fy,r1,r2,e,q⟩
 unfold dLt at e
 split at e
 ·rename_i i j
  cases e;exact xz8 pins s σ H x y v u Q I rx ry ⟨i,j,r1.is_int,r2.is_int,q.now (.bl _)⟩
 ·rename_i i j
  cases e;exact yp5 pins s σ H x y v u Q I rx ry ⟨i,j,r1.is_str,r2.is_str,q.now (.bl _)⟩
 ·cases e⟩
def dLe:D->D->Option D
 | .int i,.int j=>some (.bl (decide (i<=j)))
 | .str i,.str j=>some (.bl (!sLt j i))
 |_,_=>none
theorem wR:OpR X (compareOp .LtE) (POp X.K κ dLe):=⟨by
 rintro pins s σ H x y v u Q I rx ry ⟨dx,dy,d,fx,fy,r1,r2,e,q⟩
 unfold dLe at e
 split at e
 ·rename_i i j
  cases e;exact xz9 pins s σ H x y v u Q I rx ry ⟨i,j,r1.is_int,r2.is_int,q.now (.bl _)⟩
 ·rename_i i j
  cases e;exact yr2 pins s σ H x y v u Q I rx ry ⟨i,j,r1.is_str,r2.is_str,q.now (.bl _)⟩
 ·cases e⟩
def dGt:D->D->Option D
 | .int i,.int j=>some (.bl (decide (j<i)))
 |_,_=>none
theorem uQ:OpR X (compareOp .Gt) (POp X.K κ dGt):=⟨by
 rintro pins s σ H x y v u Q I rx ry ⟨dx,dy,d,fx,fy,r1,r2,e,q⟩
 unfold dGt at e
 split at e
 ·rename_i i j
  cases e;exact wa0 pins s σ H x y v u Q I rx ry ⟨i,j,r1.is_int,r2.is_int,q.now (.bl _)⟩
 ·cases e⟩
def dGe:D->D->Option D
 | .int i,.int j=>some (.bl (decide (j<=i)))
 |_,_=>none
theorem xa3:OpR X (compareOp .GtE) (POp X.K κ dGe):=⟨by
 rintro pins s σ H x y v u Q I rx ry ⟨dx,dy,d,fx,fy,r1,r2,e,q⟩
 unfold dGe at e
 split at e
 ·rename_i i j
  cases e;exact wa1 pins s σ H x y v u Q I rx ry ⟨i,j,r1.is_int,r2.is_int,q.now (.bl _)⟩
 ·cases e⟩
mutual
def D.data:D->Option PyData
 | .non=>some .none
 | .bl b=>some (.bool b)
 | .int i=>some (.int i)
 | .str x=>some (.str x)
 | .tup xs=>(D.datas xs).map .tuple
 | .lst _ xs=>(D.datas xs).map .list
 |_=>none
def D.datas:List D->Option (List PyData)
 |[]=>some []
 |d::ds=>d.data.bind fun p=>(D.datas ds).map (p::·)
end
theorem Reps.dps{K:tz0}{H:Hp}{vs:List V}{ds:List D}{fp:List Addr}(h:Reps K κ H vs ds fp):∀{p:List PyData},D.datas ds=some p->DpAll K H vs p:=
 Reps.rec (motive_1:=fun v d _ _=>∀{p:PyData},d.data=some p->Dp K H v p) (motive_2:=fun vs ds _ _=>∀{p:List PyData},D.datas ds=some p->DpAll K H vs p)
  (fun e=>by cases e;exact .non) (fun b _ e=>by cases e;exact .bl b) (fun b _ e=>by cases e;exact .int b) (fun b _ e=>by cases e;exact .str b) (fun b _ e=>nomatch e)
  (fun h _ ih _ e=>by obtain⟨ps,e1,e⟩:=Option.map_eq_some_iff.mp e;subst e;exact .tup h (ih e1)) (fun _ _ _ _ e=>nomatch e)
  (fun h _ ih _ e=>by obtain⟨ps,e1,e⟩:=Option.map_eq_some_iff.mp e;subst e;exact .lst (.inl (.inl h)) (ih e1))
  (fun h _ ih _ e=>by obtain⟨ps,e1,e⟩:=Option.map_eq_some_iff.mp e;subst e;exact .lst (.inl (.inr ⟨_,h⟩)) (ih e1))
  (fun _ _ _ _ _ e=>nomatch e) (fun _ _ _ _ _ e=>nomatch e) (fun _ _ _ _ _ e=>nomatch e) (fun _ _ _ _ _ e=>nomatch e)
  (fun e=>by cases e;exact .nil)
  (fun _ _ i1 i2 _ e=>by
   obtain⟨q,e1,e⟩:=bind_some e
   obtain⟨qs,e2,e⟩:=Option.map_eq_some_iff.mp e
   subst e
   exact .cons (i1 e1) (i2 e2)) h
theorem Rep.dp{K:tz0}{H:Hp}{v:V}{d:D}{fp:List Addr}{p:PyData}(h:Rep K κ H v d fp)(e:d.data=some p):Dp K H v p:=by
 have:=(Reps.one h).dps (p:=[p]) (by show(d.data.bind _)=_;rw [e];rfl)
 cases this;assumption
def zy6(x y:D):Option Bool:=x.data.bind fun a=>y.data.bind fun b=>if (a.canLay0&&b.canLay0&&decide (a.depth<=60))=true then some (PyData.eqv a b) else none
def eqB(x y:D):Option Bool:=match x,y with
 | .int i,.int j=>some (decide (i=j))
 | .str i,.str j=>some (decide (i=j))
 |x,y=>zy6 x y
def dEq(x y:D):Option D:=(eqB x y).map .bl
def dNe(x y:D):Option D:=(eqB x y).map fun b=> .bl (!b)
theorem zj9(h:eqB x y=some b):(∃i j,x= .int i/\y= .int j/\b=decide (i=j))\/(∃i j,x= .str i/\y= .str j/\b=decide (i=j))\/
  ∃p q,x.data=some p/\y.data=some q/\p.canLay0=true/\q.canLay0=true/\p.depth<=60/\b=PyData.eqv p q:=by
 have gen:zy6 x y=some b->∃p q,x.data=some p/\y.data=some q/\p.canLay0=true/\q.canLay0=true/\p.depth<=60/\b=PyData.eqv p q:=fun h=>by
  unfold zy6 at h
  cases e1:x.data with
  |none=>rw [e1] at h;cases h
  | some p=>
   rw [e1] at h
   cases e2:y.data with
   |none=>rw [e2] at h;cases h
   | some q=>
    rw [e2] at h
    have h':(if (p.canLay0&&q.canLay0&&decide (p.depth<=60))=true then some (PyData.eqv p q) else none)=some b:=h
    split at h'
    ·rename_i hc
     simp only [Bool.and_eq_true,decide_eq_true_eq] at hc
     exact⟨p,q,rfl,rfl,hc.1.1,hc.1.2,hc.2,(Option.some.inj h').symm⟩
    ·cases h'
 unfold eqB at h
 split at h
 ·cases h;exact .inl ⟨_,_,rfl,rfl,rfl⟩
 ·cases h;exact .inr (.inl ⟨_,_,rfl,rfl,rfl⟩)
 ·exact .inr (.inr (gen h))
theorem dQ(hu:X.A.units+64<cLine):OpR X (compareOp .Eq) (POp X.K κ dEq):=⟨by
 rintro pins s σ H x y v u Q I rx ry ⟨dx,dy,d,fx,fy,r1,r2,e,q⟩
 unfold dEq at e
 cases e1:eqB dx dy with
 |none=>rw [e1] at e;cases e
 | some b=>
  rw [e1] at e
  cases e
  rcases zj9 e1 with ⟨i,j,rfl,rfl,rfl⟩|⟨i,j,rfl,rfl,rfl⟩|⟨p,p',h1,h2,h3,h4,h5,rfl⟩
  ·rw [r1.is_int] at rx;rw [r2.is_int] at ry
   exact yh6 pins s σ H _ _ v u Q I rx ry ⟨rfl,by rw [show decide (V.int i=V.int j)=decide (i=j) by simp];exact q.now (.bl _)⟩
  ·rw [r1.is_str] at rx;rw [r2.is_str] at ry
   exact yh6 pins s σ H _ _ v u Q I rx ry ⟨rfl,by rw [show decide (V.str i=V.str j)=decide (i=j) by simp];exact q.now (.bl _)⟩
  ·exact xs4 hu pins s σ H _ _ v u Q I rx ry ⟨p,p',r1.dp h1,r2.dp h2,h3,h4,h5,q.now (.bl _)⟩⟩
theorem yj2(hu:X.A.units+64<cLine):OpR X (compareOp .NotEq) (POp X.K κ dNe):=⟨by
 rintro pins s σ H x y v u Q I rx ry ⟨dx,dy,d,fx,fy,r1,r2,e,q⟩
 unfold dNe at e
 cases e1:eqB dx dy with
 |none=>rw [e1] at e;cases e
 | some b=>
  rw [e1] at e
  cases e
  rcases zj9 e1 with ⟨i,j,rfl,rfl,rfl⟩|⟨i,j,rfl,rfl,rfl⟩|⟨p,p',h1,h2,h3,h4,h5,rfl⟩
  ·rw [r1.is_int] at rx;rw [r2.is_int] at ry
   exact xg8 pins s σ H _ _ v u Q I rx ry ⟨rfl,by rw [show decide (V.int i=V.int j)=decide (i=j) by simp];exact q.now (.bl _)⟩
  ·rw [r1.is_str] at rx;rw [r2.is_str] at ry
   exact xg8 pins s σ H _ _ v u Q I rx ry ⟨rfl,by rw [show decide (V.str i=V.str j)=decide (i=j) by simp];exact q.now (.bl _)⟩
  ·exact xs5 hu pins s σ H _ _ v u Q I rx ry ⟨p,p',r1.dp h1,r2.dp h2,h3,h4,h5,q.now (.bl _)⟩⟩
def gH:D->Bool
 | .non=>true
 |_=>false
theorem xa4{K:tz0}{H:Hp}{v:V}{d:D}{fp:List Addr}(r:Rep K κ H v d fp):decide (v= .non)=gH d:=by cases r<;>first|rfl|simp [gH]
def dIs:D->D->Option D
 |x,.non=>some (.bl (gH x))
 |_,_=>none
theorem xa5:OpR X (compareOp .Is) (POp X.K κ dIs):=⟨by
 rintro pins s σ H x y v u Q I rx ry ⟨dx,dy,d,fx,fy,r1,r2,e,q⟩
 cases dy with
 |non=>
  cases e;cases r2
  refine xr0 pins s σ H x _ v u Q I rx ry ⟨rfl,?_⟩
  rw [xa4 r1];exact q.now (.bl _)
 |_=>cases e⟩
def D.flat:D->Option V
 | .non=>some .non
 | .bl b=>some (.bl b)
 | .int i=>some (.int i)
 | .str x=>some (.str x)
 |_=>none
def D.flats:List D->Option (List V)
 |[]=>some []
 |d::ds=>d.flat.bind fun v=>(D.flats ds).map (v::·)
theorem yd0{K:tz0}{H:Hp}{v w:V}{d:D}{fp:List Addr}(r:Rep K κ H v d fp)(h:d.flat=some w):v=w/\lI v=true:=by
 cases r<;>first|(cases h;exact⟨rfl,rfl⟩)|cases h
theorem zr4{K:tz0}{H:Hp}:∀{vs ws:List V} {ds:List D} {fp:List Addr},Reps K κ H vs ds fp->D.flats ds=some ws->vs=ws/\vs.all lI=true
 |_,_,_,_,.nil,e=>by cases e;exact⟨rfl,rfl⟩
 | _,ws,d::ds,_,.cons h hs,e=>by
  rw [D.flats] at e
  cases e1:d.flat with
  |none=>rw [e1] at e;cases e
  | some w=>
   rw [e1] at e
   cases e2:D.flats ds with
   |none=>rw [e2] at e;cases e
   |some us=>
    rw [e2] at e;cases e
    obtain⟨a1,a2⟩:=yd0 h e1
    obtain⟨b1,b2⟩:=zr4 hs e2
    exact⟨by rw [a1,b1],by rw [List.all_cons,a2,b2];rfl⟩
def ze6(x:D)(ds:List D):Option Bool:=x.flat.bind fun v=>(D.flats ds).map fun ws=>inV v ws
def inB(x:D):D->Option Bool
 | .lst _ ds=>ze6 x ds
 | .tup ds=>ze6 x ds
 |_=>none
def dIn(x y:D):Option D:=(inB x y).map .bl
theorem xs9{H:Hp}{x y:V}{dx dy:D}{fx fy:List Addr}{b:Bool}(r1:Rep X.K κ H x dx fx)(r2:Rep X.K κ H y dy fy)(e:inB dx dy=some b):
  ∃p xs,y= .ref p/\(SqL X.K H p xs\/SqT X.K H p xs)/\lI x=true/\xs.all lI=true/\b=inV x xs:=by
 have gen:∀{vs:List V} {ds:List D} {g:List Addr},Reps X.K κ H vs ds g->ze6 dx ds=some b->lI x=true/\vs.all lI=true/\b=inV x vs:=fun {vs ds g} rs h=>by
  unfold ze6 at h
  cases e1:dx.flat with
  |none=>rw [e1] at h;cases h
  | some w=>
   rw [e1] at h
   cases e2:D.flats ds with
   |none=>rw [e2] at h;cases h
   |some ws=>
    rw [e2] at h
    obtain⟨a1,a2⟩:=yd0 r1 e1
    obtain⟨b1,b2⟩:=zr4 rs e2
    subst a1 b1
    exact⟨a2,b2,(Option.some.inj h).symm⟩
 cases dy with
 |lst o ds=>
  obtain⟨a,vs,g,rfl,h,hs,_⟩:=r2.lst_inv
  obtain⟨g1,g2,g3⟩:=gen hs e
  exact⟨a,vs,rfl,.inl (.inl h),g1,g2,g3⟩
 |tup ds=>
  obtain⟨a,vs,rfl,h,hs⟩:=r2.tup_inv
  obtain⟨g1,g2,g3⟩:=gen hs e
  exact⟨a,vs,rfl,.inr h,g1,g2,g3⟩
 |_=>cases e
theorem zg2:OpR X (compareOp .In) (POp X.K κ dIn):=⟨by
 rintro pins s σ H x y v u Q I rx ry ⟨dx,dy,d,fx,fy,r1,r2,e,q⟩
 unfold dIn at e
 cases e1:inB dx dy with
 |none=>rw [e1] at e;cases e
 |some b=>
  rw [e1] at e;cases e
  obtain⟨p,xs,ey,h,f1,f2,rfl⟩:=xs9 r1 r2 e1
  exact yq4 pins s σ H x y v u Q I rx ry ⟨p,xs,ey,h,f1,f2,q.now (.bl _)⟩⟩
end
theorem Reps.getS{K:tz0}{κ:tz9}{H:Hp}:∀{vs:List V} {ds:List D} {fp:List Addr} {i:Nat} {d:D},Reps K κ H vs ds fp->ds[i]? =some d->∃v f,vs[i]? =some v/\Rep K κ H v d f/\f.Sublist fp
 |_,_,_,_,_,.nil,e=>by simp at e
 |_,_,_,0,_,.cons h _,e=>by simp at e;subst e;exact⟨_,_,rfl,h,List.sublist_append_left _ _⟩
 |_,_,_,i+1,_,.cons _ hs,e=>by
  obtain⟨v,f,h1,h2,h3⟩:=Reps.getS (i:=i) hs (by simpa using e)
  exact⟨v,f,by simpa using h1,h2,h3.trans (List.sublist_append_right _ _)⟩
theorem Reps.atI{K:tz0}{κ:tz9}{H:Hp}{vs:List V}{ds:List D}{fp:List Addr}{i:Int}{d:D}(r:Reps K κ H vs ds fp)(h:L2.atI ds i=some d):∃v f,L2.atI vs i=some v/\Rep K κ H v d f/\f.Sublist fp:=by
 unfold L2.atI at h|-
 rw [r.length]
 cases e:ixN ds.length i with
 |none=>rw [e] at h;cases h
 |some j=>rw [e] at h;exact r.getS h
section
variable{X:Cx}{κ:tz9}{e a b:Expr}{es:List Expr}{f fa fb:tz2}{g:tz3}{pos p2:Pos}
def aD:tz3:=fun _=>some []
def aB(f:tz2)(g:tz3):tz3:=fun ps=>(f ps).bind fun d=>(g ps).bind fun ds=>some (d::ds)
theorem uR(h:aB f g ps=some ds):∃d es,f ps=some d/\g ps=some es/\ds=d::es:=by
 unfold aB at h
 cases e1:f ps with
 |none=>rw [e1] at h;cases h
 |some d=>
  rw [e1] at h
  cases e2:g ps with
  |none=>rw [e2] at h;cases h
  |some es=>rw [e2] at h;cases h;exact⟨d,es,rfl,rfl,rfl⟩
theorem aP:QVA X κ [] aD:=jG.imp fun σ H Q ⟨ps,ds,w,e,q⟩=>by cases e;exact q [] H [] (.refl H) .nil
theorem aH(ha:QV X κ e f)(hr:QVA X κ es g)(hs:starEach (e::es) X.env=(false,eval e X.env)::starEach es X.env:=by rfl):QVA X κ (e::es) (aB f g):=
 (eB ha hr hs).imp fun σ H Q hh_=>by
  obtain⟨ps,ds,w,e,q⟩:=hh_
  obtain⟨d,es,e1,e2,rfl⟩:=uR e
  exact⟨ps,d,w,e1,fun v H1 fp s1 r1=>⟨ps,es,w.same s1,e2,fun vs H2 fq s2 r2=>q _ H2 _ (s1.trans s2) (.cons (r1.same s2) r2)⟩⟩
theorem bD:QPA X κ [] aD:=jG.imp fun σ H Q ⟨ps,ds,w,e,q⟩=>by cases e;exact q [] H [] (.refl H) (fun _ h=>absurd h (by simp)) List.nodup_nil .nil
theorem zk0{K:tz0}{H1:Hp}{v:V}{d:D}{fv fw:List Addr}(r:Rep K κ H1 v d fv)(n1:fv.Nodup)(hw:∀a∈fw,H1 a=none)(n2:fw.Nodup):(fv++fw).Nodup:=by
 rw [List.nodup_append]
 refine⟨n1,n2,fun a ha b hb e=> ?_⟩
 subst e
 obtain⟨o,h,_⟩:=r.own a ha
 rw [hw a hb] at h;cases h
theorem aQ(ha:QP X κ e f)(hr:QPA X κ es g)(hs:starEach (e::es) X.env=(false,eval e X.env)::starEach es X.env:=by rfl):QPA X κ (e::es) (aB f g):=
 (eB ha hr hs).imp fun σ H Q hh_=>by
  obtain⟨ps,ds,w,e,q⟩:=hh_
  obtain⟨d,es,e1,e2,rfl⟩:=uR e
  refine⟨ps,d,w,e1,fun v H1 fv s1 n1 nd1 r1=>⟨ps,es,w.same s1,e2,fun vs H2 fw s2 n2 nd2 r2=> ?_⟩⟩
  refine q _ H2 (fv++fw) (s1.trans s2) (fun a ha=> ?_) (zk0 r1 nd1 n2 nd2) (.cons (r1.same s2) r2)
  rcases List.mem_append.mp ha with z|z
  ·exact n1 a z
  ·exact s1.grow a (n2 a z)
def gF(g:tz3):tz2:=fun ps=>(g ps).bind fun ds=>if (D.imms ds&&decide (ds.length<=1000))=true then some (.tup ds) else none
def bI(g:tz3):tz2:=fun ps=>(g ps).bind fun ds=>if ds.length<=1000 then some (.lst true ds) else none
theorem hV{x1}(h:QPA X κ es g):QP X κ (.Tuple es x1 pos) (gF g):=
 (yp9 h).imp fun σ H Q hh_=>by
  obtain⟨ps,d,w,e,q⟩:=hh_
  obtain⟨ds,e1,e2⟩:=bind_some e
  obtain⟨hc,e3⟩:=bV e2
  cases e3
  rw [Bool.and_eq_true,decide_eq_true_eq] at hc
  refine⟨ps,ds,w,e1,fun vs H1 fv s1 n1 nd1 r1=>⟨by rw [r1.length];exact zo5 hc.2,fun p hp=> ?_⟩⟩
  exact yc8 hp (r1.pair hc.1) (q.after s1)
theorem cF(h:QPA X κ es g):QP X κ (.List es pos) (bI g):=
 (xr4 h).imp fun σ H Q hh_=>by
  obtain⟨ps,d,w,e,q⟩:=hh_
  obtain⟨ds,e1,e2⟩:=bind_some e
  obtain⟨hc,e3⟩:=bV e2
  cases e3
  refine⟨ps,ds,w,e1,fun vs H1 fv s1 n1 nd1 r1=>⟨by rw [r1.length];exact zo5 hc,fun p hp=> ?_⟩⟩
  refine q _ _ (p::fv) (s1.trans (.new hp _)) (fun a ha=> ?_) (List.nodup_cons.mpr ⟨fun hm=> ?_,nd1⟩) (.lst dA (r1.same (.new hp _)))
  ·rcases List.mem_cons.mp ha with z|z
   ·rw [z];exact s1.grow p hp
   ·exact n1 a z
  ·obtain⟨o,h,_⟩:=r1.own p hm
   rw [hp] at h;cases h
def dIx:D->D->Option D
 | .lst _ xs,.int i=>atI xs i
 | .tup xs,.int i=>atI xs i
 | .con xs,.int i=>atI xs i
 | .str z,.int i=>if z.length<=sizeLine then(atI z.cps.toList i).map fun c=> .str ⟨#[c]⟩ else none
 |_,_=>none
theorem yr8{K:tz0}{H:Hp}{x y:V}{dx dy d:D}{fx fy:List Addr}{Q:VK}(r1:Rep K κ H x dx fx)(r2:Rep K κ H y dy fy)(e:dIx dx dy=some d)(q:∀v f,Rep K κ H v d f->f.Sublist fx->Q v H):rIx K x y H Q:=by
 unfold dIx at e
 split at e
 ·rename_i o xs i
  obtain⟨a,vs,g,rfl,h,hs,sub⟩:=r1.lst_inv
  obtain⟨v,f,h1,h2,h3⟩:=hs.atI e
  exact .inl ⟨a,vs,i,v,rfl,r2.is_int,.inl h,h1,q v f h2 (h3.trans sub)⟩
 ·rename_i xs i
  obtain⟨a,vs,rfl,h,hs⟩:=r1.tup_inv
  obtain⟨v,f,h1,h2,h3⟩:=hs.atI e
  cases List.sublist_nil.mp h3
  exact .inr (.inl ⟨a,vs,i,v,rfl,r2.is_int,h,h1,q v [] h2 (List.nil_sublist _)⟩)
 ·rename_i xs i
  obtain⟨a,vs,rfl,h,hs⟩:=r1.con_inv
  obtain⟨v,f,h1,h2,h3⟩:=hs.atI e
  cases List.sublist_nil.mp h3
  exact .inl ⟨a,vs,i,v,rfl,r2.is_int,h.l,h1,q v [] h2 (List.nil_sublist _)⟩
 ·rename_i z i
  obtain⟨hz,e⟩:=bV e
  obtain⟨c,e1,e⟩:=Option.map_eq_some_iff.mp e
  subst e
  exact .inr (.inr ⟨z,i,c,r1.is_str,r2.is_int,hz,e1,q _ [] (.str _) (List.nil_sublist _)⟩)
 ·cases e
theorem cV(ha:QV X κ a fa)(hb:QV X κ b fb)(hs:yJ b:=by exact fun _ _=>rfl):QV X κ (.Subscript a b pos) (f2 dIx fa fb):=
 (zo4 yq2 ha hb hs).imp fun σ H Q hh_=>by
  obtain⟨ps,d,w,e,q⟩:=hh_
  obtain⟨x,y,e1,e2,e3⟩:=tT e
  exact⟨ps,x,w,e1,fun v H1 fp s1 r1=>⟨ps,y,w.same s1,e2,fun u H2 fq s2 r2=>yr8 (r1.same s2) r2 e3 fun v f r _=>q v H2 f (s1.trans s2) r⟩⟩
theorem nZ(ha:QP X κ a fa)(hb:QV X κ b fb)(hs:yJ b:=by exact fun _ _=>rfl):QP X κ (.Subscript a b pos) (f2 dIx fa fb):=
 (zo4 yq2 ha hb hs).imp fun σ H Q hh_=>by
  obtain⟨ps,d,w,e,q⟩:=hh_
  obtain⟨x,y,e1,e2,e3⟩:=tT e
  exact⟨ps,x,w,e1,fun v H1 fv s1 n1 nd1 r1=>⟨ps,y,w.same s1,e2,fun u H2 fq s2 r2=>yr8 (r1.same s2) r2 e3 fun v f r sub=>q v H2 f (s1.trans s2) (fun c hc=>n1 c (sub.subset hc)) (nd1.sublist sub) r⟩⟩
def tO(K:tz0)(κ:tz9)(f:PSt->Option (Option Int)):TO:=fun σ H Q=>∃ps o,WS K κ H σ ps/\f ps=some o/\∀H',SameK H H'->Q o H'
abbrev QO(X:Cx)(κ:tz9)(e:Option Expr)(f:PSt->Option (Option Int)):Prop:=PO X e (tO X.K κ f)
def bL:PSt->Option (Option Int):=fun _=>some none
def bX(f:tz2):PSt->Option (Option Int):=fun ps=>(f ps).bind fun d=>match d with
 | .int i=>some (some i)
 |_=>none
theorem eC:QO X κ none bL:=⟨fun pins s σ H Q I ⟨ps,o,w,e,q⟩=>by cases e;exact xk1 pins s σ H Q I (q H (.refl H))⟩
theorem dL(h:QV X κ e f):QO X κ (some e) (bX f):=⟨fun pins s σ H Q I hh_=>by
 obtain⟨ps,o,w,e,q⟩:=hh_
 obtain⟨d,e1,e2⟩:=bind_some e
 cases d with
 |int i=>cases e2;exact xk2 h pins s σ H Q I ⟨ps,_,w,e1,fun v H1 fp s1 r1=>⟨i,r1.is_int,q H1 s1⟩⟩
 |_=>cases e2⟩
def rW(xs:List D)(lo hi:Option Int):List D:=(xs.drop (HT.sIx xs.length 0 lo)).take (HT.sIx xs.length xs.length hi-HT.sIx xs.length 0 lo)
def dSl:D->Option Int->Option Int->Option D
 | .lst _ xs,lo,hi=>if D.imms xs=true then some (.lst true (rW xs lo hi)) else none
 | .str z,lo,hi=>if z.length<=sizeLine then some (.str (Txt.slice z lo hi)) else none
 |_,_,_=>none
theorem xa6{K:tz0}{H:Hp}{vs:List V}{ds:List D}{lo hi:Option Int}(r:Paired (fun v d=>Rep K κ H v d []) vs ds):Paired (fun v d=>Rep K κ H v d []) (zi5 vs lo hi) (rW ds lo hi):=by
 unfold zi5 rW
 rw [Paired.length r]
 exact Paired.takeN _ (Paired.dropN _ r)
def PSl(K:tz0)(κ:tz9):V->Option Int->Option Int->Hp->VK->Prop:=fun x lo hi H Q=>∃dx d fx,Rep K κ H x dx fx/\dSl dx lo hi=some d/\lF K κ H d Q
theorem rD:SlR X (PSl X.K κ):=by
 rintro pins s σ H x v vl vu lo hi sl Q I rx hs pl pu ⟨dx,d,fx,r,e,q⟩
 unfold dSl at e
 split at e
 ·obtain⟨hc,e2⟩:=bV e
  cases e2
  obtain⟨a,vs,g,rfl,h,rs,sub⟩:=r.lst_inv
  exact xk3 pins s σ H _ v vl vu _ _ sl Q I rx hs pl pu ⟨a,vs,rfl,.inl h,fun p hp=>tU hp (xa6 (rs.pair hc)) q⟩
 ·obtain⟨hc,e2⟩:=bV e
  cases e2
  exact xs3 pins s σ H _ v vl vu _ _ sl Q I rx hs pl pu ⟨_,r.is_str,hc,q.now (.str _)⟩
 ·cases e
def fSl(f:tz2)(fl fh:PSt->Option (Option Int)):tz2:=fun ps=>(f ps).bind fun d=>(fl ps).bind fun l=>(fh ps).bind fun h=>dSl d l h
theorem dF{lo hi:Option Expr}{fl fh:PSt->Option (Option Int)}(he:QV X κ e f)(hl:QO X κ lo fl)(hh:QO X κ hi fh):QP X κ (.Subscript e (.Slice lo hi none p2) pos) (fSl f fl fh):=
 (yz4 rD he hl hh).imp fun σ H Q hh_=>by
  obtain⟨ps,d,w,e,q⟩:=hh_
  obtain⟨d1,e1,e2⟩:=bind_some e
  obtain⟨l,e3,e4⟩:=bind_some e2
  obtain⟨h,e5,e6⟩:=bind_some e4
  exact⟨ps,d1,w,e1,fun v H1 fp s1 r1=>⟨ps,l,w.same s1,e3,fun H2 s2=>⟨ps,h,(w.same s1).same s2,e5,fun H3 s3=>⟨d1,d,fp,(r1.same s2).same s3,e6,q.after ((s1.trans s2).trans s3)⟩⟩⟩⟩
def PCl(K:tz0)(κ:tz9)(g:tz6):List V->Hp->VK->Prop:=fun vs H Q=>∃ds fp d,Reps K κ H vs ds fp/\g ds=some d/\lF K κ H d Q
def aG(h:tz6)(g:tz3):tz2:=fun ps=>(g ps).bind h
theorem yr9(q:tP X.K κ (aG h g) σ H Q):tCB (PCl X.K κ h) (tVA X.K κ g) σ H Q:=by
 obtain⟨ps,d,w,e,q⟩:=q
 obtain⟨ds,e1,e2⟩:=bind_some e
 exact⟨ps,ds,w,e1,fun vs H1 fp s1 r1=>⟨ds,fp,d,r1,e2,q.after s1⟩⟩
theorem cU{x:Str}{id:String}{p:Pos}{h:tz6}(hc:CallR X (.builtin id) (PCl X.K κ h))(hg:Gl X x)(hm:X.mg x=none)(hv:bootBuiltins x=some (.builtin id))(ha:QVA X κ (e::es) g)(hn:x≠"__name__":=by decide)(hdb:(x==("__debug__":Str))=false:=by decide)
  (hs:starEach (e::es) X.env=(false,eval e X.env)::starEach es X.env:=by rfl) (hpl:(backTo pos (starEach es X.env)).any (·.1)=false:=by rfl):QP X κ (.Call (.Name x p) (e::es) [] pos) (aG h g):=
 (lQ hc hg hm hv ha hn hdb hs hpl).imp fun _ _ _ q=>yr9 q
theorem eX(hc:CallR X (.type T) (PCl X.K κ h))(hg:Gl X x)(hm:X.mg x=none)(hv:bootBuiltins x=some (.type T))(ha:QVA X κ (e::es) g)(hn:x≠"__name__":=by decide)(hdb:(x==("__debug__":Str))=false:=by decide)
  (hs:starEach (e::es) X.env=(false,eval e X.env)::starEach es X.env:=by rfl) (hpl:(backTo pos (starEach es X.env)).any (·.1)=false:=by rfl):QP X κ (.Call (.Name x p) (e::es) [] pos) (aG h g):=
 (yq1 hc hg hm hv ha hn hdb hs hpl).imp fun _ _ _ q=>yr9 q
theorem Reps.two_inv{K:tz0}{H:Hp}{vs:List V}{d e:D}{fp:List Addr}(r:Reps K κ H vs [d,e] fp):∃v u f g,vs=[v,u]/\Rep K κ H v d f/\Rep K κ H u e g:=by
 obtain⟨v,us,f,g,rfl,h,t,rfl⟩:=r.split
 obtain⟨u,rfl,h2⟩:=t.one_inv
 exact⟨v,u,f,g,rfl,h,h2⟩
def bU:tz6
 |[.lst _ xs]=>some (.int xs.length)
 |[.tup xs]=>some (.int xs.length)
 |[.con xs]=>some (.int xs.length)
 |[.str z]=>if z.length<=sizeLine then some (.int z.length) else none
 |_=>none
theorem fN:CallR X (.builtin "len") (PCl X.K κ bU):=⟨by
 rintro pins s σ H vs us Q I r ⟨ds,fp,d,rs,e,q⟩
 unfold bU at e
 split at e
 ·cases e
  obtain⟨v,rfl,r1⟩:=rs.one_inv
  obtain⟨a,ws,g,rfl,h,hs,_⟩:=r1.lst_inv
  exact jH pins s σ H _ us Q I r ⟨a,ws,rfl,.inl (.inl h),by rw [hs.length];exact q.now (.int _)⟩
 ·cases e
  obtain⟨v,rfl,r1⟩:=rs.one_inv
  obtain⟨a,ws,rfl,h,hs⟩:=r1.tup_inv
  exact jH pins s σ H _ us Q I r ⟨a,ws,rfl,.inr h,by rw [hs.length];exact q.now (.int _)⟩
 ·cases e
  obtain⟨v,rfl,r1⟩:=rs.one_inv
  obtain⟨a,ws,rfl,h,hs⟩:=r1.con_inv
  exact jH pins s σ H _ us Q I r ⟨a,ws,rfl,.inl h.l,by rw [hs.length];exact q.now (.int _)⟩
 ·obtain⟨hz,e⟩:=bV e
  cases e
  obtain⟨v,rfl,r1⟩:=rs.one_inv
  exact zq7 pins s σ H _ us Q I r ⟨_,by rw [r1.is_str],hz,q.now (.int _)⟩
 ·cases e⟩
def zo8:tz6
 |[.int i,.int j]=>some (.int (if j>i then j else i))
 |_=>none
def gU:tz6
 |[.int i,.int j]=>some (.int (if j<i then j else i))
 |_=>none
theorem xt0(hc:X.calm=true):CallR X (.builtin "max") (PCl X.K κ zo8):=⟨by
 rintro pins s σ H vs us Q I r ⟨ds,fp,d,rs,e,q⟩
 unfold zo8 at e
 split at e
 ·cases e
  obtain⟨v,u,f,g,rfl,r1,r2⟩:=rs.two_inv
  exact zi7 hc pins s σ H _ us Q I r ⟨_,_,by rw [r1.is_int,r2.is_int],q.now (.int _)⟩
 ·cases e⟩
theorem xt1(hc:X.calm=true):CallR X (.builtin "min") (PCl X.K κ gU):=⟨by
 rintro pins s σ H vs us Q I r ⟨ds,fp,d,rs,e,q⟩
 unfold gU at e
 split at e
 ·cases e
  obtain⟨v,u,f,g,rfl,r1,r2⟩:=rs.two_inv
  exact yp6 hc pins s σ H _ us Q I r ⟨_,_,by rw [r1.is_int,r2.is_int],q.now (.int _)⟩
 ·cases e⟩
def dTy:D->Option String
 | .non=>some "NoneType"
 | .bl _=>some "bool"
 | .int _=>some "int"
 | .str _=>some "str"
 | .lst _ _=>some "list"
 | .tup _=>some "tuple"
 | .dic true _ _=>some "dict"
 |_=>none
def gA:tz6
 |[x,.ty c]=>(dTy x).bind fun t=>if c∈["bool","int","str","list","tuple","dict"] then some (.bl (eR t c)) else none
 |_=>none
theorem xt2{K:tz0}{H:Hp}{v:V}{d:D}{fp:List Addr}{t:String}(r:Rep K κ H v d fp)(h:dTy d=some t):(uH H v=some t\/(t="tuple"/\∃a xs,v= .ref a/\SqT K H a xs)):=by
 cases r with
 |non=>cases h;exact .inl rfl
 |bl _=>cases h;exact .inl rfl
 |int _=>cases h;exact .inl rfl
 |str _=>cases h;exact .inl rfl
 |tup s _=>cases h;exact .inr ⟨rfl,_,_,rfl,s⟩
 |lst s _=>cases h;exact .inl (by simp [uH,s])
 |lstF s _=>cases h;exact .inl (by simp [uH,s])
 |dic s _ _=>cases h;exact .inl (by simp [uH,s])
 |_=>cases h
theorem wa6:CallR X (.builtin "isinstance") (PCl X.K κ gA):=⟨by
 rintro pins s σ H vs us Q I r ⟨ds,fp,d,rs,e,q⟩
 unfold gA at e
 split at e
 ·obtain⟨t,e1,e2⟩:=bind_some e
  obtain⟨hc,e3⟩:=bV e2
  cases e3
  obtain⟨v,u,f,g,rfl,r1,r2⟩:=rs.two_inv
  cases r2
  rcases xt2 r1 e1 with h|⟨rfl,a,xs,rfl,h⟩
  ·exact zq9 pins s σ H _ us Q I r ⟨_,_,t,rfl,h,hc,q.now (.bl _)⟩
  ·obtain⟨u1,u2,rfl,rx,rc⟩:=zo2 r
   cases(show u2=Value.type _ from rc)
   cases(show u1=Value.ref a from rx)
   obtain⟨its,rv,⟨o,h1,h2,_⟩,_⟩:=I.tuple h
   exact PySem.W.kia_one PySem.W.kitx_tuple I.kIn ⟨o,h1,h2⟩ (zq8 X.K "tuple" (by decide) _ hc) (fun z=>nomatch z) fun tk=>⟨.bl _,H,I.tok tk,rfl,q.now (.bl _)⟩
 ·cases e⟩
def gB:tz6
 |[.lst _ xs]=>if D.imms xs=true then some (.tup xs) else none
 |[.tup xs]=>some (.tup xs)
 |_=>none
theorem mL:CallR X (.type "tuple") (PCl X.K κ gB):=⟨by
 rintro pins s σ H vs us Q I r ⟨ds,fp,d,rs,e,q⟩
 unfold gB at e
 split at e
 ·obtain⟨hc,e⟩:=bV e
  cases e
  obtain⟨v,rfl,r1⟩:=rs.one_inv
  obtain⟨a,ws,g,rfl,h,hs,_⟩:=r1.lst_inv
  exact wH pins s σ H _ us Q I r ⟨a,ws,rfl,.inl ⟨.inl h,fun p hp=>yc8 hp (hs.pair hc) q⟩⟩
 ·cases e
  obtain⟨v,rfl,r1⟩:=rs.one_inv
  obtain⟨a,ws,rfl,h,hs⟩:=r1.tup_inv
  exact wH pins s σ H _ us Q I r ⟨a,ws,rfl,.inr ⟨h,q.now (.tup h hs)⟩⟩
 ·cases e⟩
def cB:tz6
 |[.int i]=>some (.int i)
 |[.bl k]=>some (.int (if k then 1 else 0))
 |_=>none
theorem xh3:CallR X (.type "int") (PCl X.K κ cB):=⟨by
 rintro pins s σ H vs us Q I r ⟨ds,fp,d,rs,e,q⟩
 unfold cB at e
 split at e
 ·cases e
  obtain⟨v,rfl,r1⟩:=rs.one_inv
  exact zi8 pins s σ H _ us Q I r (.inl ⟨_,by rw [r1.is_int],q.now (.int _)⟩)
 ·cases e
  obtain⟨v,rfl,r1⟩:=rs.one_inv
  exact zi8 pins s σ H _ us Q I r (.inr ⟨_,by rw [r1.is_bl],q.now (.int _)⟩)
 ·cases e⟩
def D.bools:List D->Option (List Bool)
 |[]=>some []
 | .bl b::ds=>(D.bools ds).map (b::·)
 |_::_=>none
theorem zr5{K:tz0}{H:Hp}:∀{vs:List V} {ds:List D} {fp:List Addr} {ns:List Bool},Reps K κ H vs ds fp->D.bools ds=some ns->vs=ns.map V.bl
 |_,_,_,_,.nil,e=>by cases e;rfl
 | _,d::ds,_,ns,.cons h hs,e=>by
  cases d with
  |bl i=>
   rw [D.bools] at e
   cases e1:D.bools ds with
   |none=>rw [e1] at e;cases e
   |some ms=>rw [e1] at e;cases e;rw [h.is_bl,zr5 hs e1];rfl
  |_=>cases e
def vP:tz6
 |[.lst _ xs]=>(D.bools xs).map fun bs=> .bl (bs.all id)
 |_=>none
theorem xh4(hc:X.calm=true):CallR X (.builtin "all") (PCl X.K κ vP):=⟨by
 rintro pins s σ H vs us Q I r ⟨ds,fp,d,rs,e,q⟩
 unfold vP at e
 split at e
 ·rename_i xs
  cases e1:D.bools xs with
  |none=>rw [e1] at e;cases e
  |some bs=>
   rw [e1] at e;cases e
   obtain⟨v,rfl,r1⟩:=rs.one_inv
   obtain⟨a,ws,g,rfl,h,hs,_⟩:=r1.lst_inv
   rw [zr5 hs e1] at h
   exact yr3 hc pins s σ H _ us Q I r ⟨a,bs,rfl,.inl h,q.now (.bl _)⟩
 ·cases e⟩
def bY:tz6
 |[.int i]=>if i.natAbs.log2<1920 then some (.str (toString i)) else none
 |_=>none
theorem yj3:CallR X (.type "str") (PCl X.K κ bY):=⟨by
 rintro pins s σ H vs us Q I r ⟨ds,fp,d,rs,e,q⟩
 unfold bY at e
 split at e
 ·obtain⟨hc,e⟩:=bV e
  cases e
  obtain⟨v,rfl,r1⟩:=rs.one_inv
  exact zq0 pins s σ H _ us Q I r ⟨_,by rw [r1.is_int],hc,q.now (.str _)⟩
 ·cases e⟩
def PMt(K:tz0)(κ:tz9)(g:D->tz6):V->List V->Hp->VK->Prop:=fun x vs H Q=>∃dx ds fx fp d,Rep K κ H x dx fx/\Reps K κ H vs ds fp/\g dx ds=some d/\lF K κ H d Q
def xi5:D->Bool
 | .str _=>true
 |_=>false
def fMt(h:D->tz6)(f:tz2)(g:tz3):tz2:=fun ps=>(f ps).bind fun x=>(g ps).bind fun ds=>if xi5 x=true then h x ds else none
theorem uS{name:Str}{id:String}{apos:Pos}{h:D->tz6}(slot:Slot "str" name id)(hty:typeOf (.builtin id)=pure (.type "method_descriptor"))(hm:MtR X id (PMt X.K κ h))(ho:QV X κ a fa)(ha:QVA X κ (e::es) g)
  (hbase:attributeBase a name X.env (eval a X.env)=eval a X.env:=by rfl)
  (hfew:((backTo pos (starEach (e::es) X.env)).all (fun x=> !x.1)&&(backToKw pos (keywordEach [] X.env)).all (fun x=>x.1.isSome)
   &&decide ((e::es).length+([]:List Keyword).length+(if ([]:List Keyword).isEmpty then 0 else 1)<30))=true:=by rfl)
  (hline:(apos.endLine==pos.line)=true:=by rfl) (hs:starEach (e::es) X.env=(false,eval e X.env)::starEach es X.env:=by rfl) (hplain:(backTo pos (starEach es X.env)).any (·.1)=false:=by rfl):
  QP X κ (.Call (.Attribute a name apos) (e::es) [] pos) (fMt h fa g):=
 (xg9 PySem.F.plainAttrs_str slot hty hm ho ha hbase hfew hline hs hplain).imp fun σ H Q hh_=>by
  obtain⟨ps,d,w,e,q⟩:=hh_
  obtain⟨x,e1,e2⟩:=bind_some e
  obtain⟨ds,e3,e4⟩:=bind_some e2
  obtain⟨hc,e5⟩:=bV e4
  refine⟨ps,x,w,e1,fun v H1 fp s1 r1=>⟨?_,ps,ds,w.same s1,e3,fun vs H2 fq s2 r2=>⟨x,ds,fp,fq,d,r1.same s2,r2,e5,q.after (s1.trans s2)⟩⟩⟩
  cases x with
  |str z=>rw [r1.is_str];rfl
  |_=>cases hc
def aM(l:List Str):List D:=l.map .str
theorem zk1{K:tz0}{H:Hp}:∀l:List Str,Paired (fun v d=>Rep K κ H v d []) (l.map V.str) (aM l)
 |[]=> .nil
 |x::l=> .cons (.str x) (zk1 l)
def pV:D->tz6
 | .str z,[.str y]=>if ((y.length==0)=false/\z.length<1000000) then some (.lst true (aM (Txt.split z y))) else none
 |_,_=>none
theorem yd1:MtR X "str.split" (PMt X.K κ pV):=⟨by
 rintro pins s σ H x vs v us Q I rx r ⟨dx,ds,fx,fp,d,r1,rs,e,q⟩
 unfold pV at e
 split at e
 ·obtain⟨hc,e⟩:=bV e
  cases e
  obtain⟨w,rfl,r2⟩:=rs.one_inv
  exact xa2 pins s σ H x _ v us Q I rx r ⟨_,_,r1.is_str,by rw [r2.is_str],hc.1,hc.2,fun p hp=>tU hp (zk1 _) q⟩
 ·cases e⟩
def D.strs:List D->Option (List Str)
 |[]=>some []
 | .str b::ds=>(D.strs ds).map (b::·)
 |_::_=>none
theorem yd2{K:tz0}{H:Hp}:∀{vs:List V} {ds:List D} {fp:List Addr} {ns:List Str},Reps K κ H vs ds fp->D.strs ds=some ns->vs=ns.map V.str
 |_,_,_,_,.nil,e=>by cases e;rfl
 | _,d::ds,_,ns,.cons h hs,e=>by
  cases d with
  |str i=>
   rw [D.strs] at e
   cases e1:D.strs ds with
   |none=>rw [e1] at e;cases e
   |some ms=>rw [e1] at e;cases e;rw [h.is_str,yd2 hs e1];rfl
  |_=>cases e
def sR:D->tz6
 | .str z,[.lst _ xs]=>(D.strs xs).bind fun ys=>if (z.length<=16/\(ys.map (·.length)).sum+ys.length<=1048576) then some (.str (Txt.join z ys)) else none
 |_,_=>none
theorem ys0:MtR X "str.join" (PMt X.K κ sR):=⟨by
 rintro pins s σ H x vs v us Q I rx r ⟨dx,ds,fx,fp,d,r1,rs,e,q⟩
 unfold sR at e
 split at e
 ·obtain⟨ys,e1,e2⟩:=bind_some e
  obtain⟨hc,e⟩:=bV e2
  cases e
  obtain⟨w,rfl,r2⟩:=rs.one_inv
  obtain⟨a,ws,g,rfl,h,hs,_⟩:=r2.lst_inv
  rw [yd2 hs e1] at h
  exact xl1 pins s σ H x _ v us Q I rx r ⟨_,a,ys,r1.is_str,rfl,.inl h,hc.1,hc.2,q.now (.str _)⟩
 ·cases e⟩
end
structure Fx where
 K:tz0
 κ:tz9
 bor:Nat->Bool
 M:Nat->Bool
 B:Nat->Addr->Prop
structure RS(φ:Fx)(H:Hp)(σ:St)(ps:PSt)(F:Nat->List Addr):Prop where
 rep:∀(i:Nat) (d:D),ps[i]? =some (some d)->∃v fp,σ[i]? =some (some v)/\Rep φ.K φ.κ H v d fp/\(φ.bor i=false->fp=F i)/\(φ.bor i=true->∀a∈fp,φ.B i a)
 emp:∀i a,a∈F i->φ.bor i=false/\∃d,ps[i]? =some (some d)
 dis:∀i j a,a∈F i->a∈F j->i=j
 nd:∀i,(F i).Nodup
 nb:∀i a,a∈F i->∀k,¬φ.B k a
 bt:∀k a,φ.B k a->H a≠none
 len:ps.length<=σ.length
structure Frm(F:Nat->List Addr)(H H':Hp):Prop where
 keep:∀a o,H a=some o->kd o=true->(∀i,a∉F i)->H' a=some o
 grow:∀a,H' a=none->H a=none
structure Stp(φ:Fx)(σ:St)(H:Hp)(F:Nat->List Addr)(σ':St)(H':Hp)(ps':PSt)(F':Nat->List Addr):Prop where
 fr:Frm F H H'
 nw:∀i a,a∈F' i->(∃j,a∈F j)\/H a=none
 rs:RS φ H' σ' ps' F'
 msk:∀i,φ.M i=true->σ'[i]? =σ[i]?
structure OwnV(F:Nat->List Addr)(H:Hp)(F':Nat->List Addr)(fv:List Addr):Prop where
 nw:∀a∈fv,(∃j,a∈F j)\/H a=none
 nd:fv.Nodup
 dis:∀i,∀a∈F' i,a∉fv
section
variable{φ:Fx}{H H' H1 H2:Hp}{σ σ1 σ2:St}{ps ps1 ps2:PSt}{F F1 F2:Nat->List Addr}
theorem RS.own(R:RS φ H σ ps F){i:Nat}{a:Addr}(h:a∈F i):∃o,H a=some o/\kd o=true/\tf o=false:=by
 obtain⟨b,d,e⟩:=R.emp i a h
 obtain⟨v,fp,_,r,q,_⟩:=R.rep i d e
 rw [<-q b] at h
 exact r.own a h
theorem RS.ws(R:RS φ H σ ps F):WS φ.K φ.κ H σ ps:=fun i d h=>by
 obtain⟨v,fp,h1,h2,_⟩:=R.rep i d h
 exact⟨v,fp,h1,h2⟩
theorem RS.same(R:RS φ H σ ps F)(s:SameK H H'):RS φ H' σ ps F:=
 ⟨fun i d h=>by obtain⟨v,fp,h1,h2,h3⟩:=R.rep i d h;exact⟨v,fp,h1,h2.same s,h3⟩,R.emp,R.dis,R.nd,R.nb,fun k a h z=>R.bt k a h (s.grow a z),R.len⟩
theorem RS.notB(R:RS φ H σ ps F){a:Addr}(h:(∃j,a∈F j)\/H a=none):∀k,¬φ.B k a:=fun k hb=>h.elim (fun⟨j,hj⟩=>R.nb j a hj k hb) fun z=>R.bt k a hb z
theorem Stp.same(R:RS φ H σ ps F)(s:SameK H H'):Stp φ σ H F σ H' ps F:=
 ⟨⟨fun a o h k _=>s.keep a o h k,s.grow⟩,fun i a h=> .inl ⟨i,h⟩,R.same s,fun _ _=>rfl⟩
theorem Stp.refl(R:RS φ H σ ps F):Stp φ σ H F σ H ps F:= .same R (.refl H)
theorem Stp.trans(s1:Stp φ σ H F σ1 H1 ps1 F1)(s2:Stp φ σ1 H1 F1 σ2 H2 ps2 F2):Stp φ σ H F σ2 H2 ps2 F2:=by
 refine⟨⟨fun a o h k n=>s2.fr.keep a o (s1.fr.keep a o h k n) k fun i hi=> ?_,fun a h=>s1.fr.grow a (s2.fr.grow a h)⟩,fun i a h=> ?_,s2.rs,fun i h=>(s2.msk i h).trans (s1.msk i h)⟩
 ·rcases s1.nw i a hi with ⟨j,hj⟩|z
  ·exact n j hj
  ·rw [h] at z;cases z
 ·rcases s2.nw i a h with ⟨j,hj⟩|z
  ·exact s1.nw j a hj
  ·exact .inr (s1.fr.grow a z)
theorem OwnV.after(s1:Stp φ σ H F σ1 H1 ps1 F1)(o:OwnV F1 H1 F2 fv):OwnV F H F2 fv:=
 ⟨fun a ha=>(o.nw a ha).elim (fun⟨j,hj⟩=>s1.nw j a hj) fun z=> .inr (s1.fr.grow a z),o.nd,o.dis⟩
theorem OwnV.new(R:RS φ H σ ps F)(n:∀a∈fv,H a=none)(nd:fv.Nodup):OwnV F H F fv:=
 ⟨fun a ha=> .inr (n a ha),nd,fun i a ha hb=>by obtain⟨o,h,_⟩:=R.own ha;rw [n a hb] at h;cases h⟩
def tI(F:Nat->List Addr)(i:Nat)(fv:List Addr):Nat->List Addr:=fun j=>if j=i then fv else F j
theorem fF:tI F i fv i=fv:=by simp [tI]
theorem fK(h:j≠i):tI F i fv j=F j:=by simp [tI,h]
theorem kE(h:a∈tI F i fv j):a∈fv\/a∈F j:=by
 by_cases e:j=i
 ·subst e;rw [fF] at h;exact .inl h
 ·rw [fK e] at h;exact .inr h
theorem RS.drop(R:RS φ H σ ps F)(i:Nat):RS φ H σ (ps.set i none) (tI F i []):=by
 have eF:∀j a,a∈tI F i [] j->j≠i/\a∈F j:=fun j a h=>by
  by_cases e:j=i
  ·subst e;rw [fF] at h;exact absurd h (by simp)
  ·rw [fK e] at h;exact⟨e,h⟩
 refine⟨fun j d h=> ?_,fun j a h=> ?_,fun j k a h1 h2=>R.dis j k a (eF j a h1).2 (eF k a h2).2,fun j=> ?_,fun j a h=>R.nb j a (eF j a h).2,R.bt,by simpa using R.len⟩
 ·have e:j≠i:=by
   rintro rfl
   by_cases hj:j<ps.length
   ·rw [List.getElem?_set_self hj] at h;cases h
   ·rw [List.getElem?_eq_none (by simpa using hj)] at h;cases h
  rw [List.getElem?_set_ne (fun z=>e z.symm)] at h
  rw [fK e]
  exact R.rep j d h
 ·obtain⟨e,h⟩:=eF j a h
  obtain⟨b,d,q⟩:=R.emp j a h
  exact⟨b,d,by rw [List.getElem?_set_ne (fun z=>e z.symm)];exact q⟩
 ·by_cases e:j=i
  ·subst e;rw [fF];exact List.nodup_nil
  ·rw [fK e];exact R.nd j
theorem RS.set(R:RS φ H σ ps F){i:Nat}{v:V}{d:D}{fv:List Addr}(r:Rep φ.K φ.κ H v d fv)(hb:φ.bor i=false\/fv=[])(hd:∀j,j≠i->∀a∈F j,a∉fv)(hn:fv.Nodup)(hB:∀a∈fv,∀k,¬φ.B k a):
  RS φ H (σ.set i (some v)) (ps.set i (some d)) (tI F i (if i<ps.length then fv else [])):=by
 by_cases hi:i<ps.length
 ·rw [if_pos hi]
  have hl:=R.len
  refine⟨fun j d' h=> ?_,fun j a h=> ?_,fun j k a h1 h2=> ?_,fun j=> ?_,fun j a h=> ?_,R.bt,by simpa using R.len⟩
  ·by_cases e:j=i
   ·subst e
    rw [List.getElem?_set_self hi] at h
    cases h
    refine⟨v,fv,by rw [List.getElem?_set_self (by omega)],r,fun _=>fF.symm,fun z=> ?_⟩
    rcases hb with q|q
    ·rw [q] at z;cases z
    ·subst q;intro a ha;exact absurd ha (by simp)
   ·rw [List.getElem?_set_ne (fun z=>e z.symm)] at h|-
    rw [fK e]
    exact R.rep j d' h
  ·by_cases e:j=i
   ·subst e
    rw [fF] at h
    refine⟨?_,d,by rw [List.getElem?_set_self hi]⟩
    rcases hb with q|q
    ·exact q
    ·subst q;exact absurd h (by simp)
   ·rw [fK e] at h
    obtain⟨b,d',q⟩:=R.emp j a h
    exact⟨b,d',by rw [List.getElem?_set_ne (fun z=>e z.symm)];exact q⟩
  ·by_cases e1:j=i
   ·by_cases e2:k=i
    ·rw [e1,e2]
    ·subst e1;rw [fF] at h1;rw [fK e2] at h2;exact absurd h1 (hd k e2 a h2)
   ·by_cases e2:k=i
    ·subst e2;rw [fF] at h2;rw [fK e1] at h1;exact absurd h2 (hd j e1 a h1)
    ·rw [fK e1] at h1;rw [fK e2] at h2;exact R.dis j k a h1 h2
  ·by_cases e:j=i
   ·subst e;rw [fF];exact hn
   ·rw [fK e];exact R.nd j
  ·rcases kE h with z|z
   ·exact hB a z
   ·exact R.nb j a z
 ·rw [if_neg hi]
  have e0:ps.set i (some d)=ps:=List.set_eq_of_length_le (by omega)
  rw [e0]
  have R':=R.drop i
  rw [List.set_eq_of_length_le (by omega)] at R'
  refine⟨fun j d' h=> ?_,R'.emp,R'.dis,R'.nd,R'.nb,R'.bt,by simpa using R.len⟩
  have hj:j≠i:=by
   rintro rfl
   have:=(List.getElem?_eq_some_iff.mp h).1
   omega
  rw [List.getElem?_set_ne (fun z=>hj z.symm)]
  exact R'.rep j d' h
theorem Stp.set(s1:Stp φ σ H F σ1 H1 ps1 F1)(o:OwnV F H F1 fv)(R:RS φ H σ ps F)(r:Rep φ.K φ.κ H1 v d fv)(hb:φ.bor i=false\/fv=[])(hm:φ.M i=false):
  ∃F',Stp φ σ H F (σ1.set i (some v)) H1 (ps1.set i (some d)) F':=by
 refine⟨_,s1.fr,fun j a h=> ?_,s1.rs.set r hb (fun j _=>o.dis j) o.nd fun a ha=>R.notB (o.nw a ha),fun j h=> ?_⟩
 ·rcases kE h with z|z
  ·by_cases k:i<ps1.length
   ·rw [if_pos k] at z;exact o.nw a z
   ·rw [if_neg k] at z;exact absurd z (by simp)
  ·exact s1.nw j a z
 ·rw [List.getElem?_set_ne (fun z=>by subst z;rw [hm] at h;cases h)]
  exact s1.msk j h
end
inductive Fl where
 |nx|bk|ct|ret (d:D)
abbrev _root_.tz1:=PSt->Option (Fl×PSt)
def yK(φ:Fx)(E:Ends)(σ:St)(H:Hp)(F:Nat->List Addr)(fl:Fl)(ps':PSt):Prop:=match fl with
 | .nx=>∀σ' H' F',Stp φ σ H F σ' H' ps' F'->E.nx σ' H'
 | .bk=>∀σ' H' F',Stp φ σ H F σ' H' ps' F'->E.bk σ' H'
 | .ct=>∀σ' H' F',Stp φ σ H F σ' H' ps' F'->E.ct σ' H'
 | .ret d=>∀v σ' H' F' fv,Stp φ σ H F σ' H' ps' F'->OwnV F H F' fv->Rep φ.K φ.κ H' v d fv->E.rt v H'
def tS(φ:Fx)(f:tz1):TS:=fun E σ H=>∃ps F fl ps',RS φ H σ ps F/\f ps=some (fl,ps')/\yK φ E σ H F fl ps'
def tE(φ:Fx)(f:tz8):TE:=fun σ H Q=>∃ps F d ps',RS φ H σ ps F/\f ps=some (d,ps')/\∀v H' F' fv,Stp φ σ H F σ H' ps' F'->OwnV F H F' fv->Rep φ.K φ.κ H' v d fv->Q v H'
def tTE(φ:Fx)(f:PSt->Option (Bool×PSt)):TT:=fun σ H Q=>∃ps F b ps',RS φ H σ ps F/\f ps=some (b,ps')/\∀H' F',Stp φ σ H F σ H' ps' F'->Q b H'
structure F0 where
 bor:Nat->Bool
 M:Nat->Bool
 B:Nat->Addr->Prop
def F0.fx(φ:F0)(K:tz0)(κ:tz9):Fx:=⟨K,κ,φ.bor,φ.M,φ.B⟩
abbrev QS(X:Cx)(κ:tz9)(φ:F0)(st:Stmt)(f:tz1):Prop:=PS X st (tS (φ.fx X.K κ) f)
abbrev QSs(X:Cx)(κ:tz9)(φ:F0)(st:List Stmt)(f:tz1):Prop:=PSs X st (tS (φ.fx X.K κ) f)
abbrev QE(X:Cx)(κ:tz9)(φ:F0)(e:Expr)(f:tz8):Prop:=PE X e (tE (φ.fx X.K κ) f)
abbrev QTE(X:Cx)(κ:tz9)(φ:F0)(e:Expr)(f:PSt->Option (Bool×PSt)):Prop:=PT X e (tTE (φ.fx X.K κ) f)
theorem zA(s1:Stp φ σ H F σ1 H1 ps1 F1)(e:f ps1=some (fl,ps2))(q:yK φ E σ H F fl ps2):tS φ f E σ1 H1:=by
 refine⟨ps1,F1,fl,ps2,s1.rs,e,?_⟩
 cases fl with
 |nx=>exact fun σ' H' F' s=>q σ' H' F' (s1.trans s)
 |bk=>exact fun σ' H' F' s=>q σ' H' F' (s1.trans s)
 |ct=>exact fun σ' H' F' s=>q σ' H' F' (s1.trans s)
 |ret d=>exact fun v σ' H' F' fv s o r=>q v σ' H' F' fv (s1.trans s) (o.after s1) r
def aY:tz1:=fun ps=>some (.nx,ps)
def aR(f g:tz1):tz1:=fun ps=>(f ps).bind fun r=>match r with
 |(.nx,ps')=>g ps'
 |(.bk,ps')=>some (.bk,ps')
 |(.ct,ps')=>some (.ct,ps')
 |(.ret d,ps')=>some (.ret d,ps')
def lY:tz1:=fun _=>none
section
variable{X:Cx}{κ:tz9}{φ:F0}{st:Stmt}{bK:List Stmt}{f g:tz1}{pos:Pos}
theorem bH:QSs X κ φ [] aY:=xS.imp fun E σ H ⟨ps,F,fl,ps',R,e,q⟩=>by cases e;exact q σ H F (.refl R)
theorem aN(h:QS X κ φ st f):QSs X κ φ [st] f:=qU h
theorem aK(h1:QS X κ φ st f)(h2:QSs X κ φ bK g):QSs X κ φ (st::bK) (aR f g):=
 (gX h1 h2).imp fun E σ H hh_=>by
  obtain⟨ps,F,fl,ps',R,e,q⟩:=hh_
  obtain⟨⟨fl1,ps1⟩,e1,e2⟩:=bind_some e
  refine⟨ps,F,fl1,ps1,R,e1,?_⟩
  cases fl1 with
  |nx=>exact fun σ' H' F' s=>zA s e2 q
  |bk=>cases e2;exact q
  |ct=>cases e2;exact q
  |ret d=>cases e2;exact q
theorem uT:QS X κ φ st lY:=yy4.imp fun E σ H ⟨ps,F,fl,ps',R,e,q⟩=>by cases e
def aJ(f:tz2):tz8:=fun ps=>(f ps).bind fun d=>some (d,ps)
theorem QP.e{e:Expr}{f:tz2}(h:PE X e (tP X.K κ f)):QE X κ φ e (aJ f):=h.imp fun σ H Q hh_=>by
 obtain⟨ps,F,d,ps',R,e,q⟩:=hh_
 obtain⟨d1,e1,e2⟩:=bind_some e
 cases e2
 exact⟨ps,_,R.ws,e1,fun v H' fv s n nd r=>q v H' F fv (.same R s) (.new R n nd) r⟩
def aL(f:tz4):PSt->Option (Bool×PSt):=fun ps=>(f ps).bind fun d=>some (d,ps)
theorem QT.e{e:Expr}{f:tz4}(h:PT X e (tQ X.K κ f)):QTE X κ φ e (aL f):=h.imp fun σ H Q hh_=>by
 obtain⟨ps,F,d,ps',R,e,q⟩:=hh_
 obtain⟨d1,e1,e2⟩:=bind_some e
 cases e2
 exact⟨ps,_,R.ws,e1,fun H' s=>q H' F (.same R s)⟩
def bF(i:Nat)(f:tz8):tz1:=fun ps=>(f ps).bind fun r=>some (.nx,r.2.set i (some r.1))
theorem bP(i:Nat){x:Str}{e:Expr}{pos':Pos}{f:tz8}(hN:X.N.Nodup)(hi:X.N[i]? =some x)(hx:Loc X.env.scope x)(hb:φ.bor i=false)(hm:φ.M i=false)(he:QE X κ φ e f)(hs:swapsWith e (some (.Name x pos')) pos.line X.env=pure false:=by rfl)(hf:X.fn x=true\/X.env.scope.names.lookup x=some .local:=by first|exact .inl rfl|exact .inr rfl|assumption):
  QS X κ φ (.Assign [.Name x pos'] e pos) (bF i f):=(tL hN hi hx he hs hf).imp fun E σ H hh_=>by
 obtain⟨ps,F,fl,ps',R,e,q⟩:=hh_
 obtain⟨⟨d,ps1⟩,e1,e2⟩:=bind_some e
 cases e2
 refine⟨ps,F,d,ps1,R,e1,fun v H' F' fv s o r=> ?_⟩
 obtain⟨F2,s2⟩:=s.set o R r (.inl hb) hm (i:=i)
 exact q _ _ F2 s2
def cN(f:tz8):tz1:=fun ps=>(f ps).bind fun r=>some (.nx,r.2)
theorem eG{e:Expr}{f:tz8}(he:QE X κ φ e f)(hs:swapsWith e none pos.line X.env=pure false:=by rfl):QS X κ φ (.Expr e pos) (cN f):=(yb7 he hs).imp fun E σ H hh_=>by
 obtain⟨ps,F,fl,ps',R,e,q⟩:=hh_
 obtain⟨⟨d,ps1⟩,e1,e2⟩:=bind_some e
 cases e2
 exact⟨ps,F,d,ps1,R,e1,fun v H' F' fv s o r=>q _ _ F' s⟩
def cA(f:tz8):tz1:=fun ps=>(f ps).bind fun r=>some (.ret r.1,r.2)
theorem bM{e:Expr}{f:tz8}(he:QE X κ φ e f):QS X κ φ (.Return (some e) pos) (cA f):=(rB he).imp fun E σ H hh_=>by
 obtain⟨ps,F,fl,ps',R,e,q⟩:=hh_
 obtain⟨⟨d,ps1⟩,e1,e2⟩:=bind_some e
 cases e2
 exact⟨ps,F,d,ps1,R,e1,fun v H' F' fv s o r=>q v σ H' F' fv s o r⟩
def wc9:tz1:=fun ps=>some (.ret .non,ps)
def dZ(i:Nat):tz1:=fun ps=>((ps[i]?).join).bind fun d=>some (.ret d,ps.set i none)
theorem join_some{ps:PSt}{i:Nat}{d:D}(h:(ps[i]?).join=some d):ps[i]? =some (some d):=by
 cases q:ps[i]? with
 |none=>rw [q] at h;cases h
 |some o=>rw [q] at h;exact congrArg some h
theorem zg3(i:Nat){x:Str}{p:Pos}(hb:φ.bor i=false)(hN:X.N[i]? =some x:=by rfl)(hv:Vis X.env.scope x:=by first|exact Or.inl rfl|exact Or.inr (Or.inl rfl)|exact Or.inr (Or.inr rfl))(hd:(x==("__debug__":Str))=false:=by decide)
  (hcd:(x==("__classdict__":Str))=false:=by decide):QS X κ φ (.Return (some (.Name x p)) pos) (dZ i):=(rB (iP hN hv hd hcd)).imp fun E σ H hh_=>by
 obtain⟨ps,F,fl,ps',R,e,q⟩:=hh_
 obtain⟨d,e1,e2⟩:=bind_some e
 cases e2
 obtain⟨v,fp,h1,h2,h3,_⟩:=R.rep i d (join_some e1)
 have h3:=h3 hb
 subst h3
 refine⟨v,h1,q v σ H (tI F i []) (F i) ⟨⟨fun a o h _ _=>h,fun a h=>h⟩,fun j a h=> ?_,R.drop i,fun _ _=>rfl⟩ ⟨fun a h=> .inl ⟨i,h⟩,R.nd i,fun j a h1 h2=> ?_⟩ h2⟩
 ·rcases kE h with z|z
  ·exact absurd z (by simp)
  ·exact .inl ⟨j,z⟩
 ·rcases kE h1 with z|z
  ·exact absurd z (by simp)
  ·have:=R.dis j i a z h2
   subst this
   rw [fF] at h1;exact absurd h1 (by simp)
def fIf(c:PSt->Option (Bool×PSt))(f g:tz1):tz1:=fun ps=>(c ps).bind fun r=>if r.1=true then f r.2 else g r.2
theorem bR(hc:QTE X κ φ c tc)(ha:QSs X κ φ a f)(hb:QSs X κ φ b g):QS X κ φ (.If c a b pos) (fIf tc f g):=(zZ hc ha hb).imp fun E σ H hh_=>by
 obtain⟨ps,F,fl,ps',R,e,q⟩:=hh_
 obtain⟨⟨k,ps1⟩,e1,e2⟩:=bind_some e
 refine⟨ps,F,k,ps1,R,e1,fun H' F' s=> ?_⟩
 cases k with
 |true=>rw [if_pos rfl] at e2|-;exact zA s e2 q
 |false=>rw [if_neg Bool.false_ne_true] at e2|-;exact zA s e2 q
end
def lZ(c:PSt->Option (Bool×PSt))(f:tz1):Nat->tz1
 |0,_=>none
 | n+1,ps=>(c ps).bind fun r=>if r.1=true then(f r.2).bind fun q=>match q with
   |(.nx,p)=>lZ c f n p
   |(.ct,p)=>lZ c f n p
   |(.bk,p)=>some (.nx,p)
   |(.ret d,p)=>some (.ret d,p)
  else some (.nx,r.2)
section
variable{X:Cx}{φ:Fx}{pos:Pos}{body:List Stmt}{f:tz1}
theorem yK.back(s1:Stp φ σ H F σ1 H1 ps1 F1)(q:yK φ E σ H F fl ps2):yK φ E σ1 H1 F1 fl ps2:=by
 cases fl with
 |nx=>exact fun σ' H' F' s=>q σ' H' F' (s1.trans s)
 |bk=>exact fun σ' H' F' s=>q σ' H' F' (s1.trans s)
 |ct=>exact fun σ' H' F' s=>q σ' H' F' (s1.trans s)
 |ret d=>exact fun v σ' H' F' fv s o r=>q v σ' H' F' fv (s1.trans s) (o.after s1) r
def wg7(φ:Fx)(σ:St)(H:Hp)(F:Nat->List Addr)(tc:PSt->Option (Bool×PSt))(f:tz1)(fl:Fl)(ps':PSt)(m:Nat)(σ1:St)(H1:Hp):Prop:=∃ps1 F1,Stp φ σ H F σ1 H1 ps1 F1/\lZ tc f m ps1=some (fl,ps')
theorem xa7{κ:tz9}{φ:F0}(n:Nat){c:Expr}{tc:PSt->Option (Bool×PSt)}(hp:PassesOwn (model X.prog X.w) X.A X.env X.xe)(hc:QTE X κ φ c tc)(hb:QSs X κ φ body f):QS X κ φ (.While c body [] pos) (lZ tc f n):=
 (yy5 hp hc hb).imp fun E σ H hh_=>by
  obtain⟨ps,F,fl,ps',R,e,q⟩:=hh_
  refine⟨wg7 (φ.fx X.K κ) σ H F tc f fl ps',⟨n,ps,F,.refl R,e⟩,?_⟩
  rintro m σ1 H1 ⟨ps1,F1,s1,e1⟩
  cases m with
  |zero=>cases e1
  | succ m=>
   rw [lZ] at e1
   obtain⟨⟨k,ps2⟩,e2,e3⟩:=bind_some e1
   refine⟨ps1,F1,k,ps2,s1.rs,e2,fun H2 F2 s2=> ?_⟩
   have s12:=s1.trans s2
   cases k with
   |true=>
    dsimp only at e3|-
    rw [if_pos rfl] at e3|-
    obtain⟨⟨fl3,ps3⟩,e4,e5⟩:=bind_some e3
    refine⟨fun σ' H'=>∃F',Stp (φ.fx X.K κ) σ1 H2 F2 σ' H' ps3 F'/\lZ tc f m ps3=some (fl,ps'),fun σ' H' ⟨F',s,e⟩=>⟨m,Nat.lt_succ_self m,ps3,F',s12.trans s,e⟩,?_⟩
    refine⟨ps2,F2,fl3,ps3,s2.rs,e4,?_⟩
    cases fl3 with
    |nx=>exact fun σ' H' F' s=>⟨F',s,e5⟩
    |ct=>exact fun σ' H' F' s=>⟨F',s,e5⟩
    |bk=>cases e5;exact fun σ' H' F' s=>q σ' H' F' (s12.trans s)
    |ret d=>cases e5;exact fun v σ' H' F' fv s o r=>q v σ' H' F' fv (s12.trans s) (o.after s12) r
   |false=>
    dsimp only at e3|-
    rw [if_neg Bool.false_ne_true] at e3|-
    cases e3
    exact q _ _ F2 s12
end
def qJ(Z:List Addr)(H H':Hp):Prop:=∀a o,H a=some o->(tf o=true\/(kd o=true/\a∈Z))->H' a=some o
structure Walk(K:tz0)(κ:tz9)(J:It)(Z:List Addr)(H1:Hp)(ds:List D):Prop where
 go:∀H',qJ Z H1 H'->∀(i:Nat) d,ds[i]? =some d->J.go i H'/\∀x H2,J.yld i H' x H2->H2=H'/\Rep K κ H' x d []
 stop:∀H',qJ Z H1 H'->J.stop ds.length H'
def tIV(K:tz0)(κ:tz9)(f:tz3):TI:=fun σ H R=>∃ps ds,WS K κ H σ ps/\f ps=some ds/\∀J H1 Z,SameK H H1->Walk K κ J Z H1 ds->R J H1
def tIP(K:tz0)(κ:tz9)(f:tz3):TI:=fun σ H R=>∃ps ds,WS K κ H σ ps/\f ps=some ds/\∀J H1 Z,SameK H H1->(∀a∈Z,H a=none/\H1 a≠none)->Walk K κ J Z H1 ds->R J H1
theorem qJ.sq{K:tz0}{Z:List Addr}{H H':Hp}{a:Addr}{vs:List V}(k:qJ Z H H')(h:Rd H a (.lst vs))(hz:H a=some (.lst vs)->a∈Z):SqL K H' a vs:=by
 rcases h with h|⟨o,h⟩
 ·exact .inl (.inl (k a _ h (.inr ⟨rfl,hz h⟩)))
 ·exact .inl (.inr ⟨o,k a _ h (.inl rfl)⟩)
theorem qJ.rep{K:tz0}{κ:tz9}{Z:List Addr}{H H':Hp}{v:V}{d:D}(k:qJ Z H H')(r:Rep K κ H v d []):Rep K κ H' v d []:=r.move (fun a o h t=>k a o h (.inl t)) fun a ha=>absurd ha (by simp)
theorem uU:∀{l₁:List α} {l₂:List β} {i:Nat} {y:β},Paired R l₁ l₂->l₂[i]? =some y->∃x,l₁[i]? =some x/\R x y
 |_,_,_,_,.nil,e=>by simp at e
 |_,_,0,_,.cons h _,e=>by simp at e;subst e;exact⟨_,rfl,h⟩
 |_,_,i+1,_,.cons _ t,e=>by obtain⟨x,h1,h2⟩:=uU (i:=i) t (by simpa using e);exact⟨x,by simpa using h1,h2⟩
section
variable{K:tz0}{κ:tz9}{H1:Hp}{a:Addr}{vs:List V}{ds:List D}{Z:List Addr}
theorem zk2(h:Rd H1 a (.lst vs))(hz:H1 a=some (.lst vs)->a∈Z)(r:Paired (fun v d=>Rep K κ H1 v d []) vs ds):Walk K κ (Itl K a) Z H1 ds where
 go:=fun H' k i d e=>by
  obtain⟨x,e1,r1⟩:=uU r e
  have sq:SqL K H' a vs:=k.sq h hz
  refine⟨⟨vs,x,sq,e1⟩,fun y H2 hy=>⟨hy.1,?_⟩⟩
  have e2:=hy.2 vs sq
  rw [e1] at e2;cases e2
  exact k.rep r1
 stop:=fun H' k=>⟨vs,k.sq h hz,by rw [Paired.length r];exact Nat.le_refl _⟩
theorem xa8(h:SqF K H1 a vs)(r:Paired (fun v d=>Rep K κ H1 v d []) vs ds):Walk K κ (Itl K a) Z H1 ds where
 go:=fun H' k i d e=>by
  obtain⟨x,e1,r1⟩:=uU r e
  have sq:SqL K H' a vs:=(h.tf fun a o e t=>k a o e (.inl t)).l
  refine⟨⟨vs,x,sq,e1⟩,fun y H2 hy=>⟨hy.1,?_⟩⟩
  have e2:=hy.2 vs sq
  rw [e1] at e2;cases e2
  exact k.rep r1
 stop:=fun H' k=>⟨vs,(h.tf fun a o e t=>k a o e (.inl t)).l,by rw [Paired.length r];exact Nat.le_refl _⟩
theorem xa9(h:SqT K H1 a vs)(r:Paired (fun v d=>Rep K κ H1 v d []) vs ds):Walk K κ (Itt K a) Z H1 ds where
 go:=fun H' k i d e=>by
  obtain⟨x,e1,r1⟩:=uU r e
  have sq:SqT K H' a vs:=h.tf fun a o e t=>k a o e (.inl t)
  refine⟨⟨vs,x,sq,e1⟩,fun y H2 hy=>⟨hy.1,?_⟩⟩
  have e2:=hy.2 vs sq
  rw [e1] at e2;cases e2
  exact k.rep r1
 stop:=fun H' k=>⟨vs,h.tf fun a o e t=>k a o e (.inl t),by rw [Paired.length r];exact Nat.le_refl _⟩
end
def fY(lo:Int)(n:Nat):List D:=(List.range n).map fun(k:Nat)=> .int (lo+(k:Int))
theorem za6{K:tz0}{κ:tz9}{H1:Hp}{Z:List Addr}(lo:Int)(n:Nat):Walk K κ (Itr lo n) Z H1 (fY lo n) where
 go:=fun H' _ i d e=>by
  have hi:=(List.getElem?_eq_some_iff.mp e).1
  unfold fY at hi e
  rw [List.length_map,List.length_range] at hi
  rw [List.getElem?_map,List.getElem?_range hi] at e
  cases e
  exact⟨hi,fun x H2 ⟨h1,h2⟩=>⟨h1,by rw [h2];exact .int _⟩⟩
 stop:=fun H' _=>by
  show n<=(fY lo n).length
  unfold fY
  rw [List.length_map,List.length_range];exact Nat.le_refl _
abbrev QIV(X:Cx)(κ:tz9)(tg iter:Expr)(f:tz3):Prop:=PI X tg iter (tIV X.K κ f)
abbrev QIP(X:Cx)(κ:tz9)(tg iter:Expr)(f:tz3):Prop:=PI X tg iter (tIP X.K κ f)
theorem PI.imp(h:PI X tg e t)(k:∀σ H Q,t' σ H Q->t σ H Q):PI X tg e t':=⟨fun pins s σ H Q I q=>h pins s σ H Q I (k σ H Q q)⟩
theorem QIP.v(h:QIP X κ tg iter f):QIV X κ tg iter f:=PI.imp h fun σ H R ⟨ps,ds,w,e,q⟩=>⟨ps,ds,w,e,fun J H1 Z s _ k=>q J H1 Z s k⟩
section
variable{X:Cx}{κ:tz9}{tg l a b:Expr}{f:tz2}{g:tz3}{p pos:Pos}
def mT:List D->Option (List D)
 |[.int j]=>if (-(2^62)<=j/\j<2^62) then some (fY 0 j.toNat) else none
 |_=>none
def zo9:List D->Option (List D)
 |[.int i,.int j]=>if (-(2^62)<=i/\i<2^62/\ -(2^62)<=j/\j<2^62) then some (fY i (j-i).toNat) else none
 |_=>none
def dP(g:tz3):tz3:=fun ps=>(g ps).bind mT
def ze7(g:tz3):tz3:=fun ps=>(g ps).bind zo9
theorem nN(hg:Gl X "range")(hm:X.mg "range"=none)(ha:QVA X κ [a] g)(hs:starEach [a] X.env=[(false,eval a X.env)]:=by rfl):QIP X κ tg (.Call (.Name "range" p) [a] [] pos) (dP g):=
 PI.imp (yp0 hg hm ha hs) fun σ H R hh_=>by
  obtain⟨ps,ds,w,e,q⟩:=hh_
  obtain⟨as,e1,e2⟩:=bind_some e
  refine⟨ps,as,w,e1,fun vs H1 fp s1 r1=> ?_⟩
  unfold mT at e2
  split at e2
  ·obtain⟨hc,e3⟩:=bV e2
   cases e3
   obtain⟨v,rfl,r⟩:=r1.one_inv
   exact⟨_,by rw [r.is_int],hc.1,hc.2,q _ H1 [] s1 (fun _ h=>absurd h (by simp)) (za6 _ _)⟩
  ·cases e2
theorem ys1(hg:Gl X "range")(hm:X.mg "range"=none)(ha:QVA X κ [a,b] g)(hs:starEach [a,b] X.env=[(false,eval a X.env),(false,eval b X.env)]:=by rfl)(hs2:starEach [b] X.env=[(false,eval b X.env)]:=by rfl):QIP X κ tg (.Call (.Name "range" p) [a,b] [] pos) (ze7 g):=
 PI.imp (yp1 hg hm ha hs hs2) fun σ H R hh_=>by
  obtain⟨ps,ds,w,e,q⟩:=hh_
  obtain⟨as,e1,e2⟩:=bind_some e
  refine⟨ps,as,w,e1,fun vs H1 fp s1 r1=> ?_⟩
  unfold zo9 at e2
  split at e2
  ·obtain⟨hc,e3⟩:=bV e2
   cases e3
   obtain⟨v,u,f,g,rfl,r,r'⟩:=r1.two_inv
   exact⟨_,_,by rw [r.is_int,r'.is_int],hc,q _ H1 [] s1 (fun _ h=>absurd h (by simp)) (za6 _ _)⟩
  ·cases e2
def wg8(K:tz0)(tl:TE):TI:=fun σ H R=>tl σ H fun x H1=>∃a,x= .ref a/\(((∃xs,SqL K H1 a xs)/\R (Itl K a) H1)\/((∃xs,SqT K H1 a xs)/\R (Itt K a) H1))
theorem ys2(hl:PE X l tl):PI X tg l (wg8 X.K tl):=⟨by
 intro pins s σ H R I h
 refine thn (hl pins s σ H _ I h) fun v s1 ⟨x,H1,I1,r1,q1⟩=> ?_
 obtain⟨a,e,q1⟩:=q1
 subst e
 cases r1
 rcases q1 with ⟨⟨xs,hq⟩,q⟩|⟨⟨xs,hq⟩,q⟩
 ·obtain⟨its,rv,p,hz⟩:=I1.list hq
  refine wpAny_pyIter_list p.isList ?_
  refine⟨s1.heap.objs.size,[s1.heap.objs.size],_,_,H1,rfl,I1.kept (t':=s1.toks) fun b o e=>Heap.get?_push_of_some _ e,yo9 a _,⟨_,Heap.get?_push_size _ rfl,rfl,rfl⟩,fun b hb=> ?_,q⟩
  have e:b=s1.heap.objs.size:=by simpa using hb
  subst e
  exact I1.fpOk (Nat.le_refl _) (I1.hok.fresh (Nat.le_refl _))
 ·obtain⟨its,rv,p,hz⟩:=I1.tuple hq
  refine wpAny_pyIter_tuple (show s1.heap.IsTuple a its.toArray from p) ?_
  refine⟨s1.heap.objs.size,[s1.heap.objs.size],_,_,H1,rfl,I1.kept (t':=s1.toks) fun b o e=>Heap.get?_push_of_some _ e,yh2 a _,⟨_,Heap.get?_push_size _ rfl,rfl,rfl⟩,fun b hb=> ?_,q⟩
  have e:b=s1.heap.objs.size:=by simpa using hb
  subst e
  exact I1.fpOk (Nat.le_refl _) (I1.hok.fresh (Nat.le_refl _))⟩
def fR:D->Option (List D)
 | .lst _ xs=>if D.imms xs=true then some xs else none
 | .tup xs=>some xs
 | .con xs=>some xs
 |_=>none
theorem yd3{K:tz0}{H:Hp}{v:V}{d:D}{fp:List Addr}{ds:List D}{R:It->Hp->Prop}(r:Rep K κ H v d fp)(e:fR d=some ds)(q:∀J Z,(∀a∈Z,a∈fp)->Walk K κ J Z H ds->R J H):
  ∃a,v= .ref a/\(((∃xs,SqL K H a xs)/\R (Itl K a) H)\/((∃xs,SqT K H a xs)/\R (Itt K a) H)):=by
 cases d with
 |lst o xs=>
  obtain⟨hc,e⟩:=bV e
  cases e
  cases r with
  |lst h hs=>exact⟨_,rfl,.inl ⟨⟨_,.inl (.inl h)⟩,q _ [_] (fun a ha=>by simp at ha;subst ha;exact List.mem_cons_self) (zk2 (.inl h) (fun _=>by simp) (hs.pair hc))⟩⟩
  |lstF h hs=>exact⟨_,rfl,.inl ⟨⟨_,.inl (.inr ⟨_,h⟩)⟩,q _ [] (fun a ha=>absurd ha (by simp)) (zk2 (.inr ⟨_,h⟩) (fun z=>by rw [h] at z;cases z) (hs.pair hc))⟩⟩
 |tup xs=>
  cases e
  obtain⟨a,vs,rfl,h,hs⟩:=r.tup_inv
  exact⟨a,rfl,.inr ⟨⟨_,h⟩,q _ [] (fun a ha=>absurd ha (by simp)) (xa9 h hs.nilp)⟩⟩
 |con xs=>
  cases e
  obtain⟨a,vs,rfl,h,hs⟩:=r.con_inv
  exact⟨a,rfl,.inl ⟨⟨_,h.l⟩,q _ [] (fun a ha=>absurd ha (by simp)) (xa8 h hs.nilp)⟩⟩
 |_=>cases e
def iM(f:tz2):tz3:=fun ps=>(f ps).bind fR
theorem zr6(h:QP X κ l f):QIP X κ tg l (iM f):=PI.imp (ys2 h) fun σ H R hh_=>by
 obtain⟨ps,ds,w,e,q⟩:=hh_
 obtain⟨d,e1,e2⟩:=bind_some e
 exact⟨ps,d,w,e1,fun v H1 fv s1 n1 nd1 r1=>yd3 r1 e2 fun J Z hz k=>q J H1 Z s1 (fun a ha=>⟨n1 a (hz a ha),fun z=>by obtain⟨o,h,_⟩:=r1.own a (hz a ha);rw [z] at h;cases h⟩) k⟩
def aS(z:Str):List D:=z.cps.toList.map fun c=> .str ⟨#[c]⟩
theorem xb0{K:tz0}{H1:Hp}{Z:List Addr}(z:Str):Walk K κ (Its z) Z H1 (aS z) where
 go:=fun H' _ i d e=>by
  have hi:=(List.getElem?_eq_some_iff.mp e).1
  unfold aS at hi e
  rw [List.length_map,Array.length_toList] at hi
  rw [List.getElem?_map,Array.getElem?_toList,Array.getElem?_eq_getElem hi] at e
  cases e
  refine⟨hi,fun x H2 ⟨h1,c,h2,h3⟩=>⟨h1,?_⟩⟩
  rw [Array.getElem?_eq_getElem hi] at h2
  cases h2
  rw [h3];exact .str _
 stop:=fun H' _=>by
  show z.cps.size<=(aS z).length
  unfold aS
  rw [List.length_map,Array.length_toList];exact Nat.le_refl _
def xJ:D->Option (List D)
 | .str z=>if z.cps.all (·<128)=true then some (aS z) else none
 |_=>none
def iT(f:tz2):tz3:=fun ps=>(f ps).bind xJ
theorem zr7(h:QV X κ l f):QIP X κ tg l (iT f):=PI.imp (xs2 h) fun σ H R hh_=>by
 obtain⟨ps,ds,w,e,q⟩:=hh_
 obtain⟨d,e1,e2⟩:=bind_some e
 cases d with
 |str z=>
  obtain⟨hc,e3⟩:=bV e2
  cases e3
  exact⟨ps,_,w,e1,fun v H1 fv s1 r1=>⟨z,r1.is_str,hc,q _ H1 [] s1 (fun _ h=>absurd h (by simp)) (xb0 z)⟩⟩
 |_=>cases e2
end
def dJ(i:Nat)(f:tz1):List D->tz1
 |[],ps=>some (.nx,ps)
 | d::ds,ps=>(f (ps.set i (some d))).bind fun q=>match q with
   |(.nx,p)=>dJ i f ds p
   |(.ct,p)=>dJ i f ds p
   |(.bk,p)=>some (.nx,p)
   |(.ret d,p)=>some (.ret d,p)
section
variable{X:Cx}{φ:Fx}{pos:Pos}{body:List Stmt}{f:tz1}
theorem Frm.kept(R:RS φ H σ ps F)(k:Frm F H H')(hz:∀a∈Z,∀i,a∉F i):qJ Z H H':=fun a o h t=>by
 rcases t with t|⟨t1,t2⟩
 ·refine k.keep a o h (nK t) fun i hi=> ?_
  obtain⟨o',h',_,t'⟩:=R.own hi
  rw [h] at h';cases h';rw [t] at t';cases t'
 ·exact k.keep a o h t1 (hz a t2)
def xi6(J:It)(E:Ends)(V:Nat->Nat->St->Hp->Prop)(g:TG)(tb:TS)(k m:Nat)(σ:St)(H:Hp):Prop:=
 (J.stop k H/\E.nx σ H)\/(J.go k H/\∃N:St->Hp->Prop,(∀σ' H',N σ' H'->∃m',m'<m/\V (k+1) m' σ' H')/\∀x H',J.yld k H x H'->g x σ H' fun σ2 H2=>tb {E with nx:=N,ct:=N,bk:=E.nx} σ2 H2)
def wg9(φ:Fx)(σ:St)(H:Hp)(F:Nat->List Addr)(i:Nat)(f:tz1)(ds:List D)(fl:Fl)(ps':PSt)(k m:Nat)(σ1:St)(H1:Hp):Prop:=k<=ds.length/\m=ds.length-k/\∃ps1 F1,Stp φ σ H F σ1 H1 ps1 F1/\dJ i f (ds.drop k) ps1=some (fl,ps')
theorem zr8(R:RS φ H σ ps F)(hz:∀a∈Z,H a≠none/\∀i,a∉F i)(W:Walk φ.K φ.κ J Z H ds)(hb:φ.bor i=false)(hm:φ.M i=false)
  (e:dJ i f ds ps=some (fl,ps')) (q:yK φ E σ H F fl ps'):∃V:Nat->Nat->St->Hp->Prop,(∃m,V 0 m σ H)/\∀k m σ H,V k m σ H->xi6 J E V (sQ i) (tS φ f) k m σ H:=by
 refine⟨wg9 φ σ H F i f ds fl ps',⟨_,Nat.zero_le _,rfl,ps,F,.refl R,by rw [List.drop_zero];exact e⟩,?_⟩
 rintro k m σ1 H1 ⟨hk,rfl,ps1,F1,s1,e1⟩
 have kp:qJ Z H H1:=s1.fr.kept R fun a ha=>(hz a ha).2
 by_cases hlt:k<ds.length
 ·right
  have ed:ds[k]? =some ds[k]:=List.getElem?_eq_getElem hlt
  obtain⟨hgo,hy⟩:=W.go H1 kp k _ ed
  rw [List.drop_eq_getElem_cons hlt,dJ] at e1
  obtain⟨⟨fl2,ps2⟩,e2,e3⟩:=bind_some e1
  refine⟨hgo,fun σ' H'=>∃F',Stp φ σ H F σ' H' ps2 F'/\dJ i f (ds.drop (k+1)) ps2=some (fl,ps'),fun σ' H' ⟨F',s,e⟩=>⟨ds.length-(k+1),by omega,hlt,rfl,ps2,F',s,e⟩,fun x H' y=> ?_⟩
  obtain⟨rfl,rx⟩:=hy x H' y
  obtain⟨F2,s2⟩:=(Stp.refl s1.rs).set (i:=i) (fv:=[]) (v:=x) (d:=ds[k]) ⟨fun _ h=>absurd h (by simp),List.nodup_nil,fun _ _ _ h=>absurd h (by simp)⟩ s1.rs rx (.inl hb) hm
  have s12:=s1.trans s2
  refine⟨_,F2,fl2,ps2,s2.rs,e2,?_⟩
  cases fl2 with
  |nx=>exact fun σ' H' F' s=>⟨F',s12.trans s,e3⟩
  |ct=>exact fun σ' H' F' s=>⟨F',s12.trans s,e3⟩
  |bk=>cases e3;exact fun σ' H' F' s=>q σ' H' F' (s12.trans s)
  |ret d=>cases e3;exact fun v σ' H' F' fv s o r=>q v σ' H' F' fv (s12.trans s) (o.after s12) r
 ·left
  have ek:k=ds.length:=by omega
  subst ek
  rw [List.drop_length,dJ] at e1
  cases e1
  exact⟨W.stop H1 kp,q _ _ F1 s1⟩
def dS(i:Nat)(fi:tz3)(f:tz1):tz1:=fun ps=>(fi ps).bind fun ds=>dJ i f ds ps
theorem oA{κ:tz9}{φ:F0}(i:Nat){x:Str}{px:Pos}{iter:Expr}{fi:tz3}(hp:PassesOwn (model X.prog X.w) X.A X.env X.xe)(hc:X.calm=true)(hN:X.N.Nodup)(hi:X.N[i]? =some x)(hx:Loc X.env.scope x)(hb:φ.bor i=false)(hm:φ.M i=false)
  (hit:PI X (.Name x px) iter (tIP X.K κ fi)) (hbd:QSs X κ φ body f) (hs:∀x,foldedSetIterable iter X.env x=pure x:=by intro _;rfl) (hf:X.fn x=true\/X.env.scope.names.lookup x=some .local:=by first|exact .inl rfl|exact .inr rfl|assumption):
  QS X κ φ (.For (.Name x px) iter body [] pos) (dS i fi f):=(zp9 hp hc hit (kZ hN hi hx hf) hbd hs).imp fun E σ H hh_=>by
 obtain⟨ps,F,fl,ps',R,e,q⟩:=hh_
 obtain⟨ds,e1,e2⟩:=bind_some e
 refine⟨ps,ds,R.ws,e1,fun J H1 Z s1 hz W=> ?_⟩
 have s:=Stp.same R s1
 exact zr8 s.rs (fun a ha=>⟨(hz a ha).2,fun j hj=>by obtain⟨o,h,_⟩:=R.own hj;rw [(hz a ha).1] at h;cases h⟩) W hb hm e2 (q.back s)
def wh0(g:TG)(tb:TS)(E:Ends)(σ:St):It->Hp->Prop:=fun J H1=>∃W:Nat->Nat->St->Hp->Prop,(∃m,W 0 m σ H1)/\∀i m σ H,W i m σ H->
 (J.stop i H/\E.nx σ H)\/(J.go i H/\∃N:St->Hp->Prop,(∀σ' H',N σ' H'->∃m',m'<m/\W (i+1) m' σ' H')/\∀x H',J.yld i H x H'->g x σ H' fun σ2 H2=>tb {E with nx:=N,ct:=N,bk:=E.nx} σ2 H2)
theorem xl6{κ:tz9}{φ:F0}(i j:Nat){x y:Str}{px py:Pos}(hp:PassesOwn (model X.prog X.w) X.A X.env X.xe)(hc:X.calm=true)(hN:X.N.Nodup)(hi:X.N[i]? =some x)(hx:Loc X.env.scope x)(hb:φ.bor i=false)(hm:φ.M i=false)(hj:φ.bor j=true)
  (hbd:QSs X κ φ body f) (hNj:X.N[j]? =some y:=by rfl) (hv:Vis X.env.scope y:=by first|exact Or.inl rfl|exact Or.inr (Or.inl rfl)|exact Or.inr (Or.inr rfl)) (hd:(y==("__debug__":Str))=false:=by decide)
  (hcd:(y==("__classdict__":Str))=false:=by decide) (hs:∀x,foldedSetIterable (.Name y py) X.env x=pure x:=by intro _;rfl) (hf:X.fn x=true\/X.env.scope.names.lookup x=some .local:=by first|exact .inl rfl|exact .inr rfl|assumption):
  QS X κ φ (.For (.Name x px) (.Name y py) body [] pos) (dS i (iM (aA j)) f):=(zp9 hp hc (ys2 (iP hNj hv hd hcd)) (kZ hN hi hx hf) hbd hs).imp fun E σ H hh_=>by
 obtain⟨ps,F,fl,ps',R,e,q⟩:=hh_
 obtain⟨ds,e1,e2⟩:=bind_some e
 obtain⟨d,e3,e4⟩:=bind_some e1
 obtain⟨v,fp,h1,h2,_,h4⟩:=R.rep j d (join_some e3)
 refine⟨v,h1,?_⟩
 refine yd3 (R:=wh0 (sQ i) (tS (φ.fx X.K κ) f) E σ) h2 e4 fun J Z hz W=> ?_
 exact zr8 R (fun a ha=>⟨R.bt j a (h4 hj a (hz a ha)),fun k hk=>R.nb k a hk j (h4 hj a (hz a ha))⟩) W hb hm e2 q
end
def gP(np n:Nat)(f:tz1):tz6:=fun ds=>if ds.length=np then(f (ds.map some++List.replicate n none)).bind fun r=>match r with
 |(.ret d,_)=>some d
 |(.nx,_)=>some .non
 |_=>none
 else none
def SpP(np:Nat)(K:tz0)(κ:tz9)(g:tz6):Sp:=fun vs H Q _=>vs.length=np/\∃ds fp d,Reps K κ H vs ds fp/\g ds=some d/\lF K κ H d Q
def fxP(K:tz0)(κ:tz9)(np:Nat)(B:Nat->Addr->Prop):Fx:=⟨K,κ,fun i=>decide (i<np),fun _=>false,B⟩
def f0P(np:Nat)(B:Nat->Addr->Prop):F0:=⟨fun i=>decide (i<np),fun _=>false,B⟩
theorem ys3{N:List Str}{vs:List V}{i:Nat}{v:V}(h:vs[i]? =some v):(start N vs)[i]? =some (some v):=by
 unfold start
 have hi:=(List.getElem?_eq_some_iff.mp h).1
 rw [List.getElem?_append_left (by simpa using hi),List.getElem?_map,h];rfl
theorem RS.start{K:tz0}{κ:tz9}{H:Hp}{N:List Str}{vs:List V}{ds:List D}{fp:List Addr}{np:Nat}(r:Reps K κ H vs ds fp)(hl:vs.length=np)(hn:np<=N.length):
  RS (fxP K κ np (fun _ a=>a∈fp)) H (start N vs) (ds.map some++List.replicate (N.length-np) none) (fun _=>[]):=by
 have el:=r.length
 refine⟨fun i d h=> ?_,fun i a h=>absurd h (by simp),fun i j a h=>absurd h (by simp),fun i=>List.nodup_nil,fun i a h=>absurd h (by simp),fun k a h z=> ?_,?_⟩
 ·by_cases hi:i<ds.length
  ·rw [List.getElem?_append_left (by simpa using hi),List.getElem?_map] at h
   cases e:ds[i]? with
   |none=>rw [e] at h;cases h
   |some d'=>
    rw [e] at h;cases h
    obtain⟨v,f,h1,h2,h3⟩:=r.get e
    refine⟨v,f,ys3 h1,h2,fun z=> ?_,fun _=>h3⟩
    exact absurd (of_decide_eq_false z) (by omega)
  ·rw [List.getElem?_append_right (by simpa using hi),List.getElem?_replicate] at h
   split at h<;>cases h
 ·obtain⟨o,h,_⟩:=r.own a h
  rw [z] at h;cases h
 ·unfold L2.start
  simp only [List.length_append,List.length_map,List.length_replicate]
  omega
section
variable{P:Program}{w:World}{K:tz0}{mg:tzA}{base:Heap}{κ:tz9}
theorem eH{x qual:Str}{st:Stmt}{f:Addr}{fd:FuncData}{N ps:List Str}{k:Nat}{fb:tz1}(F:Fun K x qual st f fd)(S:FnScope N ps (aW st))
  (hbody:∀(cdv:Value) (A:Around) (outer:List Env) (s:Shared) (H:Hp) (E:XK) (B:Nat->Addr->Prop),Room k (A.deeper (envOfC qual (aW st) s.heap.objs.size f cdv))->
   QSs (fQ CX0 P w K mg base N qual (aW st) f cdv A outer s H E).nox κ (f0P ps.length B) (jO st) fb):
  FnOk P w K mg base CX0 (k+1) f fd ps (SpP ps.length K κ (gP ps.length (N.length-ps.length) fb)):=by
 refine F.ok S (fun vs H Q E h=>h.1) fun cdv A outer s H vs Q E hr ⟨hl,ds,fp,d,r,e,q⟩=>⟨_,hbody cdv A outer s H E (fun _ a=>a∈fp) hr,?_⟩
 have hn:ps.length<=N.length:=by have:=congrArg List.length S.pre;rw [List.length_take] at this;omega
 unfold gP at e
 obtain⟨_,e0⟩:=bV e
 obtain⟨⟨fl,ps'⟩,e1,e2⟩:=bind_some e0
 refine⟨_,fun _=>[],fl,ps',RS.start r hl hn,e1,?_⟩
 have sm:∀{H':Hp},Frm (fun _=>[]) H H'->SameK H H':=fun k=>⟨fun a o h kk=>k.keep a o h kk (fun _=>by simp),k.grow⟩
 cases fl with
 |ret d'=>
  cases e2
  exact fun v σ' H' F' fv s o rv=>q v H' fv (sm s.fr) (fun a ha=>(o.nw a ha).elim (fun⟨j,hj⟩=>absurd hj (by simp)) id) o.nd rv
 |nx=>
  cases e2
  exact fun σ' H' F' s=>q .non H' [] (sm s.fr) (fun a ha=>absurd ha (by simp)) List.nodup_nil .non
 |bk=>cases e2
 |ct=>cases e2
end
section
variable{X:Cx}{κ:tz9}{e:Expr}{es:List Expr}{g:tz3}{pos p:Pos}
theorem dY{x:Str}{st:Stmt}{ps:List Str}{f:Addr}{fd:FuncData}{k np:Nat}{h:tz6}(Dd:Dn X.K X.mg x st ps f fd)(G:FnOk X.prog X.w X.K X.mg X.base CX0 k f fd ps (SpP np X.K κ h))(hr:Room k X.A)(hg:Gl X x)(hnp:(e::es).length=np)(ha:QVA X κ (e::es) g)
  (hlen:∀ps ds,g ps=some ds->ds.length=(e::es).length)
  (hdb:(x==("__debug__":Str))=false:=by decide) (he:starEach (e::es) X.env=(false,eval e X.env)::starEach es X.env:=by rfl) (hpl:(backTo pos (starEach es X.env)).any (·.1)=false:=by rfl):
  QP X κ (.Call (.Name x p) (e::es) [] pos) (aG h g):=(yi6 Dd G hr hg ha hdb he hpl).imp fun σ H Q hh_=>by
 obtain⟨ps,d,w,e,q⟩:=hh_
 obtain⟨ds,e1,e2⟩:=bind_some e
 refine⟨ps,ds,w,e1,fun vs H1 fp s1 r1=> ?_⟩
 show SpP np X.K κ h (vs++[]) H1 Q E0
 rw [List.append_nil]
 exact⟨by rw [r1.length,hlen ps ds e1,hnp],ds,fp,d,r1,e2,q.after s1⟩
theorem cJ:∀(ps:PSt) (ds:List D),aD ps=some ds->ds.length=([]:List Expr).length:=fun _ _ h=>by cases h;rfl
theorem bA(h:∀ps ds,g ps=some ds->ds.length=es.length):∀(ps:PSt) (ds:List D),aB f g ps=some ds->ds.length=(e::es).length:=fun ps ds q=>by
 obtain⟨d,es',_,e2,rfl⟩:=uR q
 rw [List.length_cons,List.length_cons,h ps es' e2]
end
def tJ(pick:List (Option Nat))(ps:PSt):PSt:=pick.map fun o=>o.bind fun j=>(ps[j]?).join
def iU(psb:PSt)(ft:tz4)(fe:tz2):List D->Option (List D)
 |[]=>some []
 |d::ds=>(ft (psb.set 0 (some d))).bind fun b=>if b=true then(fe (psb.set 0 (some d))).bind fun r=>(iU psb ft fe ds).bind fun rs=>some (r::rs) else iU psb ft fe ds
def mU(pick:List (Option Nat))(fi:tz3)(ft:tz4)(fe:tz2):tz2:=fun ps=>(fi ps).bind fun ds=>if ds.length<=sizeLine then(iU (tJ pick ps) ft fe ds).bind fun rs=>some (.lst true rs) else none
def kM:tz4:=fun _=>some true
theorem WS.sub{K:tz0}{κ:tz9}{H:Hp}{σ:St}{ps:PSt}(pick:List (Option Nat))(w:WS K κ H σ ps):WS K κ H (qI pick σ) (tJ pick ps):=fun i d h=>by
 unfold tJ at h
 unfold qI
 rw [List.getElem?_map] at h|-
 cases e:pick[i]? with
 |none=>rw [e] at h;cases h
 | some o=>
  rw [e] at h
  cases o with
  |none=>cases h
  |some j=>
   have h':(ps[j]?).join=some d:=Option.some.inj h
   obtain⟨v,fp,h1,h2⟩:=w j d (join_some h')
   refine⟨v,fp,?_,h2⟩
   show some ((σ[j]?).join)=some (some v)
   rw [h1];rfl
theorem WS.set0{K:tz0}{κ:tz9}{H:Hp}{σ:St}{ps:PSt}{v:V}{d:D}{fp:List Addr}(w:∀(i:Nat) (d:D),i≠0->ps[i]? =some (some d)->∃v fp,σ[i]? =some (some v)/\Rep K κ H v d fp)(hl:ps.length<=σ.length)(r:Rep K κ H v d fp):WS K κ H (σ.set 0 (some v)) (ps.set 0 (some d)):=fun i d' h=>by
 by_cases e:i=0
 ·subst e
  by_cases hp:0<ps.length
  ·rw [List.getElem?_set_self hp] at h
   cases h
   exact⟨v,fp,by rw [List.getElem?_set_self (by omega)],r⟩
  ·rw [List.getElem?_eq_none (by simpa using hp)] at h;cases h
 ·rw [List.getElem?_set_ne (fun z=>e z.symm)] at h|-
  exact w i d' e h
section
variable{X:Cx}{κ:tz9}{sc:Scope}{NX N:List Str}{pick:List (Option Nat)}{elt iter:Expr}{ifs:List Expr}{scope:Scope}{pos px:Pos}{x:Str}{fi:tz3}{ft:tz4}{fe:tz2}
theorem PTs.imp(h:PTs X ifs t)(k:∀σ H Q,t' σ H Q->t σ H Q):PTs X ifs t':=⟨fun pins s σ H Q I q=>h pins s σ H Q I (k σ H Q q)⟩
theorem zg4:PTs X [] (tQ X.K κ kM):=xs1.imp fun σ H Q ⟨ps,b,w,e,q⟩=>by cases e;exact q H (.refl H)
structure Grown(K:tz0)(κ:tz9)(H1:Hp)(Dd:Addr)(H':Hp)(vs:List V)(rs:List D)(fv:List Addr):Prop where
 same:SameK H1 H'
 at_:H' Dd=some (.lst vs)
 rep:Reps K κ H' vs rs fv
 new:∀a∈fv,H1 a=none
 ne:Dd∉fv
 nd:fv.Nodup
def wd0(K:tz0)(κ:tz9)(J:It)(Dd:Addr)(q:Hp->Prop)(V:Nat->Nat->St->Hp->Prop)(ft:tz4)(fe:tz2)(i m:Nat)(σ':St)(H':Hp):Prop:=
  (J.stop i H'/\q H')\/(J.go i H'/\∀x H2,J.yld i H' x H2->sQ 0 x σ' H2 fun σ3 H3=>tQ K κ ft σ3 H3 fun b H4=>
   if b=true then tP K κ fe σ3 H4 fun y H5=>∃ys,H5 Dd=some (.lst ys)/\ys.length<sizeLine/\∃m',m'<m/\V (i+1) m' σ3 (upd H5 Dd (.lst (ys++[y]))) else ∃m',m'<m/\V (i+1) m' σ3 H4)
def wh1(K:tz0)(κ:tz9)(H1:Hp)(Dd:Addr)(pick:List (Option Nat))(ps:PSt)(ft:tz4)(fe:tz2)(ds rs:List D)(i m:Nat)(σ':St)(H':Hp):Prop:=i<=ds.length/\m=ds.length-i/\(∀(j:Nat) (d:D),j≠0->(tJ pick ps)[j]? =some (some d)->∃v fp,σ'[j]? =some (some v)/\Rep K κ H1 v d fp)/\(tJ pick ps).length<=σ'.length/\
  ∃vs fv done bK,Grown K κ H1 Dd H' vs done fv/\done.length<=i/\iU (tJ pick ps) ft fe (ds.drop i)=some bK/\rs=done++bK
theorem xb1{pick:List (Option Nat)}{J:It}{Z:List Addr}{σ:St}{ps:PSt}{H1:Hp}{Dd:Addr}{ds rs:List D}{Q:Addr->Hp->Prop}(w:WS X.K κ H1 σ ps)(hD:H1 Dd=none)(W:Walk X.K κ J Z H1 ds)(hz:ds.length<=sizeLine)
  (e:iU (tJ pick ps) ft fe ds=some rs) (q:∀H' vs fv,Grown X.K κ H1 Dd H' vs rs fv->Q Dd H'):
  ∃V:Nat->Nat->St->Hp->Prop,(∃m,V 0 m (qI pick σ) (upd H1 Dd (.lst [])))/\∀i m σ' H',V i m σ' H'->wd0 X.K κ J Dd (Q Dd) V ft fe i m σ' H':=by
 refine⟨wh1 X.K κ H1 Dd pick ps ft fe ds rs,⟨_,Nat.zero_le _,rfl,fun j d _ h=>w.sub pick j d h,by simp [tJ,qI],[],[],[],rs,⟨.new hD _,dA,.nil,fun _ h=>absurd h (by simp),by simp,List.nodup_nil⟩,Nat.zero_le _,by rw [List.drop_zero];exact e,rfl⟩,?_⟩
 rintro i m σ' H' ⟨hi,rfl,ws,wl,vs,fv,done,bK,G,hdn,er,ers⟩
 have kp:qJ Z H1 H':=fun a o h t=>G.same.keep a o h (t.elim nK fun t=>t.1)
 by_cases hlt:i<ds.length
 ·right
  have ed:ds[i]? =some ds[i]:=List.getElem?_eq_getElem hlt
  obtain⟨hgo,hy⟩:=W.go H' kp i _ ed
  refine⟨hgo,fun x H2 y=> ?_⟩
  obtain⟨rfl,rx⟩:=hy x H2 y
  rw [List.drop_eq_getElem_cons hlt,iU] at er
  obtain⟨b,e1,e2⟩:=bind_some er
  have wset:WS X.K κ H2 (σ'.set 0 (some x)) ((tJ pick ps).set 0 (some ds[i])):=WS.set0 (fun j d hj h=>by obtain⟨v,fp,h1,h2⟩:=ws j d hj h;exact⟨v,fp,h1,h2.same G.same⟩) wl rx
  refine⟨_,b,wset,e1,fun H3 s3=> ?_⟩
  have keepS:∀(j:Nat) (d:D),j≠0->(tJ pick ps)[j]? =some (some d)->∃v fp,(σ'.set 0 (some x))[j]? =some (some v)/\Rep X.K κ H1 v d fp:=fun j d hj h=>by
   obtain⟨v,fp,h1,h2⟩:=ws j d hj h
   exact⟨v,fp,by rw [List.getElem?_set_ne (fun z=>hj z.symm)];exact h1,h2⟩
  have Dkeep:∀{H5:Hp},SameK H2 H5->H5 Dd=some (.lst vs):=fun s=>s.keep _ _ G.at_ rfl
  cases b with
  | true=>
   dsimp only
   rw [if_pos rfl] at e2|-
   obtain⟨r,e3,e4⟩:=bind_some e2
   obtain⟨rs',e5,e6⟩:=bind_some e4
   cases e6
   refine⟨_,r,wset.same s3,e3,fun y H5 fw s5 n5 nd5 r5=> ?_⟩
   have s25:=s3.trans s5
   refine⟨vs,Dkeep s25,?_,ds.length-(i+1),by omega,hlt,rfl,keepS,by simpa using wl,vs++[y],fv++fw,done++[r],rs',?_,?_,e5,by rw [ers];simp⟩
   ·have:=G.rep.length;omega
   ·have hDw:Dd∉fw:=fun z=>by have:=s3.grow Dd (n5 Dd z);rw [G.at_] at this;cases this
    have hup:∀a,a≠Dd->upd H5 Dd (.lst (vs++[y])) a=H5 a:=fun a h=>cI h
    have tfk:∀a o,H5 a=some o->tf o=true->upd H5 Dd (.lst (vs++[y])) a=some o:=fun a o h t=>by
     rw [hup a]
     ·exact h
     ·rintro rfl;rw [Dkeep s25] at h;cases h;cases t
    have rv5:Reps X.K κ H5 vs done fv:=G.rep.same s25
    refine⟨⟨fun a o h k=> ?_,fun a h=> ?_⟩,dA,Reps.append (rv5.move tfk fun a ha=>hup a fun z=>G.ne (z▸ha)) (Reps.one (r5.move tfk fun a ha=>hup a fun z=>hDw (z▸ha))),fun a ha=> ?_,fun z=> ?_,?_⟩
    ·rw [hup a (fun z=>by subst z;rw [hD] at h;cases h)]
     exact(G.same.trans s25).keep a o h k
    ·by_cases z:a=Dd
     ·subst z;rw [dA] at h;cases h
     ·rw [hup a z] at h;exact(G.same.trans s25).grow a h
    ·rcases List.mem_append.mp ha with z|z
     ·exact G.new a z
     ·exact(G.same.trans s3).grow a (n5 a z)
    ·rcases List.mem_append.mp z with z|z
     ·exact G.ne z
     ·exact hDw z
    ·rw [List.nodup_append]
     refine⟨G.nd,nd5,fun a ha b hb e=> ?_⟩
     subst e
     obtain⟨o,h,k,_⟩:=G.rep.own a ha
     have:=s3.keep a o h k
     rw [n5 a hb] at this;cases this
   ·rw [List.length_append,List.length_singleton];omega
  |false=>
   dsimp only
   rw [if_neg Bool.false_ne_true] at e2|-
   refine⟨ds.length-(i+1),by omega,hlt,rfl,keepS,by simpa using wl,vs,fv,done,bK,⟨G.same.trans s3,Dkeep s3,G.rep.same s3,G.new,G.ne,G.nd⟩,by omega,e2,ers⟩
 ·left
  have ek:i=ds.length:=by omega
  subst ek
  rw [List.drop_length,iU] at er
  cases er
  rw [List.append_nil] at ers
  subst ers
  exact⟨W.stop H' kp,q H' vs fv G⟩
theorem zg5(S:CScope sc NX N pick scope)(hsc:X.env.scope=sc)(hNX:X.N=NX)(hc:X.calm=true)(hi:QIV X κ (.Name x px) iter fi)
  (hg:∀cl fp s H,PG (cxB X N scope cl fp s H) (.Name x px) (sQ 0)) (ht:∀cl fp s H,PTs (cxB X N scope cl fp s H) ifs (tQ X.K κ ft)) (he:∀cl fp s H,PE (cxB X N scope cl fp s H) elt (tP X.K κ fe))
  (hs:∀x,foldedSetIterable iter X.env x=pure x:=by intro _;rfl):QP X κ (.ListComp elt [⟨.Name x px,iter,ifs,0⟩] scope pos) (mU pick fi ft fe):=
 (xl0 S hsc hNX hc hi hg ht he hs).imp fun σ H Q hh_=>by
  obtain⟨ps,d,w,e,q⟩:=hh_
  obtain⟨ds,e1,e2⟩:=bind_some e
  obtain⟨hz,e3⟩:=bV e2
  obtain⟨rs,e4,e5⟩:=bind_some e3
  cases e5
  refine⟨ps,ds,w,e1,fun J H1 Z s1 W Dd hD=> ?_⟩
  refine xb1 (Q:=fun Dd H'=>Q (.ref Dd) H') (w.same s1) hD W hz e4 fun H' vs fv G=> ?_
  refine q _ H' (Dd::fv) (s1.trans G.same) (fun a ha=> ?_) (List.nodup_cons.mpr ⟨G.ne,G.nd⟩) (.lst G.at_ G.rep)
  rcases List.mem_cons.mp ha with z|z
  ·rw [z];exact s1.grow Dd hD
  ·exact s1.grow a (G.new a z)
end
inductive Ps1 where
 |ix (n:Nat)|fld (f:Str)
def dD:List Str->Str->Option Nat
 |[],_=>none
 |n::ns,f=>if n=f then some 0 else(dD ns f).map (·+1)
def gJ{α:Type}(h:D->Option (α×D)):D->List Ps1->Option (α×D)
 |d,[]=>h d
 | .lst true xs,.ix n::p=>(xs[n]?).bind fun d=>(gJ h d p).bind fun r=>some (r.1,.lst true (xs.set n r.2))
 | .obj true C ns vs,.fld f::p=>(dD ns f).bind fun n=>(vs[n]?).bind fun d=>(gJ h d p).bind fun r=>some (r.1,.obj true C ns (vs.set n r.2))
 |_,_=>none
def kN:D->List Ps1->Option D
 |d,[]=>some d
 | .lst true xs,.ix n::p=>(xs[n]?).bind fun d=>kN d p
 | .obj true _ ns vs,.fld f::p=>(dD ns f).bind fun n=>(vs[n]?).bind fun d=>kN d p
 |_,_=>none
def At(H:Hp):V->List Ps1->V->Prop
 |v0,[],v=>v=v0
 |v0,.ix n::p,v=>∃a vs v1,v0= .ref a/\H a=some (.lst vs)/\vs[n]? =some v1/\At H v1 p v
 |v0,.fld f::p,v=>∃a C dx fs n v1,v0= .ref a/\H a=some (.ins C dx fs)/\dD (fs.map (·.1)) f=some n/\(fs.map (·.2))[n]? =some v1/\At H v1 p v
theorem At.same(s:SameK H H'):∀{p:List Ps1} {v0 v:V},At H v0 p v->At H' v0 p v
 |[],_,_,h=>h
 | .ix n::p,_,_,⟨a,vs,v1,h1,h2,h3,h4⟩=>⟨a,vs,v1,h1,s.keep _ _ h2 rfl,h3,At.same s h4⟩
 | .fld f::p,_,_,⟨a,C,dx,fs,n,v1,h1,h2,h3,h4,h5⟩=>⟨a,C,dx,fs,n,v1,h1,s.keep _ _ h2 rfl,h3,h4,At.same s h5⟩
theorem At.snoc_ix(h:H a=some (.lst vs))(hv:vs[n]? =some v):∀{p:List Ps1} {v0:V},At H v0 p (.ref a)->At H v0 (p++[.ix n]) v
 |[],_,e=>⟨a,vs,v,e.symm,h,hv,rfl⟩
 | .ix m::p,_,⟨b,us,v1,h1,h2,h3,h4⟩=>⟨b,us,v1,h1,h2,h3,At.snoc_ix h hv h4⟩
 | .fld f::p,_,⟨b,C,dx,fs,m,v1,h1,h2,h3,h4,h5⟩=>⟨b,C,dx,fs,m,v1,h1,h2,h3,h4,At.snoc_ix h hv h5⟩
theorem At.snoc_fld(h:H a=some (.ins C dx fs))(hn:dD (fs.map (·.1)) f=some n)(hv:(fs.map (·.2))[n]? =some v):∀{p:List Ps1} {v0:V},At H v0 p (.ref a)->At H v0 (p++[.fld f]) v
 |[],_,e=>⟨a,C,dx,fs,n,v,e.symm,h,hn,hv,rfl⟩
 | .ix m::p,_,⟨b,us,v1,h1,h2,h3,h4⟩=>⟨b,us,v1,h1,h2,h3,At.snoc_fld h hn hv h4⟩
 | .fld f'::p,_,⟨b,C',dx',fs',m,v1,h1,h2,h3,h4,h5⟩=>⟨b,C',dx',fs',m,v1,h1,h2,h3,h4,At.snoc_fld h hn hv h5⟩
theorem yd4(e:gJ h d0 (.ix n::p)=some (r,d')):∃xs d1 d2,d0= .lst true xs/\xs[n]? =some d1/\gJ h d1 p=some (r,d2)/\d'= .lst true (xs.set n d2):=by
 unfold gJ at e
 split at e
 ·rename_i z;cases z
 ·rename_i z;cases z
  obtain⟨d1,h1,h2⟩:=bind_some e
  obtain⟨⟨r1,d2⟩,h3,h4⟩:=bind_some h2
  cases h4
  exact⟨_,_,_,rfl,h1,h3,rfl⟩
 ·rename_i z;cases z
 ·cases e
theorem zr9(e:gJ h d0 (.fld f::p)=some (r,d')):∃C ns xs n d1 d2,d0= .obj true C ns xs/\dD ns f=some n/\xs[n]? =some d1/\gJ h d1 p=some (r,d2)/\d'= .obj true C ns (xs.set n d2):=by
 unfold gJ at e
 split at e
 ·rename_i z;cases z
 ·rename_i z;cases z
 ·rename_i z;cases z
  obtain⟨n,h0,h9⟩:=bind_some e
  obtain⟨d1,h1,h2⟩:=bind_some h9
  obtain⟨⟨r1,d2⟩,h3,h4⟩:=bind_some h2
  cases h4
  exact⟨_,_,_,_,_,_,rfl,h0,h1,h3,rfl⟩
 ·cases e
theorem zg6(e:kN d0 (.ix n::p)=some d):∃xs d1,d0= .lst true xs/\xs[n]? =some d1/\kN d1 p=some d:=by
 unfold kN at e
 split at e
 ·rename_i z;cases z
 ·rename_i z;cases z
  obtain⟨d1,h1,h2⟩:=bind_some e
  exact⟨_,_,rfl,h1,h2⟩
 ·rename_i z;cases z
 ·cases e
theorem zB(e:kN d0 (.fld f::p)=some d):∃C ns xs n d1,d0= .obj true C ns xs/\dD ns f=some n/\xs[n]? =some d1/\kN d1 p=some d:=by
 unfold kN at e
 split at e
 ·rename_i z;cases z
 ·rename_i z;cases z
 ·rename_i z;cases z
  obtain⟨n,h0,h9⟩:=bind_some e
  obtain⟨d1,h1,h2⟩:=bind_some h9
  exact⟨_,_,_,_,_,rfl,h0,h1,h2⟩
 ·cases e
theorem lR:∀{d0:D},gJ h d0 p=some (r,d')->∃d dn,kN d0 p=some d/\h d=some (r,dn):=by
 induction p generalizing d' with
 |nil=>intro d0 e;rw [gJ] at e;exact⟨d0,d',by rw [kN],e⟩
 | cons s p ih=>
  intro d0 e
  cases s with
  |ix m=>
   obtain⟨xs,d1,d2,rfl,h1,h3,rfl⟩:=yd4 e
   obtain⟨d,dn,g1,g2⟩:=ih h3
   refine⟨d,dn,?_,g2⟩
   show(xs[m]?).bind _=_
   rw [h1];exact g1
  |fld f=>
   obtain⟨C,ns,xs,m,d1,d2,rfl,h0,h1,h3,rfl⟩:=zr9 e
   obtain⟨d,dn,g1,g2⟩:=ih h3
   refine⟨d,dn,?_,g2⟩
   show(dD ns f).bind _=_
   rw [h0]
   show(xs[m]?).bind _=_
   rw [h1];exact g1
section
variable{K:tz0}{κ:tz9}{H:Hp}
theorem Reps.focus:∀{vs:List V} {ds:List D} {g:List Addr} {n:Nat} {d1:D} {v1:V},Reps K κ H vs ds g->ds[n]? =some d1->vs[n]? =some v1->∃f1 bK,Rep K κ H v1 d1 f1/\g.Perm (f1++bK)/\
  ∀(H':Hp) (d':D) (f':List Addr),(∀a o,H a=some o->tf o=true->H' a=some o)->(∀a∈bK,H' a=H a)->Rep K κ H' v1 d' f'->∃g',Reps K κ H' vs (ds.set n d') g'/\g'.Perm (f'++bK)
 |_,_,_,_,_,_,.nil,e,_=>by simp at e
 |_,_,_,0,_,_,.cons (f:=f) (g:=g) h hs,e,e'=>by
  simp at e e';subst e;subst e'
  exact⟨f,g,h,.refl _,fun H' d' f' t k r=>⟨f'++g,.cons r (hs.move t k),.refl _⟩⟩
 | _,_,_,n+1,_,_,.cons (f:=f) (g:=g) h hs,e,e'=>by
  obtain⟨f1,bK,h1,h2,h3⟩:=Reps.focus (n:=n) hs (by simpa using e) (by simpa using e')
  refine⟨f1,f++bK,h1,?_,fun H' d' f' t k r=> ?_⟩
  ·refine(h2.append_left f).trans ?_
   rw [<-List.append_assoc,<-List.append_assoc]
   exact List.perm_append_comm.append_right bK
  ·obtain⟨g',r1,r2⟩:=h3 H' d' f' t (fun a ha=>k a (List.mem_append_right _ ha)) r
   refine⟨f++g',.cons (h.move t fun a ha=>k a (List.mem_append_left _ ha)) r1,?_⟩
   refine(r2.append_left f).trans ?_
   rw [<-List.append_assoc,<-List.append_assoc]
   exact List.perm_append_comm.append_right bK
theorem zk3{b:Addr}{g f1 fd bK rest1:List Addr}(k2:g.Perm (f1++rest1))(m3:f1.Perm (fd++bK)):(b::g).Perm (fd++b::(bK++rest1)):=by
 refine((k2.trans (m3.append_right rest1)).cons b).trans ?_
 rw [List.append_assoc]
 exact List.perm_middle.symm
def Foc(K:tz0)(κ:tz9)(H:Hp){α:Type}(h:D->Option (α×D))(r:α)(v v0:V)(d0':D)(fp:List Addr):Prop:=∃d d' fd bK,Rep K κ H v d fd/\h d=some (r,d')/\fp.Perm (fd++bK)/\
  ∀(H':Hp) (f':List Addr),(∀a o,H a=some o->tf o=true->H' a=some o)->(∀a∈bK,H' a=H a)->Rep K κ H' v d' f'->∃fp',Rep K κ H' v0 d0' fp'/\fp'.Perm (f'++bK)
theorem focus{α:Type}{h:D->Option (α×D)}{r:α}{p:List Ps1}:∀{v0 v:V} {d0 d0':D} {fp:List Addr},Rep K κ H v0 d0 fp->gJ h d0 p=some (r,d0')->At H v0 p v->Foc K κ H h r v v0 d0' fp:=by
 induction p with
 |nil=>
  intro v0 v d0 d0' fp R e a
  rw [gJ] at e
  cases(show v=v0 from a)
  exact⟨d0,d0',fp,[],R,e,by rw [List.append_nil],fun H' f' t k r=>⟨f',r,by rw [List.append_nil]⟩⟩
 | cons s p ih=>
  intro v0 v d0 d0' fp R e a
  have deep:∀(b:Addr) (vs:List V) (xs:List D) (n:Nat) (d1 d2:D) (v1:V) (g:List Addr),fp=b::g->Reps K κ H vs xs g->xs[n]? =some d1->vs[n]? =some v1->gJ h d1 p=some (r,d2)->At H v1 p v->(∀(H':Hp) (g2:List Addr),H' b=H b->Reps K κ H' vs (xs.set n d2) g2->Rep K κ H' v0 d0' (b::g2))->
    Foc K κ H h r v v0 d0' fp:=fun b vs xs n d1 d2 v1 g ef hs h1 e3 h3 e4 mk=>by
   subst ef
   obtain⟨f1,rest1,k1,k2,k3⟩:=hs.focus h1 e3
   obtain⟨d,d',fd,bK,m1,m2,m3,m4⟩:=ih k1 h3 e4
   refine⟨d,d',fd,b::(bK++rest1),m1,m2,zk3 k2 m3,fun H' f' t k rr=> ?_⟩
   obtain⟨g1,q1,q2⟩:=m4 H' f' t (fun a ha=>k a (List.mem_cons_of_mem _ (List.mem_append_left _ ha))) rr
   obtain⟨g2,q3,q4⟩:=k3 H' d2 g1 t (fun a ha=>k a (List.mem_cons_of_mem _ (List.mem_append_right _ ha))) q1
   exact⟨b::g2,mk H' g2 (k b List.mem_cons_self) q3,zk3 q4 q2⟩
  cases s with
  |ix n=>
   obtain⟨b,vs,v1,e1,e2,e3,e4⟩:=a
   subst e1
   obtain⟨xs,d1,d2,rfl,h1,h3,rfl⟩:=yd4 e
   obtain⟨_,_,g,e5,hb,hs,ef⟩:=R.lstT_inv
   cases e5
   rw [e2] at hb;cases hb
   exact deep b vs xs n d1 d2 v1 g ef hs h1 e3 h3 e4 fun H' g2 k q3=> .lst (k.trans e2) q3
  |fld f=>
   obtain⟨b,C,dx,fs,n,v1,e1,e2,e2',e3,e4⟩:=a
   subst e1
   obtain⟨C',ns,xs,n',d1,d2,rfl,h0,h1,h3,rfl⟩:=zr9 e
   obtain⟨_,_,_,g,e5,hb,hn,hs,ef⟩:=R.objT_inv
   cases e5
   rw [e2] at hb;cases hb
   subst hn
   rw [e2'] at h0;cases h0
   exact deep b _ xs n d1 d2 v1 g ef hs h1 e3 h3 e4 fun H' g2 k q3=> .obj (k.trans e2) rfl q3
end
theorem tW(R:RS φ H σ ps F)(s1:SameK H H1)(hb:φ.bor j=false)(e0:ps[j]? =some (some d0))(ev:σ[j]? =some (some v0))
  (em:gJ h d0 p=some (r,d0')) (at_:At H1 v0 p v):∃d d' fd,Rep φ.K φ.κ H1 v d fd/\h d=some (r,d')/\fd.Nodup/\(∀a∈fd,a∈F j)/\
  ∀(H':Hp) (fd' fr:List Addr),(∀a o,H1 a=some o->kd o=true->a∉fd->H' a=some o)->(∀a,H' a=none->H1 a=none)->Rep φ.K φ.κ H' v d' fd'->(fd'++fr).Nodup->(∀a∈fd'++fr,a∈fd\/H a=none)->
   ∃F',Stp φ σ H F σ H' (ps.set j (some d0')) F'/\OwnV F H F' fr:=by
 obtain⟨v0',fp,h1,h2,h3,_⟩:=R.rep j d0 e0
 rw [ev] at h1;cases h1
 have h3:=h3 hb
 subst h3
 obtain⟨d,d',fd,bK,m1,m2,m3,m4⟩:=focus (h2.same s1) em at_
 have ndF:=R.nd j
 have ndp:(fd++bK).Nodup:=m3.nodup_iff.mp ndF
 obtain⟨nd1,nd2,nd3⟩:=List.nodup_append.mp ndp
 have inF:∀a,a∈fd\/a∈bK->a∈F j:=fun a ha=>m3.mem_iff.mpr (List.mem_append.mpr ha)
 refine⟨d,d',fd,m1,m2,nd1,fun a ha=>inF a (.inl ha),fun H' fd' fr k1 k2 k3 k4 k5=> ?_⟩
 have tfk:∀a o,H1 a=some o->tf o=true->H' a=some o:=fun a o ha t=>k1 a o ha (nK t) fun hm=>by
  obtain⟨o',q,_,q'⟩:=m1.own a hm
  rw [ha] at q;cases q;rw [t] at q';cases q'
 have keepO:∀a,(∃i,a∈F i)->a∉fd->H' a=H1 a:=fun a ⟨i,hi⟩ hn=>by
  obtain⟨o,q,q',_⟩:=R.own hi
  have q1:=s1.keep a o q q'
  rw [q1];exact k1 a o q1 q' hn
 have notfd:∀a,a∈bK->a∉fd:=fun a hr hf=>nd3 a hf a hr rfl
 obtain⟨fp',r1,r2⟩:=m4 H' fd' tfk (fun a ha=>keepO a ⟨j,inF a (.inr ha)⟩ (notfd a ha)) k3
 obtain⟨kd1,kd2,kd3⟩:=List.nodup_append.mp k4
 have memfp:∀a,a∈fp'->a∈fd'\/a∈bK:=fun a ha=>List.mem_append.mp (r2.mem_iff.mp ha)
 have lt:j<ps.length:=(List.getElem?_eq_some_iff.mp e0).1
 have old:∀a,a∈fd'++fr->∀i,a∈F i->a∈fd:=fun a ha i hi=>(k5 a ha).elim id fun z=>by
  obtain⟨o,q,_⟩:=R.own hi
  rw [z] at q;cases q
 refine⟨tI F j fp',⟨⟨fun a o ha hk hn=> ?_,fun a ha=>s1.grow a (k2 a ha)⟩,fun i a ha=> ?_,⟨fun i d2 hi=> ?_,fun i a ha=> ?_,fun i k a ha hk=> ?_,fun i=> ?_,fun i a ha kk hB=> ?_,fun kk a hB z=>R.bt kk a hB (s1.grow a (k2 a z)),by simpa using R.len⟩,fun _ _=>rfl⟩,⟨fun a ha=> ?_,kd2,fun i a ha hr=> ?_⟩⟩
 ·exact k1 a o (s1.keep a o ha hk) hk fun hm=>hn j (inF a (.inl hm))
 ·rcases kE ha with z|z
  ·rcases memfp a z with z|z
   ·exact(k5 a (List.mem_append_left _ z)).elim (fun z=> .inl ⟨j,inF a (.inl z)⟩) .inr
   ·exact .inl ⟨j,inF a (.inr z)⟩
  ·exact .inl ⟨i,z⟩
 ·by_cases e:i=j
  ·subst e
   rw [List.getElem?_set_self lt] at hi
   cases hi
   exact⟨v0,fp',ev,r1,fun _=>fF.symm,fun z=>by rw [hb] at z;cases z⟩
  ·rw [List.getElem?_set_ne (fun z=>e z.symm)] at hi
   obtain⟨v2,f2,q1,q2,q3,q4⟩:=R.rep i d2 hi
   refine⟨v2,f2,q1,(q2.same s1).move tfk fun a ha=> ?_,fun z=>by rw [fK e];exact q3 z,q4⟩
   obtain⟨o,w1,w2,_⟩:=q2.own a ha
   have w3:=s1.keep a o w1 w2
   rw [w3]
   refine k1 a o w3 w2 fun hm=> ?_
   have hF:=inF a (.inl hm)
   cases hbi:φ.bor i with
   |true=>exact R.nb j a hF i (q4 hbi a ha)
   |false=>rw [q3 hbi] at ha;exact e (R.dis i j a ha hF)
 ·by_cases e:i=j
  ·subst e;exact⟨hb,d0',by rw [List.getElem?_set_self lt]⟩
  ·rw [fK e] at ha
   obtain⟨b1,d1,b2⟩:=R.emp i a ha
   exact⟨b1,d1,by rw [List.getElem?_set_ne (fun z=>e z.symm)];exact b2⟩
 ·have hh:∀a,a∈fp'->∀i,i≠j->a∈F i->False:=fun a ha i hij hi=>by
   rcases memfp a ha with z|z
   ·exact hij (R.dis i j a hi (inF a (.inl (old a (List.mem_append_left _ z) i hi))))
   ·exact hij (R.dis i j a hi (inF a (.inr z)))
  by_cases e1:i=j
  ·by_cases e2:k=j
   ·rw [e1,e2]
   ·subst e1;rw [fF] at ha;rw [fK e2] at hk;exact(hh a ha k e2 hk).elim
  ·by_cases e2:k=j
   ·subst e2;rw [fF] at hk;rw [fK e1] at ha;exact(hh a hk i e1 ha).elim
   ·rw [fK e1] at ha;rw [fK e2] at hk;exact R.dis i k a ha hk
 ·by_cases e:i=j
  ·subst e
   rw [fF]
   refine r2.nodup_iff.mpr (List.nodup_append.mpr ⟨kd1,nd2,fun a ha b hb' e=> ?_⟩)
   subst e
   exact notfd a hb' (old a (List.mem_append_left _ ha) i (inF a (.inr hb')))
  ·rw [fK e];exact R.nd i
 ·rcases kE ha with z|z
  ·rcases memfp a z with z|z
   ·exact R.notB ((k5 a (List.mem_append_left _ z)).elim (fun z=> .inl ⟨j,inF a (.inl z)⟩) .inr) kk hB
   ·exact R.nb j a (inF a (.inr z)) kk hB
  ·exact R.nb i a z kk hB
 ·exact(k5 a (List.mem_append_right _ ha)).elim (fun z=> .inl ⟨j,inF a (.inl z)⟩) .inr
 ·rcases kE ha with z|z
  ·rcases memfp a z with z|z
   ·exact kd3 a z a hr rfl
   ·exact notfd a z (old a (List.mem_append_right _ hr) j (inF a (.inr z)))
  ·have:=old a (List.mem_append_right _ hr) i z
   by_cases e:i=j
   ·subst e
    rw [fF] at ha
    rcases memfp a ha with w|w
    ·exact kd3 a w a hr rfl
    ·exact notfd a w this
   ·exact e (R.dis i j a z (inF a (.inl this)))
def nI(K:tz0)(κ:tz9)(j:Nat)(pf:PSt->Option (List Ps1)):TE:=fun σ H Q=>∃ps p d0 d,WS K κ H σ ps/\ps[j]? =some (some d0)/\pf ps=some p/\kN d0 p=some d/\∀v H' v0,SameK H H'->σ[j]? =some (some v0)->At H' v0 p v->Q v H'
theorem zC{K:tz0}{κ:tz9}{H:Hp}{v0 v:V}{d0 d:D}{fp:List Addr}{p:List Ps1}(R:Rep K κ H v0 d0 fp)(g:kN d0 p=some d)(a:At H v0 p v):∃fd,Rep K κ H v d fd:=by
 have key:∀{p:List Ps1} {v0 v:V} {d0 d:D} {fp:List Addr},Rep K κ H v0 d0 fp->kN d0 p=some d->At H v0 p v->∃fd,Rep K κ H v d fd:=by
  intro p
  induction p with
  |nil=>intro v0 v d0 d fp R g a;cases g;cases(show v=v0 from a);exact⟨fp,R⟩
  | cons s p ih=>
   intro v0 v d0 d fp R g a
   cases s with
   |ix n=>
    obtain⟨b,vs,v1,e1,e2,e3,e4⟩:=a
    subst e1
    obtain⟨xs,d1,rfl,h1,h2⟩:=zg6 g
    obtain⟨_,_,_,e5,hb,hs,_⟩:=R.lstT_inv
    cases e5
    rw [e2] at hb;cases hb
    obtain⟨v',f,q1,q2,_⟩:=hs.get h1
    rw [e3] at q1;cases q1
    exact ih q2 h2 e4
   |fld f=>
    obtain⟨b,C,dx,fs,n,v1,e1,e2,e2',e3,e4⟩:=a
    subst e1
    obtain⟨C',ns,xs,n',d1,rfl,h0,h1,h2⟩:=zB g
    obtain⟨_,_,_,_,e5,hb,hn,hs,_⟩:=R.objT_inv
    cases e5
    rw [e2] at hb;cases hb
    subst hn
    rw [e2'] at h0;cases h0
    obtain⟨v',f,q1,q2,_⟩:=hs.get h1
    rw [e3] at q1;cases q1
    exact ih q2 h2 e4
 exact key R g a
def bS:PSt->Option (List Ps1):=fun _=>some []
def fL(j:Nat)(pf:PSt->Option (List Ps1))(fb:tz2):PSt->Option (List Ps1):=fun ps=>(pf ps).bind fun p=>((ps[j]?).join).bind fun d0=>(kN d0 p).bind fun d=>(fb ps).bind fun y=>match d,y with
 | .lst true xs,.int i=>(ixN xs.length i).bind fun n=>some (p++[.ix n])
 |_,_=>none
def iN(j:Nat)(pf:PSt->Option (List Ps1))(C f:Str):PSt->Option (List Ps1):=fun ps=>(pf ps).bind fun p=>((ps[j]?).join).bind fun d0=>(kN d0 p).bind fun d=>match d with
 | .obj true C' _ _=>if C'=C then some (p++[.fld f]) else none
 |_=>none
theorem rE:∀{fs:List (Str×V)} {f:Str} {n:Nat} {v:V},dD (fs.map (·.1)) f=some n->(fs.map (·.2))[n]? =some v->fs.lookup f=some v
 |[],_,_,_,h,_=>by cases h
 | (g,u)::fs,f,n,v,h,hv=>by
  rw [List.map_cons,dD] at h
  by_cases e:g=f
  ·rw [if_pos e] at h
   cases h
   rw [List.lookup_cons]
   have:(f==g)=true:=by simp [e]
   rw [this]
   simpa using hv
  ·rw [if_neg e] at h
   cases q:dD (fs.map (·.1)) f with
   |none=>rw [q] at h;cases h
   |some m=>
    rw [q] at h;cases h
    rw [List.lookup_cons]
    have:(f==g)=false:=by simp;exact fun z=>e z.symm
    rw [this]
    exact rE q (by simpa using hv)
section
variable{X:Cx}{φ:F0}{κ:tz9}{K:tz0}{o e a b:Expr}{f fb fe:tz2}{g:tz3}{pf:PSt->Option (List Ps1)}{j:Nat}{pos apos:Pos}
theorem cD(j:Nat){x:Str}(hN:X.N[j]? =some x:=by rfl)(hv:Vis X.env.scope x:=by first|exact Or.inl rfl|exact Or.inr (Or.inl rfl)|exact Or.inr (Or.inr rfl))(hd:(x==("__debug__":Str))=false:=by decide)
  (hcd:(x==("__classdict__":Str))=false:=by decide):PE X (.Name x pos) (nI K κ j bS):=(iP hN hv hd hcd).imp fun σ H Q hh_=>by
 obtain⟨ps,p,d0,d,w,e0,ep,eg,q⟩:=hh_
 cases ep
 obtain⟨v,fp,h1,h2⟩:=w j d0 e0
 exact⟨v,h1,q v H v (.refl H) h1 rfl⟩
theorem iC(ha:PE X a (nI X.K κ j pf))(hb:QV X κ b fb)(hs:yJ b:=by exact fun _ _=>rfl):PE X (.Subscript a b pos) (nI X.K κ j (fL j pf fb)):=
 (zo4 zg0 ha hb hs).imp fun σ H Q hh_=>by
  obtain⟨ps,p,d0,d,w,e0,ep,eg,q⟩:=hh_
  obtain⟨p1,e1,e2⟩:=bind_some ep
  obtain⟨d0',e3,e4⟩:=bind_some e2
  have:=join_some e3
  rw [e0] at this;cases this
  obtain⟨d1,e5,e6⟩:=bind_some e4
  obtain⟨y,e7,e8⟩:=bind_some e6
  split at e8
  ·rename_i xs i
   obtain⟨n,e9,e10⟩:=bind_some e8
   cases e10
   refine⟨ps,p1,d0,_,w,e0,e1,e5,fun v H1 v0 s1 ev a1=>⟨ps,_,w.same s1,e7,fun u H2 fq s2 r2=> ?_⟩⟩
   obtain⟨v0',fp,h1,h2⟩:=w j d0 e0
   rw [ev] at h1;cases h1
   obtain⟨fd,rd⟩:=zC (h2.same (s1.trans s2)) e5 (a1.same s2)
   obtain⟨l,vs,g,rfl,hl,hr,_⟩:=rd.lstT_inv
   have ln:=hr.length
   have hn:=(xU e9).2.1
   obtain⟨v1,hv⟩:∃v1,vs[n]? =some v1:=⟨_,List.getElem?_eq_getElem (by rw [ln];exact hn)⟩
   refine⟨l,vs,i,v1,rfl,r2.is_int,.inl (.inl hl),?_,q _ H2 v0 (s1.trans s2) ev (At.snoc_ix hl hv (a1.same s2))⟩
   unfold atI
   rw [ln,e9];exact hv
  ·cases e8
theorem jZ{C fn:Str}(hc:Cls X.K (κ C))(hna:cY X.K (κ C) fn)(ha:PE X a (nI X.K κ j pf))(hb:attributeBase a fn X.env (eval a X.env)=eval a X.env:=by rfl):PE X (.Attribute a fn pos) (nI X.K κ j (iN j pf C fn)):=
 (xr2 ha hb).imp fun σ H Q hh_=>by
  obtain⟨ps,p,d0,d,w,e0,ep,eg,q⟩:=hh_
  obtain⟨p1,e1,e2⟩:=bind_some ep
  obtain⟨d0',e3,e4⟩:=bind_some e2
  have:=join_some e3
  rw [e0] at this;cases this
  obtain⟨d1,e5,e6⟩:=bind_some e4
  split at e6
  ·rename_i C' ns xs
   obtain⟨hC,e7⟩:=bV e6
   subst hC
   cases e7
   refine⟨ps,p1,d0,_,w,e0,e1,e5,fun v H1 v0 s1 ev a1=> ?_⟩
   obtain⟨v0',fp,h1,h2⟩:=w j d0 e0
   rw [ev] at h1;cases h1
   obtain⟨fd,rd⟩:=zC (h2.same s1) e5 a1
   have key:∀{p:List Ps1} {d0:D},kN d0 p=some (.obj true C' ns xs)->kN d0 (p++[.fld fn])=some d->∃n d',dD ns fn=some n/\xs[n]? =some d':=by
    intro p
    induction p with
    |nil=>
     intro d0 h1 h2
     cases h1
     obtain⟨n,k1,k2⟩:=bind_some h2
     obtain⟨d',k3,_⟩:=bind_some k2
     exact⟨n,d',k1,k3⟩
    | cons s p ih=>
     intro d0 h1 h2
     cases s with
     |ix m=>
      obtain⟨ys,x1,rfl,k1,k2⟩:=zg6 h1
      obtain⟨_,x2,z,k3,k4⟩:=zg6 h2
      cases z
      rw [k1] at k3;cases k3
      exact ih k2 k4
     |fld f'=>
      obtain⟨C2,ns2,ys,m1,x1,rfl,k0,k1,k2⟩:=zB h1
      obtain⟨_,_,_,m2,x2,z,k5,k3,k4⟩:=zB h2
      cases z
      rw [k0] at k5;cases k5
      rw [k1] at k3;cases k3
      exact ih k2 k4
   obtain⟨n,d',k1,k2⟩:=key e5 eg
   obtain⟨l,dx,fs,g,rfl,hl,hn,hr,_⟩:=rd.objT_inv
   subst hn
   obtain⟨v1,f1,k3,_⟩:=hr.get k2
   exact⟨l,κ C',dx,fs,v1,rfl,hl,hc,hna,rE k1 k3,q _ H1 v0 s1 ev (At.snoc_fld hl k1 k3 a1)⟩
  ·cases e6
def dG(j:Nat)(pf:PSt->Option (List Ps1))(g:tz3)(h:List D->D->Option (D×D)):tz8:=fun ps=>((ps[j]?).join).bind fun d0=>(pf ps).bind fun p=>(g ps).bind fun ys=>(gJ (h ys) d0 p).bind fun r=>some (r.1,ps.set j (some r.2))
theorem sH(e:dG j pf g h ps=some (d,ps')):∃d0 p ys d0',ps[j]? =some (some d0)/\pf ps=some p/\g ps=some ys/\gJ (h ys) d0 p=some (d,d0')/\ps'=ps.set j (some d0'):=by
 obtain⟨d0,e1,e2⟩:=bind_some e
 obtain⟨p,e3,e4⟩:=bind_some e2
 obtain⟨ys,e5,e6⟩:=bind_some e4
 obtain⟨⟨r,d0'⟩,e7,e8⟩:=bind_some e6
 cases e8
 exact⟨d0,p,ys,d0',join_some e1,e3,e5,e7,rfl⟩
def cK:List D->D->Option (D×D)
 |[y],.lst true xs=>if xs.length<sizeLine then some (.non,.lst true (xs++[y])) else none
 |_,_=>none
theorem wS(h:cK ys d=some (r,d')):∃y xs,ys=[y]/\d= .lst true xs/\xs.length<sizeLine/\r= .non/\d'= .lst true (xs++[y]):=by
 unfold cK at h
 split at h
 ·obtain⟨hc,e⟩:=bV h
  cases e
  exact⟨_,_,rfl,rfl,hc,rfl,rfl⟩
 ·cases h
theorem xW(w:WS K κ H σ ps)(s1:SameK H H1)(e0:ps[j]? =some (some d0))(ev:σ[j]? =some (some v0))(g:kN d0 p=some d)(a:At H1 v0 p v):∃fd,Rep K κ H1 v d fd:=by
 obtain⟨v0',fp,h1,h2⟩:=w j d0 e0
 rw [ev] at h1;cases h1
 exact zC (h2.same s1) g a
theorem fG(hb:φ.bor j=false)(ho:PE X o (nI X.K κ j pf))(ha:PA X [e] (tPA X.K κ g))
  (hbase:attributeBase o "append" X.env (eval o X.env)=eval o X.env:=by rfl)
  (hfew:((backTo pos (starEach [e] X.env)).all (fun x=> !x.1)&&(backToKw pos (keywordEach [] X.env)).all (fun x=>x.1.isSome)
   &&decide ([e].length+([]:List Keyword).length+(if ([]:List Keyword).isEmpty then 0 else 1)<30))=true:=by rfl)
  (hline:(apos.endLine==pos.line)=true:=by rfl) (hs:starEach [e] X.env=(false,eval e X.env)::starEach [] X.env:=by rfl) (hplain:(backTo pos (starEach [] X.env)).any (·.1)=false:=by rfl):
  QE X κ φ (.Call (.Attribute o "append" apos) [e] [] pos) (dG j pf g cK):=
 (xg9 PySem.F.plainAttrs_list PySem.F.slot_list_append PySem.F.type_list_append zj4 ho ha hbase hfew hline hs hplain).imp fun σ H Q hh_=>by
  obtain⟨ps,F,d,ps',R,e,q⟩:=hh_
  obtain⟨d0,p,ys,d0',e0,ep,eg,em,rfl⟩:=sH e
  obtain⟨dd,dn,gp,hh⟩:=lR em
  refine⟨ps,p,d0,dd,R.ws,e0,ep,gp,fun v H1 v0 s1 ev a1=>⟨?_,ps,ys,R.ws.same s1,eg,fun vs H2 fy s2 n2 nd2 r2=> ?_⟩⟩
  ·obtain⟨y,xs,rfl,rfl,_⟩:=wS hh
   obtain⟨fd,rd⟩:=xW R.ws s1 e0 ev gp a1
   obtain⟨_,_,_,rfl,hl,hr,rfl⟩:=rd.lstT_inv
   exact .inl ⟨rfl,_,.inl (.inl hl)⟩
  ·obtain⟨d1,d1',fd,m1,m2,m3,m4,m5⟩:=tW R (s1.trans s2) hb e0 ev em (a1.same s2)
   obtain⟨y,xs,rfl,rfl,hz,rfl,rfl⟩:=wS m2
   obtain⟨u,rfl,ru⟩:=r2.one_inv
   obtain⟨l,us,g1,rfl,hl,hr,rfl⟩:=m1.lstT_inv
   have ln:=hr.length
   refine⟨l,us,u,rfl,rfl,hl,by omega,?_⟩
   have nl:l∉fy:=fun z=>by have:=n2 l z;have:=s1.keep l;obtain⟨o,h1,h2,_⟩:=R.own (m4 l List.mem_cons_self);have:=s1.keep l o h1 h2;rw [n2 l z] at this;cases this
   obtain⟨nl2,nd3⟩:=List.nodup_cons.mp m3
   have up:∀a,a≠l->upd H2 l (.lst (us++[u])) a=H2 a:=fun a h=>cI h
   have tfk:∀a o,H2 a=some o->tf o=true->upd H2 l (.lst (us++[u])) a=some o:=fun a o h t=>by
    rw [up a]
    ·exact h
    ·rintro rfl;rw [hl] at h;cases h;cases t
   obtain⟨F',st,ow⟩:=m5 (upd H2 l (.lst (us++[u]))) (l::(g1++fy)) [] (fun a o h _ hn=>by rw [up a (fun z=>hn (z▸List.mem_cons_self))];exact h)
    (fun a h=>by
     by_cases z:a=l
     ·subst z;rw [dA] at h;cases h
     ·rw [up a z] at h;exact h)
    (.lst dA (Reps.append (hr.move tfk fun a ha=>up a fun z=>nl2 (z▸ha)) (Reps.one (ru.move tfk fun a ha=>up a fun z=>nl (z▸ha)))))
    (by
     rw [List.append_nil,List.nodup_cons,List.nodup_append]
     refine⟨fun z=>(List.mem_append.mp z).elim nl2 nl,nd3,nd2,fun a ha b hb e=> ?_⟩
     subst e
     obtain⟨o,h1,h2,_⟩:=R.own (m4 a (List.mem_cons_of_mem _ ha))
     have:=s1.keep a o h1 h2
     rw [n2 a hb] at this;cases this)
    (fun a ha=>by
     rw [List.append_nil] at ha
     rcases List.mem_cons.mp ha with z|z
     ·exact .inl (z▸List.mem_cons_self)
     ·rcases List.mem_append.mp z with z|z
      ·exact .inl (List.mem_cons_of_mem _ z)
      ·exact .inr (s1.grow a (n2 a z)))
   exact q .non _ F' [] st ow .non
end
section
variable{K:tz0}{κ:tz9}{H:Hp}{l:Addr}{o0 o:HO}
theorem ys4(hl:H l=some o0)(ht:tf o0=false):∀a u,H a=some u->tf u=true->upd H l o a=some u:=fun a u h t=>by
 rw [cI]
 ·exact h
 ·rintro rfl;rw [hl] at h;cases h;rw [ht] at t;cases t
theorem Rep.updL(r:Rep K κ H v d g)(hl:H l=some o0)(ht:tf o0=false)(n:l∉g):Rep K κ (upd H l o) v d g:=r.move (ys4 hl ht) fun a ha=>cI fun z=>n (z▸ha)
theorem Reps.updL(r:Reps K κ H v d g)(hl:H l=some o0)(ht:tf o0=false)(n:l∉g):Reps K κ (upd H l o) v d g:=r.move (ys4 hl ht) fun a ha=>cI fun z=>n (z▸ha)
theorem zD(h:H a=some u)(n:a∉l::g):upd H l o a=some u:=by
 rw [cI (fun z=>n (by rw [z];exact List.mem_cons_self))];exact h
theorem uV(h:upd H l o a=none):H a=none:=by
 by_cases z:a=l
 ·subst z;rw [dA] at h;cases h
 ·rw [cI z] at h;exact h
theorem Reps.pop:∀{vs:List V} {ds:List D} {g:List Addr} {d:D},Reps K κ H vs ds g->ds[ds.length-1]? =some d->∃v g1 f,vs[vs.length-1]? =some v/\Rep K κ H v d f/\Reps K κ H vs.dropLast ds.dropLast g1/\g=g1++f
 |_,_,_,_,.nil,e=>by simp at e
 |_,[d1],_,d,.cons (f:=f) h .nil,e=>by
  have e':d1=d:=by simpa using e
  subst e'
  exact⟨_,[],f,by simp,h,.nil,by simp⟩
 |v::v2::vs,d1::d2::ds,_,d,.cons (f:=f) h (.cons (f:=f2) (g:=g2) h2 hs),e=>by
  obtain⟨w,g1,f',k1,k2,k3,k4⟩:=Reps.pop (.cons h2 hs) (d:=d) (by simpa using e)
  refine⟨w,f++g1,f',by simpa using k1,k2,?_,by rw [List.append_assoc,<-k4]⟩
  rw [List.dropLast_cons₂,List.dropLast_cons₂]
  exact .cons h k3
theorem Reps.setV:∀{vs:List V} {ds:List D} {g:List Addr} {n:Nat} {v':V} {d':D} {f':List Addr},Reps K κ H vs ds g->n<ds.length->Rep K κ H v' d' f'->∃f1 bK g',g.Perm (f1++bK)/\Reps K κ H (vs.set n v') (ds.set n d') g'/\g'.Perm (f'++bK)
 |_,_,_,_,_,_,_,.nil,e,_=>by simp at e
 |_,_,_,0,_,_,f',.cons (f:=f) (g:=g) h hs,_,r=>⟨f,g,f'++g,.refl _,.cons r hs,.refl _⟩
 | _,_,_,n+1,_,_,f',.cons (f:=f) (g:=g) h hs,e,r=>by
  obtain⟨f1,bK,g',h1,h2,h3⟩:=Reps.setV (n:=n) hs (by simpa using e) r
  refine⟨f1,f++bK,f++g',?_,.cons h h2,?_⟩
  ·refine(h1.append_left f).trans ?_
   rw [<-List.append_assoc,<-List.append_assoc]
   exact List.perm_append_comm.append_right bK
  ·refine(h3.append_left f).trans ?_
   rw [<-List.append_assoc,<-List.append_assoc]
   exact List.perm_append_comm.append_right bK
end
section
variable{X:Cx}{φ:F0}{κ:tz9}{K:tz0}{o e a b:Expr}{f fi fe:tz2}{g:tz3}{pf:PSt->Option (List Ps1)}{j:Nat}{pos apos:Pos}
def qK:List D->D->Option (D×D)
 |[],.lst true xs=>(xs[xs.length-1]?).bind fun y=>some (y,.lst true xs.dropLast)
 |_,_=>none
theorem zk4(h:qK ys d=some (r,d')):∃xs,ys=[]/\d= .lst true xs/\xs[xs.length-1]? =some r/\d'= .lst true xs.dropLast:=by
 unfold qK at h
 split at h
 ·obtain⟨y,h1,h2⟩:=bind_some h
  cases h2
  exact⟨_,rfl,rfl,h1,rfl⟩
 ·cases h
theorem zs0(hb:φ.bor j=false)(ho:PE X o (nI X.K κ j pf))
  (hbase:attributeBase o "pop" X.env (eval o X.env)=eval o X.env:=by rfl) (hline:(apos.endLine==pos.line)=true:=by rfl):QE X κ φ (.Call (.Attribute o "pop" apos) [] [] pos) (dG j pf aD qK):=
 (xr8 PySem.F.plainAttrs_list PySem.F.slot_list_pop PySem.F.type_list_pop xr9 ho hbase hline).imp fun σ H Q hh_=>by
  obtain⟨ps,F,d,ps',R,e,q⟩:=hh_
  obtain⟨d0,p,ys,d0',e0,ep,eg,em,rfl⟩:=sH e
  cases eg
  obtain⟨dd,dn,gp,hh⟩:=lR em
  refine⟨ps,p,d0,dd,R.ws,e0,ep,gp,fun v H1 v0 s1 ev a1=>⟨?_,?_⟩⟩
  ·obtain⟨xs,_,rfl,_⟩:=zk4 hh
   obtain⟨fd,rd⟩:=xW R.ws s1 e0 ev gp a1
   obtain⟨_,_,_,rfl,hl,hr,rfl⟩:=rd.lstT_inv
   exact .inl ⟨rfl,_,.inl (.inl hl)⟩
  ·obtain⟨d1,d1',fd,m1,m2,m3,m4,m5⟩:=tW R s1 hb e0 ev em a1
   obtain⟨xs,_,rfl,hx,rfl⟩:=zk4 m2
   obtain⟨l,us,g1,rfl,hl,hr,rfl⟩:=m1.lstT_inv
   obtain⟨u,g2,f2,k1,k2,k3,rfl⟩:=hr.pop hx
   obtain⟨nl,nd3⟩:=List.nodup_cons.mp m3
   have n1:l∉g2:=fun z=>nl (List.mem_append_left _ z)
   have n2:l∉f2:=fun z=>nl (List.mem_append_right _ z)
   refine⟨l,us,u,rfl,rfl,hl,k1,?_⟩
   obtain⟨F',st,ow⟩:=m5 (upd H1 l (.lst us.dropLast)) (l::g2) f2 (fun a o h _ hn=>zD h hn)
    (fun a h=>uV h)
    (.lst dA (k3.updL hl rfl n1)) (by rw [List.cons_append,List.nodup_cons];exact⟨nl,nd3⟩) (fun a ha=> .inl ha)
   exact q u _ F' f2 st ow (k2.updL hl rfl n2)
def cS:D->D->D->Option (Unit×D)
 | .int i,y,.lst true xs=>(ixN xs.length i).bind fun n=>some ((),.lst true (xs.set n y))
 |_,_,_=>none
def cQ(j:Nat)(pf:PSt->Option (List Ps1))(fi fe:tz2):tz1:=fun ps=>(fe ps).bind fun y=>((ps[j]?).join).bind fun d0=>(pf ps).bind fun p=>(fi ps).bind fun i=>(gJ (cS i y) d0 p).bind fun r=>some (.nx,ps.set j (some r.2))
theorem ya3(h:cS i y d=some (r,d')):∃k xs n,i= .int k/\d= .lst true xs/\ixN xs.length k=some n/\d'= .lst true (xs.set n y):=by
 unfold cS at h
 split at h
 ·obtain⟨n,h1,h2⟩:=bind_some h
  cases h2
  exact⟨_,_,n,rfl,rfl,h1,rfl⟩
 ·cases h
theorem zs1(hb:φ.bor j=false)(he:PE X e (tP X.K κ fe))(ho:PE X o (nI X.K κ j pf))(hi:PE X i (tV X.K κ fi))(hs:swapsWithSole [.Subscript o i apos] e pos.line X.env=pure false:=by rfl)(hw:swappedStores [.Subscript o i apos] e X.env=pure none:=by rfl)
  (h1:(assignEach [.Subscript o i apos] X.env).map (·.2)=[assign (.Subscript o i apos) X.env]:=by rfl)
  (ha:∀v,assign (.Subscript o i apos) X.env v=(do
   let ov<-holding [v] (eval o X.env)
   let iv<-holding [v,ov] (eval i X.env)
   standAt apos
   holding [v,ov,iv] (setItem ov iv v)
   release [v,ov,iv] []):=by intro _;rfl):QS X κ φ (.Assign [.Subscript o i apos] e pos) (cQ j pf fi fe):=
 (yo8 he (xq6 ho hi yz5 ha) hs hw h1).imp fun E σ H hh_=>by
  obtain⟨ps,F,fl,ps',R,e,q⟩:=hh_
  obtain⟨y,e1,e2⟩:=bind_some e
  obtain⟨d0,e3,e4⟩:=bind_some e2
  have e0:=join_some e3
  obtain⟨p,e5,e6⟩:=bind_some e4
  obtain⟨iv,e7,e8⟩:=bind_some e6
  obtain⟨⟨r,d0'⟩,em,e9⟩:=bind_some e8
  cases e9
  obtain⟨dd,dn,gp,hh⟩:=lR em
  refine⟨ps,y,R.ws,e1,fun v H1 fy s1 n1 nd1 ry=>⟨ps,p,d0,dd,R.ws.same s1,e0,e5,gp,fun lv H2 v0 s2 ev a2=>⟨ps,iv,(R.ws.same s1).same s2,e7,fun u H3 fu s3 r3=> ?_⟩⟩⟩
  have s13:=(s1.trans s2).trans s3
  obtain⟨d1,d1',fd,m1,m2,m3,m4,m5⟩:=tW R s13 hb e0 ev em (a2.same s3)
  obtain⟨k,xs,n,rfl,rfl,hn,rfl⟩:=ya3 m2
  obtain⟨l,us,g1,rfl,hl,hr,rfl⟩:=m1.lstT_inv
  have ln:=hr.length
  have ry3:=(ry.same s2).same s3
  obtain⟨nl,nd3⟩:=List.nodup_cons.mp m3
  have own0:∀a∈l::g1,H a≠none:=fun a ha z=>by obtain⟨o,h,_⟩:=R.own (m4 a ha);rw [z] at h;cases h
  have nl2:l∉fy:=fun z=>own0 l List.mem_cons_self (n1 l z)
  obtain⟨f1,bK,g2,k1,k2,k3⟩:=hr.setV (n:=n) (xU hn).2.1 ry3
  have mem2:∀a∈g2,a∈fy\/a∈g1:=fun a ha=>(List.mem_append.mp (k3.mem_iff.mp ha)).elim .inl fun z=> .inr (k1.mem_iff.mpr (List.mem_append_right _ z))
  have n2:l∉g2:=fun z=>(mem2 l z).elim nl2 nl
  refine⟨l,us,k,n,rfl,r3.is_int,hl,by rw [ln];exact hn,?_⟩
  obtain⟨F',st,ow⟩:=m5 (upd H3 l (.lst (us.set n v))) (l::g2) [] (fun a o h _ hn=>zD h hn)
   (fun a h=>uV h)
   (.lst dA (k2.updL hl rfl n2))
   (by
    rw [List.append_nil,List.nodup_cons]
    refine⟨n2,k3.nodup_iff.mpr (List.nodup_append.mpr ⟨nd1,?_,fun a ha b hb e=> ?_⟩)⟩
    ·exact(List.nodup_append.mp (k1.nodup_iff.mp nd3)).2.1
    ·subst e
     exact own0 a (List.mem_cons_of_mem _ (k1.mem_iff.mpr (List.mem_append_right _ hb))) (n1 a ha))
   (fun a ha=>by
    rw [List.append_nil] at ha
    rcases List.mem_cons.mp ha with z|z
    ·exact .inl (by rw [z];exact List.mem_cons_self)
    ·exact(mem2 a z).elim (fun z=> .inr (n1 a z)) fun z=> .inl (List.mem_cons_of_mem _ z))
  exact q _ _ F' st
end
section
variable{φ:Fx}{H H1:Hp}{σ σ1:St}{ps ps1:PSt}{F F1:Nat->List Addr}
theorem Stp.set'(s1:Stp φ σ H F σ1 H1 ps1 F1)(o:OwnV F H F1 fv)(R:RS φ H σ ps F)(r:Rep φ.K φ.κ H1 v d fv)(hb:φ.bor i=false\/fv=[])(hm:φ.M i=false):
  ∃F',Stp φ σ H F (σ1.set i (some v)) H1 (ps1.set i (some d)) F'/\∀k a,a∈F' k->a∈fv\/a∈F1 k:=by
 refine⟨_,⟨s1.fr,fun j a h=> ?_,s1.rs.set r hb (fun j _=>o.dis j) o.nd fun a ha=>R.notB (o.nw a ha),fun j h=> ?_⟩,fun k a h=> ?_⟩
 ·rcases kE h with z|z
  ·by_cases k:i<ps1.length
   ·rw [if_pos k] at z;exact o.nw a z
   ·rw [if_neg k] at z;exact absurd z (by simp)
  ·exact s1.nw j a z
 ·rw [List.getElem?_set_ne (fun z=>by subst z;rw [hm] at h;cases h)]
  exact s1.msk j h
 ·rcases kE h with z|z
  ·by_cases k:i<ps1.length
   ·rw [if_pos k] at z;exact .inl z
   ·rw [if_neg k] at z;exact absurd z (by simp)
  ·exact .inr z
def setN:St->List Nat->List V->St
 |σ,i::is,v::vs=>setN (σ.set i (some v)) is vs
 |σ,_,_=>σ
def vQ:PSt->List Nat->List D->PSt
 |ps,i::is,d::ds=>vQ (ps.set i (some d)) is ds
 |ps,_,_=>ps
def zy7:List Nat->TGs
 |[]=>xx7
 |i::is=>xi0 (sQ i) (zy7 is)
theorem wT:∀{is:List Nat} {vs:List V} {σ:St},vs.length=is.length->Q (setN σ is vs) H->zy7 is vs σ H Q
 |[],[],σ,_,q=>⟨rfl,q⟩
 |i::is,v::vs,σ,h,q=>⟨v,vs,rfl,wT (is:=is) (by simpa using h) q⟩
 |[],_::_,_,h,_=>by simp at h
 |_::_,[],_,h,_=>by simp at h
theorem Stp.setN(R:RS φ H σ ps F):∀{is:List Nat} {vs:List V} {ds:List D} {g:List Addr} {σ1:St} {ps1:PSt} {F1:Nat->List Addr},Stp φ σ H F σ1 H1 ps1 F1->OwnV F H F1 g->Reps φ.K φ.κ H1 vs ds g->(∀i∈is,φ.bor i=false/\φ.M i=false)->
  ∃F',Stp φ σ H F (L2.setN σ1 is vs) H1 (vQ ps1 is ds) F':=by
 intro is
 induction is with
 |nil=>intro vs ds g σ1 ps1 F1 s _ _ _;exact⟨F1,by simpa [L2.setN,vQ] using s⟩
 | cons i is ih=>
  intro vs ds g σ1 ps1 F1 s o r hi
  cases ds with
  |nil=>cases r;exact⟨F1,by simpa [L2.setN,vQ] using s⟩
  |cons d ds=>
   obtain⟨v,us,f,g',rfl,h,hs,rfl⟩:=r.split
   obtain⟨nd1,nd2,nd3⟩:=List.nodup_append.mp o.nd
   obtain⟨F2,s2,hF⟩:=s.set' (i:=i) (fv:=f) ⟨fun a ha=>o.nw a (List.mem_append_left _ ha),nd1,fun k a ha hf=>o.dis k a ha (List.mem_append_left _ hf)⟩ R h (.inl (hi i List.mem_cons_self).1) (hi i List.mem_cons_self).2
   refine ih s2 ⟨fun a ha=>o.nw a (List.mem_append_right _ ha),nd2,fun k a ha hg=> ?_⟩ hs fun k hk=>hi k (List.mem_cons_of_mem _ hk)
   rcases hF k a ha with z|z
   ·exact nd3 a z a hg rfl
   ·exact o.dis k a z (List.mem_append_right _ hg)
end
def zy8:D->Option (List D)
 | .lst _ ds=>some ds
 | .tup ds=>some ds
 |_=>none
def xK(is:List Nat)(f:tz8):tz1:=fun ps=>(f ps).bind fun r=>(zy8 r.1).bind fun ds=>if ds.length=is.length then some (.nx,vQ r.2 is ds) else none
section
variable{X:Cx}{κ:tz9}{φ:F0}{es:List Expr}{pos p:Pos}{k:Nat}{is:List Nat}{e:Expr}{f:tz8}
theorem xt3(hc:X.calm=true)(h:PGs X es t)
  (hn:(assignEach es X.env).length=n:=by rfl) (hst:(assignEach es X.env).findIdx? (·.1)=none:=by rfl):PG X (.Tuple es k pos) (fun v σ H Q=>xz1 X.K n t v σ H Q\/xx8 X.K n t v σ H Q):=⟨by
 intro pins s σ H v u Q I r hw
 rcases hw with hw|hw
 ·exact xs6 hc h hn hst pins s σ H v u Q I r hw
 ·exact xq5 hc h hn hst pins s σ H v u Q I r hw⟩
theorem ys5(hc:X.calm=true)(hg:PGs X es (zy7 is))(he:QE X κ φ e f)(hb:∀i∈is,φ.bor i=false/\φ.M i=false)(hn:(assignEach es X.env).length=is.length:=by rfl)(hst:(assignEach es X.env).findIdx? (·.1)=none:=by rfl)
  (hs:swapsWithSole [.Tuple es k p] e pos.line X.env=pure false:=by rfl) (hw:swappedStores [.Tuple es k p] e X.env=pure none:=by rfl)
  (h1:(assignEach [.Tuple es k p] X.env).map (·.2)=[assign (.Tuple es k p) X.env]:=by rfl):QS X κ φ (.Assign [.Tuple es k p] e pos) (xK is f):=
 (yo8 he (xt3 (n:=is.length) hc hg hn hst) hs hw h1).imp fun E σ H hh_=>by
  obtain⟨ps,F,fl,ps',R,e,q⟩:=hh_
  obtain⟨⟨d,ps1⟩,e1,e2⟩:=bind_some e
  obtain⟨ds,e3,e4⟩:=bind_some e2
  obtain⟨hl,e5⟩:=bV e4
  cases e5
  refine⟨ps,F,d,ps1,R,e1,fun v H' F' fv s o r=> ?_⟩
  cases d with
  |lst ow xs=>
   cases e3
   obtain⟨a,vs,g,rfl,h,hs,sub⟩:=r.lst_inv
   have ln:=hs.length
   obtain⟨F2,s2⟩:=Stp.setN R s ⟨fun a ha=>o.nw a (sub.subset ha),o.nd.sublist sub,fun k a ha hg=>o.dis k a ha (sub.subset hg)⟩ hs hb
   exact .inl ⟨a,vs,rfl,.inl h,by omega,wT (by omega) (q _ _ F2 s2)⟩
  |tup xs=>
   cases e3
   obtain⟨a,vs,rfl,h,hs⟩:=r.tup_inv
   have ln:=hs.length
   obtain⟨F2,s2⟩:=Stp.setN R s ⟨fun a ha=>absurd ha (by simp),List.nodup_nil,fun k a ha hg=>absurd hg (by simp)⟩ hs hb
   exact .inr ⟨a,vs,rfl,h,by omega,wT (by omega) (q _ _ F2 s2)⟩
  |_=>cases e3
end
def D.key:D->Option Key
 | .int i=>some (.inl i)
 | .str x=>some (.inr x)
 |_=>none
theorem zg7{K:tz0}{κ:tz9}{H:Hp}{v:V}{d:D}{fp:List Addr}{k:Key}(r:Rep K κ H v d fp)(h:d.key=some k):v=kV k:=by
 cases r<;>first|(cases h;rfl)|cases h
def zU:List Key->List D->Key->Option D
 |k::ks,d::ds,j=>if k=j then some d else zU ks ds j
 |_,_,_=>none
def rX:D->D->Option D
 | .dic _ ks ds,y=>y.key.bind fun k=>zU ks ds k
 |_,_=>none
theorem zE{K:tz0}{κ:tz9}{H:Hp}:∀{kvs:List (Key×V)} {ks:List Key} {ds:List D} {g:List Addr} {k:Key} {d:D},kvs.map (·.1)=ks->Reps K κ H (kvs.map (·.2)) ds g->zU ks ds k=some d->∃v f,lE kvs k=some v/\Rep K κ H v d f/\f.Sublist g
 |[],_,_,_,_,_,e,r,h=>by subst e;cases r;cases h
 | (k0,v0)::kvs,_,_,_,k,d,e,.cons (f:=f) (g:=g) h hs,q=>by
  subst e
  rw [List.map_cons,zU] at q
  by_cases z:k0=k
  ·rw [if_pos z] at q
   cases q
   exact⟨v0,f,uM z,h,List.sublist_append_left _ _⟩
  ·rw [if_neg z] at q
   obtain⟨v,f',q1,q2,q3⟩:=zE rfl hs q
   exact⟨v,f',by rw [uN z];exact q1,q2,q3.trans (List.sublist_append_right _ _)⟩
theorem Rep.dic_inv{K:tz0}{κ:tz9}{H:Hp}{v:V}{o:Bool}{ks:List Key}{ds:List D}{fp:List Addr}(r:Rep K κ H v (.dic o ks ds) fp):∃a kvs g,v= .ref a/\Rd H a (.dK kvs)/\kvs.map (·.1)=ks/\Reps K κ H (kvs.map (·.2)) ds g/\g.Sublist fp:=by
 cases r with
 |dic h e hs=>exact⟨_,_,_,rfl,.inl h,e,hs,List.sublist_cons_self _ _⟩
 |dicF h e hs=>exact⟨_,_,_,rfl,.inr ⟨_,h⟩,e,hs,.refl _⟩
section
variable{X:Cx}{κ:tz9}{a b:Expr}{fa fb:tz2}{pos:Pos}
theorem xl7{K:tz0}{H:Hp}{x y:V}{dx dy d:D}{fx fy:List Addr}{Q:VK}(r1:Rep K κ H x dx fx)(r2:Rep K κ H y dy fy)(e:rX dx dy=some d)(q:∀v f,Rep K κ H v d f->f.Sublist fx->Q v H):∃a v,x= .ref a/\yn6 H a y (some v)/\Q v H:=by
 cases dx with
 |dic o ks ds=>
  obtain⟨k,e1,e2⟩:=bind_some e
  obtain⟨a,kvs,g,rfl,h,hk,hs,sub⟩:=r1.dic_inv
  obtain⟨v,f,q1,q2,q3⟩:=zE hk hs e2
  exact⟨a,v,rfl,.inl ⟨kvs,k,h,zg7 r2 e1,q1.symm⟩,q v f q2 (q3.trans sub)⟩
 |_=>cases e
theorem xl8(hu:X.A.units+1<cLine)(ha:QP X κ a fa)(hb:QV X κ b fb)(hs:zy3 b:=by exact fun _ _=>rfl):QP X κ (.Subscript a b pos) (f2 rX fa fb):=
 (xk7 hu ha hb hs).imp fun σ H Q hh_=>by
  obtain⟨ps,d,w,e,q⟩:=hh_
  obtain⟨x,y,e1,e2,e3⟩:=tT e
  exact⟨ps,x,w,e1,fun v H1 fv s1 n1 nd1 r1=>⟨ps,y,w.same s1,e2,fun u H2 fq s2 r2=>xl7 (r1.same s2) r2 e3 fun v f r sub=>q v H2 f (s1.trans s2) (fun c hc=>n1 c (sub.subset hc)) (nd1.sublist sub) r⟩⟩
def trP(K:tz0)(κ:tz9)(l:List (Str×(tz2))):List (TE×TE):=l.map fun p=>(tP K κ (fC (.str p.1)),tP K κ p.2)
def eS:List (Str×(tz2))->tz3
 |[],_=>some []
 |p::l,ps=>(p.2 ps).bind fun d=>(eS l ps).bind fun ds=>some (d::ds)
def gG(l:List (Str×(tz2))):tz2:=fun ps=>(eS l ps).bind fun ds=>some (.dic true (l.map fun p=> .inr p.1) ds)
theorem zs2{K:tz0}{σ:St}{ps:PSt}:∀{l:List (Str×(tz2))} {H:Hp} {ds:List D} {Q:List (V×V)->Hp->Prop},WS K κ H σ ps->eS l ps=some ds->(∀vs H' fv,SameK H H'->(∀a∈fv,H a=none)->fv.Nodup->Reps K κ H' vs ds fv->Q ((l.map fun p=>V.str p.1).zip vs) H')->ze4 (trP K κ l) σ H Q
 |[],H,ds,Q,w,e,q=>by cases e;exact q [] H [] (.refl H) (fun _ h=>absurd h (by simp)) List.nodup_nil .nil
 |p::l,H,ds,Q,w,e,q=>by
  obtain⟨d,e1,e2⟩:=bind_some e
  obtain⟨ds',e3,e4⟩:=bind_some e2
  cases e4
  refine⟨ps,_,w,rfl,fun v H1 fv s1 n1 nd1 r1=>⟨ps,d,w.same s1,e1,fun u H2 fw s2 n2 nd2 r2=> ?_⟩⟩
  refine zs2 ((w.same s1).same s2) e3 fun vs H3 fx s3 n3 nd3 r3=> ?_
  have ev:v= .str p.1:=r1.is_str
  subst ev
  have s13:=(s1.trans s2).trans s3
  refine q (u::vs) H3 (fw++fx) s13 (fun a ha=> ?_) (zk0 r2 nd2 n3 nd3) (.cons (r2.same s3) r3)
  rcases List.mem_append.mp ha with z|z
  ·exact s1.grow a (n2 a z)
  ·exact(s1.trans s2).grow a (n3 a z)
theorem za7:∀(more kvs:List (Key×V)),((kvs++more).map (·.1)).Nodup->pU kvs more=kvs++more
 |[],kvs,_=>by simp [pU]
 | (k,v)::more,kvs,h=>by
  show pU (rV kvs k v) more=_
  have hn:lE kvs k=none:=by
   cases e:lE kvs k with
   |none=>rfl
   | some x=>
    exfalso
    unfold lE at e
    cases e1:kvs.find? fun kv=>decide (kv.1=k) with
    |none=>rw [e1] at e;cases e
    |some p=>
     have h1:=List.mem_of_find?_eq_some e1
     have h2:p.1=k:=by simpa using List.find?_some e1
     rw [List.map_append,List.nodup_append] at h
     exact h.2.2 p.1 (List.mem_map_of_mem h1) k (by simp) h2
  rw [yz8 v hn,za7 more (kvs++[(k,v)]) (by simpa using h),List.append_assoc];rfl
theorem zs3:∀{l:List (Str×(tz2))} {vs:List V},l.length=vs.length->(l.map fun p=>V.str p.1).zip vs=((l.map fun p=>(Sum.inr p.1:Key)).zip vs).map fun kv=>(kV kv.1,kv.2)
 |[],[],_=>rfl
 |p::l,v::vs,h=>by
  rw [List.map_cons,List.map_cons,List.zip_cons_cons,List.zip_cons_cons,List.map_cons,zs3 (by simpa using h)]
  rfl
 |[],_::_,h=>by simp at h
 |_::_,[],h=>by simp at h
theorem zk5:∀{l:List (Str×(tz2))} {ds:List D},eS l ps=some ds->ds.length=l.length
 |[],_,e=>by cases e;rfl
 |p::l,_,e=>by
  obtain⟨d,_,e2⟩:=bind_some e
  obtain⟨ds',e3,e4⟩:=bind_some e2
  cases e4
  rw [List.length_cons,List.length_cons,zk5 e3]
theorem xl9{keys:List (Option Expr)}{values:List Expr}{l:List (Str×(tz2))}(h:PPs X pos keys values (trP X.K κ l))(hnd:(l.map (·.1)).Nodup)(hlen:l.length<=15)(hall:keys.all (·.isSome)=true:=by rfl)(hl:keys.length=values.length:=by rfl)(h0:keys≠[]:=by simp)(h15:keys.length<=15:=by decide):
  QP X κ (.Dict keys values pos) (gG l):=(xk9 h hall hl h0 h15).imp fun σ H Q hh_=>by
 obtain⟨ps,d,w,e,q⟩:=hh_
 obtain⟨ds,e1,e2⟩:=bind_some e
 cases e2
 intro p hp
 have s0:SameK H (upd H p (.dK [])):= .new hp _
 refine zs2 (w.same s0) e1 fun vs H' fv s1 n1 nd1 r1=>⟨s1.keep p _ dA rfl,?_⟩
 have ln:l.length=vs.length:=by rw [r1.length,zk5 e1]
 have hz:((l.map fun p=>(Sum.inr p.1:Key)).zip vs).map (·.1)=l.map fun p=>(Sum.inr p.1:Key):=by
  rw [List.map_fst_zip];simp [ln]
 have hz2:((l.map fun p=>(Sum.inr p.1:Key)).zip vs).map (·.2)=vs:=by
  rw [List.map_snd_zip];simp [ln]
 have hnd2:(l.map fun p=>(Sum.inr p.1:Key)).Nodup:=by
  have:(l.map fun p=>(Sum.inr p.1:Key))=(l.map (·.1)).map Sum.inr:=by rw [List.map_map];rfl
  rw [this]
  exact List.Pairwise.map _ (fun a b hab hh=>hab (Sum.inr.inj hh)) hnd
 refine⟨(l.map fun p=>(Sum.inr p.1:Key)).zip vs,zs3 ln,by rw [List.length_zip,List.length_map];omega,?_⟩
 rw [za7 _ [] (by rw [List.nil_append,hz];exact hnd2),List.nil_append]
 have hpf:p∉fv:=fun z=>by have:=n1 p z;rw [dA] at this;cases this
 refine q _ _ (p::fv) ⟨fun a o ha hk=> ?_,fun a ha=> ?_⟩ (fun a ha=> ?_) (List.nodup_cons.mpr ⟨hpf,nd1⟩) (.dic dA hz ?_)
 ·rw [cI (fun z=>by subst z;rw [hp] at ha;cases ha)]
  exact(s0.trans s1).keep a o ha hk
 ·exact(s0.trans s1).grow a (uV ha)
 ·rcases List.mem_cons.mp ha with z|z
  ·rw [z];exact hp
  ·exact s0.grow a (n1 a z)
 ·rw [hz2]
  exact r1.updL (s1.keep p _ dA rfl) rfl hpf
end
def fxE(K:tz0)(κ:tz9)(np:Nat)(m:Nat->Bool):Fx:=⟨K,κ,fun i=>decide (i<np)&& !m i,m,fun _ _=>False⟩
def f0E(np:Nat)(m:Nat->Bool):F0:=⟨fun i=>decide (i<np)&& !m i,m,fun _ _=>False⟩
def SpE(np:Nat)(K:tz0)(κ:tz9)(m:Nat->Bool)(g:tz7):Sp:=fun vs H Q _=>vs.length=np/\∃ds r ds' F,ds.length=np/\RS (fxE K κ np m) H (vs.map some) (ds.map some) F/\g ds=some (r,ds')/\
 ∀v H' F' fv,Stp (fxE K κ np m) (vs.map some) H F (vs.map some) H' (ds'.map some) F'->OwnV F H F' fv->Rep K κ H' v r fv->Q v H'
def zi6(m:Nat->Bool)(ps:PSt):Nat->List D->Option (List D)
 |_,[]=>some []
 |i,d::ds=>(if m i=true then(ps[i]?).join else some d).bind fun d'=>(zi6 m ps (i+1) ds).bind fun ds'=>some (d'::ds')
theorem zk6:∀{ds ds':List D} {i:Nat},zi6 m ps i ds=some ds'->ds'.length=ds.length/\∀(k:Nat) (d':D),ds'[k]? =some d'->(m (i+k)=true->ps[i+k]? =some (some d'))/\(m (i+k)=false->ds[k]? =some d')
 |[],_,_,e=>by cases e;exact⟨rfl,fun k d' h=>by simp at h⟩
 | d::ds,_,i,e=>by
  obtain⟨d1,e1,e2⟩:=bind_some e
  obtain⟨ds1,e3,e4⟩:=bind_some e2
  cases e4
  obtain⟨l,h⟩:=zk6 e3
  refine⟨by simp [l],fun k d' hk=> ?_⟩
  cases k with
  |zero=>
   simp at hk;subst hk
   refine⟨fun z=> ?_,fun z=> ?_⟩
   ·rw [Nat.add_zero] at z|-;rw [if_pos z] at e1;exact join_some e1
   ·rw [Nat.add_zero] at z;rw [if_neg (by rw [z];simp)] at e1;simpa using e1
  |succ k=>
   obtain⟨h1,h2⟩:=h k d' (by simpa using hk)
   have ea:i+(k+1)=i+1+k:=by omega
   rw [ea]
   exact⟨h1,fun z=>by simpa using h2 z⟩
def gE(np n:Nat)(m:Nat->Bool)(f:tz1):tz7:=fun ds=>if ds.length=np then(f (ds.map some++List.replicate n none)).bind fun r=>match r with
 |(.ret d,ps)=>(zi6 m ps 0 ds).bind fun ds'=>some (d,ds')
 |(.nx,ps)=>(zi6 m ps 0 ds).bind fun ds'=>some (.non,ds')
 |_=>none
 else none
theorem RS.more(R:RS φ H σ ps F)(hl:ps.length=σ.length)(h2:n<=σ2.length):RS φ H (σ++σ2) (ps++List.replicate n none) F:=by
 refine⟨fun i d h=> ?_,fun i a h=> ?_,R.dis,R.nd,R.nb,R.bt,by simp [hl];omega⟩
 ·by_cases hi:i<ps.length
  ·rw [List.getElem?_append_left hi] at h
   rw [List.getElem?_append_left (by omega)]
   exact R.rep i d h
  ·rw [List.getElem?_append_right (by omega),List.getElem?_replicate] at h
   split at h<;>cases h
 ·obtain⟨b,d,e⟩:=R.emp i a h
  have hi:=(List.getElem?_eq_some_iff.mp e).1
  exact⟨b,d,by rw [List.getElem?_append_left hi];exact e⟩
theorem zs4{K:tz0}{κ:tz9}{np n:Nat}{m:Nat->Bool}{H H':Hp}{vs:List V}{σ2 σ':St}{ds ds':List D}{ps':PSt}{F F':Nat->List Addr}{fv:List Addr}(hm:∀i,m i=true->i<np)(hl:vs.length=np)(hd:ds.length=np)(R:RS (fxE K κ np m) H (vs.map some) (ds.map some) F)
  (s:Stp (fxE K κ np m) (vs.map some++σ2) H F σ' H' ps' F') (o:OwnV F H F' fv) (e:zi6 m ps' 0 ds=some ds'):
  ∃F2,Stp (fxE K κ np m) (vs.map some) H F (vs.map some) H' (ds'.map some) F2/\OwnV F H F2 fv:=by
 obtain⟨l,ho⟩:=zk6 e
 have sub:∀i a,a∈(if m i=true then F' i else [])->m i=true/\a∈F' i:=fun i a h=>by
  by_cases z:m i=true
  ·rw [if_pos z] at h;exact⟨z,h⟩
  ·rw [if_neg z] at h;exact absurd h (by simp)
 have tfk:∀a u,H a=some u->tf u=true->H' a=some u:=fun a u h t=>s.fr.keep a u h (nK t) fun i hi=>by
  obtain⟨u',h',_,t'⟩:=R.own hi
  rw [h] at h';cases h';rw [t] at t';cases t'
 have mb:∀i,m i=true->(fxE K κ np m).bor i=false:=fun i h=>by simp [fxE,h]
 refine⟨fun i=>if m i=true then F' i else [],⟨s.fr,fun i a h=>s.nw i a (sub i a h).2,⟨fun i d h=> ?_,fun i a h=> ?_,fun i j a h1 h2=>s.rs.dis i j a (sub i a h1).2 (sub j a h2).2,fun i=> ?_,fun i a h=>s.rs.nb i a (sub i a h).2,fun _ a h=>h.elim,by simp [l,hl,hd]⟩,fun _ _=>rfl⟩,⟨o.nw,o.nd,fun i a h=>o.dis i a (sub i a h).2⟩⟩
 ·rw [List.getElem?_map] at h
  cases q:ds'[i]? with
  |none=>rw [q] at h;cases h
  | some d1=>
   rw [q] at h;cases h
   obtain⟨h1,h2⟩:=ho i d q
   rw [Nat.zero_add] at h1 h2
   by_cases z:m i=true
   ·obtain⟨v,fp,k1,k2,k3,_⟩:=s.rs.rep i d (h1 z)
    refine⟨v,fp,?_,k2,fun _=>by rw [if_pos z];exact k3 (mb i z),fun w=>by rw [mb i z] at w;cases w⟩
    rw [<-k1]
    have:=s.msk i z
    rw [this,List.getElem?_append_left (by simp [hl];exact hm i z)]
   ·have zf:m i=false:=by simpa using z
    have hi:(ds.map some)[i]? =some (some d):=by rw [List.getElem?_map,h2 zf];rfl
    have hib:(fxE K κ np m).bor i=true:=by
     have:=(List.getElem?_eq_some_iff.mp (h2 zf)).1
     simp [fxE,zf];omega
    obtain⟨v,fp,k1,k2,_,k4⟩:=R.rep i d hi
    have efp:fp=[]:=by
     cases fp with
     |nil=>rfl
     |cons a r=>exact(k4 hib a List.mem_cons_self).elim
    subst efp
    exact⟨v,[],k1,k2.move tfk (fun a ha=>absurd ha (by simp)),(fun w=>by rw [hib] at w;cases w),(fun _ a ha=>absurd ha (by simp))⟩
 ·obtain⟨z,h⟩:=sub i a h
  refine⟨mb i z,?_⟩
  have hi:i<ds'.length:=by rw [l,hd];exact hm i z
  exact⟨ds'[i],by rw [List.getElem?_map,List.getElem?_eq_getElem hi];rfl⟩
 ·by_cases z:m i=true
  ·rw [if_pos z];exact s.rs.nd i
  ·rw [if_neg z];exact List.nodup_nil
section
variable{P:Program}{w:World}{K:tz0}{mg:tzA}{base:Heap}{κ:tz9}
theorem xX{x qual:Str}{st:Stmt}{f:Addr}{fd:FuncData}{N ps:List Str}{k:Nat}{fb:tz1}{m:Nat->Bool}(F:Fun K x qual st f fd)(S:FnScope N ps (aW st))(hm:∀i,m i=true->i<ps.length)
  (hbody:∀(cdv:Value) (A:Around) (outer:List Env) (s:Shared) (H:Hp) (E:XK),Room k (A.deeper (envOfC qual (aW st) s.heap.objs.size f cdv))->
   QSs (fQ CX0 P w K mg base N qual (aW st) f cdv A outer s H E).nox κ (f0E ps.length m) (jO st) fb):
  FnOk P w K mg base CX0 (k+1) f fd ps (SpE ps.length K κ m (gE ps.length (N.length-ps.length) m fb)):=by
 refine F.ok S (fun vs H Q E h=>h.1) fun cdv A outer s H vs Q E hr ⟨hl,ds,r,ds',F0,hd,R,e,q⟩=>⟨_,hbody cdv A outer s H E hr,?_⟩
 have hn:ps.length<=N.length:=by have:=congrArg List.length S.pre;rw [List.length_take] at this;omega
 unfold gE at e
 obtain⟨_,e0⟩:=bV e
 obtain⟨⟨fl,ps'⟩,e1,e2⟩:=bind_some e0
 have R0:=R.more (σ2:=List.replicate (N.length-vs.length) none) (n:=N.length-ps.length) (by simp [hl,hd]) (by simp [hl])
 refine⟨_,F0,fl,ps',R0,e1,?_⟩
 cases fl with
 | ret d'=>
  obtain⟨ds1,e3,e4⟩:=bind_some e2
  cases e4
  exact fun v σ' H' F' fv s o rv=>by
   obtain⟨F2,s2,o2⟩:=zs4 (n:=0) hm hl hd R s o e3
   exact q v H' F2 fv s2 o2 rv
 | nx=>
  obtain⟨ds1,e3,e4⟩:=bind_some e2
  cases e4
  exact fun σ' H' F' s=>by
   obtain⟨F2,s2,o2⟩:=zs4 (n:=0) (fv:=[]) hm hl hd R s ⟨fun _ h=>absurd h (by simp),List.nodup_nil,fun _ _ _ h=>absurd h (by simp)⟩ e3
   exact q .non H' F2 [] s2 o2 .non
 |bk=>cases e2
 |ct=>cases e2
end
set_option genInjectivity true in
inductive Arg where
 |io (j:Nat)|im (f:tz2)
def fH:List Arg->tz3
 |[],_=>some []
 | .io j::as,ps=>((ps[j]?).join).bind fun d=>(fH as ps).bind fun ds=>some (d::ds)
 | .im f::as,ps=>(dI f ps).bind fun d=>(fH as ps).bind fun ds=>some (d::ds)
def mB:List Arg->Nat->Bool
 | .io _::_,0=>true
 |_::as,i+1=>mB as i
 |_,_=>false
def slots:List Arg->List Nat
 |[]=>[]
 | .io j::as=>j::slots as
 | .im _::as=>slots as
def cX:PSt->List Arg->List D->PSt
 |ps,.io j::as,d::ds=>cX (ps.set j (some d)) as ds
 |ps,.im _::as,_::ds=>cX ps as ds
 |ps,_,_=>ps
inductive ArgsAt(K:tz0)(κ:tz9)(H:Hp)(σ:St)(ps:PSt):List Arg->List V->List D->Prop
 |nil:ArgsAt K κ H σ ps [] [] []
 |io {j:Nat} {as:List Arg} {v:V} {vs:List V} {d:D} {ds:List D}:σ[j]? =some (some v)->ps[j]? =some (some d)->ArgsAt K κ H σ ps as vs ds->ArgsAt K κ H σ ps (.io j::as) (v::vs) (d::ds)
 |im {f:tz2} {as:List Arg} {v:V} {vs:List V} {d:D} {ds:List D}:Rep K κ H v d []->ArgsAt K κ H σ ps as vs ds->ArgsAt K κ H σ ps (.im f::as) (v::vs) (d::ds)
theorem ArgsAt.len{K:tz0}{κ:tz9}{H:Hp}{σ:St}{ps:PSt}:∀{as:List Arg} {vs:List V} {ds:List D},ArgsAt K κ H σ ps as vs ds->vs.length=as.length/\ds.length=as.length
 |_,_,_,.nil=>⟨rfl,rfl⟩
 |_,_,_,.io _ _ h=>by have:=h.len;simp [this]
 |_,_,_,.im _ h=>by have:=h.len;simp [this]
theorem ArgsAt.get{K:tz0}{κ:tz9}{H:Hp}{σ:St}{ps:PSt}:∀{as:List Arg} {vs:List V} {ds:List D} {i:Nat} {d:D},ArgsAt K κ H σ ps as vs ds->ds[i]? =some d->∃v,vs[i]? =some v/\((∃j,as[i]? =some (.io j)/\mB as i=true/\σ[j]? =some (some v)/\ps[j]? =some (some d))\/(mB as i=false/\Rep K κ H v d []))
 |_,_,_,_,_,.nil,e=>by simp at e
 |_,_,_,0,_,.io h1 h2 _,e=>by simp at e;subst e;exact⟨_,rfl,.inl ⟨_,rfl,rfl,h1,h2⟩⟩
 |_,_,_,0,_,.im r _,e=>by simp at e;subst e;exact⟨_,rfl,.inr ⟨rfl,r⟩⟩
 |_,_,_,i+1,_,.io _ _ h,e=>by
  obtain⟨v,h1,h2⟩:=ArgsAt.get (i:=i) h (by simpa using e)
  exact⟨v,by simpa using h1,by simpa [mB] using h2⟩
 |_,_,_,i+1,_,.im _ h,e=>by
  obtain⟨v,h1,h2⟩:=ArgsAt.get (i:=i) h (by simpa using e)
  exact⟨v,by simpa using h1,by simpa [mB] using h2⟩
theorem zg8:∀{as:List Arg} {i:Nat},mB as i=true->∃j,as[i]? =some (.io j)
 | .io j::_,0,_=>⟨j,rfl⟩
 | .im _::_,0,h=>by cases h
 | .io _::as,i+1,h=>by obtain⟨j,e⟩:=zg8 (as:=as) (i:=i) h;exact⟨j,by simpa using e⟩
 | .im _::as,i+1,h=>by obtain⟨j,e⟩:=zg8 (as:=as) (i:=i) h;exact⟨j,by simpa using e⟩
 |[],_,h=>by cases h
theorem oY:∀{as:List Arg} {i j:Nat},as[i]? =some (.io j)->mB as i=true
 | .io _::_,0,_,_=>rfl
 | .im _::_,0,_,h=>by simp at h
 | .io _::as,i+1,j,h=>oY (as:=as) (i:=i) (j:=j) (by simpa using h)
 | .im _::as,i+1,j,h=>oY (as:=as) (i:=i) (j:=j) (by simpa using h)
 |[],_,_,h=>by simp at h
theorem iR:∀{as:List Arg} {i j:Nat},as[i]? =some (.io j)->j∈slots as
 | .io _::_,0,_,h=>by simp at h;subst h;exact List.mem_cons_self
 | .im _::_,0,_,h=>by simp at h
 | .io _::as,i+1,j,h=>List.mem_cons_of_mem _ (iR (as:=as) (i:=i) (by simpa using h))
 | .im _::as,i+1,j,h=>iR (as:=as) (i:=i) (by simpa using h)
 |[],_,_,h=>by simp at h
theorem wU:∀{as:List Arg} {i k j:Nat},(slots as).Nodup->as[i]? =some (.io j)->as[k]? =some (.io j)->i=k
 |[],_,_,_,_,h,_=>by simp at h
 |a::as,0,0,_,_,_,_=>rfl
 | .io j'::as,0,k+1,j,nd,h1,h2=>by
  simp at h1;subst h1
  exact absurd (iR (as:=as) (i:=k) (by simpa using h2)) (List.nodup_cons.mp nd).1
 | .im _::as,0,k+1,j,_,h1,_=>by simp at h1
 | .io j'::as,i+1,0,j,nd,h1,h2=>by
  simp at h2;subst h2
  exact absurd (iR (as:=as) (i:=i) (by simpa using h1)) (List.nodup_cons.mp nd).1
 | .im _::as,i+1,0,j,_,_,h2=>by simp at h2
 | .io j'::as,i+1,k+1,j,nd,h1,h2=>by rw [wU (as:=as) (i:=i) (k:=k) (j:=j) (List.nodup_cons.mp nd).2 (by simpa using h1) (by simpa using h2)]
 | .im _::as,i+1,k+1,j,nd,h1,h2=>by rw [wU (as:=as) (i:=i) (k:=k) (j:=j) nd (by simpa using h1) (by simpa using h2)]
def fZ:List Arg->Nat->Option Nat
 |[],_=>none
 | .io i::as,j=>if i=j then some 0 else(fZ as j).map (·+1)
 | .im _::as,j=>(fZ as j).map (·+1)
theorem mM:∀{as:List Arg} {j i:Nat},fZ as j=some i->as[i]? =some (.io j)
 |[],_,_,h=>by cases h
 | .io k::as,j,i,h=>by
  rw [fZ] at h
  by_cases z:k=j
  ·rw [if_pos z] at h;cases h;rw [z];rfl
  ·rw [if_neg z] at h
   cases q:fZ as j with
   |none=>rw [q] at h;cases h
   |some n=>rw [q] at h;cases h;simpa using mM q
 | .im _::as,j,i,h=>by
  rw [fZ] at h
  cases q:fZ as j with
  |none=>rw [q] at h;cases h
  |some n=>rw [q] at h;cases h;simpa using mM q
theorem kF:∀{as:List Arg} {j:Nat},fZ as j=none->j∉slots as
 |[],_,_=>by simp [slots]
 | .io k::as,j,h=>by
  rw [fZ] at h
  by_cases z:k=j
  ·rw [if_pos z] at h;cases h
  ·rw [if_neg z] at h
   have h':fZ as j=none:=by
    cases q:fZ as j with
    |none=>rfl
    |some n=>rw [q] at h;cases h
   exact fun hm=>(List.mem_cons.mp hm).elim (fun e=>z e.symm) (kF h')
 | .im _::as,j,h=>by
  rw [fZ] at h
  have h':fZ as j=none:=by
   cases q:fZ as j with
   |none=>rfl
   |some n=>rw [q] at h;cases h
  exact fun hm=>kF (as:=as) h' hm
theorem uW:∀{as:List Arg} {ds:List D} {ps:PSt},(cX ps as ds).length=ps.length
 |[],_,_=>by simp [cX]
 | .io j::as,[],_=>by simp [cX]
 | .im _::as,[],_=>by simp [cX]
 | .io j::as,d::ds,ps=>by rw [cX,uW (as:=as)];simp
 | .im _::as,d::ds,ps=>by rw [cX,uW (as:=as)]
theorem oB:∀{as:List Arg} {ds:List D} {ps:PSt} {j:Nat},j∉slots as->(cX ps as ds)[j]? =ps[j]?
 |[],_,_,_,_=>by simp [cX]
 | .io _::_,[],_,_,_=>by simp [cX]
 | .im _::_,[],_,_,_=>by simp [cX]
 | .io k::as,d::ds,ps,j,h=>by
  rw [cX,oB (as:=as) (fun z=>h (List.mem_cons_of_mem _ z)),List.getElem?_set_ne (fun z=>h (by rw [<-z];exact List.mem_cons_self))]
 | .im _::as,d::ds,ps,j,h=>by rw [cX];exact oB (as:=as) h
theorem xY:∀{as:List Arg} {ds:List D} {ps:PSt} {i j:Nat} {d:D},(slots as).Nodup->as[i]? =some (.io j)->ds[i]? =some d->j<ps.length->(cX ps as ds)[j]? =some (some d)
 |[],_,_,_,_,_,_,h,_,_=>by simp at h
 |_::_,[],_,_,_,_,_,_,h,_=>by simp at h
 | .io k::as,d1::ds,ps,0,j,d,nd,h1,h2,h3=>by
  simp at h1 h2;subst h1;subst h2
  rw [cX,oB (List.nodup_cons.mp nd).1,List.getElem?_set_self h3]
 | .im _::as,d1::ds,ps,0,j,d,_,h1,_,_=>by simp at h1
 | .io k::as,d1::ds,ps,i+1,j,d,nd,h1,h2,h3=>by
  rw [cX];exact xY (List.nodup_cons.mp nd).2 (by simpa using h1) (by simpa using h2) (by simpa using h3)
 | .im _::as,d1::ds,ps,i+1,j,d,nd,h1,h2,h3=>by
  rw [cX];exact xY (as:=as) nd (by simpa using h1) (by simpa using h2) h3
def pE(as:List Arg)(F:Nat->List Addr):Nat->List Addr:=fun i=>match as[i]? with
 |some (.io j)=>F j
 |_=>[]
theorem yd5(e:as[i]? =some (.io j)):pE as F i=F j:=by unfold pE;rw [e]
theorem zF(h:b∈pE as F i):∃j,as[i]? =some (.io j)/\b∈F j:=by
 unfold pE at h
 cases q:as[i]? with
 |none=>rw [q] at h;exact absurd h (by simp)
 |some x=>
  cases x with
  |io j=>rw [q] at h;exact⟨j,rfl,h⟩
  |im _=>rw [q] at h;exact absurd h (by simp)
theorem zg9(e:mB as i=false):pE as F i=[]:=by
 unfold pE
 cases q:as[i]? with
 |none=>rfl
 |some x=>cases x with
  |io j=>rw [oY q] at e;cases e
  |im _=>rfl
theorem zs5{φ:Fx}{H:Hp}{σ:St}{ps:PSt}{F:Nat->List Addr}{as:List Arg}{vs:List V}{ds:List D}(R:RS φ H σ ps F)(nd:(slots as).Nodup)(hb:∀j∈slots as,φ.bor j=false)(a:ArgsAt φ.K φ.κ H σ ps as vs ds):
  RS (fxE φ.K φ.κ as.length (mB as)) H (vs.map some) (ds.map some) (pE as F):=by
 obtain⟨lv,ld⟩:=a.len
 have memF:∀i b,b∈pE as F i->∃j,as[i]? =some (Arg.io j)/\b∈F j:=fun i b h=>zF h
 refine⟨fun i d h=> ?_,fun i b h=> ?_,fun i k b h1 h2=> ?_,fun i=> ?_,fun i b h k z=>z.elim,fun k b z=>z.elim,by simp [lv,ld]⟩
 ·rw [List.getElem?_map] at h
  cases q:ds[i]? with
  |none=>rw [q] at h;cases h
  | some d1=>
   rw [q] at h;cases h
   obtain⟨v,h1,h2⟩:=a.get q
   have hi:=(List.getElem?_eq_some_iff.mp q).1
   refine⟨v,pE as F i,by rw [List.getElem?_map,h1];rfl,?_,fun _=>rfl,fun z=> ?_⟩
   ·rcases h2 with ⟨j,e1,e2,e3,e4⟩|⟨e1,r⟩
    ·obtain⟨v',fp,k1,k2,k3,_⟩:=R.rep j d e4
     rw [e3] at k1;cases k1
     rw [yd5 e1]
     have:=k3 (hb j (iR e1))
     subst this
     exact k2
    ·rw [zg9 e1];exact r
   ·rcases h2 with ⟨j,e1,e2,_⟩|⟨e1,r⟩
    ·simp [fxE,e2] at z
    ·rw [zg9 e1];intro b hb;exact absurd hb (by simp)
 ·obtain⟨j,e,hj⟩:=memF i b h
  have hi:i<ds.length:=by rw [ld];exact(List.getElem?_eq_some_iff.mp e).1
  exact⟨by simp [fxE,oY e],ds[i],by rw [List.getElem?_map,List.getElem?_eq_getElem hi];rfl⟩
 ·obtain⟨j1,e1,m1⟩:=memF i b h1
  obtain⟨j2,e2,m2⟩:=memF k b h2
  have:=R.dis j1 j2 b m1 m2
  subst this
  exact wU nd e1 e2
 ·cases z:mB as i with
  |true=>obtain⟨j,e⟩:=zg8 z;rw [yd5 e];exact R.nd j
  |false=>rw [zg9 z];exact List.nodup_nil
def sS(as:List Arg)(F Fc:Nat->List Addr):Nat->List Addr:=fun j=>match fZ as j with
 |some i=>Fc i
 |none=>F j
theorem ys6(h:b∈sS as F Fc j):(∃i,fZ as j=some i/\b∈Fc i)\/(fZ as j=none/\b∈F j):=by
 unfold sS at h
 cases q:fZ as j with
 |none=>rw [q] at h;exact .inr ⟨rfl,h⟩
 |some i=>rw [q] at h;exact .inl ⟨i,rfl,h⟩
theorem za8(e:fZ as j=some i):sS as F Fc j=Fc i:=by unfold sS;rw [e]
theorem za9(e:fZ as j=none):sS as F Fc j=F j:=by unfold sS;rw [e]
theorem xm0{φ:Fx}{H H1 H':Hp}{σ:St}{ps:PSt}{F Fc':Nat->List Addr}{as:List Arg}{vs:List V}{ds ds':List D}{fv:List Addr}(R:RS φ H σ ps F)(s1:SameK H H1)(nd:(slots as).Nodup)(hb:∀j∈slots as,φ.bor j=false)(a:ArgsAt φ.K φ.κ H1 σ ps as vs ds)(hl:ds'.length=as.length)
  (s:Stp (fxE φ.K φ.κ as.length (mB as)) (vs.map some) H1 (pE as F) (vs.map some) H' (ds'.map some) Fc') (o:OwnV (pE as F) H1 Fc' fv):
  ∃F',Stp φ σ H F σ H' (cX ps as ds') F'/\OwnV F H F' fv:=by
 have memF:∀i b,b∈pE as F i->∃j,as[i]? =some (Arg.io j)/\b∈F j:=fun i b h=>zF h
 have nwA:∀b,((∃i,b∈pE as F i)\/H1 b=none)->(∃j∈slots as,b∈F j)\/H b=none:=fun b h=>by
  rcases h with ⟨i,h⟩|h
  ·obtain⟨j,e,m⟩:=memF i b h
   exact .inl ⟨j,iR e,m⟩
  ·exact .inr (s1.grow b h)
 have isDisj:∀b,((∃i,b∈Fc' i)\/b∈fv)->∀j,j∉slots as->b∉F j:=fun b h j hj hm=>by
  have h':(∃j∈slots as,b∈F j)\/H b=none:=by
   rcases h with ⟨i,h⟩|h
   ·exact nwA b (s.nw i b h)
   ·exact nwA b (o.nw b h)
  rcases h' with ⟨k,hk,hm2⟩|z
  ·exact hj (R.dis j k b hm hm2▸hk)
  ·obtain⟨u,q,_⟩:=R.own hm;rw [z] at q;cases q
 have keepN:∀b u,H b=some u->kd u=true->(∀j∈slots as,b∉F j)->H' b=some u:=fun b u h k n=>s.fr.keep b u (s1.keep b u h k) k fun i hi=>by
  obtain⟨j,e,m⟩:=memF i b hi
  exact n j (iR e) m
 have tfk:∀b u,H b=some u->tf u=true->H' b=some u:=fun b u h t=>keepN b u h (nK t) fun j _ hm=>by
  obtain⟨u',h',_,t'⟩:=R.own hm
  rw [h] at h';cases h';rw [t] at t';cases t'
 have posmem:∀j b,b∈sS as F Fc' j->(∃i,fZ as j=some i/\b∈Fc' i)\/(fZ as j=none/\b∈F j):=fun j b h=>ys6 h
 refine⟨sS as F Fc',⟨⟨fun b u h k n=>keepN b u h k fun j _=>n j,fun b h=>s1.grow b (s.fr.grow b h)⟩,fun j b h=> ?_,⟨fun j d h=> ?_,fun j b h=> ?_,fun j k b h1 h2=> ?_,fun j=> ?_,fun j b h=> ?_,fun kk b hB z=>R.bt kk b hB (s1.grow b (s.fr.grow b z)),by rw [uW];exact R.len⟩,fun _ _=>rfl⟩,⟨fun b hb'=> ?_,o.nd,fun j b h hv=> ?_⟩⟩
 ·rcases posmem j b h with ⟨i,e,m⟩|⟨e,m⟩
  ·exact(nwA b (s.nw i b m)).elim (fun⟨k,_,hk⟩=> .inl ⟨k,hk⟩) .inr
  ·exact .inl ⟨j,m⟩
 ·cases q:fZ as j with
  | some i=>
   have e:=mM q
   have hi:i<ds'.length:=by rw [hl];exact(List.getElem?_eq_some_iff.mp e).1
   have ei:ds'[i]? =some ds'[i]:=List.getElem?_eq_getElem hi
   have hj:j<ps.length:=by
    have:=(List.getElem?_eq_some_iff.mp h).1
    rwa [uW] at this
   rw [xY nd e ei hj] at h
   cases h
   obtain⟨v,fp,k1,k2,k3,_⟩:=s.rs.rep i ds'[i] (by rw [List.getElem?_map,ei];rfl)
   have hbi:(fxE φ.K φ.κ as.length (mB as)).bor i=false:=by simp [fxE,oY e]
   have k3:=k3 hbi
   subst k3
   have hvi:i<vs.length:=by rw [a.len.1];exact(List.getElem?_eq_some_iff.mp e).1
   have hdi:i<ds.length:=by rw [a.len.2];exact(List.getElem?_eq_some_iff.mp e).1
   obtain⟨v',g1,g2⟩:=a.get (List.getElem?_eq_getElem hdi)
   rw [List.getElem?_map,g1] at k1
   cases k1
   rcases g2 with ⟨j',e1,_,e3,_⟩|⟨e1,_⟩
   ·rw [e] at e1;cases e1
    exact⟨v,Fc' i,e3,k2,(fun _=>(za8 q).symm),(fun z=>by rw [hb j (iR e)] at z;cases z)⟩
   ·rw [oY e] at e1;cases e1
  |none=>
   have hn:=kF q
   rw [oB hn] at h
   obtain⟨v,fp,k1,k2,k3,k4⟩:=R.rep j d h
   refine⟨v,fp,k1,k2.move tfk fun b hb'=> ?_,(fun z=>by rw [za9 q];exact k3 z),k4⟩
   obtain⟨u,q1,q2,_⟩:=k2.own b hb'
   rw [q1]
   refine keepN b u q1 q2 fun k hk hm=> ?_
   cases z:φ.bor j with
   |true=>exact R.nb k b hm j (k4 z b hb')
   |false=>rw [k3 z] at hb';exact hn (R.dis j k b hb' hm▸hk)
 ·rcases posmem j b h with ⟨i,e,m⟩|⟨e,m⟩
  ·have e':=mM e
   refine⟨hb j (iR e'),?_⟩
   have hi:i<ds'.length:=by rw [hl];exact(List.getElem?_eq_some_iff.mp e').1
   have hdi:i<ds.length:=by rw [a.len.2];exact(List.getElem?_eq_some_iff.mp e').1
   obtain⟨v',g1,g2⟩:=a.get (List.getElem?_eq_getElem hdi)
   rcases g2 with ⟨j',e1,_,_,e4⟩|⟨e1,_⟩
   ·rw [e'] at e1;cases e1
    exact⟨_,xY nd e' (List.getElem?_eq_getElem hi) (List.getElem?_eq_some_iff.mp e4).1⟩
   ·rw [oY e'] at e1;cases e1
  ·obtain⟨b1,d,b2⟩:=R.emp j b m
   exact⟨b1,d,by rw [oB (kF e)];exact b2⟩
 ·rcases posmem j b h1 with ⟨i,e,m⟩|⟨e,m⟩
  ·rcases posmem k b h2 with ⟨i',e',m'⟩|⟨e',m'⟩
   ·have:=s.rs.dis i i' b m m'
    subst this
    have q1:=mM e
    have q2:=mM e'
    rw [q1] at q2
    cases q2;rfl
   ·exact absurd m' (isDisj b (.inl ⟨i,m⟩) k (kF e'))
  ·rcases posmem k b h2 with ⟨i',e',m'⟩|⟨e',m'⟩
   ·exact absurd m (isDisj b (.inl ⟨i',m'⟩) j (kF e))
   ·exact R.dis j k b m m'
 ·cases q:fZ as j with
  |some i=>rw [za8 q];exact s.rs.nd i
  |none=>rw [za9 q];exact R.nd j
 ·rcases posmem j b h with ⟨i,e,m⟩|⟨e,m⟩
  ·exact R.notB ((nwA b (s.nw i b m)).elim (fun⟨k,_,hk⟩=> .inl ⟨k,hk⟩) .inr)
  ·exact R.nb j b m
 ·exact(nwA b (o.nw b hb')).elim (fun⟨k,_,hk⟩=> .inl ⟨k,hk⟩) .inr
 ·rcases posmem j b h with ⟨i,e,m⟩|⟨e,m⟩
  ·exact o.dis i b m hv
  ·exact isDisj b (.inr hv) j (kF e) m
def tIO(K:tz0)(κ:tz9)(as:List Arg):TA:=fun σ H Q=>∃ps ds,WS K κ H σ ps/\fH as ps=some ds/\∀vs H',SameK H H'->ArgsAt K κ H' σ ps as vs ds->Q vs H'
def fIO(as:List Arg)(g:tz7):tz8:=fun ps=>(fH as ps).bind fun ds=>(g ds).bind fun r=>if r.2.length=as.length then some (r.1,cX ps as r.2) else none
section
variable{X:Cx}{φ:F0}{κ:tz9}{e:Expr}{es:List Expr}{as:List Arg}{f:tz2}{pos p:Pos}
theorem lA:PA X [] (tIO X.K κ []):=jG.imp fun σ H Q ⟨ps,ds,w,e,q⟩=>by cases e;exact q [] H (.refl H) .nil
theorem tX(j:Nat){x:Str}(hr:PA X es (tIO X.K κ as))(hN:X.N[j]? =some x:=by rfl)(hv:Vis X.env.scope x:=by first|exact Or.inl rfl|exact Or.inr (Or.inl rfl)|exact Or.inr (Or.inr rfl))(hd:(x==("__debug__":Str))=false:=by decide)
  (hcd:(x==("__classdict__":Str))=false:=by decide) (hs:starEach (.Name x pos::es) X.env=(false,eval (.Name x pos) X.env)::starEach es X.env:=by rfl):PA X (.Name x pos::es) (tIO X.K κ (.io j::as)):=
 (eB (iP hN hv hd hcd) hr hs).imp fun σ H Q hh_=>by
  obtain⟨ps,ds,w,e,q⟩:=hh_
  obtain⟨d,e1,e2⟩:=bind_some e
  obtain⟨ds',e3,e4⟩:=bind_some e2
  cases e4
  have e0:=join_some e1
  obtain⟨v,fp,h1,h2⟩:=w j d e0
  exact⟨v,h1,ps,ds',w,e3,fun vs H1 s1 a1=>q (v::vs) H1 s1 (.io h1 e0 a1)⟩
theorem pR(ha:QV X κ e f)(hr:PA X es (tIO X.K κ as))(hs:starEach (e::es) X.env=(false,eval e X.env)::starEach es X.env:=by rfl):PA X (e::es) (tIO X.K κ (.im f::as)):=
 (eB ha.p hr hs).imp fun σ H Q hh_=>by
  obtain⟨ps,ds,w,e,q⟩:=hh_
  obtain⟨d,e1,e2⟩:=bind_some e
  obtain⟨ds',e3,e4⟩:=bind_some e2
  cases e4
  refine⟨ps,d,w,e1,fun v H1 fv s1 n1 nd1 r1=>⟨ps,ds',w.same s1,e3,fun vs H2 s2 a2=>q (v::vs) H2 (s1.trans s2) (.im ?_ a2)⟩⟩
  unfold dI at e1
  obtain⟨d1,k1,k2⟩:=bind_some e1
  obtain⟨k3,k4⟩:=bV k2
  cases k4
  have:=r1.imm k3
  subst this
  exact r1.same s2
theorem zb0{x:Str}{st:Stmt}{ps:List Str}{fa:Addr}{fd:FuncData}{k np:Nat}{m:Nat->Bool}{g:tz7}(Dd:Dn X.K X.mg x st ps fa fd)(G:FnOk X.prog X.w X.K X.mg X.base CX0 k fa fd ps (SpE np X.K κ m g))(hr:Room k X.A)(hg:Gl X x)(ha:PA X (e::es) (tIO X.K κ as))
  (hnp:np=as.length) (hm:m=mB as) (nd:(slots as).Nodup) (hb:∀j∈slots as,φ.bor j=false)
  (hdb:(x==("__debug__":Str))=false:=by decide) (he:starEach (e::es) X.env=(false,eval e X.env)::starEach es X.env:=by rfl) (hpl:(backTo pos (starEach es X.env)).any (·.1)=false:=by rfl):
  QE X κ φ (.Call (.Name x p) (e::es) [] pos) (fIO as g):=(yi6 Dd G hr hg ha hdb he hpl).imp fun σ H Q hh_=>by
 obtain⟨ps,F,d,ps',R,e,q⟩:=hh_
 obtain⟨ds,e1,e2⟩:=bind_some e
 obtain⟨⟨r,ds'⟩,e3,e4⟩:=bind_some e2
 obtain⟨hl,e5⟩:=bV e4
 cases e5
 subst hnp hm
 refine⟨ps,ds,R.ws,e1,fun vs H1 s1 a1=> ?_⟩
 show SpE _ X.K κ _ g (vs++[]) H1 Q E0
 rw [List.append_nil]
 refine⟨a1.len.1,ds,r,ds',_,a1.len.2,zs5 (R.same s1) nd hb a1,e3,fun v H' F' fv s o rv=> ?_⟩
 obtain⟨F2,s2,o2⟩:=xm0 R s1 nd hb a1 hl s o
 exact q v H' F2 fv s2 o2 rv
end
inductive AreD:List Expr->List D->Prop
 |nil:AreD [] []
 |int {i:Int} {j:Nat} {pos:Pos} {es:List Expr} {ds:List D}:AreD es ds->AreD (.Constant (.int i) j pos::es) (.int i::ds)
 |str {x:Str} {j:Nat} {pos:Pos} {es:List Expr} {ds:List D}:AreD es ds->AreD (.Constant (.str x) j pos::es) (.str x::ds)
def fKs(ds:List D):tz3:=fun _=>some ds
theorem eY(h:AreD es ds):QPA X κ es (fKs ds):=by
 have key:∃vs,AreC es vs/\∀K κ H,Reps K κ H vs ds []:=by
  induction h with
  |nil=>exact⟨[],.nil,fun _ _ _=> .nil⟩
  |int _ ih=>obtain⟨vs,h1,h2⟩:=ih;exact⟨_,.int h1,fun K κ H=> .cons (f:=[]) (g:=[]) (.int _) (h2 K κ H)⟩
  |str _ ih=>obtain⟨vs,h1,h2⟩:=ih;exact⟨_,.str h1,fun K κ H=> .cons (f:=[]) (g:=[]) (.str _) (h2 K κ H)⟩
 obtain⟨vs,h1,h2⟩:=key
 exact(yr7 h1).imp fun σ H Q ⟨ps,ds',w,e,q⟩=>by cases e;exact q vs H [] (.refl H) (fun _ h=>absurd h (by simp)) List.nodup_nil (h2 _ _ _)
def dE(l:List Bool):Nat->Bool:=fun i=>(l[i]?).getD false
def yx8(as:List Arg):List Bool:=as.map fun a=>match a with
 | .io _=>true
 | .im _=>false
theorem mO:∀{as:List Arg} {l:List Bool},yx8 as=l->dE l=mB as:=by
 intro as l h
 subst h
 funext i
 induction as generalizing i with
 |nil=>cases i<;>rfl
 | cons a as ih=>
  cases i with
  |zero=>cases a<;>rfl
  |succ i=>
   have e:mB (a::as) (i+1)=mB as i:=by cases a<;>rfl
   rw [e,<-ih i]
   simp [dE,yx8]
theorem oZ(h:dE l i=true):i<l.length:=by
 unfold dE at h
 cases q:l[i]? with
 |none=>rw [q] at h;cases h
 |some b=>exact(List.getElem?_eq_some_iff.mp q).1
section
variable{P:Program}{w:World}{K:tz0}{mg:tzA}{base:Heap}{κ:tz9}
theorem FnOk.noneP:FnOk P w K mg base CX0 k f fd ps (SpP ps.length K κ fun _=>none):=
 ⟨fun vs H Q E h=>h.1,fun A outer s H args us vs Q E _ _ _ _ ⟨_,ds,fp,d,_,e,_⟩=>by cases e⟩
end
section
variable{X:Cx}{κ:tz9}{a b c:Expr}{fa fb fc:tz2}{g g':D->D->Option D}{pos:Pos}
theorem zs6(h:tP X.K κ (f3 g g' fa fb fc) σ H Q):zy2 (POp X.K κ g) (POp X.K κ g') (tV X.K κ fa) (tV X.K κ fb) (tV X.K κ fc) σ H Q:=by
 obtain⟨ps,d,w,e,q⟩:=h
 obtain⟨x,e1,e2⟩:=bind_some e
 obtain⟨y,e3,e4⟩:=bind_some e2
 obtain⟨k,e5,e6⟩:=bind_some e4
 obtain⟨t,rfl,e7⟩:=xh2 (x:=(fc ps).bind fun z=>g' y z) (y:=some (D.bl false)) e6
 refine⟨ps,x,w,e1,fun v H1 f1 s1 r1=>⟨ps,y,w.same s1,e3,fun u H2 f2 s2 r2=>⟨x,y,_,f1,f2,r1.same s2,r2,e5,fun z H3 fz s3 n3 nd3 r3=>⟨t,r3.is_bl,?_⟩⟩⟩⟩
 have s13:=(s1.trans s2).trans s3
 cases t with
 |true=>
  rw [if_pos rfl] at e7|-
  obtain⟨zz,e8,e9⟩:=bind_some e7
  exact⟨ps,zz,w.same s13,e8,fun u' H4 f4 s4 r4=>⟨y,zz,d,f2,f4,(r2.same s3).same s4,r4,e9,q.after (s13.trans s4)⟩⟩
 |false=>
  rw [if_neg Bool.false_ne_true] at e7|-
  cases e7
  exact(q.after s13).now (.bl false)
theorem xb2(ho:OpR X (compareOp op) (POp X.K κ g))(ho':OpR X (compareOp op') (POp X.K κ g'))(ha:QV X κ a fa)(hb:QV X κ b fb)(hc:QV X κ c fc)(hm:lastMarks [op,op'] [b,c]=false:=by with_unfolding_all rfl):QP X κ (.Compare a [op,op'] [b,c] pos) (f3 g g' fa fb fc):=
 (yy8 ho ho' ha hb hc hm).imp fun _ _ _ h=>zs6 h
theorem xb3(ho:OpR X (compareOp op) (POp X.K κ g))(ho':OpR X (compareOp op') (POp X.K κ g'))(ha:QV X κ a fa)(hb:QV X κ b fb)(hc:QV X κ c fc)(hm:lastMarks [op,op'] [b,c]=false:=by with_unfolding_all rfl):QT X κ (.Compare a [op,op'] [b,c] pos) (fB (f3 g g' fa fb fc)):=
 (yy9 ho ho' ha hb hc hm).imp fun σ H Q ⟨ps,k,w,e,q⟩=>zs6 (Q:=fun x H'=>∃k,x= .bl k/\Q k H') ⟨ps,_,w,yc7 e,fun v H' fv s _ _ r=>⟨k,r.is_bl,q H' s⟩⟩
end
def KDk(P:Program)(w:World)(K:tz0)(a:Addr)(kvs:List (Key×V)):Prop:=
 (a==sysModules)=false/\∃(o:Obj) (es:Array DictEntry) (ep:Nat) (vs:List (Key×Value)),K.lookup a=some o/\o.ExactDict/\o.data= .dict es ep/\KV kvs vs/\KeysOf (fA P w) es/\PySem.Pairs (fA P w) es.toList vs/\(vs.map (·.1)).Nodup
def vR(P:Program)(w:World)(K:tz0)(κ:tz9)(a:Addr)(ks:List Key)(ds:List D):Prop:=∃kvs,KDk P w K a kvs/\kvs.map (·.1)=ks/\∀H,Reps K κ H (kvs.map (·.2)) ds []
section
variable{X:Cx}{κ:tz9}{tg b:Expr}{fb:tz2}{pos p:Pos}{x:Str}{a:Addr}{ks:List Key}{ds:List D}
theorem xm1(hg:Gl X x)(hm:X.mg x=some (.ref a))(hk:KDk X.prog X.w X.K a kvs)(hi:PE X b ty)(hs:zy3 b)(hdb:(x==("__debug__":Str))=false:=by decide):
  PE X (.Subscript (.Name x p) b pos) (fun σ H Q=>ty σ H fun y H1=>∃k v,y=kV k/\lE kvs k=some v/\Q v H1):=by
 obtain⟨hsm,o,es,ep,vs,h1,h2,h3,h4,h5,h6,h7⟩:=hk
 constructor
 intro pins s σ H Q I h
 refine yc6 PySem.F.slot_dict_getitem.lookup hs (thn (qT (v:= .ref a) hg hm rfl hdb pins s σ H (fun x H1=>x= .ref a/\H1=H) I ⟨rfl,rfl⟩) fun u s1 ⟨x,H1,I1,r1,e1,e2⟩=> ?_)
 subst e1 e2
 cases r1
 refine thn (hi pins s1 σ H1 _ I1 h) fun iv s2 ⟨y,H2,I2,ry,k,v,ey,l,q2⟩=> ?_
 subst ey
 have dd:s2.heap.DictAt (fA X.prog X.w) a vs ep:=⟨o,es,I2.kIn a o h1,h2,h3,h5,h6,h7⟩
 obtain⟨w',hw,rw'⟩:=jC.some_of (v:=v) (o:=valueAt vs k) (by rw [<-l];exact h4.val k)
 exact⟨dd.dictOf.typeIs,wpAny_getItem_of (za4 ry) dd.dictOf.mapOf hw ⟨v,H2,I2.tok _,rw',q2⟩⟩
theorem yd6(hg:Gl X x)(hm:X.mg x=some (.ref a))(hk:vR X.prog X.w X.K κ a ks ds)(hb:QV X κ b fb)(hs:zy3 b:=by exact fun _ _=>rfl)(hdb:(x==("__debug__":Str))=false:=by decide):QV X κ (.Subscript (.Name x p) b pos) (f2 rX (fC (.dic false ks ds)) fb):=by
 obtain⟨kvs,hkd,hks,hds⟩:=hk
 refine(xm1 hg hm hkd hb hs hdb).imp fun σ H Q ⟨ps,d,w,e,q⟩=> ?_
 obtain⟨x,y,e1,e2,e3⟩:=tT e
 cases e1
 obtain⟨k,e4,e5⟩:=bind_some e3
 refine⟨ps,y,w,e2,fun u H1 fq s1 r1=> ?_⟩
 obtain⟨v,f,q1,q2,q3⟩:=zE hks (hds H1) e5
 exact⟨k,v,zg7 r1 e4,q1,q v H1 f s1 q2⟩
end
theorem zb1:∀ys:List (Str×Tok),bN (ys.map fun p=>V.str p.1) (ys.map fun p=>Value.str p.1 p.2)
 |[]=> .nil
 |y::ys=> .cons ⟨y.2,rfl⟩ (zb1 ys)
theorem zk7{K:tz0}{κ:tz9}{H:Hp}:∀ys:List (Str×Tok),Reps K κ H (ys.map fun p=>V.str p.1) (ys.map fun p=>D.str p.1) []
 |[]=> .nil
 |y::ys=> .cons (f:=[]) (g:=[]) (.str _) (zk7 ys)
theorem jA{K:tz0}{κ:tz9}{a:Addr}{ys:List (Str×Tok)}{od:Option Addr}{n:Nat}{sl:Array (Option Value)}(h:K.lookup a=some ⟨.type "tuple",od,.seq (ys.map fun p=>Value.str p.1 p.2).toArray n,sl⟩)(hl:ys.length<=1000)(H:Hp):
  Rep K κ H (.ref a) (.tup (ys.map fun p=>D.str p.1)) []:=
 .tup (.inr ⟨_,_,n,h,rfl,rfl,by rw [List.size_toArray,List.length_map];exact zo5 hl,zb1 ys⟩) (zk7 ys)
section
variable{X:Cx}{pins:tzB}{σ:St}{H:Hp}{s:Shared}{a C dx:Addr}{fs:List (Str×V)}{f:Str}{v:V}{A:Around}{E:Value->Shared->Prop}
theorem xt4(hok:HOk P w H h)(e:Rd H a (.ins C dx fs)):∃mA,ObjM h a dx C mA/\(∀f,jC (fs.lookup f) (mA f)):=by
 obtain⟨d,z,ne,ob,mA,n,r,q⟩:=(show dU P w H h a (.ins C dx fs) from e.ok hok)
 exact⟨mA,⟨ob,n,ne⟩,r⟩
theorem yj4(I:Inv X pins σ H s)(e:Rd H a (.ins C dx fs))(c:Cls X.K C)(n:cY X.K C f)(l:fs.lookup f=some v)
  (h:∀u s',Inv X pins σ H s'->cM v u->Q u s'):wpAny (model X.prog X.w) A (getAttr (.ref a) f b) Q E s:=by
 obtain⟨mA,O,r⟩:=xt4 I.hok e
 obtain⟨u,hu,ru⟩:=jC.some_of (v:=v) (o:=mA f) (by rw [<-l];exact r f)
 exact yc3 I.kIn O (c.get f) c.hd n hu (wP ru) (h u _ (I.tok _) ru)
end
def wd1(K:tz0)(ta:TE)(f:Str):TE:=fun σ H Q=>ta σ H fun x H1=>∃a C dx fs v,x= .ref a/\Rd H1 a (.ins C dx fs)/\Cls K C/\cY K C f/\fs.lookup f=some v/\Q v H1
theorem xm2(he:PE X e ta)(hb:attributeBase e f X.env (eval e X.env)=eval e X.env):PE X (.Attribute e f pos) (wd1 X.K ta f):=⟨by
 intro pins s σ H Q I h
 refine yc4 hb (thn (he pins s σ H _ I h) fun u s1 ⟨x,H1,I1,rx,a,C,dx,fs,v,ex,ea,c,n,l,q⟩=> ?_)
 subst ex
 obtain rfl:u=Value.ref a:=rx
 exact yj4 I1 ea c n l fun w' s2 I2 rw'=>⟨v,H1,I2,rw',q⟩⟩
def xz3(C f:Str):D->Option D
 | .obj _ C' ns vs=>if C'=C then(dD ns f).bind fun n=>vs[n]? else none
 |_=>none
def eD(C f:Str)(fo:tz2):tz2:=fun ps=>(fo ps).bind (xz3 C f)
theorem Rep.obj_inv{K:tz0}{κ:tz9}{H:Hp}{v:V}{o:Bool}{C:Str}{ns:List Str}{ds:List D}{fp:List Addr}(r:Rep K κ H v (.obj o C ns ds) fp):∃a dx fs g,v= .ref a/\Rd H a (.ins (κ C) dx fs)/\fs.map (·.1)=ns/\Reps K κ H (fs.map (·.2)) ds g/\g.Sublist fp:=by
 cases r with
 |obj h e hs=>exact⟨_,_,_,_,rfl,.inl h,e,hs,List.sublist_cons_self _ _⟩
 |objF h e hs=>exact⟨_,_,_,_,rfl,.inr ⟨_,h⟩,e,hs,.refl _⟩
section
variable{X:Cx}{κ:tz9}{o e:Expr}{C fn:Str}{fo:tz2}{pos:Pos}
theorem gI(hc:Cls X.K (κ C))(hna:cY X.K (κ C) fn)(ho:QV X κ o fo)(hb:attributeBase o fn X.env (eval o X.env)=eval o X.env:=by rfl):QV X κ (.Attribute o fn pos) (eD C fn fo):=
 (xm2 ho hb).imp fun σ H Q hh_=>by
  obtain⟨ps,d,w,e,q⟩:=hh_
  obtain⟨x,e1,e2⟩:=bind_some e
  refine⟨ps,x,w,e1,fun v H1 fp s1 r1=> ?_⟩
  cases x with
  |obj ow C' ns ds=>
   have e2':(if C'=C then(dD ns fn).bind fun n=>ds[n]? else none)=some d:=e2
   by_cases hC:C'=C
   case neg=>rw [if_neg hC] at e2';cases e2'
   rw [if_pos hC] at e2'
   subst hC
   obtain⟨n,e4,e5⟩:=bind_some e2'
   obtain⟨a,dx,fs,g,rfl,h,hk,hs,sub⟩:=r1.obj_inv
   subst hk
   obtain⟨u,f1,k3,k4,_⟩:=hs.get e5
   exact⟨a,κ C',dx,fs,u,rfl,h,hc,hna,rE e4 k3,q u H1 f1 s1 k4⟩
  |_=>cases e2
end
theorem yd7:∀{fs:List (Str×V)} {f:Str} {n:Nat} (v:V),dD (fs.map (·.1)) f=some n->(gS f v fs).map (·.1)=fs.map (·.1)/\(gS f v fs).map (·.2)=(fs.map (·.2)).set n v
 |[],_,_,_,h=>by cases h
 | (g,x)::r,f,n,v,h=>by
  rw [List.map_cons,dD] at h
  by_cases z:g=f
  ·have z':(g,x).1=f:=z
   rw [if_pos z'] at h;cases h
   rw [gS,if_pos z];exact⟨rfl,rfl⟩
  ·have z':¬(g,x).1=f:=z
   rw [if_neg z'] at h
   obtain⟨m,h1,h2⟩:=Option.map_eq_some_iff.mp h
   subst h2
   obtain⟨k1,k2⟩:=yd7 v h1
   rw [gS,if_neg z]
   exact⟨by rw [List.map_cons,List.map_cons,k1],by rw [List.map_cons,List.map_cons,List.set_cons_succ,k2]⟩
theorem zs7:∀{fs:List (Str×V)} {f:Str} (v:V),dD (fs.map (·.1)) f=none->(gS f v fs).map (·.1)=fs.map (·.1)++[f]/\(gS f v fs).map (·.2)=fs.map (·.2)++[v]
 |[],_,_,_=>⟨rfl,rfl⟩
 | (g,x)::r,f,v,h=>by
  rw [List.map_cons,dD] at h
  by_cases z:g=f
  ·have z':(g,x).1=f:=z
   rw [if_pos z'] at h;cases h
  ·have z':¬(g,x).1=f:=z
   rw [if_neg z'] at h
   obtain⟨k1,k2⟩:=zs7 v (Option.map_eq_none_iff.mp h)
   rw [gS,if_neg z]
   exact⟨by rw [List.map_cons,List.map_cons,k1];rfl,by rw [List.map_cons,List.map_cons,k2];rfl⟩
def yL(C f:Str)(y:D):D->Option (Unit×D)
 | .obj true C' ns vs=>if (C'=C/\ns.length<900) then(match dD ns f with
   |some n=>some ((),.obj true C' ns (vs.set n y))
   |none=>some ((),.obj true C' (ns++[f]) (vs++[y]))) else none
 |_=>none
theorem zs8(h:yL C f y d=some (r,d')):∃ns vs,d= .obj true C ns vs/\ns.length<900/\((∃n,dD ns f=some n/\d'= .obj true C ns (vs.set n y))\/(dD ns f=none/\d'= .obj true C (ns++[f]) (vs++[y]))):=by
 unfold yL at h
 split at h
 ·rename_i C' ns vs
  by_cases hh:C'=C/\ns.length<900
  ·rw [if_pos hh] at h
   obtain⟨hC,hl⟩:=hh
   subst hC
   cases q:dD ns f with
   |some n=>rw [q] at h;cases h;exact⟨ns,vs,rfl,hl,.inl ⟨n,q,rfl⟩⟩
   |none=>rw [q] at h;cases h;exact⟨ns,vs,rfl,hl,.inr ⟨q,rfl⟩⟩
  ·rw [if_neg hh] at h;cases h
 ·cases h
def jQ(j:Nat)(pf:PSt->Option (List Ps1))(C f:Str)(fe:tz2):tz1:=fun ps=>(fe ps).bind fun y=>((ps[j]?).join).bind fun d0=>(pf ps).bind fun p=>(gJ (yL C f y) d0 p).bind fun r=>some (.nx,ps.set j (some r.2))
theorem zs9:∀{ns:List Str} {f:Str} {n:Nat},dD ns f=some n->n<ns.length
 |[],_,_,h=>by cases h
 | m::ns,f,n,h=>by
  rw [dD] at h
  by_cases z:m=f
  ·rw [if_pos z] at h;cases h;simp
  ·rw [if_neg z] at h
   obtain⟨k,h1,h2⟩:=Option.map_eq_some_iff.mp h
   subst h2
   have:=zs9 h1
   simp;omega
section
variable{X:Cx}{κ:tz9}{φ:F0}{o e:Expr}{C fn:Str}{j:Nat}{pf:PSt->Option (List Ps1)}{fe:tz2}{pos pos':Pos}
theorem lS(hc:Cls X.K (κ C))(hna:cY X.K (κ C) fn)(hb:φ.bor j=false)(he:PE X e (tP X.K κ fe))(ho:PE X o (nI X.K κ j pf))(hs:swapsWith e (some (.Attribute o fn pos')) pos.line X.env=pure false:=by rfl):
  QS X κ φ (.Assign [.Attribute o fn pos'] e pos) (jQ j pf C fn fe):=
 (xr3 ho he hs).imp fun E σ H hh_=>by
  obtain⟨ps,F,fl,ps',R,e,q⟩:=hh_
  obtain⟨y,e1,e2⟩:=bind_some e
  obtain⟨d0,e3,e4⟩:=bind_some e2
  have e0:=join_some e3
  obtain⟨p,e5,e6⟩:=bind_some e4
  obtain⟨⟨r,d0'⟩,em,e9⟩:=bind_some e6
  cases e9
  obtain⟨dd,dn,gp,hh⟩:=lR em
  refine⟨ps,y,R.ws,e1,fun v H1 fy s1 n1 nd1 ry=>⟨ps,p,d0,dd,R.ws.same s1,e0,e5,gp,fun lv H2 v0 s2 ev a2=> ?_⟩⟩
  have s12:=s1.trans s2
  obtain⟨d1,d1',fd,m1,m2,m3,m4,m5⟩:=tW R s12 hb e0 ev em a2
  obtain⟨ns,vs,rfl,hlen,hd⟩:=zs8 m2
  obtain⟨l,dx,fs,g1,rfl,hl,hn,hr,rfl⟩:=m1.objT_inv
  subst hn
  have ry2:=ry.same s2
  obtain⟨nl,nd3⟩:=List.nodup_cons.mp m3
  have own0:∀a∈l::g1,H a≠none:=fun a ha z=>by obtain⟨o,h,_⟩:=R.own (m4 a ha);rw [z] at h;cases h
  have nl2:l∉fy:=fun z=>own0 l List.mem_cons_self (n1 l z)
  have hl9:fs.length<900:=by rw [List.length_map] at hlen;exact hlen
  refine⟨l,κ C,dx,fs,rfl,hl,hc,hna,by omega,?_⟩
  have go:∀(g2:List Addr),(∀a∈g2,a∈fy\/a∈g1)->g2.Nodup->Rep X.K κ (upd H2 l (.ins (κ C) dx (gS fn v fs))) (.ref l) d1' (l::g2)->∃F',Stp (φ.fx X.K κ) σ H F σ (upd H2 l (.ins (κ C) dx (gS fn v fs))) (ps.set j (some d0')) F':=fun g2 mem2 nd2 rp=>by
   have n2:l∉g2:=fun z=>(mem2 l z).elim nl2 nl
   obtain⟨F',st,ow⟩:=m5 (upd H2 l (.ins (κ C) dx (gS fn v fs))) (l::g2) [] (fun a o h _ hn=>zD h hn) (fun a h=>uV h) rp
    (by rw [List.append_nil,List.nodup_cons];exact⟨n2,nd2⟩)
    (fun a ha=>by
     rw [List.append_nil] at ha
     rcases List.mem_cons.mp ha with z|z
     ·exact .inl (by rw [z];exact List.mem_cons_self)
     ·exact(mem2 a z).elim (fun z=> .inr (n1 a z)) fun z=> .inl (List.mem_cons_of_mem _ z))
   exact⟨F',st⟩
  rcases hd with ⟨n,hx,rfl⟩|⟨hx,rfl⟩
  ·obtain⟨k1,k2⟩:=yd7 v hx
   have hn':=zs9 hx
   obtain⟨f1,bK,g2,p1,p2,p3⟩:=hr.setV (n:=n) (by rw [<-hr.length,List.length_map];rw [List.length_map] at hn';exact hn') ry2
   have mem2:∀a∈g2,a∈fy\/a∈g1:=fun a ha=>(List.mem_append.mp (p3.mem_iff.mp ha)).elim .inl fun z=> .inr (p1.mem_iff.mpr (List.mem_append_right _ z))
   have n2:l∉g2:=fun z=>(mem2 l z).elim nl2 nl
   have nd2:g2.Nodup:=p3.nodup_iff.mpr (List.nodup_append.mpr ⟨nd1,(List.nodup_append.mp (p1.nodup_iff.mp nd3)).2.1,fun a ha b hb e=>by
    subst e
    exact own0 a (List.mem_cons_of_mem _ (p1.mem_iff.mpr (List.mem_append_right _ hb))) (n1 a ha)⟩)
   obtain⟨F',st⟩:=go g2 mem2 nd2 (.obj dA k1 (by rw [k2];exact p2.updL hl rfl n2))
   exact q _ _ F' st
  ·obtain⟨k1,k2⟩:=zs7 v hx
   have mem2:∀a∈g1++fy,a∈fy\/a∈g1:=fun a ha=>(List.mem_append.mp ha).elim .inr .inl
   have n2:l∉g1++fy:=fun z=>(mem2 l z).elim nl2 nl
   have nd2:(g1++fy).Nodup:=List.nodup_append.mpr ⟨nd3,nd1,fun a ha b hb e=>by
    subst e
    exact own0 a (List.mem_cons_of_mem _ ha) (n1 a hb)⟩
   obtain⟨F',st⟩:=go (g1++fy) mem2 nd2 (.obj dA k1 (by rw [k2];exact(Reps.append hr (Reps.one ry2)).updL hl rfl n2))
   exact q _ _ F' st
end
structure Mn(K:tz0)(κ:tz9)(C m qual:Str)(st:Stmt)(ps:List Str)(f:Addr)(fd:FuncData):Prop where
 F:Fun K m qual st f fd
 b:lH K fd ps []
 c:Cls K (κ C)
 h:Meth K (κ C) m f
def fP(C m:Str)(fo:tz2):tz2:=fun ps=>(fo ps).bind fun d=>match d with
 | .obj true C' ns vs=>if (C'=C/\dD ns m=none) then some (.obj true C' ns vs) else none
 |_=>none
theorem uX(h:fP C m fo ps=some d):∃ns vs,d= .obj true C ns vs/\fo ps=some d/\dD ns m=none:=by
 obtain⟨x,e1,e2⟩:=bind_some h
 cases x with
 | obj o C' ns vs=>cases o with
  |true=>
   have e2':(if (C'=C/\dD ns m=none) then some (D.obj true C' ns vs) else none)=some d:=e2
   obtain⟨⟨hC,hn⟩,e3⟩:=bV e2'
   subst hC;cases e3
   exact⟨ns,vs,rfl,e1,hn⟩
  |false=>cases e2
 |_=>cases e2
theorem lB:∀{fs:List (Str×V)} {m:Str},dD (fs.map (·.1)) m=none->fs.lookup m=none
 |[],_,_=>rfl
 | (g,x)::r,m,h=>by
  rw [List.map_cons,dD] at h
  by_cases z:g=m
  ·have z':(g,x).1=m:=z
   rw [if_pos z'] at h;cases h
  ·have z':¬(g,x).1=m:=z
   rw [if_neg z'] at h
   have ih:=lB (Option.map_eq_none_iff.mp h)
   rw [List.lookup_cons]
   have:(m==g)=false:=by
    rw [beq_eq_false_iff_ne];exact fun e=>z e.symm
   rw [this];exact ih
section
variable{X:Cx}{κ:tz9}{o e:Expr}{es:List Expr}{C m qual:Str}{st:Stmt}{ps:List Str}{f:Addr}{fd:FuncData}{k np:Nat}{h:tz6}{fo:tz2}{g:tz3}{apos pos p:Pos}{pl:Sem Bool}
theorem zh0(M:Mn X.K κ C m qual st ps f fd)(G:FnOk X.prog X.w X.K X.mg X.base CX0 k f fd ps (SpP np X.K κ h))(hr:Room k X.A)(ho:QV X κ o fo)(hnp:(e::es).length+1=np)(ha:QVA X κ (e::es) g)(hlen:∀ps ds,g ps=some ds->ds.length=(e::es).length)
  (hst:starEach (e::es) X.env=(false,eval e X.env)::starEach es X.env:=by rfl) (hpl:(backTo pos (starEach es X.env)).any (·.1)=false:=by rfl)
  (ht:eval (.Call (.Attribute o m apos) (e::es) [] pos) X.env=(do
   let ov<-eval o X.env
   standAt apos.atName
   let (f,first)<-holding [ov] (getMethod ov m pl)
   callWith pos f first (backTo pos (starEach (e::es) X.env)) (backToKw pos (keywordEach [] X.env))):=by rfl):
  QP X κ (.Call (.Attribute o m apos) (e::es) [] pos) (aG h (aB (fP C m fo) g)):=(zf8 ho M.c M.h G hr M.b .nil uL ha hst hpl ht).imp fun σ H Q hh_=>by
 obtain⟨ps,d,w,e,q⟩:=hh_
 obtain⟨ds,e1,e2⟩:=bind_some e
 obtain⟨x,k1,k2⟩:=bind_some e1
 obtain⟨ds',k3,k4⟩:=bind_some k2
 cases k4
 obtain⟨ns,vs,rfl,k5,k6⟩:=uX k1
 refine⟨ps,_,w,k5,fun v H1 fp s1 r1=> ?_⟩
 have r1':=r1
 obtain⟨_,_,_,_,rfl,hl,hn,hs,rfl⟩:=r1.objT_inv
 subst hn
 refine⟨_,_,_,rfl,hl,lB k6,ps,ds',w.same s1,k3,fun us H2 fq s2 r2=> ?_⟩
 show SpP np X.K κ h (_::(us++[])) H2 Q E0
 rw [List.append_nil]
 exact⟨by rw [List.length_cons,r2.length,hlen ps ds' k3,hnp],_,_,d,.cons (r1'.same s2) r2,e2,q.after (s1.trans s2)⟩
theorem zG(M:Mn X.K κ C m qual st ps f fd)(G:FnOk X.prog X.w X.K X.mg X.base CX0 k f fd ps (SpP 1 X.K κ h))(hr:Room k X.A)(ho:QV X κ o fo)
  (ht:eval (.Call (.Attribute o m apos) [] [] pos) X.env=(do
   let ov<-eval o X.env
   standAt apos.atName
   let (f,first)<-holding [ov] (getMethod ov m pl)
   callWith pos f first (backTo pos (starEach [] X.env)) (backToKw pos (keywordEach [] X.env))):=by rfl):
  QP X κ (.Call (.Attribute o m apos) [] [] pos) (aG h (aB (fP C m fo) aD)):=(yX ho M.c M.h G hr M.b .nil uL ht).imp fun σ H Q hh_=>by
 obtain⟨ps,d,w,e,q⟩:=hh_
 obtain⟨ds,e1,e2⟩:=bind_some e
 obtain⟨x,k1,k2⟩:=bind_some e1
 obtain⟨ds',k3,k4⟩:=bind_some k2
 cases k4;cases k3
 obtain⟨ns,vs,rfl,k5,k6⟩:=uX k1
 refine⟨ps,_,w,k5,fun v H1 fp s1 r1=> ?_⟩
 have r1':=r1
 obtain⟨_,_,_,_,rfl,hl,hn,hs,rfl⟩:=r1.objT_inv
 subst hn
 exact⟨_,_,_,rfl,hl,lB k6,rfl,_,_,d,Reps.one r1',e2,q.after s1⟩
end
def lJ:Nat->Bool:=fun i=>decide (i=0)
def qQ(fd:List Addr):Nat->List Addr:=fun i=>if i=0 then fd else []
theorem kA(h:a∈qQ fd i):i=0/\a∈fd:=by
 unfold qQ at h
 by_cases z:i=0
 ·rw [if_pos z] at h;exact⟨z,h⟩
 ·rw [if_neg z] at h;exact absurd h (by simp)
theorem uY{K:tz0}{κ:tz9}{H:Hp}{v:V}{vs:List V}{d:D}{ds:List D}{fd:List Addr}(r:Rep K κ H v d fd)(nd:fd.Nodup)(rs:Reps K κ H vs ds []):
  RS (fxE K κ (ds.length+1) lJ) H ((v::vs).map some) ((d::ds).map some) (qQ fd):=by
 refine⟨fun i x hx=> ?_,fun i a ha=> ?_,fun i j a h1 h2=> ?_,fun i=> ?_,fun i a _ k z=>z.elim,fun k a z=>z.elim,by simp [rs.length]⟩
 ·cases i with
  |zero=>
   simp at hx;subst hx
   exact⟨v,fd,rfl,r,fun _=>rfl,fun z=>by simp [fxE,lJ] at z⟩
  | succ i=>
   rw [List.map_cons,List.getElem?_cons_succ,List.getElem?_map] at hx
   obtain⟨y,hy,e⟩:=Option.map_eq_some_iff.mp hx
   cases e
   obtain⟨u,f1,k1,k2,k3⟩:=rs.get hy
   have ef:f1=[]:=by
    cases f1 with
    |nil=>rfl
    |cons b l=>exact absurd (k3 b List.mem_cons_self) (by simp)
   subst ef
   exact⟨u,[],by rw [List.map_cons,List.getElem?_cons_succ,List.getElem?_map,k1];rfl,k2,(fun _=>by simp [qQ]),fun _ a ha=>absurd ha (by simp)⟩
 ·obtain⟨e,h⟩:=kA ha
  subst e
  exact⟨by simp [fxE,lJ],d,rfl⟩
 ·rw [(kA h1).1,(kA h2).1]
 ·unfold qQ;split
  ·exact nd
  ·exact List.nodup_nil
def ze8:List Arg->Bool
 |[]=>true
 | .im _::as=>ze8 as
 | .io _::_=>false
theorem ArgsAt.reps{K:tz0}{κ:tz9}{H:Hp}{σ:St}{ps:PSt}:∀{as:List Arg} {vs:List V} {ds:List D},ArgsAt K κ H σ ps as vs ds->ze8 as=true->Reps K κ H vs ds []
 |_,_,_,.nil,_=> .nil
 |_,_,_,.io _ _ _,h=>by cases h
 |_,_,_,.im r a,h=> .cons (f:=[]) (g:=[]) r (ArgsAt.reps a h)
def nJ(C m:Str)(g:tz7)(ys:List D)(d:D):Option (D×D):=match d with
 | .obj true C' ns vs=>if (C'=C/\dD ns m=none) then(g (.obj true C' ns vs::ys)).bind fun r=>match r.2 with
   |d'::ds=>if ds.length=ys.length then some (r.1,d') else none
   |[]=>none
  else none
 |_=>none
theorem zb2(h:nJ C m g ys d=some (r,d')):∃ns vs ds,d= .obj true C ns vs/\dD ns m=none/\g (d::ys)=some (r,d'::ds)/\ds.length=ys.length:=by
 unfold nJ at h
 split at h
 ·rename_i C' ns vs
  by_cases hc:C'=C/\dD ns m=none
  ·rw [if_pos hc] at h
   obtain⟨hC,hn⟩:=hc
   subst hC
   obtain⟨⟨r1,ds⟩,e1,e2⟩:=bind_some h
   cases ds with
   |nil=>cases e2
   |cons d1 ds=>
    obtain⟨hl,e3⟩:=bV e2
    cases e3
    exact⟨ns,vs,ds,rfl,hn,e1,hl⟩
  ·rw [if_neg hc] at h;cases h
 ·cases h
section
variable{X:Cx}{κ:tz9}{φ:F0}{o e:Expr}{es:List Expr}{C m qual:Str}{st:Stmt}{ps:List Str}{f:Addr}{fd:FuncData}{k np j:Nat}{mk:Nat->Bool}{g:tz7}{pf:PSt->Option (List Ps1)}{as:List Arg}{apos pos p:Pos}{pl:Sem Bool}
theorem zt0{σ:St}{H H1:Hp}{Q:VK}{ps:PSt}{F:Nat->List Addr}{d0 d0' r:D}{pp:List Ps1}{v0 v:V}{ys:List D}{us:List V}(R:RS (φ.fx X.K κ) H σ ps F)(s1:SameK H H1)(hb:φ.bor j=false)(e0:ps[j]? =some (some d0))(ev:σ[j]? =some (some v0))
  (em:gJ (nJ C m g ys) d0 pp=some (r,d0')) (at_:At H1 v0 pp v) (ry:Reps X.K κ H1 us ys []) (hnp:np=ys.length+1) (hm:mk=lJ)
  (q:∀v H' F' fv,Stp (φ.fx X.K κ) σ H F σ H' (ps.set j (some d0')) F'->OwnV F H F' fv->Rep X.K κ H' v r fv->Q v H'):SpE np X.K κ mk g (v::us) H1 Q E0:=by
 subst hnp hm
 obtain⟨d1,d1',fd,m1,m2,m3,m4,m5⟩:=tW R s1 hb e0 ev em at_
 obtain⟨ns,vs,ds,rfl,hn,eg,hl⟩:=zb2 m2
 refine⟨by rw [List.length_cons,ry.length],_,r,d1'::ds,qQ fd,by simp,uY m1 m3 ry,eg,fun u H' F' fv s o rv=> ?_⟩
 obtain⟨v2,fp2,k1,k2,k3,_⟩:=s.rs.rep 0 d1' rfl
 have ek:v2=v:=by
  have:(List.map some (v::us))[0]? =some (some v2):=k1
  simp at this;exact this.symm
 subst ek
 have k3':=k3 (by simp [fxE,lJ])
 subst k3'
 have old:∀a,((∃i,a∈qQ fd i)\/H1 a=none)->a∈fd\/H a=none:=fun a h=>h.elim (fun⟨i,hi⟩=> .inl (kA hi).2) fun z=> .inr (s1.grow a z)
 obtain⟨F2,st2,ow2⟩:=m5 H' (F' 0) fv (fun a o h k hn=>s.fr.keep a o h k fun i hi=>hn (kA hi).2) (fun a h=>s.fr.grow a h) k2
  (List.nodup_append.mpr ⟨s.rs.nd 0,o.nd,fun a ha b hb e=>by subst e;exact o.dis 0 a ha hb⟩)
  (fun a ha=>(List.mem_append.mp ha).elim (fun z=>old a (s.nw 0 a z)) fun z=>old a (o.nw a z))
 exact q u H' F2 fv st2 ow2 rv
theorem zt1{σ:St}{H H1:Hp}{ps:PSt}{F:Nat->List Addr}{d0 d0' r:D}{pp:List Ps1}{v0 v:V}{ys:List D}(R:RS (φ.fx X.K κ) H σ ps F)(s1:SameK H H1)(e0:ps[j]? =some (some d0))(ev:σ[j]? =some (some v0))
  (em:gJ (nJ C m g ys) d0 pp=some (r,d0')) (at_:At H1 v0 pp v):∃a dx fs,v= .ref a/\H1 a=some (.ins (κ C) dx fs)/\fs.lookup m=none:=by
 obtain⟨dd,dn,gp,hh⟩:=lR em
 obtain⟨ns,vs,ds,rfl,hn,_⟩:=zb2 hh
 obtain⟨fd,rd⟩:=xW R.ws s1 e0 ev gp at_
 obtain⟨_,_,_,_,rfl,hl,hk,hs,rfl⟩:=rd.objT_inv
 subst hk;exact⟨_,_,_,rfl,hl,lB hn⟩
theorem xm3(M:Mn X.K κ C m qual st ps f fd)(G:FnOk X.prog X.w X.K X.mg X.base CX0 k f fd ps (SpE np X.K κ mk g))(hr:Room k X.A)(hb:φ.bor j=false)(ho:PE X o (nI X.K κ j pf))(ha:PA X (e::es) (tIO X.K κ as))(has:ze8 as=true)(hnp:np=as.length+1)(hm:mk=lJ)
  (hst:starEach (e::es) X.env=(false,eval e X.env)::starEach es X.env:=by rfl) (hpl:(backTo pos (starEach es X.env)).any (·.1)=false:=by rfl)
  (ht:eval (.Call (.Attribute o m apos) (e::es) [] pos) X.env=(do
   let ov<-eval o X.env
   standAt apos.atName
   let (f,first)<-holding [ov] (getMethod ov m pl)
   callWith pos f first (backTo pos (starEach (e::es) X.env)) (backToKw pos (keywordEach [] X.env))):=by rfl):
  QE X κ φ (.Call (.Attribute o m apos) (e::es) [] pos) (dG j pf (fH as) (nJ C m g)):=(zf8 ho M.c M.h G hr M.b .nil uL ha hst hpl ht).imp fun σ H Q hh_=>by
 obtain⟨ps,F,d,ps',R,e,q⟩:=hh_
 obtain⟨d0,pp,ys,d0',e0,ep,eg,em,rfl⟩:=sH e
 obtain⟨dd,dn,gp,hh⟩:=lR em
 refine⟨ps,pp,d0,dd,R.ws,e0,ep,gp,fun v H1 v0 s1 ev a1=> ?_⟩
 obtain⟨a,dx,fs,rfl,hl,hn⟩:=zt1 R s1 e0 ev em a1
 refine⟨a,dx,fs,rfl,hl,hn,ps,ys,R.ws.same s1,eg,fun us H2 s2 a2=> ?_⟩
 show SpE np X.K κ mk g (_::(us++[])) H2 Q E0
 rw [List.append_nil]
 exact zt0 R (s1.trans s2) hb e0 ev em (a1.same s2) (a2.reps has) (by rw [hnp,a2.len.2]) hm q
theorem xb4(M:Mn X.K κ C m qual st ps f fd)(G:FnOk X.prog X.w X.K X.mg X.base CX0 k f fd ps (SpE 1 X.K κ mk g))(hr:Room k X.A)(hb:φ.bor j=false)(ho:PE X o (nI X.K κ j pf))(hm:mk=lJ)
  (ht:eval (.Call (.Attribute o m apos) [] [] pos) X.env=(do
   let ov<-eval o X.env
   standAt apos.atName
   let (f,first)<-holding [ov] (getMethod ov m pl)
   callWith pos f first (backTo pos (starEach [] X.env)) (backToKw pos (keywordEach [] X.env))):=by rfl):
  QE X κ φ (.Call (.Attribute o m apos) [] [] pos) (dG j pf aD (nJ C m g)):=(yX ho M.c M.h G hr M.b .nil uL ht).imp fun σ H Q hh_=>by
 obtain⟨ps,F,d,ps',R,e,q⟩:=hh_
 obtain⟨d0,pp,ys,d0',e0,ep,eg,em,rfl⟩:=sH e
 cases eg
 obtain⟨dd,dn,gp,hh⟩:=lR em
 refine⟨ps,pp,d0,dd,R.ws,e0,ep,gp,fun v H1 v0 s1 ev a1=> ?_⟩
 obtain⟨a,dx,fs,rfl,hl,hn⟩:=zt1 R s1 e0 ev em a1
 exact⟨a,dx,fs,rfl,hl,hn,zt0 (us:=[]) R s1 hb e0 ev em a1 .nil rfl hm q⟩
end
structure Kn(K:tz0)(mg:tzA)(κ:tz9)(C qual:Str)(st:Stmt)(ps:List Str)(f:Addr)(fd:FuncData):Prop where
 F:Fun K "__init__" qual st f fd
 b:lH K fd ps []
 M:Mk K (κ C) f
 m:mg C=some (.ref (κ C))
def oP(C:Str)(ga:tz3)(g:tz7):tz2:=fun ps=>(ga ps).bind fun ys=>(g (.obj true C [] []::ys)).bind fun r=>match r with
 |(.non,d'::_)=>some d'
 |_=>none
theorem zb3(h:oP C ga g ps=some d):∃ys ds,ga ps=some ys/\g (.obj true C [] []::ys)=some (.non,d::ds):=by
 obtain⟨ys,e1,e2⟩:=bind_some h
 obtain⟨⟨r,ds⟩,e3,e4⟩:=bind_some e2
 cases r with
 |non=>cases ds with
  |nil=>cases e4
  |cons d1 ds=>cases e4;exact⟨ys,ds,e1,e3⟩
 |_=>cases e4
section
variable{X:Cx}{κ:tz9}{e:Expr}{es:List Expr}{C qual:Str}{st:Stmt}{ps:List Str}{f:Addr}{fd:FuncData}{k np:Nat}{mk:Nat->Bool}{g:tz7}{as:List Arg}{pos p:Pos}
theorem yd8{H H1:Hp}{Q:VK}{d:D}{ys ds:List D}{us:List V}{x dx:Addr}(s1:SameK H H1)(hx:H1 x=none)(hdx:H1 dx=none)(hne:dx≠x)(ry:Reps X.K κ H1 us ys [])(hnp:np=ys.length+1)(hm:mk=lJ)(eg:g (.obj true C [] []::ys)=some (.non,d::ds))(q:lF X.K κ H d Q):
  SpE np X.K κ mk g (.ref x::us) (upd (upd H1 dx (.own x)) x (.ins (κ C) dx [])) (fun v H2=>v= .non/\Q (.ref x) H2) E0:=by
 subst hnp hm
 have ne:∀a o,H1 a=some o->a≠x/\a≠dx:=fun a o h=>⟨fun z=>(by rw [z,hx] at h;cases h),fun z=>(by rw [z,hdx] at h;cases h)⟩
 have up:∀a o,H1 a=some o->upd (upd H1 dx (.own x)) x (.ins (κ C) dx []) a=some o:=fun a o h=>by rw [cI (ne a o h).1,cI (ne a o h).2];exact h
 have gr:∀a,upd (upd H1 dx (.own x)) x (.ins (κ C) dx []) a=none->H1 a=none:=fun a h=>by
  by_cases z:a=x
  ·rw [z];exact hx
  ·rw [cI z] at h
   by_cases z2:a=dx
   ·rw [z2];exact hdx
   ·rwa [cI z2] at h
 have s2:SameK H1 (upd (upd H1 dx (.own x)) x (.ins (κ C) dx [])):=⟨fun a o h _=>up a o h,gr⟩
 have r0:Rep X.K κ (upd (upd H1 dx (.own x)) x (.ins (κ C) dx [])) (.ref x) (.obj true C [] []) [x]:= .obj (fs:=[]) dA rfl .nil
 have ry2:Reps X.K κ (upd (upd H1 dx (.own x)) x (.ins (κ C) dx [])) us ys []:=ry.move (fun a o h _=>up a o h) fun a ha=>absurd ha (by simp)
 refine⟨by rw [List.length_cons,ry.length],_,.non,d::ds,qQ [x],by simp,uY r0 (by simp) ry2,eg,fun u H' F' fv s o rv=>⟨by cases rv;rfl,?_⟩⟩
 obtain⟨v2,fp2,k1,k2,k3,_⟩:=s.rs.rep 0 d rfl
 have ek:v2= .ref x:=by
  have:(List.map some (V.ref x::us))[0]? =some (some v2):=k1
  simp at this;exact this.symm
 subst ek
 have k3':=k3 (by simp [fxE,lJ])
 subst k3'
 refine q (.ref x) H' (F' 0) ⟨fun a o h hk=> ?_,fun a h=>s1.grow a (gr a (s.fr.grow a h))⟩ (fun a ha=> ?_) (s.rs.nd 0) k2
 ·have h1:=s1.keep a o h hk
  refine s.fr.keep a o (up a o h1) hk fun i hi=> ?_
  have:=(kA hi).2
  simp at this
  exact(ne a o h1).1 this
 ·rcases s.nw 0 a ha with ⟨i,hi⟩|z
  ·have:=(kA hi).2
   simp at this
   subst this
   exact s1.grow a hx
  ·exact s1.grow a (gr a z)
theorem yd9(Kd:Kn X.K X.mg κ C qual st ps f fd)(G:FnOk X.prog X.w X.K X.mg X.base CX0 k f fd ps (SpE np X.K κ mk g))(hr:Room (k+1) X.A)(hg:Gl X C)(ha:PA X (e::es) (tIO X.K κ as))(has:ze8 as=true)(hnp:np=as.length+1)(hm:mk=lJ)
  (hdb:(C==("__debug__":Str))=false:=by decide) (he:starEach (e::es) X.env=(false,eval e X.env)::starEach es X.env:=by rfl) (hpl:(backTo pos (starEach es X.env)).any (·.1)=false:=by rfl):
  QP X κ (.Call (.Name C p) (e::es) [] pos) (oP C (fH as) g):=(xk0 Kd.M G hr hg Kd.m Kd.b .nil uL ha hdb he hpl).imp fun σ H Q hh_=>by
 obtain⟨ps,d,w,e,q⟩:=hh_
 obtain⟨ys,ds,e1,e2⟩:=zb3 e
 refine⟨ps,ys,w,e1,fun us H1 s1 a1 x dx hx hdx hne=> ?_⟩
 show SpE np X.K κ mk g (_::(us++[])) _ _ E0
 rw [List.append_nil]
 exact yd8 s1 hx hdx hne (a1.reps has) (by rw [hnp,a1.len.2]) hm e2 q
theorem zt2(Kd:Kn X.K X.mg κ C qual st ps f fd)(G:FnOk X.prog X.w X.K X.mg X.base CX0 k f fd ps (SpE 1 X.K κ mk g))(hr:Room (k+1) X.A)(hg:Gl X C)(hm:mk=lJ)
  (hdb:(C==("__debug__":Str))=false:=by decide):
  QP X κ (.Call (.Name C p) [] [] pos) (oP C aD g):=(yz3 Kd.M G hr hg Kd.m Kd.b .nil uL hdb).imp fun σ H Q hh_=>by
 obtain⟨ps,d,w,e,q⟩:=hh_
 obtain⟨ys,ds,e1,e2⟩:=zb3 e
 cases e1
 exact fun x dx hx hdx hne=>yd8 (us:=[]) (.refl H) hx hdx hne .nil rfl hm e2 q
end
theorem xb5(kvs:List (Key×V))(k:Key):(lE kvs k).isSome=(kvs.map (·.1)).any fun j=>decide (j=k):=by
 rw [<-yZ,List.any_map];rfl
def pF(ks:List Key)(fa:tz2):tz4:=fun ps=>(fa ps).bind fun d=>d.key.bind fun k=>some (ks.any fun j=>decide (j=k))
section
variable{X:Cx}{κ:tz9}{i:Expr}{fa:tz2}{pos p:Pos}{x:Str}{a:Addr}{ks:List Key}{ds:List D}
theorem xt5(hg:Gl X x)(hm:X.mg x=some (.ref a))(hk:KDk X.prog X.w X.K a kvs)(hi:PE X i ty)(hdb:(x==("__debug__":Str))=false:=by decide):
  PC X .In i (.Name x p) (fun σ H Q=>ty σ H fun y H1=>∃k,y=kV k/\Q (.bl (lE kvs k).isSome) H1):=by
 obtain⟨hsm,o,es,ep,vs,h1,h2,h3,h4,h5,h6,h7⟩:=hk
 intro pins s σ H Q I h
 refine thn (hi pins s σ H _ I h) fun iv s1 ⟨y,H1,I1,ry,k,ey,q1⟩=>thn (qT (v:= .ref a) hg hm rfl hdb pins s1 σ H1 (fun x H2=>x= .ref a/\H2=H1) I1 ⟨rfl,rfl⟩) fun u s2 ⟨x2,H2,I2,rx,e1,e2⟩=> ?_
 subst e1 e2 ey
 cases rx
 have dd:s2.heap.DictAt (fA X.prog X.w) a vs ep:=⟨o,es,I2.kIn a o h1,h2,h3,h5,h6,h7⟩
 refine wpAny_in_of (za4 ry) hsm dd.dictOf.mapOf ?_
 rw [<-(h4.val k).isSome_eq]
 exact⟨.bl _,H2,I2.tok _,rfl,q1⟩
theorem zt3(hg:Gl X x)(hm:X.mg x=some (.ref a))(hk:vR X.prog X.w X.K κ a ks ds)(ha:QV X κ i fa)(hdb:(x==("__debug__":Str))=false:=by decide)(hmk:behindInMarks .In (.Name x p)=false:=by rfl):QT X κ (.Compare i [.In] [.Name x p] pos) (pF ks fa):=by
 obtain⟨kvs,hkd,hks,hds⟩:=hk
 refine(yo7 (xt5 hg hm hkd ha hdb) hmk).imp fun σ H Q ⟨ps,b,w,e,q⟩=> ?_
 obtain⟨d,e1,e2⟩:=bind_some e
 obtain⟨k,e3,e4⟩:=bind_some e2
 cases e4
 refine⟨ps,d,w,e1,fun v H1 fp s1 r1=>⟨k,zg7 r1 e3,?_⟩⟩
 rw [xb5,hks]
 exact⟨_,rfl,q H1 s1⟩
end
section
variable{X:Cx}{κ:tz9}
theorem ys7:MtR X "str.startswith" (fun x xs H Q=>∃z y,x= .str z/\xs=[.str y]/\Q (.bl (Txt.startswith z y)) H):=⟨by
 intro pins s σ H x xs v us Q I rx r h
 obtain⟨z,y,rfl,rfl,q⟩:=h
 obtain⟨t,rfl⟩:=rx
 obtain⟨u,rfl,t',rfl⟩:=nX r
 exact SC.startswith ⟨.bl _,H,I.tok _,rfl,q⟩⟩
def fM:D->tz6
 | .str z,[.str y]=>some (.bl (Txt.startswith z y))
 |_,_=>none
theorem rF:MtR X "str.startswith" (PMt X.K κ fM):=⟨by
 rintro pins s σ H x vs v us Q I rx r ⟨dx,ds,fx,fp,d,r1,rs,e,q⟩
 unfold fM at e
 split at e
 ·cases e
  obtain⟨w,rfl,r2⟩:=rs.one_inv
  exact ys7 pins s σ H x _ v us Q I rx r ⟨_,_,r1.is_str,by rw [r2.is_str],q.now (.bl _)⟩
 ·cases e⟩
end
theorem kG(n:Nat):dE (true::List.replicate n false)=lJ:=by
 funext i
 unfold dE lJ
 cases i with
 |zero=>rfl
 |succ i=>
  rw [List.getElem?_cons_succ,List.getElem?_replicate]
  split<;>simp
def kap:List (Str×Addr)->tz9
 |[],_=>mainGlobals
 |(x,a)::r,y=>if x=y then a else kap r y
section
variable{X:Cx}{κ:tz9}{φ:F0}{a b o e:Expr}{es bK:List Expr}{pos apos p:Pos}{j:Nat}{pf:PSt->Option (List Ps1)}
def xz4(X:Cx)(e:Expr)(t:TE):Prop:=
 ∀(pins:tzB) (s:Shared) (σ:St) (H:Hp) (Q:VK),0<s.toks->Inv X pins σ H s->t σ H Q->wpAny (model X.prog X.w) X.A (eval e X.env) (EP X pins σ Q) X.xe s
structure PEk(X:Cx)(e:Expr)(t:TE):Prop where
 go:xz4 X e t
instance {X:Cx} {e:Expr} {t:TE}:CoeFun (PEk X e t) fun _=>xz4 X e t:=⟨PEk.go⟩
end
def DkT{α:Type}:Sem α->Prop
 | .pure _=>True
 | .raise _=>True
 | .unsupported _=>True
 | .rule _ k=>∀x,DkT (k x)
 | .at _ k=>∀x,DkT (k x)
 | .load _ _ k=>∀x,DkT (k x)
 | .update _ _ f k=>(∀o:Obj,(f o).dict=o.dict)/\∀x,DkT (k x)
 | .alloc _ k=>∀x,DkT (k x)
 | .stack k=>∀x,DkT (k x)
 |_=>False
theorem DkT.bind{α β:Type}{f:α->Sem β}(hf:∀a,DkT (f a)):∀{m:Sem α},DkT m->DkT (m>>=f):=by
 intro m
 show DkT m->DkT (m.bind f)
 induction m with
 |pure a=>exact fun _=>hf a
 |raise=>exact fun _=>trivial
 |unsupported=>exact fun _=>trivial
 |rule _ k ih=>exact fun h x=>ih x (h x)
 |«at» _ k ih=>exact fun h x=>ih x (h x)
 |load _ _ k ih=>exact fun h x=>ih x (h x)
 |update _ _ f k ih=>exact fun h=>⟨h.1,fun x=>ih x (h.2 x)⟩
 |alloc _ k ih=>exact fun h x=>ih x (h x)
 |stack k ih=>exact fun h x=>ih x (h x)
 |_=>exact fun h=>h.elim
def KDs(h h':Heap):Prop:=∀(b:Nat) (o:Obj),h.objs[b]? =some o->∃o':Obj,h'.objs[b]? =some o'/\o'.dict=o.dict
theorem KDs.refl(h:Heap):KDs h h:=fun b o e=>⟨o,e,rfl⟩
theorem KDs.trans(x:KDs a b)(y:KDs b c):KDs a c:=fun i o e=>by
 obtain⟨o1,e1,q1⟩:=x i o e
 obtain⟨o2,e2,q2⟩:=y i o1 e1
 exact⟨o2,e2,q2.trans q1⟩
theorem yj5(d:∀o:Obj,(f o).dict=o.dict)(h:Heap):KDs h (h.update a f):=fun b o e=>by
 obtain⟨os,l⟩:=h
 show ∃o':Obj,(os.modify a f)[b]? =some o'/\o'.dict=o.dict
 have e':os[b]? =some o:=e
 rw [Array.getElem?_modify,e']
 split
 ·exact⟨_,rfl,d o⟩
 ·exact⟨o,rfl,rfl⟩
theorem xb6(h:Heap)(x:Obj):KDs h (h.push x):=fun b o e=>by
 obtain⟨os,l⟩:=h
 have e':os[b]? =some o:=e
 refine⟨o,?_,rfl⟩
 show(os.push x)[b]? =some o
 have hl:=(Array.getElem?_eq_some_iff.mp e').1
 rw [Array.getElem?_push,if_neg (Nat.ne_of_lt hl)];exact e'
theorem wa7:∀(t:Sem α),DkT t->∀{Q:α->Pos->Shared->Prop} (p:Pos) (s:Shared),Sem.wp M Γ t Q E p s->Sem.wp M Γ t (fun a p s'=>Q a p s'/\KDs s.heap s'.heap) E p s:=by
 intro t
 have up:∀{t:Sem α} {Q:α->Pos->Shared->Prop} {p:Pos} {s:Shared} {h:Heap},KDs h s.heap->Sem.wp M Γ t (fun a p s'=>Q a p s'/\KDs s.heap s'.heap) E p s->Sem.wp M Γ t (fun a p s'=>Q a p s'/\KDs h s'.heap) E p s:=fun k x=>Sem.wp_mono M Γ _ (fun _ _ _ z=>⟨z.1,k.trans z.2⟩) (fun _ _ _ z=>z) _ _ x
 induction t with
 |pure a=>exact fun _ Q p s h=>⟨h,.refl _⟩
 |raise e=>exact fun _ Q p s h=>h
 |unsupported=>exact fun _ Q p s h=>h
 |rule _ k ih=>exact fun d Q p s h=>ih () (d ()) p s h
 |«at» p' k ih=>exact fun d Q p s h=>ih () (d ()) p' s h
 |load a _ k ih=>exact fun d Q p s h=>by obtain⟨o,e,h⟩:=h;exact⟨o,e,ih o (d o) p s h⟩
 |update a _ f k ih=>exact fun d Q p s h=>⟨h.1,up (yj5 d.1 _) (ih () (d.2 ()) p _ h.2)⟩
 |alloc o k ih=>exact fun d Q p s h=>up (t:=k s.heap.objs.size) (s:={s with heap:=s.heap.push o}) (xb6 _ o) (ih _ (d _) p _ h)
 |stack k ih=>exact fun d Q p s h=>ih _ (d _) p s h
 |_=>exact fun d=>d.elim
theorem rG(d:DkT t)(h:wpAny M A t Q E s):wpAny M A t (fun a s'=>Q a s'/\KDs s.heap s'.heap) E s:=
 fun Γ p hΓ=>wa7 t d p s (h Γ p hΓ)
theorem zh1(o:Obj)(f:Array Value->Array Value):(Obj.mapFields f o).dict=o.dict:=by
 unfold Obj.mapFields
 split<;>rfl
theorem zh2:DkT (load a):=fun _=>trivial
theorem uZ{v:Value}{i:Nat}:DkT (field v i):=by
 unfold field fieldsOf
 refine DkT.bind (fun _=>by split<;>trivial) ?_
 split
 ·exact DkT.bind (fun _=>by split<;>trivial) zh2
 ·trivial
theorem zt4{v x:Value}{i:Nat}:DkT (setField v i x):=by
 unfold setField updateField
 split
 ·refine DkT.bind (fun _=> ?_) zh2
  split
  ·split
   ·exact⟨fun o=>zh1 o _,fun _=>trivial⟩
   ·trivial
  ·trivial
 ·trivial
theorem wV{e:Value}{f:Option Addr}:DkT (setFlight e f):=by
 unfold setFlight
 refine DkT.bind (fun _=> ?_) uZ
 split
 ·exact zt4
 ·trivial
theorem zt5:∀l:List Env,DkT (readyFrames l)
 |[]=>trivial
 | env::outer=>by
  unfold readyFrames
  split
  ·refine DkT.bind (fun _=> ?_) zh2
   split
   ·trivial
   ·refine DkT.bind (fun _=>DkT.bind (fun _=>DkT.bind (fun _=>zt5 outer) (by exact⟨fun _=>rfl,fun _=>True.intro⟩)) ?_) ?_
    ·unfold keptBack
     split
     ·split
      ·trivial
      ·exact DkT.bind (fun _=>by exact True.intro) (DkT.bind (fun _=>by exact True.intro) (by exact fun _=>True.intro))
     ·trivial
    ·unfold behindIsImport
     split
     ·trivial
     ·split
      ·trivial
      ·exact DkT.bind (fun _=>by exact True.intro) uZ
  ·trivial
theorem ye0{e:Value}{env:Env}:DkT (noteFrame e env):=by
 unfold noteFrame
 split
 ·refine DkT.bind (fun hd=> ?_) uZ
  have nw:∀{f:Addr} {b:Bool},DkT (do setField e 1 (<-EntryCells.newEntry hd (<-PySem.frameOf env) .none (rawInt f) .none (<-entryPlaceOf f b))):=fun {f b}=>by
   refine DkT.bind (fun _=>DkT.bind (fun _=>DkT.bind (fun _=>zt4) ?_) ?_) ?_
   ·unfold EntryCells.newEntry newFields newObj newObjAsIs
    dsimp only
    split<;>split<;>first|exact True.intro|exact fun _=>True.intro
   ·unfold entryPlaceOf
    refine DkT.bind (fun _=> ?_) (by exact fun _=>True.intro)
    split<;>trivial
   ·unfold PySem.frameOf
    refine DkT.bind (fun _=>DkT.bind (fun _=>by split<;>trivial) ?_) (DkT.bind (fun _=>by exact True.intro) (by exact fun _=>True.intro))
    unfold frameObject
    split
    ·trivial
    ·exact DkT.bind (fun _=>by exact True.intro) (zt5 _)
  split
  ·refine DkT.bind (fun _=> ?_) uZ
   split
   ·exact True.intro
   ·exact DkT.bind (fun _=>nw) zt4
  ·exact nw
 ·trivial
theorem zt6{e:Value}{env:Env}:DkT (leaving env e):=DkT.bind (fun _=>wV) ye0
def KD(e:Addr)(dd:Option Addr)(h:Heap):Prop:=∃o,h.get? e=some o/\o.dict=dd
theorem zt7{h:Heap}{e:Addr}{o:Obj}(q:h.get? e=some o):h.objs[e]? =some o:=by
 unfold Heap.get? at q
 split at q
 ·cases q
 ·exact q
theorem KD.step{e:Addr}{dd:Option Addr}{h h':Heap}(k:KD e dd h)(s:KDs h h')(t:∃o,h'.get? e=some o):KD e dd h':=by
 obtain⟨o,q1,q2⟩:=k
 obtain⟨o',q3⟩:=t
 obtain⟨o2,q4,q5⟩:=s e o (zt7 q1)
 rw [zt7 q3] at q4
 cases q4
 exact⟨o',q3,q5.trans q2⟩
section
variable{M:Model}{A:Around}{E:Value->Shared->Prop}{s:Shared}{base:Heap}{env:Env}{outer:List Env}{L e:Addr}{oe:Obj}{vs:Array Value}{dd:Option Addr}{cls a0:Value}
theorem yj6(fr:A.frames=some (env::outer))(hf:env.frame=some L)(fl:Heap.FlyingW base (env::outer) e cls a0 s.heap)(kd:KD e dd s.heap)(q:∀h',Heap.FlyingW base outer e cls a0 h'->s.heap.UpToSlots h'->KD e dd h'->Q () {s with heap:=h'}):wpAny M A (leaving env (.ref e)) Q E s:=
 wpAny_mono (rG zt6 (wpAny_leaves_onW (Q:=fun _ s'=>∃h',s'={s with heap:=h'}/\Heap.FlyingW base outer e cls a0 h'/\s.heap.UpToSlots h') fr hf fl fun h' x y=>⟨h',rfl,x,y⟩)) (fun _ _ h=>by
  obtain⟨⟨h',rfl,x,y⟩,z⟩:=h
  exact q h' x y (kd.step z (x.there.imp fun _ w=>w.1))) fun _ _ h=>h
theorem ys8(fr:A.frames=some (env::outer))(ff:s.heap.FunFrames base (env::outer))(hf:env.frame=some L)(he:s.heap.get? e=some oe)(kb:base.StaysIn s.heap)(en:base.get? e=none)(hd:oe.data= .fields vs)(h1:vs[1]? =some .none)(h0:vs[0]? =some a0)(kd:oe.dict=dd)
  (q:∀h',Heap.LeftW base (env::outer) e oe.cls a0 s.heap h'->KD e dd h'->Q () {s with heap:=h'}):wpAny M A (leaving env (.ref e)) Q E s:=
 wpAny_mono (rG zt6 (wpAny_leaving_firstW (Q:=fun _ s'=>∃h',s'={s with heap:=h'}/\Heap.LeftW base (env::outer) e oe.cls a0 s.heap h') fr ff hf he kb en hd h1 h0 fun h' x=>⟨h',rfl,x⟩)) (fun _ _ h=>by
  obtain⟨⟨h',rfl,x⟩,z⟩:=h
  exact q h' x (KD.step ⟨oe,he,kd⟩ z (x.2.2.1.at.there.imp fun _ w=>w.1))) fun _ _ h=>h
theorem ys9(fr:A.frames=some (env::outer))(hf:env.frame=some L)(fl:Heap.FlyingW base (env::outer) e cls a0 s.heap)(kd:KD e dd s.heap)(q:∀h',Heap.HeldW base (env::outer) e cls a0 L h'->s.heap.UpToSlots h'->KD e dd h'->Q () {s with heap:=h'}):wpAny M A (noteFrame (.ref e) env) Q E s:=
 wpAny_mono (rG ye0 (wpAny_looks_onW (Q:=fun _ s'=>∃h',s'={s with heap:=h'}/\Heap.HeldW base (env::outer) e cls a0 L h'/\s.heap.UpToSlots h') fr hf fl fun h' x y=>⟨h',rfl,x,y⟩)) (fun _ _ h=>by
  obtain⟨⟨h',rfl,x,y⟩,z⟩:=h
  exact q h' x y (kd.step z (x.there.imp fun _ w=>w.1))) fun _ _ h=>h
theorem xt6(hh:Heap.HeldW base l e cls a0 L s.heap)(kd:KD e dd s.heap)(q:∀h',Heap.FlyingW base l e cls a0 h'->s.heap.UpToSlots h'->KD e dd h'->Q () {s with heap:=h'}):wpAny M A (setFlight (.ref e) none) Q E s:=
 wpAny_mono (rG wV (wpAny_landsW (Q:=fun _ s'=>∃h',s'={s with heap:=h'}/\Heap.FlyingW base l e cls a0 h'/\s.heap.UpToSlots h') hh fun h' x y=>⟨h',rfl,x,y⟩)) (fun _ _ h=>by
  obtain⟨⟨h',rfl,x,y⟩,z⟩:=h
  exact q h' x y (kd.step z (x.there.imp fun _ w=>w.1))) fun _ _ h=>h
theorem xm4(hh:Heap.FlyingW base l e cls a0 s.heap)(kd:KD e dd s.heap)(q:∀h',Heap.FlyingW base l e cls a0 h'->s.heap.UpToSlots h'->KD e dd h'->Q () {s with heap:=h'}):wpAny M A (setFlight (.ref e) none) Q E s:=
 wpAny_mono (rG wV (PyProof.Rows.lands_againW (Q:=fun _ s'=>∃h',s'={s with heap:=h'}/\Heap.FlyingW base l e cls a0 h'/\s.heap.UpToSlots h') hh fun h' x y=>⟨h',rfl,x,y⟩)) (fun _ _ h=>by
  obtain⟨⟨h',rfl,x,y⟩,z⟩:=h
  exact q h' x y (kd.step z (x.there.imp fun _ w=>w.1))) fun _ _ h=>h
end
theorem dU.get(x:dU P w H h a o):∃u,h.get? a=some u:=by
 cases o with
 |lst xs=>obtain⟨_,_,_,_,e⟩:=x;exact⟨_,e⟩
 |tup xs=>obtain⟨_,_,_,_,e,_⟩:=x;exact⟨_,e⟩
 |dK kvs=>obtain⟨_,_,_,_,o,_,_,e,_⟩:=x;exact⟨_,e⟩
 |dT kvs=>obtain⟨_,_,_,_,o,_,_,e,_⟩:=x;exact⟨_,e⟩
 |set S n=>obtain⟨o,_,_,_,e,_⟩:=x;exact⟨_,e⟩
 |ins C dx fs=>obtain⟨_,_,_,e,_⟩:=x;exact⟨_,e⟩
 |own y=>exact x
 |xd fs=>obtain⟨_,⟨_,_,_,e,_⟩,_⟩:=x;exact⟨_,e⟩
 |rng lo hi=>obtain⟨_,_,_,e⟩:=x;exact⟨_,e⟩
 |frz ob u=>obtain⟨e,_⟩:=x;exact⟨_,e⟩
 |tbl ps=>exact⟨_,(show h.get? a=some _ from x)⟩
 |met f y=>exact⟨_,(show h.get? a=some _ from x)⟩
 |ext φ=>obtain⟨_,e,_⟩:=x;exact e
theorem HOk.none_of(x:HOk P w H h){a:Addr}(e:h.get? a=none):H a=none:=by
 cases q:H a with
 |none=>rfl
 |some o=>obtain⟨u,z⟩:=(x a o q).get;rw [e] at z;cases z
theorem HOk.but(x:HOk P w H h)(k:∀b o u,H b=some o->h.get? b=some u->h'.get? b=some u):HOk P w H h':=fun a o e=>
 (x a o e).stay (fun b u hb q=>by
  rcases hb with rfl|hb
  ·exact k _ _ _ e q
  ·exact k _ _ _ hb q) (fun _ q=>q) fun _ _ q=>q
theorem zk8(e:(PySem.W.hideAll h as).get? b=none):b∈as\/h.get? b=none:=by
 cases q:h.get? b with
 |none=>exact .inr rfl
 |some o=>
  by_cases m:b∈as
  ·exact .inl m
  ·rw [PySem.W.hideAll_get as q m] at e;cases e
theorem ye1(h:env∈l)(e:env.frame=some a):a∈frs l:=List.mem_filterMap.mpr ⟨env,h,e⟩
structure Fly(base:Heap)(C:Addr)(l:List Env)(H:Hp)(h0:Heap)(e T:Addr)(a0:Value)(h:Heap):Prop where
 ne:h0.get? e=none
 nT:h0.get? T=none
 He:H e=none
 HT:H T=none
 st:base.StaysIn h
 be:base.get? e=none
 bT:base.get? T=none
 fr:h.FunFrames base l
 tr:∃oe vs oT ts,h.get? e=some oe/\(oe.cls= .ref C/\vs[0]? =some a0)/\oe.data= .fields vs/\vs[1]? =some (.ref T)/\T≠e/\h.get? T=some oT/\oT.data= .fields ts/\ts[3]? =some .none
abbrev xf6(h:Heap)(l:List Env)(e T:Addr):Heap:=PySem.W.hideAll h (e::T::frs l)
section
variable{base h0 h:Heap}{C e T:Addr}{l:List Env}{H:Hp}{a0:Value}
theorem Fly.flying(x:Fly base C l H h0 e T a0 h):Heap.FlyingW (xf6 h l e T) l e (.ref C) a0 h:=by
 obtain⟨oe,vs,oT,ts,h1,h2,h3,h4,h5,h6,h7,h8⟩:=x.tr
 refine⟨fun b o q=>PySem.W.of_hideAll _ q,PySem.W.hideAll_none _ List.mem_cons_self,PySem.W.funFrames_hide x.fr fun env m a q=>List.mem_cons_of_mem _ (List.mem_cons_of_mem _ (ye1 m q)),?_⟩
 exact⟨oe,vs,T,oT,ts,h1,h2,h3,h4,PySem.W.hideAll_none _ (List.mem_cons_of_mem _ List.mem_cons_self),h5,h6,h7,h8⟩
theorem Fly.base_in(x:Fly base C l H h0 e T a0 h):base.StaysIn (xf6 h l e T):=fun b o q=>by
 refine PySem.W.hideAll_get _ (x.st b o q) fun m=> ?_
 rcases List.mem_cons.mp m with z|m
 ·rw [z,x.be] at q;cases q
 ·rcases List.mem_cons.mp m with z|m
  ·rw [z,x.bT] at q;cases q
  ·rw [(x.fr.mem m).1] at q;cases q
theorem Fly.next(x:Fly base C l H h0 e T a0 h)(ok:HOk P w H h)(th:∀b o,h0.get? b=some o->∃o',h.get? b=some o'){h':Heap}{l':List Env}(ups:h.UpToSlots h')(f:Heap.FlyingW (xf6 h l e T) l' e (.ref C) a0 h'):∃T',Fly base C l' H h0 e T' a0 h':=by
 obtain⟨k1,k2,k3,oe,vs,T',oT,ts,h1,h2,h3,h4,h5,h6,h7,h8,h9⟩:=f
 have hT:T'=T\/h.get? T'=none:=by
  rcases zk8 h5 with m|m
  ·rcases List.mem_cons.mp m with z|m
   ·exact absurd z h6
   ·rcases List.mem_cons.mp m with z|m
    ·exact .inl z
    ·obtain⟨_,o,q1,q2⟩:=x.fr.mem m
     obtain⟨sl,q3⟩:=ups T' o q1 q2
     rw [h7] at q3;cases q3
     exact absurd h8 (q2 _)
  ·exact .inr m
 refine⟨T',x.ne,?_,x.He,?_,fun b o q=>k1 b o (x.base_in b o q),x.be,?_,PySem.W.funFrames_base x.base_in k3,oe,vs,oT,ts,h1,h2,h3,h4,h6,h7,h8,h9⟩
 ·rcases hT with z|z
  ·rw [z];exact x.nT
  ·cases q:h0.get? T' with
   |none=>rfl
   |some o=>obtain⟨o',q'⟩:=th _ _ q;rw [z] at q';cases q'
 ·rcases hT with z|z
  ·rw [z];exact x.HT
  ·exact ok.none_of z
 ·cases q:base.get? T' with
  |none=>rfl
  |some o=>have:=x.base_in T' o q;rw [h5] at this;cases this
end
theorem zh3(fr:h.FunFrames base l)(ups:h.UpToSlots h')(st:(PySem.W.hideAll h (S++frs l)).StaysIn h'):Un (frs l) S H H h h':=by
 have kp:∀b o,h.get? b=some o->b∉frs l->b∉S->h'.get? b=some o:=fun b o q n1 n2=>st b o (PySem.W.hideAll_get _ q fun m=>(List.mem_append.mp m).elim n2 n1)
 have sl:∀b o,h.get? b=some o->b∈frs l->∃s,h'.get? b=some {o with slots:=s}:=fun b o q m=>by
  obtain⟨_,o',q1,q2⟩:=fr.mem m
  rw [q] at q1;cases q1
  exact ups b o q q2
 refine⟨fun b o q _ hb hx=>kp b o q hb hx,fun b o q _ hb _=>sl b o q hb,fun _ _ _ n _=>n,fun b o q hx=> ?_,fun _ _ q=>q,fun _ _ _ q=>q,fun _ ps q=>⟨#[],by rw [q];simp⟩⟩
 by_cases hb:b∈frs l
 ·obtain⟨s,e⟩:=sl b o q hb;exact⟨_,e⟩
 ·exact⟨o,kp b o q hb hx⟩
theorem zh4(u:Un fs' ex' H H' h h')(hx:∀b o,h.get? b=some o->b∉ex')(hf:∀b o,h.get? b=some o->b∈fs'->b∈fs):Un fs [] H H' h h':=
 ⟨fun b o q n hb _=>u.keep b o q n (fun z=>hb (hf b o q z)) (hx b o q),fun b o q n _ _=>u.any q n (hx b o q),fun b o q n _=>u.free b o q n (hx b o q),fun b o q _=>u.there b o q (hx b o q),u.tups,u.frzs,u.tbls⟩
theorem zH(ok:HOk P w H h)(hS:∀b∈S,H b=none)(hF:∀b∈frs l,H b=none)(st:(PySem.W.hideAll h (S++frs l)).StaysIn h'):HOk P w H h':=
 ok.but fun b o u e q=>st b u (PySem.W.hideAll_get _ q fun m=>by
  rcases List.mem_append.mp m with m|m
  ·rw [hS b m] at e;cases e
  ·rw [hF b m] at e;cases e)
def CXn(P:Program)(w:World)(base:Heap)(C:Addr):CXT:=fun outer H s E e s'=>∃ea T a0 dd H',e= .ref ea/\s'.os=s.os/\AllBare s'.gens/\Un (frs outer) [] H H' s.heap s'.heap/\HOk P w H' s'.heap/\Fly base C outer H' s.heap ea T a0 s'.heap/\KD ea dd s'.heap/\E (.ref C) dd H'
theorem Fly.down(x:Fly base C l H h1 e T a0 h)(th:∀b o,h0.get? b=some o->∃o',h1.get? b=some o'):Fly base C l H h0 e T a0 h:=by
 have none:∀{b:Addr},h1.get? b=none->h0.get? b=none:=fun {b} z=>by
  cases q:h0.get? b with
  |none=>rfl
  |some o=>obtain⟨o',q'⟩:=th _ _ q;rw [z] at q';cases q'
 exact⟨none x.ne,none x.nT,x.He,x.HT,x.st,x.be,x.bT,x.fr,x.tr⟩
section
variable{P:Program}{w:World}{K:tz0}{mg:tzA}{base:Heap}{N:List Str}{qual:Str}{scope:Scope}{f C:Addr}{cd:Value}{A:Around}{outer:List Env}{s:Shared}{H:Hp}{E:XK}
theorem xZ:frs (envOfC qual scope s.heap.objs.size f cd::outer)=s.heap.objs.size::frs outer:=rfl
theorem yj7:oO (CXn P w base C) (fQ (CXn P w base C) P w K mg base N qual scope f cd A outer s H E) E:=by
 intro pins σ H1 s1 e s2 I h
 obtain⟨ea,T,a0,dd,H2,rfl,os,bare,un,hok,fly,kd,q⟩:=h
 have stk:∀b∈frs (envOfC qual scope s.heap.objs.size f cd::outer),H2 b=none:=fun b m=>by
  obtain⟨_,o,q1,_⟩:=(show s1.heap.FunFrames base (envOfC qual scope s.heap.objs.size f cd::outer) from I.stack).mem m
  exact un.free b o q1 (I.stkFree b m) (by simp)
 have th1:∀b o,s1.heap.get? b=some o->∃o',s2.heap.get? b=some o':=fun b o q=>un.there b o q (by simp)
 have th0:∀b o,s.heap.get? b=some o->∃o',s1.heap.get? b=some o':=fun b o q=>I.base.there b o q (by show b∉([]:List Addr);simp)
 show wpAny (model P w) (A.deeper (envOfC qual scope s.heap.objs.size f cd)) (leaving (envOfC qual scope s.heap.objs.size f cd) (.ref ea)) (fun _ s''=>CXn P w base C outer H s E (.ref ea) s'') (fun e' s''=>CXn P w base C outer H s E e' s'') s2
 refine yj6 (L:=s.heap.objs.size) I.ok.frames rfl fly.flying kd fun h' fl ups kd'=> ?_
 obtain⟨T',fly'⟩:=fly.next hok th1 ups fl
 have st:(PySem.W.hideAll s2.heap ([ea,T]++frs (envOfC qual scope s.heap.objs.size f cd::outer))).StaysIn h':=fl.1
 have u1:Un (frs (envOfC qual scope s.heap.objs.size f cd::outer)) [ea,T] H H1 s.heap s1.heap:=(show Un (frs outer) [] H H1 s.heap s1.heap from I.base).mono (fun b m=>by rw [xZ];exact List.mem_cons_of_mem _ m) (fun b m=>absurd m (by simp))
 have u2:=un.mono (fs':=frs (envOfC qual scope s.heap.objs.size f cd::outer)) (ex':=[ea,T]) (fun b m=>m) (fun b m=>absurd m (by simp))
 have u3:Un (frs (envOfC qual scope s.heap.objs.size f cd::outer)) [ea,T] H2 H2 s2.heap h':=zh3 fly.fr ups st
 refine⟨ea,T',a0,dd,H2,rfl,os.trans (show s1.os=s.os from I.os),bare,zh4 ((u1.trans u2).trans u3) (fun b o q m=> ?_) (fun b o q m=> ?_),zH hok (fun b m=> ?_) stk st,fly'.down th0,kd',q⟩
 ·obtain⟨o',q'⟩:=th0 b o q
  rcases List.mem_cons.mp m with z|m
  ·rw [z,fly.ne] at q';cases q'
  ·rw [List.mem_singleton.mp m,fly.nT] at q';cases q'
 ·rw [xZ] at m
  rcases List.mem_cons.mp m with z|m
  ·exact absurd (Heap.lt_size q) (by rw [z];exact Nat.lt_irrefl _)
  ·exact m
 ·rcases List.mem_cons.mp m with z|m
  ·rw [z];exact fly.He
  ·rw [List.mem_singleton.mp m];exact fly.HT
end
abbrev mC(C:Addr)(dx:Option Addr)(t:Addr):Obj:={cls:= .ref C,dict:=dx,data:= .fields #[.ref t,.none,.none,.none,.bool false,.none]}
section
variable{P:Program}{w:World}{K:tz0}{mg:tzA}{base:Heap}{N:List Str}{qual:Str}{scope:Scope}{f C:Addr}{cd:Value}{A:Around}{outer:List Env}{s:Shared}{H:Hp}{E:XK}
theorem yt0(I:Inv (fQ (CXn P w base C) P w K mg base N qual scope f cd A outer s H E) pins σ H2 s2)(ne:s.heap.get? e=none)(He:H2 e=none)(he:s2.heap.get? e=some (mC C dd t))(q:E (.ref C) dd H2):
  (fQ (CXn P w base C) P w K mg base N qual scope f cd A outer s H E).xe (.ref e) s2:=by
 have fr1:s2.heap.FunFrames base (envOfC qual scope s.heap.objs.size f cd::outer):=I.stack
 have nf:∀b∈frs (envOfC qual scope s.heap.objs.size f cd::outer),base.get? b=none:=fun b m=>(fr1.mem m).1
 have be:base.get? e=none:=by
  cases z:base.get? e with
  |none=>rfl
  |some o=>have:=(I.ok.bs e o z).1;rw [show(fQ (CXn P w base C) P w K mg base N qual scope f cd A outer s H E).s₀.heap.get? e=none from ne] at this;cases this
 have th0:∀b o,s.heap.get? b=some o->∃o',s2.heap.get? b=some o':=fun b o q=>I.base.there b o q (by show b∉([]:List Addr);simp)
 have bin:base.StaysIn (PySem.W.hideAll s2.heap ([e]++frs (envOfC qual scope s.heap.objs.size f cd::outer))):=fun b o q=>by
  refine PySem.W.hideAll_get _ (I.bk b o q) fun m=> ?_
  rcases List.mem_append.mp m with m|m
  ·rw [List.mem_singleton.mp m,be] at q;cases q
  ·rw [nf b m] at q;cases q
 show wpAny (model P w) (A.deeper (envOfC qual scope s.heap.objs.size f cd)) (leaving (envOfC qual scope s.heap.objs.size f cd) (.ref e)) (fun _ s''=>CXn P w base C outer H s E (.ref e) s'') (fun e' s''=>CXn P w base C outer H s E e' s'') s2
 refine ys8 (base:=PySem.W.hideAll s2.heap ([e]++frs (envOfC qual scope s.heap.objs.size f cd::outer))) (L:=s.heap.objs.size) (a0:= .ref t) I.ok.frames (PySem.W.funFrames_hide fr1 fun env m a q=>List.mem_append_right _ (ye1 m q)) rfl he (fun b o q=>PySem.W.of_hideAll _ q) (PySem.W.hideAll_none _ (List.mem_append_left _ (List.mem_singleton_self e))) rfl rfl rfl rfl fun h'' hL kd=> ?_
 obtain⟨st,fr2,⟨oe,vs2,T,oT,ts,h1,h2,h3,h4,h5,h6,h7,h8,h9⟩,ups⟩:=hL
 have hT:s2.heap.get? T=none:=by
  rcases zk8 h5 with m|m
  ·rcases List.mem_append.mp m with m|m
   ·exact absurd (List.mem_singleton.mp m) h6
   ·obtain⟨_,o,q1,q2⟩:=fr1.mem m
    obtain⟨sl,q3⟩:=ups T o q1 q2
    rw [h7] at q3;cases q3
    exact absurd h8 (q2 _)
  ·exact m
 have hT0:s.heap.get? T=none:=by
  cases z:s.heap.get? T with
  |none=>rfl
  |some o=>obtain⟨o',z'⟩:=th0 T o z;rw [hT] at z';cases z'
 have bT:base.get? T=none:=by
  cases z:base.get? T with
  |none=>rfl
  |some o=>have:=I.bk T o z;rw [hT] at this;cases this
 have u1:Un (frs (envOfC qual scope s.heap.objs.size f cd::outer)) [e] H H2 s.heap s2.heap:=(show Un (frs outer) [] H H2 s.heap s2.heap from I.base).mono (fun b m=>by rw [xZ];exact List.mem_cons_of_mem _ m) (fun b m=>absurd m (by simp))
 have u3:Un (frs (envOfC qual scope s.heap.objs.size f cd::outer)) [e] H2 H2 s2.heap h'':=zh3 fr1 ups st
 refine⟨e,T,.ref t,dd,H2,rfl,(show s2.os=s.os from I.os),I.bare,zh4 (u1.trans u3) (fun b o q m=> ?_) (fun b o q m=> ?_),zH I.hok (fun b m=> ?_) I.stkFree st,⟨ne,hT0,He,I.hok.none_of hT,fun b o q=>st b o (bin b o q),be,bT,PySem.W.funFrames_base bin fr2.2.2,oe,vs2,oT,ts,h1,h2,h3,h4,h6,h7,h8,h9⟩,kd,q⟩
 ·rw [List.mem_singleton.mp m,ne] at q;cases q
 ·rw [xZ] at m
  rcases List.mem_cons.mp m with z|m
  ·exact absurd (Heap.lt_size q) (by rw [z];exact Nat.lt_irrefl _)
  ·exact m
 ·rw [List.mem_singleton.mp m];exact He
end
theorem PS.nox{X:Cx}{st:Stmt}{t:TS}(h:PS X.nox st t):PS X st t:=⟨fun pins s σ H D I hw=>
 wpAny_mono (h pins s σ H D (I.wish _) hw) (fun _ _ q=>q.unwish) fun _ _ z=>False.elim z⟩
theorem yt1(k:Frm (fun _=>[]) H H'):SameK H H':=⟨fun a o h kk=>k.keep a o h kk (fun _=>by simp),k.grow⟩
section
variable{X:Cx}{κ:tz9}{φ:F0}{Ex:Hp->Prop}{fx:tz5}{st:Stmt}{bK:List Stmt}{pos:Pos}
theorem sI:PSs X bK (fun _ _ _=>False):=⟨fun _ _ _ _ _ _ h=>h.elim⟩
end
theorem PA.nox(h:PA X.nox es t):PA X es t:=⟨fun pos pins s σ H Q I hw=>
 wpAny_mono (h pos pins s σ H Q (I.wish _) hw) (fun _ _ q=>by obtain⟨vs,H',I',r,q⟩:=q;exact⟨vs,H',I'.unwish,r,q⟩) fun _ _ z=>False.elim z⟩
abbrev bmV:List Value:=[.type "ValueError",.type "Exception",.type "BaseException",.type "object"]
theorem Stp.frm(s:Stp φ σ H F σ1 H1 ps1 F1)(fr:Frm F1 H1 H2):Frm F H H2:=
 ⟨fun a o h k n=>fr.keep a o (s.fr.keep a o h k n) k fun i m=>by
  exact(s.nw i a m).elim (fun⟨j,z⟩=>n j z) (fun z=>by rw [z] at h;cases h),fun a z=>s.fr.grow a (fr.grow a z)⟩
theorem xt7(h1:PSs X l t)(h2:PSs X l u):PSs X l (fun D σ H=>t D σ H\/u D σ H):=⟨fun pins s σ H D I h=>h.elim (h1 pins s σ H D I) (h2 pins s σ H D I)⟩
end L2
namespace L2
section
open PySem PySem.W PySem.Calls PyProof.Rows Builtin Builtin.ObjectAttr Builtin.Getset_descriptor
def zp0(x D:Addr)(h:Heap):Prop:=∃o,h.get? x=some o/\o.cls= .ref D
variable{prog:Program}{w:World}{A:Around}{E:Value->Shared->Prop}{s:Shared}{K:tz0}{x D:Addr}{name:Str}
theorem oC(I:zp0 x D h):Looks M h (typeOf (.ref x)) (.ref D):=by
 obtain⟨o,h1,h2⟩:=I
 exact h2▸(Looks.ld h1).andThen .now
theorem ya4(X:K.In h){a g:Value}(ha:findIn K (.ref D) name=some (some a))(hg:specialIn K a "__get__"=some (some g))(ht:takesIn K a=some true):
  Looks M h (find (.ref x) (.ref D) name) (.bind g a):=
 (looks_findIn (M:=M) X ha).andThen ((looks_specialIn X hg).andThen ((show Looks M h (dataDescriptor? (some a) (some g)) (some (g,a)) from(looks_takesIn (M:=M) X ht).andThen .now).andThen (Looks.tag .now)))
theorem yj8(X:K.In s.heap)(I:zp0 x D s.heap)(hm:mroIn K D (.type "object")=some true)(h:R (.ok (.ret (.ref D))) s):
  codeAny (model prog w) A (.call (.builtin "getset_descriptor.__get__") ⟨[.builtin "object.__class__",.ref x,tp],[]⟩) R s:=by
 obtain⟨h1,g1,d1,t1,o1⟩:=s;have L0:=oC (M:=model prog w) I;have L1:=looks_mroIn (M:=model prog w) X hm
 refine codeAny_call_builtin KF.slot_gs.plain KF.entry_gs (KF.slot_gs.check _ _ _ _ _ _ _ _ KF.type_class (KF.args_gs _ _ _) ?_);unfold Builtin.«getset_descriptor.__get__» descrGet;rw [dga_obj]
 refine wpAny_bind (wpAny_pure ?_);unfold descrGetter descrCheckInstance descrNameAndClass isInstance;simp only [KF.owner_class];repeat lk
 refine⟨Code.quiet_builtin _ (by decide+kernel),codeAny_builtin KF.entry_class ?_⟩;unfold Builtin.«object.__class__» shownTypeOf;repeat lk
 exact h
theorem yj9(hga:findIn K (.ref D) "__getattribute__"=some (some (.builtin "BaseException.__getattribute__")))(hgt:findIn K (.ref D) "__getattr__"=some none)(ha:findIn K (.ref D) "__class__"=some (some (.builtin "object.__class__")))
 (hn:specialIn K (.builtin "object.__class__") "__get__"=some (some (.builtin "getset_descriptor.__get__"))) (htk:takesIn K (.builtin "object.__class__")=some true) (hm:mroIn K D (.type "object")=some true) (hb:mroIn K D (.type "BaseException")=some true)
 (X:K.In s.heap) (I:zp0 x D s.heap) (h:Q (some (.ref D)) {s with toks:=s.toks+1}):wpAny (model prog w) A (getAttr? (.ref x) "__class__") Q E s:=by
 obtain⟨h1,g1,d1,t1,o1⟩:=s;have L0:=oC (M:=model prog w) I;have L1:=looks_findIn (M:=model prog w) X hga
 have L3:=ya4 (M:=model prog w) (x:=x) X ha hn htk;have L4:=looks_findIn (M:=model prog w) X hgt
 have FB:=PySem.F.excAttr_ValueError
 have f3:=FB.ga.bind (.ref x)
 have hx2:(Value.builtin "BaseException.__getattribute__"==Value.builtin "object.__getattribute__")=false:=by decide+kernel
 have hx1:(onTheHeap (Value.ref D)&&Value.builtin "BaseException.__getattribute__"==Value.builtin "object.__getattribute__")=false:=by rw [hx2];rfl
 unfold getAttr? getAttrBy? getAttrBy
 repeat (any_goals (first|assumption|with_reducible refine Looks.at L0 ?_|with_reducible refine Looks.at L1 ?_|with_reducible refine Looks.at L4 ?_|wp_step))
 refine codeAny_call_builtin FB.ga.plain F.entry_bexc_ga ?_
 have hk:builtinKind "BaseException.__getattribute__"=some .slot:=by decide+kernel
 have hsplit:splitId "BaseException.__getattribute__"=some ("BaseException","__getattribute__"):=by decide+kernel
 have LB:=looks_mroIn (M:=model prog w) X hb
 have ha2:=F.args_bexc_ga (.ref x) (.str "__class__" t1)
 simp only [checkBuiltinCall,hk,hsplit]
 refine wpAny_bind ?_
 unfold isInstance
 have L5:=looks_findIn (M:=model prog w) X ha
 have L6:Looks (model prog w) h1 (getOf (some (.builtin "object.__class__"))) (some (.builtin "getset_descriptor.__get__")):=looks_specialIn X hn
 have L7:Looks (model prog w) h1 (dataDescriptor? (some (.builtin "object.__class__")) (some (.builtin "getset_descriptor.__get__"))) (some (.builtin "getset_descriptor.__get__",.builtin "object.__class__")):=(looks_takesIn (M:=model prog w) X htk).andThen .now
 repeat (first|with_reducible refine Looks.at L0 ?_|with_reducible refine Looks.at LB ?_|with_reducible refine Looks.at L3 ?_|with_reducible refine Looks.at L5 ?_|with_reducible refine Looks.at L6 ?_|with_reducible refine Looks.at L7 ?_|wp_step)
 refine yj8 X I hm ?_
 repeat (any_goals (first|assumption|wp_step))
theorem zt8(hga:findIn K (.ref D) "__getattribute__"=some (some (.builtin "BaseException.__getattribute__")))(hgt:findIn K (.ref D) "__getattr__"=some none)(ha:findIn K (.ref D) "__class__"=some (some (.builtin "object.__class__")))
  (hn:specialIn K (.builtin "object.__class__") "__get__"=some (some (.builtin "getset_descriptor.__get__"))) (htk:takesIn K (.builtin "object.__class__")=some true) (hm:mroIn K D (.type "object")=some true) (hb:mroIn K D (.type "BaseException")=some true) (hC:(clsIn K D).isSome=true):KitX K (.ref x) (.ref D) (zp0 x D):=by
 obtain⟨cd,hcD⟩:=Option.isSome_iff_exists.mp hC
 have ho:∃c' d' sl',K.lookup D=some ⟨c',d',.cls cd,sl'⟩:=by
  unfold clsIn at hcD
  split at hcD
  ·rename_i c' d' cd' sl' ho;cases hcD;exact⟨_,_,_,ho⟩
  ·cases hcD
 obtain⟨c',d',sl',ho⟩:=ho
 refine⟨fun _ _ _ I=>oC I,fun _ _ X _=> ?_,fun h tp dd its n sl X htp=> ?_,fun X I k=>yj9 hga hgt ha hn htk hm hb X I k⟩
 ·intro A' Q' E' s' k q
  unfold isType loadHead;exact wpAny_bind (wpAny_loadPart (k _ _ (X _ _ ho)) (wpAny_pure q))
 ·refine Bool.eq_false_iff.mpr fun q=> ?_
  have e:D=tp:=Value.ref.inj (beq_iff_eq.mp q)
  subst e
  have z:=(X _ _ ho).symm.trans htp;cases z
end
open PySem PySem.Spec PyProof.Rows
section
variable{X:Cx}{pins:tzB}{σ:St}{H:Hp}{s:Shared}
theorem Inv.swap{h':Heap}{t':Nat}{σ':St}{m':tzA}(I:Inv X pins σ H s)(hs:Heap.SameBut X.env.locals s.heap h')(hn:h'.Ns X.env.locals m')(hl:σ'.length=X.N.length)
  (hv:∀(i:Nat) (x:Str) (v:V),X.N[i]? =some x->σ'[i]? =some (some v)->Vis X.env.scope x->∃u,cM v u/\xx1 X.env h' m' x u):Inv X pins σ' H {s with heap:=h',toks:=t'}:=by
 have ne:∀b o,X.s₀.heap.get? b=some o->b≠X.env.locals:=fun b o e=>Nat.ne_of_lt (Nat.lt_of_lt_of_le (Heap.lt_size e) I.ok.above)
 have cell:∀{c:Addr} {v:Option Value},c≠X.env.locals->s.heap.IsCell c v->h'.IsCell c v:=fun {c v} n ⟨o,q1,q2⟩=>⟨o,(hs.2 c n).trans q1,q2⟩
 refine⟨I.ok,I.os,I.bare,⟨fun b o e n hb hx=>(hs.2 b (ne b o e)).trans (I.base.keep b o e n hb hx),fun b o e n hb hx=> ?_,I.base.free,fun b o e hx=> ?_,I.base.tups,I.base.frzs,I.base.tbls⟩,⟨m',hn,hv⟩,fun y c e=> ?_,I.free,I.freeC,fun p hp=> ?_,I.hok.but fun b o u e q=> ?_,hl⟩
 ·exact(I.base.slot b o e n hb hx).imp fun sl z=>(hs.2 b (ne b o e)).trans z
 ·exact(I.base.there b o e hx).imp fun o' z=>(hs.2 b (ne b o e)).trans z
 ·exact(I.cell y c e).imp fun v z=>cell (I.cne y c e) z
 ·obtain⟨q1,q2,q3,q4⟩:=I.pin p hp
  exact⟨(hs.2 p.1 q3).trans q1,q2,q3,q4⟩
 ·refine(hs.2 b fun z=> ?_).trans q
  rw [z,I.free] at e;cases e
theorem xm5{M:Model}{A:Around}{E:Value->Shared->Prop}{i:Nat}{x:Str}{pos:Pos}{Q:Unit->Shared->Prop}(I:Inv X pins σ H s)(hN:X.N.Nodup)(hi:X.N[i]? =some x)(hk:X.env.kindOf x=some .local)
  (h:∀s',Inv X pins (σ.set i none) H s'->Q () s'):wpAny M A (do bindName X.env x .none;unbindBehindTheSuite X.env x pos) Q E s:=by
 obtain⟨m,hn,hl⟩:=id I.loc
 refine wpAny_nameGoes_keeps hk hn (by rw [I.ok.kind];rfl) fun h' v hn' hs=>h _ (I.swap hs hn' (by rw [List.length_set];exact I.len) fun j y u e1 e2 e3=> ?_)
 have hji:j≠i:=fun z=>by
  subst z
  have:(σ.set j none)[j]? =some (some u):=e2
  rw [List.getElem?_set] at this
  simp at this
 rw [List.getElem?_set_ne (Ne.symm hji)] at e2
 obtain⟨u',r,l⟩:=hl j y u e1 e2 e3
 have hyx:y≠x:=fun z=>by
  subst z
  exact hji ((List.getElem?_inj (List.getElem?_eq_some_iff.mp e1).1 hN).mp (e1.trans hi.symm))
 refine⟨u',r,?_⟩
 rcases l with ⟨hk',hm⟩|⟨hk',c,hc,o,q1,q2⟩
 ·exact .inl ⟨hk',by show(if y=x then v else m y)=_;rw [if_neg hyx];exact hm⟩
 ·exact .inr ⟨hk',c,hc,o,(hs.2 c (I.cne y c hc)).trans q1,q2⟩
end
theorem xm6{K:tz0}{h:Heap}{nm qn:Str}{C N:Addr}{bs bm:List Value}{hdct:Bool}{sn:List Str}{sub:List Value}{ab:Bool}{col:Option Bool}{dd:Option Addr}{k0 k1 k2 k3 k5:Option Value}{newId:String}{v:Value}(X:K.In h)
  (hC:h.get? C=some (excClassObj nm qn C N bs bm hdct sn sub ab col dd k0 k1 k2 k3 k5 newId)) (e:PySem.W.mroIn K C v=some true):(Value.ref C::bm).contains v=true:=by
 unfold PySem.W.mroIn at e
 obtain⟨cd,hc,e⟩:=Option.bind_eq_some_iff.mp e
 unfold PySem.W.clsIn at hc
 split at hc
 ·rename_i ho
  cases hc
  have z:=X _ _ ho
  rw [hC] at z
  cases z
  split at e
  ·cases e
  ·exact Option.some.inj e
 ·cases hc
section
variable{M:Model}{A:Around}{E:Value->Shared->Prop}
theorem zn6{h:Heap}{g:Array GenState}{d:Drawn}{t:Nat}{os:OsState}{e:Addr}{oe:Obj}{Q:Bool->Shared->Prop}
  {nm qn:Str} {C N:Addr} {bs bm:List Value} {hdct:Bool} {sn:List Str} {sub:List Value} {ab:Bool} {col:Option Bool} {dd:Option Addr} {k0 k1 k2 k3 k5:Option Value} {newId:String}
  {nm2 qn2:Str} {C2 N2:Addr} {bs2 bm2:List Value} {hdct2:Bool} {sn2:List Str} {sub2:List Value} {ab2:Bool} {col2:Option Bool} {dd2:Option Addr} {j0 j1 j2 j3 j5:Option Value} {newId2:String}
  (hC:h.get? C=some (excClassObj nm qn C N bs bm hdct sn sub ab col dd k0 k1 k2 k3 k5 newId)) (hC2:h.get? C2=some (excClassObj nm2 qn2 C2 N2 bs2 bm2 hdct2 sn2 sub2 ab2 col2 dd2 j0 j1 j2 j3 j5 newId2))
  (he:h.get? e=some oe) (hcls:oe.cls= .ref C) (hbase:bm2.contains (.type "BaseException")=true) (hup:(Value.ref C::bm).contains (.ref C2)=true)
  (hq:Q true ⟨h,g,d,t,os⟩):wpAny M A (excMatches (.ref e) (.ref C2)) Q E ⟨h,g,d,t,os⟩:=by
 have hcB:(Value.ref C2::bm2).contains (.type "BaseException")=true:=by rw [List.contains_cons,hbase,Bool.or_true]
 have f:=tc_notTuple
 unfold excMatches
 repeat (first|(with_reducible refine wpAny_loadPart_at he ?_;rw [hcls])|with_reducible refine wpAny_loadPart_at hC2 ?_|(with_reducible refine wpAny_isSubtype_exc hC2 ?_;rw [hcB])|(with_reducible refine wpAny_isSubtype_exc hC ?_;rw [hup])|wp_step)
 exact hq
end
def yM(C:Addr)(h:Heap):Prop:=∃bm N nm qn bs hdct sn sub ab col dd k0 k1 k2 k3 k5 nid,h.get? C=some (excClassObj nm qn C N bs bm hdct sn sub ab col dd k0 k1 k2 k3 k5 nid)/\bm.contains (.type "BaseException")=true
theorem yM.keeps{C:Addr}{h h':Heap}(x:yM C h)(k:∀b o,h.get? b=some o->h'.get? b=some o):yM C h':=by
 obtain⟨bm,N,nm,qn,bs,hdct,sn,sub,ab,col,dd,k0,k1,k2,k3,k5,nid,e,hb⟩:=x
 exact⟨bm,N,nm,qn,bs,hdct,sn,sub,ab,col,dd,k0,k1,k2,k3,k5,nid,k _ _ e,hb⟩
section
variable{X:Cx}{C C2:Addr}{pins:tzB}{σ:St}{H1:Hp}{s1 s2:Shared}{E1:XK}{e:Value}
theorem xm7{x n bad:Str}{i j:Nat}{np bp np2 ap p5:Pos}{Q:Flow->Shared->Prop}{E:Value->Shared->Prop}(I:Inv X pins σ H1 s1)(hstk:X.stack=X.env::X.outer)(hf:X.env.frame=some X.env.locals)
  (O:yM C X.base) (O2:yM C2 X.base) (hb2:X.mg x=some (.ref C2)) (up:PySem.W.mroIn X.K C (.ref C2)=some true) (hg:Gl X x)
  (h:CXn X.prog X.w X.base C X.stack H1 s1 E1 e s2) (hN:X.N.Nodup) (hi:X.N[i]? =some n) (hj:X.N[j]? =some bad) (hij:i≠j) (hkn:X.env.kindOf n=some .local) (hkb:X.env.kindOf bad=some .local)
  (k:∀ea oe s' H',E1 (.ref C) oe.dict H'->oe.cls= .ref C->(∃ws,oe.data= .fields ws)->Inv X (pins++[(ea,oe)]) (((σ.set i (some (.ref ea))).set j (some (.ref ea))).set i none) H' s'->Q .next s')
  (hd:(x==("__debug__":Str))=false:=by decide) (hdn:(n==("__debug__":Str))=false:=by decide) (hsw:swapsWith (.Name n np2) (some (.Name bad bp)) ap.line X.env=pure false:=by rfl):
  wpAny (model X.prog X.w) X.A (noteFrame e X.env) (fun _ s3=>wpAny (model X.prog X.w) X.A (setFlight e none) (fun _ s4=>wpAny (model X.prog X.w) X.A (handleBy e X.env [.ExceptHandler (some (.Name x np)) (some n) [.Assign [.Name bad bp] (.Name n np2) ap] p5]) Q E s4) E s3) E s2:=by
 obtain⟨ea,T,a0,dd,H2,rfl,os,bare,un,hok,fly,kd,q0⟩:=h
 rw [hstk] at un fly
 have hfr:X.A.frames=some (X.env::X.outer):=by rw [<-hstk];exact I.ok.frames
 refine ys9 (L:=X.env.locals) hfr hf fly.flying kd fun h4 held4 ups4 kd4=> ?_
 refine xt6 held4 kd4 fun h5 held ups5 kd5=> ?_
 have kp5:∀b o,X.base.get? b=some o->h5.get? b=some o:=fun b o z=>held.1 b o (fly.base_in b o z)
 obtain⟨ob,hob,hobc⟩:=held.there
 obtain⟨bm,N,nm,qn,bs,hdct,sn,sub,ab,col,dd',k0,k1,k2,k3,k5,nid,hC,_⟩:=O.keeps kp5
 obtain⟨bm2,N2,nm2,qn2,bs2,hdct2,sn2,sub2,ab2,col2,dd2,j0,j1,j2,j3,j5,nid2,hC2,hbb⟩:=O2.keeps kp5
 refine wpAny_handleBy_cons (codeAny_handlers_test (Calls.Name_function_global I.ok.kind hg (Calls.loadGlobal_global (by rw [I.ok.glob];exact I.ok.mod.glob.keeps kp5) hb2 ?_) hd)) (by intro q;cases q)
 refine zn6 hC hC2 hob hobc hbb (xm6 (I.ok.mod.kin.keeps kp5) hC up) (codeAny_handlers_suite_as ?_)
 refine xm4 held kd5 fun h6 fl6 ups6 kd6=> ?_
 have ups:s2.heap.UpToSlots h6:=(ups4.trans ups5).trans ups6
 have st:(PySem.W.hideAll s2.heap ([ea,T]++frs (X.env::X.outer))).StaysIn h6:=fl6.1
 have stk:∀b∈frs (X.env::X.outer),H2 b=none:=fun b m=>by
  have m':b∈frs X.stack:=by rw [hstk];exact m
  obtain⟨_,o,q1,_⟩:=I.stack.mem m'
  exact un.free b o q1 (I.stkFree b m') (by simp)
 have u2:=un.mono (fs':=frs (X.env::X.outer)) (ex':=[ea,T]) (fun b m=>m) (fun b m=>absurd m (by simp))
 have u3:Un (frs (X.env::X.outer)) [ea,T] H2 H2 s2.heap h6:=zh3 fly.fr ups st
 have u6:Un (frs X.stack) [] H1 H2 s1.heap h6:=by
  rw [hstk]
  refine zh4 (u2.trans u3) (fun b o z m=> ?_) (fun _ _ _ m=>m)
  rcases List.mem_cons.mp m with y|m
  ·rw [y,fly.ne] at z;cases z
  ·rw [List.mem_singleton.mp m,fly.nT] at z;cases z
 have hok6:HOk X.prog X.w H2 h6:=zH hok (fun b m=>by
  rcases List.mem_cons.mp m with z|m
  ·rw [z];exact fly.He
  ·rw [List.mem_singleton.mp m];exact fly.HT) stk st
 have I6:Inv X pins σ H2 {s2 with heap:=h6}:=I.call' (s':={s2 with heap:=h6}) os u6 hok6 bare (fun _ m=>absurd m (by simp))
 obtain⟨oe,ws,hoe,hoec,hoed,hoe0⟩:=fl6.first
 obtain⟨oe',kq,kd7⟩:=kd6
 rw [hoe] at kq;cases kq
 subst kd7
 have nl:ea≠X.env.locals:=fun z=>by
  have:=I.lt
  obtain⟨m,⟨o,_,_,q,_⟩,_⟩:=I.loc
  rw [<-z,fly.ne] at q;cases q
 have nf:ea∉X.fs:=fun z=>by
  obtain⟨_,o,q,_⟩:=I.funs.mem z
  rw [fly.ne] at q;cases q
 have I7:Inv X (pins++[(ea,oe)]) σ H2 {s2 with heap:=h6}:=I6.pins_of fun p hp=>(List.mem_append.mp hp).elim (fun z=>I6.pin p (List.mem_append_right _ z)) fun z=>by
  rw [List.mem_singleton.mp z]
  exact⟨hoe,fly.He,nl,nf,fun v q=>by rw [hoed] at q;cases q⟩
 refine uJ I7 hN hi (.inl hkn) (v:= .ref ea) rfl (fun s7 I8=> ?_) (.inr hkn)
 have hil:i<σ.length:=by rw [I.len];exact(List.getElem?_eq_some_iff.mp hi).1
 have en:(σ.set i (some (.ref ea)))[i]? =some (some (.ref ea)):=List.getElem?_set_self hil
 obtain⟨m8,hn8,hl8⟩:=id I8.loc
 obtain⟨u8,r8,l8⟩:=hl8 i n _ hi en (.inl hkn)
 have eu:u8= .ref ea:=r8
 subst eu
 have hm8:m8 n=some (.ref ea):=by
  rcases l8 with ⟨_,q⟩|⟨q,_⟩
  ·exact q
  ·rw [hkn] at q;rcases q with q|q<;>cases q
 refine wpAny_execs_cons (wpAny_Assign_Name (wpAny_Name (wpAny_loadName_local I.ok.kind hkn hn8 hm8 ?_) hdn) hsw)
 refine uJ I8 hN hj (.inl hkb) (v:= .ref ea) rfl (fun s9 I9=> ?_) (.inr hkb)
 refine wpAny_execs_nil ?_
 exact xm5 I9 hN hi hkn fun s10 I10=>k ea oe s10 H2 q0 hoec ⟨ws,hoed⟩ I10
end
structure KExc(K:tz0)(C:Addr):Prop where
 ga:PySem.W.findIn K (.ref C) "__getattribute__"=some (some (.builtin "BaseException.__getattribute__"))
 gt:PySem.W.findIn K (.ref C) "__getattr__"=some none
 a:PySem.W.findIn K (.ref C) "__class__"=some (some (.builtin "object.__class__"))
 n:PySem.W.specialIn K (.builtin "object.__class__") "__get__"=some (some (.builtin "getset_descriptor.__get__"))
 t:PySem.W.takesIn K (.builtin "object.__class__")=some true
 m:PySem.W.mroIn K C (.type "object")=some true
 b:PySem.W.mroIn K C (.type "BaseException")=some true
 c:(PySem.W.clsIn K C).isSome=true
section
variable{X:Cx}{C ea:Addr}{oe:Obj}
theorem yt2(hp:(ea,oe)∈X.pn)(hc:oe.cls= .ref C)(k:KExc X.K C):CallR X (.builtin "isinstance") (fun xs H Q=>∃c b,xs=[.ref ea,c]/\(∀u,cM c u->PySem.W.kitOne X.K (.ref C) u=some b)/\Q (.bl b) H):=⟨by
 intro pins s σ H xs us Q I r h
 obtain⟨c,b,rfl,e,q⟩:=h
 cases r with
 | cons r1 r2=>cases r2 with
  | cons r3 r4=>cases r4 with
   |nil=>
    cases r1
    exact PySem.W.kia_one (zt8 k.ga k.gt k.a k.n k.t k.m k.b k.c) I.kIn ⟨oe,(I.pin (ea,oe) (List.mem_append_left _ hp)).1,hc⟩ (e _ r3) (by intro z;cases z) fun tk=>⟨.bl b,H,I.tok tk,rfl,q⟩⟩
theorem yt3(hp:(ea,oe)∈X.pn)(hc:oe.cls= .ref C)(k:KExc X.K C):CallR X (.builtin "isinstance") (fun xs H Q=>∃tp its b,xs=[.ref ea,.ref tp]/\H tp=some (.tup its)/\(∀us,bN its us->PySem.W.kitAny X.K (.ref C) us=some b)/\Q (.bl b) H):=⟨by
 intro pins s σ H xs us Q I r h
 obtain⟨tp,its,b,rfl,ht,e,q⟩:=h
 cases r with
 | cons r1 r2=>cases r2 with
  | cons r3 r4=>cases r4 with
   |nil=>
    cases r1;cases r3
    obtain⟨_,vs,rv,o,h1,h2,n,h3⟩:=(show dU X.prog X.w H s.heap tp (.tup its) from I.hok tp _ ht)
    obtain⟨c1,d1,e1,s1⟩:=o
    cases h2;cases h3
    exact PySem.W.kia_tup (zt8 k.ga k.gt k.a k.n k.t k.m k.b k.c) I.kIn ⟨oe,(I.pin (ea,oe) (List.mem_append_left _ hp)).1,hc⟩ h1 (e _ rv) (by intro z;cases z) fun tk=>⟨.bl b,H,I.tok tk,rfl,q⟩⟩
end
def Cx.pinned(X:Cx)(ea:Addr)(oe:Obj):Cx:={X with pn:=X.pn++[(ea,oe)]}
section
variable{X:Cx}{pins:tzB}{σ:St}{H:Hp}{s:Shared}{ea:Addr}{oe:Obj}
theorem Inv.toPin(I:Inv X (pins++[(ea,oe)]) σ H s):Inv (X.pinned ea oe) pins σ H s:=
 ⟨⟨I.ok.mod,I.ok.kind,I.ok.glob,I.ok.blt,I.ok.above,I.ok.inj,I.ok.has,I.ok.cab,I.ok.hd,I.ok.frames,I.ok.stk,I.ok.exf,I.ok.bs,I.ok.bsz,I.ok.noex,I.ok.exfs,I.ok.funs,I.ok.frf⟩,I.os,I.bare,I.base,I.loc,I.cell,I.free,I.freeC,fun p hp=>I.pin p (by
  rcases List.mem_append.mp hp with h|h
  ·rcases List.mem_append.mp h with h|h
   ·exact List.mem_append_left _ h
   ·exact List.mem_append_right _ (List.mem_append_right _ h)
  ·exact List.mem_append_right _ (List.mem_append_left _ h)),I.hok,I.len⟩
theorem Inv.ofPin(I:Inv (X.pinned ea oe) pins σ H s):Inv X pins σ H s:=
 ⟨⟨I.ok.mod,I.ok.kind,I.ok.glob,I.ok.blt,I.ok.above,I.ok.inj,I.ok.has,I.ok.cab,I.ok.hd,I.ok.frames,I.ok.stk,I.ok.exf,I.ok.bs,I.ok.bsz,I.ok.noex,I.ok.exfs,I.ok.funs,I.ok.frf⟩,I.os,I.bare,I.base,I.loc,I.cell,I.free,I.freeC,fun p hp=>I.pin p (by
  rcases List.mem_append.mp hp with h|h
  ·exact List.mem_append_left _ (List.mem_append_left _ h)
  ·exact List.mem_append_right _ h),I.hok,I.len⟩
theorem SP.ofPin{D:Ends}{f:Flow}(h:SP (X.pinned ea oe) pins D f s):SP X pins D f s:=by
 cases f with
 |next=>obtain⟨σ',H',I,q⟩:=h;exact⟨σ',H',I.ofPin,q⟩
 |brk=>obtain⟨σ',H',I,q⟩:=h;exact⟨σ',H',I.ofPin,q⟩
 |cont=>obtain⟨σ',H',I,q⟩:=h;exact⟨σ',H',I.ofPin,q⟩
 |ret u=>obtain⟨v,σ',H',I,r,q⟩:=h;exact⟨v,σ',H',I.ofPin,r,q⟩
end
def zy9(j:Nat)(ea:Addr)(b:Bool):TE:=fun σ H Q=>σ[j]? =some (some (.ref ea))/\∀H',SameK H H'->Q (.bl b) H'
theorem qW{X:Cx}{ea:Addr}{oe:Obj}:(ea,oe)∈(X.pinned ea oe).pn:=List.mem_append_right _ (List.mem_singleton.mpr rfl)
section
variable{Y:Cx}{C ea:Addr}{oe:Obj}{j:Nat}{bad:Str}{p bp pos:Pos}{b:Bool}
theorem ye2{c:Expr}{cv:V}(hp:(ea,oe)∈Y.pn)(hc:oe.cls= .ref C)(k:KExc Y.K C)(hgi:Gl Y "isinstance")(hmi:Y.mg "isinstance"=none)(hN:Y.N[j]? =some bad)(hv:Vis Y.env.scope bad)(hcl:PE Y c (tC cv))(ho:∀u,cM cv u->PySem.W.kitOne Y.K (.ref C) u=some b)
  (hd:(bad==("__debug__":Str))=false:=by decide) (hcd:(bad==("__classdict__":Str))=false:=by decide)
  (he:starEach [.Name bad bp,c] Y.env=(false,eval (.Name bad bp) Y.env)::starEach [c] Y.env:=by rfl) (he2:starEach [c] Y.env=(false,eval c Y.env)::starEach [] Y.env:=by rfl) (hpl:(backTo pos (starEach [c] Y.env)).any (·.1)=false:=by rfl):
  PE Y (.Call (.Name "isinstance" p) [.Name bad bp,c] [] pos) (zy9 j ea b):=
 (lQ (yt2 hp hc k) hgi hmi rfl (eB (iP hN hv hd hcd) (eB hcl jG he2) he) (by decide) (by decide) he hpl).imp fun σ H Q h=>⟨.ref ea,h.1,cv,b,rfl,ho,h.2 H (.refl H)⟩
theorem xb7{c1 c2:Expr}{v1 v2:V}{tp:Pos}{ctx:Nat}(hp:(ea,oe)∈Y.pn)(hc:oe.cls= .ref C)(k:KExc Y.K C)(hgi:Gl Y "isinstance")(hmi:Y.mg "isinstance"=none)(hN:Y.N[j]? =some bad)(hv:Vis Y.env.scope bad)(h1:PE Y c1 (tC v1))(h2:PE Y c2 (tC v2))(ho:∀us,bN [v1,v2] us->PySem.W.kitAny Y.K (.ref C) us=some b)
  (hd:(bad==("__debug__":Str))=false:=by decide) (hcd:(bad==("__classdict__":Str))=false:=by decide)
  (he:starEach [.Name bad bp,.Tuple [c1,c2] ctx tp] Y.env=(false,eval (.Name bad bp) Y.env)::starEach [.Tuple [c1,c2] ctx tp] Y.env:=by rfl) (he2:starEach [.Tuple [c1,c2] ctx tp] Y.env=(false,eval (.Tuple [c1,c2] ctx tp) Y.env)::starEach [] Y.env:=by rfl)
  (he3:starEach [c1,c2] Y.env=(false,eval c1 Y.env)::starEach [c2] Y.env:=by rfl) (he4:starEach [c2] Y.env=(false,eval c2 Y.env)::starEach [] Y.env:=by rfl) (hpl:(backTo pos (starEach [.Tuple [c1,c2] ctx tp] Y.env)).any (·.1)=false:=by rfl):
  PE Y (.Call (.Name "isinstance" p) [.Name bad bp,.Tuple [c1,c2] ctx tp] [] pos) (zy9 j ea b):=
 (lQ (yt3 hp hc k) hgi hmi rfl (eB (iP hN hv hd hcd) (eB (yp9 (eB h1 (eB h2 jG he4) he3)) jG he2) he) (by decide) (by decide) he hpl).imp fun σ H Q h=>
  ⟨.ref ea,h.1,⟨show 2<=sizeLine from Nat.le_trans (by decide) (sE (n:=2) (by decide)),fun a ha=>⟨a,[v1,v2],b,rfl,by unfold upd;rw [if_pos rfl],ho,h.2 _ (.new ha _)⟩⟩⟩
end
section
variable{P:Program}{w:World}{A:Around}{E:Value->Shared->Prop}{h:Heap}{g:Array GenState}{d:Drawn}{t:Nat}{os:OsState}{nm q:Str}{C N:Addr}{bs bm bmB:List Value}{hdct ab:Bool}{sn:List Str}{sub:List Value}
 {col:Option Bool} {dd:Option Addr} {k0 k1 k2 k3 k5:Option Value} {B newId initId:String}
abbrev oQ(h:Heap)(C:Addr)(bK:List Value):Heap:=(h.push {cls:= .type "tuple",data:= .seq bK.toArray}).push {cls:= .ref C,data:= .fields #[.ref h.objs.size,.none,.none,.none,.bool false,.none]}
theorem mP{b:Addr}{o:Obj}{bK:List Value}(e:h.get? b=some o):(oQ h C bK).get? b=some o:=Heap.get?_push_of_some _ (Heap.get?_push_of_some _ e)
theorem zh5(F:ExcBaseFacts B newId initId bmB)(T:OwnTail h bmB bm){mN:tzA}{bK:List Value}{fI:Addr}{oI:Obj}{Q:Fin->Shared->Prop}(hC:h.get? C=some (excClassObj nm q C N bs bm hdct sn sub ab col dd k0 k1 k2 k3 k5 newId))(hn:h.Ns N mN)
  (hi:mN "__init__"=some (.ref fI)) (hf:h.get? fI=some oI) (hk:oI.cls= .type "function")
  (hq:wpAny (model P w) A (call (.ref fI) (.ref (h.objs.size+1)::bK)) (fun r s'=>r= .none/\Q (.done (.ret (.ref (h.objs.size+1)))) s') E ⟨oQ h C bK,g,d,t,os⟩) (hr:bK.length<=sizeLine):
  wpAny (model P w) A (Builtin.«type.__call__» ⟨.ref C::bK,[]⟩) Q E ⟨h,g,d,t,os⟩:=by
 repeat (first|with_reducible refine wpAny_loadPart_at hC ?_|with_reducible refine wpAny_madeBy_exc hC ?_|wp_step)
 refine codeAny_call_builtin_code (Code.quiet_builtin _ F.quiet) (wpAny_check_new_subT F T hC (codeAny_exc_new_subT F T hC ?_ hr))
 show wpAny _ _ _ _ _ _
 have c1:(oQ h C bK).get? C=_:=mP hC
 have f1:(oQ h C bK).get? fI=some oI:=mP hf
 have n1:(oQ h C bK).Ns N mN:=hn.keeps fun _ _ e=>mP e
 have t1:=T.keeps (h':=oQ h C bK) fun _ _ e=>mP e
 have e1:(oQ h C bK).get? (h.objs.size+1)=some {cls:= .ref C,data:= .fields #[.ref h.objs.size,.none,.none,.none,.bool false,.none]}:=by heap_get
 have m1:(Value.ref C::bm).contains (.ref C)=true:=by simp
 unfold isInstance
 repeat (first|with_reducible refine wpAny_loadPart_at e1 ?_|(with_reducible refine wpAny_isSubtype_exc c1 ?_;rw [m1])|wp_step)
 show wpAny _ _ (typeLookup (.ref C) _) _ _ _
 refine wpAny_typeLookup_tail c1 n1 t1 F.mroIs F.init.lookup ?_
 rw [hi]
 refine wpAny_holding (wpAny_bind ?_)
 unfold bindSpecial
 refine wpAny_bind (wpAny_typeOf (T:="function") ⟨_,f1,hk⟩ ?_)
 rw [if_pos (by decide)]
 refine wpAny_pure (wpAny_bind (wpAny_mono hq (fun r s' z=> ?_) fun _ _ x=>x))
 obtain⟨rfl,z⟩:=z
 wp_walk
 exact z
theorem yk0(F:ExcBaseFacts B newId initId bmB)(T:OwnTail h bmB bm){mN:tzA}{bK:List Value}{fI:Addr}{oI:Obj}{Q:Value->Shared->Prop}(hC:h.get? C=some (excClassObj nm q C N bs bm hdct sn sub ab col dd k0 k1 k2 k3 k5 newId))(hn:h.Ns N mN)
  (hi:mN "__init__"=some (.ref fI)) (hf:h.get? fI=some oI) (hk:oI.cls= .type "function")
  (hq:wpAny (model P w) (A.under (.builtin "type.__call__" ⟨.ref C::bK,[]⟩)) (call (.ref fI) (.ref (h.objs.size+1)::bK)) (fun r s'=>r= .none/\Q (.ref (h.objs.size+1)) s') E ⟨oQ h C bK,g,d,t,os⟩) (hr:bK.length<=sizeLine):
  wpAny (model P w) A (call (.ref C) bK) Q E ⟨h,g,d,t,os⟩:=by
 have l1:=tc_lookup
 have l2:=tc_bind (.ref C)
 have ty:(⟨h,g,d,t,os⟩:Shared).TypeIs (.ref C) "type":=⟨_,hC,rfl⟩
 refine wpAny_call (codeAny_of_tree ?_)
 show wpAny _ _ (callAny (.ref C) _) _ _ _
 repeat (any_goals (first|assumption|with_reducible refine wpAny_loadPart_at hC ?_|wp_step))
 refine⟨rfl,codeAny_call_builtin_at (Code.quiet_builtin _ (by decide+kernel)) entry_typeCall (wpAny_check_type_call_sub hC (zh5 F T hC hn hi hf hk hq hr))⟩
end
section
variable{M:Model}{A:Around}{E:Value->Shared->Prop}{env:Env}{nm q:Str}{C N:Addr}{bs bm:List Value}{hdct ab:Bool}{sn:List Str}{sub:List Value}{col:Option Bool}{dd:Option Addr}{k0 k1 k2 k3 k5:Option Value}{newId:String}
theorem yt4{s:Shared}{x:Sem Value}{Q:Flow->Shared->Prop}(hb:bm.contains (.type "BaseException")=true)(hh:A.handled=none)
  (h:wpAny M A x (fun v s1=>∃e t dx,v= .ref e/\s1.heap.get? C=some (excClassObj nm q C N bs bm hdct sn sub ab col dd k0 k1 k2 k3 k5 newId)/\s1.heap.get? e=some (mC C dx t)/\E (.ref e) s1) E s):wpAny M A (raiseStmt env (some x) none) Q E s:=by
 have c1:(Value.ref C::bm).contains (.type "BaseException")=true:=by rw [List.contains_cons,hb,Bool.or_true]
 unfold raiseStmt
 refine wpAny_bind (wpAny_mono h (fun v s1 z=> ?_) fun _ _ x=>x)
 obtain⟨e,t,dx,rfl,hC,he,z⟩:=z
 obtain⟨h1,g1,d1,t1,o1⟩:=s1
 repeat (first|with_reducible refine wpAny_loadPart_at he ?_|with_reducible refine wpAny_loadPart_at hC ?_|(with_reducible refine wpAny_isSubtype_exc hC ?_;rw [c1])|wp_step)
 exact wpAny_raiseNew_none hh z
end
section
variable{P:Program}{w:World}{A:Around}{E:Value->Shared->Prop}{s:Shared}{env:Env}{nm q:Str}{C N:Addr}{bs bm bmB:List Value}{hdct ab:Bool}{sn:List Str}{sub:List Value}
 {col:Option Bool} {dd:Option Addr} {k0 k1 k2 k3 k5:Option Value} {B newId initId:String}
theorem ya5(F:ExcBaseFacts B newId initId bmB){mN:tzA}{x:Str}{np cpos pos:Pos}{args:List Expr}{fI:Addr}{oI:Obj}{Q:Flow->Shared->Prop}(hb:bm.contains (.type "BaseException")=true)(hh:A.handled=none)
  (hp:(backTo cpos (starEach args env)).any (·.1)=false) (hi:mN "__init__"=some (.ref fI)) (hk:oI.cls= .type "function")
  (h:wpAny (model P w) A (eval (.Name x np) env) (fun f s1=>f= .ref C/\wpAny (model P w) A (evalArgs (.ref C) true (backTo cpos (starEach args env)) [])
   (fun a s2=>a.kw=[]/\a.pos.length<=sizeLine/\s2.heap.get? C=some (excClassObj nm q C N bs bm hdct sn sub ab col dd k0 k1 k2 k3 k5 newId)/\s2.heap.Ns N mN/\OwnTail s2.heap bmB bm/\s2.heap.get? fI=some oI/\
    wpAny (model P w) (A.under (.builtin "type.__call__" ⟨.ref C::a.pos,[]⟩)) (call (.ref fI) (.ref (s2.heap.objs.size+1)::a.pos)) (fun r s'=>r= .none/\s'.heap.get? C=some (excClassObj nm q C N bs bm hdct sn sub ab col dd k0 k1 k2 k3 k5 newId)/\(∃dx t,s'.heap.get? (s2.heap.objs.size+1)=some (mC C dx t))/\E (.ref (s2.heap.objs.size+1)) s') E {s2 with heap:=oQ s2.heap C a.pos}) E s1) E s):
  wpAny (model P w) A (exec (.Raise (some (.Call (.Name x np) args [] cpos)) none pos) env) Q E s:=by
 rw [arm_exec_Raise]
 refine wpAny_bind (wpAny_standAt (yt4 (C:=C) (nm:=nm) (q:=q) (N:=N) (bs:=bs) (bm:=bm) (hdct:=hdct) (sn:=sn) (sub:=sub) (ab:=ab) (col:=col) (dd:=dd) (k0:=k0) (k1:=k1) (k2:=k2) (k3:=k3) (k5:=k5) (newId:=newId) hb hh ?_))
 refine wpAny_bind (wpAny_mono (wpAny_Call_ofName (wpAny_mono h (fun f s1 z=> ?_) fun _ _ x=>x)) (fun v s3 y=>wpAny_bind (wpAny_standAt (wpAny_pure y))) fun _ _ x=>x)
 obtain⟨rfl,z⟩:=z
 unfold callWith
 refine wpAny_bind (wpAny_holding (wpAny_mono z (fun a s2 z2=>wpAny_bind (wpAny_standAt ?_)) fun _ _ x=>x))
 obtain⟨ap,ak⟩:=a
 obtain⟨rfl,hl,hC,hn,T,hf,z2⟩:=z2
 obtain⟨h2,g2,d2,t2,o2⟩:=s2
 simp only [hp]
 refine wpAny_bind (wpAny_keeperOf_exc hC ?_)
 refine wpAny_bind (yk0 F T hC hn hi hf hk (wpAny_mono z2 (fun r s' y=> ?_) fun _ _ x=>x) hl)
 obtain⟨rfl,y1,⟨dx,t',y2⟩,y3⟩:=y
 exact⟨rfl,wpAny_bind (wpAny_holding (wpAny_point (wpAny_pure ⟨_,t',dx,rfl,y1,y2,y3⟩)))⟩
end
def ExN(E:XK)(C:Addr):Int->Hp->Prop:=fun n H'=>∀D,H' D=some (.xd [("at",.int n)])->E (.ref C) (some D) H'
def tN(φ:Fx)(fx:PSt->Option Int)(Ex:Int->Hp->Prop):TS:=fun _ σ H=>∃ps F n,RS φ H σ ps F/\fx ps=some n/\∀H',Frm F H H'->Ex n H'
def tNe(φ:Fx)(fx:PSt->Option Int)(Ex:Int->Hp->Prop):TE:=fun σ H _=>∃ps F n,RS φ H σ ps F/\fx ps=some n/\∀H',Frm F H H'->Ex n H'
def zV(np:Nat)(K:tz0)(κ:tz9)(C:Addr)(g:List D->Option Int):Sp:=fun vs H _ E=>vs.length=np/\∃ds fp n,Reps K κ H vs ds fp/\g ds=some n/\∀H',SameK H H'->ExN E C n H'
def vS(np:Nat)(K:tz0)(κ:tz9)(m:Nat->Bool)(C:Addr)(g:List D->Option Int):Sp:=fun vs H _ E=>vs.length=np/\∃ds F n,ds.length=np/\RS (fxE K κ np m) H (vs.map some) (ds.map some) F/\g ds=some n/\∀H',Frm F H H'->ExN E C n H'
def gN(np n:Nat)(fx:PSt->Option Int):List D->Option Int:=fun ds=>if ds.length=np then fx (ds.map some++List.replicate n none) else none
def mV(f:tz1)(fx:PSt->Option Int):PSt->Option Int:=fun ps=>match f ps with
 |some (.nx,p)=>fx p
 |_=>none
def qL(ft:tz4)(fx:PSt->Option Int):PSt->Option Int:=fun ps=>match ft ps with
 |some true=>fx ps
 |_=>none
def pG(f g:PSt->Option Int):PSt->Option Int:=fun ps=>match f ps with
 |some n=>some n
 |none=>g ps
def ze9(d:D):Option Int:=match d with
 | .int n=>if n.natAbs.log2<1920 then some n else none
 |_=>none
def jR(fa:tz2):PSt->Option Int:=fun ps=>(fa ps).bind ze9
def vT(C m:Str)(fo:tz2)(g:List D->Option Int):PSt->Option Int:=fun ps=>match fP C m fo ps with
 |some d=>g [d]
 |none=>none
def nG(C m:Str)(g:List D->Option Int)(ys:List D):D->Option Int:=fun d=>match d with
 | .obj true C' ns vs=>if C'=C/\dD ns m=none then g (.obj true C' ns vs::ys) else none
 |_=>none
def keepN(h:List D->D->Option Int)(ys:List D):D->Option (Int×D):=fun d=>(h ys d).bind fun n=>some (n,d)
def vU(j:Nat)(pf:PSt->Option (List Ps1))(ga:tz3)(h:List D->D->Option Int):PSt->Option Int:=fun ps=>match (ps[j]?).join with
 | some d0=>match pf ps with
  |some p=>match ga ps with
   |some ys=>(gJ (keepN h ys) d0 p).bind fun r=>some r.1
   |none=>none
  |none=>none
 |none=>none
def fU(i:Nat)(f:tz1)(fx:PSt->Option Int):List D->PSt->Option Int
 |[],_=>none
 | d::ds,ps=>match fx (ps.set i (some d)) with
  |some n=>some n
  |none=>match f (ps.set i (some d)) with
   |some (.nx,p)=>fU i f fx ds p
   |some (.ct,p)=>fU i f fx ds p
   |_=>none
def vV(i:Nat)(fi:tz3)(f:tz1)(fx:PSt->Option Int):PSt->Option Int:=fun ps=>match fi ps with
 |some ds=>fU i f fx ds ps
 |none=>none
theorem yV{C m:Str}{g:List D->Option Int}{ys:List D}{d d':D}{n:Int}(h:keepN (nG C m g) ys d=some (n,d')):∃ns vs,d= .obj true C ns vs/\dD ns m=none/\g (d::ys)=some n:=by
 obtain⟨k,h1,h2⟩:=bind_some h
 cases h2
 unfold nG at h1
 split at h1
 ·obtain⟨⟨rfl,h4⟩,h3⟩:=bV h1
  exact⟨_,_,rfl,h4,h3⟩
 ·cases h1
theorem yk1{j:Nat}{pf:PSt->Option (List Ps1)}{ga:tz3}{h:List D->D->Option Int}{ps:PSt}{n:Int}(e:vU j pf ga h ps=some n):∃d0 p ys d1,ps[j]? =some (some d0)/\pf ps=some p/\ga ps=some ys/\gJ (keepN h ys) d0 p=some (n,d1):=by
 unfold vU at e
 split at e
 ·rename_i d0 h0
  split at e
  ·rename_i p hp
   split at e
   ·rename_i ys hy
    obtain⟨⟨n',d1⟩,hr,e⟩:=bind_some e
    cases e
    exact⟨d0,p,ys,d1,join_some h0,hp,hy,hr⟩
   ·cases e
  ·cases e
 ·cases e
abbrev QN(X:Cx)(κ:tz9)(φ:F0)(Ex:Int->Hp->Prop)(st:Stmt)(fx:PSt->Option Int):Prop:=PS X st (tN (φ.fx X.K κ) fx Ex)
abbrev QNs(X:Cx)(κ:tz9)(φ:F0)(Ex:Int->Hp->Prop)(st:List Stmt)(fx:PSt->Option Int):Prop:=PSs X st (tN (φ.fx X.K κ) fx Ex)
abbrev QNe(X:Cx)(κ:tz9)(φ:F0)(Ex:Int->Hp->Prop)(e:Expr)(fx:PSt->Option Int):Prop:=PE X e (tNe (φ.fx X.K κ) fx Ex)
section
variable{P:Program}{w:World}{K:tz0}{mg:tzA}{base:Heap}{κ:tz9}{C:Addr}
theorem ye3{x qual:Str}{st:Stmt}{f:Addr}{fd:FuncData}{N ps:List Str}{k:Nat}{fx:PSt->Option Int}(F:Fun K x qual st f fd)(S:FnScope N ps (aW st))
  (hbody:∀(cdv:Value) (A:Around) (outer:List Env) (s:Shared) (H:Hp) (E:XK) (B:Nat->Addr->Prop),Room k (A.deeper (envOfC qual (aW st) s.heap.objs.size f cdv))->
   QNs (fQ (CXn P w base C) P w K mg base N qual (aW st) f cdv A outer s H E) κ (f0P ps.length B) (ExN E C) (jO st) fx):
  FnOk P w K mg base (CXn P w base C) (k+1) f fd ps (zV ps.length K κ C (gN ps.length (N.length-ps.length) fx)):=by
 obtain⟨oc,od,kV,doc,pm,an,cdv,ct,osl,rfl,lk,hcd⟩:=F.ex
 refine zo3 lk hcd S (fun vs H Q E h=>h.1) fun A outer s H vs Q E hr hsp=> ?_
 obtain⟨hl,ds,fp,n,r,e,q⟩:=hsp
 have hn:ps.length<=N.length:=by have:=congrArg List.length S.pre;rw [List.length_take] at this;omega
 exact⟨_,hbody cdv A outer s H E (fun _ a=>a∈fp) hr,_,fun _=>[],n,RS.start r hl hn,(bV e).2,fun H' fr=>q H' (yt1 fr)⟩
theorem ye4{x qual:Str}{st:Stmt}{f:Addr}{fd:FuncData}{N ps:List Str}{k:Nat}{fx:PSt->Option Int}{m:Nat->Bool}(F:Fun K x qual st f fd)(S:FnScope N ps (aW st))
  (hbody:∀(cdv:Value) (A:Around) (outer:List Env) (s:Shared) (H:Hp) (E:XK),Room k (A.deeper (envOfC qual (aW st) s.heap.objs.size f cdv))->
   QNs (fQ (CXn P w base C) P w K mg base N qual (aW st) f cdv A outer s H E) κ (f0E ps.length m) (ExN E C) (jO st) fx):
  FnOk P w K mg base (CXn P w base C) (k+1) f fd ps (vS ps.length K κ m C (gN ps.length (N.length-ps.length) fx)):=by
 obtain⟨oc,od,kV,doc,pm,an,cdv,ct,osl,rfl,lk,hcd⟩:=F.ex
 refine zo3 lk hcd S (fun vs H Q E h=>h.1) fun A outer s H vs Q E hr hsp=> ?_
 obtain⟨hl,ds,F0,n,hd,R,e,q⟩:=hsp
 have hn:ps.length<=N.length:=by have:=congrArg List.length S.pre;rw [List.length_take] at this;omega
 have R0:=R.more (σ2:=List.replicate (N.length-vs.length) none) (n:=N.length-ps.length) (by simp [hl,hd]) (by simp [hl])
 exact⟨_,hbody cdv A outer s H E hr,_,F0,n,R0,(bV e).2,q⟩
end
section
variable{X:Cx}{κ:tz9}{φ:F0}{Ex:Int->Hp->Prop}{fx fy:PSt->Option Int}{st:Stmt}{bK l:List Stmt}{pos:Pos}
theorem yA{f:tz1}(h1:QS X.nox κ φ st f)(h2:QNs X κ φ Ex bK fx):QNs X κ φ Ex (st::bK) (mV f fx):=
 (gX (PS.nox h1) h2).imp fun D σ H hh_=>by
  obtain⟨ps,F,n,R,e,q⟩:=hh_
  unfold mV at e
  split at e
  ·rename_i p he
   exact⟨ps,F,.nx,p,R,he,fun σ' H' F' s=>⟨p,F',n,s.rs,e,fun H'' fr=>q H'' (s.frm fr)⟩⟩
  ·cases e
theorem mQ(h1:QN X κ φ Ex st fx):QNs X κ φ Ex (st::bK) fx:=(gX h1 sI).imp fun D σ H h=>h
theorem yk2{c:Expr}{a b:List Stmt}{ft:tz4}(hc:QT X.nox κ c ft)(ha:QNs X κ φ Ex a fx):QN X κ φ Ex (.If c a b pos) (qL ft fx):=
 (zZ (PT.nox hc) ha sI).imp fun D σ H hh_=>by
  obtain⟨ps,F,n,R,e,q⟩:=hh_
  unfold qL at e
  split at e
  ·rename_i he
   refine⟨ps,true,R.ws,he,fun H' s=> ?_⟩
   show(if true=true then tN (φ.fx X.K κ) fx Ex D σ H' else _)
   rw [if_pos rfl]
   exact⟨ps,F,n,R.same s,e,fun H'' fr=>q H'' ⟨fun a o h k n=>fr.keep a o (s.keep a o h k) k n,fun a z=>s.grow a (fr.grow a z)⟩⟩
  ·cases e
theorem xt8(h1:QNs X κ φ Ex l fx)(h2:QNs X κ φ Ex l fy):QNs X κ φ Ex l (pG fx fy):=⟨fun pins s σ H D I h=>by
 obtain⟨ps,F,n,R,e,q⟩:=h
 unfold pG at e
 split at e
 ·rename_i n' e'
  cases e
  exact h1 pins s σ H D I ⟨ps,F,n,R,e',q⟩
 ·exact h2 pins s σ H D I ⟨ps,F,n,R,e,q⟩⟩
theorem zt9{f:tz1}(h1:QN X κ φ Ex st fx)(hs:QS X.nox κ φ st f)(h2:QNs X κ φ Ex bK fy):QNs X κ φ Ex (st::bK) (pG fx (mV f fy)):=xt8 (mQ h1) (yA hs h2)
theorem ye5{e:Expr}(he:QNe X κ φ Ex e fx)(hs:swapsWith e none pos.line X.env=pure false:=by rfl):QN X κ φ Ex (.Expr e pos) fx:=(yb7 he hs).imp fun _ _ _ h=>h
def wd2(φ:Fx)(σ:St)(H:Hp)(F:Nat->List Addr)(i:Nat)(f:tz1)(fx:PSt->Option Int)(ds:List D)(n:Int)(k m:Nat)(σ1:St)(H1:Hp):Prop:=k<=ds.length/\m=ds.length-k/\∃ps1 F1,Stp φ σ H F σ1 H1 ps1 F1/\fU i f fx (ds.drop k) ps1=some n
theorem yt5{φ:Fx}{f:tz1}{E:Ends}{σ:St}{H:Hp}{F:Nat->List Addr}{ps:PSt}{ds:List D}{J:It}{Z:List Addr}{i:Nat}{n:Int}(R:RS φ H σ ps F)(hz:∀a∈Z,H a≠none/\∀i,a∉F i)(W:Walk φ.K φ.κ J Z H ds)(hb:φ.bor i=false)(hm:φ.M i=false)
  (e:fU i f fx ds ps=some n) (q:∀H',Frm F H H'->Ex n H'):∃V:Nat->Nat->St->Hp->Prop,(∃m,V 0 m σ H)/\∀k m σ H,V k m σ H->xi6 J E V (sQ i) (fun D σ H=>tS φ f D σ H\/tN φ fx Ex D σ H) k m σ H:=by
 refine⟨wd2 φ σ H F i f fx ds n,⟨_,Nat.zero_le _,rfl,ps,F,.refl R,by rw [List.drop_zero];exact e⟩,?_⟩
 rintro k m σ1 H1 ⟨hk,rfl,ps1,F1,s1,e1⟩
 have kp:qJ Z H H1:=s1.fr.kept R fun a ha=>(hz a ha).2
 by_cases hlt:k<ds.length
 ·right
  have ed:ds[k]? =some ds[k]:=List.getElem?_eq_getElem hlt
  obtain⟨hgo,hy⟩:=W.go H1 kp k _ ed
  rw [List.drop_eq_getElem_cons hlt,fU] at e1
  have set1:∀x H',J.yld k H1 x H'->∃F2,Stp φ σ H F (σ1.set i (some x)) H' (ps1.set i (some ds[k])) F2:=fun x H' y=>by
   obtain⟨rfl,rx⟩:=hy x H' y
   obtain⟨F2,s2⟩:=(Stp.refl s1.rs).set (i:=i) (fv:=[]) (v:=x) (d:=ds[k]) ⟨fun _ h=>absurd h (by simp),List.nodup_nil,fun _ _ _ h=>absurd h (by simp)⟩ s1.rs rx (.inl hb) hm
   exact⟨F2,s1.trans s2⟩
  split at e1
  ·rename_i n' e0
   cases e1
   refine⟨hgo,fun _ _=>False,fun _ _ h=>h.elim,fun x H' y=> ?_⟩
   obtain⟨F2,s12⟩:=set1 x H' y
   exact .inr ⟨_,F2,n,s12.rs,e0,fun H'' fr=>q H'' (s12.frm fr)⟩
  ·split at e1
   ·rename_i p2 e2
    refine⟨hgo,fun σ' H'=>∃F',Stp φ σ H F σ' H' p2 F'/\fU i f fx (ds.drop (k+1)) p2=some n,fun σ' H' ⟨F',s,e⟩=>⟨ds.length-(k+1),by omega,hlt,rfl,p2,F',s,e⟩,fun x H' y=> ?_⟩
    obtain⟨F2,s12⟩:=set1 x H' y
    exact .inl ⟨_,F2,.nx,p2,s12.rs,e2,fun σ' H' F' s=>⟨F',s12.trans s,e1⟩⟩
   ·rename_i p2 e2
    refine⟨hgo,fun σ' H'=>∃F',Stp φ σ H F σ' H' p2 F'/\fU i f fx (ds.drop (k+1)) p2=some n,fun σ' H' ⟨F',s,e⟩=>⟨ds.length-(k+1),by omega,hlt,rfl,p2,F',s,e⟩,fun x H' y=> ?_⟩
    obtain⟨F2,s12⟩:=set1 x H' y
    exact .inl ⟨_,F2,.ct,p2,s12.rs,e2,fun σ' H' F' s=>⟨F',s12.trans s,e1⟩⟩
   ·cases e1
 ·rw [List.drop_eq_nil_of_le (Nat.le_of_not_lt hlt),fU] at e1
  cases e1
end
section
variable{P:Program}{w:World}{K:tz0}{mg:tzA}{base:Heap}{N:List Str}{qual:Str}{scope:Scope}{f C:Addr}{cd:Value}{A:Around}{outer:List Env}{s:Shared}{H:Hp}{E:XK}{κ:tz9}{φ:F0}
theorem xm8{Cn m qual':Str}{st:Stmt}{ps:List Str}{fm:Addr}{fd:FuncData}{k:Nat}{g:List D->Option Int}{o:Expr}{fo:tz2}{apos pos pos':Pos}{pl:Sem Bool}(M:Mn K κ Cn m qual' st ps fm fd)(G:FnOk P w K mg base (CXn P w base C) k fm fd ps (zV 1 K κ C g))
  (hr:Room k (A.deeper (envOfC qual scope s.heap.objs.size f cd))) (ho:QV (fQ (CXn P w base C) P w K mg base N qual scope f cd A outer s H E).nox κ o fo)
  (ht:eval (.Call (.Attribute o m apos) [] [] pos) (envOfC qual scope s.heap.objs.size f cd)=(do
   let ov<-eval o (envOfC qual scope s.heap.objs.size f cd)
   standAt apos.atName
   let (f',first)<-holding [ov] (getMethod ov m pl)
   callWith pos f' first (backTo pos (starEach [] (envOfC qual scope s.heap.objs.size f cd))) (backToKw pos (keywordEach [] (envOfC qual scope s.heap.objs.size f cd)))):=by rfl):
  QN (fQ (CXn P w base C) P w K mg base N qual scope f cd A outer s H E) κ φ (ExN E C) (.Return (some (.Call (.Attribute o m apos) [] [] pos)) pos') (vT Cn m fo g):=
 (rB (yX (X:=fQ (CXn P w base C) P w K mg base N qual scope f cd A outer s H E) (PE.nox ho) M.c M.h G hr M.b .nil yj7 ht)).imp fun D σ H1 hh_=>by
  obtain⟨ps,F,n,R,e,q⟩:=hh_
  unfold vT at e
  split at e
  ·rename_i d he
   obtain⟨ns,vs,rfl,k5,k6⟩:=uX he
   refine⟨ps,_,R.ws,k5,fun v H2 fp s1 r1=> ?_⟩
   have r1':=r1
   obtain⟨_,_,_,_,rfl,hl,hn,hs,rfl⟩:=r1.objT_inv
   subst hn
   exact⟨_,_,_,rfl,hl,lB k6,rfl,_,_,n,Reps.one r1',e,fun H' s2=>q H' ⟨fun a o h kk _=>(s1.trans s2).keep a o h kk,(s1.trans s2).grow⟩⟩
  ·cases e
theorem xm9{Cn m qual':Str}{st:Stmt}{ps:List Str}{fm:Addr}{fd:FuncData}{k np j:Nat}{mk:Nat->Bool}{g:List D->Option Int}{o e:Expr}{es:List Expr}{as:List Arg}{pf:PSt->Option (List Ps1)}{apos pos:Pos}{pl:Sem Bool}(M:Mn K κ Cn m qual' st ps fm fd)(G:FnOk P w K mg base (CXn P w base C) k fm fd ps (vS np K κ mk C g))
  (hr:Room k (A.deeper (envOfC qual scope s.heap.objs.size f cd))) (hb:φ.bor j=false) (ho:PE (fQ (CXn P w base C) P w K mg base N qual scope f cd A outer s H E).nox o (nI K κ j pf)) (ha:PA (fQ (CXn P w base C) P w K mg base N qual scope f cd A outer s H E).nox (e::es) (tIO K κ as)) (has:ze8 as=true) (hnp:np=as.length+1) (hm:mk=lJ)
  (hst:starEach (e::es) (envOfC qual scope s.heap.objs.size f cd)=(false,eval e (envOfC qual scope s.heap.objs.size f cd))::starEach es (envOfC qual scope s.heap.objs.size f cd):=by rfl) (hpl:(backTo pos (starEach es (envOfC qual scope s.heap.objs.size f cd))).any (·.1)=false:=by rfl)
  (ht:eval (.Call (.Attribute o m apos) (e::es) [] pos) (envOfC qual scope s.heap.objs.size f cd)=(do
   let ov<-eval o (envOfC qual scope s.heap.objs.size f cd)
   standAt apos.atName
   let (f',first)<-holding [ov] (getMethod ov m pl)
   callWith pos f' first (backTo pos (starEach (e::es) (envOfC qual scope s.heap.objs.size f cd))) (backToKw pos (keywordEach [] (envOfC qual scope s.heap.objs.size f cd)))):=by rfl):
  QNe (fQ (CXn P w base C) P w K mg base N qual scope f cd A outer s H E) κ φ (ExN E C) (.Call (.Attribute o m apos) (e::es) [] pos) (vU j pf (fH as) (nG Cn m g)):=
 (zf8 (X:=fQ (CXn P w base C) P w K mg base N qual scope f cd A outer s H E) (PE.nox ho) M.c M.h G hr M.b .nil yj7 (PA.nox ha) hst hpl ht).imp fun σ H0 Q hh_=>by
 obtain⟨ps,F,n,R,e,q⟩:=hh_
 obtain⟨d0,pp,ys,d0',e0,ep,eg,em⟩:=yk1 e
 obtain⟨dd,dn,gp,hh⟩:=lR em
 refine⟨ps,pp,d0,dd,R.ws,e0,ep,gp,fun v H1 v0 s1 ev a1=> ?_⟩
 obtain⟨ns,vs,rfl,hn,_⟩:=yV hh
 obtain⟨fdd,rd⟩:=xW R.ws s1 e0 ev gp a1
 obtain⟨_,_,_,_,rfl,hl,hk,hs,rfl⟩:=rd.objT_inv
 subst hk
 refine⟨_,_,_,rfl,hl,lB hn,ps,ys,R.ws.same s1,eg,fun us H2 s2 a2=> ?_⟩
 show vS np K κ mk C g (_::(us++[])) H2 Q E
 rw [List.append_nil]
 have ry:=a2.reps has
 have hly:np=ys.length+1:=by rw [hnp,a2.len.2]
 subst hly hm
 obtain⟨d1,d1',fd1,m1,m2,m3,m4,_⟩:=tW R (s1.trans s2) hb e0 ev em (a1.same s2)
 obtain⟨_,_,_,_,eg1⟩:=yV m2
 refine⟨by rw [List.length_cons,ry.length],_,qQ fd1,n,by simp,uY m1 m3 ry,eg1,fun H' fr=>q H' ⟨fun a o h kk n=>fr.keep a o ((s1.trans s2).keep a o h kk) kk fun i hi=>n j (m4 a (kA hi).2),fun a z=>(s1.trans s2).grow a (fr.grow a z)⟩⟩
end
end L2
namespace L2
section
open PySem PySem.W PySem.Calls PyProof.Rows Builtin Builtin.ObjectAttr Builtin.Getset_descriptor
variable{prog:Program}{w:World}{A:Around}{E:Value->Shared->Prop}{K:tz0}{x C:Addr}{name:Str}
theorem ya6{self:Value}{h:Heap}{bmB:List Value}(hp:refuseLoop self "__setattr__" bmB=pure ()){l:List Value}(T:OwnTail h bmB l):refuseLoop self "__setattr__" l=pure ():=by
 induction T with
 |base=>exact hp
 |own _ _ _ _ ih=>rw [refuseLoop_ref];exact ih
theorem xb8{h:Heap}{g:Array GenState}{d:Drawn}{t:Nat}{os:OsState}{nm q:Str}{N tx:Addr}{bs bm bmB:List Value}{ab:Bool}{sn:List Str}{sub:List Value}{col:Option Bool}{dd:Option Addr}{k0 k1 k2 k3 k5:Option Value}{B newId sa owner:String}{v:Value}{Q:Unit->Shared->Prop}
  (SF:StoreFacts B bmB sa owner) (T:OwnTail h bmB bm) (X:K.In h) (hC:h.get? C=some (excClassObj nm q C N bs bm true sn sub ab col dd k0 k1 k2 k3 k5 newId)) (hfs:findIn K (.ref C) "__setattr__"=some (some (.builtin sa))) (hfn:findIn K (.ref C) name=some none) (hx:h.get? x=some (mC C none tx))
  (hq:∀h' tk' mA,h'.get? x=some (mC C (some h.objs.size) tx)->h'.Ns1 h.objs.size mA->(∀y,mA y=if y=name then some v else none)->(∀b o,b≠x->h.get? b=some o->h'.get? b=some o)->Q () ⟨h',g,d,tk',os⟩):
  wpAny (model prog w) A (setAttr (.ref x) name v) Q E ⟨h,g,d,t,os⟩:=by
 obtain⟨o,ho⟩:∃o,o=mC C none tx:=⟨_,rfl⟩
 have e1:o.cls= .ref C:=by rw [ho]
 have e2:o.dict=none:=by rw [ho]
 have e3:o.data= .fields #[.ref tx,.none,.none,.none,.bool false,.none]:=by rw [ho]
 have e4:({cls:=o.cls,dict:=some h.objs.size,data:=o.data,slots:=o.slots}:Obj)=mC C (some h.objs.size) tx:=by rw [ho]
 rw [<-ho] at hx
 clear ho
 have f3:=SF.slot.bind (.ref x)
 have LS:=looks_findIn (M:=model prog w) X hfs
 have LN:=looks_findIn (M:=model prog w) X hfn
 have c1:(Value.ref C::bm).contains (.type owner)=true:=by rw [List.contains_cons,T.hasType SF.hasOwner,Bool.or_true]
 have hpass:refuseLoop (.ref x) "__setattr__" bm=pure ():=ya6 (SF.passes (.ref x)) T
 have L0:=oC (M:=model prog w) (x:=x) (D:=C) (h:=h) ⟨_,hx,e1⟩
 unfold setAttr callSpecial? specialOf
 repeat (any_goals (first|assumption|(with_reducible refine wpAny_loadPart_at hx ?_;rw [e1])|with_reducible refine Looks.at LS ?_|wp_step))
 have hsub:Looks (model prog w) h (isSubtype (.ref C) (.type owner)) true:=fun A' Q' E' s' k q'=>by
  obtain⟨h1,g1,d1,t1,o1⟩:=s'
  exact wpAny_isSubtype_exc (k _ _ hC) (by rw [c1];exact q')
 refine codeAny_call_builtin SF.slot.plain SF.entry (@check_slot (model prog w) _ _ ⟨h,g,d,t+1,os⟩ sa owner "__setattr__" (.ref x) [.str name t,v] [] _ SF.kind SF.split (L0.andThen hsub) (SF.args (.ref x) (.str name t) v) ?_)
 unfold Builtin.«object.__setattr__»
 repeat (first|rw [refuse_eq]|(rw [refuseLoop_ref,hpass])|(with_reducible refine wpAny_loadPart_at hx ?_;rw [e1])|with_reducible refine wpAny_mroOf_exc hC ?_|with_reducible refine Looks.at LN ?_|wp_step)
 rw [e2,if_neg (by simp [typeHasDict])]
 split
 ·rename_i z;cases z
 split
 ·rename_i c z;rw [e3] at z;cases z
 have x1:(h.push {cls:= .type "dict",data:= .dict #[]}).get? x=some o:=Heap.get?_push_of_some _ hx
 have xs:x≠h.objs.size:=Nat.ne_of_lt (Heap.lt_size hx)
 refine wpAny_bind (wpAny_alloc' (wpAny_bind (wpAny_update' x1 (wpAny_pure ?_))))
 have g1:((h.push {cls:= .type "dict",data:= .dict #[]}).update x fun o=>{cls:=o.cls,dict:=some h.objs.size,data:=o.data,slots:=o.slots}).get? h.objs.size=some {cls:= .type "dict",data:= .dict #[]}:=(Heap.get?_update_ne _ _ _ _ xs.symm).trans (Heap.get?_push_at rfl rfl)
 have n1:((h.push {cls:= .type "dict",data:= .dict #[]}).update x fun o=>{cls:=o.cls,dict:=some h.objs.size,data:=o.data,slots:=o.slots}).Ns h.objs.size (fun _=>none):=⟨_,#[],_,g1,rfl,fun e he=>absurd he (by simp),fun _=>rfl⟩
 show wpAny _ _ (storeInDict h.objs.size (.str name t) name v) _ _ _
 unfold storeInDict newKeyGuard
 refine wpAny_bind (wpAny_pure (wpAny_bind (wpAny_nsSet1 (Heap.Ns1.of_empty n1) fun h' hn' hs=> ?_)))
 obtain⟨oD,esD,epD,hoD,hdD,hcD⟩:=hn'.count (Within.cons name v Within.nil)
 refine wpAny_bind (wpAny_lookBehind hoD (by rw [hdD];exact pastItsLine_dict (Nat.le_trans hcD (by rw [List.length_cons,List.length_nil,sizeLine_eq];omega))) ?_)
 wp_walk
 refine hq h' _ _ ?_ hn' (fun y=>rfl) fun b ob nb hb=>(hs.2 b (Nat.ne_of_lt (Heap.lt_size hb))).trans ((Heap.get?_update_ne _ _ _ _ nb).trans (Heap.get?_push_of_some _ hb))
 rw [<-e4]
 refine(hs.2 x xs).trans (Heap.get?_update_self _ x1 ?_)
 have fr:=(Heap.get?_some_iff.mp hx).2
 obtain⟨oc,od,odt,osl⟩:=o
 cases odt<;>first|rfl|exact fr
theorem yk3{M:Model}{h:Heap}{D:Addr}{ox:Obj}{cd:ClassData}{mA:tzA}(X:K.In h)(hx:h.get? x=some ox)(hc:ox.cls= .ref C)(hno:notCls ox=true)(hd:ox.dict=some D)(hcd:clsIn K C=some cd)(hdd:cd.hasDict=true)(hn:h.Ns D mA):Looks M h (inOwnDict name (.ref x)) (mA name):=by
 intro A Q E s k q
 have L:=looks_clsIn (M:=M) X hcd
 obtain⟨oc,odi,oda,osl⟩:=ox
 dsimp only at hc hd
 subst hc hd
 have body:wpAny M A (instanceDict x false) (fun a s'=>wpAny M A (inDict name a) Q E s') E s:=by
  unfold instanceDict
  refine wpAny_bind (wpAny_loadPart (k _ _ hx) ?_)
  dsimp only
  refine wpAny_bind (L A _ E s k ?_)
  rw [hdd]
  exact wpAny_pure (a:=some D) (wpAny_nsGet (hn.keeps k) q)
 refine wpAny_bind (wpAny_bind (wpAny_loadPart (k _ _ hx) ?_))
 cases oda<;>first|exact body|cases hno
theorem xb9{s:Shared}{D:Addr}{ox:Obj}{cd:ClassData}{mA:tzA}{v:Value}{expr:Bool}{Q:Value->Shared->Prop}(hga:findIn K (.ref C) "__getattribute__"=some (some (.builtin "BaseException.__getattribute__")))(hgt:findIn K (.ref C) "__getattr__"=some none)(ha:findIn K (.ref C) name=some none)(hb:mroIn K C (.type "BaseException")=some true)
  (X:K.In s.heap) (hx:s.heap.get? x=some ox) (hc:ox.cls= .ref C) (hno:notCls ox=true) (hd:ox.dict=some D) (hcd:clsIn K C=some cd) (hdd:cd.hasDict=true) (hn:s.heap.Ns D mA) (hm:mA name=some v) (hh:handedIn v=true) (h:Q v {s with toks:=s.toks+1}):wpAny (model prog w) A (getAttr (.ref x) name expr) Q E s:=by
 obtain⟨h1,g1,d1,t1,o1⟩:=s;have L0:=oC (M:=model prog w) (x:=x) (D:=C) (h:=h1) ⟨_,hx,hc⟩;have L1:=looks_findIn (M:=model prog w) X hga
 have LO:=yk3 (M:=model prog w) (name:=name) X hx hc hno hd hcd hdd hn
 rw [hm] at LO
 have LA:=looks_findIn (M:=model prog w) X ha
 have L3:Looks (model prog w) h1 (find (.ref x) (.ref C) name) (.value v):=LA.andThen (Looks.now.andThen (Looks.now.andThen (LO.andThen (Looks.tag .now))))
 have L4:=looks_findIn (M:=model prog w) X hgt
 have FB:=PySem.F.excAttr_ValueError
 have f3:=FB.ga.bind (.ref x)
 have hx2:(Value.builtin "BaseException.__getattribute__"==Value.builtin "object.__getattribute__")=false:=by decide+kernel
 have hx1:(onTheHeap (Value.ref C)&&Value.builtin "BaseException.__getattribute__"==Value.builtin "object.__getattribute__")=false:=by rw [hx2];rfl
 have ho:=handedOut_of hh
 unfold getAttr getAttrBy
 repeat (any_goals (first|assumption|with_reducible refine Looks.at L0 ?_|with_reducible refine Looks.at L1 ?_|with_reducible refine Looks.at L4 ?_|wp_step))
 have hex:(expr&&onTheHeap (Value.builtin "BaseException.__getattribute__"))=false:=Bool.and_false _
 rw [hex,if_neg Bool.false_ne_true]
 unfold boundAndCalled
 repeat (any_goals (first|assumption|with_reducible refine Looks.at L0 ?_|with_reducible refine Looks.at L1 ?_|with_reducible refine Looks.at L4 ?_|wp_step))
 refine codeAny_call_builtin FB.ga.plain F.entry_bexc_ga ?_
 have hk:builtinKind "BaseException.__getattribute__"=some .slot:=by decide+kernel
 have hsplit:splitId "BaseException.__getattribute__"=some ("BaseException","__getattribute__"):=by decide+kernel
 have LB:=looks_mroIn (M:=model prog w) X hb
 have ha2:=F.args_bexc_ga (.ref x) (.str name t1)
 refine @check_slot (model prog w) _ _ ⟨h1,g1,d1,t1+1,o1⟩ "BaseException.__getattribute__" "BaseException" "__getattribute__" (.ref x) [.str name t1] [] _ hk hsplit (L0.andThen LB) ha2 ?_
 repeat (first|with_reducible refine Looks.at L0 ?_|with_reducible refine Looks.at LB ?_|with_reducible refine Looks.at L3 ?_|with_reducible refine Looks.at LA ?_|with_reducible refine Looks.at LO ?_|wp_step)
 exact h
end
open PySem PySem.Spec PyProof.Rows
def rY(C e:Addr):HO:= .ext fun h=>∃t,h.get? e=some (mC C none t)
def pO(C e D:Addr):HO:= .ext fun h=>∃t,h.get? e=some (mC C (some D) t)
def del(H:Hp)(x:Addr):Hp:=fun b=>if b=x then none else H b
theorem zu0{H:Hp}{x:Addr}:del H x x=none:=by unfold del;rw [if_pos rfl]
theorem oE{H:Hp}{x b:Addr}(h:b≠x):del H x b=H b:=by unfold del;rw [if_neg h]
theorem xc0{H:Hp}{x:Addr}{o:HO}(h:H x=some o):upd H x o=H:=by
 funext b
 by_cases q:b=x
 ·subst q;rw [dA,h]
 ·rw [cI q]
section
variable{P:Program}{w:World}{fs ex:List Addr}{H H1:Hp}{h h1:Heap}{x:Addr}{o:HO}{φ:Heap->Prop}
theorem HOk.del(ok:HOk P w H h)(hx:H x=some (.ext φ)):HOk P w (del H x) h:=fun b o e=>by
 have nb:b≠x:=fun z=>by rw [z,zu0] at e;cases e
 rw [oE nb] at e
 refine(ok b o e).stay (fun c u _ q=>q) (fun c q=> ?_) (fun c xs q=> ?_)
 ·rw [oE (xg6 q hx (by intro z;cases z))];exact q
 ·rw [oE (xg6 q hx (by intro z;cases z))];exact q
theorem Un.del(u:Un fs ex H H1 h h1)(n1:H x=none):Un fs ex H (del H1 x) h h1:=
 ⟨u.keep,u.slot,fun b o q n hx=>by
  have z:=u.free b o q n hx
  unfold L2.del
  split
  ·rfl
  ·exact z,u.there,fun b xs q=>by rw [oE (eQ q n1)];exact u.tups b xs q,fun b o xs q=>by rw [oE (eQ q n1)];exact u.frzs b o xs q,fun b ps q=>by rw [oE (eQ q n1)];exact u.tbls b ps q⟩
theorem HOk.add(ok:HOk P w H h)(hn:H x=none)(new:dU P w (upd H x o) h x o):HOk P w (upd H x o) h:=fun b u e=>by
 by_cases hb:b=x
 ·subst hb;rw [dA] at e;cases e;exact new
 ·rw [cI hb] at e
  exact(ok b u e).stay (fun c v _ q=>q) (fun c q=>by rw [cI (eQ q hn)];exact q) fun c xs q=>by rw [cI (eQ q hn)];exact q
theorem Un.add(u:Un fs ex H H1 h h1)(n0:h.get? x=none)(n1:H x=none):Un fs ex H (upd H1 x o) h h1:=
 ⟨u.keep,u.slot,fun b ob q n hx=>by rw [cI fun z=>by rw [z,n0] at q;cases q];exact u.free b ob q n hx,u.there,fun b xs q=>by rw [cI (eQ q n1)];exact u.tups b xs q,fun b o xs q=>by rw [cI (eQ q n1)];exact u.frzs b o xs q,fun b ps q=>by rw [cI (eQ q n1)];exact u.tbls b ps q⟩
end
def yx9(C:Addr):Sp:=fun vs H Q _=>∃e n,vs=[.ref e,.int n]/\H e=some (rY C e)/\n.natAbs.log2<1920/\∀D,H D=none->D≠e->Q .non (upd (upd H e (pO C e D)) D (.xd [("at",.int n)]))
structure NumCls(K:tz0)(C fI:Addr)(base:Heap):Prop where
 obj:∃bm N nm q bs sn sub ab col dd k0 k1 k2 k3 k5 mN,base.get? C=some (excClassObj nm q C N bs bm true sn sub ab col dd k0 k1 k2 k3 k5 "ValueError.__new__")/\base.Ns N mN/\mN "__init__"=some (.ref fI)/\OwnTail base bmV bm
 fn:∃oI,base.get? fI=some oI/\oI.cls= .type "function"
 sa:PySem.W.findIn K (.ref C) "__setattr__"=some (some (.builtin "object.__setattr__"))
 at_:PySem.W.findIn K (.ref C) "at"=some none
structure BaseInit(K:tz0)(LE:Addr):Prop where
 ga:PySem.W.specialIn K (.ref LE) "__getattribute__"=some (some (.builtin "type.__getattribute__"))
 rd:PySem.W.readsIn K LE (.type "type")=true
 fc:PySem.W.findCls K (.ref LE) (.type "type") "__init__"=some (.val (.builtin "ValueError.__init__"))
section
variable{X:Cx}{C LE fI:Addr}{le z:Str}{p1 p2 p3 p4 p5 p6 ap cp ep q1 q2 q3 q4:Pos}{j:Nat}{pl:Sem Bool}
theorem xc1(hg:Gl X le)(hm:X.mg le=some (.ref LE))(B:BaseInit X.K LE)(O:NumCls X.K C fI X.base)(hN0:X.N[0]? =some ("self":Str))(hN1:X.N[1]? =some ("at":Str))(hv0:Vis X.env.scope "self")(hv1:Vis X.env.scope "at")(hz:decide (z.length<=2000)=true:=by decide+kernel)(hd:(le==("__debug__":Str))=false:=by decide)
  (ht:eval (.Call (.Attribute (.Name le p1) "__init__" ap) [.Name "self" p2,.JoinedStr [.Constant (.str z) j p3,.FormattedValue (.Name "at" p4) (-1) none p5] p6] [] cp) X.env=(do
   let ov<-eval (.Name le p1) X.env
   standAt ap.atName
   let (f',first)<-holding [ov] (getMethod ov "__init__" pl)
   callWith cp f' first (backTo cp (starEach [.Name "self" p2,.JoinedStr [.Constant (.str z) j p3,.FormattedValue (.Name "at" p4) (-1) none p5] p6] X.env)) (backToKw cp (keywordEach [] X.env))):=by rfl)
  (hs:swapsWith (.Call (.Attribute (.Name le p1) "__init__" ap) [.Name "self" p2,.JoinedStr [.Constant (.str z) j p3,.FormattedValue (.Name "at" p4) (-1) none p5] p6] [] cp) none ep.line X.env=pure false:=by rfl):
  PS X (.Expr (.Call (.Attribute (.Name le p1) "__init__" ap) [.Name "self" p2,.JoinedStr [.Constant (.str z) j p3,.FormattedValue (.Name "at" p4) (-1) none p5] p6] [] cp) ep)
   (fun D σ H=>∃e n,σ[0]? =some (some (.ref e))/\σ[1]? =some (some (.int n))/\H e=some (rY C e)/\n.natAbs.log2<1920/\D.nx σ H):=⟨by
 intro pins s σ H D I h
 obtain⟨e,n,s0,s1,he,hn,q⟩:=h
 refine wpAny_Expr_any ?_ I.quiet hs
 rw [ht]
 refine wpAny_bind (oX I hg hm ?_ hd)
 refine wpAny_bind (wpAny_standAt (wpAny_bind (wpAny_holding ?_)))
 refine PySem.W.method_cls I.kIn B.ga (PySem.W.cls_value I.kIn B.rd B.fc rfl ?_)
 refine PyProof.Rows.callWith_builtin1 ?_ rfl rfl
 have I1:=I.tok (s.toks+1)
 refine Calls.spliced_cons (thn (iP hN0 hv0 rfl rfl pins _ σ H (fun v H'=>v= .ref e/\H'=H) I1 ⟨_,s0,rfl,rfl⟩) fun u s2 hu=> ?_)
 obtain⟨v,H1,I2,r1,rfl,rfl⟩:=hu
 cases r1
 have hz':=of_decide_eq_true hz
 have hsl:sizeLine=16777216:=sizeLine_eq
 have h0:Str.empty.length=0:=rfl
 refine Calls.spliced_cons (JoinedStr_many (pos:=p6) ?_)
 show wpAny _ _ (joinParts Str.empty (eval (.Constant (.str z) j p3) X.env::evalEach [.FormattedValue (.Name "at" p4) (-1) none p5] X.env)) _ _ _
 refine joinParts_cons (Calls.Constant_str (k:=j) (pos:=p3) ⟨by rw [strLen_append];omega,?_⟩)
 show wpAny _ _ (joinParts _ (eval (.FormattedValue (.Name "at" p4) (-1) none p5) X.env::evalEach [] X.env)) _ _ _
 refine joinParts_cons (FormattedValue_plain (thn (iP hN1 hv1 rfl rfl pins _ σ H1 (fun v H'=>v= .int n/\H'=H1) (I2.tok _) ⟨_,s1,rfl,rfl⟩) fun u s3 hu=> ?_))
 obtain⟨v,H2,I3,r2,rfl,rfl⟩:=hu
 obtain⟨t,rfl⟩:=r2
 refine formatField_int_small hn ?_
 have hs1:(toString n).length<=1920+1:=int_text_length_le (by decide) hn
 have hs2:(Str.ofString (toString n)).length<=1921:=by rw [PySem.ofString_length];exact hs1
 refine⟨by rw [strLen_append,strLen_append];omega,joinParts_nil (Calls.spliced_nil ?_) (by rw [strLen_append,strLen_append];omega)⟩
 obtain⟨bm,N',nm,qn,bs,sn,sub,ab,col,dd,k0,k1,k2,k3,k5,mN,hC,_,_,T⟩:=O.obj
 have I4:=I3.tok (s3.toks+1+1)
 obtain⟨h3,g3,d3,t3,o3⟩:=s3
 have kp:∀b o,X.base.get? b=some o->h3.get? b=some o:=I3.bk
 obtain⟨⟨t0,hx⟩,_,st⟩:=(show dU X.prog X.w H2 h3 e (rY C e) from I3.hok e _ he)
 refine wpAny_call (codeAny_call_builtin PySem.F.excBase_ValueError.init.plain PySem.F.excBase_ValueError.initEntry (wpAny_check_init_subT PySem.F.excBase_ValueError (T.keeps kp) (kp _ _ hC) hx rfl ?_))
 wp_walk
 have hx3:((h3.push {cls:= .type "tuple",data:= .seq #[Value.str (Str.empty++z++Str.ofString (toString n)) (t3+1+1)]}).update e (Obj.mapFields fun x=>x.setIfInBounds 0 (Value.ref h3.objs.size))).get? e=some (mC C none h3.objs.size):=by
  rw [Heap.get?_update_self _ (Heap.get?_push_of_some _ hx) rfl];rfl
 have kb:∀b u,b≠e->h3.get? b=some u->((h3.push {cls:= .type "tuple",data:= .seq #[Value.str (Str.empty++z++Str.ofString (toString n)) (t3+1+1)]}).update e (Obj.mapFields fun x=>x.setIfInBounds 0 (Value.ref h3.objs.size))).get? b=some u:=fun b u nb w=>(Heap.get?_update_other _ _ (Ne.symm nb)).trans (Heap.get?_push_of_some _ w)
 have mu:Mut (H2 e):=by rw [he];trivial
 have I5:=fun tk=>I3.write (t':=tk) (o:=rY C e) mu (.inl rfl) kb ⟨_,hx3⟩ ⟨⟨_,hx3⟩,⟨_,hx3⟩,fun a b ⟨t,z⟩ k=>⟨t,k _ z⟩⟩
 rw [xc0 he] at I5
 exact(show SP X pins D .next _ from⟨σ,H2,I5 _,q⟩)⟩
theorem xn0(O:NumCls X.K C fI X.base)(hN0:X.N[0]? =some ("self":Str))(hN1:X.N[1]? =some ("at":Str))(hv0:Vis X.env.scope "self")(hv1:Vis X.env.scope "at")(hs:swapsWith (.Name "at" q3) (some (.Attribute (.Name "self" q1) "at" q2)) q4.line X.env=pure false:=by rfl):
  PS X (.Assign [.Attribute (.Name "self" q1) "at" q2] (.Name "at" q3) q4)
   (fun D σ H=>∃e n,σ[0]? =some (some (.ref e))/\σ[1]? =some (some (.int n))/\H e=some (rY C e)/\∀Da,H Da=none->Da≠e->D.nx σ (upd (upd H e (pO C e Da)) Da (.xd [("at",.int n)]))):=⟨by
 intro pins s σ H D I h
 obtain⟨e,n,s0,s1,he,q⟩:=h
 refine plainObj_wpAny_Assign_Attribute (thn (iP hN1 hv1 rfl rfl pins s σ H (fun v H'=>v= .int n/\H'=H) I ⟨_,s1,rfl,rfl⟩) fun u s2 hu=> ?_) hs
 obtain⟨v,H1,I1,r1,rfl,rfl⟩:=hu
 obtain⟨t,rfl⟩:=r1
 refine thn (iP hN0 hv0 rfl rfl pins s2 σ H1 (fun v H'=>v= .ref e/\H'=H1) I1 ⟨_,s0,rfl,rfl⟩) fun ov s3 hu=> ?_
 obtain⟨v,H2,I2,r2,rfl,rfl⟩:=hu
 cases r2
 obtain⟨bm,N',nm,qn,bs,sn,sub,ab,col,dd,k0,k1,k2,k3,k5,mN,hC,_,_,T⟩:=O.obj
 obtain⟨h3,g3,d3,t3,o3⟩:=s3
 have kp:∀b o,X.base.get? b=some o->h3.get? b=some o:=I2.bk
 obtain⟨⟨t0,hx⟩,_,st⟩:=(show dU X.prog X.w H2 h3 e (rY C e) from I2.hok e _ he)
 refine xb8 PySem.F.store_ValueError (T.keeps kp) I2.kIn (kp _ _ hC) O.sa O.at_ hx fun h' tk mA hx' hns hmA kb=> ?_
 have fr:H2 h3.objs.size=none:=I2.hok.fresh (Nat.le_refl _)
 have ne:h3.objs.size≠e:=fun z=>by rw [<-z,fr] at he;cases he
 have mu:Mut (H2 e):=by rw [he];trivial
 have hok1:HOk X.prog X.w (upd H2 e (pO C e h3.objs.size)) h':=I2.hok.write mu (.inl rfl) kb ⟨_,hx'⟩ ⟨⟨t0,hx'⟩,⟨_,hx'⟩,fun a b ⟨t,z⟩ k=>⟨t,k _ z⟩⟩
 have hok2:HOk X.prog X.w (upd (upd H2 e (pO C e h3.objs.size)) h3.objs.size (.xd [("at",.int n)])) h':=hok1.add (by rw [cI ne];exact fr) ⟨mA,hns,fun f=>by
  rw [hmA f]
  by_cases z:f="at"
  ·subst z;exact⟨t,rfl⟩
  ·rw [if_neg z]
   show jC (match f==("at":Str) with|true=>some (V.int n)|false=>none) none
   rw [beq_eq_false_iff_ne.mpr z];trivial⟩
 have un2:Un X.fs [] H2 (upd (upd H2 e (pO C e h3.objs.size)) h3.objs.size (.xd [("at",.int n)])) h3 h':=(Un.write mu (.inl rfl) kb ⟨_,hx'⟩).add (Heap.get?_none_of_le (Nat.le_refl _)) fr
 exact⟨σ,_,I2.un (t':=tk) un2 hok2,q _ fr ne⟩⟩
end
section
variable{P:Program}{w:World}{K:tz0}{mg:tzA}{base:Heap}{C LE f:Addr}{le z x qual:Str}{p1 p2 p3 p4 p5 p6 ap cp ep q1 q2 q3 q4:Pos}{j k:Nat}{st:Stmt}{fd:FuncData}
theorem xn1(F:Fun K x qual st f fd)(S:FnScope ["self","at"] ["self","at"] (aW st))(hb:jO st=[.Expr (.Call (.Attribute (.Name le p1) "__init__" ap) [.Name "self" p2,.JoinedStr [.Constant (.str z) j p3,.FormattedValue (.Name "at" p4) (-1) none p5] p6] [] cp) ep,.Assign [.Attribute (.Name "self" q1) "at" q2] (.Name "at" q3) q4])
  (hm:mg le=some (.ref LE)) (B:BaseInit K LE) (O:NumCls K C f base) (hg:(aW st).names.lookup le=some .globalImplicit) (hz:decide (z.length<=2000)=true) (hd:(le==("__debug__":Str))=false)
  (ht:∀(L:Addr) (cdv:Value),∃pl,eval (.Call (.Attribute (.Name le p1) "__init__" ap) [.Name "self" p2,.JoinedStr [.Constant (.str z) j p3,.FormattedValue (.Name "at" p4) (-1) none p5] p6] [] cp) (envOfC qual (aW st) L f cdv)=(do
   let ov<-eval (.Name le p1) (envOfC qual (aW st) L f cdv)
   standAt ap.atName
   let (f',first)<-holding [ov] (getMethod ov "__init__" pl)
   callWith cp f' first (backTo cp (starEach [.Name "self" p2,.JoinedStr [.Constant (.str z) j p3,.FormattedValue (.Name "at" p4) (-1) none p5] p6] (envOfC qual (aW st) L f cdv))) (backToKw cp (keywordEach [] (envOfC qual (aW st) L f cdv))))):FnOk P w K mg base CX0 (k+1) f fd ["self","at"] (yx9 C):=by
 obtain⟨oc,od,kV,doc,pm,an,cdv,ct,osl,rfl,lk,hcd⟩:=F.ex
 refine zo3 lk hcd S (fun vs H Q E h=>by obtain⟨e,n,rfl,_⟩:=h;rfl) fun A outer s H vs Q E hr hsp=> ?_
 obtain⟨e,n,rfl,he,hn,q⟩:=hsp
 rw [hb]
 obtain⟨pl,hpl⟩:=ht s.heap.objs.size cdv
 have v0:Vis (aW st) "self":=(S.par "self" (by simp)).elim .inl fun h=> .inr (.inl h)
 have v1:Vis (aW st) "at":=(S.par "at" (by simp)).elim .inl fun h=> .inr (.inl h)
 exact⟨_,gX (xc1 (X:=fQ CX0 P w K mg base ["self","at"] qual (aW st) f cdv A outer s H E) hg hm B O rfl rfl v0 v1 hz hd hpl) (qU (xn0 (X:=fQ CX0 P w K mg base ["self","at"] qual (aW st) f cdv A outer s H E) O rfl rfl v0 v1)),e,n,rfl,rfl,he,hn,e,n,rfl,rfl,he,fun Da h1 h2=>q Da h1 h2⟩
end
structure NumI(P:Program)(w:World)(K:tz0)(mg:tzA)(base:Heap)(x:Str)(C:Addr):Prop where
 bound:mg x=some (.ref C)
 cls:∃fI fd,NumCls K C fI base/\FnOk P w K mg base CX0 1 fI fd ["self","at"] (yx9 C)/\lH K fd ["self","at"] []
theorem yk4{d:D}{n:Int}(h:ze9 d=some n):d= .int n/\n.natAbs.log2<1920:=by
 unfold ze9 at h
 split at h
 ·obtain⟨h1,h2⟩:=bV h
  cases h2
  exact⟨rfl,h1⟩
 ·cases h
section
variable{P:Program}{w:World}{K:tz0}{mg:tzA}{base:Heap}{N:List Str}{qual:Str}{scope:Scope}{f C:Addr}{cd:Value}{A:Around}{outer:List Env}{s:Shared}{H:Hp}{E:XK}{κ:tz9}{φ:F0}
theorem zI{x:Str}{a:Expr}{fa:tz2}{np cpos pos:Pos}{k:Nat}(O:NumI P w K mg base x C)(hg:Gl (fQ (CXn P w base C) P w K mg base N qual scope f cd A outer s H E) x)(hr:Room (k+2) (A.deeper (envOfC qual scope s.heap.objs.size f cd)))
  (ha:QV (fQ (CXn P w base C) P w K mg base N qual scope f cd A outer s H E).nox κ a fa) (hd:(x==("__debug__":Str))=false:=by decide) (hs:starEach [a] (envOfC qual scope s.heap.objs.size f cd)=[(false,eval a (envOfC qual scope s.heap.objs.size f cd))]:=by rfl):
  QN (fQ (CXn P w base C) P w K mg base N qual scope f cd A outer s H E) κ φ (ExN E C) (.Raise (some (.Call (.Name x np) [a] [] cpos)) none pos) (jR fa):=⟨by
 intro pins s1 σ H1 D I h
 obtain⟨ps,F,n,R,ef,q0⟩:=h
 obtain⟨d,e1,e2⟩:=bind_some ef
 obtain⟨rfl,hn⟩:=yk4 e2
 obtain⟨fI,fd,NC,G,hb⟩:=O.cls
 obtain⟨bm,N',nm,qn,bs,sn,sub,ab,col,dd,k0,k1,k2,k3,k5,mN,hC,hN,hni,T⟩:=NC.obj
 obtain⟨oI,hfI,hfc⟩:=NC.fn
 refine ya5 (C:=C) (nm:=nm) (q:=qn) (N:=N') (bs:=bs) (bm:=bm) (hdct:=true) (sn:=sn) (sub:=sub) (ab:=ab) (col:=col) (dd:=dd) (k0:=k0) (k1:=k1) (k2:=k2) (k3:=k3) (k5:=k5)
  PySem.F.excBase_ValueError (mN:=mN) (T.hasType PySem.F.excBase_ValueError.hasBase) (I.ok.hd rfl) (by show(backTo cpos (starEach [a] (envOfC qual scope s.heap.objs.size f cd))).any (·.1)=false;rw [hs];rfl) hni hfc (oX I hg O.bound ⟨rfl,?_⟩ hd)
 show wpAny (model P w) (A.deeper (envOfC qual scope s.heap.objs.size f cd)) (evalArgs (.ref C) true (backTo cpos (starEach [a] (envOfC qual scope s.heap.objs.size f cd))) []) _ _ s1
 rw [hs]
 refine Calls.evalArgs_plain (Calls.spliced_cons (wpAny_mono (ha pins s1 σ H1 (fun v H'=>SameK H1 H'/\v= .int n) (I.wish _) ⟨ps,_,R.ws,e1,fun v H' fp sm r=>⟨sm,r.is_int⟩⟩) (fun u s2 hu=>Calls.spliced_nil ?_) fun _ _ z=>False.elim z))
 obtain⟨v,H2,I2',r2,sm,rfl⟩:=hu
 obtain⟨t,rfl⟩:=r2
 have I2:=I2'.unwish
 have kp:∀b o,base.get? b=some o->s2.heap.get? b=some o:=I2.bk
 refine⟨rfl,(show 1<=sizeLine from Nat.le_trans (by decide) (sE (n:=1) (by decide))),kp _ _ hC,hN.keeps kp,T.keeps kp,kp _ _ hfI,?_⟩
 have ge:(oQ s2.heap C [.int n t]).get? (s2.heap.objs.size+1)=some (mC C none s2.heap.objs.size):=by heap_get
 have I3:Inv (fQ (CXn P w base C) P w K mg base N qual scope f cd A outer s H E) pins σ (upd H2 (s2.heap.objs.size+1) (rY C (s2.heap.objs.size+1))) {s2 with heap:=oQ s2.heap C [.int n t]}:=I2.laid (t':=s2.toks) (fun b u q=>mP q) (Nat.le_succ _) ⟨⟨_,ge⟩,⟨_,ge⟩,fun a b ⟨t,z⟩ k=>⟨t,k _ z⟩⟩
 have nH2:H2 (s2.heap.objs.size+1)=none:=I2.hok.fresh (Nat.le_succ _)
 have E3:=I3.env0.make C [.int n t] []
 have r1:Room 1 ((A.deeper (envOfC qual scope s.heap.objs.size f cd)).under (.builtin "type.__call__" ⟨.ref C::[.int n t],[]⟩)):=(hr.mono (by omega):Room (1+1) _).make C _ _
 refine wpAny_call (codeAny_mono (G.run _ _ _ _ ⟨[.ref (s2.heap.objs.size+1),.int n t],[]⟩ [.ref (s2.heap.objs.size+1),.int n t] [.ref (s2.heap.objs.size+1),.int n] (fun v H'=>v= .non/\∃Da,upd H2 (s2.heap.objs.size+1) (rY C (s2.heap.objs.size+1)) Da=none/\Da≠s2.heap.objs.size+1/\H'=upd (upd (upd H2 (s2.heap.objs.size+1) (rY C (s2.heap.objs.size+1))) (s2.heap.objs.size+1) (pO C (s2.heap.objs.size+1) Da)) Da (.xd [("at",.int n)])) (fun _ _ _=>False) r1 E3 (hb _ [.ref (s2.heap.objs.size+1),.int n t] I3.kIn rfl) (.cons rfl (.cons ⟨t,rfl⟩ .nil)) ⟨_,n,rfl,dA,hn,fun Da h1 h2=>⟨rfl,Da,h1,h2,rfl⟩⟩) fun rr s' hq=> ?_)
 cases rr with
 |error ee=>exact hq.elim
 | ok f2=>
  cases f2 with
  | ret u=>
   obtain⟨v,H',os,bare,un,hok,rv,rfl,Da,hDa,hne,rfl⟩:=hq
   cases rv
   have nDa:H2 Da=none:=by rw [cI hne] at hDa;exact hDa
   have hx:upd (upd (upd H2 (s2.heap.objs.size+1) (rY C (s2.heap.objs.size+1))) (s2.heap.objs.size+1) (pO C (s2.heap.objs.size+1) Da)) Da (.xd [("at",.int n)]) (s2.heap.objs.size+1)=some (pO C (s2.heap.objs.size+1) Da):=by rw [cI (Ne.symm hne),dA]
   obtain⟨⟨tx,he⟩,_,_⟩:=(show dU P w _ s'.heap _ (pO C (s2.heap.objs.size+1) Da) from hok _ _ hx)
   have U:Un (frs (envOfC qual scope s.heap.objs.size f cd::outer)) [] H2 _ s2.heap s'.heap:=(Un.laid (fun b u q=>mP q) (Nat.le_succ _) nH2).trans un
   have I4:=I2.call' os (U.del nH2) (hok.del hx) bare (fun _ m=>absurd m (by simp))
   have hDa4:del (upd (upd (upd H2 (s2.heap.objs.size+1) (rY C (s2.heap.objs.size+1))) (s2.heap.objs.size+1) (pO C (s2.heap.objs.size+1) Da)) Da (.xd [("at",.int n)])) (s2.heap.objs.size+1) Da=some (.xd [("at",.int n)]):=by rw [oE hne,dA]
   refine⟨rfl,I4.bk _ _ hC,⟨some Da,tx,he⟩,yt0 I4 ?_ zu0 he (q0 _ ⟨fun b o hb kk _=> ?_,fun b hb=> ?_⟩ Da hDa4)⟩
   ·cases z:s.heap.get? (s2.heap.objs.size+1) with
    |none=>rfl
    |some o=>exact absurd (Heap.lt_size z) (Nat.not_lt.mpr (Nat.le_succ_of_le (show s.heap.objs.size<=s2.heap.objs.size from I2.sz)))
   ·have h2:=sm.keep b o hb kk
    rw [oE (fun z=>by rw [z,nH2] at h2;cases h2),cI (fun z=>by rw [z,nDa] at h2;cases h2),yb6,cI (fun z=>by rw [z,nH2] at h2;cases h2)]
    exact h2
   ·by_cases z1:b=s2.heap.objs.size+1
    ·subst z1;exact sm.grow _ nH2
    ·rw [oE z1] at hb
     by_cases z2:b=Da
     ·subst z2;exact sm.grow _ nDa
     ·rw [cI z2,yb6,cI z1] at hb;exact sm.grow _ hb
  |next=>exact hq.elim
  |brk=>exact hq.elim
  |cont=>exact hq.elim⟩
end
section
variable{prog:Program}{w:World}{A:Around}{E:Value->Shared->Prop}{s:Shared}
def yn7(its:Array Value):Nat->Value->Prop:=fun i v=>its[its.size-1-i]? =some v
theorem yk5:typeLookup (.type "list_reverseiterator") "__len__"=pure none:=by rw [typeLookup_type,builtinLookup_eq_fast];kernel_rfl
theorem xc2:typeLookup (.type "list_reverseiterator") "__length_hint__"=pure (some (.builtin "list_reverseiterator.__length_hint__")):=by rw [typeLookup_type,builtinLookup_eq_fast];kernel_rfl
theorem yk6{R:Result->Shared->Prop}(hh:A.handled=none){S I l:Addr}{its:Array Value}{res:Value}{c0:Nat}(hI:s.heap.IsRevIter I l ((its.size:Int)-1))(hl:s.heap.IsList l its)(ne:l≠I)(n1:S≠I)(n2:S≠l)(hS:s.heap.get? S=some {cls:= .type "list",data:= .seq #[] c0})(hn:its.size<=sizeLine)
  (hR:∀h' tk acc c,(∀b o,b≠S->b≠I->s.heap.get? b=some o->h'.get? b=some o)->h'.get? S=some {cls:= .type "list",dict:=none,data:= .seq acc c,slots:= #[]}->ItemsOf (yn7 its) acc its.size->R (.ok (.ret res)) {s with heap:=h',toks:=tk}):
  wpAny (model prog w) A.in1 (Builtin.List.listExtendWith (.ref S) (.ref I) res) (fun fin s'=>match fin with| .done f=>R (.ok f) s'| .again c'=>c'.quiet=true/\codeAny (model prog w) A c' R s') (fun e s'=>R (.error e) s') s:=by
 have hT:s.TypeIs (.ref I) "list_reverseiterator":=hI.typeIs
 have hSf:S∉[I,l]:=fun m=>by
  simp at m
  exact m.elim n1 n2
 unfold Builtin.List.listExtendWith
 refine wpAny_bind (wpAny_typeOf hT ?_)
 have a1:Builtin.List.listSameRef (.ref S) (.ref I)=false:=by simp [Builtin.List.listSameRef,n1]
 have a2:(Value.type "list_reverseiterator"==Value.type "list")=false:=by decide
 have a3:(Value.type "list_reverseiterator"==Value.type "tuple")=false:=by decide
 simp only [a1,a2,a3,Bool.or_false,Bool.false_eq_true,if_false]
 refine wpAny_bind (wpAny_pyIter_revIter hI (wpAny_bind (wpAny_holding ?_)))
 unfold Builtin.List.listLengthHint
 refine wpAny_bind (wpAny_specialOf hT yk5 ?_)
 show wpAny _ A.in1 (specialOf (Value.ref I) (Str.ofString "__length_hint__")>>=_) _ _ _
 refine wpAny_bind (wpAny_specialOf hT xc2 ?_)
 wp_delta
 refine wpAny_bind (wpAny_isInstance hT (b:=true) (by rw [isSubtype_type];kernel_rfl) ?_)
 refine wpAny_pure ?_
 rw [if_neg (by decide)]
 refine wpAny_pure ⟨plainId_quiet F.plain_extend_loop _,codeAny_extend_loopS (Walks.listRev (A:=A.in1) hh I l ne its).toS hn _ hSf _ its.size 0 _ _ _ rfl (Nat.zero_le _) ⟨Nat.zero_le _,by simpa using hI,hl⟩ hS (ItemsOf.nil _) fun s' acc c hm hS' hacc=> ?_⟩
 rw [Moved.eq_with hm]
 exact hR s'.heap s'.toks acc c (fun b o q1 q2 e=>hm.heap b o (fun m=>by simp at m;exact m.elim q1 q2) e) hS' hacc
theorem zn7{Q:Value->Shared->Prop}(hh:A.handled=none){I l:Addr}{its:Array Value}(hI:s.heap.IsRevIter I l ((its.size:Int)-1))(hl:s.heap.IsList l its)(ne:l≠I)(hn:its.size<=sizeLine)
  (hQ:∀h' tk acc c,(∀b o,b≠I->s.heap.get? b=some o->h'.get? b=some o)->h'.get? s.heap.objs.size=some {cls:= .type "list",dict:=none,data:= .seq acc c,slots:= #[]}->ItemsOf (yn7 its) acc its.size->Q (.ref s.heap.objs.size) {s with heap:=h',toks:=tk}):wpAny (model prog w) A (call (.type "list") [.ref I]) Q E s:=by
 obtain⟨oI,eI,_⟩:=id hI
 obtain⟨ol,el,_⟩:=id hl
 have kI:=Nat.ne_of_gt (Heap.lt_size eI)
 have kl:=Nat.ne_of_gt (Heap.lt_size el)
 refine callType_codes (Q₁:=fun ob s1=>ob= .ref s.heap.objs.size/\s1={s with heap:=s.heap.push {cls:= .type "list",data:= .seq #[]}}) F.called_list (F.typeCall_list_1 _) F.entry_list_init (code_list_new _ ⟨rfl,rfl⟩) fun ob s1 z=> ?_
 obtain⟨rfl,rfl⟩:=z
 have hS:(s.heap.push {cls:= .type "list",data:= .seq #[]}).get? s.heap.objs.size=some {cls:= .type "list",data:= .seq #[]}:=Heap.get?_push_size _ rfl
 refine⟨⟨_,hS,rfl⟩,F.args_list_init_2 _ _,?_⟩
 show wpAny _ _ (do let old<-Builtin.List.listItems (.ref s.heap.objs.size);Builtin.List.listUpdate (.ref s.heap.objs.size) (fun _=> #[]);letGo old.toList.reverse;Builtin.List.listExtendWith (.ref s.heap.objs.size) (.ref I) .none) _ _ _
 refine wpAny_bind ?_
 unfold Builtin.List.listItems
 refine wpAny_bind (wpAny_seqItems hS rfl (wpAny_pure ?_))
 show wpAny _ _ (updateSeq s.heap.objs.size (fun _=> #[])>>=fun _=>letGo (#[]:Array Value).toList.reverse>>=fun _=>Builtin.List.listExtendWith (.ref s.heap.objs.size) (.ref I) .none) _ _ _
 refine wpAny_bind (wpAny_updateSeq hS rfl ?_)
 have hS2:=Heap.get?_update_self (Obj.mapSeq (fun _=>(#[]:Array Value))) hS rfl
 have oth:∀b o,b≠s.heap.objs.size->s.heap.get? b=some o->((s.heap.push {cls:= .type "list",data:= .seq #[]}).update s.heap.objs.size (Obj.mapSeq (fun _=>(#[]:Array Value)))).get? b=some o:=fun b o q e=>(Heap.get?_update_other _ _ (Ne.symm q)).trans (Heap.get?_push_of_some _ e)
 refine wpAny_bind (wpAny_letGo ?_)
 refine yk6 (A:=A.in1) hh (hI.at fun o e=>oth I o (Ne.symm kI) e) (hl.at fun o e=>oth l o (Ne.symm kl) e) ne kI kl hS2 hn fun h' tk acc c hk h1 h2=> ?_
 exact⟨rfl,hQ h' tk acc c (fun b o q e=>hk b o (Nat.ne_of_lt (Heap.lt_size e)) q (oth b o (Nat.ne_of_lt (Heap.lt_size e)) e)) h1 h2⟩
end
def xf7:D->Option D
 | .lst _ xs=>if D.imms xs=true then some (.lst true xs.reverse) else none
 |_=>none
def xf8(f:tz2):tz2:=fun ps=>(f ps).bind xf7
theorem yt6{its acc:Array Value}(h:ItemsOf (yn7 its) acc its.size):acc.toList=its.toList.reverse:=by
 obtain⟨h1,h2⟩:=h
 refine List.ext_getElem? fun i=> ?_
 rw [Array.getElem?_toList]
 by_cases hi:i<its.size
 ·have hs:i<acc.size:=by omega
  have e:acc[i]? =some acc[i]:=Array.getElem?_eq_getElem hs
  have:=h2 i _ e
  rw [e,List.getElem?_reverse (by simpa using hi),Array.getElem?_toList,Array.length_toList]
  exact this.symm
 ·rw [Array.getElem?_eq_none (by omega),List.getElem?_eq_none (by simp;omega)]
section
variable{X:Cx}{κ:tz9}{a:Expr}{fa:tz2}{p1 p2 pos2 pos:Pos}
theorem xt9(hc:X.calm=true)(ha:QV X κ a fa)(hg1:Gl X "list")(hm1:X.mg "list"=none)(hg2:Gl X "reversed")(hm2:X.mg "reversed"=none)
  (hs1:starEach [.Call (.Name "reversed" p2) [a] [] pos2] X.env=(false,eval (.Call (.Name "reversed" p2) [a] [] pos2) X.env)::starEach [] X.env:=by rfl) (hs2:starEach [a] X.env=(false,eval a X.env)::starEach [] X.env:=by rfl):
  QP X κ (.Call (.Name "list" p1) [.Call (.Name "reversed" p2) [a] [] pos2] [] pos) (xf8 fa):=⟨by
 intro pins s σ H Q I hh_
 obtain⟨ps,d,w,e,q⟩:=hh_
 obtain⟨d1,e1,e2⟩:=bind_some e
 unfold xf7 at e2
 split at e2
 ·rename_i b xs
  obtain⟨hi,e2⟩:=bV e2
  cases e2
  refine wpAny_Call_Name_kw (rA I hg1 hm1 (u:= .type "list") rfl ?_)
  refine PyProof.Rows.callWith_type1 ?_ hs1 rfl
  rw [hs1]
  refine Calls.spliced_cons ?_
  refine wpAny_Call_Name_kw (rA I hg2 hm2 (u:= .type "reversed") rfl ?_)
  refine PyProof.Rows.callWith_type1 ?_ hs2 rfl
  rw [hs2]
  refine Calls.spliced_cons (thn (ha pins s σ H (fun v H1=>SameK H H1/\∃fp,Rep X.K κ H1 v (.lst b xs) fp) I ⟨ps,_,w,e1,fun v H1 fp s1 r1=>⟨s1,fp,r1⟩⟩) fun u s1 hu=>Calls.spliced_nil ?_)
  obtain⟨v,H1,I1,r1,sm,fp,rp⟩:=hu
  obtain⟨l,ws,g,rfl,hl,hws,_⟩:=rp.lst_inv
  cases r1
  obtain⟨its,rv,pl,hz⟩:=I1.list (.inl hl)
  have el:l<s1.heap.objs.size:=by obtain⟨o,ho,_⟩:=pl.isList;exact Heap.lt_size ho
  refine call_reversed_list pl.isList (Calls.spliced_nil ?_)
  refine zn7 (I.ok.hd hc) (I:=s1.heap.objs.size) (l:=l) (its:=its.toArray) ⟨_,Heap.get?_push_size _ rfl,rfl,rfl⟩ (pl.isList.at fun o e=>Heap.get?_push_of_some _ e) (Nat.ne_of_lt el) (by rw [List.size_toArray,<-rv.length];exact hz) fun h' tk acc c kb hn hit=> ?_
  have ei:=yt6 hit
  have hp:H1 (s1.heap.push (revObj l ((its.toArray.size:Int)-1))).objs.size=none:=I1.hok.fresh (by rw [Heap.size_push];exact Nat.le_succ _)
  refine⟨.ref _,_,I1.laid (t':=tk) (o:= .lst ws.reverse) (fun b u q=>kb b u (Nat.ne_of_lt (Heap.lt_size q)) (Heap.get?_push_of_some _ q)) (by rw [Heap.size_push];exact Nat.le_succ _) ⟨by rw [List.length_reverse];exact hz,its.reverse,c,Paired.rev rv,?_⟩,rfl,tU hp (Paired.rev (hws.pair hi)) (q.after sm)⟩
  rw [hn]
  congr 3
  exact Array.ext' (by rw [ei])
 ·cases e2⟩
end
theorem zk9{K:tz0}{C fI:Addr}{base:Heap}(O:NumCls K C fI base):yM C base:=by
 obtain⟨bm,N,nm,qn,bs,sn,sub,ab,col,dd,k0,k1,k2,k3,k5,mN,hC,_,_,T⟩:=O.obj
 exact⟨bm,N,nm,qn,bs,true,sn,sub,ab,col,dd,k0,k1,k2,k3,k5,_,hC,T.hasType PySem.F.excBase_ValueError.hasBase⟩
structure KNum(K:tz0)(C:Addr):Prop where
 x:KExc K C
 at_:PySem.W.findIn K (.ref C) "at"=some none
 hd:∃cd,PySem.W.clsIn K C=some cd/\cd.hasDict=true
def tAt(j:Nat)(ea Da:Addr)(n:Int):TE:=fun σ H Q=>σ[j]? =some (some (.ref ea))/\H Da=some (.xd [("at",.int n)])/\Q (.int n) H
def xf9(j:Nat)(ea Da:Addr)(n:Int)(b:Bool):TE:=fun σ H Q=>σ[j]? =some (some (.ref ea))/\H Da=some (.xd [("at",.int n)])/\∀H',SameK H H'->Q (.bl b) H'
def xi7(j:Nat)(ea Da:Addr)(n:Int):TS:=fun D σ H=>σ[j]? =some (some (.ref ea))/\H Da=some (.xd [("at",.int n)])/\∀H',SameK H H'->D.rt (.int n) H'
section
variable{Y:Cx}{C ea Da:Addr}{oe:Obj}{j:Nat}{bad:Str}{p bp pos ap:Pos}{n:Int}{b:Bool}
theorem yk7(hp:(ea,oe)∈Y.pn)(hc:oe.cls= .ref C)(hd:oe.dict=some Da)(hw:∃ws,oe.data= .fields ws)(k:KNum Y.K C)(hN:Y.N[j]? =some bad)(hv:Vis Y.env.scope bad)(hdb:(bad==("__debug__":Str))=false:=by decide)(hcd:(bad==("__classdict__":Str))=false:=by decide):
  PE Y (.Attribute (.Name bad bp) "at" ap) (tAt j ea Da n):=⟨by
 intro pins s σ H Q I h
 obtain⟨hσ,hD,q⟩:=h
 obtain⟨ws,hw⟩:=hw
 obtain⟨cd,k1,k2⟩:=k.hd
 refine PyProof.Rows.Attribute_name (thn (iP hN hv hdb hcd pins s σ H (fun v H'=>v= .ref ea/\H'=H) I ⟨_,hσ,rfl,rfl⟩) fun u s1 hu=> ?_)
 obtain⟨v,H1,I1,r1,rfl,rfl⟩:=hu
 cases r1
 obtain⟨mA,ns,rel⟩:=(show dU Y.prog Y.w H1 s1.heap Da (.xd [("at",.int n)]) from I1.hok Da _ hD)
 obtain⟨u,hu,ru⟩:=jC.some_of (v:=V.int n) (o:=mA "at") (rel "at")
 exact xb9 k.x.ga k.x.gt k.at_ k.x.b I1.kIn (I1.pin (ea,oe) (List.mem_append_left _ hp)).1 hc (by unfold PySem.W.notCls;rw [hw]) hd k1 k2 ns.ns hu (wP ru) ⟨.int n,H1,I1.tok _,ru,q⟩⟩
end
def xi8(g:List D->Option Int)(ok:Int->Bool)(fa:tz3):tz1:=fun ps=>(fa ps).bind fun ds=>(g ds).bind fun n=>if ok n=true then some (.ret (.int n),ps) else none
section
variable{X:Cx}{C C2:Addr}{κ:tz9}{φ:F0}
theorem xc3{x x0 cx nm bad:Str}{i j:Nat}{st:Stmt}{bK:List Stmt}{ps:List Str}{fa:Addr}{fd:FuncData}{k np:Nat}{g:List D->Option Int}{ok:Int->Bool}{e:Expr}{es:List Expr}{ga:tz3}{p pos pos2 np' bp np2 ap p5 pos6:Pos}
  (Dd:Dn X.K X.mg x st ps fa fd) (G:FnOk X.prog X.w X.K X.mg X.base (CXn X.prog X.w X.base C) k fa fd ps (zV np X.K κ C g)) (O:NumI X.prog X.w X.K X.mg X.base x0 C) (O2:NumI X.prog X.w X.K X.mg X.base cx C2) (up:PySem.W.mroIn X.K C (.ref C2)=some true)
  (hr:Room k X.A) (hg:Gl X x) (hgc:Gl X cx) (hnp:(e::es).length=np) (ha:QVA X.nox κ (e::es) ga) (hlen:∀ps ds,ga ps=some ds->ds.length=(e::es).length) (hstk:X.stack=X.env::X.outer) (hf:X.env.frame=some X.env.locals)
  (hN:X.N.Nodup) (hi:X.N[i]? =some nm) (hj:X.N[j]? =some bad) (hij:i≠j) (hkn:X.env.kindOf nm=some .local) (hkb:X.env.kindOf bad=some .local)
  (hrest:∀ea oe Da n,ok n=true->oe.cls= .ref C->oe.dict=some Da->(∃ws,oe.data= .fields ws)->PSs (X.nox.pinned ea oe) bK (xi7 j ea Da n))
  (hdb:(x==("__debug__":Str))=false:=by decide) (hdc:(cx==("__debug__":Str))=false:=by decide) (hdn:(nm==("__debug__":Str))=false:=by decide) (he:starEach (e::es) X.env=(false,eval e X.env)::starEach es X.env:=by rfl) (hpl:(backTo pos (starEach es X.env)).any (·.1)=false:=by rfl)
  (hs:swapsWith (.Call (.Name x p) (e::es) [] pos) none pos2.line X.env=pure false:=by rfl) (hsw:swapsWith (.Name nm np2) (some (.Name bad bp)) ap.line X.env=pure false:=by rfl):
  QSs X.nox κ φ (.Try [.Expr (.Call (.Name x p) (e::es) [] pos) pos2] [.ExceptHandler (some (.Name cx np')) (some nm) [.Assign [.Name bad bp] (.Name nm np2) ap] p5] [] [] pos6::bK) (xi8 g ok ga):=⟨by
 intro pins s σ H D I hh_
 obtain⟨pp,F,fl,ps',R,e1,q⟩:=hh_
 obtain⟨ds,e2,e3⟩:=bind_some e1
 obtain⟨n,e5,e6⟩:=bind_some e3
 obtain⟨hok,e4⟩:=bV e6
 cases e4
 have J:Inv X pins σ H s:=I.unwish
 obtain⟨_,_,nc1,_⟩:=O.cls
 obtain⟨_,_,nc2,_⟩:=O2.cls
 refine wpAny_execs_cons (wpAny_Try_except ?_)
 show wpAny (model X.prog X.w) X.A (execs [.Expr (.Call (.Name x p) (e::es) [] pos) pos2] X.env) _ _ s
 refine wpAny_execs_cons (wpAny_Expr_any ?_ J.quiet hs)
 refine wpAny_Call_Name_kw (oX J hg Dd.m ?_ hdb)
 refine PySem.W.callWith_K (h₀:=X.base) J.ok.mod.kin Dd.F.kp (wpAny_mono (ha pos pins s σ H (fun vs H1=>SameK H H1/\∃fp,Reps X.K κ H1 vs ds fp) I ⟨pp,ds,R.ws,e2,fun vs H1 fp s1 r1=>⟨s1,fp,r1⟩⟩) (fun us s1 hu=> ?_) fun _ _ z=>z.elim) he hpl
 obtain⟨vs,H1,I1,r,sm,fp,rs⟩:=hu
 have J1:Inv X pins σ H1 s1:=I1.unwish
 refine⟨J1.kIn,?_⟩
 have hl:vs.length=np:=by rw [rs.length,hlen pp ds e2,hnp]
 have hps:ps.length=np:=(G.len vs H1 (fun _ _=>False) (fun _ _ _=>True) ⟨hl,ds,fp,n,rs,e5,fun _ _ _ _=>trivial⟩).symm.trans hl
 have hlu:(us++([]:List Value)).length=ps.length:=by rw [List.append_nil,hps,<-hl,r.length]
 have hjl:j<σ.length:=by rw [I.len];exact(List.getElem?_eq_some_iff.mp hj).1
 refine wpAny_call (codeAny_mono (G.run X.A X.stack s1 H1 ⟨us,[]⟩ us vs (fun _ _=>False) (fun _ dd H'=>∃Da,dd=some Da/\H' Da=some (.xd [("at",.int n)])/\∀H'',SameK H' H''->D.rt (.int n) H'') hr J1.env0 (by have:=Dd.b s1 us J1.kIn hlu;rwa [List.append_nil] at this) r ⟨hl,ds,fp,n,rs,e5,fun H' s2 Da hDa=>⟨Da,rfl,hDa,fun H'' s3=> ?_⟩⟩) fun rr s' hq=> ?_)
 ·exact q (.int n) σ H'' F [] (Stp.same R ((sm.trans s2).trans s3)) (OwnV.new R (fun _ h=>absurd h (by simp)) List.nodup_nil) (.int n)
 ·cases rr with
  |error ee=>
   refine xm7 (X:=X.nox) (E1:=fun _ dd H'=>∃Da,dd=some Da/\H' Da=some (.xd [("at",.int n)])/\∀H'',SameK H' H''->D.rt (.int n) H'') I1 hstk hf (zk9 nc1) (zk9 nc2) O2.bound up hgc hq hN hi hj hij hkn hkb (fun ea oe s4 H4 hE hc hw I4=> ?_) hdc hdn hsw
   obtain⟨Da,hdd,hDa,hE⟩:=hE
   refine wpAny_mono (hrest ea oe Da n hok hc hdd hw pins s4 _ H4 D I4.toPin ⟨?_,hDa,hE⟩) (fun f s5 z=>z.ofPin) fun _ _ z=>z
   rw [List.getElem?_set_ne hij,List.getElem?_set_self (by rw [List.length_set];exact hjl)]
  |ok f2=>
   cases f2 with
   |ret u=>obtain⟨_,_,_,_,_,_,_,z⟩:=hq;exact z.elim
   |next=>exact hq.elim
   |brk=>exact hq.elim
   |cont=>exact hq.elim⟩
end
def zf0(K:tz0)(C fI:Addr):Bool:=match K.lookup C with
 |some ⟨.type "type",_,.cls k,z⟩=>(match k.mro,z.toList with
  | .ref c::m,[_,_,_,_,some (.builtin i),_]=>c==C&&i=="ValueError.__new__"&& !k.hasDel&&k.hasDict&&PySem.W.tailIn K bmV m&&PySem.W.nsOkIn K k.ns&&PySem.W.nsIn K k.ns "__init__"==some (some (.ref fI))
  |_,_=>false)
 |_=>false
theorem wa8{K:tz0}{h:Heap}{N:Addr}{m:tzA}{n:Str}{v:Value}(X:K.In h)(G:h.Ns N m)(e:PySem.W.nsIn K N n=some (some v)):m n=some v:=by
 obtain⟨o,es,ep,h1,h2,_,h3⟩:=G
 unfold PySem.W.nsIn at e
 split at e
 ·rename_i q
  have z:=X _ _ q
  rw [h1] at z
  cases z
  cases h2
  split at e
  ·rename_i hf
   cases e
   rw [<-h3]
   unfold nsFind findBy
   rw [<-Array.find?_toList,hf];rfl
  ·split at e<;>cases e
 ·cases e
theorem xn2{K:tz0}{h:Heap}{C fI:Addr}(X:K.In h)(q:zf0 K C fI=true):
  ∃bm N nm qn bs sn sub ab col dd k0 k1 k2 k3 k5 mN,h.get? C=some (excClassObj nm qn C N bs bm true sn sub ab col dd k0 k1 k2 k3 k5 "ValueError.__new__")/\h.Ns N mN/\mN "__init__"=some (.ref fI)/\OwnTail h bmV bm:=by
 unfold zf0 at q
 split at q
 case h_2=>cases q
 rename_i dd c sl look
 split at q
 case h_2=>cases q
 rename_i C1 bm1 a0 a1 a2 a3 n1 a5 em es
 rw [Bool.and_eq_true,Bool.and_eq_true,Bool.and_eq_true,Bool.and_eq_true,Bool.and_eq_true,Bool.and_eq_true] at q
 obtain⟨⟨⟨⟨⟨⟨q1,q2⟩,q3⟩,q7⟩,q4⟩,q5⟩,q6⟩:=q
 have z1:=eq_of_beq q1
 have z2:=eq_of_beq q2
 have z6:=eq_of_beq q6
 subst z1 z2
 cases c with
 | mk nm bs mro ns qn hd sn sub ab col del=>
  dsimp only at em q3 q5 q7 z6
  have z3:del=false:=by cases del<;>first|rfl|cases q3
  subst em z3 q7
  have zs:sl= #[a0,a1,a2,a3,some (.builtin "ValueError.__new__"),a5]:=by
   cases sl
   dsimp only at es
   rw [es]
  subst zs
  have G:h.Ns ns _:= .of_isNs (PySem.W.isNs_of_in X q5)
  exact⟨bm1,ns,nm,qn,bs,sn,sub,ab,col,dd,a0,a1,a2,a3,a5,_,X _ _ look,G,wa8 X G z6,PySem.W.tail_of_in X q4⟩
theorem zu1{K:tz0}{C fI:Addr}(q:zf0 K C fI=true):∃cd,PySem.W.clsIn K C=some cd/\cd.hasDict=true:=by
 unfold zf0 at q
 split at q
 case h_2=>cases q
 rename_i dd c sl look
 split at q
 case h_2=>cases q
 rename_i C1 bm1 a0 a1 a2 a3 n1 a5 em es
 rw [Bool.and_eq_true,Bool.and_eq_true,Bool.and_eq_true,Bool.and_eq_true] at q
 refine⟨c,?_,q.1.1.1.2⟩
 unfold PySem.W.clsIn
 rw [look]
theorem xc4{K:tz0}{h:Heap}{f:Addr}(X:K.In h)(q:PySem.W.isFn K (.ref f)=true):∃o,h.get? f=some o/\o.cls= .type "function":=by
 obtain⟨o,h1,h2⟩:=Option.map_eq_some_iff.mp (show(K.lookup f).map (·.cls)=some (.type "function") from beq_iff_eq.mp q)
 exact⟨o,X _ _ h1,h2⟩
def yn8:tz6
 |[.str x]=>if x.length<=640 then(PySem.intText? x).bind fun n=>some (.int n) else none
 |_=>none
theorem xu0{X:Cx}{κ:tz9}:CallR X (.type "int") (PCl X.K κ yn8):=⟨by
 rintro pins s σ H vs us Q I r ⟨ds,fp,d,rs,e,q⟩
 unfold yn8 at e
 split at e
 ·obtain⟨hl,e⟩:=bV e
  obtain⟨n,hn,e⟩:=bind_some e
  cases e
  obtain⟨v,rfl,r1⟩:=rs.one_inv
  obtain⟨u,rfl,rx⟩:=nX r
  cases r1
  obtain⟨t,rfl⟩:=rx
  exact PySem.W.KIN.call_text hn hl ⟨.int n,H,I.tok _,⟨_,rfl⟩,q.now (.int n)⟩
 ·cases e⟩
def qZ:D->D->Option D
 | .str i,.str j=>some (.bl (!(!(Builtin.Str.occurrences j i 0 j.length 1).isEmpty)))
 |_,_=>none
theorem xc5{X:Cx}{κ:tz9}:OpR X (compareOp .NotIn) (POp X.K κ qZ):=⟨by
 rintro pins s σ H x y v u Q I rx ry ⟨dx,dy,d,fx,fy,r1,r2,e,q⟩
 unfold qZ at e
 split at e
 ·cases e
  cases r1
  cases r2
  exact zq6 pins s σ H _ _ v u Q I rx ry ⟨_,_,rfl,rfl,q.now (.bl _)⟩
 ·cases e⟩
theorem PI.nox{X:Cx}{tg e:Expr}{t:TI}(h:PI X.nox tg e t):PI X tg e t:=⟨fun pins s σ H R I hw=>
 wpAny_mono (h pins s σ H R (I.wish _) hw) (fun _ _ q=>wpAny_mono q (fun _ _ q=>by obtain⟨it,fp,tn,J,H',e,I',a,b,c,d⟩:=q;exact⟨it,fp,tn,J,H',e,I'.unwish,a,b,c,d⟩) fun _ _ z=>False.elim z) fun _ _ z=>False.elim z⟩
def xg0(as:List Arg)(g:List D->Option Int):PSt->Option Int:=fun ps=>(fH as ps).bind g
section
variable{P:Program}{w:World}{K:tz0}{mg:tzA}{base:Heap}{N:List Str}{qual:Str}{scope:Scope}{f C:Addr}{cd:Value}{A:Around}{outer:List Env}{s:Shared}{H:Hp}{E:XK}{κ:tz9}{φ:F0}
theorem wa9{x:Str}{st:Stmt}{ps:List Str}{fa:Addr}{fd:FuncData}{k np:Nat}{m:Nat->Bool}{g:List D->Option Int}{e:Expr}{es:List Expr}{as:List Arg}{p pos:Pos}(Dd:Dn K mg x st ps fa fd)(G:FnOk P w K mg base (CXn P w base C) k fa fd ps (vS np K κ m C g))(hr:Room k (A.deeper (envOfC qual scope s.heap.objs.size f cd)))(hg:Gl (fQ (CXn P w base C) P w K mg base N qual scope f cd A outer s H E) x)
  (ha:PA (fQ (CXn P w base C) P w K mg base N qual scope f cd A outer s H E).nox (e::es) (tIO K κ as)) (hnp:np=as.length) (hm:m=mB as) (nd:(slots as).Nodup) (hb:∀j∈slots as,φ.bor j=false)
  (hdb:(x==("__debug__":Str))=false:=by decide) (he:starEach (e::es) (envOfC qual scope s.heap.objs.size f cd)=(false,eval e (envOfC qual scope s.heap.objs.size f cd))::starEach es (envOfC qual scope s.heap.objs.size f cd):=by rfl) (hpl:(backTo pos (starEach es (envOfC qual scope s.heap.objs.size f cd))).any (·.1)=false:=by rfl):
  QNe (fQ (CXn P w base C) P w K mg base N qual scope f cd A outer s H E) κ φ (ExN E C) (.Call (.Name x p) (e::es) [] pos) (xg0 as g):=
 (yc5 (X:=fQ (CXn P w base C) P w K mg base N qual scope f cd A outer s H E) G hr hg Dd.m Dd.F.kp Dd.b .nil yj7 (PA.nox ha) hdb he hpl).imp fun σ H0 Q hh_=>by
 obtain⟨ps,F,n,R,e,q⟩:=hh_
 obtain⟨ds,e1,e2⟩:=bind_some e
 subst hnp hm
 refine⟨ps,ds,R.ws,e1,fun vs H1 s1 a1=> ?_⟩
 show vS _ K κ _ C g (vs++[]) H1 Q E
 rw [List.append_nil]
 refine⟨a1.len.1,ds,_,n,a1.len.2,zs5 (R.same s1) nd hb a1,e2,fun H' fr=>q H' ⟨fun a o h k hn=>fr.keep a o (s1.keep a o h k) k fun i hi=> ?_,fun a h=>s1.grow a (fr.grow a h)⟩⟩
 obtain⟨j,_,hj⟩:=zF hi
 exact hn j hj
end
section
variable{X:Cx}{κ:tz9}{φ:F0}{Ex:Int->Hp->Prop}{fx:PSt->Option Int}{pos:Pos}
theorem xu1(i:Nat){body:List Stmt}{f:tz1}{x:Str}{px:Pos}{iter:Expr}{fi:tz3}(hp:PassesOwn (model X.prog X.w) X.A X.env X.xe)(hc:X.calm=true)(hN:X.N.Nodup)(hi:X.N[i]? =some x)(hx:Loc X.env.scope x)(hb:φ.bor i=false)(hm:φ.M i=false)
  (hit:PI X (.Name x px) iter (tIP X.K κ fi)) (hbd:QSs X.nox κ φ body f) (hbx:QNs X κ φ Ex body fx) (hs:∀x,foldedSetIterable iter X.env x=pure x:=by intro _;rfl) (hf:X.fn x=true\/X.env.scope.names.lookup x=some .local:=by first|exact .inl rfl|exact .inr rfl|assumption):
  QN X κ φ Ex (.For (.Name x px) iter body [] pos) (vV i fi f fx):=
 (zp9 hp hc hit (kZ hN hi hx hf) (xt7 (t:=tS (φ.fx X.K κ) f) (PSs.nox hbd) hbx) hs).imp fun E σ H hh_=>by
 obtain⟨ps,F,n,R,e,q⟩:=hh_
 unfold vV at e
 split at e
 ·rename_i ds e1
  refine⟨ps,ds,R.ws,e1,fun J H1 Z s1 hz W=> ?_⟩
  have s:=Stp.same R s1
  exact yt5 s.rs (fun a ha=>⟨(hz a ha).2,fun j hj=>by obtain⟨o,h,_⟩:=R.own hj;rw [(hz a ha).1] at h;cases h⟩) W hb hm e fun H' fr=>q H' (s.frm fr)
 ·cases e
end
section
variable{Y:Cx}{C ea Da:Addr}{j:Nat}{bad:Str}{n:Int}
theorem xc6{f1 f2 f3 f4 f5 f6:Expr}{a1 a2 a3 a4 a5:List Expr}{t1 t2:List Stmt}{j0:Nat}{p0 np cp cp1 cp2 cp3 cp4 cp5 n1 n2 n4 op op2 ip ip2 rp:Pos}(hN:Y.N[j]? =some bad)(hv:Vis Y.env.scope bad)
  (h1:PE Y (.Call f1 a1 [] cp1) (zy9 j ea true)) (h2:PE Y (.Call f2 a2 [] cp2) (zy9 j ea true)) (h3:PE Y (.Call f3 a3 [] cp3) (zy9 j ea false)) (h4:PE Y (.Call f4 a4 [] cp4) (xf9 j ea Da n true)) (h5:PE Y (.Call f5 a5 [] cp5) (xf9 j ea Da n false)) (h6:PE Y f6 (tAt j ea Da n)) (hd:(bad==("__debug__":Str))=false:=by decide) (hcd:(bad==("__classdict__":Str))=false:=by decide):
  PSs Y [.If (.BoolOp .Or [.Compare (.Name bad np) [.Is] [.Constant .none j0 p0] cp,.UnaryOp .Not (.Call f1 a1 [] cp1) n1,.UnaryOp .Not (.Call f2 a2 [] cp2) n2] op) t1 [] ip,.If (.BoolOp .Or [.Call f3 a3 [] cp3,.UnaryOp .Not (.Call f4 a4 [] cp4) n4,.Call f5 a5 [] cp5] op2) t2 [] ip2,.Return (some f6) rp] (xi7 j ea Da n):=
 (gX (zZ (PW.pt (zX (yo7 (xq1 (iP hN hv hd hcd))) (zX (zY (wN h1)) (zp7 (zY (wN h2)))))) sI xS) (gX (zZ (PW.pt (zX (wN h3) (zX (zY (wN h4)) (zp7 (wN h5))))) sI xS) (qU (rB h6)))).imp fun D σ H h=>by
  obtain⟨hσ,hD,q⟩:=h
  refine⟨.ref ea,hσ,false,rfl,?_⟩
  refine⟨hσ,fun H1 s1=>⟨true,rfl,?_⟩⟩
  refine⟨hσ,fun H2 s2=>⟨true,rfl,?_⟩⟩
  have s12:=s1.trans s2
  refine⟨hσ,fun H3 s3=>⟨false,rfl,?_⟩⟩
  have s13:=s12.trans s3
  refine⟨hσ,s13.keep _ _ hD rfl,fun H4 s4=>⟨true,rfl,?_⟩⟩
  have s14:=s13.trans s4
  refine⟨hσ,s14.keep _ _ hD rfl,fun H5 s5=>⟨false,rfl,?_⟩⟩
  have s15:=s14.trans s5
  exact⟨hσ,s15.keep _ _ hD rfl,q H5 s15⟩
theorem zu2{a c:Expr}{T:String}{b:Bool}{p pos:Pos}(he:PE Y a (tAt j ea Da n))(hgi:Gl Y "isinstance")(hmi:Y.mg "isinstance"=none)(hcl:PE Y c (tC (.ty T)))(hT:eR "int" T=b)(hc:T∈["bool","int","str","list","tuple","dict"])
  (hs:starEach [a,c] Y.env=(false,eval a Y.env)::starEach [c] Y.env:=by rfl) (hs2:starEach [c] Y.env=(false,eval c Y.env)::starEach [] Y.env:=by rfl) (hpl:(backTo pos (starEach [c] Y.env)).any (·.1)=false:=by rfl):PE Y (.Call (.Name "isinstance" p) [a,c] [] pos) (xf9 j ea Da n b):=
 (lQ (zq9 (X:=Y)) hgi hmi rfl (eB he (eB hcl jG hs2) hs) (by decide) (by decide) hs hpl).imp fun σ H Q h=>by
  obtain⟨h1,h2,q⟩:=h
  exact⟨h1,h2,.int n,T,"int",rfl,rfl,hc,by rw [hT];exact q H (SameK.refl H)⟩
end
structure WalkE(K:tz0)(κ:tz9)(J:It)(Z:List Addr)(H1:Hp)(ds:List D):Prop where
 go:∀H',qJ Z H1 H'->∀(i:Nat) d,ds[i]? =some d->J.go i H'/\∀x H2,J.yld i H' x H2->SameK H' H2/\Rep K κ H2 x d []
 stop:∀H',qJ Z H1 H'->J.stop ds.length H'
inductive LtS(A:Around)(s:Shared):List Value->List Value->Bool->Prop
 |nn:LtS A s [] [] false
 |nc {y:Value} {ys:List Value}:LtS A s [] (y::ys) true
 |cn {x:Value} {xs:List Value}:LtS A s (x::xs) [] false
 |eq {x y:Value} {xs ys:List Value} {c:Bool}:SeqAt.EqAt A s x y true->LtS A s xs ys c->LtS A s (x::xs) (y::ys) c
 |ne {x y:Value} {xs ys:List Value} {c:Bool}:SeqAt.EqAt A s x y false->(∀(prog:Program) (w:World) (E Q:Value->Shared->Prop),Q (.bool c) s->wpAny (model prog w) A (richCompare .Lt x y) Q E s)->LtS A s (x::xs) (y::ys) c
section
open PySem.SeqAt
open PySem.AutoSeq1 (wpAny_loadPart')
open PySem.MeetsSeq PySem.MeetsSeq2 PySem.MeetsSeq3
end
inductive TI2(s:Shared):List Value->List (List Int)->Prop
 |nil:TI2 s [] []
 |cons {a:Addr} {its:Array Value} {ns:List Int} {vs:List Value} {nss:List (List Int)}:IsTup s.heap a its->IntsAre its.toList ns->TI2 s vs nss->TI2 s (.ref a::vs) (ns::nss)
end L2
namespace L3
open PySem PySem.Spec PyProof.Rows L2
def top(i:Nat):Stmt:=PySem.Challenge.pw_linepress_k17_any_notation.main.body.getD i (.Pass ⟨0,0,0,0⟩)
end L3
namespace My
open PySem PySem.Spec PyProof.Rows L2 L3
variable{P:Program}{w:World}{K:tz0}{mg:tzA}{base:Heap}{κ:tz9}
theorem eK{N ps:List Str}{sc:Scope}(a:sc.kind= .function:=by rfl)(b:sc.isCoroutine=false:=by rfl)(c:sc.isGenerator=false:=by rfl)(d:N.Nodup:=by decide+kernel)(e:N.take ps.length=ps:=by rfl)(f:∀x∈ps,sc.names.lookup x=some .local\/sc.names.lookup x=some .cell:=by decide+kernel)(g:∀y∈sc.names,y.2≠ .free:=by decide+kernel):FnScope N ps sc:=⟨a,b,c,d,e,f,g⟩
inductive Leaf where
 |word (x:Str)|gap (x:Str)|stop (c:Int)|fin
inductive Tk where
 |leaf (l:Leaf)|opn|cls|hng (n:Int)|bck|eit|orr|don
inductive Pc where
 |leaf (l:Leaf)|group (r:List Pc)|hang (n:Int) (r:List Pc)|either (rs:List (List Pc))
mutual
def dM:Pc->List Tk
 | .leaf l=>[.leaf l]
 | .group r=> .opn::(toksR r++[.cls])
 | .hang n r=> .hng n::(toksR r++[.bck])
 | .either rs=> .eit::(toksRows rs++[.don])
def toksR:List Pc->List Tk
 |[]=>[]
 |p::r=>dM p++toksR r
def toksRows:List (List Pc)->List Tk
 |[]=>[]
 |r::rs=>toksR r++toksMore rs
def toksMore:List (List Pc)->List Tk
 |[]=>[]
 |r::rs=> .orr::(toksR r++toksMore rs)
end
theorem oF:∀r s:List Pc,toksR (r++s)=toksR r++toksR s
 |[],s=>rfl
 |p::r,s=>by
  show dM p++toksR (r++s)=(dM p++toksR r)++toksR s
  rw [oF r s,List.append_assoc]
theorem zl0(p:Pc):toksR [p]=dM p:=by
 show dM p++[]=dM p
 rw [List.append_nil]
def kO:List (List Pc)->List Tk
 |[]=>[]
 |r::rs=>toksR r++ .orr::kO rs
theorem wJ:∀(rs:List (List Pc)) (p:List Pc),toksMore (rs++[p])= .orr::(kO rs++toksR p)
 |[],p=>by
  show Tk.orr::(toksR p++[])=Tk.orr::([]++toksR p)
  rw [List.append_nil];rfl
 |r::rs,p=>by
  show Tk.orr::(toksR r++toksMore (rs++[p]))=Tk.orr::((toksR r++ .orr::kO rs)++toksR p)
  rw [wJ rs p,List.append_assoc];rfl
theorem zn8:∀(rs:List (List Pc)) (p:List Pc),toksRows (rs++[p])=kO rs++toksR p
 |[],p=>by
  show toksR p++[]=[]++toksR p
  rw [List.append_nil];rfl
 |r::rs,p=>by
  show toksR r++toksMore (rs++[p])=(toksR r++ .orr::kO rs)++toksR p
  rw [wJ rs p,List.append_assoc];rfl
theorem zb4:∀(rs:List (List Pc)) (p:List Pc),kO (rs++[p])=kO rs++(toksR p++[.orr])
 |[],p=>by
  show toksR p++ .orr::[]=[]++(toksR p++[.orr])
  rfl
 |r::rs,p=>by
  show toksR r++ .orr::kO (rs++[p])=(toksR r++ .orr::kO rs)++(toksR p++[.orr])
  rw [zb4 rs p,List.append_assoc];rfl
structure Fm where
 op:Option Tk
 full:List (List Pc)
 parts:List Pc
def opT:Option Tk->List Tk
 |none=>[]
 |some t=>[t]
def flat:List Fm->List Tk
 |[]=>[]
 |f::fs=>flat fs++(opT f.op++(kO f.full++toksR f.parts))
def put(f:Fm)(p:Pc):Fm:={f with parts:=f.parts++[p]}
def step:List Fm->Tk->Option (List Fm)
 |f::fs,.leaf l=>some (put f (.leaf l)::fs)
 |fs,.opn=>some (⟨some .opn,[],[]⟩::fs)
 |fs,.hng n=>some (⟨some (.hng n),[],[]⟩::fs)
 |fs,.eit=>some (⟨some .eit,[],[]⟩::fs)
 |⟨some .eit,full,parts⟩::fs,.orr=>some (⟨some .eit,full++[parts],[]⟩::fs)
 |⟨some .opn,_,parts⟩::g::fs,.cls=>some (put g (.group parts)::fs)
 |⟨some (.hng n),_,parts⟩::g::fs,.bck=>some (put g (.hang n parts)::fs)
 |⟨some .eit,full,parts⟩::g::fs,.don=>if full=[] then none else some (put g (.either (full++[parts]))::fs)
 |_,_=>none
def Fm.ok(f:Fm):Prop:=f.op≠some .eit->f.full=[]
theorem vA(g:Fm)(p:Pc)(fs:List Fm):flat (put g p::fs)=flat (g::fs)++dM p:=by
 show flat fs++(opT g.op++(kO g.full++toksR (g.parts++[p])))=(flat fs++(opT g.op++(kO g.full++toksR g.parts)))++dM p
 rw [oF,zl0]
 simp only [List.append_assoc]
theorem yt7{fs fs':List Fm}{t:Tk}(hok:∀f∈fs,f.ok)(h:step fs t=some fs'):flat fs'=flat fs++[t]/\∀f∈fs',f.ok:=by
 unfold step at h
 split at h
 ·cases h
  rename_i f fs l
  refine⟨by rw [vA];rfl,fun g hg=> ?_⟩
  rcases List.mem_cons.mp hg with rfl|hg
  ·exact fun hn=>hok f List.mem_cons_self hn
  ·exact hok g (List.mem_cons_of_mem _ hg)
 ·cases h
  refine⟨rfl,fun g hg=> ?_⟩
  rcases List.mem_cons.mp hg with rfl|hg
  ·exact fun _=>rfl
  ·exact hok g hg
 ·cases h
  refine⟨rfl,fun g hg=> ?_⟩
  rcases List.mem_cons.mp hg with rfl|hg
  ·exact fun _=>rfl
  ·exact hok g hg
 ·cases h
  refine⟨rfl,fun g hg=> ?_⟩
  rcases List.mem_cons.mp hg with rfl|hg
  ·exact fun _=>rfl
  ·exact hok g hg
 ·cases h
  rename_i full parts fs
  refine⟨?_,fun g hg=> ?_⟩
  ·show flat fs++(opT (some .eit)++(kO (full++[parts])++[]))=(flat fs++(opT (some .eit)++(kO full++toksR parts)))++[.orr]
   rw [zb4]
   simp only [List.append_assoc,List.append_nil]
  ·rcases List.mem_cons.mp hg with rfl|hg
   ·exact fun hn=>absurd rfl hn
   ·exact hok g (List.mem_cons_of_mem _ hg)
 ·cases h
  rename_i full parts g fs
  have e:full=[]:=hok _ List.mem_cons_self (by simp)
  subst e
  refine⟨?_,fun x hx=> ?_⟩
  ·rw [vA]
   show flat (g::fs)++(.opn::(toksR parts++[.cls]))=(flat (g::fs)++([.opn]++([]++toksR parts)))++[.cls]
   simp only [List.append_assoc,List.nil_append,List.cons_append]
  ·rcases List.mem_cons.mp hx with rfl|hx
   ·exact hok g (by simp)
   ·exact hok x (by simp [hx])
 ·cases h
  rename_i n full parts g fs
  have e:full=[]:=hok _ List.mem_cons_self (by simp)
  subst e
  refine⟨?_,fun x hx=> ?_⟩
  ·rw [vA]
   show flat (g::fs)++(.hng n::(toksR parts++[.bck]))=(flat (g::fs)++([.hng n]++([]++toksR parts)))++[.bck]
   simp only [List.append_assoc,List.nil_append,List.cons_append]
  ·rcases List.mem_cons.mp hx with rfl|hx
   ·exact hok g (by simp)
   ·exact hok x (by simp [hx])
 ·rename_i full parts g fs
  split at h
  ·cases h
  ·cases h
   refine⟨?_,fun x hx=> ?_⟩
   ·rw [vA]
    show flat (g::fs)++(.eit::(toksRows (full++[parts])++[.don]))=(flat (g::fs)++([.eit]++(kO full++toksR parts)))++[.don]
    rw [zn8]
    simp only [List.append_assoc,List.nil_append,List.cons_append]
   ·rcases List.mem_cons.mp hx with rfl|hx
    ·exact hok g (by simp)
    ·exact hok x (by simp [hx])
 ·cases h
def run(fs:List Fm):List Tk->Option (List Fm)
 |[]=>some fs
 |t::ts=>(step fs t).bind fun fs'=>run fs' ts
theorem zu3:∀{ts:List Tk} {fs fs':List Fm},(∀f∈fs,f.ok)->run fs ts=some fs'->flat fs'=flat fs++ts/\∀f∈fs',f.ok
 |[],fs,fs',hok,h=>by cases h;exact⟨by simp,hok⟩
 | t::ts,fs,fs',hok,h=>by
  have h':(step fs t).bind (fun g=>run g ts)=some fs':=h
  cases e:step fs t with
  |none=>rw [e] at h';cases h'
  |some g=>
   rw [e] at h'
   obtain⟨h1,h2⟩:=yt7 hok e
   obtain⟨h3,h4⟩:=zu3 h2 h'
   exact⟨by rw [h3,h1,List.append_assoc];rfl,h4⟩
def iF:Fm:=⟨none,[],[]⟩
theorem xn3{ts:List Tk}{r:List Pc}{fl:List (List Pc)}(h:run [iF] ts=some [⟨none,fl,r⟩]):toksR r=ts:=by
 have hok:∀f∈[iF],f.ok:=fun f hf=>by rw [List.mem_singleton.mp hf];exact fun _=>rfl
 obtain⟨h1,h2⟩:=zu3 hok h
 have e:fl=[]:=h2 _ List.mem_cons_self (by simp)
 subst e
 have h3:[]++([]++([]++toksR r))=([]++([]++([]++[])):List Tk)++ts:=h1
 simpa using h3
mutual
def nL:Pc->Nat
 | .leaf _=>0
 | .group r=>depR r+1
 | .hang _ r=>depR r+1
 | .either rs=>depRs rs+1
def depR:List Pc->Nat
 |[]=>0
 |p::r=>max (nL p) (depR r)
def depRs:List (List Pc)->Nat
 |[]=>0
 |r::rs=>max (depR r) (depRs rs)
end
theorem wW:∀(r:List Pc) (p:Pc),depR (r++[p])=max (depR r) (nL p)
 |[],p=>by
  exact Nat.max_comm (nL p) 0
 |q::r,p=>by
  show max (nL q) (depR (r++[p]))=max (max (nL q) (depR r)) (nL p)
  rw [wW r p,Nat.max_assoc]
theorem vB:∀(rs:List (List Pc)) (r:List Pc),depRs (rs++[r])=max (depRs rs) (depR r)
 |[],r=>by
  exact Nat.max_comm (depR r) 0
 |q::rs,r=>by
  show max (depR q) (depRs (rs++[r]))=max (max (depR q) (depRs rs)) (depR r)
  rw [vB rs r,Nat.max_assoc]
theorem zu4:∀{r:List Pc} {p:Pc},p∈r->nL p<=depR r
 |q::r,p,h=>by
  show nL p<=max (nL q) (depR r)
  rcases List.mem_cons.mp h with rfl|h
  ·exact Nat.le_max_left _ _
  ·exact Nat.le_trans (zu4 h) (Nat.le_max_right _ _)
theorem zl1:∀{rs:List (List Pc)} {r:List Pc},r∈rs->depR r<=depRs rs
 |q::rs,r,h=>by
  show depR r<=max (depR q) (depRs rs)
  rcases List.mem_cons.mp h with rfl|h
  ·exact Nat.le_max_left _ _
  ·exact Nat.le_trans (zl1 h) (Nat.le_max_right _ _)
def eW(c:Nat):Bool:=decide (33<=c)&&decide (c<=126)
def kU(z:Str):Prop:=1<=z.length/\z.length<=12/\z.cps.toList.all eW=true
def jS:Leaf->Prop
 | .word x=>kU x
 | .gap x=>x=""\/x=" "
 | .stop c=>0<=c/\c<=40
 | .fin=>True
def jD:Tk->Prop
 | .leaf l=>jS l
 | .hng n=>0<=n/\n<=12
 |_=>True
end My
namespace My
open PySem PySem.Spec PyProof.Rows L2 L3
variable{P:Program}{w:World}{K:tz0}{mg:tzA}{base:Heap}{κ:tz9}
def xL(ns:List Int)(k:Int):Int:=ns.getD (k % (ns.length:Int)).toNat 0
def zf1(ns:List Int)(k:Int):Int:=k/(if (ns.length:Int)>1 then(ns.length:Int) else 1)
def xz5(ns:List Int)(k salt:Int):Int:=PySem.Builtin.bitAnd (xL ns k) 2147483647+1009*k*k+7919*salt*salt+12
def yN(ns:List Int)(k salt:Int):Int:=xz5 ns k salt*48271 % 2147483647
def xi9(ns:List Int)(k salt:Int):Int:=yN ns k salt*yN ns k salt % 2147483629
def vW(ns:List Int)(k salt:Int):Int:=PySem.Builtin.bitAnd (xL ns k/2^(31*(salt+128*zf1 ns k)).toNat+xi9 ns k salt) 2147483647
theorem ya7(ns:List Int)(k salt:Int):0<=vW ns k salt/\vW ns k salt<2147483648:=by
 have e:vW ns k salt=(xL ns k/2^(31*(salt+128*zf1 ns k)).toNat+xi9 ns k salt) % 2147483648:=PySem.W.kbt_mask _ 31
 rw [e]
 exact⟨Int.emod_nonneg _ (by decide),Int.emod_lt_of_pos _ (by decide)⟩
def yy0(K:tz0):Sp:=fun vs H Q _=>∃(a:Addr) (ns:List Int) (k:Int),vs=[.ref a,.int k]/\SqL K H a (ns.map V.int)/\Q (.int (xL ns k)) H
def yh1(K:tz0):Sp:=fun vs H Q _=>∃(a:Addr) (ns:List Int) (k salt:Int),vs=[.ref a,.int k,.int salt]/\SqL K H a (ns.map V.int)/\ns.length<=63/\(0<=k/\k<1000000)/\(0<=salt/\salt<1000000)/\Q (.int (vW ns k salt)) H
abbrev oR:Stmt:=top 30
abbrev zz0:List Str:=["_law_script","_law_k"]
theorem wX:FnScope ["_law_script","_law_k"] zz0 (aW oR):=eK
theorem zu5{n:Nat}{f:Addr}{fd:FuncData}(D:Dn K mg "_law_cell_at" oR ["_law_script","_law_k"] f fd)(ae:mg "len"=none):
  FnOk P w K mg base CX0 (n+1) f fd ["_law_script","_law_k"] (yy0 K):=by
 refine D.F.ok wX (fun vs H Q E h=> ?_) (fun cdv A outer s H vs Q E hr h=> ?_)
 ·obtain⟨a,ns,k,rfl,_⟩:=h
  rfl
 obtain⟨a,ns,k,rfl,hS,q⟩:=h
 refine⟨_,(gX (zZ (yc2 yh6 (lQ jH rfl ae boot_len (eB (pv 0) jG)) iB (bB _)) (qU (rB iB)) xS)
  (qU (rB (zo4 zg0 (pv 0) (gM za0 (pv 1) (lQ jH rfl ae boot_len (eB (pv 0) jG))) (fun _ _=>rfl))))),?_⟩
 have hl:(ns.map V.int).length=ns.length:=List.length_map _
 refine⟨_,rfl,a,_,rfl,.inl hS,rfl,_,rfl,?_⟩
 refine wd4 (fun c=> ?_) (fun c=> ?_)
 ·have e:(((ns.map V.int).length:Nat):Int)=0:=by simpa using c
  have e':ns=[]:=by
   rw [hl] at e
   exact List.eq_nil_of_length_eq_zero (by omega)
  subst e'
  exact q
 ·have e:¬(((ns.map V.int).length:Nat):Int)=0:=by simpa using c
  rw [hl] at e
  have hp:(0:Int)<((ns.map V.int).length:Nat):=by rw [hl];omega
  refine⟨_,rfl,_,rfl,_,rfl,a,_,rfl,.inl hS,_,_,rfl,rfl,hp,a,_,_,_,rfl,rfl,hS,?_,q⟩
  rw [hl]
  have h0:=Int.emod_nonneg k e
  have h1:=Int.emod_lt_of_pos k (show(0:Int)<ns.length by omega)
  have ek:k % (ns.length:Int)=(((k % (ns.length:Int)).toNat:Nat):Int):=by omega
  rw [ek]
  refine qV ?_
  rw [List.getElem?_map,List.getElem?_eq_getElem (by omega)]
  unfold xL
  rw [List.getD_eq_getElem?_getD,List.getElem?_eq_getElem (by omega)]
  rfl
abbrev mW:Stmt:=top 31
abbrev kP:List Str:=["_law_script","_law_k","_law_salt"]
theorem kH:FnScope ["_law_script","_law_k","_law_salt","_law_cell","_law_lap","_law_near"] kP (aW mW):=eK
theorem yk8{n:Nat}{f f1:Addr}{fd fd1:FuncData}(D:Dn K mg "_law_mixed" mW ["_law_script","_law_k","_law_salt"] f fd)(ie:Dn K mg "_law_cell_at" oR ["_law_script","_law_k"] f1 fd1)
  (oo:FnOk P w K mg base CX0 n f1 fd1 ["_law_script","_law_k"] (yy0 K)) (ae:mg "len"=none) (ky:mg "max"=none):
  FnOk P w K mg base CX0 (n+1) f fd ["_law_script","_law_k","_law_salt"] (yh1 K):=by
 refine D.F.ok kH (fun vs H Q E h=> ?_) (fun cdv A outer s H vs Q E hr h=> ?_)
 ·obtain⟨a,ns,k,salt,rfl,_⟩:=h
  rfl
 obtain⟨a,ns,k,salt,rfl,hS,h63,⟨hk0,hk1⟩,⟨hs0,hs1⟩,q⟩:=h
 refine⟨_,(gX (tL (i:=3) kH.nd rfl (.inl rfl) (yi6 ie oo hr rfl (eB (pv 0) (eB (pv 1) jG))))
  (gX (tL (i:=4) kH.nd rfl (.inl rfl) (gM yb8 (pv 1) (lQ (zi7 rfl) rfl ky boot_max (eB iB (eB (lQ jH rfl ae boot_len (eB (pv 0) jG)) jG)))))
  (gX (tL (i:=5) kH.nd rfl (.inl rfl) (gM tM (gM tM (gM tM (gM yp3 (pv 3) iB) (gM nW (gM nW iB (pv 1)) (pv 1))) (gM nW (gM nW iB (pv 2)) (pv 2))) iB))
  (gX (tL (i:=5) kH.nd rfl (.inl rfl) (gM za0 (gM nW (pv 5) iB) iB))
  (gX (tL (i:=5) kH.nd rfl (.inl rfl) (gM za0 (gM nW (pv 5) (pv 5)) iB))
  (qU (rB (gM yp3 (gM tM (gM xq8 (pv 3) (gM nW iB (gM tM (pv 2) (gM nW iB (pv 4))))) (pv 5)) iB)))))))),?_⟩
 have hl:(ns.map V.int).length=ns.length:=List.length_map _
 have hlap:0<=zf1 ns k:=by unfold zf1;exact Int.ediv_nonneg hk0 (by split<;>omega)
 have hn1:0<=yN ns k salt/\yN ns k salt<2147483647:=⟨Int.emod_nonneg _ (by decide),Int.emod_lt_of_pos _ (by decide)⟩
 refine⟨_,rfl,_,rfl,a,ns,k,rfl,hS,?_⟩
 refine⟨_,rfl,_,rfl,a,_,rfl,.inl hS,_,_,rfl,_,_,rfl,rfl,?_,?_⟩
 ·rw [hl];constructor
  ·split<;>omega
  ·split<;>omega
 rw [hl]
 refine⟨_,rfl,_,_,rfl,rfl,_,rfl,_,_,rfl,rfl,.inl ⟨by decide,by decide⟩,_,rfl,_,_,rfl,rfl,.inr ⟨by omega,by omega⟩,_,_,rfl,rfl,_,rfl,_,_,rfl,rfl,.inl ⟨by decide,by decide⟩,_,rfl,_,_,rfl,rfl,.inr ⟨by omega,by omega⟩,_,_,rfl,rfl,_,_,rfl,rfl,?_⟩
 refine⟨_,rfl,_,_,rfl,rfl,.inr ⟨by decide,by decide⟩,_,_,rfl,rfl,(by show(0:Int)<2147483647;decide),?_⟩
 refine⟨_,rfl,_,rfl,_,_,rfl,rfl,.inl ⟨by show-(2^64)<yN ns k salt;omega,by show yN ns k salt<2^64;omega⟩,_,_,rfl,rfl,(by show(0:Int)<2147483629;decide),?_⟩
 refine⟨_,rfl,_,rfl,_,rfl,_,_,rfl,rfl,.inl ⟨by decide,by decide⟩,_,_,rfl,rfl,_,_,rfl,rfl,.inl ⟨by decide,by decide⟩,_,_,rfl,rfl,?_,_,rfl,_,_,rfl,rfl,_,_,rfl,rfl,q⟩
 show 0<=31*(salt+128*zf1 ns k)
 omega
end My
namespace L3
open PySem PySem.Spec PyProof.Rows L2 My
variable{P:Program}{w:World}{K:tz0}{mg:tzA}{base:Heap}{κ:tz9}
abbrev dN:List Key:=[.inr "close",.inr "back",.inr "or",.inr "done"]
abbrev jT:List D:=[(.str "open"),(.str "hang"),(.str "either"),(.str "either")]
abbrev eL:List Key:=[.inr "_",.inr ".",.inr "/",.inr "[",.inr "]",.inr "<",.inr "{",.inr "|",.inr "}"]
abbrev nM:List D:=[(.tup [(.str "gap"),(.str " ")]),(.tup [(.str "gap"),(.str "")]),(.tup [(.str "end")]),(.tup [(.str "open")]),(.tup [(.str "close")]),(.tup [(.str "back")]),(.tup [(.str "either")]),(.tup [(.str "or")]),(.tup [(.str "done")])]
def xM:tz1:=
 (aR (fIf (aL (mS (fT (aG gA (aB (aA 0) (aB (fC (.ty "str")) aD))))))
  (cA (aJ (fC (.bl false))))
  aY)
 (aR (fIf (aL (jP (fB (f2 dLt (aG bU (aB (aA 0) aD)) (fC (.int 1)))) (fB (f2 dGt (aG bU (aB (aA 0) aD)) (fC (.int 12))))))
  (cA (aJ (fC (.bl false))))
  aY)
 (cA (aJ (aG vP (aB (mU [none] (iT (aA 0)) kM (fD (f2 dLe (fC (.str "!")) (aA 0)) (f2 dLe (aA 0) (fC (.str "~"))))) aD))))))
abbrev mD:Stmt:=top 7
abbrev mE:List Str:=["thing"]
theorem wY:FnScope ["thing"] mE (aW mD):=eK
theorem zu6(di:Dn K mg "is_word" mD mE f fd)
  (kz:mg "all"=none)
  (bd:mg "isinstance"=none)
  (ig:mg "str"=none)
  (ae:mg "len"=none)
  (gq:mg "LONGEST_WORD"=some (.int 12 rn)):
  FnOk P w K mg base CX0 (n+1) f fd mE (SpP 1 K κ (gP 1 0 (xM))):=
 eH di.F wY fun cdv A outer s H E B hr=>
 (aK (bR (QT.e (zr2 (nF (QP.v (cU wa6 rfl bd boot_isinstance (aH (aC 0) (aH (QP.v (wa4 rfl ig boot_str)) aP)))))))
  (aN (bM (QP.e sG)))
  bH)
 (aK (bR (QT.e (nB (xV (bC (tG (Room.units0 hr)) (QP.v (cU fN rfl ae boot_len (aH (aC 0) aP))) (QP.v aF) (bB _)) (wQ (bC uQ (QP.v (cU fN rfl ae boot_len (aH (aC 0) aP))) (QP.v (iO (v:= .int 12) (d:= .int 12) rfl gq ⟨_,rfl⟩ (fun _=> .int 12))) (bB _))))))
  (aN (bM (QP.e sG)))
  bH)
 (aN (bM (QP.e (cU (xh4 rfl) rfl kz boot_all (aH (QP.v (zg5 (sc:=aW mD) (NX:=["thing"]) (N:=["sign"]) (pick:=[none]) ⟨rfl,by decide+kernel,by decide+kernel,by decide+kernel,by decide+kernel,by decide,rfl⟩ rfl rfl rfl (QIP.v (zr7 (aC 0))) (fun _ _ _ _=>(kZ (i:=0) (show(["sign"]:List Str).Nodup by decide) rfl (.inl rfl))) (fun _ _ _ _=>zg4) (fun _ _ _ _=>(xs8 (nE wR (QP.v aX) (aC 0) (bB _)) (xs7 (nE wR (aC 0) (QP.v aX) (bB _))))))) aP)))))))
def qN:tz1:=
 (aR (dS 3 (dP (aB (f2 aZ (aA 2) (fC (.int 1))) aD))
  (fIf (aL (fB (f2 dEq (aA 1) (aG bY (aB (aA 3) aD)))))
  (cA (aJ (gF (aB (dI (aA 0)) (aB (dI (aA 3)) aD)))))
  aY))
 (cA (aJ (fC .non))))
abbrev jF:Stmt:=top 24
abbrev hW:List Str:=["kind","figures","most"]
theorem nC:FnScope ["kind","figures","most","number"] hW (aW jF):=eK
theorem yR(bj:Dn K mg "number_token" jF hW f fd)
  (aq:mg "range"=none)
  (ig:mg "str"=none):
  FnOk P w K mg base CX0 (n+1) f fd hW (SpP 3 K κ (gP 3 1 (qN))):=
 eH bj.F nC fun cdv A outer s H E B hr=>
 (aK (oA 3 PassesOwn.never rfl nC.nd rfl (.inl rfl) rfl rfl (nN rfl aq (aH (QP.v (aV cG (aC 2) (QP.v aF))) aP))
  (aN (bR (QT.e (bC (dQ (Room.units hr)) (aC 1) (QP.v (eX yj3 rfl ig boot_str (aH (aC 3) aP))) (bB _)))
  (aN (bM (QP.e (hV (aQ (QV.p (aC 0)) (aQ (QV.p (aC 3)) bD))))))
  bH)))
 (aN (bM (QP.e tR))))
def kW(c7:(tz6))(ji:(tz6)):tz1:=
 (aR (fIf (aL (pF eL (aA 0)))
  (cA (aJ (dI (f2 rX (fC (.dic false eL nM)) (aA 0)))))
  aY)
 (aR (fIf (aL (fT (fMt fM (aA 0) (aB (fC (.str "\x40")) aD))))
  (cA (aJ (aG c7 (aB (fC (.str "stop")) (aB (fSl (aA 0) (bX (fC (.int 1))) bL) (aB (fC (.int 40)) aD))))))
  aY)
 (aR (fIf (aL (fT (fMt fM (aA 0) (aB (fC (.str ">")) aD))))
  (cA (aJ (aG c7 (aB (fC (.str "hang")) (aB (fSl (aA 0) (bX (fC (.int 1))) bL) (aB (fC (.int 12)) aD))))))
  aY)
 (aR (fIf (aL (cZ (fT (fMt fM (aA 0) (aB (fC (.str "'")) aD))) (fT (aG ji (aB (fSl (aA 0) (bX (fC (.int 1))) bL) aD)))))
  (cA (aJ (gF (aB (fC (.str "word")) (aB (fSl (aA 0) (bX (fC (.int 1))) bL) aD)))))
  aY)
 (cA (aJ (fC .non)))))))
abbrev kX:Stmt:=top 25
abbrev gZ:List Str:=["part"]
theorem wK:FnScope ["part"] gZ (aW kX):=eK
theorem zn9(bo:Dn K mg "token_of" kX gZ f fd)
  (bj:Dn K mg "number_token" jF hW jb i5) (c8:FnOk P w K mg base CX0 n jb i5 hW (SpP 3 K κ c7))
  (di:Dn K mg "is_word" mD mE la kh) (jj:FnOk P w K mg base CX0 n la kh mE (SpP 1 K κ ji))
  (gc:mg "FURTHEST_STOP"=some (.int 40 rl))
  (iq:mg "WIDEST_HANG"=some (.int 12 rq))
  (k7:mg "SIGNS"=some (.ref jr)) (k8:vR P w K κ jr eL nM)
  (jk:mg "WORD_SIGN"=some (.str "'" so))
  (jl:mg "STOP_SIGN"=some (.str "\x40" sr))
  (jm:mg "HANG_SIGN"=some (.str ">" ss)):
  FnOk P w K mg base CX0 (n+1) f fd gZ (SpP 1 K κ (gP 1 0 (kW c7 ji))):=
 eH bo.F wK fun cdv A outer s H E B hr=>
 (aK (bR (QT.e (zt3 rfl k7 k8 (aC 0)))
  (aN (bM (QP.e (QV.p (yd6 rfl k7 k8 (aC 0))))))
  bH)
 (aK (bR (QT.e (nF (QP.v (uS PySem.F.slot_str_startswith PySem.F.type_str_startswith rF (aC 0) (aH (QP.v (iO (v:= .str "\x40") (d:= .str "\x40") rfl jl ⟨_,rfl⟩ (fun _=> .str "\x40"))) aP)))))
  (aN (bM (QP.e (dY bj c8 hr rfl rfl (aH (QP.v aX) (aH (QP.v (dF (aC 0) (dL (QP.v aF)) eC)) (aH (QP.v (iO (v:= .int 40) (d:= .int 40) rfl gc ⟨_,rfl⟩ (fun _=> .int 40))) aP))) (bA (bA (bA cJ)))))))
  bH)
 (aK (bR (QT.e (nF (QP.v (uS PySem.F.slot_str_startswith PySem.F.type_str_startswith rF (aC 0) (aH (QP.v (iO (v:= .str ">") (d:= .str ">") rfl jm ⟨_,rfl⟩ (fun _=> .str ">"))) aP)))))
  (aN (bM (QP.e (dY bj c8 hr rfl rfl (aH (QP.v aX) (aH (QP.v (dF (aC 0) (dL (QP.v aF)) eC)) (aH (QP.v (iO (v:= .int 12) (d:= .int 12) rfl iq ⟨_,rfl⟩ (fun _=> .int 12))) aP))) (bA (bA (bA cJ)))))))
  bH)
 (aK (bR (QT.e (nB (jJ (nF (QP.v (uS PySem.F.slot_str_startswith PySem.F.type_str_startswith rF (aC 0) (aH (QP.v (iO (v:= .str "'") (d:= .str "'") rfl jk ⟨_,rfl⟩ (fun _=> .str "'"))) aP)))) (jI (nF (QP.v (dY di jj hr rfl rfl (aH (QP.v (dF (aC 0) (dL (QP.v aF)) eC)) aP) (bA cJ))))))))
  (aN (bM (QP.e (hV (aQ aX (aQ (dF (aC 0) (dL (QP.v aF)) eC) bD))))))
  bH)
 (aN (bM (QP.e tR)))))))
def wM:tz1:=
 (aR (fIf (aL (fB (f2 dEq (aA 0) (fC (.str "")))))
  (cA (aJ (bI aD)))
  aY)
 (cA (aJ (fMt pV (aA 0) (aB (fC (.str " ")) aD)))))
abbrev kY:Stmt:=top 26
abbrev hG:List Str:=["text"]
theorem wL:FnScope ["text"] hG (aW kY):=eK
theorem zo0(bf:Dn K mg "parts_of" kY hG f fd)
     :
  FnOk P w K mg base CX0 (n+1) f fd hG (SpP 1 K κ (gP 1 0 (wM))):=
 eH bf.F wL fun cdv A outer s H E B hr=>
 (aK (bR (QT.e (bC (dQ (Room.units hr)) (aC 0) (QP.v aX) (bB _)))
  (aN (bM (QP.e (cF bD))))
  bH)
 (aN (bM (QP.e (uS PySem.F.slot_str_split PySem.F.type_str_split yd1 (aC 0) (aH (QP.v aX) aP))))))
def iG(cb:(tz6))(ir:(tz7)):tz1:=
 (aR (bF 2 (aJ (aG cb (aB (aA 1) aD))))
 (aR (fIf (aL (fB (f2 dIs (aA 2) (fC .non))))
  lY
  aY)
 (cN (dG 0 bS (fH [.im (aA 2)]) (nJ "Builder" "add" ir)))))
abbrev gK:Stmt:=top 27
abbrev dX:List Str:=["builder","part"]
theorem iD:FnScope ["builder","part","token"] dX (aW gK):=eK
theorem zJ(ag:Dn K mg "add_written" gK dX f fd)
  (bo:Dn K mg "token_of" kX gZ gd ej) (cw:FnOk P w K mg base CX0 n gd ej gZ (SpP 1 K κ cb))
  (am:Mn K κ "Builder" "add" "Builder.add" st_Builder_add ps_Builder_add eo du) (iu:FnOk P w K mg base CX0 n eo du ps_Builder_add (SpE 2 K κ (dE [true,false]) ir)):
  FnOk P w K mg base CX0 (n+1) f fd dX (SpE 2 K κ (dE [true,false]) (gE 2 1 (dE [true,false]) (iG cb ir))):=
 xX ag.F iD (fun i hi=>oZ hi) fun cdv A outer s H E hr=>
 (aK (bP 2 iD.nd rfl (.inl rfl) rfl rfl (QP.e (dY bo cw hr rfl rfl (aH (aC 1) aP) (bA cJ))))
 (aK (bR (QT.e (bC xa5 (aC 2) (QP.v tR) (bB _)))
  (aN uT)
  bH)
 (aN (eG (xm3 am iu hr rfl (cD 0) (pR (aC 2) lA) rfl rfl (kG 1))))))
def eN(cb:(tz6))(gs:(List D->Option Int)):PSt->Option Int:=
 (mV (bF 2 (aJ (aG cb (aB (aA 1) aD))))
 (pG (qL (fB (f2 dIs (aA 2) (fC .non))) (jR (f2 aZ (eD "Builder" "taken" (aA 0)) (fC (.int 1))))) (mV (fIf (aL (fB (f2 dIs (aA 2) (fC .non))))
  lY
  aY)
 (vU 0 bS (fH [.im (aA 2)]) (nG "Builder" "add" gs)))))
theorem yS(ag:Dn K mg "add_written" gK dX f fd)
  (bo:Dn K mg "token_of" kX gZ gd ej) (cw:FnOk P w K mg base CX0 (n+2) gd ej gZ (SpP 1 K κ cb))
  (am:Mn K κ "Builder" "add" "Builder.add" st_Builder_add ps_Builder_add eo du) (gu:FnOk P w K mg base (CXn P w base aa) (n+2) eo du ps_Builder_add (vS 2 K κ (dE [true,false]) aa gs))
  (aw:NumI P w K mg base "NoPiece" aa)
  (ac:Cls K (κ "Builder"))
  (ao:cY K (κ "Builder") "taken"):
  FnOk P w K mg base (CXn P w base aa) ((n+2)+1) f fd dX (vS 2 K κ (dE [true,false]) aa (gN 2 1 (eN cb gs))):=
 ye4 ag.F iD fun cdv A outer s H E hr=>
 (yA (bP 2 iD.nd rfl (.inl rfl) rfl rfl (QP.e (dY bo cw hr rfl rfl (aH (aC 1) aP) (bA cJ))))
 (zt9 (yk2 (bC xa5 (aC 2) (QP.v tR) (bB _)) (mQ (zI aw rfl hr (QP.v (aV cG (gI (C:="Builder") ac ao (aC 0)) (QP.v aF)))))) (bR (QT.e (bC xa5 (aC 2) (QP.v tR) (bB _)))
  (aN uT)
  bH)
 (mQ (ye5 (xm9 am gu hr rfl (cD 0) (pR (aC 2) lA) rfl rfl (kG 1))))))
def xN(bv:(tz7))(bw:(tz6))(ba:(tz7))(dm:(tz6)):tz1:=
 (aR (bF 1 (aJ (oP "Builder" aD bv)))
 (aR (dS 2 (iM (aG bw (aB (aA 0) aD)))
  (cN (fIO [.io 1,.im (aA 2)] ba)))
 (cA (aJ (aG dm (aB (fP "Builder" "whole_row" (aA 1)) aD))))))
abbrev nQ:Stmt:=top 28
abbrev iV:List Str:=["text"]
theorem kB:FnScope ["text","builder","part"] iV (aW nQ):=eK
theorem yt8(bz:Dn K mg "read" nQ iV f fd)
  (cj:Kn K mg κ "Builder" "Builder.__init__" st_Builder_init ps_Builder_init dv dr) (b9:FnOk P w K mg base CX0 n dv dr ps_Builder_init (SpE 1 K κ (dE [true]) bv))
  (bf:Dn K mg "parts_of" kY hG gf et) (cc:FnOk P w K mg base CX0 (n+1) gf et hG (SpP 1 K κ bw))
  (ag:Dn K mg "add_written" gK dX ck ce) (bq:FnOk P w K mg base CX0 (n+1) ck ce dX (SpE 2 K κ (dE [true,false]) ba))
  (af:Mn K κ "Builder" "whole_row" "Builder.whole_row" st_Builder_whole_row ps_Builder_whole_row cf b5) (dq:FnOk P w K mg base CX0 (n+1) cf b5 ps_Builder_whole_row (SpP 1 K κ dm)):
  FnOk P w K mg base CX0 ((n+1)+1) f fd iV (SpP 1 K κ (gP 1 2 (xN bv bw ba dm))):=
 eH bz.F kB fun cdv A outer s H E B hr=>
 (aK (bP 1 kB.nd rfl (.inl rfl) rfl rfl (QP.e (zt2 cj b9 hr rfl (kG 0))))
 (aK (oA 2 PassesOwn.never rfl kB.nd rfl (.inl rfl) rfl rfl (zr6 (dY bf cc hr rfl rfl (aH (aC 0) aP) (bA cJ)))
  (aN (eG (zb0 ag bq hr rfl (tX 1 (pR (aC 2) lA)) rfl (mO rfl) (show List.Nodup ([1]:List Nat) by decide) (fun j hj=>by have h:j∈([1]:List Nat):=hj;simp only [List.mem_cons,List.not_mem_nil,or_false] at h;rcases h with rfl<;>rfl)))))
 (aN (bM (QP.e (zG af dq hr (aC 1)))))))
def mX(bv:(tz7))(bw:(tz6))(ba:(tz7))(ez:(List D->Option Int))(da:(List D->Option Int)):PSt->Option Int:=
 (mV (bF 1 (aJ (oP "Builder" aD bv)))
 (pG (vV 2 (iM (aG bw (aB (aA 0) aD)))
  (cN (fIO [.io 1,.im (aA 2)] ba))
  (xg0 [.io 1,.im (aA 2)] ez)) (mV (dS 2 (iM (aG bw (aB (aA 0) aD)))
  (cN (fIO [.io 1,.im (aA 2)] ba)))
 (vT "Builder" "whole_row" (aA 1) da))))
theorem yk9(bz:Dn K mg "read" nQ iV f fd)
  (cj:Kn K mg κ "Builder" "Builder.__init__" st_Builder_init ps_Builder_init dv dr) (b9:FnOk P w K mg base CX0 n dv dr ps_Builder_init (SpE 1 K κ (dE [true]) bv))
  (bf:Dn K mg "parts_of" kY hG gf et) (cc:FnOk P w K mg base CX0 (n+1) gf et hG (SpP 1 K κ bw))
  (ag:Dn K mg "add_written" gK dX ck ce) (bq:FnOk P w K mg base CX0 (n+1) ck ce dX (SpE 2 K κ (dE [true,false]) ba))
   (fg:FnOk P w K mg base (CXn P w base aa) (n+1) ck ce dX (vS 2 K κ (dE [true,false]) aa ez))
  (af:Mn K κ "Builder" "whole_row" "Builder.whole_row" st_Builder_whole_row ps_Builder_whole_row cf b5) (db:FnOk P w K mg base (CXn P w base aa) (n+1) cf b5 ps_Builder_whole_row (zV 1 K κ aa da))
  (aw:NumI P w K mg base "NoPiece" aa):
  FnOk P w K mg base (CXn P w base aa) ((n+1)+1) f fd iV (zV 1 K κ aa (gN 1 2 (mX bv bw ba ez da))):=
 ye3 bz.F kB fun cdv A outer s H E B hr=>
 (yA (bP 1 kB.nd rfl (.inl rfl) rfl rfl (QP.e (zt2 cj b9 hr rfl (kG 0))))
 (zt9 (xu1 2 PassesOwn.leaving rfl kB.nd rfl (.inl rfl) rfl rfl (PI.nox (zr6 (dY bf cc hr rfl rfl (aH (aC 0) aP) (bA cJ))))
  (aN (eG (zb0 ag bq hr rfl (tX 1 (pR (aC 2) lA)) rfl (mO rfl) (show List.Nodup ([1]:List Nat) by decide) (fun j hj=>by have h:j∈([1]:List Nat):=hj;simp only [List.mem_cons,List.not_mem_nil,or_false] at h;rcases h with rfl<;>rfl))))
  (mQ (ye5 (wa9 ag fg hr rfl (tX 1 (pR (aC 2) lA)) rfl (mO rfl) (show List.Nodup ([1]:List Nat) by decide) (fun j hj=>by have h:j∈([1]:List Nat):=hj;simp only [List.mem_cons,List.not_mem_nil,or_false] at h;rcases h with rfl<;>rfl))))) (oA 2 PassesOwn.never rfl kB.nd rfl (.inl rfl) rfl rfl (zr6 (dY bf cc hr rfl rfl (aH (aC 0) aP) (bA cJ)))
  (aN (eG (zb0 ag bq hr rfl (tX 1 (pR (aC 2) lA)) rfl (mO rfl) (show List.Nodup ([1]:List Nat) by decide) (fun j hj=>by have h:j∈([1]:List Nat):=hj;simp only [List.mem_cons,List.not_mem_nil,or_false] at h;rcases h with rfl<;>rfl)))))
 (mQ (xm8 af db hr (aC 1)))))
def xO:tz1:=
 (aR (bF 1 (aJ (fC (.str "abcdefghijklmnopqrstuvwxyzABCDEFGHIJKLMNOPQRSTUVWXYZ0123456789"))))
 (aR (bF 1 (aJ (f2 aZ (aA 1) (fC (.str "!\"#$&'()*+,-./:;<=>?\x40[\\]^_`{|}~")))))
 (aR (bF 2 (aJ (f2 dIx (bI (fKs [.int 1,.int 2,.int 3,.int 4,.int 5,.int 6,.int 7,.int 8,.int 10,.int 11,.int 9,.int 12])) (f2 cW (aA 0) (fC (.int 12))))))
 (aR (bF 3 (aJ (fC (.str ""))))
 (aR (dS 4 (dP (aB (aA 2) aD))
  (bF 3 (aJ (f2 aZ (aA 3) (f2 dIx (aA 1) (f2 cW (f2 aZ (f2 eP (aA 0) (fC (.int 12))) (f2 nD (aA 4) (f2 cW (f2 eP (aA 0) (fC (.int 9000))) (fC (.int 93))))) (fC (.int 93))))))))
 (dZ 3))))))
abbrev sT:Stmt:=top 32
abbrev pW:List Str:=["_law_number"]
theorem kC:FnScope ["_law_number","_law_signs","_law_size","_law_word_here","_law_j"] pW (aW sT):=eK
theorem yt9(gv:Dn K mg "_law_word" sT pW f fd)
  (aq:mg "range"=none):
  FnOk P w K mg base CX0 (n+1) f fd pW (SpP 1 K κ (gP 1 4 (xO))):=
 eH gv.F kC fun cdv A outer s H E B hr=>
 (aK (bP 1 kC.nd rfl (.inl rfl) rfl rfl (QP.e aX))
 (aK (bP 1 kC.nd rfl (.inl rfl) rfl rfl (QP.e (aV cG (aC 1) (QP.v aX))))
 (aK (bP 2 kC.nd rfl (.inl rfl) rfl rfl (QP.e (nZ (cF (eY (.int (.int (.int (.int (.int (.int (.int (.int (.int (.int (.int (.int .nil)))))))))))))) (QP.v (aV eJ (aC 0) (QP.v aF))))))
 (aK (bP 3 kC.nd rfl (.inl rfl) rfl rfl (QP.e aX))
 (aK (oA 4 PassesOwn.never rfl kC.nd rfl (.inl rfl) rfl rfl (nN rfl aq (aH (aC 2) aP))
  (aN (bP 3 kC.nd rfl (.inl rfl) rfl rfl (QP.e (aV cG (aC 3) (cV (aC 1) (QP.v (aV eJ (QP.v (aV cG (QP.v (aV iQ (aC 0) (QP.v aF))) (QP.v (aV yj1 (aC 4) (QP.v (aV eJ (QP.v (aV iQ (aC 0) (QP.v aF))) (QP.v aF))))))) (QP.v aF)))))))))
 (aN (zg3 3 rfl)))))))
def kD(lf:(tz6)):tz1:=
 (aR (bF 1 (aJ (f2 eP (aA 0) (fC (.int 16)))))
 (aR (bF 2 (aJ (bI (fKs [.str "[",.str "]",.str "{",.str "|",.str "}",.str "<",.str ">3",.str "\x407",.str "_",.str ".",.str "/",.str "'",.str "''",.str "'["]))))
 (aR (fIf (aL (fB (f2 dLt (f2 cW (aA 0) (fC (.int 16))) (fC (.int 2)))))
  (cA (aJ (gF (aB (fC (.str "word")) (aB (dI (f2 dIx (aA 2) (f2 cW (aA 1) (fC (.int 14))))) aD)))))
  aY)
 (aR (fIf (aL (fB (f2 dLt (f2 cW (aA 0) (fC (.int 16))) (fC (.int 8)))))
  (cA (aJ (gF (aB (fC (.str "word")) (aB (aG lf (aB (aA 1) aD)) aD)))))
  aY)
 (aR (fIf (aL (fB (f2 dLt (f2 cW (aA 0) (fC (.int 16))) (fC (.int 13)))))
  (cA (aJ (gF (aB (fC (.str "gap")) (aB (f2 dIx (bI (fKs [.str " ",.str " ",.str " ",.str ""])) (f2 cW (aA 1) (fC (.int 4)))) aD)))))
  aY)
 (aR (fIf (aL (fB (f2 dEq (f2 cW (aA 0) (fC (.int 16))) (fC (.int 13)))))
  (cA (aJ (gF (aB (fC (.str "end")) aD))))
  aY)
 (cA (aJ (gF (aB (fC (.str "stop")) (aB (f2 dIx (bI (aB (f2 cW (f2 eP (aA 1) (fC (.int 2))) (fC (.int 10))) (aB (f2 cW (f2 eP (aA 1) (fC (.int 2))) (fC (.int 41))) aD))) (f2 cW (aA 1) (fC (.int 2)))) aD)))))))))))
abbrev pX:Stmt:=top 33
abbrev mF:List Str:=["_law_number"]
theorem sJ:FnScope ["_law_number","_law_some","_law_odd"] mF (aW pX):=eK
theorem yu0(dc:Dn K mg "_law_leaf" pX mF f fd)
  (gv:Dn K mg "_law_word" sT pW m9 mr) (lg:FnOk P w K mg base CX0 n m9 mr pW (SpP 1 K κ lf)):
  FnOk P w K mg base CX0 (n+1) f fd mF (SpP 1 K κ (gP 1 2 (kD lf))):=
 eH dc.F sJ fun cdv A outer s H E B hr=>
 (aK (bP 1 sJ.nd rfl (.inl rfl) rfl rfl (QP.e (aV iQ (aC 0) (QP.v aF))))
 (aK (bP 2 sJ.nd rfl (.inl rfl) rfl rfl (QP.e (cF (eY (.str (.str (.str (.str (.str (.str (.str (.str (.str (.str (.str (.str (.str (.str .nil))))))))))))))))))
 (aK (bR (QT.e (bC (tG (Room.units0 hr)) (QP.v (aV eJ (aC 0) (QP.v aF))) (QP.v aF) (bB _)))
  (aN (bM (QP.e (hV (aQ aX (aQ (QV.p (cV (aC 2) (QP.v (aV eJ (aC 1) (QP.v aF))))) bD))))))
  bH)
 (aK (bR (QT.e (bC (tG (Room.units0 hr)) (QP.v (aV eJ (aC 0) (QP.v aF))) (QP.v aF) (bB _)))
  (aN (bM (QP.e (hV (aQ aX (aQ (dY gv lg hr rfl rfl (aH (aC 1) aP) (bA cJ)) bD))))))
  bH)
 (aK (bR (QT.e (bC (tG (Room.units0 hr)) (QP.v (aV eJ (aC 0) (QP.v aF))) (QP.v aF) (bB _)))
  (aN (bM (QP.e (hV (aQ aX (aQ (nZ (cF (eY (.str (.str (.str (.str .nil)))))) (QP.v (aV eJ (aC 1) (QP.v aF)))) bD))))))
  bH)
 (aK (bR (QT.e (bC (dQ (Room.units hr)) (QP.v (aV eJ (aC 0) (QP.v aF))) (QP.v aF) (bB _)))
  (aN (bM (QP.e (hV (aQ aX bD)))))
  bH)
 (aN (bM (QP.e (hV (aQ aX (aQ (nZ (cF (aQ (aV eJ (QP.v (aV iQ (aC 1) (QP.v aF))) (QP.v aF)) (aQ (aV eJ (QP.v (aV iQ (aC 1) (QP.v aF))) (QP.v aF)) bD))) (QP.v (aV eJ (aC 1) (QP.v aF)))) bD))))))))))))
def pY:tz1:=
 (aR (xK [1,2,3,4] (dG 0 bS aD qK))
 (aR (bF 3 (aJ (f2 aZ (aA 3) (bI (aB (aG gB (aB (aA 4) aD)) aD)))))
 (aR (fIf (aL (cZ (fB (f2 dEq (aA 1) (fC (.str "either")))) (fB (f2 dLt (aG bU (aB (aA 3) aD)) (fC (.int 2))))))
  (bF 3 (aJ (f2 aZ (aA 3) (bI (aB (gF (aB (gF (aB (fC (.str "word")) (aB (fC (.str "or")) aD))) aD)) aD)))))
  aY)
 (aR (bF 5 (aJ (gF (aB (fC (.str "group")) (aB (dI (f2 dIx (aA 3) (fC (.int 0)))) aD)))))
 (aR (fIf (aL (fB (f2 dEq (aA 1) (fC (.str "hang")))))
  (bF 5 (aJ (gF (aB (fC (.str "hang")) (aB (dI (aA 2)) (aB (dI (f2 dIx (aA 3) (fC (.int 0)))) aD))))))
  aY)
 (aR (fIf (aL (fB (f2 dEq (aA 1) (fC (.str "either")))))
  (bF 5 (aJ (gF (aB (fC (.str "either")) (aB (aG gB (aB (aA 3) aD)) aD)))))
  aY)
 (cN (dG 0 (fL 0 (fL 0 bS (dR (fC (.int 1)))) (fC (.int 3))) (aB (dI (aA 5)) aD) cK))))))))
abbrev sU:Stmt:=top 34
abbrev pZ:List Str:=["_law_frames"]
theorem gR:FnScope ["_law_frames","_law_kind","_law_n","_law_full","_law_parts","_law_piece"] pZ (aW sU):=eK
theorem yu1(fj:Dn K mg "_law_shut" sU pZ f fd)
  (ar:mg "tuple"=none)
  (ae:mg "len"=none):
  FnOk P w K mg base CX0 (n+1) f fd pZ (SpE 1 K κ (dE [true]) (gE 1 5 (dE [true]) (pY))):=
 xX fj.F gR (fun i hi=>oZ hi) fun cdv A outer s H E hr=>
 (aK (ys5 (is:=[1,2,3,4]) rfl (uK (kZ (i:=1) gR.nd rfl (.inl rfl)) (uK (kZ (i:=2) gR.nd rfl (.inl rfl)) (uK (kZ (i:=3) gR.nd rfl (.inl rfl)) (uK (kZ (i:=4) gR.nd rfl (.inl rfl)) xj7)))) (zs0 (j:=0) rfl (cD 0)) (fun j hj=>by simp only [List.mem_cons,List.not_mem_nil,or_false] at hj;rcases hj with rfl|rfl|rfl|rfl<;>exact⟨rfl,rfl⟩))
 (aK (bP 3 gR.nd rfl (.inl rfl) rfl rfl (QP.e (aV cG (aC 3) (QP.v (cF (aQ (eX mL rfl ar boot_tuple (aH (aC 4) aP)) bD))))))
 (aK (bR (QT.e (nB (jJ (bC (dQ (Room.units hr)) (aC 1) (QP.v aX) (bB _)) (jI (bC (tG (Room.units0 hr)) (QP.v (cU fN rfl ae boot_len (aH (aC 3) aP))) (QP.v aF) (bB _))))))
  (aN (bP 3 gR.nd rfl (.inl rfl) rfl rfl (QP.e (aV cG (aC 3) (QP.v (cF (aQ (hV (aQ (hV (aQ aX (aQ aX bD))) bD)) bD)))))))
  bH)
 (aK (bP 5 gR.nd rfl (.inl rfl) rfl rfl (QP.e (hV (aQ aX (aQ (QV.p (cV (aC 3) (QP.v aF))) bD)))))
 (aK (bR (QT.e (bC (dQ (Room.units hr)) (aC 1) (QP.v aX) (bB _)))
  (aN (bP 5 gR.nd rfl (.inl rfl) rfl rfl (QP.e (hV (aQ aX (aQ (QV.p (aC 2)) (aQ (QV.p (cV (aC 3) (QP.v aF))) bD)))))))
  bH)
 (aK (bR (QT.e (bC (dQ (Room.units hr)) (aC 1) (QP.v aX) (bB _)))
  (aN (bP 5 gR.nd rfl (.inl rfl) rfl rfl (QP.e (hV (aQ aX (aQ (eX mL rfl ar boot_tuple (aH (aC 3) aP)) bD))))))
  bH)
 (aN (eG (fG (j:=0) rfl (iC (iC (cD 0) (QP.v (hU (QP.v aF)))) (QP.v aF)) (aQ (QV.p (aC 5)) bD))))))))))
def zz1(ax:(tz6))(jw:(tz7))(fk:(tz6)):tz1:=
 (aR (bF 4 (aJ (bI (aB (bI (aB (fC (.str "top")) (aB (fC (.int 0)) (aB (bI aD) (aB (bI aD) aD))))) aD))))
 (aR (dS 5 (ze7 (aB (aA 1) (aB (f2 aZ (aA 1) (aA 2)) aD)))
  (aR (bF 6 (aJ (aG ax (aB (aA 0) (aB (aA 5) (aB (fC (.int 31)) aD))))))
 (aR (bF 7 (aJ (f2 cW (aA 6) (fC (.int 13)))))
 (aR (bF 8 (aJ (dI (f2 dIx (f2 dIx (aA 4) (dR (fC (.int 1)))) (fC (.int 0))))))
 (fIf (aL (cZ (fB (f2 dLt (aA 7) (fC (.int 4)))) (fB (f2 dLe (aG bU (aB (aA 4) aD)) (aA 3)))))
  (aR (bF 9 (aJ (f2 dIx (bI (fKs [.str "group",.str "group",.str "hang",.str "either"])) (aA 7))))
 (cN (dG 4 bS (aB (bI (aB (dI (aA 9)) (aB (f2 dIx (bI (aB (fC (.int 1)) (aB (fC (.int 2)) (aB (fC (.int 4)) (aB (f2 cW (f2 eP (aA 6) (fC (.int 13))) (fC (.int 13))) aD))))) (f2 cW (f2 eP (aA 6) (fC (.int 169))) (fC (.int 4)))) (aB (bI aD) (aB (bI aD) aD))))) aD) cK)))
  (fIf (aL (cZ (fB (f2 dEq (aA 7) (fC (.int 4)))) (fB (f2 dGt (aG bU (aB (aA 4) aD)) (fC (.int 1))))))
  (cN (fIO [.io 4] jw))
  (fIf (aL (cZ (fB (f2 dLt (aA 7) (fC (.int 7)))) (cZ (fB (f2 dEq (aA 8) (fC (.str "either")))) (fB (f2 dLt (aG bU (aB (f2 dIx (f2 dIx (aA 4) (dR (fC (.int 1)))) (fC (.int 2))) aD)) (fC (.int 3)))))))
  (aR (cN (dG 4 (fL 4 (fL 4 bS (dR (fC (.int 1)))) (fC (.int 2))) (aB (aG gB (aB (f2 dIx (f2 dIx (aA 4) (dR (fC (.int 1)))) (fC (.int 3))) aD)) aD) cK))
 (cQ 4 (fL 4 bS (dR (fC (.int 1)))) (fC (.int 3)) (bI aD)))
  (cN (dG 4 (fL 4 (fL 4 bS (dR (fC (.int 1)))) (fC (.int 3))) (aB (aG fk (aB (aG ax (aB (aA 0) (aB (aA 5) (aB (fC (.int 32)) aD)))) aD)) aD) cK)))))))))
 (aR (lZ (aL (fB (f2 dGt (aG bU (aB (aA 4) aD)) (fC (.int 1)))))
  (cN (fIO [.io 4] jw)) 400)
 (cA (aJ (aG gB (aB (f2 dIx (f2 dIx (aA 4) (fC (.int 0))) (fC (.int 3))) aD)))))))
abbrev vX:Stmt:=top 35
abbrev rZ:List Str:=["_law_script","_law_at","_law_many","_law_nest"]
theorem lT:FnScope ["_law_script","_law_at","_law_many","_law_nest","_law_frames","_law_k","_law_number","_law_way","_law_kind","_law_new"] rZ (aW vX):=eK
theorem xc7(i9:Dn K mg "_law_row" vX rZ f fd)
  (bb:Dn K mg "_law_mixed" mW kP f8 dw) (bn:FnOk P w K mg base CX0 n f8 dw kP (SpP 3 K κ ax))
  (fj:Dn K mg "_law_shut" sU pZ na mv) (jx:FnOk P w K mg base CX0 n na mv pZ (SpE 1 K κ (dE [true]) jw))
  (dc:Dn K mg "_law_leaf" pX mF jy je) (gw:FnOk P w K mg base CX0 n jy je mF (SpP 1 K κ fk))
  (aq:mg "range"=none)
  (ar:mg "tuple"=none)
  (ae:mg "len"=none):
  FnOk P w K mg base CX0 (n+1) f fd rZ (SpP 4 K κ (gP 4 6 (zz1 ax jw fk))):=
 eH i9.F lT fun cdv A outer s H E B hr=>
 (aK (bP 4 lT.nd rfl (.inl rfl) rfl rfl (QP.e (cF (aQ (cF (aQ aX (aQ aF (aQ (cF bD) (aQ (cF bD) bD))))) bD))))
 (aK (oA 5 PassesOwn.never rfl lT.nd rfl (.inl rfl) rfl rfl (ys1 rfl aq (aH (aC 1) (aH (QP.v (aV cG (aC 1) (aC 2))) aP)))
  (aK (bP 6 lT.nd rfl (.inl rfl) rfl rfl (QP.e (dY bb bn hr rfl rfl (aH (aC 0) (aH (aC 5) (aH (QP.v aF) aP))) (bA (bA (bA cJ))))))
 (aK (bP 7 lT.nd rfl (.inl rfl) rfl rfl (QP.e (aV eJ (aC 6) (QP.v aF))))
 (aK (bP 8 lT.nd rfl (.inl rfl) rfl rfl (QP.e (QV.p (cV (cV (aC 4) (QP.v (hU (QP.v aF)))) (QP.v aF)))))
 (aN (bR (QT.e (nB (jJ (bC (tG (Room.units0 hr)) (aC 7) (QP.v aF) (bB _)) (jI (bC wR (QP.v (cU fN rfl ae boot_len (aH (aC 4) aP))) (aC 3) (bB _))))))
  (aK (bP 9 lT.nd rfl (.inl rfl) rfl rfl (QP.e (nZ (cF (eY (.str (.str (.str (.str .nil)))))) (aC 7))))
 (aN (eG (fG (j:=4) rfl (cD 4) (aQ (cF (aQ (QV.p (aC 9)) (aQ (nZ (cF (aQ aF (aQ aF (aQ aF (aQ (aV eJ (QP.v (aV iQ (aC 6) (QP.v aF))) (QP.v aF)) bD))))) (QP.v (aV eJ (QP.v (aV iQ (aC 6) (QP.v aF))) (QP.v aF)))) (aQ (cF bD) (aQ (cF bD) bD))))) bD)))))
  (aN (bR (QT.e (nB (jJ (bC (dQ (Room.units hr)) (aC 7) (QP.v aF) (bB _)) (jI (bC uQ (QP.v (cU fN rfl ae boot_len (aH (aC 4) aP))) (QP.v aF) (bB _))))))
  (aN (eG (zb0 fj jx hr rfl (tX 4 lA) rfl (mO rfl) (show List.Nodup ([4]:List Nat) by decide) (fun j hj=>by have h:j∈([4]:List Nat):=hj;simp only [List.mem_cons,List.not_mem_nil,or_false] at h;rcases h with rfl<;>rfl))))
  (aN (bR (QT.e (nB (jJ (bC (tG (Room.units0 hr)) (aC 7) (QP.v aF) (bB _)) (jJ (bC (dQ (Room.units hr)) (aC 8) (QP.v aX) (bB _)) (jI (bC (tG (Room.units0 hr)) (QP.v (cU fN rfl ae boot_len (aH (cV (cV (aC 4) (QP.v (hU (QP.v aF)))) (QP.v aF)) aP))) (QP.v aF) (bB _)))))))
  (aK (eG (fG (j:=4) rfl (iC (iC (cD 4) (QP.v (hU (QP.v aF)))) (QP.v aF)) (aQ (eX mL rfl ar boot_tuple (aH (cV (cV (aC 4) (QP.v (hU (QP.v aF)))) (QP.v aF)) aP)) bD)))
 (aN (zs1 (j:=4) rfl (cF bD) (iC (cD 4) (QP.v (hU (QP.v aF)))) (QP.v aF))))
  (aN (eG (fG (j:=4) rfl (iC (iC (cD 4) (QP.v (hU (QP.v aF)))) (QP.v aF)) (aQ (dY dc gw hr rfl rfl (aH (QP.v (dY bb bn hr rfl rfl (aH (aC 0) (aH (aC 5) (aH (QP.v aF) aP))) (bA (bA (bA cJ))))) aP) (bA cJ)) bD))))))))))))))
 (aK (xa7 400 PassesOwn.never (QT.e (bC uQ (QP.v (cU fN rfl ae boot_len (aH (aC 4) aP))) (QP.v aF) (bB _)))
  (aN (eG (zb0 fj jx hr rfl (tX 4 lA) rfl (mO rfl) (show List.Nodup ([4]:List Nat) by decide) (fun j hj=>by have h:j∈([4]:List Nat):=hj;simp only [List.mem_cons,List.not_mem_nil,or_false] at h;rcases h with rfl<;>rfl)))))
 (aN (bM (QP.e (eX mL rfl ar boot_tuple (aH (cV (cV (aC 4) (QP.v aF)) (QP.v aF)) aP))))))))
def tK(av:(tz6)):tz1:=
 (aR (bF 1 (aJ (bI aD)))
 (aR (dS 2 (iM (aA 0))
  (aR (fIf (aL (fB (f2 dEq (f2 dIx (aA 2) (fC (.int 0))) (fC (.str "word")))))
  (cN (dG 1 bS (aB (f2 aZ (fC (.str "'")) (f2 dIx (aA 2) (fC (.int 1)))) aD) cK))
  aY)
 (aR (fIf (aL (fB (f2 dEq (f2 dIx (aA 2) (fC (.int 0))) (fC (.str "gap")))))
  (cN (dG 1 bS (aB (f2 dIx (bI (aB (fC (.str "_")) (aB (fC (.str ".")) aD))) (aG cB (aB (f2 dEq (f2 dIx (aA 2) (fC (.int 1))) (fC (.str ""))) aD))) aD) cK))
  aY)
 (aR (fIf (aL (fB (f2 dEq (f2 dIx (aA 2) (fC (.int 0))) (fC (.str "end")))))
  (cN (dG 1 bS (aB (fC (.str "/")) aD) cK))
  aY)
 (aR (fIf (aL (fB (f2 dEq (f2 dIx (aA 2) (fC (.int 0))) (fC (.str "stop")))))
  (cN (dG 1 bS (aB (f2 aZ (fC (.str "\x40")) (aG bY (aB (f2 dIx (aA 2) (fC (.int 1))) aD))) aD) cK))
  aY)
 (aR (fIf (aL (fB (f2 dEq (f2 dIx (aA 2) (fC (.int 0))) (fC (.str "group")))))
  (bF 1 (aJ (f2 aZ (f2 aZ (f2 aZ (aA 1) (bI (aB (fC (.str "[")) aD))) (aG av (aB (f2 dIx (aA 2) (fC (.int 1))) aD))) (bI (aB (fC (.str "]")) aD)))))
  aY)
 (aR (fIf (aL (fB (f2 dEq (f2 dIx (aA 2) (fC (.int 0))) (fC (.str "hang")))))
  (bF 1 (aJ (f2 aZ (f2 aZ (f2 aZ (aA 1) (bI (aB (f2 aZ (fC (.str ">")) (aG bY (aB (f2 dIx (aA 2) (fC (.int 1))) aD))) aD))) (aG av (aB (f2 dIx (aA 2) (fC (.int 2))) aD))) (bI (aB (fC (.str "<")) aD)))))
  aY)
 (fIf (aL (fB (f2 dEq (f2 dIx (aA 2) (fC (.int 0))) (fC (.str "either")))))
  (aR (dS 3 (dP (aB (aG bU (aB (f2 dIx (aA 2) (fC (.int 1))) aD)) aD))
  (bF 1 (aJ (f2 aZ (f2 aZ (aA 1) (bI (aB (f2 dIx (bI (aB (fC (.str "{")) (aB (fC (.str "|")) aD))) (aG cB (aB (f2 dGt (aA 3) (fC (.int 0))) aD))) aD))) (aG av (aB (f2 dIx (f2 dIx (aA 2) (fC (.int 1))) (aA 3)) aD))))))
 (cN (dG 1 bS (aB (fC (.str "}")) aD) cK)))
  aY))))))))
 (dZ 1)))
abbrev nH:Stmt:=top 36
abbrev hZ:List Str:=["_law_row_here"]
theorem hX:FnScope ["_law_row_here","_law_signs","_law_piece","_law_k"] hZ (aW nH):=eK
theorem ya8(ay:Dn K mg "_law_listed" nH hZ f fd)
  (br:FnOk P w K mg base CX0 n f fd hZ (SpP 1 K κ av))
  (aq:mg "range"=none)
  (ae:mg "len"=none)
  (ii:mg "int"=none)
  (ig:mg "str"=none):
  FnOk P w K mg base CX0 (n+1) f fd hZ (SpP 1 K κ (gP 1 3 (tK av))):=
 eH ay.F hX fun cdv A outer s H E B hr=>
 (aK (bP 1 hX.nd rfl (.inl rfl) rfl rfl (QP.e (cF bD)))
 (aK (xl6 2 0 PassesOwn.never rfl hX.nd rfl (.inl rfl) rfl rfl rfl
  (aK (bR (QT.e (bC (dQ (Room.units hr)) (cV (aC 2) (QP.v aF)) (QP.v aX) (bB _)))
  (aN (eG (fG (j:=1) rfl (cD 1) (aQ (aV cG (QP.v aX) (cV (aC 2) (QP.v aF))) bD))))
  bH)
 (aK (bR (QT.e (bC (dQ (Room.units hr)) (cV (aC 2) (QP.v aF)) (QP.v aX) (bB _)))
  (aN (eG (fG (j:=1) rfl (cD 1) (aQ (nZ (cF (aQ aX (aQ aX bD))) (QP.v (eX xh3 rfl ii boot_int (aH (QP.v (nE (dQ (Room.units hr)) (cV (aC 2) (QP.v aF)) (QP.v aX) (bB _))) aP)))) bD))))
  bH)
 (aK (bR (QT.e (bC (dQ (Room.units hr)) (cV (aC 2) (QP.v aF)) (QP.v aX) (bB _)))
  (aN (eG (fG (j:=1) rfl (cD 1) (aQ aX bD))))
  bH)
 (aK (bR (QT.e (bC (dQ (Room.units hr)) (cV (aC 2) (QP.v aF)) (QP.v aX) (bB _)))
  (aN (eG (fG (j:=1) rfl (cD 1) (aQ (aV cG (QP.v aX) (QP.v (eX yj3 rfl ig boot_str (aH (cV (aC 2) (QP.v aF)) aP)))) bD))))
  bH)
 (aK (bR (QT.e (bC (dQ (Room.units hr)) (cV (aC 2) (QP.v aF)) (QP.v aX) (bB _)))
  (aN (bP 1 hX.nd rfl (.inl rfl) rfl rfl (QP.e (aV cG (QP.v (aV cG (QP.v (aV cG (aC 1) (QP.v (cF (aQ aX bD))))) (QP.v (dY ay br hr rfl rfl (aH (cV (aC 2) (QP.v aF)) aP) (bA cJ))))) (QP.v (cF (aQ aX bD)))))))
  bH)
 (aK (bR (QT.e (bC (dQ (Room.units hr)) (cV (aC 2) (QP.v aF)) (QP.v aX) (bB _)))
  (aN (bP 1 hX.nd rfl (.inl rfl) rfl rfl (QP.e (aV cG (QP.v (aV cG (QP.v (aV cG (aC 1) (QP.v (cF (aQ (aV cG (QP.v aX) (QP.v (eX yj3 rfl ig boot_str (aH (cV (aC 2) (QP.v aF)) aP)))) bD))))) (QP.v (dY ay br hr rfl rfl (aH (cV (aC 2) (QP.v aF)) aP) (bA cJ))))) (QP.v (cF (aQ aX bD)))))))
  bH)
 (aN (bR (QT.e (bC (dQ (Room.units hr)) (cV (aC 2) (QP.v aF)) (QP.v aX) (bB _)))
  (aK (oA 3 PassesOwn.never rfl hX.nd rfl (.inl rfl) rfl rfl (nN rfl aq (aH (QP.v (cU fN rfl ae boot_len (aH (cV (aC 2) (QP.v aF)) aP))) aP))
  (aN (bP 1 hX.nd rfl (.inl rfl) rfl rfl (QP.e (aV cG (QP.v (aV cG (aC 1) (QP.v (cF (aQ (nZ (cF (aQ aX (aQ aX bD))) (QP.v (eX xh3 rfl ii boot_int (aH (QP.v (nE uQ (aC 3) (QP.v aF) (bB _))) aP)))) bD))))) (QP.v (dY ay br hr rfl rfl (aH (cV (cV (aC 2) (QP.v aF)) (aC 3)) aP) (bA cJ))))))))
 (aN (eG (fG (j:=1) rfl (cD 1) (aQ aX bD)))))
  bH)))))))))
 (aN (zg3 1 rfl))))
def zn1(ax:(tz6))(av:(tz6))(fk:(tz6))(mj:(tz6)):tz1:=
 (aR (bF 1 (aJ (aG ax (aB (aA 0) (aB (fC (.int 0)) (aB (fC (.int 40)) aD))))))
 (aR (fIf (aL (fB (f2 dEq (f2 cW (aA 1) (fC (.int 8))) (fC (.int 1)))))
  (cA (aJ (aG av (aB (aG gB (aB (mU [none,some 0] (dP (aB (f2 aZ (fC (.int 196)) (f2 cW (f2 eP (aA 1) (fC (.int 8))) (fC (.int 7)))) aD)) kM (aG fk (aB (aG ax (aB (aA 1) (aB (aA 0) (aB (fC (.int 41)) aD)))) aD))) aD)) aD))))
  aY)
 (aR (bF 2 (aJ (aG av (aB (aG mj (aB (aA 0) (aB (fC (.int 0)) (aB (aG gU (aB (f2 aZ (aG bU (aB (aA 0) aD)) (fC (.int 3))) (aB (fC (.int 40)) aD))) (aB (fC (.int 3)) aD))))) aD))))
 (aR (fIf (aL (fB (f2 dEq (f2 cW (aA 1) (fC (.int 8))) (fC (.int 3)))))
  (aR (bF 3 (aJ (f2 aZ (fC (.int 9)) (f2 cW (f2 eP (aA 1) (fC (.int 8))) (fC (.int 5))))))
 (aR (bF 4 (aJ (f2 cW (f2 eP (aA 1) (fC (.int 40))) (fC (.int 3)))))
 (cA (aJ (f2 aZ (f2 aZ (f2 nD (bI (aB (f2 dIx (bI (fKs [.str "[",.str ">3",.str "{"])) (aA 4)) aD)) (aA 3)) (fSl (aA 2) bL (bX (fC (.int 3))))) (f2 nD (f2 dIx (bI (aB (bI (aB (fC (.str "]")) aD)) (aB (bI (aB (fC (.str "<")) aD)) (aB (bI (fKs [.str "|",.str "/",.str "}"])) aD)))) (aA 4)) (aA 3)))))))
  aY)
 (dZ 2)))))
abbrev qA:Stmt:=top 37
abbrev qB:List Str:=["_law_script"]
theorem nO:FnScope ["_law_script","_law_number","_law_some","_law_deep","_law_way"] qB (aW qA):=eK
theorem yu2(gx:Dn K mg "_law_list" qA qB f fd)
  (bb:Dn K mg "_law_mixed" mW kP f8 dw) (bn:FnOk P w K mg base CX0 n f8 dw kP (SpP 3 K κ ax))
  (ay:Dn K mg "_law_listed" nH hZ i7 ij) (br:FnOk P w K mg base CX0 n i7 ij hZ (SpP 1 K κ av))
  (dc:Dn K mg "_law_leaf" pX mF jy je) (gw:FnOk P w K mg base CX0 n jy je mF (SpP 1 K κ fk))
  (i9:Dn K mg "_law_row" vX rZ pe ng) (ml:FnOk P w K mg base CX0 n pe ng rZ (SpP 4 K κ mj))
  (ar:mg "tuple"=none)
  (pi:mg "min"=none)
  (ae:mg "len"=none)
  (aq:mg "range"=none):
  FnOk P w K mg base CX0 (n+1) f fd qB (SpP 1 K κ (gP 1 4 (zn1 ax av fk mj))):=
 eH gx.F nO fun cdv A outer s H E B hr=>
 (aK (bP 1 nO.nd rfl (.inl rfl) rfl rfl (QP.e (dY bb bn hr rfl rfl (aH (aC 0) (aH (QP.v aF) (aH (QP.v aF) aP))) (bA (bA (bA cJ))))))
 (aK (bR (QT.e (bC (dQ (Room.units hr)) (QP.v (aV eJ (aC 1) (QP.v aF))) (QP.v aF) (bB _)))
  (aN (bM (QP.e (dY ay br hr rfl rfl (aH (QP.v (eX mL rfl ar boot_tuple (aH (QP.v (zg5 (sc:=aW qA) (NX:=["_law_script","_law_number","_law_some","_law_deep","_law_way"]) (N:=["_law_k","_law_script"]) (pick:=[none,some 0]) ⟨rfl,by decide+kernel,by decide+kernel,by decide+kernel,by decide+kernel,by decide,rfl⟩ rfl rfl rfl (QIP.v (nN rfl aq (aH (QP.v (aV cG (QP.v aF) (QP.v (aV eJ (QP.v (aV iQ (aC 1) (QP.v aF))) (QP.v aF))))) aP))) (fun _ _ _ _=>(kZ (i:=0) (show(["_law_k","_law_script"]:List Str).Nodup by decide) rfl (.inl rfl))) (fun _ _ _ _=>zg4) (fun _ _ _ _=>(dY dc gw hr rfl rfl (aH (QP.v (dY bb bn hr rfl rfl (aH (aC 1) (aH (aC 0) (aH (QP.v aF) aP))) (bA (bA (bA cJ))))) aP) (bA cJ))))) aP))) aP) (bA cJ)))))
  bH)
 (aK (bP 2 nO.nd rfl (.inl rfl) rfl rfl (QP.e (dY ay br hr rfl rfl (aH (QP.v (dY i9 ml hr rfl rfl (aH (aC 0) (aH (QP.v aF) (aH (QP.v (cU (xt1 rfl) rfl pi boot_min (aH (QP.v (aV cG (QP.v (cU fN rfl ae boot_len (aH (aC 0) aP))) (QP.v aF))) (aH (QP.v aF) aP)))) (aH (QP.v aF) aP)))) (bA (bA (bA (bA cJ)))))) aP) (bA cJ))))
 (aK (bR (QT.e (bC (dQ (Room.units hr)) (QP.v (aV eJ (aC 1) (QP.v aF))) (QP.v aF) (bB _)))
  (aK (bP 3 nO.nd rfl (.inl rfl) rfl rfl (QP.e (aV cG (QP.v aF) (QP.v (aV eJ (QP.v (aV iQ (aC 1) (QP.v aF))) (QP.v aF))))))
 (aK (bP 4 nO.nd rfl (.inl rfl) rfl rfl (QP.e (aV eJ (QP.v (aV iQ (aC 1) (QP.v aF))) (QP.v aF))))
 (aN (bM (QP.e (aV cG (QP.v (aV cG (QP.v (aV yj1 (QP.v (cF (aQ (nZ (cF (eY (.str (.str (.str .nil))))) (aC 4)) bD))) (aC 3))) (QP.v (dF (aC 2) eC (dL (QP.v aF)))))) (QP.v (aV yj1 (QP.v (nZ (cF (aQ (cF (aQ aX bD)) (aQ (cF (aQ aX bD)) (aQ (cF (eY (.str (.str (.str .nil))))) bD)))) (aC 4))) (aC 3)))))))))
  bH)
 (aN (zg3 2 rfl))))))
def zn2:tz1:=
 (aR (bF 1 (aJ (fC (.str " !\"#$&'()*+,-./0123456789:;<=>?\x40ABCDEFGHIJKLMNOPQRSTUVWXYZ[\\]^_`"))))
 (aR (bF 1 (aJ (f2 aZ (aA 1) (fC (.str "abcdefghijklmnopqrstuvwxyz{|}~\n")))))
 (aR (fIf (aL (fB (f2 dEq (f2 cW (aA 0) (fC (.int 3))) (fC (.int 0)))))
  (cA (aJ (f2 dIx (fC (.str " '0\x40")) (f2 cW (f2 eP (aA 0) (fC (.int 3))) (fC (.int 4))))))
  aY)
 (cA (aJ (dI (f2 dIx (aA 1) (f2 cW (f2 eP (aA 0) (fC (.int 3))) (aG bU (aB (aA 1) aD))))))))))
abbrev sV:Stmt:=top 38
abbrev qC:List Str:=["_law_number"]
theorem sK:FnScope ["_law_number","_law_some"] qC (aW sV):=eK
theorem yu3(gy:Dn K mg "_law_sign" sV qC f fd)
  (ae:mg "len"=none):
  FnOk P w K mg base CX0 (n+1) f fd qC (SpP 1 K κ (gP 1 1 (zn2))):=
 eH gy.F sK fun cdv A outer s H E B hr=>
 (aK (bP 1 sK.nd rfl (.inl rfl) rfl rfl (QP.e aX))
 (aK (bP 1 sK.nd rfl (.inl rfl) rfl rfl (QP.e (aV cG (aC 1) (QP.v aX))))
 (aK (bR (QT.e (bC (dQ (Room.units hr)) (QP.v (aV eJ (aC 0) (QP.v aF))) (QP.v aF) (bB _)))
  (aN (bM (QP.e (nZ aX (QP.v (aV eJ (QP.v (aV iQ (aC 0) (QP.v aF))) (QP.v aF)))))))
  bH)
 (aN (bM (QP.e (QV.p (cV (aC 1) (QP.v (aV eJ (QP.v (aV iQ (aC 0) (QP.v aF))) (QP.v (cU fN rfl ae boot_len (aH (aC 1) aP)))))))))))))
def oS:tz1:=
 (aR (bF 2 (aJ (f2 cW (aA 1) (fC (.int 5)))))
 (aR (bF 3 (aJ (f2 cW (f2 eP (aA 1) (fC (.int 5))) (aG zo8 (aB (fC (.int 1)) (aB (aG bU (aB (aA 0) aD)) aD))))))
 (aR (bF 4 (aJ (f2 cW (f2 eP (aA 1) (fC (.int 1500))) (f2 aZ (aG bU (aB (aA 0) aD)) (fC (.int 1))))))
 (aR (bF 5 (aJ (bI (fKs [.str "[",.str "]",.str "<",.str "{",.str "|",.str "}",.str "/",.str ">12",.str ">13",.str ">0",.str ">00",.str ">-1",.str ">",.str "\x4040",.str "\x4041",.str "\x400",.str "\x4007"]))))
 (aR (bF 5 (aJ (f2 aZ (aA 5) (bI (fKs [.str "\x40",.str "",.str "'",.str "x",.str "__",.str "..",.str "//",.str "[]",.str "'abcdefghijkl",.str "'abcdefghijklm",.str "\x404 0",.str "\x40+4",.str ">1a"])))))
 (aR (fIf (aL (fB (f2 dEq (aA 2) (fC (.int 0)))))
  (cA (aJ (f2 aZ (fSl (aA 0) bL (bX (aA 3))) (fSl (aA 0) (bX (f2 aZ (aA 3) (fC (.int 1)))) bL))))
  aY)
 (aR (fIf (aL (fB (f2 dEq (aA 2) (fC (.int 1)))))
  (cA (aJ (f2 aZ (f2 aZ (fSl (aA 0) bL (bX (aA 4))) (fSl (aA 0) (bX (aA 3)) (bX (f2 aZ (aA 3) (fC (.int 1)))))) (fSl (aA 0) (bX (aA 4)) bL))))
  aY)
 (aR (fIf (aL (fB (f2 dEq (aA 2) (fC (.int 2)))))
  (cA (aJ (f2 aZ (f2 aZ (fSl (aA 0) bL (bX (aA 3))) (xf8 (fSl (aA 0) (bX (aA 3)) (bX (f2 aZ (aA 3) (fC (.int 2))))))) (fSl (aA 0) (bX (f2 aZ (aA 3) (fC (.int 2)))) bL))))
  aY)
 (aR (fIf (aL (fB (f2 dEq (aA 2) (fC (.int 3)))))
  (cA (aJ (f2 aZ (f2 aZ (fSl (aA 0) bL (bX (aA 4))) (bI (aB (dI (f2 dIx (aA 5) (f2 cW (f2 eP (aA 1) (fC (.int 5))) (fC (.int 30))))) aD))) (fSl (aA 0) (bX (aA 4)) bL))))
  aY)
 (cA (aJ (fSl (aA 0) bL (bX (f2 aZ (aA 3) (fC (.int 1))))))))))))))))
abbrev oU:Stmt:=top 39
abbrev mG:List Str:=["_law_some","_law_number"]
theorem iE:FnScope ["_law_some","_law_number","_law_way","_law_at","_law_to","_law_more"] mG (aW oU):=eK
theorem zu7(dj:Dn K mg "_law_changed" oU mG f fd)
  (ky:mg "max"=none)
  (ae:mg "len"=none)
  (nh:mg "list"=none)
  (jz:mg "reversed"=none):
  FnOk P w K mg base CX0 (n+1) f fd mG (SpP 2 K κ (gP 2 4 (oS))):=
 eH dj.F iE fun cdv A outer s H E B hr=>
 (aK (bP 2 iE.nd rfl (.inl rfl) rfl rfl (QP.e (aV eJ (aC 1) (QP.v aF))))
 (aK (bP 3 iE.nd rfl (.inl rfl) rfl rfl (QP.e (aV eJ (QP.v (aV iQ (aC 1) (QP.v aF))) (QP.v (cU (xt0 rfl) rfl ky boot_max (aH (QP.v aF) (aH (QP.v (cU fN rfl ae boot_len (aH (aC 0) aP))) aP)))))))
 (aK (bP 4 iE.nd rfl (.inl rfl) rfl rfl (QP.e (aV eJ (QP.v (aV iQ (aC 1) (QP.v aF))) (QP.v (aV cG (QP.v (cU fN rfl ae boot_len (aH (aC 0) aP))) (QP.v aF))))))
 (aK (bP 5 iE.nd rfl (.inl rfl) rfl rfl (QP.e (cF (eY (.str (.str (.str (.str (.str (.str (.str (.str (.str (.str (.str (.str (.str (.str (.str (.str (.str .nil)))))))))))))))))))))
 (aK (bP 5 iE.nd rfl (.inl rfl) rfl rfl (QP.e (aV cG (aC 5) (QP.v (cF (eY (.str (.str (.str (.str (.str (.str (.str (.str (.str (.str (.str (.str (.str .nil)))))))))))))))))))
 (aK (bR (QT.e (bC (dQ (Room.units hr)) (aC 2) (QP.v aF) (bB _)))
  (aN (bM (QP.e (aV cG (QP.v (dF (aC 0) eC (dL (aC 3)))) (QP.v (dF (aC 0) (dL (QP.v (aV cG (aC 3) (QP.v aF)))) eC))))))
  bH)
 (aK (bR (QT.e (bC (dQ (Room.units hr)) (aC 2) (QP.v aF) (bB _)))
  (aN (bM (QP.e (aV cG (QP.v (aV cG (QP.v (dF (aC 0) eC (dL (aC 4)))) (QP.v (dF (aC 0) (dL (aC 3)) (dL (QP.v (aV cG (aC 3) (QP.v aF)))))))) (QP.v (dF (aC 0) (dL (aC 4)) eC))))))
  bH)
 (aK (bR (QT.e (bC (dQ (Room.units hr)) (aC 2) (QP.v aF) (bB _)))
  (aN (bM (QP.e (aV cG (QP.v (aV cG (QP.v (dF (aC 0) eC (dL (aC 3)))) (QP.v (xt9 rfl (QP.v (dF (aC 0) (dL (aC 3)) (dL (QP.v (aV cG (aC 3) (QP.v aF)))))) rfl nh rfl jz)))) (QP.v (dF (aC 0) (dL (QP.v (aV cG (aC 3) (QP.v aF)))) eC))))))
  bH)
 (aK (bR (QT.e (bC (dQ (Room.units hr)) (aC 2) (QP.v aF) (bB _)))
  (aN (bM (QP.e (aV cG (QP.v (aV cG (QP.v (dF (aC 0) eC (dL (aC 4)))) (QP.v (cF (aQ (QV.p (cV (aC 5) (QP.v (aV eJ (QP.v (aV iQ (aC 1) (QP.v aF))) (QP.v aF))))) bD))))) (QP.v (dF (aC 0) (dL (aC 4)) eC))))))
  bH)
 (aN (bM (QP.e (dF (aC 0) eC (dL (QP.v (aV cG (aC 3) (QP.v aF)))))))))))))))))
def zn3:tz1:=
 (aR (fIf (aL (jP (fB (f2 dEq (aA 0) (fC (.str "")))) (jP (fB (f2 dGt (aG bU (aB (aA 0) aD)) (fC (.int 2)))) (cZ (fB (f2 dEq (aG bU (aB (aA 0) aD)) (fC (.int 2)))) (fB (f2 dEq (f2 dIx (aA 0) (fC (.int 0))) (fC (.str "0"))))))))
  (cA (aJ (fC (.bl false))))
  aY)
 (aR (dS 2 (iT (aA 0))
  (fIf (aL (fB (f2 qZ (aA 2) (fC (.str "0123456789")))))
  (cA (aJ (fC (.bl false))))
  aY))
 (cA (aJ (f2 dLe (aG yn8 (aB (aA 0) aD)) (aA 1))))))
abbrev sW:Stmt:=top 40
abbrev qD:List Str:=["_law_text","_law_most"]
theorem wZ:FnScope ["_law_text","_law_most","_law_sign_here"] qD (aW sW):=eK
theorem yu4(f7:Dn K mg "_law_upto" sW qD f fd)
  (ii:mg "int"=none)
  (ae:mg "len"=none):
  FnOk P w K mg base CX0 (n+1) f fd qD (SpP 2 K κ (gP 2 1 (zn3))):=
 eH f7.F wZ fun cdv A outer s H E B hr=>
 (aK (bR (QT.e (nB (xV (bC (dQ (Room.units hr)) (aC 0) (QP.v aX) (bB _)) (xV (bC uQ (QP.v (cU fN rfl ae boot_len (aH (aC 0) aP))) (QP.v aF) (bB _)) (wQ (nB (jJ (bC (dQ (Room.units hr)) (QP.v (cU fN rfl ae boot_len (aH (aC 0) aP))) (QP.v aF) (bB _)) (jI (bC (dQ (Room.units hr)) (cV (aC 0) (QP.v aF)) (QP.v aX) (bB _))))))))))
  (aN (bM (QP.e sG)))
  bH)
 (aK (oA 2 PassesOwn.never rfl wZ.nd rfl (.inl rfl) rfl rfl (zr7 (aC 0))
  (aN (bR (QT.e (bC xc5 (aC 2) (QP.v aX) (by with_unfolding_all rfl)))
  (aN (bM (QP.e sG)))
  bH)))
 (aN (bM (QP.e (nE wR (QP.v (eX xu0 rfl ii boot_int (aH (aC 0) aP))) (aC 1) (bB _)))))))
def zn4(j4:(tz6)):tz1:=
 (aR (fIf (aL (fB (f2 dIn (aA 0) (bI (fKs [.str "[",.str "]",.str "<",.str "{",.str "|",.str "}"])))))
  (cA (aJ (dI (aA 0))))
  aY)
 (aR (fIf (aL (fB (f2 dIn (aA 0) (bI (fKs [.str "_",.str ".",.str "/"])))))
  (cA (aJ (fC (.str "leaf"))))
  aY)
 (aR (fIf (aL (cZ (fB (f2 dEq (fSl (aA 0) bL (bX (fC (.int 1)))) (fC (.str "\x40")))) (fT (aG j4 (aB (fSl (aA 0) (bX (fC (.int 1))) bL) (aB (fC (.int 40)) aD))))))
  (cA (aJ (fC (.str "leaf"))))
  aY)
 (aR (fIf (aL (cZ (fB (f2 dEq (fSl (aA 0) bL (bX (fC (.int 1)))) (fC (.str ">")))) (fT (aG j4 (aB (fSl (aA 0) (bX (fC (.int 1))) bL) (aB (fC (.int 12)) aD))))))
  (cA (aJ (fC (.str ">"))))
  aY)
 (aR (fIf (aL (cZ (fB (f2 dEq (fSl (aA 0) bL (bX (fC (.int 1)))) (fC (.str "'")))) (cZ (fB (f3 dLe dLe (fC (.int 2)) (aG bU (aB (aA 0) aD)) (fC (.int 13)))) (fT (aG vP (aB (mU [none] (iT (aA 0)) kM (f3 dLe dLe (fC (.str "!")) (aA 0) (fC (.str "~")))) aD))))))
  (cA (aJ (fC (.str "leaf"))))
  aY)
 (cA (aJ (fC (.str "")))))))))
abbrev qE:Stmt:=top 41
abbrev qG:List Str:=["_law_part"]
theorem zl2:FnScope ["_law_part"] qG (aW qE):=eK
theorem yu5(gz:Dn K mg "_law_sort" qE qG f fd)
  (f7:Dn K mg "_law_upto" sW qD ni mw) (j6:FnOk P w K mg base CX0 n ni mw qD (SpP 2 K κ j4))
  (kz:mg "all"=none)
  (ae:mg "len"=none):
  FnOk P w K mg base CX0 (n+1) f fd qG (SpP 1 K κ (gP 1 0 (zn4 j4))):=
 eH gz.F zl2 fun cdv A outer s H E B hr=>
 (aK (bR (QT.e (bC zg2 (aC 0) (QP.v (cF (eY (.str (.str (.str (.str (.str (.str .nil))))))))) (by with_unfolding_all rfl)))
  (aN (bM (QP.e (QV.p (aC 0)))))
  bH)
 (aK (bR (QT.e (bC zg2 (aC 0) (QP.v (cF (eY (.str (.str (.str .nil)))))) (by with_unfolding_all rfl)))
  (aN (bM (QP.e aX)))
  bH)
 (aK (bR (QT.e (nB (jJ (bC (dQ (Room.units hr)) (QP.v (dF (aC 0) eC (dL (QP.v aF)))) (QP.v aX) (bB _)) (jI (nF (QP.v (dY f7 j6 hr rfl rfl (aH (QP.v (dF (aC 0) (dL (QP.v aF)) eC)) (aH (QP.v aF) aP)) (bA (bA cJ)))))))))
  (aN (bM (QP.e aX)))
  bH)
 (aK (bR (QT.e (nB (jJ (bC (dQ (Room.units hr)) (QP.v (dF (aC 0) eC (dL (QP.v aF)))) (QP.v aX) (bB _)) (jI (nF (QP.v (dY f7 j6 hr rfl rfl (aH (QP.v (dF (aC 0) (dL (QP.v aF)) eC)) (aH (QP.v aF) aP)) (bA (bA cJ)))))))))
  (aN (bM (QP.e aX)))
  bH)
 (aK (bR (QT.e (nB (jJ (bC (dQ (Room.units hr)) (QP.v (dF (aC 0) eC (dL (QP.v aF)))) (QP.v aX) (bB _)) (jJ (xb3 wR wR (QP.v aF) (QP.v (cU fN rfl ae boot_len (aH (aC 0) aP))) (QP.v aF)) (jI (nF (QP.v (cU (xh4 rfl) rfl kz boot_all (aH (QP.v (zg5 (sc:=aW qE) (NX:=["_law_part"]) (N:=["_law_sign_here"]) (pick:=[none]) ⟨rfl,by decide+kernel,by decide+kernel,by decide+kernel,by decide+kernel,by decide,rfl⟩ rfl rfl rfl (QIP.v (zr7 (aC 0))) (fun _ _ _ _=>(kZ (i:=0) (show(["_law_sign_here"]:List Str).Nodup by decide) rfl (.inl rfl))) (fun _ _ _ _=>zg4) (fun _ _ _ _=>(xb2 wR wR (QP.v aX) (aC 0) (QP.v aX))))) aP)))))))))
  (aN (bM (QP.e aX)))
  bH)
 (aN (bM (QP.e aX))))))))
def jU(lh:(tz6)):tz1:=
 (aR (bF 1 (aJ (bI aD)))
 (aR (dS 2 (dP (aB (aG bU (aB (aA 0) aD)) aD))
  (aR (bF 3 (aJ (aG lh (aB (f2 dIx (aA 0) (aA 2)) aD))))
 (aR (fIf (aL (jP (fB (f2 dEq (aA 3) (fC (.str "")))) (fB (f2 dGe (aA 2) (fC (.int 200))))))
  (cA (aJ (f2 aZ (aA 2) (fC (.int 1)))))
  aY)
 (aR (fIf (aL (fB (f2 dIn (aA 3) (bI (fKs [.str "[",.str ">",.str "{"])))))
  (aR (fIf (aL (fB (f2 dEq (aG bU (aB (aA 1) aD)) (fC (.int 12)))))
  (cA (aJ (f2 aZ (aA 2) (fC (.int 1)))))
  aY)
 (cN (dG 1 bS (aB (bI (aB (dI (aA 3)) (aB (fC (.int 1)) aD))) aD) cK)))
  aY)
 (fIf (aL (fB (f2 dIn (aA 3) (bI (fKs [.str "]",.str "<",.str "|",.str "}"])))))
  (aR (fIf (aL (jP (fB (f2 dEq (aG bU (aB (aA 1) aD)) (fC (.int 0)))) (fB (f2 dNe (f2 dIx (f2 dIx (aA 1) (dR (fC (.int 1)))) (fC (.int 0))) (f2 rX (gG [("]",(fC (.str "["))),("<",(fC (.str ">"))),("|",(fC (.str "{"))),("}",(fC (.str "{")))]) (aA 3))))))
  (cA (aJ (f2 aZ (aA 2) (fC (.int 1)))))
  aY)
 (aR (fIf (aL (jP (cZ (fB (f2 dEq (aA 3) (fC (.str "|")))) (fB (f2 dEq (f2 dIx (f2 dIx (aA 1) (dR (fC (.int 1)))) (fC (.int 1))) (fC (.int 4))))) (cZ (fB (f2 dEq (aA 3) (fC (.str "}")))) (fB (f2 dEq (f2 dIx (f2 dIx (aA 1) (dR (fC (.int 1)))) (fC (.int 1))) (fC (.int 1)))))))
  (cA (aJ (f2 aZ (aA 2) (fC (.int 1)))))
  aY)
 (aR (cQ 1 (fL 1 bS (dR (fC (.int 1)))) (fC (.int 1)) (f2 aZ (f2 dIx (f2 dIx (aA 1) (dR (fC (.int 1)))) (fC (.int 1))) (fC (.int 1))))
 (fIf (aL (fB (f2 dNe (aA 3) (fC (.str "|")))))
  (cN (dG 1 bS aD qK))
  aY))))
  aY)))))
 (aR (fIf (aL (fB (f2 dGt (aG bU (aB (aA 1) aD)) (fC (.int 0)))))
  (cA (aJ (f2 aZ (aG bU (aB (aA 0) aD)) (fC (.int 1)))))
  aY)
 (cA (aJ (fC (.int 0)))))))
abbrev mY:Stmt:=top 42
abbrev jV:List Str:=["_law_some"]
theorem jK:FnScope ["_law_some","_law_now","_law_k","_law_sort_here"] jV (aW mY):=eK
theorem zh6(ci:Dn K mg "_law_first_bad" mY jV f fd)
  (gz:Dn K mg "_law_sort" qE qG nj mx) (li:FnOk P w K mg base CX0 n nj mx qG (SpP 1 K κ lh))
  (aq:mg "range"=none)
  (ae:mg "len"=none):
  FnOk P w K mg base CX0 (n+1) f fd jV (SpP 1 K κ (gP 1 3 (jU lh))):=
 eH ci.F jK fun cdv A outer s H E B hr=>
 (aK (bP 1 jK.nd rfl (.inl rfl) rfl rfl (QP.e (cF bD)))
 (aK (oA 2 PassesOwn.never rfl jK.nd rfl (.inl rfl) rfl rfl (nN rfl aq (aH (QP.v (cU fN rfl ae boot_len (aH (aC 0) aP))) aP))
  (aK (bP 3 jK.nd rfl (.inl rfl) rfl rfl (QP.e (dY gz li hr rfl rfl (aH (cV (aC 0) (aC 2)) aP) (bA cJ))))
 (aK (bR (QT.e (nB (xV (bC (dQ (Room.units hr)) (aC 3) (QP.v aX) (bB _)) (wQ (bC xa3 (aC 2) (QP.v aF) (bB _))))))
  (aN (bM (QP.e (aV cG (aC 2) (QP.v aF)))))
  bH)
 (aK (bR (QT.e (bC zg2 (aC 3) (QP.v (cF (eY (.str (.str (.str .nil)))))) (by with_unfolding_all rfl)))
  (aK (bR (QT.e (bC (dQ (Room.units hr)) (QP.v (cU fN rfl ae boot_len (aH (aC 1) aP))) (QP.v aF) (bB _)))
  (aN (bM (QP.e (aV cG (aC 2) (QP.v aF)))))
  bH)
 (aN (eG (fG (j:=1) rfl (cD 1) (aQ (cF (aQ (QV.p (aC 3)) (aQ aF bD))) bD)))))
  bH)
 (aN (bR (QT.e (bC zg2 (aC 3) (QP.v (cF (eY (.str (.str (.str (.str .nil))))))) (by with_unfolding_all rfl)))
  (aK (bR (QT.e (nB (xV (bC (dQ (Room.units hr)) (QP.v (cU fN rfl ae boot_len (aH (aC 1) aP))) (QP.v aF) (bB _)) (wQ (bC (yj2 (Room.units hr)) (cV (cV (aC 1) (QP.v (hU (QP.v aF)))) (QP.v aF)) (QP.v (xl8 (wa2 hr) (xl9 (l:=[("]",(fC (.str "["))),("<",(fC (.str ">"))),("|",(fC (.str "{"))),("}",(fC (.str "{")))]) (uO aX aX (uO aX aX (uO aX aX (uO aX aX xk8)))) (by decide+kernel) (by decide)) (aC 3))) (bB _))))))
  (aN (bM (QP.e (aV cG (aC 2) (QP.v aF)))))
  bH)
 (aK (bR (QT.e (nB (xV (nB (jJ (bC (dQ (Room.units hr)) (aC 3) (QP.v aX) (bB _)) (jI (bC (dQ (Room.units hr)) (cV (cV (aC 1) (QP.v (hU (QP.v aF)))) (QP.v aF)) (QP.v aF) (bB _))))) (wQ (nB (jJ (bC (dQ (Room.units hr)) (aC 3) (QP.v aX) (bB _)) (jI (bC (dQ (Room.units hr)) (cV (cV (aC 1) (QP.v (hU (QP.v aF)))) (QP.v aF)) (QP.v aF) (bB _)))))))))
  (aN (bM (QP.e (aV cG (aC 2) (QP.v aF)))))
  bH)
 (aK (zs1 (j:=1) rfl (aV cG (cV (cV (aC 1) (QP.v (hU (QP.v aF)))) (QP.v aF)) (QP.v aF)) (iC (cD 1) (QP.v (hU (QP.v aF)))) (QP.v aF))
 (aN (bR (QT.e (bC (yj2 (Room.units hr)) (aC 3) (QP.v aX) (bB _)))
  (aN (eG (zs0 (j:=1) rfl (cD 1))))
  bH)))))
  bH))))))
 (aK (bR (QT.e (bC uQ (QP.v (cU fN rfl ae boot_len (aH (aC 1) aP))) (QP.v aF) (bB _)))
  (aN (bM (QP.e (aV cG (QP.v (cU fN rfl ae boot_len (aH (aC 0) aP))) (QP.v aF)))))
  bH)
 (aN (bM (QP.e aF))))))
def vY(ki:(List D->Option Int)):tz1:=
 (aR (bF 1 (aJ (fC .non)))
 (xi8 ki (fun _=>true) (aB (aA 0) aD)))
abbrev vZ:Stmt:=top 43
abbrev sA:List Str:=["_law_text"]
theorem vC:FnScope ["_law_text","_law_bad_here","e"] sA (aW vZ):=eK
theorem xc8(ja:Dn K mg "_law_bad" vZ sA f fd)
  (bz:Dn K mg "read" nQ iV j7 jf) (kj:FnOk P w K mg base (CXn P w base aa) n j7 jf iV (zV 1 K κ aa ki))
  (aw:NumI P w K mg base "NoPiece" aa)
  (dt:PySem.W.mroIn K aa (.ref aa)=some true)
  (d7:KExc K aa)
  (gg:KNum K aa)
  (j8:mg "NoChoice"=some (.ref i8))
  (lj:mg "NoRoom"=some (.ref j9))
  (b0:PySem.W.kitAny K (.ref aa) [.ref i8,.ref j9]=some false)
  (jn:mg "LineError"=some (.ref cr))
  (de:PySem.W.kitOne K (.ref aa) (.ref cr)=some true)
  (cz:PySem.W.kitOne K (.ref aa) (.type "ValueError")=some true)
  (bd:mg "isinstance"=none)
  (nk:mg "bool"=none)
  (jc:mg "ValueError"=none)
  (ii:mg "int"=none):
  FnOk P w K mg base CX0 (n+1) f fd sA (SpP 1 K κ (gP 1 2 (vY ki))):=
 eH ja.F vC fun cdv A outer s H E B hr=>
 (aK (bP 1 vC.nd rfl (.inl rfl) rfl rfl (QP.e tR))
 (xc3 bz kj aw aw dt hr rfl rfl rfl (aH (aC 0) aP) (bA cJ) rfl rfl vC.nd rfl rfl (by decide) rfl rfl (i:=2) (j:=1) (fun ea oe D n hok hc hd hw=>(xc6 rfl (Or.inl rfl) (ye2 qW hc d7 rfl bd rfl (Or.inl rfl) (qT (v:= .ref cr) rfl jn rfl) (fun u h=>by cases h;exact de)) (ye2 qW hc d7 rfl bd rfl (Or.inl rfl) (xR rfl jc rfl (v:= .ty "ValueError") rfl) (fun u h=>by cases h;exact cz)) (xb7 qW hc d7 rfl bd rfl (Or.inl rfl) (qT (v:= .ref i8) rfl j8 rfl) (qT (v:= .ref j9) rfl lj rfl) (fun us h=>by cases h with|cons h1 h2=>cases h2 with|cons h3 h4=>cases h4;cases h1;cases h3;exact b0)) (zu2 (yk7 qW hc hd hw gg rfl (Or.inl rfl)) rfl bd (xR rfl ii rfl (v:= .ty "int") rfl) rfl (by decide)) (zu2 (yk7 qW hc hd hw gg rfl (Or.inl rfl)) rfl bd (xR rfl nk rfl (v:= .ty "bool") rfl) rfl (by decide)) (yk7 qW hc hd hw gg rfl (Or.inl rfl))))))
def zz2(ll:(tz6))(ax:(tz6))(jo:(tz6))(lm:(tz6))(iw:(tz6))(mm:(tz6))(av:(tz6))(lp:(tz6)):tz1:=
 (aR (bF 1 (aJ (aG ll (aB (aA 0) aD))))
 (aR (dS 2 (dP (aB (f2 dIx (bI (fKs [.int 0,.int 1,.int 1,.int 2,.int 3])) (f2 cW (aG ax (aB (aA 0) (aB (fC (.int 2)) (aB (fC (.int 43)) aD)))) (fC (.int 5)))) aD))
  (bF 1 (aJ (aG jo (aB (aA 1) (aB (aG ax (aB (aA 0) (aB (f2 aZ (fC (.int 3)) (aA 2)) (aB (fC (.int 44)) aD)))) aD))))))
 (aR (bF 3 (aJ (fMt sR (fC (.str " ")) (aB (aA 1) aD))))
 (aR (bF 4 (aJ (aG ax (aB (aA 0) (aB (fC (.int 4)) (aB (fC (.int 45)) aD))))))
 (aR (bF 5 (aJ (f2 cW (f2 eP (aA 4) (fC (.int 600))) (f2 aZ (aG bU (aB (aA 3) aD)) (fC (.int 1))))))
 (aR (fIf (aL (fB (f2 dEq (f2 cW (aA 4) (fC (.int 6))) (fC (.int 0)))))
  (bF 3 (aJ (f2 aZ (f2 aZ (fSl (aA 3) bL (bX (aA 5))) (aG lm (aB (f2 eP (aA 4) (fC (.int 6))) aD))) (fSl (aA 3) (bX (aA 5)) bL))))
  aY)
 (aR (fIf (aL (fB (f2 dEq (f2 cW (aA 4) (fC (.int 6))) (fC (.int 1)))))
  (bF 3 (aJ (f2 aZ (fSl (aA 3) bL (bX (aA 5))) (fSl (aA 3) (bX (f2 aZ (aA 5) (fC (.int 1)))) bL))))
  aY)
 (aR (bF 6 (aJ (bI aD)))
 (aR (fIf (aL (fB (f2 dNe (aA 3) (fC (.str "")))))
  (bF 6 (aJ (fMt pV (aA 3) (aB (fC (.str " ")) aD))))
  aY)
 (aR (bF 7 (aJ (aG iw (aB (aA 6) aD))))
 (aR (fIf (aL (fB (f2 dGt (aA 7) (fC (.int 0)))))
  (cA (aJ (f2 dEq (aG mm (aB (aA 3) aD)) (aA 7))))
  aY)
 (cA (aJ (f2 dEq (fMt sR (fC (.str " ")) (aB (aG av (aB (aG lp (aB (aA 3) aD)) aD)) aD)) (aA 3)))))))))))))))
abbrev zz3:Stmt:=top 44
abbrev zz4:List Str:=["_law_script"]
theorem jL:FnScope ["_law_script","_law_some","_law_k","_law_text","_law_number","_law_at","_law_parts","_law_due"] zz4 (aW zz3):=eK
theorem xu2(pj:Dn K mg "law" zz3 zz4 f fd)
  (gx:Dn K mg "_law_list" qA qB no my) (lq:FnOk P w K mg base CX0 n no my qB (SpP 1 K κ ll))
  (bb:Dn K mg "_law_mixed" mW kP f8 dw) (bn:FnOk P w K mg base CX0 n f8 dw kP (SpP 3 K κ ax))
  (dj:Dn K mg "_law_changed" oU mG lb km) (jp:FnOk P w K mg base CX0 n lb km mG (SpP 2 K κ jo))
  (gy:Dn K mg "_law_sign" sV qC nq mz) (lr:FnOk P w K mg base CX0 n nq mz qC (SpP 1 K κ lm))
  (ci:Dn K mg "_law_first_bad" mY jV kg js) (iy:FnOk P w K mg base CX0 n kg js jV (SpP 1 K κ iw))
  (ja:Dn K mg "_law_bad" vZ sA ph nr) (mn:FnOk P w K mg base CX0 n ph nr sA (SpP 1 K κ mm))
  (ay:Dn K mg "_law_listed" nH hZ i7 ij) (br:FnOk P w K mg base CX0 n i7 ij hZ (SpP 1 K κ av))
  (bz:Dn K mg "read" nQ iV j7 jf) (lu:FnOk P w K mg base CX0 n j7 jf iV (SpP 1 K κ lp))
  (aq:mg "range"=none)
  (ae:mg "len"=none):
  FnOk P w K mg base CX0 (n+1) f fd zz4 (SpP 1 K κ (gP 1 7 (zz2 ll ax jo lm iw mm av lp))):=
 eH pj.F jL fun cdv A outer s H E B hr=>
 (aK (bP 1 jL.nd rfl (.inl rfl) rfl rfl (QP.e (dY gx lq hr rfl rfl (aH (aC 0) aP) (bA cJ))))
 (aK (oA 2 PassesOwn.never rfl jL.nd rfl (.inl rfl) rfl rfl (nN rfl aq (aH (QP.v (nZ (cF (eY (.int (.int (.int (.int (.int .nil))))))) (QP.v (aV eJ (QP.v (dY bb bn hr rfl rfl (aH (aC 0) (aH (QP.v aF) (aH (QP.v aF) aP))) (bA (bA (bA cJ))))) (QP.v aF))))) aP))
  (aN (bP 1 jL.nd rfl (.inl rfl) rfl rfl (QP.e (dY dj jp hr rfl rfl (aH (aC 1) (aH (QP.v (dY bb bn hr rfl rfl (aH (aC 0) (aH (QP.v (aV cG (QP.v aF) (aC 2))) (aH (QP.v aF) aP))) (bA (bA (bA cJ))))) aP)) (bA (bA cJ)))))))
 (aK (bP 3 jL.nd rfl (.inl rfl) rfl rfl (QP.e (uS PySem.F.slot_str_join PySem.F.type_str_join ys0 (QP.v aX) (aH (aC 1) aP))))
 (aK (bP 4 jL.nd rfl (.inl rfl) rfl rfl (QP.e (dY bb bn hr rfl rfl (aH (aC 0) (aH (QP.v aF) (aH (QP.v aF) aP))) (bA (bA (bA cJ))))))
 (aK (bP 5 jL.nd rfl (.inl rfl) rfl rfl (QP.e (aV eJ (QP.v (aV iQ (aC 4) (QP.v aF))) (QP.v (aV cG (QP.v (cU fN rfl ae boot_len (aH (aC 3) aP))) (QP.v aF))))))
 (aK (bR (QT.e (bC (dQ (Room.units hr)) (QP.v (aV eJ (aC 4) (QP.v aF))) (QP.v aF) (bB _)))
  (aN (bP 3 jL.nd rfl (.inl rfl) rfl rfl (QP.e (aV cG (QP.v (aV cG (QP.v (dF (aC 3) eC (dL (aC 5)))) (QP.v (dY gy lr hr rfl rfl (aH (QP.v (aV iQ (aC 4) (QP.v aF))) aP) (bA cJ))))) (QP.v (dF (aC 3) (dL (aC 5)) eC))))))
  bH)
 (aK (bR (QT.e (bC (dQ (Room.units hr)) (QP.v (aV eJ (aC 4) (QP.v aF))) (QP.v aF) (bB _)))
  (aN (bP 3 jL.nd rfl (.inl rfl) rfl rfl (QP.e (aV cG (QP.v (dF (aC 3) eC (dL (aC 5)))) (QP.v (dF (aC 3) (dL (QP.v (aV cG (aC 5) (QP.v aF)))) eC))))))
  bH)
 (aK (bP 6 jL.nd rfl (.inl rfl) rfl rfl (QP.e (cF bD)))
 (aK (bR (QT.e (bC (yj2 (Room.units hr)) (aC 3) (QP.v aX) (bB _)))
  (aN (bP 6 jL.nd rfl (.inl rfl) rfl rfl (QP.e (uS PySem.F.slot_str_split PySem.F.type_str_split yd1 (aC 3) (aH (QP.v aX) aP)))))
  bH)
 (aK (bP 7 jL.nd rfl (.inl rfl) rfl rfl (QP.e (dY ci iy hr rfl rfl (aH (aC 6) aP) (bA cJ))))
 (aK (bR (QT.e (bC uQ (aC 7) (QP.v aF) (bB _)))
  (aN (bM (QP.e (nE (dQ (Room.units hr)) (QP.v (dY ja mn hr rfl rfl (aH (aC 3) aP) (bA cJ))) (aC 7) (bB _)))))
  bH)
 (aN (bM (QP.e (nE (dQ (Room.units hr)) (QP.v (uS PySem.F.slot_str_join PySem.F.type_str_join ys0 (QP.v aX) (aH (QP.v (dY ay br hr rfl rfl (aH (QP.v (dY bz lu hr rfl rfl (aH (aC 3) aP) (bA cJ))) aP) (bA cJ))) aP))) (aC 3) (bB _))))))))))))))))
def sB:tz1:=
 (aR (jQ 0 bS "Nest" "opener" (dI (aA 1)))
 (aR (jQ 0 bS "Nest" "ended" (bI aD))
 (jQ 0 bS "Nest" "pieces" (bI aD))))
abbrev mH:Stmt:=lC (top 17) 0
abbrev iH:List Str:=["self","opener"]
theorem xA:FnScope ["self","opener"] iH (aW mH):=eK
theorem zu8(gh:Kn K mg κ "Nest" "Nest.__init__" mH iH f fd)
  (ah:Cls K (κ "Nest"))
  (b7:cY K (κ "Nest") "opener")
  (b4:cY K (κ "Nest") "ended")
  (al:cY K (κ "Nest") "pieces"):
  FnOk P w K mg base CX0 (n+1) f fd iH (SpE 2 K κ (dE [true,false]) (gE 2 0 (dE [true,false]) (sB))):=
 xX gh.F xA (fun i hi=>oZ hi) fun cdv A outer s H E hr=>
 (aK (lS (C:="Nest") ah b7 rfl (QV.p (aC 1)) (cD 0))
 (aK (lS (C:="Nest") ah b4 rfl (cF bD) (cD 0))
 (aN (lS (C:="Nest") ah al rfl (cF bD) (cD 0)))))
def oV:tz1:=
 (aR (cN (dG 0 (iN 0 bS "Nest" "ended") (aB (aG gB (aB (eD "Nest" "pieces" (aA 0)) aD)) aD) cK))
 (jQ 0 bS "Nest" "pieces" (bI aD)))
abbrev lK:Stmt:=lC (top 17) 1
abbrev iW:List Str:=["self"]
theorem sL:FnScope ["self"] iW (aW lK):=eK
theorem zb5(ca:Mn K κ "Nest" "end_row" "Nest.end_row" lK iW f fd)
  (ah:Cls K (κ "Nest"))
  (al:cY K (κ "Nest") "pieces")
  (b4:cY K (κ "Nest") "ended")
  (ar:mg "tuple"=none):
  FnOk P w K mg base CX0 (n+1) f fd iW (SpE 1 K κ (dE [true]) (gE 1 0 (dE [true]) (oV))):=
 xX ca.F sL (fun i hi=>oZ hi) fun cdv A outer s H E hr=>
 (aK (eG (fG (j:=0) rfl (jZ (C:="Nest") ah b4 (cD 0)) (aQ (eX mL rfl ar boot_tuple (aH (gI (C:="Nest") ah al (aC 0)) aP)) bD)))
 (aN (lS (C:="Nest") ah al rfl (cF bD) (cD 0))))
def cT:tz1:=
 (aR (fIf (aL (fB (f2 dNe (f2 dIx (eD "Nest" "opener" (aA 0)) (fC (.int 0))) (f2 rX (fC (.dic false dN jT)) (aA 1)))))
  (cA (aJ (fC (.bl false))))
  aY)
 (aR (bF 2 (aJ (f2 aZ (aG bU (aB (eD "Nest" "ended" (aA 0)) aD)) (fC (.int 1)))))
 (aR (fIf (aL (fB (f2 dEq (aA 1) (fC (.str "or")))))
  (cA (aJ (f2 dLt (aA 2) (fC (.int 4)))))
  aY)
 (aR (fIf (aL (fB (f2 dEq (aA 1) (fC (.str "done")))))
  (cA (aJ (f2 dGe (aA 2) (fC (.int 2)))))
  aY)
 (cA (aJ (fC (.bl true))))))))
abbrev iX:Stmt:=lC (top 17) 2
abbrev gT:List Str:=["self","kind"]
theorem lU:FnScope ["self","kind","count"] gT (aW iX):=eK
theorem xB(bu:Mn K κ "Nest" "can_end_by" "Nest.can_end_by" iX gT f fd)
  (ah:Cls K (κ "Nest"))
  (b7:cY K (κ "Nest") "opener")
  (b4:cY K (κ "Nest") "ended")
  (ae:mg "len"=none)
  (iz:mg "FEWEST_ROWS"=some (.int 2 rz))
  (jq:mg "MOST_ROWS"=some (.int 4 su))
  (bg:mg "OPENER_OF"=some (.ref bh)) (bi:vR P w K κ bh dN jT):
  FnOk P w K mg base CX0 (n+1) f fd gT (SpP 2 K κ (gP 2 1 (cT))):=
 eH bu.F lU fun cdv A outer s H E B hr=>
 (aK (bR (QT.e (bC (yj2 (Room.units hr)) (cV (gI (C:="Nest") ah b7 (aC 0)) (QP.v aF)) (yd6 rfl bg bi (aC 1)) (bB _)))
  (aN (bM (QP.e sG)))
  bH)
 (aK (bP 2 lU.nd rfl (.inl rfl) rfl rfl (QP.e (aV cG (QP.v (cU fN rfl ae boot_len (aH (gI (C:="Nest") ah b4 (aC 0)) aP))) (QP.v aF))))
 (aK (bR (QT.e (bC (dQ (Room.units hr)) (aC 1) (QP.v aX) (bB _)))
  (aN (bM (QP.e (nE (tG (Room.units0 hr)) (aC 2) (QP.v (iO (v:= .int 4) (d:= .int 4) rfl jq ⟨_,rfl⟩ (fun _=> .int 4))) (bB _)))))
  bH)
 (aK (bR (QT.e (bC (dQ (Room.units hr)) (aC 1) (QP.v aX) (bB _)))
  (aN (bM (QP.e (nE xa3 (aC 2) (QP.v (iO (v:= .int 2) (d:= .int 2) rfl iz ⟨_,rfl⟩ (fun _=> .int 2))) (bB _)))))
  bH)
 (aN (bM (QP.e sG)))))))
def iI:tz1:=
 (aR (bF 1 (aJ (dI (f2 dIx (eD "Nest" "opener" (aA 0)) (fC (.int 0))))))
 (aR (bF 2 (aJ (aG gB (aB (eD "Nest" "pieces" (aA 0)) aD))))
 (aR (fIf (aL (fB (f2 dEq (aA 1) (fC (.str "open")))))
  (cA (aJ (gF (aB (fC (.str "group")) (aB (dI (aA 2)) aD)))))
  aY)
 (aR (fIf (aL (fB (f2 dEq (aA 1) (fC (.str "hang")))))
  (cA (aJ (gF (aB (fC (.str "hang")) (aB (dI (f2 dIx (eD "Nest" "opener" (aA 0)) (fC (.int 1)))) (aB (dI (aA 2)) aD))))))
  aY)
 (cA (aJ (gF (aB (fC (.str "either")) (aB (aG gB (aB (f2 aZ (eD "Nest" "ended" (aA 0)) (bI (aB (dI (aA 2)) aD))) aD)) aD)))))))))
abbrev kQ:Stmt:=lC (top 17) 3
abbrev iJ:List Str:=["self"]
theorem kJ:FnScope ["self","kind","row"] iJ (aW kQ):=eK
theorem zK(bx:Mn K κ "Nest" "as_piece" "Nest.as_piece" kQ iJ f fd)
  (ah:Cls K (κ "Nest"))
  (b7:cY K (κ "Nest") "opener")
  (al:cY K (κ "Nest") "pieces")
  (b4:cY K (κ "Nest") "ended")
  (ar:mg "tuple"=none):
  FnOk P w K mg base CX0 (n+1) f fd iJ (SpP 1 K κ (gP 1 2 (iI))):=
 eH bx.F kJ fun cdv A outer s H E B hr=>
 (aK (bP 1 kJ.nd rfl (.inl rfl) rfl rfl (QP.e (QV.p (cV (gI (C:="Nest") ah b7 (aC 0)) (QP.v aF)))))
 (aK (bP 2 kJ.nd rfl (.inl rfl) rfl rfl (QP.e (eX mL rfl ar boot_tuple (aH (gI (C:="Nest") ah al (aC 0)) aP))))
 (aK (bR (QT.e (bC (dQ (Room.units hr)) (aC 1) (QP.v aX) (bB _)))
  (aN (bM (QP.e (hV (aQ aX (aQ (QV.p (aC 2)) bD))))))
  bH)
 (aK (bR (QT.e (bC (dQ (Room.units hr)) (aC 1) (QP.v aX) (bB _)))
  (aN (bM (QP.e (hV (aQ aX (aQ (QV.p (cV (gI (C:="Nest") ah b7 (aC 0)) (QP.v aF))) (aQ (QV.p (aC 2)) bD)))))))
  bH)
 (aN (bM (QP.e (hV (aQ aX (aQ (eX mL rfl ar boot_tuple (aH (QP.v (aV cG (gI (C:="Nest") ah b4 (aC 0)) (QP.v (cF (aQ (QV.p (aC 2)) bD))))) aP)) bD))))))))))
def lL(cu:(tz7)):tz1:=
 (aR (jQ 0 bS "Builder" "taken" (fC (.int 0)))
 (jQ 0 bS "Builder" "nests" (bI (aB (oP "Nest" (fH [.im (gF (aB (fC (.str "row")) aD))]) cu) aD))))
abbrev st_Builder_init:Stmt:=lC (top 18) 0
abbrev ps_Builder_init:List Str:=["self"]
theorem sM:FnScope ["self"] ps_Builder_init (aW st_Builder_init):=eK
theorem zb6(cj:Kn K mg κ "Builder" "Builder.__init__" st_Builder_init ps_Builder_init f fd)
  (gh:Kn K mg κ "Nest" "Nest.__init__" mH iH ik gi) (dk:FnOk P w K mg base CX0 n ik gi iH (SpE 2 K κ (dE [true,false]) cu))
  (ac:Cls K (κ "Builder"))
  (ao:cY K (κ "Builder") "taken")
  (ai:cY K (κ "Builder") "nests"):
  FnOk P w K mg base CX0 ((n+1)+1) f fd ps_Builder_init (SpE 1 K κ (dE [true]) (gE 1 0 (dE [true]) (lL cu))):=
 xX cj.F sM (fun i hi=>oZ hi) fun cdv A outer s H E hr=>
 (aK (lS (C:="Builder") ac ao rfl aF (cD 0))
 (aN (lS (C:="Builder") ac ai rfl (cF (aQ (yd9 gh dk hr rfl (pR (QP.v (hV (aQ aX bD))) lA) rfl rfl (kG 1)) bD)) (cD 0))))
def fE(d9:(tz6)):tz1:=
 (aR (fIf (aL (fB (f2 dGe (eD "Builder" "taken" (aA 0)) (fC (.int 200)))))
  (cA (aJ (fC (.bl false))))
  aY)
 (aR (fIf (aL (fB (f2 dIn (aA 1) (fC (.tup [(.str "open"),(.str "hang"),(.str "either")])))))
  (cA (aJ (f2 dLt (f2 eO (aG bU (aB (eD "Builder" "nests" (aA 0)) aD)) (fC (.int 1))) (fC (.int 12)))))
  aY)
 (aR (fIf (aL (pF dN (aA 1)))
  (cA (aJ (aG d9 (aB (fP "Nest" "can_end_by" (f2 dIx (eD "Builder" "nests" (aA 0)) (dR (fC (.int 1))))) (aB (aA 1) aD)))))
  aY)
 (cA (aJ (fC (.bl true)))))))
abbrev gC:Stmt:=lC (top 18) 1
abbrev eM:List Str:=["self","kind"]
theorem oG:FnScope ["self","kind"] eM (aW gC):=eK
theorem vD(aj:Mn K κ "Builder" "can_stand" "Builder.can_stand" gC eM f fd)
  (bu:Mn K κ "Nest" "can_end_by" "Nest.can_end_by" iX gT i6 il) (eh:FnOk P w K mg base CX0 n i6 il gT (SpP 2 K κ d9))
  (ac:Cls K (κ "Builder"))
  (ao:cY K (κ "Builder") "taken")
  (ai:cY K (κ "Builder") "nests")
  (ae:mg "len"=none)
  (kn:mg "DEEPEST"=some (.int 12 ue))
  (i4:mg "MOST_TOKENS"=some (.int 200 r9))
  (c5:mg "OPENERS"=some (.ref b8)) (c6:∀H,Rep K κ H (.ref b8) (.tup [(.str "open"),(.str "hang"),(.str "either")]) [])
  (bg:mg "OPENER_OF"=some (.ref bh)) (bi:vR P w K κ bh dN jT):
  FnOk P w K mg base CX0 (n+1) f fd eM (SpP 2 K κ (gP 2 0 (fE d9))):=
 eH aj.F oG fun cdv A outer s H E B hr=>
 (aK (bR (QT.e (bC xa3 (gI (C:="Builder") ac ao (aC 0)) (QP.v (iO (v:= .int 200) (d:= .int 200) rfl i4 ⟨_,rfl⟩ (fun _=> .int 200))) (bB _)))
  (aN (bM (QP.e sG)))
  bH)
 (aK (bR (QT.e (bC zg2 (aC 1) (QP.v (iO (v:= .ref b8) (d:=(.tup [(.str "open"),(.str "hang"),(.str "either")])) rfl c5 rfl c6)) (by with_unfolding_all rfl)))
  (aN (bM (QP.e (nE (tG (Room.units0 hr)) (QP.v (aV wa5 (QP.v (cU fN rfl ae boot_len (aH (gI (C:="Builder") ac ai (aC 0)) aP))) (QP.v aF))) (QP.v (iO (v:= .int 12) (d:= .int 12) rfl kn ⟨_,rfl⟩ (fun _=> .int 12))) (bB _)))))
  bH)
 (aK (bR (QT.e (zt3 rfl bg bi (aC 1)))
  (aN (bM (QP.e (zh0 bu eh hr (cV (gI (C:="Builder") ac ai (aC 0)) (QP.v (hU (QP.v aF)))) rfl (aH (aC 1) aP) (bA cJ)))))
  bH)
 (aN (bM (QP.e sG))))))
def jW(au:(tz6))(cu:(tz7))(ia:(tz7))(gj:(tz6)):tz1:=
 (aR (bF 2 (aJ (dI (f2 dIx (aA 1) (fC (.int 0))))))
 (aR (fIf (aL (mS (fT (aG au (aB (fP "Builder" "can_stand" (aA 0)) (aB (aA 2) aD))))))
  lY
  aY)
 (aR (jQ 0 bS "Builder" "taken" (f2 aZ (eD "Builder" "taken" (aA 0)) (fC (.int 1))))
 (fIf (aL (fB (f2 dIn (aA 2) (fC (.tup [(.str "open"),(.str "hang"),(.str "either")])))))
  (cN (dG 0 (iN 0 bS "Builder" "nests") (aB (oP "Nest" (fH [.im (aA 1)]) cu) aD) cK))
  (fIf (aL (fB (f2 dEq (aA 2) (fC (.str "or")))))
  (cN (dG 0 (fL 0 (iN 0 bS "Builder" "nests") (dR (fC (.int 1)))) aD (nJ "Nest" "end_row" ia)))
  (fIf (aL (pF dN (aA 2)))
  (aR (bF 3 (dG 0 (iN 0 bS "Builder" "nests") aD qK))
 (cN (dG 0 (iN 0 (fL 0 (iN 0 bS "Builder" "nests") (dR (fC (.int 1)))) "Nest" "pieces") (aB (aG gj (aB (fP "Nest" "as_piece" (aA 3)) aD)) aD) cK)))
  (cN (dG 0 (iN 0 (fL 0 (iN 0 bS "Builder" "nests") (dR (fC (.int 1)))) "Nest" "pieces") (aB (dI (aA 1)) aD) cK))))))))
abbrev st_Builder_add:Stmt:=lC (top 18) 2
abbrev ps_Builder_add:List Str:=["self","token"]
theorem iA:FnScope ["self","token","kind","nest"] ps_Builder_add (aW st_Builder_add):=eK
theorem zh7(am:Mn K κ "Builder" "add" "Builder.add" st_Builder_add ps_Builder_add f fd)
  (aj:Mn K κ "Builder" "can_stand" "Builder.can_stand" gC eM cg b6) (bc:FnOk P w K mg base CX0 (n+1) cg b6 eM (SpP 2 K κ au))
  (gh:Kn K mg κ "Nest" "Nest.__init__" mH iH ik gi) (dk:FnOk P w K mg base CX0 n ik gi iH (SpE 2 K κ (dE [true,false]) cu))
  (ca:Mn K κ "Nest" "end_row" "Nest.end_row" lK iW jt jg) (ib:FnOk P w K mg base CX0 (n+1) jt jg iW (SpE 1 K κ (dE [true]) ia))
  (bx:Mn K κ "Nest" "as_piece" "Nest.as_piece" kQ iJ jh jd) (gk:FnOk P w K mg base CX0 (n+1) jh jd iJ (SpP 1 K κ gj))
  (ac:Cls K (κ "Builder"))
  (ah:Cls K (κ "Nest"))
  (ao:cY K (κ "Builder") "taken")
  (ai:cY K (κ "Builder") "nests")
  (al:cY K (κ "Nest") "pieces")
  (c5:mg "OPENERS"=some (.ref b8)) (c6:∀H,Rep K κ H (.ref b8) (.tup [(.str "open"),(.str "hang"),(.str "either")]) [])
  (bg:mg "OPENER_OF"=some (.ref bh)) (bi:vR P w K κ bh dN jT):
  FnOk P w K mg base CX0 ((n+1)+1) f fd ps_Builder_add (SpE 2 K κ (dE [true,false]) (gE 2 2 (dE [true,false]) (jW au cu ia gj))):=
 xX am.F iA (fun i hi=>oZ hi) fun cdv A outer s H E hr=>
 (aK (bP 2 iA.nd rfl (.inl rfl) rfl rfl (QP.e (QV.p (cV (aC 1) (QP.v aF)))))
 (aK (bR (QT.e (zr2 (nF (QP.v (zh0 aj bc hr (aC 0) rfl (aH (aC 2) aP) (bA cJ))))))
  (aN uT)
  bH)
 (aK (lS (C:="Builder") ac ao rfl (aV cG (gI (C:="Builder") ac ao (aC 0)) (QP.v aF)) (cD 0))
 (aN (bR (QT.e (bC zg2 (aC 2) (QP.v (iO (v:= .ref b8) (d:=(.tup [(.str "open"),(.str "hang"),(.str "either")])) rfl c5 rfl c6)) (by with_unfolding_all rfl)))
  (aN (eG (fG (j:=0) rfl (jZ (C:="Builder") ac ai (cD 0)) (aQ (yd9 gh dk hr rfl (pR (aC 1) lA) rfl rfl (kG 1)) bD))))
  (aN (bR (QT.e (bC (dQ (Room.units hr)) (aC 2) (QP.v aX) (bB _)))
  (aN (eG (xb4 ca ib hr rfl (iC (jZ (C:="Builder") ac ai (cD 0)) (QP.v (hU (QP.v aF)))) (kG 0))))
  (aN (bR (QT.e (zt3 rfl bg bi (aC 2)))
  (aK (bP 3 iA.nd rfl (.inl rfl) rfl rfl (zs0 (j:=0) rfl (jZ (C:="Builder") ac ai (cD 0))))
 (aN (eG (fG (j:=0) rfl (jZ (C:="Nest") ah al (iC (jZ (C:="Builder") ac ai (cD 0)) (QP.v (hU (QP.v aF))))) (aQ (zG bx gk hr (aC 3)) bD)))))
  (aN (eG (fG (j:=0) rfl (jZ (C:="Nest") ah al (iC (jZ (C:="Builder") ac ai (cD 0)) (QP.v (hU (QP.v aF))))) (aQ (QV.p (aC 1)) bD)))))))))))))
def iY(au:(tz6)):PSt->Option Int:=
 (mV (bF 2 (aJ (dI (f2 dIx (aA 1) (fC (.int 0))))))
 (qL (mS (fT (aG au (aB (fP "Builder" "can_stand" (aA 0)) (aB (aA 2) aD))))) (jR (f2 aZ (eD "Builder" "taken" (aA 0)) (fC (.int 1))))))
theorem zb7(am:Mn K κ "Builder" "add" "Builder.add" st_Builder_add ps_Builder_add f fd)
  (aj:Mn K κ "Builder" "can_stand" "Builder.can_stand" gC eM cg b6) (bc:FnOk P w K mg base CX0 (n+2) cg b6 eM (SpP 2 K κ au))
  (aw:NumI P w K mg base "NoPiece" aa)
  (ac:Cls K (κ "Builder"))
  (ah:Cls K (κ "Nest"))
  (ao:cY K (κ "Builder") "taken")
  (ai:cY K (κ "Builder") "nests")
  (al:cY K (κ "Nest") "pieces")
  (c5:mg "OPENERS"=some (.ref b8)) (c6:∀H,Rep K κ H (.ref b8) (.tup [(.str "open"),(.str "hang"),(.str "either")]) [])
  (bg:mg "OPENER_OF"=some (.ref bh)) (bi:vR P w K κ bh dN jT):
  FnOk P w K mg base (CXn P w base aa) ((n+2)+1) f fd ps_Builder_add (vS 2 K κ (dE [true,false]) aa (gN 2 2 (iY au))):=
 ye4 am.F iA fun cdv A outer s H E hr=>
 (yA (bP 2 iA.nd rfl (.inl rfl) rfl rfl (QP.e (QV.p (cV (aC 1) (QP.v aF)))))
 (mQ (yk2 (zr2 (nF (QP.v (zh0 aj bc hr (aC 0) rfl (aH (aC 2) aP) (bA cJ))))) (mQ (zI aw rfl hr (QP.v (aV cG (gI (C:="Builder") ac ao (aC 0)) (QP.v aF))))))))
def nR:tz1:=
 (cA (aJ (aG gB (aB (eD "Nest" "pieces" (f2 dIx (eD "Builder" "nests" (aA 0)) (fC (.int 0)))) aD))))
abbrev gW:Stmt:=lC (top 18) 3
abbrev fV:List Str:=["self"]
theorem nP:FnScope ["self"] fV (aW gW):=eK
theorem tY(az:Mn K κ "Builder" "row_so_far" "Builder.row_so_far" gW fV f fd)
  (ac:Cls K (κ "Builder"))
  (ah:Cls K (κ "Nest"))
  (al:cY K (κ "Nest") "pieces")
  (ai:cY K (κ "Builder") "nests")
  (ar:mg "tuple"=none):
  FnOk P w K mg base CX0 (n+1) f fd fV (SpP 1 K κ (gP 1 0 (nR))):=
 eH az.F nP fun cdv A outer s H E B hr=>
 (aN (bM (QP.e (eX mL rfl ar boot_tuple (aH (gI (C:="Nest") ah al (cV (gI (C:="Builder") ac ai (aC 0)) (QP.v aF))) aP)))))
def kR(df:(tz6)):tz1:=
 (aR (fIf (aL (fB (f2 dGt (aG bU (aB (eD "Builder" "nests" (aA 0)) aD)) (fC (.int 1)))))
  lY
  aY)
 (cA (aJ (aG df (aB (fP "Builder" "row_so_far" (aA 0)) aD)))))
abbrev st_Builder_whole_row:Stmt:=lC (top 18) 4
abbrev ps_Builder_whole_row:List Str:=["self"]
theorem kK:FnScope ["self"] ps_Builder_whole_row (aW st_Builder_whole_row):=eK
theorem vE(af:Mn K κ "Builder" "whole_row" "Builder.whole_row" st_Builder_whole_row ps_Builder_whole_row f fd)
  (az:Mn K κ "Builder" "row_so_far" "Builder.row_so_far" gW fV gl f9) (dh:FnOk P w K mg base CX0 n gl f9 fV (SpP 1 K κ df))
  (ac:Cls K (κ "Builder"))
  (ai:cY K (κ "Builder") "nests")
  (ae:mg "len"=none):
  FnOk P w K mg base CX0 (n+1) f fd ps_Builder_whole_row (SpP 1 K κ (gP 1 0 (kR df))):=
 eH af.F kK fun cdv A outer s H E B hr=>
 (aK (bR (QT.e (bC uQ (QP.v (cU fN rfl ae boot_len (aH (gI (C:="Builder") ac ai (aC 0)) aP))) (QP.v aF) (bB _)))
  (aN uT)
  bH)
 (aN (bM (QP.e (zG az dh hr (aC 0))))))
def fW:PSt->Option Int:=
 (qL (fB (f2 dGt (aG bU (aB (eD "Builder" "nests" (aA 0)) aD)) (fC (.int 1)))) (jR (f2 aZ (eD "Builder" "taken" (aA 0)) (fC (.int 1)))))
theorem tZ(af:Mn K κ "Builder" "whole_row" "Builder.whole_row" st_Builder_whole_row ps_Builder_whole_row f fd)
  (aw:NumI P w K mg base "NoPiece" aa)
  (ac:Cls K (κ "Builder"))
  (ai:cY K (κ "Builder") "nests")
  (ao:cY K (κ "Builder") "taken")
  (ae:mg "len"=none):
  FnOk P w K mg base (CXn P w base aa) ((n+2)+1) f fd ps_Builder_whole_row (zV 1 K κ aa (gN 1 0 (fW))):=
 ye3 af.F kK fun cdv A outer s H E B hr=>
 (mQ (yk2 (bC uQ (QP.v (cU fN rfl ae boot_len (aH (gI (C:="Builder") ac ai (aC 0)) aP))) (QP.v aF) (bB _)) (mQ (zI aw rfl hr (QP.v (aV cG (gI (C:="Builder") ac ao (aC 0)) (QP.v aF)))))))
abbrev sX:Stmt:=lC (top 4) 0
theorem zb8:FnScope ["self","at"] ["self","at"] (aW sX):=eK
end L3
namespace My
open PySem PySem.Spec PyProof.Rows L2 L3
def dW:Leaf->D
 | .word x=> .tup [.str "word",.str x]
 | .gap x=> .tup [.str "gap",.str x]
 | .stop c=> .tup [.str "stop",.int c]
 | .fin=> .tup [.str "end"]
def tkD:Tk->D
 | .leaf l=>dW l
 | .opn=> .tup [.str "open"]
 | .cls=> .tup [.str "close"]
 | .hng n=> .tup [.str "hang",.int n]
 | .bck=> .tup [.str "back"]
 | .eit=> .tup [.str "either"]
 | .orr=> .tup [.str "or"]
 | .don=> .tup [.str "done"]
mutual
def pcD:Pc->D
 | .leaf l=>dW l
 | .group r=> .tup [.str "group",.tup (pcsD r)]
 | .hang n r=> .tup [.str "hang",.int n,.tup (pcsD r)]
 | .either rs=> .tup [.str "either",.tup (rowsD rs)]
def pcsD:List Pc->List D
 |[]=>[]
 |p::r=>pcD p::pcsD r
def rowsD:List (List Pc)->List D
 |[]=>[]
 |r::rs=> .tup (pcsD r)::rowsD rs
end
theorem zL(l:Leaf):(dW l).imm=true:=by cases l<;>rfl
theorem xC(t:Tk):(tkD t).imm=true:=by cases t<;>first|rfl|exact zL _
theorem rH:∀a b:List D,D.imms (a++b)=(D.imms a&&D.imms b)
 |[],b=>by simp [D.imms]
 |x::a,b=>by simp [D.imms,rH a b,Bool.and_assoc]
mutual
theorem xD:∀p:Pc,(pcD p).imm=true
 | .leaf l=>zL l
 | .group r=>by show(D.imm (.str "group")&&(D.imm (.tup (pcsD r))&&D.imms []))=true;rw [show D.imm (.tup (pcsD r))=D.imms (pcsD r) from rfl,pcs_imm r];rfl
 | .hang n r=>by show(D.imm (.str "hang")&&(D.imm (.int n)&&(D.imm (.tup (pcsD r))&&D.imms [])))=true;rw [show D.imm (.tup (pcsD r))=D.imms (pcsD r) from rfl,pcs_imm r];rfl
 | .either rs=>by show(D.imm (.str "either")&&(D.imm (.tup (rowsD rs))&&D.imms []))=true;rw [show D.imm (.tup (rowsD rs))=D.imms (rowsD rs) from rfl,rows_imm rs];rfl
theorem pcs_imm:∀r:List Pc,D.imms (pcsD r)=true
 |[]=>rfl
 |p::r=>by show(D.imm (pcD p)&&D.imms (pcsD r))=true;rw [xD p,pcs_imm r];rfl
theorem rows_imm:∀rs:List (List Pc),D.imms (rowsD rs)=true
 |[]=>rfl
 |r::rs=>by show(D.imm (.tup (pcsD r))&&D.imms (rowsD rs))=true;rw [show D.imm (.tup (pcsD r))=D.imms (pcsD r) from rfl,pcs_imm r,rows_imm rs];rfl
end
theorem rJ:∀a b:List Pc,pcsD (a++b)=pcsD a++pcsD b
 |[],b=>rfl
 |p::a,b=>by show pcD p::pcsD (a++b)=pcD p::(pcsD a++pcsD b);rw [rJ a b]
theorem pS:∀a b:List (List Pc),rowsD (a++b)=rowsD a++rowsD b
 |[],b=>rfl
 |p::a,b=>by show D.tup (pcsD p)::rowsD (a++b)=D.tup (pcsD p)::(rowsD a++rowsD b);rw [pS a b]
theorem rK:∀a:List Pc,(pcsD a).length=a.length
 |[]=>rfl
 |p::a=>by show(pcsD a).length+1=a.length+1;rw [rK a]
theorem fS:∀a:List (List Pc),(rowsD a).length=a.length
 |[]=>rfl
 |p::a=>by show(rowsD a).length+1=a.length+1;rw [fS a]
theorem ye6{α β:Type}(f:α->β)(hf:∀a b,f a=f b->a=b):∀{l m:List α},l.map f=m.map f->l=m
 |[],[],_=>rfl
 |[],_::_,h=>by simp at h
 |_::_,[],h=>by simp at h
 |a::l,b::m,h=>by
  simp only [List.map_cons,List.cons.injEq] at h
  rw [hf a b h.1,ye6 f hf h.2]
theorem uA(a b:String):(Str.ofString a=Str.ofString b)=(a=b):=by
 refine propext ⟨fun h=> ?_,fun h=>by rw [h]⟩
 rw [Str.ofString_eq_toList,Str.ofString_eq_toList] at h
 have h1:(a.toList.map Char.toNat).toArray=(b.toList.map Char.toNat).toArray:=(Str.mk.inj h)
 have h2:a.toList.map Char.toNat=b.toList.map Char.toNat:=by simpa using congrArg Array.toList h1
 have h3:a.toList=b.toList:=ye6 _ (fun x y e=>by
  have:Char.ofNat x.toNat=Char.ofNat y.toNat:=by rw [e]
  simpa using this) h2
 exact String.toList_inj.mp h3
theorem xc9{α:Type}(a:α)(l:List α):atI (a::l) 0=some a:=by simp [atI,ixN]
theorem wd5{α:Type}(a b:α)(l:List α):atI (a::b::l) 1=some b:=by
 have h:ixN (a::b::l).length 1=some 1:=by unfold ixN;rw [if_pos (by decide),if_pos (by simp only [List.length_cons];omega)];rfl
 simp only [atI,h];rfl
theorem xu3{α:Type}(a b c:α)(l:List α):atI (a::b::c::l) 2=some c:=by
 have h:ixN (a::b::c::l).length 2=some 2:=by unfold ixN;rw [if_pos (by decide),if_pos (by simp only [List.length_cons];omega)];rfl
 simp only [atI,h];rfl
theorem sz{n:Nat}(h:n<=1000):n<=sizeLine:=zo5 h
theorem sz1{n:Nat}(h:n<=1000):n<sizeLine:=sE h
theorem xd0{r:List Pc}{p:Pc}(h:p∈r):(dM p).length<=(toksR r).length:=by
 induction r with
 |nil=>simp at h
 |cons q r ih=>
  show _<=(dM q++toksR r).length
  rw [List.length_append]
  rcases List.mem_cons.mp h with e|e
  ·subst e;omega
  ·have:=ih e;omega
theorem ya9{rs:List (List Pc)}{r:List Pc}(h:r∈rs):(toksR r).length<=(toksMore rs).length:=by
 induction rs with
 |nil=>simp at h
 |cons q rs ih=>
  show _<=(Tk.orr::(toksR q++toksMore rs)).length
  rw [List.length_cons,List.length_append]
  rcases List.mem_cons.mp h with e|e
  ·subst e;omega
  ·have:=ih e;omega
theorem yb0{rs:List (List Pc)}{r:List Pc}(h:r∈rs):(toksR r).length<=(toksRows rs).length:=by
 cases rs with
 |nil=>simp at h
 |cons q rs=>
  show _<=(toksR q++toksMore rs).length
  rw [List.length_append]
  rcases List.mem_cons.mp h with e|e
  ·subst e;omega
  ·have:=ya9 e;omega
theorem vF(n:Nat):ixN (n+1) (-1)=some n:=by
 unfold ixN
 rw [if_neg (by decide),if_pos (by omega)]
 congr 1
 omega
theorem zM{α:Type}(l:List α)(a b:α):(l++[a]).set l.length b=l++[b]:=by
 induction l with
 |nil=>rfl
 |cons x l ih=>show x::(l++[a]).set l.length b=_;rw [ih];rfl
theorem wd6(n:Nat):ixN (n+1) 0=some 0:=by unfold ixN;rw [if_pos (by decide),if_pos (by omega)];rfl
local macro_rules|`(tactic|simp! [$a,*] $[$l]?)=>`(tactic|simp [fB,aA,f2,aB,D.imms,aD,dI,fC,aJ,aL,D.imm,dB,aY,aG,dEq,eqB,uA,zy5,fT,dIx,wd5,xu3,xc9,bF,bU,cA,fIf,aZ,dGt,cN,aR,bI,gF,bS,gJ,dG,kN,gB,cK,dNe,mS,fKs,dLt,fH,D.flat,dR,wd6,zM,fL,L2.zq4,vF,cZ,jP,qK,D.key,inV,dIn,eqV,inB,ze6,D.flats,eD,dGe,xz3,fP,dD,dLe,gP,rX,zU,iN,jQ,oP,yL,pF,wc9,zi6,dE,$a,*] $[$l]?)
theorem fO:ixN 2 1=some 1:=by decide
theorem bO(i j:Int):cW (.int i) (.int j)=if 0<j then some (.int (i % j)) else none:=by simp [cW,dII]
theorem bW(i j:Int):eP (.int i) (.int j)=if 0<j/\j<1073741824 then some (.int (i/j)) else none:=by simp [eP,dII]
theorem gY(x y:Str):(x++y).cps.toList=x.cps.toList++y.cps.toList:=by
 show(x.cps++y.cps).toList=_
 simp
theorem bZ(x y:Str):(x++y).length=x.length+y.length:=by
 show(x.cps++y.cps).size=x.cps.size+y.cps.size
 simp
def sg:Str:=("abcdefghijklmnopqrstuvwxyzABCDEFGHIJKLMNOPQRSTUVWXYZ0123456789":Str)++("!\"#$&'()*+,-./:;<=>?\x40[\\]^_`{|}~":Str)
theorem yu6:sg.cps.toList.length=93:=by decide+kernel
theorem xn4:sg.cps.toList.all eW=true:=by decide+kernel
theorem xn5:sg.length<=sizeLine:=by
 have e:sg.length=sg.cps.toList.length:=by simp [Str.length]
 rw [e,yu6];exact sz (by decide)
theorem pA{α:Type}(xs:List α)(i:Int)(h0:0<=i)(h1:i<xs.length):∃v∈xs,atI xs i=some v:=by
 have hn:i.toNat<xs.length:=by omega
 obtain⟨v,hv⟩:∃v,xs[i.toNat]? =some v:=⟨_,List.getElem?_eq_getElem hn⟩
 refine⟨v,List.mem_of_getElem? hv,?_⟩
 have e:i=((i.toNat:Nat):Int):=by omega
 rw [e]
 exact qV hv
theorem wb0(i:Int)(h0:0<=i)(h1:i<93):∃c,atI sg.cps.toList i=some c/\eW c=true:=by
 obtain⟨c,hc,e⟩:=pA sg.cps.toList i h0 (by rw [yu6];omega)
 exact⟨c,e,List.all_eq_true.mp xn4 c hc⟩
theorem uB(n:Nat):fY 0 n=((List.range n).map fun(k:Nat)=>(k:Int)).map .int:=by
 unfold fY
 rw [List.map_map]
 refine List.map_congr_left fun k _=> ?_
 show D.int (0+(k:Int))=D.int (k:Int)
 rw [Int.zero_add]
theorem xn6(m:Int):∃s:Int,atI [D.int 1,.int 2,.int 3,.int 4,.int 5,.int 6,.int 7,.int 8,.int 10,.int 11,.int 9,.int 12] (m % 12)=some (.int s)/\1<=s/\s<=12:=by
 have h0:=Int.emod_nonneg m (show(12:Int)≠0 by decide)
 have h1:=Int.emod_lt_of_pos m (show(0:Int)<12 by decide)
 obtain⟨d,hd,e⟩:=pA [D.int 1,.int 2,.int 3,.int 4,.int 5,.int 6,.int 7,.int 8,.int 10,.int 11,.int 9,.int 12] (m % 12) h0 (by simpa using h1)
 simp only [List.mem_cons,List.not_mem_nil,or_false] at hd
 rcases hd with rfl|rfl|rfl|rfl|rfl|rfl|rfl|rfl|rfl|rfl|rfl|rfl<;>exact⟨_,e,by decide,by decide⟩
theorem xu4(k:Int):∃x:Str,atI [D.str (Str.ofString " "),.str (Str.ofString " "),.str (Str.ofString " "),.str (Str.ofString "")] (k % 4)=some (.str x)/\(x=""\/x=" "):=by
 have h0:=Int.emod_nonneg k (show(4:Int)≠0 by decide)
 have h1:=Int.emod_lt_of_pos k (show(0:Int)<4 by decide)
 obtain⟨d,hd,e⟩:=pA [D.str (Str.ofString " "),.str (Str.ofString " "),.str (Str.ofString " "),.str (Str.ofString "")] (k % 4) h0 (by simpa using h1)
 simp only [List.mem_cons,List.not_mem_nil,or_false] at hd
 rcases hd with rfl|rfl|rfl|rfl
 ·exact⟨_,e,.inr rfl⟩
 ·exact⟨_,e,.inr rfl⟩
 ·exact⟨_,e,.inr rfl⟩
 ·exact⟨_,e,.inl rfl⟩
theorem xn7(a b k:Int)(ha:0<=a/\a<=40)(hb:0<=b/\b<=40):∃c:Int,atI [D.int a,.int b] (k % 2)=some (.int c)/\0<=c/\c<=40:=by
 have h0:=Int.emod_nonneg k (show(2:Int)≠0 by decide)
 have h1:=Int.emod_lt_of_pos k (show(0:Int)<2 by decide)
 obtain⟨d,hd,e⟩:=pA [D.int a,.int b] (k % 2) h0 (by simpa using h1)
 simp only [List.mem_cons,List.not_mem_nil,or_false] at hd
 rcases hd with rfl|rfl
 ·exact⟨_,e,ha⟩
 ·exact⟨_,e,hb⟩
theorem wd7{α:Type}(a b c d:α):atI [a,b,c,d] 3=some d:=rfl
theorem xn8{i j:Int}(h1: -1000000<=i)(h2:i<=1000000)(h3: -1000000<=j)(h4:j<=1000000):zo9 [.int i,.int j]=some (fY i (j-i).toNat):=by
 rw [zo9]
 exact if_pos ⟨by omega,by omega,by omega,by omega⟩
theorem qX{j:Int}(h3: -1000000<=j)(h4:j<=1000000):mT [.int j]=some (fY 0 j.toNat):=by
 rw [mT]
 exact if_pos ⟨by omega,by omega⟩
theorem xu5(a:Int)(n:Nat):fY a n=((List.range n).map fun(k:Nat)=>a+(k:Int)).map .int:=by
 unfold fY
 rw [List.map_map];rfl
theorem aE{f g:tz1}{p p':PSt}(h:f p=some (.nx,p')):aR f g p=g p':=by unfold aR;rw [h];rfl
theorem cO{f g:tz1}{p p':PSt}{d:D}(h:f p=some (.ret d,p')):aR f g p=some (.ret d,p'):=by unfold aR;rw [h];rfl
theorem pK{c:PSt->Option (Bool×PSt)}{f g:tz1}{p p':PSt}(h:c p=some (true,p')):fIf c f g p=f p':=by unfold fIf;rw [h];rfl
theorem jE{c:PSt->Option (Bool×PSt)}{f g:tz1}{p p':PSt}(h:c p=some (false,p')):fIf c f g p=g p':=by unfold fIf;rw [h];rfl
theorem cC{i:Nat}{f:tz2}{p:PSt}{d:D}(h:f p=some d):bF i (aJ f) p=some (.nx,p.set i (some d)):=by unfold bF aJ;rw [h];rfl
theorem bQ{f:tz2}{p:PSt}{d:D}(h:f p=some d):cA (aJ f) p=some (.ret d,p):=by unfold cA aJ;rw [h];rfl
theorem cR{np n:Nat}{f:tz1}{ds:List D}{d:D}{p:PSt}(hl:ds.length=np)(h:f (ds.map some++List.replicate n none)=some (.ret d,p)):gP np n f ds=some d:=by
 unfold gP;rw [if_pos hl,h];rfl
theorem aT{g:D->D->Option D}{fa fb:tz2}{p:PSt}{x y d:D}(h1:fa p=some x)(h2:fb p=some y)(h3:g x y=some d):f2 g fa fb p=some d:=by unfold f2;rw [h1,h2];exact h3
theorem aU{h:tz6}{g:tz3}{p:PSt}{ds:List D}{d:D}(h1:g p=some ds)(h2:h ds=some d):aG h g p=some d:=by unfold aG;rw [h1];exact h2
theorem pT{o o':Bool}{ys zs:List D}(h1:D.imms ys=true)(h2:D.imms zs=true)(h:ys.length+zs.length<=1000):aZ (.lst o ys) (.lst o' zs)=some (.lst true (ys++zs)):=by
 rw [aZ]
 exact if_pos (by rw [h1,h2];simpa using sz h)
theorem aO{f:tz2}{g:tz3}{p:PSt}{d:D}{ds:List D}(h1:f p=some d)(h2:g p=some ds):aB f g p=some (d::ds):=by unfold aB;rw [h1,h2];rfl
def aM(ws:List Str):List D:=ws.map .str
theorem sN(a b:List Str):aM (a++b)=aM a++aM b:=by simp [aM]
theorem gD(a:List Str):(aM a).length=a.length:=by simp [aM]
theorem lV:∀ws:List Str,D.imms (aM ws)=true
 |[]=>rfl
 |w::ws=>by show(D.imm (.str w)&&D.imms (aM ws))=true;rw [lV ws];rfl
theorem eV{g:tz3}{p:PSt}{ds:List D}(h:g p=some ds)(hl:ds.length<=1000):bI g p=some (.lst true ds):=by unfold bI;rw [h];exact if_pos hl
def bJ:Tk->String
 | .leaf (.word _)=>"word"| .leaf (.gap _)=>"gap"| .leaf (.stop _)=>"stop"| .leaf .fin=>"end"
 | .opn=>"open"| .cls=>"close"| .hng _=>"hang"| .bck=>"back"| .eit=>"either"| .orr=>"or"| .don=>"done"
def wd3:Tk->List D
 | .leaf (.word x)=>[.str x]| .leaf (.gap x)=>[.str x]| .leaf (.stop c)=>[.int c]| .hng n=>[.int n]
 |_=>[]
theorem vG(t:Tk):tkD t= .tup (.str (bJ t)::wd3 t):=by
 cases t with
 |leaf l=>cases l<;>rfl
 |_=>rfl
theorem zb9(k:Nat)(n:Nat):fY (k:Int) (n+1)= .int k::fY ((k+1:Nat):Int) n:=by
 unfold fY
 rw [List.range_succ_eq_map,List.map_cons,List.map_map]
 congr 1
 ·simp
  intro j _
  omega
theorem uC{g:tz3}{p:PSt}{ds:List D}(h:g p=some ds)(hi:D.imms ds=true)(hl:ds.length<=1000):gF g p=some (.tup ds):=by
 unfold gF
 rw [h]
 exact if_pos (by rw [hi];simpa using hl)
theorem ye7{i:Nat}{p:PSt}{d:D}(h:p[i]? =some (some d)):aA i p=some d:=by unfold aA;rw [h];rfl
theorem pB{f:tz4}{p:PSt}{b:Bool}(h:f p=some b):aL f p=some (b,p):=by unfold aL;rw [h];rfl
theorem eA{f:tz2}{p:PSt}{b:Bool}(h:f p=some (.bl b)):fB f p=some b:=by unfold fB;rw [h];rfl
theorem oH{f g:tz4}{p:PSt}(h:f p=some false):cZ f g p=some false:=by unfold cZ;rw [h];rfl
theorem oJ{f g:tz4}{p:PSt}{b:Bool}(h:f p=some true)(h2:g p=some b):cZ f g p=some b:=by unfold cZ;rw [h];exact h2
theorem zo6{f g:tz4}{p:PSt}(h:f p=some true):jP f g p=some true:=by unfold jP;rw [h];rfl
theorem qP{f g:tz4}{p:PSt}{b:Bool}(h:f p=some false)(h2:g p=some b):jP f g p=some b:=by unfold jP;rw [h];exact h2
theorem bG{c:tz4}{F:tz1}{p:PSt}(h:c p=some false):fIf (aL c) F aY p=some (.nx,p):=(jE (pB h)).trans rfl
theorem cP{c:tz4}{F G:tz1}{p:PSt}(h:c p=some true):fIf (aL c) F G p=F p:=pK (pB h)
theorem zN{f:tz8}{p p':PSt}{d:D}(h:f p=some (d,p')):cN f p=some (.nx,p'):=by unfold cN;rw [h];rfl
theorem xu6{as:List L2.Arg}{g:tz7}{p:PSt}{ds ds':List D}{d:D}(h1:fH as p=some ds)(h2:g ds=some (d,ds'))(h3:ds'.length=as.length):fIO as g p=some (d,cX p as ds'):=by unfold fIO;rw [h1,Option.bind_some,h2,Option.bind_some,if_pos h3]
theorem yB{f:tz2}{p:PSt}{d:D}(h:f p=some d)(hi:d.imm=true):dI f p=some d:=by unfold dI;rw [h];exact if_pos hi
theorem xd1{p:PSt}:fH [] p=some []:=rfl
theorem xn9{j:Nat}{as:List L2.Arg}{p:PSt}{d:D}{ds:List D}(h:p[j]? =some (some d))(h2:fH as p=some ds):fH (.io j::as) p=some (d::ds):=by
 show((p[j]?).join).bind _=_
 rw [h,Option.join_some,Option.bind_some,h2];rfl
theorem zu9{m:Int}:∀(l:List Int) (w:Str) (x2 x4:Option D),(∀j∈l,0<=j/\j<100)->w.length+l.length<=100->w.cps.toList.all eW=true->
  ∃w' x4',dJ 4 (bF 3 (aJ (f2 aZ (aA 3) (f2 dIx (aA 1) (f2 cW (f2 aZ (f2 eP (aA 0) (fC (.int 12))) (f2 nD (aA 4) (f2 cW (f2 eP (aA 0) (fC (.int 9000))) (fC (.int 93))))) (fC (.int 93))))))) (l.map .int) [some (.int m),some (.str sg),x2,some (.str w),x4]
   =some (.nx,[some (.int m),some (.str sg),x2,some (.str w'),x4'])/\w'.length=w.length+l.length/\w'.cps.toList.all eW=true
 |[],w,x2,x4,_,_,hw=>⟨w,x4,by simp! [dZ,dS,fR,nD,bO,bW,dP,mT,lX,dJ],rfl,hw⟩
 |j::l,w,x2,x4,hj,hl,hw=>by
  rw [List.length_cons] at hl
  have hj0:=hj j List.mem_cons_self
  obtain⟨c,hc,hg⟩:=wb0 ((m/12+j*(m/9000 % 93)) % 93) (Int.emod_nonneg _ (by decide)) (Int.emod_lt_of_pos _ (by decide))
  have hw1:(w++(⟨#[c]⟩:Str)).length=w.length+1:=by rw [bZ];rfl
  obtain⟨w',x4',q1,q2,q3⟩:=zu9 (m:=m) l (w++⟨#[c]⟩) x2 (some (.int j)) (fun i hi=>hj i (List.mem_cons_of_mem _ hi)) (by rw [hw1];omega) (by rw [gY,List.all_append,hw];simp! [dZ,dS,fR,nD,bO,bW,dP,mT,lX,hg])
  refine⟨w',x4',?_,by rw [q2,hw1,List.length_cons];omega,q3⟩
  rw [<-q1]
  have hz:w.length+(⟨#[c]⟩:Str).length<=sizeLine:=sz (by show w.length+1<=1000;omega)
  have b1:(-18446744073709551616<j/\j<18446744073709551616):=by omega
  simp! [dZ,dS,fR,nD,bO,bW,dP,mT,lX,dJ,hc,xn5,hz,b1]
abbrev zp1:tz6:=gP 1 4 xO
theorem xo0{m:Int}(hm:0<=m):∃z,zp1 [.int m]=some (.str z)/\kU z:=by
 obtain⟨s,hs,h1,h2⟩:=xn6 m
 obtain⟨w,x4,q1,q2,q3⟩:=zu9 (m:=m) ((List.range s.toNat).map fun(k:Nat)=>(k:Int)) "" (some (.int s)) none
  (fun j hj=>by obtain⟨k,hk,rfl⟩:=List.mem_map.mp hj;have:=List.mem_range.mp hk;omega) (by rw [List.length_map,List.length_range];show 0+_<=100;omega) (by decide+kernel)
 rw [<-uB] at q1
 rw [List.length_map,List.length_range] at q2
 have q2':w.length=s.toNat:=by rw [q2];show 0+_=_;omega
 refine⟨w,?_,by omega,by omega,q3⟩
 have hz:(Str.ofString "abcdefghijklmnopqrstuvwxyzABCDEFGHIJKLMNOPQRSTUVWXYZ0123456789").length+(Str.ofString "!\"#$&'()*+,-./:;<=>?\x40[\\]^_`{|}~").length<=sizeLine:=by decide+kernel
 have e1:Str.ofString "abcdefghijklmnopqrstuvwxyzABCDEFGHIJKLMNOPQRSTUVWXYZ0123456789"++Str.ofString "!\"#$&'()*+,-./:;<=>?\x40[\\]^_`{|}~"=sg:=rfl
 have b1:(-4611686018427387904<=s/\s<4611686018427387904):=by omega
 simp! [dZ,dS,fR,nD,bO,bW,dP,mT,lX,xO,hz,e1,hs,q1,b1]
abbrev zf2:tz6:=gP 1 2 (kD zp1)
theorem xu7(k:Int):∃x:Str,atI [D.str (Str.ofString "["),.str (Str.ofString "]"),.str (Str.ofString "{"),.str (Str.ofString "|"),.str (Str.ofString "}"),.str (Str.ofString "<"),.str (Str.ofString ">3"),.str (Str.ofString "\x407"),.str (Str.ofString "_"),.str (Str.ofString "."),.str (Str.ofString "/"),.str (Str.ofString "'"),.str (Str.ofString "''"),.str (Str.ofString "'[")] (k % 14)=some (.str x)/\kU x:=by
 have h0:=Int.emod_nonneg k (show(14:Int)≠0 by decide)
 have h1:=Int.emod_lt_of_pos k (show(0:Int)<14 by decide)
 obtain⟨d,hd,e⟩:=pA [D.str (Str.ofString "["),.str (Str.ofString "]"),.str (Str.ofString "{"),.str (Str.ofString "|"),.str (Str.ofString "}"),.str (Str.ofString "<"),.str (Str.ofString ">3"),.str (Str.ofString "\x407"),.str (Str.ofString "_"),.str (Str.ofString "."),.str (Str.ofString "/"),.str (Str.ofString "'"),.str (Str.ofString "''"),.str (Str.ofString "'[")] (k % 14) h0 (by simpa using h1)
 simp only [List.mem_cons,List.not_mem_nil,or_false] at hd
 rcases hd with rfl|rfl|rfl|rfl|rfl|rfl|rfl|rfl|rfl|rfl|rfl|rfl|rfl|rfl<;>exact⟨_,e,by decide+kernel,by decide+kernel,by decide+kernel⟩
theorem ye8{m:Int}(hm:0<=m):∃l,zf2 [.int m]=some (dW l)/\jS l:=by
 have hd:0<=m/16:=Int.ediv_nonneg hm (by decide)
 by_cases c0:m % 16<2
 ·obtain⟨x,q,hx⟩:=xu7 (m/16)
  exact⟨.word x,by simp! [dZ,dS,fR,nD,bO,bW,dP,mT,lX,kD,c0,q,dW],hx⟩
 ·by_cases c1:m % 16<8
  ·obtain⟨z,q,hz⟩:=xo0 hd
   refine⟨.word z,?_,hz⟩
   show gP 1 2 (kD zp1) _=_
   generalize zp1=G at q
   simp! [dZ,dS,fR,nD,bO,bW,dP,mT,lX,kD,c0,c1,q,dW]
  ·by_cases c2:m % 16<13
   ·obtain⟨x,q,hx⟩:=xu4 (m/16)
    exact⟨.gap x,by simp! [dZ,dS,fR,nD,bO,bW,dP,mT,lX,kD,c0,c1,c2,q,dW],hx⟩
   ·by_cases c3:m % 16=13
    ·exact⟨.fin,by simp! [dZ,dS,fR,nD,bO,bW,dP,mT,lX,kD,c0,c1,c2,c3,dW],trivial⟩
    ·have ha:=Int.emod_nonneg (m/16/2) (show(10:Int)≠0 by decide)
     have hb:=Int.emod_lt_of_pos (m/16/2) (show(0:Int)<10 by decide)
     have hc:=Int.emod_nonneg (m/16/2) (show(41:Int)≠0 by decide)
     have hd:=Int.emod_lt_of_pos (m/16/2) (show(0:Int)<41 by decide)
     obtain⟨c,q,h1,h2⟩:=xn7 (m/16/2 % 10) (m/16/2 % 41) (m/16) (by omega) (by omega)
     exact⟨.stop c,by simp! [dZ,dS,fR,nD,bO,bW,dP,mT,lX,kD,c0,c1,c2,c3,q,dW],h1,h2⟩
theorem ye9{x y:Str}(h:x.cps.toList=y.cps.toList):x=y:=by
 cases x;cases y
 congr
 exact Array.toList_inj.mp h
section
variable{c:Nat}
theorem zv0(x y:Str)(r:List Str):(Str.join ⟨#[c]⟩ (x::y::r)).cps.toList=x.cps.toList++c::(Str.join ⟨#[c]⟩ (y::r)).cps.toList:=by
 show((x++⟨#[c]⟩)++Str.join ⟨#[c]⟩ (y::r)).cps.toList=_
 rw [gY,gY]
 show(x.cps.toList++[c])++_=_
 simp
end
theorem zO:(" ":Str)=⟨#[32]⟩:=by decide+kernel
theorem zl3{α:Type}:∀l:List α,(List.range l.length).filterMap (fun k=>l[k]?)=l
 |[]=>rfl
 |a::l=>by
  rw [List.length_cons,List.range_succ_eq_map,List.filterMap_cons]
  show a::_=_
  rw [List.filterMap_map]
  have e:((fun k=>(a::l)[k]?)∘Nat.succ)=fun k=>l[k]? :=funext fun k=>by simp
  rw [e,zl3 l]
theorem yu7(c:Nat)(x:Str):Txt.slice (⟨#[c]⟩++x) (some 1) none=x:=by
 have hl:(⟨#[c]⟩++x:Str).length=x.length+1:=by rw [bZ];show 1+_=_;omega
 refine ye9 ?_
 unfold Txt.slice
 rw [hl]
 have hi:Builtin.Str.strSliceIndices (some 1) none 1 (x.length+1)=(List.range x.length).map (·+1):=by
  unfold Builtin.Str.strSliceIndices sliceRange
  have h1:¬((1:Int)<0):=by decide
  have h2:(1:Int)>0:=by decide
  simp only [h1,h2,if_true,if_false,Int.ediv_one]
  have m1:max (0:Int) (min 1 ((x.length+1:Nat):Int))=1:=by omega
  rw [m1]
  have m2:(if (1:Int)<((x.length+1:Nat):Int) then((x.length+1:Nat):Int)-1+1-1 else 0).toNat=x.length:=by
   split<;>omega
  rw [m2]
  refine List.map_congr_left fun k _=> ?_
  omega
 rw [hi,List.length_map,List.length_range,if_neg (by simp)]
 show((List.range x.length).map (·+1)).filterMap ((#[c]++x.cps)[·]?)=x.cps.toList
 rw [List.filterMap_map]
 have e:((fun i=>(#[c]++x.cps)[i]?)∘fun k=>k+1)=fun k=>x.cps.toList[k]? :=funext fun k=>by
  show(#[c]++x.cps)[k+1]? =_
  rw [Array.getElem?_append_right (by simp)]
  simp
 rw [e]
 exact zl3 x.cps.toList
theorem eZ(c d:Nat)(x:Str):Txt.startswith (⟨#[c]⟩++x) ⟨#[d]⟩=decide (c=d):=by
 have hl:(⟨#[c]⟩++x:Str).length=x.length+1:=by rw [bZ];show 1+_=_;omega
 unfold Txt.startswith Builtin.Str.subAt
 rw [hl]
 show(decide (0+1<=x.length+1)&&((#[c]++x.cps).extract 0 (0+1)== #[d]))=_
 have e:(#[c]++x.cps).extract 0 (0+1)= #[c]:=by
  apply Array.ext'
  simp
 rw [e,decide_eq_true (by omega)]
 by_cases h:c=d
 ·subst h;simp
 ·simp [h]
structure Gm where
 kd:Nat
 n:Int
 full:List (List Pc)
 parts:List Pc
def kdS:Nat->String
 |0=>"top"
 |1=>"group"
 |2=>"hang"
 |_=>"either"
def gmD(f:Gm):D:= .lst true [.str (kdS f.kd),.int f.n,.lst true (rowsD f.full),.lst true (pcsD f.parts)]
def cE:List Gm->List D
 |[]=>[]
 |f::fs=>cE fs++[gmD f]
theorem pD:∀fs,(cE fs).length=fs.length
 |[]=>rfl
 |f::fs=>by rw [cE,List.length_append,pD fs];rfl
def sY:List Pc:=[.leaf (.word "or")]
def pP(f:Gm):List (List Pc):=if f.full=[] then [f.parts,sY] else f.full++[f.parts]
def gQ(f:Gm):Pc:=match f.kd with
 |1=> .group f.parts
 |2=> .hang f.n f.parts
 |_=> .either (pP f)
def lG(g:Gm)(p:Pc):Gm:={g with parts:=g.parts++[p]}
mutual
def okP:Pc->Prop
 | .leaf l=>jS l
 | .group r=>okR r
 | .hang n r=>(0<=n/\n<=12)/\okR r
 | .either rs=>(2<=rs.length/\rs.length<=4)/\okRs rs
def okR:List Pc->Prop
 |[]=>True
 |p::r=>okP p/\okR r
def okRs:List (List Pc)->Prop
 |[]=>True
 |r::rs=>okR r/\okRs rs
end
theorem yC:∀a b:List Pc,okR (a++b)↔okR a/\okR b
 |[],b=>by simp [okR]
 |p::a,b=>by rw [List.cons_append,okR,okR,yC a b,and_assoc]
theorem rL:∀a b:List (List Pc),okRs (a++b)↔okRs a/\okRs b
 |[],b=>by simp [okRs]
 |p::a,b=>by rw [List.cons_append,okRs,okRs,rL a b,and_assoc]
theorem zh8(p:Pc):okR [p]↔okP p:=by simp [okR]
theorem vH(r:List Pc):okRs [r]↔okR r:=by simp [okRs]
theorem rM:∀a b:List (List Pc),toksMore (a++b)=toksMore a++toksMore b
 |[],b=>rfl
 |r::a,b=>by
  show Tk.orr::(toksR r++toksMore (a++b))=(Tk.orr::(toksR r++toksMore a))++toksMore b
  rw [rM a b];simp
def wF(f:Gm):Nat:=(toksMore f.full).length+(toksR f.parts).length+4
def wG:List Gm->Nat
 |[]=>0
 |f::fs=>wF f+wG fs
def xz6(f:Gm):Prop:=okRs f.full/\okR f.parts/\f.full.length<=3/\(f.kd≠3->f.full=[])/\0<=f.n/\f.n<=12
def zz5:List Gm->Prop
 |[]=>False
 |[f]=>f.kd=0
 |f::g::fs=>(1<=f.kd/\f.kd<=3)/\zz5 (g::fs)
def xj0(m:Nat):List Gm->Prop
 |[]=>True
 |f::fs=>depR f.parts+fs.length<=m/\depRs f.full+fs.length<=m/\xj0 m fs
structure GInv(nest k:Nat)(fs:List Gm):Prop where
 len:fs.length<=nest+1
 wt:wG fs<=4*k+4
 each:∀f∈fs,xz6 f
 kinds:zz5 fs
 deep:xj0 nest fs
theorem yl0{f:Gm}(h:f.kd≠3->f.full=[])(hk:1<=f.kd/\f.kd<=3):(dM (gQ f)).length<=wF f:=by
 have e:f.kd=1\/f.kd=2\/f.kd=3:=by omega
 unfold wF gQ
 rcases e with e|e|e
 ·rw [e];show(Tk.opn::(toksR f.parts++[.cls])).length<=_;rw [List.length_cons,List.length_append];simp;omega
 ·rw [e];show(Tk.hng f.n::(toksR f.parts++[.bck])).length<=_;rw [List.length_cons,List.length_append];simp;omega
 ·rw [e]
  show(Tk.eit::(toksRows (pP f)++[.don])).length<=_
  rw [List.length_cons,List.length_append]
  unfold pP
  cases hf:f.full with
  |nil=>
   rw [if_pos rfl]
   show(toksR f.parts++(Tk.orr::(toksR sY++[]))).length+1+1<=_
   simp [sY,toksR,dM,toksMore]
  |cons r rs=>
   rw [if_neg (by simp)]
   show(toksR r++toksMore (rs++[f.parts])).length+1+1<=(Tk.orr::(toksR r++toksMore rs)).length+_+4
   rw [rM]
   simp [toksMore];omega
theorem xd2{f:Gm}(h:xz6 f)(hk:1<=f.kd/\f.kd<=3):okP (gQ f):=by
 obtain⟨h1,h2,h3,h4,h5,h6⟩:=h
 have e:f.kd=1\/f.kd=2\/f.kd=3:=by omega
 unfold gQ
 rcases e with e|e|e
 ·rw [e];exact h2
 ·rw [e];exact⟨⟨h5,h6⟩,h2⟩
 ·rw [e]
  show(2<=(pP f).length/\(pP f).length<=4)/\okRs (pP f)
  unfold pP
  by_cases c:f.full=[]
  ·rw [if_pos c]
   refine⟨⟨by simp,by simp⟩,h2,?_,trivial⟩
   exact⟨⟨by decide+kernel,by decide+kernel,by decide+kernel⟩,trivial⟩
  ·rw [if_neg c]
   have hp:1<=f.full.length:=by cases hf:f.full with|nil=>exact absurd hf c|cons a l=>simp
   refine⟨⟨by rw [List.length_append];simp;omega,by rw [List.length_append];simp;omega⟩,?_⟩
   rw [rL,vH];exact⟨h1,h2⟩
theorem yu8{f:Gm}{m k:Nat}(h1:depR f.parts+(k+1)<=m)(h2:depRs f.full+(k+1)<=m):nL (gQ f)+k<=m:=by
 unfold gQ
 split
 ·show depR f.parts+1+k<=m;omega
 ·show depR f.parts+1+k<=m;omega
 ·show depRs (pP f)+1+k<=m
  unfold pP
  split
  ·show max (depR f.parts) (max (depR sY) 0)+1+k<=m
   have:depR sY=0:=rfl
   omega
  ·rw [vB];omega
theorem GInv.leaf{nest k:Nat}{f:Gm}{fs:List Gm}{l:Leaf}(h:GInv nest k (f::fs))(hl:jS l):GInv nest (k+1) (lG f (.leaf l)::fs):=by
 obtain⟨h1,h2,h3,h4,h5⟩:=h
 have hf:=h3 f List.mem_cons_self
 refine⟨h1,?_,?_,?_,?_⟩
 ·have h2':wF f+wG fs<=4*k+4:=h2
  show(toksMore f.full).length+(toksR (f.parts++[.leaf l])).length+4+wG fs<=_
  rw [oF,List.length_append]
  unfold wF at h2'
  show _+(_+1)+4+_<=_
  omega
 ·intro x hx
  rcases List.mem_cons.mp hx with rfl|hx
  ·obtain⟨a1,a2,a3,a4,a5⟩:=hf
   exact⟨a1,(yC _ _).mpr ⟨a2,(zh8 _).mpr hl⟩,a3,a4,a5⟩
  ·exact h3 x (List.mem_cons_of_mem _ hx)
 ·cases fs with
  |nil=>exact h4
  |cons g fs=>exact⟨h4.1,h4.2⟩
 ·refine⟨?_,h5.2.1,h5.2.2⟩
  show depR (f.parts++[.leaf l])+fs.length<=nest
  rw [wW]
  have:=h5.1
  show max _ 0+_<=_
  omega
theorem GInv.opener{nest k:Nat}{fs:List Gm}{kd:Nat}{n:Int}(h:GInv nest k fs)(hk:1<=kd/\kd<=3)(hn:0<=n/\n<=12)(hl:fs.length<=nest):GInv nest (k+1) (⟨kd,n,[],[]⟩::fs):=by
 obtain⟨h1,h2,h3,h4,h5⟩:=h
 refine⟨by simp;omega,?_,?_,?_,?_⟩
 ·show 0+0+4+wG fs<=_;omega
 ·intro x hx
  rcases List.mem_cons.mp hx with rfl|hx
  ·exact⟨trivial,trivial,Nat.zero_le _,fun _=>rfl,hn⟩
  ·exact h3 x hx
 ·cases fs with
  |nil=>exact h4.elim
  |cons g fs=>exact⟨hk,h4⟩
 ·exact⟨by show 0+_<=_;omega,by show 0+_<=_;omega,h5⟩
theorem GInv.orr{nest k:Nat}{f:Gm}{fs:List Gm}(h:GInv nest k (f::fs))(hf3:f.full.length<3)(hk:f.kd=3):GInv nest (k+1) ({f with full:=f.full++[f.parts],parts:=[]}::fs):=by
 obtain⟨h1,h2,h3,h4,h5⟩:=h
 have hf:=h3 f List.mem_cons_self
 refine⟨h1,?_,?_,?_,?_⟩
 ·have h2':wF f+wG fs<=4*k+4:=h2
  show(toksMore (f.full++[f.parts])).length+0+4+wG fs<=_
  rw [rM,List.length_append]
  unfold wF at h2'
  simp [toksMore];omega
 ·intro x hx
  rcases List.mem_cons.mp hx with rfl|hx
  ·obtain⟨a1,a2,a3,a4,a5⟩:=hf
   exact⟨(rL _ _).mpr ⟨a1,(vH _).mpr a2⟩,trivial,by show(f.full++[f.parts]).length<=3;rw [List.length_append];simp;omega,fun z=>absurd hk z,a5⟩
  ·exact h3 x (List.mem_cons_of_mem _ hx)
 ·cases fs with
  |nil=>exact h4
  |cons g fs=>exact⟨h4.1,h4.2⟩
 ·refine⟨?_,?_,h5.2.2⟩
  ·show 0+_<=_
   have:=h5.1;omega
  ·show depRs (f.full++[f.parts])+fs.length<=nest
   rw [vB]
   have a1:=h5.1;have a2:=h5.2.1
   omega
theorem GInv.shut{nest k:Nat}{f g:Gm}{fs:List Gm}(h:GInv nest k (f::g::fs)):GInv nest k (lG g (gQ f)::fs):=by
 obtain⟨h1,h2,h3,h4,h5⟩:=h
 have hf:=h3 f List.mem_cons_self
 have hg:=h3 g (List.mem_cons_of_mem _ List.mem_cons_self)
 have hk:=h4.1
 refine⟨by simp at h1|-;omega,?_,?_,?_,?_⟩
 ·have h2':wF f+(wF g+wG fs)<=4*k+4:=h2
  have t:=yl0 hf.2.2.2.1 hk
  show(toksMore g.full).length+(toksR (g.parts++[gQ f])).length+4+wG fs<=_
  rw [oF,List.length_append,zl0]
  unfold wF at h2' t
  omega
 ·intro x hx
  rcases List.mem_cons.mp hx with rfl|hx
  ·obtain⟨a1,a2,a3,a4,a5⟩:=hg
   exact⟨a1,(yC _ _).mpr ⟨a2,(zh8 _).mpr (xd2 hf hk)⟩,a3,a4,a5⟩
  ·exact h3 x (List.mem_cons_of_mem _ (List.mem_cons_of_mem _ hx))
 ·cases fs with
  |nil=>exact h4.2
  |cons g' fs=>exact⟨h4.2.1,h4.2.2⟩
 ·obtain⟨d1,d2,d3,d4,d5⟩:=h5
  refine⟨?_,d4,d5⟩
  show depR (g.parts++[gQ f])+fs.length<=nest
  rw [wW]
  have:=yu8 (f:=f) (m:=nest) (k:=fs.length) d1 d2
  omega
theorem GInv.more{nest k k':Nat}{fs:List Gm}(h:GInv nest k fs)(hk:k<=k'):GInv nest k' fs:=⟨h.len,by have:=h.wt;omega,h.each,h.kinds,h.deep⟩
theorem yu9:∀{fs:List Gm} {f:Gm},f∈fs->wF f<=wG fs
 |[],_,h=>by simp at h
 |g::fs,f,h=>by
  show wF f<=wF g+wG fs
  rcases List.mem_cons.mp h with rfl|h
  ·omega
  ·have:=yu9 h;omega
theorem yl1(p:Pc):1<=(dM p).length:=by cases p<;>simp [dM]
theorem zc0:∀r:List Pc,r.length<=(toksR r).length
 |[]=>Nat.le_refl _
 |p::r=>by
  show r.length+1<=(dM p++toksR r).length
  rw [List.length_append]
  have:=zc0 r;have:=yl1 p;omega
theorem GInv.parts{nest k:Nat}{fs:List Gm}{f:Gm}(h:GInv nest k fs)(hf:f∈fs):f.parts.length<=4*k+4:=by
 have h1:=yu9 hf;have h2:=h.wt;have h3:=zc0 f.parts
 unfold wF at h1;omega
def opD:Option Tk->D
 |none=> .tup [.str "row"]
 |some t=>tkD t
abbrev nsN:List Str:=["opener","ended","pieces"]
def cL(f:Fm):D:= .obj true "Nest" nsN [opD f.op,.lst true (rowsD f.full),.lst true (pcsD f.parts)]
def eE:List Fm->List D
 |[]=>[]
 |f::fs=>eE fs++[cL f]
theorem oK:∀fs,(eE fs).length=fs.length
 |[]=>rfl
 |f::fs=>by rw [eE,List.length_append,oK fs];rfl
abbrev nsB:List Str:=["taken","nests"]
def aI(n:Nat)(fs:List Fm):D:= .obj true "Builder" nsB [.int n,.lst true (eE fs)]
abbrev fJ:tz7:=gE 2 0 (dE [true,false]) sB
theorem xo1(o:Option Tk):(opD o).imm=true:=by cases o with|none=>rfl|some t=>exact xC t
theorem zl4(o:Option Tk):fJ [.obj true "Nest" [] [],opD o]=some (.non,[cL ⟨o,[],[]⟩,opD o]):=by
 have h:=xo1 o
 generalize hd:opD o=d at h
 simp! [gE,eO,sB,h,cL,hd,rowsD,pcsD]
abbrev mZ:tz7:=gE 1 0 (dE [true]) oV
theorem yl2{f:Fm}(h:f.full.length<=900):mZ [cL f]=some (.non,[cL {f with full:=f.full++[f.parts],parts:=[]}]):=by
 have hz:(rowsD f.full).length<sizeLine:=by rw [fS];exact sz1 (by omega)
 have er:rowsD (f.full++[f.parts])=rowsD f.full++[.tup (pcsD f.parts)]:=by rw [pS];rfl
 simp! [gE,eO,oV,cL,hz,er,pcs_imm,pcsD]
abbrev nS:tz6:=gP 2 1 cT
def yn9(f:Fm)(t:Tk):Prop:=(f.op=some .opn/\t= .cls)\/(∃n,f.op=some (.hng n)/\t= .bck)\/(f.op=some .eit/\t= .orr/\f.full.length<3)\/(f.op=some .eit/\t= .don/\f.full≠[])
theorem yl3{f:Fm}{t:Tk}(h:yn9 f t):nS [cL f,.str (bJ t)]=some (.bl true):=by
 rcases h with ⟨h1,rfl⟩|⟨n,h1,rfl⟩|⟨h1,rfl,h2⟩|⟨h1,rfl,h2⟩
 ·simp! [gE,eO,cT,cL,h1,opD,tkD,bJ]
 ·simp! [gE,eO,cT,cL,h1,opD,tkD,bJ]
 ·have h3:((rowsD f.full).length:Int)+1<4:=by rw [fS];omega
  simp! [gE,eO,cT,cL,h1,opD,tkD,bJ,h3]
 ·have h3:(2:Int)<=((rowsD f.full).length:Int)+1:=by
   rw [fS]
   cases hf:f.full with
   |nil=>exact absurd hf h2
   |cons a l=>simp;omega
  simp! [gE,eO,cT,cL,h1,opD,tkD,bJ,h3]
abbrev kS:tz6:=gP 1 2 iI
def fX(f:Fm):Pc:=match f.op with
 |some .opn=> .group f.parts
 |some (.hng n)=> .hang n f.parts
 |_=> .either (f.full++[f.parts])
theorem yb1{f:Fm}(h:f.op=some .opn\/(∃n,f.op=some (.hng n))\/f.op=some .eit)(hl:f.full.length<=900):kS [cL f]=some (pcD (fX f)):=by
 have hz:(rowsD f.full).length+1<=sizeLine:=by rw [fS];exact sz (by omega)
 rcases h with h1|⟨n,h1⟩|h1
 ·simp! [gE,eO,iI,cL,h1,opD,tkD,pcs_imm,fX,pcD]
 ·simp! [gE,eO,iI,cL,h1,opD,tkD,pcs_imm,fX,pcD]
 ·simp! [gE,eO,iI,cL,h1,opD,tkD,pcs_imm,fX,pcD,rows_imm,rH,hz,pS,rowsD]
abbrev qH:tz7:=gE 1 0 (dE [true]) (lL fJ)
theorem xu8:qH [.obj true "Builder" [] []]=some (.non,[aI 0 [iF]]):=by
 have q:fJ [.obj true "Nest" [] [],.tup [.str "row"]]=some (.non,[cL iF,.tup [.str "row"]]):=zl4 none
 show gE 1 0 (dE [true]) (lL fJ) _=_
 generalize fJ=G at q
 simp! [gE,eO,lL,q,aI,eE]
abbrev iZ:tz6:=gP 2 0 (fE nS)
def yO(t:Tk):Prop:=t= .opn\/(∃n,t= .hng n)\/t= .eit
def zW(n:Nat)(fs:List Fm)(t:Tk):Prop:=n<200/\((∃l,t= .leaf l)\/(yO t/\fs.length<=12)\/∃f r,fs=f::r/\yn9 f t)
theorem yf0{α:Type}(l:List α)(a:α):atI (l++[a]) (-1)=some a:=by
 unfold atI
 rw [List.length_append]
 show(ixN (l.length+1) (-1)).bind _=_
 rw [vF,Option.bind_some]
 simp! [gE,eO]
theorem xE{n:Nat}{fs:List Fm}{t:Tk}(hfs:fs≠[])(h:zW n fs t):iZ [aI n fs,.str (bJ t)]=some (.bl true):=by
 obtain⟨hn,h⟩:=h
 have c1:fB (f2 dGe (eD "Builder" "taken" (aA 0)) (fC (.int 200))) [some (aI n fs),some (.str (bJ t))]=some false:=eA (aT (x:= .int n) (by kernel_rfl) rfl (show some (D.bl (decide ((200:Int)<=(n:Int))))=_ by rw [decide_eq_false (by omega)]))
 have nst:eD "Builder" "nests" (aA 0) [some (aI n fs),some (.str (bJ t))]=some (.lst true (eE fs)):=by kernel_rfl
 suffices w:∃q,fE nS [some (aI n fs),some (.str (bJ t))]=some (.ret (.bl true),q) from by
  obtain⟨q,hq⟩:=w;exact cR rfl hq
 unfold fE
 rw [aE (bG c1)]
 rcases h with ⟨l,rfl⟩|⟨ho,hl⟩|⟨f,r,rfl,hs⟩
 ·cases l<;>exact⟨_,(aE (bG (by kernel_rfl))).trans ((aE (bG (by kernel_rfl))).trans (bQ rfl))⟩
 ·have ln:f2 dLt (f2 eO (aG bU (aB (eD "Builder" "nests" (aA 0)) aD)) (fC (.int 1))) (fC (.int 12)) [some (aI n fs),some (.str (bJ t))]=some (.bl true):=by
   refine aT (aT (aU (aO nst rfl) rfl) rfl rfl) rfl ?_
   show some (D.bl (decide ((((eE fs).length:Nat):Int)-1<12)))=_
   rw [decide_eq_true (by rw [oK];omega)]
  have c2:fB (f2 dIn (aA 1) (fC (.tup [(.str "open"),(.str "hang"),(.str "either")]))) [some (aI n fs),some (.str (bJ t))]=some true:=by
   rcases ho with rfl|⟨m,rfl⟩|rfl<;>kernel_rfl
  exact⟨_,cO ((cP c2).trans (bQ ln))⟩
 ·have q:=yl3 hs
  have rc:aG nS (aB (fP "Nest" "can_end_by" (f2 dIx (eD "Builder" "nests" (aA 0)) (dR (fC (.int 1))))) (aB (aA 1) aD)) [some (aI n (f::r)),some (.str (bJ t))]=some (.bl true):=by
   refine aU (ds:=[cL f,.str (bJ t)]) (aO ?_ (aO rfl rfl)) q
   unfold fP
   rw [aT nst rfl (show dIx (.lst true (eE r++[cL f])) (.int (-1))=some (cL f) from yf0 _ _)]
   kernel_rfl
  have c2:fB (f2 dIn (aA 1) (fC (.tup [(.str "open"),(.str "hang"),(.str "either")]))) [some (aI n (f::r)),some (.str (bJ t))]=some false:=by
   rcases hs with ⟨h1,rfl⟩|⟨m,h1,rfl⟩|⟨h1,rfl,h2⟩|⟨h1,rfl,h2⟩<;>kernel_rfl
  have c3:pF dN (aA 1) [some (aI n (f::r)),some (.str (bJ t))]=some true:=by
   rcases hs with ⟨h1,rfl⟩|⟨m,h1,rfl⟩|⟨h1,rfl,h2⟩|⟨h1,rfl,h2⟩<;>kernel_rfl
  exact⟨_,(aE (bG c2)).trans (cO ((cP c3).trans (bQ rc)))⟩
abbrev sC:tz7:=gE 2 2 (dE [true,false]) (jW iZ fJ mZ kS)
def pH(GI GE_:tz7)(GP:tz6):tz1:=
 (fIf (aL (fB (f2 dIn (aA 2) (fC (.tup [(.str "open"),(.str "hang"),(.str "either")])))))
  (cN (dG 0 (iN 0 bS "Builder" "nests") (aB (oP "Nest" (fH [.im (aA 1)]) GI) aD) cK))
  (fIf (aL (fB (f2 dEq (aA 2) (fC (.str "or")))))
  (cN (dG 0 (fL 0 (iN 0 bS "Builder" "nests") (dR (fC (.int 1)))) aD (nJ "Nest" "end_row" GE_)))
  (fIf (aL (pF dN (aA 2)))
  (aR (bF 3 (dG 0 (iN 0 bS "Builder" "nests") aD qK))
 (cN (dG 0 (iN 0 (fL 0 (iN 0 bS "Builder" "nests") (dR (fC (.int 1)))) "Nest" "pieces") (aB (aG GP (aB (fP "Nest" "as_piece" (aA 3)) aD)) aD) cK)))
  (cN (dG 0 (iN 0 (fL 0 (iN 0 bS "Builder" "nests") (dR (fC (.int 1)))) "Nest" "pieces") (aB (dI (aA 1)) aD) cK)))))
theorem zc1{n:Nat}{fs fs':List Fm}{t:Tk}{y3:Option D}(hfs:fs≠[])(h:zW n fs t)
  (q:pH fJ mZ kS [some (aI (n+1) fs),some (tkD t),some (.str (bJ t)),none]=some (.nx,[some (aI (n+1) fs'),some (tkD t),some (.str (bJ t)),y3])):sC [aI n fs,tkD t]=some (.non,[aI (n+1) fs',tkD t]):=by
 have hc:=xE hfs h
 show gE 2 2 (dE [true,false]) (jW iZ fJ mZ kS) _=_
 generalize iZ=GC at hc
 have e:jW GC fJ mZ kS=aR (bF 2 (aJ (dI (f2 dIx (aA 1) (fC (.int 0)))))) (aR (fIf (aL (mS (fT (aG GC (aB (fP "Builder" "can_stand" (aA 0)) (aB (aA 2) aD)))))) lY aY) (aR (jQ 0 bS "Builder" "taken" (f2 aZ (eD "Builder" "taken" (aA 0)) (fC (.int 1)))) (pH fJ mZ kS))):=rfl
 have s1:bF 2 (aJ (dI (f2 dIx (aA 1) (fC (.int 0))))) [some (aI n fs),some (tkD t),none,none]=some (.nx,[some (aI n fs),some (tkD t),some (.str (bJ t)),none]):=by
  refine cC ?_
  rw [vG];simp! [eq_self]
 have s2:fIf (aL (mS (fT (aG GC (aB (fP "Builder" "can_stand" (aA 0)) (aB (aA 2) aD)))))) lY aY [some (aI n fs),some (tkD t),some (.str (bJ t)),none]=some (.nx,[some (aI n fs),some (tkD t),some (.str (bJ t)),none]):=by
  refine(jE (p':=[some (aI n fs),some (tkD t),some (.str (bJ t)),none]) ?_).trans rfl
  have e1:aG GC (aB (fP "Builder" "can_stand" (aA 0)) (aB (aA 2) aD)) [some (aI n fs),some (tkD t),some (.str (bJ t)),none]=some (.bl true):=aU (aO (d:=aI n fs) (by simp! [aI]) (aO rfl rfl)) hc
  unfold aL mS fT
  rw [e1];rfl
 have s3:jQ 0 bS "Builder" "taken" (f2 aZ (eD "Builder" "taken" (aA 0)) (fC (.int 1))) [some (aI n fs),some (tkD t),some (.str (bJ t)),none]=some (.nx,[some (aI (n+1) fs),some (tkD t),some (.str (bJ t)),none]):=by
  have en:((n:Int)+1)=((n+1:Nat):Int):=by omega
  simp! [aI]
 have z:=(congrFun e [some (aI n fs),some (tkD t),none,none]).trans ((aE s1).trans ((aE s2).trans ((aE s3).trans q)))
 unfold gE
 refine(if_pos rfl).trans ?_
 show(jW GC fJ mZ kS [some (aI n fs),some (tkD t),none,none]).bind _=_
 rw [z]
 simp! [eq_self]
theorem xu9(t:Tk)(p0:Option D)(h:¬yO t):aL (fB (f2 dIn (aA 2) (fC (.tup [(.str "open"),(.str "hang"),(.str "either")])))) [p0,some (tkD t),some (.str (bJ t)),none]=some (false,[p0,some (tkD t),some (.str (bJ t)),none]):=by
 cases t with
 |opn=>exact absurd (.inl rfl) h
 |hng m=>exact absurd (.inr (.inl ⟨m,rfl⟩)) h
 |eit=>exact absurd (.inr (.inr rfl)) h
 |leaf l=>cases l<;>simp! [bJ]
 |_=>simp! [bJ]
theorem wd8(p0:Option D):aL (fB (f2 dEq (aA 2) (fC (.str "or")))) [p0,some (tkD .orr),some (.str (bJ .orr)),none]=some (true,[p0,some (tkD .orr),some (.str (bJ .orr)),none]):=by simp! [bJ]
theorem xv0(l:Leaf)(p0 p1:Option D):aL (fB (f2 dIn (aA 2) (fC (.tup [(.str "open"),(.str "hang"),(.str "either")])))) [p0,p1,some (.str (bJ (.leaf l))),none]=some (false,[p0,p1,some (.str (bJ (.leaf l))),none]):=by cases l<;>simp! [bJ]
theorem wd9(l:Leaf)(p0 p1:Option D):aL (fB (f2 dEq (aA 2) (fC (.str "or")))) [p0,p1,some (.str (bJ (.leaf l))),none]=some (false,[p0,p1,some (.str (bJ (.leaf l))),none]):=by cases l<;>simp! [bJ]
theorem wb1(l:Leaf)(p0 p1:Option D):aL (pF dN (aA 2)) [p0,p1,some (.str (bJ (.leaf l))),none]=some (false,[p0,p1,some (.str (bJ (.leaf l))),none]):=by cases l<;>simp! [bJ]
theorem xd3{n:Nat}{fs:List Fm}{t:Tk}(hfs:fs≠[])(ht:yO t)(h:zW n fs t)(hl:fs.length<=900):sC [aI n fs,tkD t]=some (.non,[aI (n+1) (⟨some t,[],[]⟩::fs),tkD t]):=by
 refine zc1 (y3:=none) hfs h ?_
 have q:fJ [.obj true "Nest" [] [],tkD t]=some (.non,[cL ⟨some t,[],[]⟩,tkD t]):=zl4 (some t)
 have hi:=xC t
 generalize fJ=G at q|-
 have hz:(eE fs).length<sizeLine:=by rw [oK];exact sz1 (by omega)
 have hb:aI (n+1) (⟨some t,[],[]⟩::fs)= .obj true "Builder" nsB [.int ((n+1:Nat):Int),.lst true (eE fs++[cL ⟨some t,[],[]⟩])]:=rfl
 rw [hb]
 have c1:aL (fB (f2 dIn (aA 2) (fC (.tup [(.str "open"),(.str "hang"),(.str "either")])))) [some (aI (n+1) fs),some (tkD t),some (.str (bJ t)),none]=some (true,[some (aI (n+1) fs),some (tkD t),some (.str (bJ t)),none]):=by
  rcases ht with rfl|⟨m,rfl⟩|rfl<;>simp! [bJ]
 unfold pH
 refine(pK c1).trans ?_
 generalize tkD t=d at q hi|-
 simp! [aI,hi,q,hz]
theorem xv1{n:Nat}{f:Fm}{fs:List Fm}(hf:f.op=some .eit)(h3:f.full.length<3)(h:zW n (f::fs) .orr):sC [aI n (f::fs),tkD .orr]=some (.non,[aI (n+1) ({f with full:=f.full++[f.parts],parts:=[]}::fs),tkD .orr]):=by
 refine zc1 (y3:=none) (by simp! [eq_self]) h ?_
 have q:=yl2 (f:=f) (by omega)
 generalize mZ=G at q|-
 have hb:∀g:Fm,aI (n+1) (g::fs)= .obj true "Builder" nsB [.int ((n+1:Nat):Int),.lst true (eE fs++[cL g])]:=fun _=>rfl
 rw [hb,hb]
 have hm:nJ "Nest" "end_row" G [] (cL f)=some (.non,cL {f with full:=f.full++[f.parts],parts:=[]}):=by
  have nf:dD nsN "end_row"=none:=by simp! [eq_self]
  show(if (("Nest":Str)="Nest"/\dD nsN "end_row"=none) then(G [cL f]).bind _ else none)=_
  rw [if_pos ⟨rfl,nf⟩,q];rfl
 generalize cL {f with full:=f.full++[f.parts],parts:=[]}=N' at hm|-
 generalize cL f=N at hm|-
 unfold pH
 refine(jE (xu9 _ _ (by simp! [yO]))).trans ((pK (wd8 _)).trans ?_)
 simp! [hm]
theorem xd4{n:Nat}{f:Fm}{fs:List Fm}{l:Leaf}(h:zW n (f::fs) (.leaf l))(hl:f.parts.length<=900):sC [aI n (f::fs),tkD (.leaf l)]=some (.non,[aI (n+1) (put f (.leaf l)::fs),tkD (.leaf l)]):=by
 refine zc1 (y3:=none) (by simp! [eq_self]) h ?_
 have hz:(pcsD f.parts).length<sizeLine:=by rw [rK];exact sz1 (by omega)
 have ep:pcsD (f.parts++[.leaf l])=pcsD f.parts++[dW l]:=by rw [rJ];rfl
 have hi:=zL l
 have hb:∀g:Fm,aI (n+1) (g::fs)= .obj true "Builder" nsB [.int ((n+1:Nat):Int),.lst true (eE fs++[.obj true "Nest" nsN [opD g.op,.lst true (rowsD g.full),.lst true (pcsD g.parts)]])]:=fun _=>rfl
 rw [hb,hb]
 show pH fJ mZ kS [_,some (dW l),_,_]=some (.nx,[some (.obj true "Builder" nsB [.int ((n+1:Nat):Int),.lst true (eE fs++[.obj true "Nest" nsN [opD f.op,.lst true (rowsD f.full),.lst true (pcsD (f.parts++[.leaf l]))]])]),some (dW l),_,_])
 rw [ep]
 generalize dW l=d at hi|-
 unfold pH
 exact(jE (xv0 l _ _)).trans ((jE (wd9 l _ _)).trans ((jE (wb1 l _ _)).trans (by simp! [hi,hz])))
theorem zP{n:Nat}{f g:Fm}{fs:List Fm}{t:Tk}(ht:(f.op=some .opn/\t= .cls)\/(∃m,f.op=some (.hng m)/\t= .bck)\/(f.op=some .eit/\t= .don))(h:zW n (f::g::fs) t)(hl:g.parts.length<=900)(hfl:f.full.length<=900):
  sC [aI n (f::g::fs),tkD t]=some (.non,[aI (n+1) (put g (fX f)::fs),tkD t]):=by
 refine zc1 (y3:=some (cL f)) (by simp! [eq_self]) h ?_
 have q:=yb1 (f:=f) (ht.elim (fun z=> .inl z.1) fun z=>z.elim (fun⟨m,z,_⟩=> .inr (.inl ⟨m,z⟩)) fun z=> .inr (.inr z.1)) hfl
 have hz:(pcsD g.parts).length<sizeLine:=by rw [rK];exact sz1 (by omega)
 have ep:pcsD (g.parts++[fX f])=pcsD g.parts++[pcD (fX f)]:=by rw [rJ];rfl
 generalize kS=G at q|-
 have e1:aI (n+1) (f::g::fs)= .obj true "Builder" nsB [.int ((n+1:Nat):Int),.lst true (eE fs++[cL g]++[cL f])]:=rfl
 have e2:aI (n+1) (put g (fX f)::fs)= .obj true "Builder" nsB [.int ((n+1:Nat):Int),.lst true (eE fs++[.obj true "Nest" nsN [opD g.op,.lst true (rowsD g.full),.lst true (pcsD (g.parts++[fX f]))]])]:=rfl
 rw [e1,e2,ep]
 have c1:∀p0:Option D,aL (fB (f2 dIn (aA 2) (fC (.tup [(.str "open"),(.str "hang"),(.str "either")])))) [p0,some (tkD t),some (.str (bJ t)),none]=some (false,[p0,some (tkD t),some (.str (bJ t)),none]):=fun p0=>by
  rcases ht with ⟨_,rfl⟩|⟨m,_,rfl⟩|⟨_,rfl⟩<;>simp! [bJ]
 have c2:∀p0:Option D,aL (fB (f2 dEq (aA 2) (fC (.str "or")))) [p0,some (tkD t),some (.str (bJ t)),none]=some (false,[p0,some (tkD t),some (.str (bJ t)),none]):=fun p0=>by
  rcases ht with ⟨_,rfl⟩|⟨m,_,rfl⟩|⟨_,rfl⟩<;>simp! [bJ]
 have c3:∀p0:Option D,aL (pF dN (aA 2)) [p0,some (tkD t),some (.str (bJ t)),none]=some (true,[p0,some (tkD t),some (.str (bJ t)),none]):=fun p0=>by
  rcases ht with ⟨_,rfl⟩|⟨m,_,rfl⟩|⟨_,rfl⟩<;>simp! [bJ]
 have s1:bF 3 (dG 0 (iN 0 bS "Builder" "nests") aD qK) [some (.obj true "Builder" nsB [.int ((n+1:Nat):Int),.lst true (eE fs++[cL g]++[cL f])]),some (tkD t),some (.str (bJ t)),none]=some (.nx,[some (.obj true "Builder" nsB [.int ((n+1:Nat):Int),.lst true (eE fs++[cL g])]),some (tkD t),some (.str (bJ t)),some (cL f)]):=by
  generalize eE fs++[cL g]=Z
  generalize cL f=N
  simp! [eq_self]
 have s2:aG G (aB (fP "Nest" "as_piece" (aA 3)) aD) [some (.obj true "Builder" nsB [.int ((n+1:Nat):Int),.lst true (eE fs++[cL g])]),some (tkD t),some (.str (bJ t)),some (cL f)]=some (pcD (fX f)):=
  aU (aO (d:=cL f) (by simp! [cL]) rfl) q
 unfold pH
 refine(jE (c1 _)).trans ((jE (c2 _)).trans ((pK (c3 _)).trans ((aE s1).trans ?_)))
 generalize pcD (fX f)=d at s2|-
 have s3:=aO (g:=aD) (ds:=[]) s2 rfl
 generalize aB (aG G (aB (fP "Nest" "as_piece" (aA 3)) aD)) aD=A at s3|-
 simp! [cL] at s3|-
 simp! [s3,hz]
def opB:Tk->Bool
 | .opn=>true
 | .hng _=>true
 | .eit=>true
 |_=>false
def sZ(o:Option Tk)(k:Nat)(t:Tk):Bool:=match o,t with
 |some .opn,.cls=>true
 |some (.hng _),.bck=>true
 |some .eit,.orr=>decide (k<3)
 |some .eit,.don=>decide (0<k)
 |_,_=>false
def yo0(fs:List Fm):Tk->Bool
 | .leaf _=>true
 | .opn=>decide (fs.length<=12)
 | .hng _=>decide (fs.length<=12)
 | .eit=>decide (fs.length<=12)
 |t=>match fs with
  |f::_=>sZ f.op f.full.length t
  |[]=>false
def pI(n:Nat)(fs:List Fm)(t:Tk):Bool:=decide (n<200)&&yo0 fs t
def Wf:List Fm->Prop
 |[]=>False
 |[f]=>f.op=none
 |f::g::r=>(∃t,f.op=some t/\opB t=true)/\Wf (g::r)
theorem Wf.put{f:Fm}{r:List Fm}{p:Pc}(h:Wf (f::r)):Wf (My.put f p::r):=by
 cases r with
 |nil=>exact h
 |cons g r=>exact h
theorem Wf.push{f:Fm}{r:List Fm}{t:Tk}(h:Wf (f::r))(ht:opB t=true):Wf (⟨some t,[],[]⟩::f::r):=⟨⟨t,rfl,ht⟩,h⟩
theorem Wf.tail{f g:Fm}{r:List Fm}(h:Wf (f::g::r)):Wf (g::r):=h.2
theorem Wf.two{f:Fm}{r:List Fm}{t:Tk}(h:Wf (f::r))(e:f.op=some t):∃g r',r=g::r':=by
 cases r with
 |nil=>rw [show f.op=none from h] at e;cases e
 |cons g r=>exact⟨g,r,rfl⟩
theorem Wf.op{f:Fm}{r:List Fm}(h:Wf (f::r)):f.op=none\/f.op=some .opn\/(∃n,f.op=some (.hng n))\/f.op=some .eit:=by
 cases r with
 |nil=>exact .inl h
 |cons g r=>
  obtain⟨⟨t,e,ht⟩,_⟩:=h
  cases t<;>first|(cases ht;done)|exact .inr (.inl e)|exact .inr (.inr (.inl ⟨_,e⟩))|exact .inr (.inr (.inr e))
theorem zl5{o:Option Tk}{k:Nat}{t:Tk}(h:sZ o k t=true):(o=some .opn/\t= .cls)\/(∃n,o=some (.hng n)/\t= .bck)\/(o=some .eit/\t= .orr/\k<3)\/(o=some .eit/\t= .don/\0<k):=by
 unfold sZ at h
 split at h
 ·exact .inl ⟨rfl,rfl⟩
 ·exact .inr (.inl ⟨_,rfl,rfl⟩)
 ·exact .inr (.inr (.inl ⟨rfl,rfl,of_decide_eq_true h⟩))
 ·exact .inr (.inr (.inr ⟨rfl,rfl,of_decide_eq_true h⟩))
 ·cases h
inductive Goes:List Fm->Tk->List Fm->Prop
 |leaf {f:Fm} {r:List Fm} {l:Leaf}:Goes (f::r) (.leaf l) (put f (.leaf l)::r)
 |opn {fs:List Fm} {t:Tk} (ht:opB t=true) (hl:fs.length<=12):Goes fs t (⟨some t,[],[]⟩::fs)
 |orr {f:Fm} {r:List Fm} (ho:f.op=some .eit) (hl:f.full.length<3):Goes (f::r) .orr ({f with full:=f.full++[f.parts],parts:=[]}::r)
 |cls {f g:Fm} {r:List Fm} (ho:f.op=some .opn):Goes (f::g::r) .cls (put g (.group f.parts)::r)
 |bck {f g:Fm} {r:List Fm} {n:Int} (ho:f.op=some (.hng n)):Goes (f::g::r) .bck (put g (.hang n f.parts)::r)
 |don {f g:Fm} {r:List Fm} (ho:f.op=some .eit) (hl:0<f.full.length):Goes (f::g::r) .don (put g (.either (f.full++[f.parts]))::r)
theorem yf1{n:Nat}{fs:List Fm}{t:Tk}(w:Wf fs)(h:pI n fs t=true):∃g,Goes fs t g/\Wf g:=by
 cases fs with
 |nil=>exact w.elim
 | cons f r=>
  obtain⟨_,h⟩:=Bool.and_eq_true_iff.mp h
  have sh:yo0 (f::r) t=sZ f.op f.full.length t->∃g,Goes (f::r) t g/\Wf g:=fun e=>by
   rw [e] at h
   rcases zl5 h with ⟨h1,rfl⟩|⟨m,h1,rfl⟩|⟨h1,rfl,h2⟩|⟨h1,rfl,h2⟩
   ·obtain⟨g,r',rfl⟩:=w.two h1;exact⟨_,.cls h1,w.tail.put⟩
   ·obtain⟨g,r',rfl⟩:=w.two h1;exact⟨_,.bck h1,w.tail.put⟩
   ·obtain⟨g,r',rfl⟩:=w.two h1;exact⟨_,.orr h1 h2,⟨.eit,h1,rfl⟩,w.tail⟩
   ·obtain⟨g,r',rfl⟩:=w.two h1;exact⟨_,.don h1 h2,w.tail.put⟩
  cases t with
  |leaf l=>exact⟨_,.leaf,w.put⟩
  |opn=>exact⟨_,.opn rfl (of_decide_eq_true h),w.push rfl⟩
  |hng m=>exact⟨_,.opn rfl (of_decide_eq_true h),w.push rfl⟩
  |eit=>exact⟨_,.opn rfl (of_decide_eq_true h),w.push rfl⟩
  |cls=>exact sh rfl
  |bck=>exact sh rfl
  |orr=>exact sh rfl
  |don=>exact sh rfl
theorem xF{fs g:List Fm}{t:Tk}(h:Goes fs t g):step fs t=some g:=by
 cases h with
 |leaf=>rfl
 |opn ht hl=>cases t<;>first|(cases ht;done)|(cases fs<;>rfl)
 |orr ho hl=>rename_i f r;obtain⟨o,fl,ps⟩:=f;cases ho;rfl
 |cls ho=>rename_i f g r;obtain⟨o,fl,ps⟩:=f;cases ho;rfl
 |bck ho=>rename_i f g r n;obtain⟨o,fl,ps⟩:=f;cases ho;rfl
 |don ho hl=>
  rename_i f g r
  obtain⟨o,fl,ps⟩:=f
  cases ho
  show(if fl=[] then none else _)=_
  rw [if_neg]
  intro z
  rw [show fl.length=0 by rw [z];rfl] at hl
  exact absurd hl (Nat.lt_irrefl 0)
theorem zh9{n:Nat}{fs g:List Fm}{t:Tk}(w:Wf fs)(hf:pI n fs t=true)(hg:Goes fs t g):Wf g:=by
 obtain⟨g',h1,h2⟩:=yf1 w hf
 have e1:=xF h1
 rw [xF hg] at e1
 cases e1
 exact h2
inductive Walk8:Nat->List Fm->List Tk->List Fm->Prop
 |nil {n:Nat} {fs:List Fm}:Walk8 n fs [] fs
 |cons {n:Nat} {fs g fs':List Fm} {t:Tk} {ts:List Tk} (hf:pI n fs t=true) (hg:Goes fs t g) (h:Walk8 (n+1) g ts fs'):Walk8 n fs (t::ts) fs'
theorem yf2:∀(ts:List Tk) (n:Nat) (fs:List Fm),Wf fs->(∃fs',Walk8 n fs ts fs'/\Wf fs')\/∃a t b g,ts=a++t::b/\Walk8 n fs a g/\Wf g/\pI (n+a.length) g t=false
 |[],n,fs,w=> .inl ⟨fs,.nil,w⟩
 | t::ts,n,fs,w=>by
  cases h:pI n fs t with
  |false=>exact .inr ⟨[],t,ts,fs,rfl,.nil,w,h⟩
  |true=>
   obtain⟨g,hg,wg⟩:=yf1 w h
   rcases yf2 ts (n+1) g wg with ⟨fs',h1,h2⟩|⟨a,t',b,g',rfl,h1,h2,h3⟩
   ·exact .inl ⟨fs',.cons h hg h1,h2⟩
   ·exact .inr ⟨t::a,t',b,g',rfl,.cons h hg h1,h2,by rw [List.length_cons,show n+(a.length+1)=n+1+a.length by omega];exact h3⟩
theorem zv1:∀{ts:List Tk} {n:Nat} {fs fs':List Fm},Walk8 n fs ts fs'->run fs ts=some fs'
 |_,_,_,_,.nil=>rfl
 |_,_,_,_,.cons (t:=t) (ts:=ts) (fs:=fs) (fs':=fs') _ hg h=>by
  show(step fs t).bind (fun g=>run g ts)=some fs'
  rw [xF hg];exact zv1 h
theorem vI:∀{ts:List Tk} {n:Nat} {fs fs':List Fm},Walk8 n fs ts fs'->ts≠[]->n+ts.length<=200
 |_,_,_,_,.nil,h=>absurd rfl h
 |_,n,_,_,.cons (ts:=ts) hf _ h,_=>by
  have h0:n<200:=of_decide_eq_true (Bool.and_eq_true_iff.mp hf).1
  rw [List.length_cons]
  cases ts with
  |nil=>show n+(0+1)<=200;omega
  |cons t' ts=>have:=vI h (by simp);rw [List.length_cons] at this|-;omega
def Bd8(n:Nat)(fs:List Fm):Prop:=fs.length<=13/\∀f∈fs,f.parts.length<=n/\f.full.length<=3
theorem uD{n:Nat}{fs g:List Fm}{t:Tk}(b:Bd8 n fs)(h:Goes fs t g):Bd8 (n+1) g:=by
 obtain⟨b1,b2⟩:=b
 have up:∀{x:Fm},x∈fs->x.parts.length<=n+1/\x.full.length<=3:=fun {x} hx=>by have:=b2 x hx;omega
 cases h with
 | leaf=>
  rename_i f r l
  refine⟨b1,fun x hx=> ?_⟩
  rcases List.mem_cons.mp hx with rfl|hx
  ·have:=b2 f List.mem_cons_self
   exact⟨by show(f.parts++[_]).length<=_;simp;omega,by show f.full.length<=_;omega⟩
  ·exact up (List.mem_cons_of_mem _ hx)
 |opn ht hl=>
  refine⟨by rw [List.length_cons];omega,fun x hx=> ?_⟩
  rcases List.mem_cons.mp hx with rfl|hx
  ·exact⟨Nat.zero_le _,Nat.zero_le _⟩
  ·exact up hx
 | orr ho hl=>
  rename_i f r
  refine⟨b1,fun x hx=> ?_⟩
  rcases List.mem_cons.mp hx with rfl|hx
  ·have:=b2 f List.mem_cons_self
   exact⟨Nat.zero_le _,by show(f.full++[_]).length<=_;simp;omega⟩
  ·exact up (List.mem_cons_of_mem _ hx)
 | cls ho=>
  rename_i f g r
  refine⟨by simp at b1|-;omega,fun x hx=> ?_⟩
  rcases List.mem_cons.mp hx with rfl|hx
  ·have:=b2 g (by simp)
   exact⟨by show(g.parts++[_]).length<=_;simp;omega,by show g.full.length<=_;omega⟩
  ·exact up (by simp [hx])
 | bck ho=>
  rename_i f g r m
  refine⟨by simp at b1|-;omega,fun x hx=> ?_⟩
  rcases List.mem_cons.mp hx with rfl|hx
  ·have:=b2 g (by simp)
   exact⟨by show(g.parts++[_]).length<=_;simp;omega,by show g.full.length<=_;omega⟩
  ·exact up (by simp [hx])
 | don ho hl=>
  rename_i f g r
  refine⟨by simp at b1|-;omega,fun x hx=> ?_⟩
  rcases List.mem_cons.mp hx with rfl|hx
  ·have:=b2 g (by simp)
   exact⟨by show(g.parts++[_]).length<=_;simp;omega,by show g.full.length<=_;omega⟩
  ·exact up (by simp [hx])
theorem yf3:∀{ts:List Tk} {n:Nat} {fs fs':List Fm},Walk8 n fs ts fs'->Bd8 n fs->Bd8 (n+ts.length) fs'
 |_,_,_,_,.nil,b=>b
 |_,n,_,_,.cons (ts:=ts) _ hg h,b=>by
  have:=yf3 h (uD b hg)
  rw [List.length_cons,show n+(ts.length+1)=n+1+ts.length by omega];exact this
theorem yf4{n:Nat}{fs:List Fm}{t:Tk}(h:pI n fs t=true):zW n fs t:=by
 obtain⟨h1,h2⟩:=Bool.and_eq_true_iff.mp h
 refine⟨of_decide_eq_true h1,?_⟩
 have sh:∀{f:Fm} {r:List Fm},fs=f::r->sZ f.op f.full.length t=true->(∃l,t= .leaf l)\/(yO t/\fs.length<=12)\/∃f r,fs=f::r/\yn9 f t:=fun e q=>by
  refine .inr (.inr ⟨_,_,e,?_⟩)
  rcases zl5 q with ⟨h1,h2⟩|⟨m,h1,h2⟩|⟨h1,h2,h3⟩|⟨h1,h2,h3⟩
  ·exact .inl ⟨h1,h2⟩
  ·exact .inr (.inl ⟨m,h1,h2⟩)
  ·exact .inr (.inr (.inl ⟨h1,h2,h3⟩))
  ·exact .inr (.inr (.inr ⟨h1,h2,fun z=>by rw [z] at h3;exact absurd h3 (Nat.lt_irrefl 0)⟩))
 cases t with
 |leaf l=>exact .inl ⟨l,rfl⟩
 |opn=>exact .inr (.inl ⟨.inl rfl,of_decide_eq_true h2⟩)
 |hng m=>exact .inr (.inl ⟨.inr (.inl ⟨m,rfl⟩),of_decide_eq_true h2⟩)
 |eit=>exact .inr (.inl ⟨.inr (.inr rfl),of_decide_eq_true h2⟩)
 |_=>
  cases fs with
  |nil=>cases h2
  |cons f r=>exact sh rfl h2
theorem zv2{n:Nat}{fs g:List Fm}{t:Tk}(w:Wf fs)(b:Bd8 n fs)(hn:n<=200)(hf:pI n fs t=true)(hg:Goes fs t g):sC [aI n fs,tkD t]=some (.non,[aI (n+1) g,tkD t]):=by
 have ft:=yf4 hf
 obtain⟨b1,b2⟩:=b
 cases hg with
 |leaf=>rename_i f r l;exact xd4 ft (by have:=b2 f List.mem_cons_self;omega)
 |opn ht hl=>
  have hi:yO t:=by cases t<;>first|(cases ht;done)|exact .inl rfl|exact .inr (.inl ⟨_,rfl⟩)|exact .inr (.inr rfl)
  cases fs with
  |nil=>exact w.elim
  |cons f r=>exact xd3 (by simp! [gE,eO]) hi ft (by omega)
 |orr ho hl=>exact xv1 ho hl ft
 |cls ho=>
  rename_i f g r
  have:=zP (f:=f) (g:=g) (fs:=r) (.inl ⟨ho,rfl⟩) ft (by have:=b2 g (by simp! [gE,eO]);omega) (by have:=b2 f (by simp! [gE,eO]);omega)
  rwa [show fX f= .group f.parts by unfold fX;rw [ho]] at this
 |bck ho=>
  rename_i f g r m
  have:=zP (f:=f) (g:=g) (fs:=r) (.inr (.inl ⟨m,ho,rfl⟩)) ft (by have:=b2 g (by simp! [gE,eO]);omega) (by have:=b2 f (by simp! [gE,eO]);omega)
  rwa [show fX f= .hang m f.parts by unfold fX;rw [ho]] at this
 |don ho hl=>
  rename_i f g r
  have:=zP (f:=f) (g:=g) (fs:=r) (.inr (.inr ⟨ho,rfl⟩)) ft (by have:=b2 g (by simp! [gE,eO]);omega) (by have:=b2 f (by simp! [gE,eO]);omega)
  rwa [show fX f= .either (f.full++[f.parts]) by unfold fX;rw [ho]] at this
def xP(t:Tk):Prop:=t= .cls\/t= .bck\/t= .orr\/t= .don
theorem yl4{f:Fm}{t:Tk}(ho:f.op=none\/f.op=some .opn\/(∃n,f.op=some (.hng n))\/f.op=some .eit)(ht:xP t)(h:sZ f.op f.full.length t=false):nS [cL f,.str (bJ t)]=some (.bl false):=by
 rcases ho with h1|h1|⟨n,h1⟩|h1<;>rw [h1] at h
 ·rcases ht with rfl|rfl|rfl|rfl<;>simp! [gE,eO,cT,cL,h1,opD,bJ]
 ·rcases ht with rfl|rfl|rfl|rfl<;>first|(cases h;done)|simp! [gE,eO,cT,cL,h1,opD,tkD,bJ]
 ·rcases ht with rfl|rfl|rfl|rfl<;>first|(cases h;done)|simp! [gE,eO,cT,cL,h1,opD,tkD,bJ]
 ·rcases ht with rfl|rfl|rfl|rfl
  ·simp! [gE,eO,cT,cL,h1,opD,tkD,bJ]
  ·simp! [gE,eO,cT,cL,h1,opD,tkD,bJ]
  ·have h3:¬((rowsD f.full).length:Int)+1<4:=by rw [fS];have:=of_decide_eq_false h;omega
   simp! [gE,eO,cT,cL,h1,opD,tkD,bJ,h3]
  ·have h3:¬(2:Int)<=((rowsD f.full).length:Int)+1:=by rw [fS];have:=of_decide_eq_false h;omega
   simp! [gE,eO,cT,cL,h1,opD,tkD,bJ,h3]
abbrev yy1:tz1:=aR (fIf (aL (fB (f2 dIn (aA 1) (fC (.tup [(.str "open"),(.str "hang"),(.str "either")]))))) (cA (aJ (f2 dLt (f2 eO (aG bU (aB (eD "Builder" "nests" (aA 0)) aD)) (fC (.int 1))) (fC (.int 12))))) aY) (aR (fIf (aL (pF dN (aA 1))) (cA (aJ (aG nS (aB (fP "Nest" "can_end_by" (f2 dIx (eD "Builder" "nests" (aA 0)) (dR (fC (.int 1))))) (aB (aA 1) aD))))) aY) (cA (aJ (fC (.bl true)))))
theorem zv3{n:Nat}{fs:List Fm}{t:Tk}(w:Wf fs)(h:pI n fs t=false):iZ [aI n fs,.str (bJ t)]=some (.bl false):=by
 have nst:eD "Builder" "nests" (aA 0) [some (aI n fs),some (.str (bJ t))]=some (.lst true (eE fs)):=by kernel_rfl
 have c1:fB (f2 dGe (eD "Builder" "taken" (aA 0)) (fC (.int 200))) [some (aI n fs),some (.str (bJ t))]=some (decide (200<=n)):=eA (aT (x:= .int n) (by kernel_rfl) rfl (show some (D.bl (decide ((200:Int)<=(n:Int))))=_ by congr 2;exact decide_eq_decide.mpr (by omega)))
 suffices q:∃q,fE nS [some (aI n fs),some (.str (bJ t))]=some (.ret (.bl false),q) from by
  obtain⟨q,hq⟩:=q;exact cR rfl hq
 unfold fE
 by_cases hn:200<=n
 ·rw [decide_eq_true hn] at c1
  exact⟨_,cO ((cP c1).trans (bQ rfl))⟩
 ·rw [decide_eq_false hn] at c1
  rw [aE (bG c1)]
  have hf:yo0 fs t=false:=by
   unfold pI at h
   rw [decide_eq_true (show n<200 by omega)] at h
   simpa using h
  have op:opB t=true->¬fs.length<=12->∃q,yy1 [some (aI n fs),some (.str (bJ t))]=some (.ret (.bl false),q):=fun ht hl=>by
   have ln:f2 dLt (f2 eO (aG bU (aB (eD "Builder" "nests" (aA 0)) aD)) (fC (.int 1))) (fC (.int 12)) [some (aI n fs),some (.str (bJ t))]=some (.bl false):=by
    refine aT (aT (aU (aO nst rfl) rfl) rfl rfl) rfl ?_
    show some (D.bl (decide ((((eE fs).length:Nat):Int)-1<12)))=_
    rw [decide_eq_false (by rw [oK];omega)]
   have c2:fB (f2 dIn (aA 1) (fC (.tup [(.str "open"),(.str "hang"),(.str "either")]))) [some (aI n fs),some (.str (bJ t))]=some true:=by
    cases t<;>first|(cases ht;done)|kernel_rfl
   exact⟨_,cO ((cP c2).trans (bQ ln))⟩
  have sh:xP t->∀{f:Fm} {r:List Fm},fs=f::r->sZ f.op f.full.length t=false->∃q,yy1 [some (aI n fs),some (.str (bJ t))]=some (.ret (.bl false),q):=fun ht f r e hs=>by
   subst e
   have q:=yl4 w.op ht hs
   have rc:aG nS (aB (fP "Nest" "can_end_by" (f2 dIx (eD "Builder" "nests" (aA 0)) (dR (fC (.int 1))))) (aB (aA 1) aD)) [some (aI n (f::r)),some (.str (bJ t))]=some (.bl false):=by
    refine aU (ds:=[cL f,.str (bJ t)]) (aO ?_ (aO rfl rfl)) q
    unfold fP
    rw [aT nst rfl (show dIx (.lst true (eE r++[cL f])) (.int (-1))=some (cL f) from yf0 _ _)]
    kernel_rfl
   have c2:fB (f2 dIn (aA 1) (fC (.tup [(.str "open"),(.str "hang"),(.str "either")]))) [some (aI n (f::r)),some (.str (bJ t))]=some false:=by
    rcases ht with rfl|rfl|rfl|rfl<;>kernel_rfl
   have c3:pF dN (aA 1) [some (aI n (f::r)),some (.str (bJ t))]=some true:=by
    rcases ht with rfl|rfl|rfl|rfl<;>kernel_rfl
   exact⟨_,(aE (bG c2)).trans (cO ((cP c3).trans (bQ rc)))⟩
  cases fs with
  |nil=>exact w.elim
  |cons f r=>
   cases t with
   |leaf l=>cases hf
   |opn=>exact op rfl (of_decide_eq_false hf)
   |hng m=>exact op rfl (of_decide_eq_false hf)
   |eit=>exact op rfl (of_decide_eq_false hf)
   |cls=>exact sh (.inl rfl) rfl hf
   |bck=>exact sh (.inr (.inl rfl)) rfl hf
   |orr=>exact sh (.inr (.inr (.inl rfl))) rfl hf
   |don=>exact sh (.inr (.inr (.inr rfl))) rfl hf
theorem zi0{k:Nat}(h:k<=1000):L2.ze9 (.int ((k:Int)+1))=some ((k:Int)+1):=by
 unfold L2.ze9
 refine if_pos ?_
 have e:((k:Int)+1).natAbs=k+1:=by omega
 rw [e]
 exact Nat.lt_of_le_of_lt (Nat.log2_le_self _) (by omega)
abbrev wA:List D->Option Int:=gN 2 2 (iY iZ)
theorem xv2{n:Nat}{fs:List Fm}{t:Tk}{b:Bool}(hc:iZ [aI n fs,.str (bJ t)]=some (.bl b))(hn:n<=1000):wA [aI n fs,tkD t]=if b=true then none else some ((n:Int)+1):=by
 show gN 2 2 (iY iZ) _=_
 generalize iZ=GC at hc
 have s1:bF 2 (aJ (dI (f2 dIx (aA 1) (fC (.int 0))))) [some (aI n fs),some (tkD t),none,none]=some (.nx,[some (aI n fs),some (tkD t),some (.str (bJ t)),none]):=by
  refine cC ?_
  rw [vG];simp! [gE,eO]
 have e1:aG GC (aB (fP "Builder" "can_stand" (aA 0)) (aB (aA 2) aD)) [some (aI n fs),some (tkD t),some (.str (bJ t)),none]=some (.bl b):=aU (aO (d:=aI n fs) (by simp! [gE,eO,aI]) (aO rfl rfl)) hc
 have e2:mS (fT (aG GC (aB (fP "Builder" "can_stand" (aA 0)) (aB (aA 2) aD)))) [some (aI n fs),some (tkD t),some (.str (bJ t)),none]=some (!b):=by
  unfold mS fT
  rw [e1];rfl
 have e3:jR (f2 aZ (eD "Builder" "taken" (aA 0)) (fC (.int 1))) [some (aI n fs),some (tkD t),some (.str (bJ t)),none]=some ((n:Int)+1):=by
  unfold jR
  rw [show f2 aZ (eD "Builder" "taken" (aA 0)) (fC (.int 1)) [some (aI n fs),some (tkD t),some (.str (bJ t)),none]=some (.int ((n:Int)+1)) by simp! [gE,eO,aI]]
  exact zi0 hn
 unfold gN
 refine(if_pos rfl).trans ?_
 show iY GC [some (aI n fs),some (tkD t),none,none]=_
 unfold iY mV
 rw [s1]
 show qL _ _ _=_
 unfold qL
 rw [e2]
 cases b with
 |true=>rfl
 |false=>exact e3
abbrev pJ:List D->Option Int:=gN 1 0 fW
theorem xv3(n:Nat)(fs:List Fm)(hn:n<=1000):pJ [aI n fs]=if 1<fs.length then some ((n:Int)+1) else none:=by
 have e1:fB (f2 dGt (aG bU (aB (eD "Builder" "nests" (aA 0)) aD)) (fC (.int 1))) [some (aI n fs)]=some (decide (1<fs.length)):=by
  refine eA (aT (x:= .int (eE fs).length) (y:= .int 1) (aU (aO (d:= .lst true (eE fs)) (by simp! [gE,eO,aI]) rfl) rfl) rfl ?_)
  show some (D.bl (decide ((1:Int)<((eE fs).length:Int))))=_
  congr 2
  rw [oK]
  exact decide_eq_decide.mpr (by omega)
 have e3:jR (f2 aZ (eD "Builder" "taken" (aA 0)) (fC (.int 1))) [some (aI n fs)]=some ((n:Int)+1):=by
  unfold jR
  rw [show f2 aZ (eD "Builder" "taken" (aA 0)) (fC (.int 1)) [some (aI n fs)]=some (.int ((n:Int)+1)) by simp! [gE,eO,aI]]
  exact zi0 hn
 show gN 1 0 fW _=_
 unfold gN
 refine(if_pos rfl).trans ?_
 show fW [some (aI n fs)]=_
 unfold fW qL
 rw [e1]
 by_cases h:1<fs.length
 ·rw [if_pos h,decide_eq_true h];exact e3
 ·rw [if_neg h,decide_eq_false h]
theorem wf0:Wf [iF]:=rfl
theorem bd0:Bd8 0 [iF]:=⟨by simp! [gE,eO],fun f hf=>by rw [List.mem_singleton.mp hf];exact⟨Nat.le_refl _,Nat.zero_le _⟩⟩
theorem oM:ixN 4 3=some 3:=by decide
theorem oN:ixN 4 2=some 2:=by decide
theorem iL{α:Type}(a b c d:α):atI [a,b,c,d] 3=some d:=rfl
abbrev zf3:tz7:=gE 1 5 (dE [true]) pY
theorem we0{N:List D}{a b c d:D}:xK [1,2,3,4] (dG 0 bS aD qK) [some (.lst true (N++[.lst true [a,b,c,d]])),none,none,none,none,none]=some (.nx,[some (.lst true N),some a,some b,some c,some d,none]):=by
 simp! [dZ,iM,fR,bX,bL,fSl,cQ,cS,xK,zy8,vQ,gE,fIO,cX,bO,bW,oM,oN,iL]
theorem kd1{p:PSt}{k w:String}{b:Bool}(hp:p[1]? =some (some (.str k)))(h:decide (k=w)=b):fB (f2 dEq (aA 1) (fC (.str w))) p=some b:=by
 refine eA (aT (ye7 hp) rfl ?_)
 show some (D.bl (decide ((k:Str)=(w:Str))))=_
 rw [<-h]
 congr 2
 exact decide_eq_decide.mpr (by rw [uA])
theorem xd5{f g:Gm}{fs:List Gm}(hk:1<=f.kd/\f.kd<=3)(hf:f.kd≠3->f.full=[])(hfl:f.full.length<=3)(hg:g.parts.length<=900):zf3 [.lst true (cE (f::g::fs))]=some (.non,[.lst true (cE (lG g (gQ f)::fs))]):=by
 obtain⟨kd,n,full,parts⟩:=f
 have hfl':full.length<=3:=hfl
 have hz:(pcsD g.parts).length<sizeLine:=by rw [rK];exact sz1 (by omega)
 have s2:∀K x0,bF 3 (aJ (f2 aZ (aA 3) (bI (aB (aG gB (aB (aA 4) aD)) aD)))) [x0,some K,some (.int n),some (.lst true (rowsD full)),some (.lst true (pcsD parts)),none]=some (.nx,[x0,some K,some (.int n),some (.lst true (rowsD (full++[parts]))),some (.lst true (pcsD parts)),none]):=fun K x0=>by
  refine cC (aT rfl (eV (aO (aU (aO rfl rfl) (if_pos (pcs_imm parts))) rfl) (Nat.le_of_ble_eq_true rfl)) ?_)
  rw [pS]
  refine pT (rows_imm full) (rows_imm [parts]) ?_
  rw [fS];show full.length+1<=1000;omega
 have s4:∀K x0 x4 (r0:List Pc) rs,bF 5 (aJ (gF (aB (fC (.str "group")) (aB (dI (f2 dIx (aA 3) (fC (.int 0)))) aD)))) [x0,some K,some (.int n),some (.lst true (rowsD (r0::rs))),x4,none]=some (.nx,[x0,some K,some (.int n),some (.lst true (rowsD (r0::rs))),x4,some (pcD (.group r0))]):=fun K x0 x4 r0 rs=>
  cC (uC (aO rfl (aO (yB (aT rfl rfl (xc9 _ _)) (pcs_imm r0)) rfl)) (xD (.group r0)) (Nat.le_of_ble_eq_true rfl))
 have s7:∀(pc:Pc) K x3 x4,cN (dG 0 (fL 0 (fL 0 bS (dR (fC (.int 1)))) (fC (.int 3))) (aB (dI (aA 5)) aD) cK) [some (.lst true (cE fs++[gmD g])),K,some (.int n),x3,x4,some (pcD pc)]=some (.nx,[some (.lst true (cE fs++[gmD (lG g pc)])),K,some (.int n),x3,x4,some (pcD pc)]):=fun pc K x3 x4=>by
  have hi:=xD pc
  have e:gmD (lG g pc)= .lst true [.str (kdS g.kd),.int g.n,.lst true (rowsD g.full),.lst true (pcsD g.parts++[pcD pc])]:=by unfold gmD lG;rw [rJ];rfl
  rw [e]
  unfold gmD
  generalize pcD pc=d at hi|-
  simp! [dZ,iM,fR,bX,bL,fSl,cQ,cS,xK,zy8,vQ,gE,fIO,cX,bO,bW,oM,oN,iL,hi,hz]
 suffices h:∃q1 q2 q3 q4 q5,pY [some (.lst true (cE (⟨kd,n,full,parts⟩::g::fs))),none,none,none,none,none]=some (.nx,[some (.lst true (cE fs++[gmD (lG g (gQ ⟨kd,n,full,parts⟩))])),q1,q2,q3,q4,q5]) from by
  obtain⟨q1,q2,q3,q4,q5,hq⟩:=h
  unfold zf3 gE
  refine(if_pos rfl).trans ?_
  show(pY [some (.lst true (cE (⟨kd,n,full,parts⟩::g::fs))),none,none,none,none,none]).bind _=_
  rw [hq];rfl
 have s1:xK [1,2,3,4] (dG 0 bS aD qK) [some (.lst true (cE (⟨kd,n,full,parts⟩::g::fs))),none,none,none,none,none]=_:=we0
 have e:kd=1\/kd=2\/kd=3:=by have:1<=kd/\kd<=3:=hk;omega
 unfold pY
 rw [aE s1,aE (s2 _ _)]
 rcases e with rfl|rfl|rfl
 ·have e1:full=[]:=hf (by simp! [dZ,iM,fR,bX,bL,fSl,cQ,cS,xK,zy8,vQ,gE,fIO,cX,bO,bW,oM,oN,iL])
  subst e1
  exact⟨_,_,_,_,_,(aE (bG (oH (kd1 (k:="group") rfl (by decide))))).trans ((aE (s4 _ _ _ parts [])).trans ((aE (bG (kd1 (k:="group") rfl (by decide)))).trans ((aE (bG (kd1 (k:="group") rfl (by decide)))).trans (s7 _ _ _ _))))⟩
 ·have e1:full=[]:=hf (by simp! [dZ,iM,fR,bX,bL,fSl,cQ,cS,xK,zy8,vQ,gE,fIO,cX,bO,bW,oM,oN,iL])
  subst e1
  exact⟨_,_,_,_,_,(aE (bG (oH (kd1 (k:="hang") rfl (by decide))))).trans ((aE (s4 _ _ _ parts [])).trans ((aE ((cP (kd1 (k:="hang") rfl (by decide))).trans (cC (uC (aO rfl (aO (yB rfl rfl) (aO (yB (d:= .tup (pcsD parts)) (aT rfl rfl (xc9 _ _)) (pcs_imm parts)) rfl))) (xD (.hang n parts)) (Nat.le_of_ble_eq_true rfl))))).trans ((aE (bG (kd1 (k:="hang") rfl (by decide)))).trans (s7 (.hang n parts) _ _ _))))⟩
 ·have fin:∀(r0:List Pc) (rs:List (List Pc)),pP ⟨3,n,full,parts⟩=r0::rs->∃q1 q2 q3 q4 q5,aR (bF 5 (aJ (gF (aB (fC (.str "group")) (aB (dI (f2 dIx (aA 3) (fC (.int 0)))) aD))))) (aR (fIf (aL (fB (f2 dEq (aA 1) (fC (.str "hang"))))) (bF 5 (aJ (gF (aB (fC (.str "hang")) (aB (dI (aA 2)) (aB (dI (f2 dIx (aA 3) (fC (.int 0)))) aD)))))) aY)
    (aR (fIf (aL (fB (f2 dEq (aA 1) (fC (.str "either"))))) (bF 5 (aJ (gF (aB (fC (.str "either")) (aB (aG gB (aB (aA 3) aD)) aD))))) aY) (cN (dG 0 (fL 0 (fL 0 bS (dR (fC (.int 1)))) (fC (.int 3))) (aB (dI (aA 5)) aD) cK)))) [some (.lst true (cE fs++[gmD g])),some (.str "either"),some (.int n),some (.lst true (rowsD (r0::rs))),some (.lst true (pcsD parts)),none]=some (.nx,[some (.lst true (cE fs++[gmD (lG g (gQ ⟨3,n,full,parts⟩))])),q1,q2,q3,q4,q5]):=fun r0 rs he=>by
   have hs:gQ ⟨3,n,full,parts⟩= .either (r0::rs):=by rw [<-he];rfl
   rw [hs]
   exact⟨_,_,_,_,_,(aE (s4 _ _ _ r0 rs)).trans ((aE (bG (kd1 rfl (by decide)))).trans ((aE ((cP (kd1 rfl (by decide))).trans (cC (uC (aO rfl (aO (aU (aO rfl rfl) (if_pos (rows_imm (r0::rs)))) rfl)) (xD (.either (r0::rs))) (Nat.le_of_ble_eq_true rfl))))).trans (s7 (.either (r0::rs)) _ _ _)))⟩
  have lt:∀x0 x4,fB (f2 dLt (aG bU (aB (aA 3) aD)) (fC (.int 2))) [x0,some (.str "either"),some (.int n),some (.lst true (rowsD (full++[parts]))),x4,none]=some (decide ((((full++[parts]).length:Nat):Int)<2)):=fun x0 x4=>by
   refine eA (aT (aU (aO rfl rfl) rfl) rfl ?_)
   show some (D.bl (decide ((((rowsD (full++[parts])).length:Nat):Int)<2)))=_
   rw [fS]
  cases full with
  | nil=>
   have s3:∀x0 x4,fIf (aL (cZ (fB (f2 dEq (aA 1) (fC (.str "either")))) (fB (f2 dLt (aG bU (aB (aA 3) aD)) (fC (.int 2)))))) (bF 3 (aJ (f2 aZ (aA 3) (bI (aB (gF (aB (gF (aB (fC (.str "word")) (aB (fC (.str "or")) aD))) aD)) aD))))) aY [x0,some (.str "either"),some (.int n),some (.lst true (rowsD ([]++[parts]))),x4,none]=some (.nx,[x0,some (.str "either"),some (.int n),some (.lst true (rowsD [parts,sY])),x4,none]):=fun x0 x4=>
    (cP (oJ (kd1 rfl (by decide)) (lt _ _))).trans (cC (aT rfl (eV (aO (uC (aO (uC (aO rfl (aO rfl rfl)) rfl (Nat.le_of_ble_eq_true rfl)) rfl) rfl (Nat.le_of_ble_eq_true rfl)) rfl) (Nat.le_of_ble_eq_true rfl)) (pT (rows_imm [parts]) (rows_imm [sY]) (Nat.le_of_ble_eq_true rfl))))
   show ∃q1 q2 q3 q4 q5,aR _ _ [some (.lst true (cE fs++[gmD g])),some (.str "either"),some (.int n),some (.lst true (rowsD ([]++[parts]))),some (.lst true (pcsD parts)),none]=_
   rw [aE (s3 _ _)]
   exact fin parts [sY] rfl
  |cons r rs=>
   have lt':=lt (some (.lst true (cE fs++[gmD g]))) (some (.lst true (pcsD parts)))
   rw [decide_eq_false (by simp;omega)] at lt'
   show ∃q1 q2 q3 q4 q5,aR _ _ [some (.lst true (cE fs++[gmD g])),some (.str "either"),some (.int n),some (.lst true (rowsD (r::rs++[parts]))),some (.lst true (pcsD parts)),none]=_
   rw [aE (bG (oJ (kd1 rfl (by decide)) lt'))]
   exact fin r (rs++[parts]) rfl
def ifR(GM:tz6)(GS:tz7)(GL:tz6):tz1:=
 (fIf (aL (cZ (fB (f2 dLt (aA 7) (fC (.int 4)))) (fB (f2 dLe (aG bU (aB (aA 4) aD)) (aA 3)))))
  (aR (bF 9 (aJ (f2 dIx (bI (fKs [.str "group",.str "group",.str "hang",.str "either"])) (aA 7))))
 (cN (dG 4 bS (aB (bI (aB (dI (aA 9)) (aB (f2 dIx (bI (aB (fC (.int 1)) (aB (fC (.int 2)) (aB (fC (.int 4)) (aB (f2 cW (f2 eP (aA 6) (fC (.int 13))) (fC (.int 13))) aD))))) (f2 cW (f2 eP (aA 6) (fC (.int 169))) (fC (.int 4)))) (aB (bI aD) (aB (bI aD) aD))))) aD) cK)))
  (fIf (aL (cZ (fB (f2 dEq (aA 7) (fC (.int 4)))) (fB (f2 dGt (aG bU (aB (aA 4) aD)) (fC (.int 1))))))
  (cN (fIO [.io 4] GS))
  (fIf (aL (cZ (fB (f2 dLt (aA 7) (fC (.int 7)))) (cZ (fB (f2 dEq (aA 8) (fC (.str "either")))) (fB (f2 dLt (aG bU (aB (f2 dIx (f2 dIx (aA 4) (dR (fC (.int 1)))) (fC (.int 2))) aD)) (fC (.int 3)))))))
  (aR (cN (dG 4 (fL 4 (fL 4 bS (dR (fC (.int 1)))) (fC (.int 2))) (aB (aG gB (aB (f2 dIx (f2 dIx (aA 4) (dR (fC (.int 1)))) (fC (.int 3))) aD)) aD) cK))
 (cQ 4 (fL 4 bS (dR (fC (.int 1)))) (fC (.int 3)) (bI aD)))
  (cN (dG 4 (fL 4 (fL 4 bS (dR (fC (.int 1)))) (fC (.int 3))) (aB (aG GL (aB (aG GM (aB (aA 0) (aB (aA 5) (aB (fC (.int 32)) aD)))) aD)) aD) cK)))))
def wB(GM:tz6)(GS:tz7)(GL:tz6):tz1:=
   (aR (bF 6 (aJ (aG GM (aB (aA 0) (aB (aA 5) (aB (fC (.int 31)) aD))))))
 (aR (bF 7 (aJ (f2 cW (aA 6) (fC (.int 13)))))
 (aR (bF 8 (aJ (dI (f2 dIx (f2 dIx (aA 4) (dR (fC (.int 1)))) (fC (.int 0))))))
 (ifR GM GS GL))))
section
variable{GM:tz6}{GS:tz7}{GL:tz6}{S:D}{x1 x2 x6 x7 x8 x9:Option D}{nest:Nat}{f:Gm}{fs:List Gm}{i m:Int}
theorem yv0(hm:GM [S,.int i,.int 31]=some (.int m)):wB GM GS GL [some S,x1,x2,some (.int nest),some (.lst true (cE (f::fs))),some (.int i),x6,x7,x8,x9]
  =ifR GM GS GL [some S,x1,x2,some (.int nest),some (.lst true (cE (f::fs))),some (.int i),some (.int m),some (.int (m % 13)),some (.str (kdS f.kd)),x9]:=by
 unfold wB
 refine(aE (cC (aU rfl hm))).trans ?_
 refine(aE (cC (d:= .int (m % 13)) (by simp! [cQ,cS,fIO,cX,bO,bW,oM,oN,iL]))).trans ?_
 exact aE (cC (d:= .str (kdS f.kd)) (by simp! [cQ,cS,fIO,cX,bO,bW,oM,oN,iL,cE,gmD]))
theorem xv4(a k:Int)(ha:0<=a/\a<=12):∃n:Int,atI [D.int 1,.int 2,.int 4,.int a] (k % 4)=some (.int n)/\0<=n/\n<=12:=by
 have h0:=Int.emod_nonneg k (show(4:Int)≠0 by decide)
 have h1:=Int.emod_lt_of_pos k (show(0:Int)<4 by decide)
 obtain⟨d,hd,e⟩:=pA [D.int 1,.int 2,.int 4,.int a] (k % 4) h0 (by simpa using h1)
 simp only [List.mem_cons,List.not_mem_nil,or_false] at hd
 rcases hd with rfl|rfl|rfl|rfl
 ·exact⟨_,e,by decide,by decide⟩
 ·exact⟨_,e,by decide,by decide⟩
 ·exact⟨_,e,by decide,by decide⟩
 ·exact⟨_,e,ha⟩
theorem xo2(m:Int)(h0:0<=m % 13)(h:m % 13<4):∃kd:Nat,atI [D.str (Str.ofString "group"),.str (Str.ofString "group"),.str (Str.ofString "hang"),.str (Str.ofString "either")] (m % 13)=some (.str (kdS kd))/\1<=kd/\kd<=3:=by
 have hn:m % 13=0\/m % 13=1\/m % 13=2\/m % 13=3:=by omega
 rcases hn with e|e|e|e<;>rw [e]
 ·exact⟨1,rfl,by decide,by decide⟩
 ·exact⟨1,rfl,by decide,by decide⟩
 ·exact⟨2,rfl,by decide,by decide⟩
 ·exact⟨3,rfl,by decide,by decide⟩
theorem zc2{a b:Prop}[Decidable a][Decidable b](h:¬(a/\b)):(decide a&&decide b)=false:=by
 by_cases ha:a
 ·rw [decide_eq_false (fun hb=>h ⟨ha,hb⟩),Bool.and_false]
 ·rw [decide_eq_false ha,Bool.false_and]
theorem yf5{a b:Prop}[Decidable a][Decidable b](ha:a)(hb:b):(decide a&&decide b)=true:=by rw [decide_eq_true ha,decide_eq_true hb];rfl
theorem zc3{f g:tz4}{p:PSt}{a b:Bool}(h1:f p=some a)(h2:g p=some b):cZ f g p=some (a&&b):=by
 cases a with
 |true=>exact oJ h1 h2
 |false=>exact oH h1
theorem yl5{N:List D}{w:Int}{x0 x5 x6:Option D}:cZ (fB (f2 dLt (aA 7) (fC (.int 4)))) (fB (f2 dLe (aG bU (aB (aA 4) aD)) (aA 3))) [x0,x1,x2,some (.int nest),some (.lst true N),x5,x6,some (.int w),x8,x9]=some (decide (w<4)&&decide ((N.length:Int)<=(nest:Int))):=
 zc3 (eA (aT rfl rfl rfl)) (eA (aT (aU (aO rfl rfl) rfl) rfl rfl))
theorem xh5{N:List D}{w:Int}{x0 x3 x5 x6:Option D}:cZ (fB (f2 dEq (aA 7) (fC (.int 4)))) (fB (f2 dGt (aG bU (aB (aA 4) aD)) (fC (.int 1)))) [x0,x1,x2,x3,some (.lst true N),x5,x6,some (.int w),x8,x9]=some (decide (w=4)&&decide ((1:Int)<(N.length:Int))):=
 zc3 (eA (aT rfl rfl rfl)) (eA (aT (aU (aO rfl rfl) rfl) rfl rfl))
theorem yf6{p:PSt}{j:Nat}{M:List D}{d:D}(hp:p[j]? =some (some (.lst true (M++[d])))):f2 dIx (aA j) (dR (fC (.int 1))) p=some d:=aT (ye7 hp) rfl (show atI (M++[d]) (-1)=_ from L2.zq4 _ _)
theorem xh6{M R:List D}{w:Int}{k:String}{a b c:D}{x0 x3 x5 x6:Option D}:cZ (fB (f2 dLt (aA 7) (fC (.int 7)))) (cZ (fB (f2 dEq (aA 8) (fC (.str "either")))) (fB (f2 dLt (aG bU (aB (f2 dIx (f2 dIx (aA 4) (dR (fC (.int 1)))) (fC (.int 2))) aD)) (fC (.int 3))))) [x0,x1,x2,x3,some (.lst true (M++[.lst true [a,b,.lst true R,c]])),x5,x6,some (.int w),some (.str k),x9]=some (decide (w<7)&&(decide (k="either")&&decide ((R.length:Int)<3))):=by
 refine zc3 (eA (aT rfl rfl rfl)) (zc3 (eA (aT rfl rfl ?_)) (eA (aT (aU (aO (aT (yf6 (j:=4) rfl) rfl (xu3 _ _ _ _)) rfl) rfl) rfl rfl)))
 show some (D.bl (decide ((k:Str)=(("either":String):Str))))=_
 congr 2
 exact decide_eq_decide.mpr (by rw [uA])
theorem yv1{p:PSt}{j:Nat}{M:List D}{k n:Nat}{l:List D}(hp:p[j]? =some (some (.lst true (M++[.lst true l]))))(hk:ixN l.length (k:Int)=some n):fL j (fL j bS (dR (fC (.int 1)))) (fC (.int (k:Int))) p=some [.ix M.length,.ix n]:=by
 have e1:ixN (M++[D.lst true l]).length (-1)=some M.length:=by rw [List.length_append];exact vF _
 have e2:(M++[D.lst true l])[M.length]? =some (.lst true l):=by simp! [cQ,cS,fIO,cX,bO,bW,oM,oN,iL]
 simp! [cQ,cS,fIO,cX,bO,bW,oM,oN,iL,hp,e1,e2,hk]
theorem xd6{α:Type}{h:D->Option (α×D)}{M l:List D}{n:Nat}{d d':D}{r:α}(hl:l[n]? =some d)(e:h d=some (r,d')):gJ h (.lst true (M++[.lst true l])) [.ix M.length,.ix n]=some (r,.lst true (M++[.lst true (l.set n d')])):=by
 have e2:(M++[D.lst true l])[M.length]? =some (.lst true l):=by simp! [cQ,cS,fIO,cX,bO,bW,oM,oN,iL]
 show(((M++[D.lst true l])[M.length]?).bind _)=_
 rw [e2,Option.bind_some]
 show(((l[n]?).bind _).bind _)=_
 rw [hl,Option.bind_some]
 show(((h d).bind _).bind _)=_
 rw [e]
 show some (r,D.lst true ((M++[D.lst true l]).set M.length _))=_
 rw [zM]
theorem zv4{p:PSt}{j k n:Nat}{M l xs:List D}{fe:tz2}{y:D}(hp:p[j]? =some (some (.lst true (M++[.lst true l]))))(hk:ixN l.length (k:Int)=some n)(hl:l[n]? =some (.lst true xs))(h:fe p=some y)(hz:xs.length<sizeLine):cN (dG j (fL j (fL j bS (dR (fC (.int 1)))) (fC (.int (k:Int)))) (aB fe aD) cK) p=some (.nx,p.set j (some (.lst true (M++[.lst true (l.set n (.lst true (xs++[y])))])))):=by
 refine zN (d:= .non) ?_
 unfold dG
 rw [hp,Option.join_some,Option.bind_some,yv1 hp hk,Option.bind_some,aO h rfl,Option.bind_some,xd6 hl (show cK [y] (.lst true xs)=_ from if_pos hz)]
 rfl
theorem yl6{p:PSt}{j k n:Nat}{M l:List D}{fe:tz2}{y:D}(hp:p[j]? =some (some (.lst true (M++[.lst true l]))))(hk:ixN l.length (k:Int)=some n)(h:fe p=some y):cQ j (fL j bS (dR (fC (.int 1)))) (fC (.int (k:Int))) fe p=some (.nx,p.set j (some (.lst true (M++[.lst true (l.set n y)])))):=by
 have e1:ixN (M++[D.lst true l]).length (-1)=some M.length:=by rw [List.length_append];exact vF _
 have e2:(M++[D.lst true l])[M.length]? =some (.lst true l):=by simp! [cQ,cS,fIO,cX,bO,bW,oM,oN,iL]
 have ep:fL j bS (dR (fC (.int 1))) p=some [.ix M.length]:=by simp! [cQ,cS,fIO,cX,bO,bW,oM,oN,iL,hp,e1]
 unfold cQ
 rw [h,Option.bind_some,hp,Option.join_some,Option.bind_some,ep,Option.bind_some]
 show((gJ (cS (.int (k:Int)) y) (.lst true (M++[.lst true l])) [.ix M.length]).bind _)=_
 have em:gJ (cS (.int (k:Int)) y) (.lst true (M++[.lst true l])) [.ix M.length]=some ((),.lst true (M++[.lst true (l.set n y)])):=by
  show(((M++[D.lst true l])[M.length]?).bind _)=_
  rw [e2,Option.bind_some]
  show(((ixN l.length (k:Int)).bind _).bind _)=_
  rw [hk]
  show some ((),D.lst true ((M++[D.lst true l]).set M.length _))=_
  rw [zM]
 rw [em];rfl
theorem yv2(hw:m % 13<4)(hl:(f::fs).length<=nest)(hz:(f::fs).length<=900):∃kd n y9,ifR GM GS GL [some S,x1,x2,some (.int nest),some (.lst true (cE (f::fs))),some (.int i),some (.int m),some (.int (m % 13)),x8,x9]
  =some (.nx,[some S,x1,x2,some (.int nest),some (.lst true (cE (⟨kd,n,[],[]⟩::f::fs))),some (.int i),some (.int m),some (.int (m % 13)),x8,y9])/\(1<=kd/\kd<=3)/\0<=n/\n<=12:=by
 have h0:=Int.emod_nonneg m (show(13:Int)≠0 by decide)
 have d0:=Int.emod_nonneg (m/13) (show(13:Int)≠0 by decide)
 have d1:=Int.emod_lt_of_pos (m/13) (show(0:Int)<13 by decide)
 obtain⟨kd,q1,hk1,hk2⟩:=xo2 m h0 hw
 obtain⟨n,q2,hn1,hn2⟩:=xv4 (m/13 % 13) (m/169) ⟨d0,Int.le_of_lt_add_one d1⟩
 have hz':(cE (f::fs)).length<sizeLine:=by rw [pD];exact sz1 (by omega)
 have hl':((cE (f::fs)).length:Int)<=(nest:Int):=by rw [pD];exact Int.ofNat_le.mpr hl
 refine⟨kd,n,some (.str (kdS kd)),?_,⟨hk1,hk2⟩,hn1,hn2⟩
 have e:cE (⟨kd,n,[],[]⟩::f::fs)=cE (f::fs)++[.lst true [.str (kdS kd),.int n,.lst true [],.lst true []]]:=rfl
 rw [e]
 generalize cE (f::fs)=N at hz' hl'|-
 unfold ifR
 refine(cP (yl5.trans (by rw [yf5 hw hl']))).trans ((aE (cC (aT (eV rfl (Nat.le_of_ble_eq_true rfl)) rfl q1))).trans ?_)
 refine zN (d:= .non) ?_
 unfold dG
 rw [aO (eV (aO (yB (d:= .str (kdS kd)) rfl rfl) (aO (aT (eV (aO rfl (aO rfl (aO rfl (aO (aT (aT rfl rfl ((bW _ _).trans (if_pos (by decide)))) rfl ((bO _ _).trans (if_pos (by decide)))) rfl)))) (Nat.le_of_ble_eq_true rfl)) (aT (aT rfl rfl ((bW _ _).trans (if_pos (by decide)))) rfl ((bO _ _).trans (if_pos (by decide)))) q2) (aO (eV rfl (Nat.le_of_ble_eq_true rfl)) (aO (eV rfl (Nat.le_of_ble_eq_true rfl)) rfl)))) (Nat.le_of_ble_eq_true rfl)) rfl]
 show((cK [.lst true [.str (kdS kd),.int n,.lst true [],.lst true []]] (.lst true N)).bind _)=_
 rw [show cK [.lst true [.str (kdS kd),.int n,.lst true [],.lst true []]] (.lst true N)=_ from if_pos hz']
 rfl
theorem yv3{g:Gm}(q:GS [.lst true (cE (f::g::fs))]=some (.non,[.lst true (cE (lG g (gQ f)::fs))]))(hw:m % 13=4):
  ifR GM GS GL [some S,x1,x2,some (.int nest),some (.lst true (cE (f::g::fs))),some (.int i),some (.int m),some (.int (m % 13)),x8,x9]
  =some (.nx,[some S,x1,x2,some (.int nest),some (.lst true (cE (lG g (gQ f)::fs))),some (.int i),some (.int m),some (.int (m % 13)),x8,x9]):=by
 have hl:(1:Int)<((cE (f::g::fs)).length:Int):=by rw [pD];simp;omega
 unfold ifR
 exact(jE (pB (yl5.trans (by rw [zc2 (fun z=>by omega)])))).trans ((cP (xh5.trans (by rw [yf5 hw hl]))).trans (zN (xu6 (xn9 rfl xd1) q rfl)))
theorem yf7(hw:¬(m % 13<4/\(f::fs).length<=nest))(hw4:¬(m % 13=4/\fs≠[])){F1 F2 F3:tz1}:fIf (aL (cZ (fB (f2 dLt (aA 7) (fC (.int 4)))) (fB (f2 dLe (aG bU (aB (aA 4) aD)) (aA 3))))) F1 (fIf (aL (cZ (fB (f2 dEq (aA 7) (fC (.int 4)))) (fB (f2 dGt (aG bU (aB (aA 4) aD)) (fC (.int 1)))))) F2 F3) [some S,x1,x2,some (.int nest),some (.lst true (cE (f::fs))),some (.int i),some (.int m),some (.int (m % 13)),x8,x9]
  =F3 [some S,x1,x2,some (.int nest),some (.lst true (cE (f::fs))),some (.int i),some (.int m),some (.int (m % 13)),x8,x9]:=by
 have hl:(cE (f::fs)).length=(f::fs).length:=pD _
 have hn:¬(m % 13=4/\(1:Int)<((f::fs).length:Int)):=fun z=>hw4 ⟨z.1,fun e=>by rw [e] at z;exact absurd z.2 (Int.lt_irrefl 1)⟩
 exact(jE (pB (yl5.trans (by rw [hl,zc2 (fun z=>hw ⟨z.1,Int.ofNat_le.mp z.2⟩)])))).trans (jE (pB (xh5.trans (by rw [hl,zc2 hn]))))
theorem xo3(hw:¬(m % 13<4/\(f::fs).length<=nest))(hw4:¬(m % 13=4/\fs≠[]))(hw7:m % 13<7)(hk:f.kd=3)(hf:f.full.length<3):
  ifR GM GS GL [some S,x1,x2,some (.int nest),some (.lst true (cE (f::fs))),some (.int i),some (.int m),some (.int (m % 13)),some (.str (kdS f.kd)),x9]
  =some (.nx,[some S,x1,x2,some (.int nest),some (.lst true (cE ({f with full:=f.full++[f.parts],parts:=[]}::fs))),some (.int i),some (.int m),some (.int (m % 13)),some (.str (kdS f.kd)),x9]):=by
 unfold ifR
 refine(yf7 hw hw4).trans ?_
 obtain⟨kd,n,full,parts⟩:=f
 have hk':kd=3:=hk
 subst hk'
 have hz:(rowsD full).length<sizeLine:=by rw [fS];exact sz1 (by have:full.length<3:=hf;omega)
 have hf':((rowsD full).length:Int)<3:=by rw [fS];exact Int.ofNat_lt.mpr hf
 have er:rowsD (full++[parts])=rowsD full++[.tup (pcsD parts)]:=by rw [pS];rfl
 have b3:(decide (m % 13<7)&&(decide (kdS 3="either")&&decide (((rowsD full).length:Int)<3)))=true:=by rw [decide_eq_true hw7,decide_eq_true hf'];rfl
 have s1:=zv4 (p:=[some S,x1,x2,some (.int nest),some (.lst true (cE (⟨3,n,full,parts⟩::fs))),some (.int i),some (.int m),some (.int (m % 13)),some (.str (kdS 3)),x9]) (j:=4) (k:=2) (n:=2) (M:=cE fs) (fe:=aG gB (aB (f2 dIx (f2 dIx (aA 4) (dR (fC (.int 1)))) (fC (.int 3))) aD)) rfl rfl rfl (aU (aO (aT (yf6 (M:=cE fs) rfl) rfl (wd7 _ _ _ _)) rfl) (if_pos (pcs_imm parts))) hz
 rw [<-er] at s1
 have s2:=yl6 (p:=[some S,x1,x2,some (.int nest),some (.lst true (cE fs++[.lst true [.str (kdS 3),.int n,.lst true (rowsD (full++[parts])),.lst true (pcsD parts)]])),some (.int i),some (.int m),some (.int (m % 13)),some (.str (kdS 3)),x9]) (j:=4) (k:=3) (n:=3) (M:=cE fs) (fe:=bI aD) (y:= .lst true []) rfl rfl (eV rfl (Nat.le_of_ble_eq_true rfl))
 exact(cP (xh6.trans (congrArg some b3))).trans ((aE s1).trans s2)
theorem yv4{l:Leaf}{m2:Int}(hm2:GM [S,.int i,.int 32]=some (.int m2))(hL:GL [.int m2]=some (dW l))(hz:f.parts.length<=900)
  (hw:¬(m % 13<4/\(f::fs).length<=nest)) (hw4:¬(m % 13=4/\fs≠[])) (h3:¬(m % 13<7/\f.kd=3/\f.full.length<3)) (hkd:f.kd<=3):
  ifR GM GS GL [some S,x1,x2,some (.int nest),some (.lst true (cE (f::fs))),some (.int i),some (.int m),some (.int (m % 13)),some (.str (kdS f.kd)),x9]
  =some (.nx,[some S,x1,x2,some (.int nest),some (.lst true (cE (lG f (.leaf l)::fs))),some (.int i),some (.int m),some (.int (m % 13)),some (.str (kdS f.kd)),x9]):=by
 have hz':(pcsD f.parts).length<sizeLine:=by rw [rK];exact sz1 (by omega)
 have ep:pcsD (f.parts++[.leaf l])=pcsD f.parts++[dW l]:=by rw [rJ];rfl
 have b3:(decide (m % 13<7)&&(decide (kdS f.kd="either")&&decide (((rowsD f.full).length:Int)<3)))=false:=by
  by_cases a1:m % 13<7
  ·rw [zc2,Bool.and_false]
   intro ⟨z1,z2⟩
   rw [fS] at z2
   have hk:f.kd=0\/f.kd=1\/f.kd=2\/f.kd=3:=by omega
   rcases hk with e|e|e|e
   ·rw [e] at z1;exact absurd z1 (by decide)
   ·rw [e] at z1;exact absurd z1 (by decide)
   ·rw [e] at z1;exact absurd z1 (by decide)
   ·exact h3 ⟨a1,e,Int.ofNat_lt.mp z2⟩
  ·rw [decide_eq_false a1,Bool.false_and]
 unfold ifR
 refine(yf7 hw hw4).trans ((jE (pB (xh6.trans (by rw [b3])))).trans ?_)
 have e:cE (lG f (.leaf l)::fs)=cE fs++[.lst true [.str (kdS f.kd),.int f.n,.lst true (rowsD f.full),.lst true (pcsD f.parts++[dW l])]]:=by rw [<-ep];rfl
 rw [e]
 have s1:=zv4 (p:=[some S,x1,x2,some (.int nest),some (.lst true (cE (f::fs))),some (.int i),some (.int m),some (.int (m % 13)),some (.str (kdS f.kd)),x9]) (j:=4) (k:=3) (n:=3) (M:=cE fs) (fe:=aG GL (aB (aG GM (aB (aA 0) (aB (aA 5) (aB (fC (.int 32)) aD)))) aD)) rfl rfl rfl (aU (aO (aU (aO rfl (aO rfl (aO rfl rfl))) hm2) rfl) hL) hz'
 exact s1
end
section
variable{GM:tz6}{GS:tz7}{GL:tz6}{S:D}{x1 x2 x6 x7 x8 x9:Option D}{nest k:Nat}{fs:List Gm}{i:Int}
theorem yl7{f:Gm}{fs:List Gm}(h:zz5 (f::fs)):f.kd<=3:=by
 cases fs with
 |nil=>have:f.kd=0:=h;omega
 |cons g fs=>exact h.1.2
theorem xo4(hS:∀(f g:Gm) (fs:List Gm),(1<=f.kd/\f.kd<=3)->(f.kd≠3->f.full=[])->f.full.length<=3->g.parts.length<=900->GS [.lst true (cE (f::g::fs))]=some (.non,[.lst true (cE (lG g (gQ f)::fs))]))
  (hL:∀m,0<=m->∃l,GL [.int m]=some (dW l)/\jS l) (hM:∀s:Int,s=31\/s=32->∃m,GM [S,.int i,.int s]=some (.int m)/\0<=m) (h:GInv nest k fs) (hk:4*k+4<=800) (hn:nest<=100):
  ∃fs' y6 y7 y8 y9,wB GM GS GL [some S,x1,x2,some (.int nest),some (.lst true (cE fs)),some (.int i),x6,x7,x8,x9]=some (.nx,[some S,x1,x2,some (.int nest),some (.lst true (cE fs')),some (.int i),y6,y7,y8,y9])/\GInv nest (k+1) fs':=by
 obtain⟨m,hm,hm0⟩:=hM 31 (.inl rfl)
 obtain⟨m2,hm2,hm20⟩:=hM 32 (.inr rfl)
 have hln:=h.len
 cases fs with
 |nil=>exact h.kinds.elim
 | cons f fs=>
  have hd:=yv0 (GS:=GS) (GL:=GL) (x1:=x1) (x2:=x2) (x6:=x6) (x7:=x7) (x8:=x8) (x9:=x9) (nest:=nest) (f:=f) (fs:=fs) hm
  by_cases c1:m % 13<4/\(f::fs).length<=nest
  ·obtain⟨kd,n,y9,q,h1,h2⟩:=yv2 (GM:=GM) (GS:=GS) (GL:=GL) (S:=S) (x1:=x1) (x2:=x2) (x8:=some (.str (kdS f.kd))) (x9:=x9) (i:=i) c1.1 c1.2 (by omega)
   exact⟨_,_,_,_,y9,hd.trans q,h.opener h1 h2 c1.2⟩
  ·by_cases c2:m % 13=4/\fs≠[]
   ·cases fs with
    |nil=>exact absurd rfl c2.2
    |cons g fs=>
     have hf:=h.each f List.mem_cons_self
     have hg:=h.parts (f:=g) (List.mem_cons_of_mem _ List.mem_cons_self)
     have q:=yv3 (GM:=GM) (GL:=GL) (S:=S) (x1:=x1) (x2:=x2) (x8:=some (.str (kdS f.kd))) (x9:=x9) (nest:=nest) (i:=i) (hS f g fs h.kinds.1 hf.2.2.2.1 hf.2.2.1 (by omega)) c2.1
     exact⟨_,_,_,_,_,hd.trans q,h.shut.more (by omega)⟩
   ·by_cases c3:m % 13<7/\f.kd=3/\f.full.length<3
    ·have q:=xo3 (GM:=GM) (GS:=GS) (GL:=GL) (S:=S) (x1:=x1) (x2:=x2) (x9:=x9) (i:=i) c1 c2 c3.1 c3.2.1 c3.2.2
     exact⟨_,_,_,_,_,hd.trans q,h.orr c3.2.2 c3.2.1⟩
    ·obtain⟨l,hl,hlk⟩:=hL m2 hm20
     have q:=yv4 (GM:=GM) (GS:=GS) (GL:=GL) (S:=S) (x1:=x1) (x2:=x2) (x9:=x9) (i:=i) hm2 hl (by have:=h.parts (f:=f) List.mem_cons_self;omega) c1 c2 c3 (yl7 h.kinds)
     exact⟨_,_,_,_,_,hd.trans q,h.leaf hlk⟩
theorem yf8(hS:∀(f g:Gm) (fs:List Gm),(1<=f.kd/\f.kd<=3)->(f.kd≠3->f.full=[])->f.full.length<=3->g.parts.length<=900->GS [.lst true (cE (f::g::fs))]=some (.non,[.lst true (cE (lG g (gQ f)::fs))]))
  (hL:∀m,0<=m->∃l,GL [.int m]=some (dW l)/\jS l) (hn:nest<=100):∀(l:List Int) (fs:List Gm) (k:Nat) (x5 x6 x7 x8 x9:Option D),(∀j∈l,∀s:Int,s=31\/s=32->∃m,GM [S,.int j,.int s]=some (.int m)/\0<=m)->GInv nest k fs->4*(k+l.length)+4<=800->
  ∃fs' y5 y6 y7 y8 y9,dJ 5 (wB GM GS GL) (l.map .int) [some S,x1,x2,some (.int nest),some (.lst true (cE fs)),x5,x6,x7,x8,x9]=some (.nx,[some S,x1,x2,some (.int nest),some (.lst true (cE fs')),y5,y6,y7,y8,y9])/\GInv nest (k+l.length) fs'
 |[],fs,k,x5,x6,x7,x8,x9,_,h,_=>⟨fs,x5,x6,x7,x8,x9,by simp! [fIO,cX,iL,dJ],h⟩
 |j::l,fs,k,x5,x6,x7,x8,x9,hM,h,hk=>by
  rw [List.length_cons] at hk
  obtain⟨fs1,y6,y7,y8,y9,q,h1⟩:=xo4 (x1:=x1) (x2:=x2) (x6:=x6) (x7:=x7) (x8:=x8) (x9:=x9) hS hL (hM j List.mem_cons_self) h (by omega) hn
  obtain⟨fs2,z5,z6,z7,z8,z9,q2,h2⟩:=yf8 hS hL hn l fs1 (k+1) (some (.int j)) y6 y7 y8 y9 (fun i hi=>hM i (List.mem_cons_of_mem _ hi)) h1 (by omega)
  refine⟨fs2,z5,z6,z7,z8,z9,?_,(show k+1+l.length=k+(j::l).length by rw [List.length_cons];omega)▸h2⟩
  rw [<-q2]
  show(wB GM GS GL [some S,x1,x2,some (.int nest),some (.lst true (cE fs)),some (.int j),x6,x7,x8,x9]).bind _=_
  rw [q];rfl
def zf4(GS:tz7)(n:Nat):tz1:=lZ (aL (fB (f2 dGt (aG bU (aB (aA 4) aD)) (fC (.int 1))))) (cN (fIO [.io 4] GS)) n
theorem yf9{x0 x3 x5:Option D}(hS:∀(f g:Gm) (fs:List Gm),(1<=f.kd/\f.kd<=3)->(f.kd≠3->f.full=[])->f.full.length<=3->g.parts.length<=900->GS [.lst true (cE (f::g::fs))]=some (.non,[.lst true (cE (lG g (gQ f)::fs))]))(hk:4*k+4<=800):
  ∀(n:Nat) (fs:List Gm),fs.length<=n->GInv nest k fs->∃f,zf4 GS n [x0,x1,x2,x3,some (.lst true (cE fs)),x5,x6,x7,x8,x9]=some (.nx,[x0,x1,x2,x3,some (.lst true (cE [f])),x5,x6,x7,x8,x9])/\GInv nest k [f]
 |0,[],_,h=>h.kinds.elim
 |0,_::_,hl,_=>by simp! [fIO,cX,iL] at hl
 |n+1,[],_,h=>h.kinds.elim
 |n+1,[f],_,h=>by
  refine⟨f,?_,h⟩
  unfold zf4
  rw [lZ]
  have hl:(cE [f]).length=1:=rfl
  generalize cE [f]=N at hl|-
  simp! [fIO,cX,iL,hl]
 |n+1,f::g::fs,hl,h=>by
  have hf:=h.each f List.mem_cons_self
  have hg:=h.parts (f:=g) (List.mem_cons_of_mem _ List.mem_cons_self)
  have q:=hS f g fs h.kinds.1 hf.2.2.2.1 hf.2.2.1 (by omega)
  obtain⟨f',w,h'⟩:=yf9 (x0:=x0) (x3:=x3) (x5:=x5) hS hk n (lG g (gQ f)::fs) (by simp! [fIO,cX,iL] at hl|-;omega) h.shut
  refine⟨f',?_,h'⟩
  rw [<-w]
  have hl2:(cE (f::g::fs)).length=fs.length+1+1:=by rw [pD];rfl
  have hpos:(1:Int)<((fs.length:Int)+1+1):=by omega
  show lZ _ _ (n+1) _=_
  rw [lZ]
  generalize cE (f::g::fs)=N at q hl2|-
  generalize cE (lG g (gQ f)::fs)=M at q|-
  simp! [fIO,cX,iL,hl2,hpos,q,zf4]
def wh2(n:Nat)(GM:tz6)(GS:tz7)(GL:tz6):tz1:=
 aR (bF 4 (aJ (bI (aB (bI (aB (fC (.str "top")) (aB (fC (.int 0)) (aB (bI aD) (aB (bI aD) aD))))) aD)))) (aR (dS 5 (ze7 (aB (aA 1) (aB (f2 aZ (aA 1) (aA 2)) aD))) (wB GM GS GL)) (aR (zf4 GS n) (cA (aJ (aG gB (aB (f2 dIx (f2 dIx (aA 4) (fC (.int 0))) (fC (.int 3))) aD))))))
structure RowOk(nest w:Nat)(r:List Pc):Prop where
 ok:okR r
 dep:depR r<=nest
 len:(toksR r).length<=w
theorem wb2{a many n:Nat}(hS:∀(f g:Gm) (fs:List Gm),(1<=f.kd/\f.kd<=3)->(f.kd≠3->f.full=[])->f.full.length<=3->g.parts.length<=900->GS [.lst true (cE (f::g::fs))]=some (.non,[.lst true (cE (lG g (gQ f)::fs))]))
  (hL:∀m,0<=m->∃l,GL [.int m]=some (dW l)/\jS l) (hM:∀j s:Int,(a:Int)<=j/\j<a+many->s=31\/s=32->∃m,GM [S,.int j,.int s]=some (.int m)/\0<=m) (hn:nest<=100) (hmany:many<=90) (ha:a<=1000) (hnn:nest<n):
  ∃r,gP 4 6 (wh2 n GM GS GL) [S,.int a,.int many,.int nest]=some (.tup (pcsD r))/\RowOk nest (4*many) r:=by
 have i0:GInv nest 0 [⟨0,0,[],[]⟩]:=⟨by simp! [fIO,cX,iL],by decide,fun f hf=>by rw [List.mem_singleton.mp hf];exact⟨trivial,trivial,Nat.zero_le _,fun _=>rfl,Int.le_refl _,by decide⟩,rfl,⟨Nat.zero_le _,Nat.zero_le _,trivial⟩⟩
 obtain⟨fs1,y5,y6,y7,y8,y9,q,h1⟩:=yf8 (GM:=GM) (GS:=GS) (GL:=GL) (S:=S) (x1:=some (.int a)) (x2:=some (.int many)) hS hL hn ((List.range many).map fun(k:Nat)=>(a:Int)+(k:Int)) [⟨0,0,[],[]⟩] 0 none none none none none
  (fun j hj s hs=>by obtain⟨k,hk,rfl⟩:=List.mem_map.mp hj;have:=List.mem_range.mp hk;exact hM _ s (by omega) hs) i0 (by simp;omega)
 rw [<-xu5] at q
 rw [List.length_map,List.length_range,Nat.zero_add] at h1
 have hln:=h1.len
 obtain⟨f,w,h2⟩:=yf9 (GS:=GS) (x0:=some S) (x1:=some (.int a)) (x2:=some (.int many)) (x3:=some (.int nest)) (x5:=y5) (x6:=y6) (x7:=y7) (x8:=y8) (x9:=y9) hS (by omega) n fs1 (by omega) h1
 have hf:=h2.each f List.mem_cons_self
 have hd:=h2.deep.1
 have hwt:wF f+0<=4*many+4:=h2.wt
 refine⟨f.parts,?_,hf.2.1,by simpa using hd,by unfold wF at hwt;omega⟩
 have e:((a:Int)+(many:Int)-(a:Int)).toNat=many:=by omega
 have s0:bF 4 (aJ (bI (aB (bI (aB (fC (.str "top")) (aB (fC (.int 0)) (aB (bI aD) (aB (bI aD) aD))))) aD))) [some S,some (.int a),some (.int many),some (.int nest),none,none,none,none,none,none]=some (.nx,[some S,some (.int a),some (.int many),some (.int nest),some (.lst true (cE [⟨0,0,[],[]⟩])),none,none,none,none,none]):=cC rfl
 have s1:dS 5 (ze7 (aB (aA 1) (aB (f2 aZ (aA 1) (aA 2)) aD))) (wB GM GS GL) [some S,some (.int a),some (.int many),some (.int nest),some (.lst true (cE [⟨0,0,[],[]⟩])),none,none,none,none,none]=some (.nx,[some S,some (.int a),some (.int many),some (.int nest),some (.lst true (cE fs1)),y5,y6,y7,y8,y9]):=by
  have e1:aB (aA 1) (aB (f2 aZ (aA 1) (aA 2)) aD) [some S,some (.int a),some (.int many),some (.int nest),some (.lst true (cE [⟨0,0,[],[]⟩])),none,none,none,none,none]=some [.int a,.int ((a:Int)+(many:Int))]:=rfl
  unfold dS ze7
  rw [e1,Option.bind_some,xn8 (by omega) (by omega) (by omega) (by omega),e]
  exact q
 have s3:aG gB (aB (f2 dIx (f2 dIx (aA 4) (fC (.int 0))) (fC (.int 3))) aD) [some S,some (.int a),some (.int many),some (.int nest),some (.lst true (cE [f])),y5,y6,y7,y8,y9]=some (.tup (pcsD f.parts)):=by
  show aG gB (aB (f2 dIx (f2 dIx (aA 4) (fC (.int 0))) (fC (.int 3))) aD) [some S,some (.int a),some (.int many),some (.int nest),some (.lst true [.lst true [.str (kdS f.kd),.int f.n,.lst true (rowsD f.full),.lst true (pcsD f.parts)]]),y5,y6,y7,y8,y9]=_
  simp! [fIO,cX,iL,pcs_imm]
 have z:=(aE s0).trans ((aE s1).trans ((aE w).trans (bQ s3)))
 exact cR rfl z
end
abbrev xg1(GM GL:tz6):tz6:=gP 4 6 (zz1 GM zf3 GL)
theorem xv5{GM GL:tz6}{S:D}{nest a many:Nat}(hL:∀m,0<=m->∃l,GL [.int m]=some (dW l)/\jS l)(hM:∀j s:Int,(a:Int)<=j/\j<a+many->s=31\/s=32->∃m,GM [S,.int j,.int s]=some (.int m)/\0<=m)(hn:nest<=100)(hmany:many<=90)(ha:a<=1000):
  ∃r,xg1 GM GL [S,.int a,.int many,.int nest]=some (.tup (pcsD r))/\RowOk nest (4*many) r:=by
 obtain⟨r,h1,h2⟩:=wb2 (n:=400) (GS:=zf3) (fun f g fs h1 h2 h3 h4=>xd5 h1 h2 h3 h4) hL hM hn hmany ha (Nat.lt_of_le_of_lt hn (by decide))
 exact⟨r,h1,h2⟩
def jX:Pc->List (List Pc)
 | .leaf _=>[]
 | .group r=>[r]
 | .hang _ r=>[r]
 | .either rs=>rs
def iS(i:Int):Str:=(toString i:String)
theorem rN{i:Int}(h0:0<=i)(h1:i<=40):(iS i).length<=2:=by
 have h:∀n:Fin 41,(iS (n.val:Int)).length<=2:=by decide+kernel
 have:=h ⟨i.toNat,by omega⟩
 rwa [show((i.toNat:Nat):Int)=i by omega] at this
def bE:Tk->Str
 | .leaf (.word x)=>("'":Str)++x
 | .leaf (.gap x)=>if x="" then "." else "_"
 | .leaf (.stop c)=>("\x40":Str)++iS c
 | .leaf .fin=>"/"
 | .opn=>"["
 | .cls=>"]"
 | .hng n=>(">":Str)++iS n
 | .bck=>"<"
 | .eit=>"{"
 | .orr=>"|"
 | .don=>"}"
def aS(ts:List Tk):List D:=aM (ts.map bE)
theorem kL(a b:List Tk):aS (a++b)=aS a++aS b:=by unfold aS;rw [List.map_append,sN]
theorem gO(a:List Tk):(aS a).length=a.length:=by unfold aS;rw [gD,List.length_map]
theorem lW(a:List Tk):D.imms (aS a)=true:=lV _
theorem pM(t:Tk)(a:List Tk):aS (t::a)= .str (bE t)::aS a:=rfl
theorem xd7{t:Tk}(h:jD t):(bE t).length<=13:=by
 cases t with
 |leaf l=>
  cases l with
  |word x=>have h':kU x:=h;show(("'":Str)++x).length<=13;rw [bZ];have:=h'.2.1;show 1+_<=13;omega
  |gap x=>show(if x="" then(".":Str) else "_").length<=13;split<;>decide+kernel
  |stop c=>have h':0<=c/\c<=40:=h;show(("\x40":Str)++iS c).length<=13;rw [bZ];have:=rN h'.1 h'.2;show 1+_<=13;omega
  |fin=>decide+kernel
 |hng n=>have h':0<=n/\n<=12:=h;show((">":Str)++iS n).length<=13;rw [bZ];have:=rN h'.1 (by omega);show 1+_<=13;omega
 |_=>decide+kernel
mutual
theorem xv6:∀p:Pc,okP p->∀t∈dM p,jD t
 | .leaf l,h,t,ht=>by
  have e:t= .leaf l:=by simpa [dM] using ht
  subst e;exact h
 | .group r,h,t,ht=>by
  simp only [dM,List.mem_cons,List.mem_append,List.not_mem_nil,or_false] at ht
  rcases ht with rfl|ht|rfl
  ·trivial
  ·exact tk_okR r h t ht
  ·trivial
 | .hang n r,h,t,ht=>by
  simp only [dM,List.mem_cons,List.mem_append,List.not_mem_nil,or_false] at ht
  rcases ht with rfl|ht|rfl
  ·exact h.1
  ·exact tk_okR r h.2 t ht
  ·trivial
 | .either rs,h,t,ht=>by
  simp only [dM,List.mem_cons,List.mem_append,List.not_mem_nil,or_false] at ht
  rcases ht with rfl|ht|rfl
  ·trivial
  ·exact tk_okRows rs h.2 t ht
  ·trivial
theorem tk_okR:∀r:List Pc,okR r->∀t∈toksR r,jD t
 |[],_,t,ht=>by simp [toksR] at ht
 |p::r,h,t,ht=>by
  simp only [toksR,List.mem_append] at ht
  exact ht.elim (xv6 p h.1 t) (tk_okR r h.2 t)
theorem tk_okRows:∀rs:List (List Pc),okRs rs->∀t∈toksRows rs,jD t
 |[],_,t,ht=>by simp [toksRows] at ht
 |r::rs,h,t,ht=>by
  simp only [toksRows,List.mem_append] at ht
  exact ht.elim (tk_okR r h.1 t) (tk_okMore rs h.2 t)
theorem tk_okMore:∀rs:List (List Pc),okRs rs->∀t∈toksMore rs,jD t
 |[],_,t,ht=>by simp [toksMore] at ht
 |r::rs,h,t,ht=>by
  simp only [toksMore,List.mem_cons,List.mem_append] at ht
  rcases ht with rfl|ht|ht
  ·trivial
  ·exact tk_okR r h.1 t ht
  ·exact tk_okMore rs h.2 t ht
end
def yP(G:tz6):tz1:=(bF 1 (aJ (f2 aZ (f2 aZ (aA 1) (bI (aB (f2 dIx (bI (aB (fC (.str "{")) (aB (fC (.str "|")) aD))) (aG cB (aB (f2 dGt (aA 3) (fC (.int 0))) aD))) aD))) (aG G (aB (f2 dIx (f2 dIx (aA 2) (fC (.int 1))) (aA 3)) aD)))))
def lM(G:tz6):tz1:=
   (aR (fIf (aL (fB (f2 dEq (f2 dIx (aA 2) (fC (.int 0))) (fC (.str "word")))))
   (cN (dG 1 bS (aB (f2 aZ (fC (.str "'")) (f2 dIx (aA 2) (fC (.int 1)))) aD) cK))
   aY)
 (aR (fIf (aL (fB (f2 dEq (f2 dIx (aA 2) (fC (.int 0))) (fC (.str "gap")))))
  (cN (dG 1 bS (aB (f2 dIx (bI (aB (fC (.str "_")) (aB (fC (.str ".")) aD))) (aG cB (aB (f2 dEq (f2 dIx (aA 2) (fC (.int 1))) (fC (.str ""))) aD))) aD) cK))
  aY)
 (aR (fIf (aL (fB (f2 dEq (f2 dIx (aA 2) (fC (.int 0))) (fC (.str "end")))))
  (cN (dG 1 bS (aB (fC (.str "/")) aD) cK))
  aY)
 (aR (fIf (aL (fB (f2 dEq (f2 dIx (aA 2) (fC (.int 0))) (fC (.str "stop")))))
  (cN (dG 1 bS (aB (f2 aZ (fC (.str "\x40")) (aG bY (aB (f2 dIx (aA 2) (fC (.int 1))) aD))) aD) cK))
  aY)
 (aR (fIf (aL (fB (f2 dEq (f2 dIx (aA 2) (fC (.int 0))) (fC (.str "group")))))
  (bF 1 (aJ (f2 aZ (f2 aZ (f2 aZ (aA 1) (bI (aB (fC (.str "[")) aD))) (aG G (aB (f2 dIx (aA 2) (fC (.int 1))) aD))) (bI (aB (fC (.str "]")) aD)))))
  aY)
 (aR (fIf (aL (fB (f2 dEq (f2 dIx (aA 2) (fC (.int 0))) (fC (.str "hang")))))
  (bF 1 (aJ (f2 aZ (f2 aZ (f2 aZ (aA 1) (bI (aB (f2 aZ (fC (.str ">")) (aG bY (aB (f2 dIx (aA 2) (fC (.int 1))) aD))) aD))) (aG G (aB (f2 dIx (aA 2) (fC (.int 2))) aD))) (bI (aB (fC (.str "<")) aD)))))
  aY)
 (fIf (aL (fB (f2 dEq (f2 dIx (aA 2) (fC (.int 0))) (fC (.str "either")))))
  (aR (dS 3 (dP (aB (aG bU (aB (f2 dIx (aA 2) (fC (.int 1))) aD)) aD)) (yP G))
 (cN (dG 1 bS (aB (fC (.str "}")) aD) cK)))
  aY)))))))
section
variable{G:tz6}{x0 x3:Option D}{acc:List Tk}{F:tz1}
theorem yv5{i:Int}(h0:0<=i)(h1:i<=40):i.natAbs.log2<1920:=by
 have h2:i.natAbs<2^6:=by omega
 have:i.natAbs.log2<6:=by
  by_cases z:i.natAbs=0
  ·rw [z];decide
  ·exact(Nat.log2_lt z).mpr h2
 omega
theorem dC{y:Option D}{p:D}{k w:String}(hp:dIx p (.int 0)=some (.str k))(h:k≠w):fIf (aL (fB (f2 dEq (f2 dIx (aA 2) (fC (.int 0))) (fC (.str w))))) F aY [x0,y,some p,x3]=some (.nx,[x0,y,some p,x3]):=by
 refine(jE (p':=[x0,y,some p,x3]) ?_).trans rfl
 have e:f2 dEq (f2 dIx (aA 2) (fC (.int 0))) (fC (.str w)) [x0,y,some p,x3]=some (.bl false):=aT (x:= .str k) (y:= .str w) (aT rfl rfl hp) rfl (by simp! [cB,bY,h])
 unfold aL fB
 rw [e];rfl
theorem rO{y:Option D}{p:D}{k:String}(hp:dIx p (.int 0)=some (.str k)):fIf (aL (fB (f2 dEq (f2 dIx (aA 2) (fC (.int 0))) (fC (.str k))))) F aY [x0,y,some p,x3]=F [x0,y,some p,x3]:=by
 refine pK (p':=[x0,y,some p,x3]) ?_
 have e:f2 dEq (f2 dIx (aA 2) (fC (.int 0))) (fC (.str k)) [x0,y,some p,x3]=some (.bl true):=aT (x:= .str k) (y:= .str k) (aT rfl rfl hp) rfl (by simp! [cB,bY])
 unfold aL fB
 rw [e];rfl
theorem zc4{f:tz2}{p:D}{d:D}{zs:List D}(hf:f [x0,some (.lst true zs),some p,x3]=some d)(hz:zs.length<sizeLine):cN (dG 1 bS (aB f aD) cK) [x0,some (.lst true zs),some p,x3]=some (.nx,[x0,some (.lst true (zs++[d])),some p,x3]):=by
 simp! [cB,bY,hf,hz]
theorem zc5(k:String)(d:D)(l:List D):dIx (.tup (.str k::d::l)) (.int 1)=some d:=by simp! [cB,bY]
theorem rP(k:String)(l:List D):dIx (.tup (.str k::l)) (.int 0)=some (.str k):=by simp! [cB,bY]
theorem xv7(k:String)(c d:D)(l:List D):dIx (.tup (.str k::c::d::l)) (.int 2)=some d:=by simp! [cB,bY]
theorem yD{i:Int}(h0:0<=i)(h1:i<=40):bY [.int i]=some (.str (iS i)):=by
 rw [bY,if_pos (yv5 h0 h1)];rfl
theorem zv5{a b:Str}(h:a.length+b.length<=1000):aZ (.str a) (.str b)=some (.str (a++b)):=by
 rw [aZ];exact if_pos (sz h)
theorem yv6(l:Leaf)(hl:jS l)(hz:acc.length<=900):lM G [x0,some (.lst true (aS acc)),some (dW l),x3]=some (.nx,[x0,some (.lst true (aS (acc++[.leaf l]))),some (dW l),x3]):=by
 have h1:(aS acc).length<sizeLine:=by rw [gO];exact sz1 (by omega)
 have e:aS (acc++[Tk.leaf l])=aS acc++[.str (bE (.leaf l))]:=by rw [kL];rfl
 rw [e]
 unfold lM
 cases l with
 |word x=>
  have h':kU x:=hl
  have hp:=rP "word" [.str x]
  refine(aE ((rO hp).trans (zc4 (d:= .str (("'":Str)++x)) (aT rfl (aT rfl rfl (zc5 "word" _ _)) (zv5 (by have:=h'.2.1;show 1+_<=1000;omega))) h1))).trans ?_
  exact(aE (dC hp (by decide))).trans ((aE (dC hp (by decide))).trans ((aE (dC hp (by decide))).trans ((aE (dC hp (by decide))).trans ((aE (dC hp (by decide))).trans (dC hp (by decide))))))
 | gap x=>
  have hp:=rP "gap" [.str x]
  have s:f2 dIx (bI (aB (fC (.str "_")) (aB (fC (.str ".")) aD))) (aG cB (aB (f2 dEq (f2 dIx (aA 2) (fC (.int 1))) (fC (.str ""))) aD)) [x0,some (.lst true (aS acc)),some (.tup [.str "gap",.str x]),x3]=some (.str (bE (.leaf (.gap x)))):=by
   by_cases c:x=""
   ·subst c;simp! [cB,bY,bE]
   ·have c':¬(x=Str.ofString ""):=c
    simp! [cB,bY,bE,c']
  refine(aE (dC hp (by decide))).trans ((aE ((rO hp).trans (zc4 s h1))).trans ?_)
  exact(aE (dC hp (by decide))).trans ((aE (dC hp (by decide))).trans ((aE (dC hp (by decide))).trans ((aE (dC hp (by decide))).trans (dC hp (by decide)))))
 |stop c=>
  have h':0<=c/\c<=40:=hl
  have hp:=rP "stop" [.int c]
  refine(aE (dC hp (by decide))).trans ((aE (dC hp (by decide))).trans ((aE (dC hp (by decide))).trans ?_))
  refine(aE ((rO hp).trans (zc4 (d:= .str (("\x40":Str)++iS c)) (aT rfl (aU (ds:=[.int c]) (aO (aT rfl rfl (zc5 "stop" _ _)) rfl) (yD h'.1 h'.2)) (zv5 (by have:=rN h'.1 h'.2;show 1+_<=1000;omega))) h1))).trans ?_
  exact(aE (dC hp (by decide))).trans ((aE (dC hp (by decide))).trans (dC hp (by decide)))
 |fin=>
  have hp:=rP "end" []
  refine(aE (dC hp (by decide))).trans ((aE (dC hp (by decide))).trans ((aE ((rO hp).trans (zc4 rfl h1))).trans ?_))
  exact(aE (dC hp (by decide))).trans ((aE (dC hp (by decide))).trans ((aE (dC hp (by decide))).trans (dC hp (by decide))))
theorem zv6{f g:tz2}{p:D}{b c:Str}{ts:List Tk}(hf:f [x0,some (.lst true (aS acc)),some p,x3]=some (.str b))(hg:g [x0,some (.lst true (aS acc)),some p,x3]=some (.lst true (aS ts)))(hz:acc.length+ts.length<=900):
  f2 aZ (f2 aZ (f2 aZ (aA 1) (bI (aB f aD))) g) (bI (aB (fC (.str c)) aD)) [x0,some (.lst true (aS acc)),some p,x3]=some (.lst true (aS acc++[.str b]++aS ts++[.str c])):=by
 have e1:bI (aB f aD) [x0,some (.lst true (aS acc)),some p,x3]=some (.lst true [.str b]):=eV (aO hf rfl) (by simp! [cB,bY])
 have i1:D.imms [D.str b]=true:=rfl
 have i2:D.imms (aS acc++[.str b])=true:=by rw [rH,lW];rfl
 have i3:D.imms (aS acc++[.str b]++aS ts)=true:=by rw [rH,i2,lW];rfl
 refine aT (aT (aT rfl e1 (pT (lW _) i1 ?_)) hg (pT i2 (lW _) ?_)) rfl (pT i3 rfl ?_)
 ·rw [gO];simp;omega
 ·rw [List.length_append,gO,gO];simp;omega
 ·rw [List.length_append,List.length_append,gO,gO];simp;omega
theorem yl8{r:List Pc}(q:G [.tup (pcsD r)]=some (.lst true (aS (toksR r))))(hz:acc.length+(toksR r).length<=900):lM G [x0,some (.lst true (aS acc)),some (pcD (.group r)),x3]=some (.nx,[x0,some (.lst true (aS (acc++dM (.group r)))),some (pcD (.group r)),x3]):=by
 have e:aS (acc++dM (.group r))=aS acc++[.str "["]++aS (toksR r)++[.str "]"]:=by rw [kL,dM,pM,kL];simp! [cB,bY,bE,aS,aM]
 rw [e]
 unfold lM
 have hp:=rP "group" [.tup (pcsD r)]
 refine(aE (dC hp (by decide))).trans ((aE (dC hp (by decide))).trans ((aE (dC hp (by decide))).trans ((aE (dC hp (by decide))).trans ?_)))
 refine(aE ((rO hp).trans (cC (zv6 rfl (aU (ds:=[.tup (pcsD r)]) (aO (aT rfl rfl (zc5 "group" _ _)) rfl) q) hz)))).trans ?_
 exact(aE (dC hp (by decide))).trans (dC hp (by decide))
theorem yv7{n:Int}{r:List Pc}(hn:0<=n/\n<=12)(q:G [.tup (pcsD r)]=some (.lst true (aS (toksR r))))(hz:acc.length+(toksR r).length<=900):lM G [x0,some (.lst true (aS acc)),some (pcD (.hang n r)),x3]=some (.nx,[x0,some (.lst true (aS (acc++dM (.hang n r)))),some (pcD (.hang n r)),x3]):=by
 have e:aS (acc++dM (.hang n r))=aS acc++[.str ((">":Str)++iS n)]++aS (toksR r)++[.str "<"]:=by rw [kL,dM,pM,kL];simp! [cB,bY,bE,aS,aM]
 rw [e]
 unfold lM
 have hp:=rP "hang" [.int n,.tup (pcsD r)]
 have s1:f2 aZ (fC (.str ">")) (aG bY (aB (f2 dIx (aA 2) (fC (.int 1))) aD)) [x0,some (.lst true (aS acc)),some (pcD (.hang n r)),x3]=some (.str ((">":Str)++iS n)):=
  aT rfl (aU (ds:=[.int n]) (aO (aT rfl rfl (zc5 "hang" _ _)) rfl) (yD hn.1 (by omega))) (zv5 (by have:=rN hn.1 (by omega:n<=40);show 1+_<=1000;omega))
 refine(aE (dC hp (by decide))).trans ((aE (dC hp (by decide))).trans ((aE (dC hp (by decide))).trans ((aE (dC hp (by decide))).trans ((aE (dC hp (by decide))).trans ?_))))
 refine(aE ((rO hp).trans (cC (zv6 s1 (aU (ds:=[.tup (pcsD r)]) (aO (aT rfl rfl (xv7 "hang" _ _ _)) rfl) q) hz)))).trans ?_
 exact dC hp (by decide)
theorem zv7{P0:D}{rs:List (List Pc)}{r:List Pc}{j:Nat}(hP:dIx P0 (.int 1)=some (.tup (rowsD rs)))(hr:atI (rowsD rs) (j:Int)=some (.tup (pcsD r)))(q:G [.tup (pcsD r)]=some (.lst true (aS (toksR r))))(hz:acc.length+(toksR r).length<=900):
  yP G [x0,some (.lst true (aS acc)),some P0,some (.int (j:Int))]=some (.nx,[x0,some (.lst true (aS (acc++((if 0<j then Tk.orr else Tk.eit)::toksR r)))),some P0,some (.int (j:Int))]):=by
 have s1:f2 dIx (bI (aB (fC (.str "{")) (aB (fC (.str "|")) aD))) (aG cB (aB (f2 dGt (aA 3) (fC (.int 0))) aD)) [x0,some (.lst true (aS acc)),some P0,some (.int (j:Int))]=some (.str (bE (if 0<j then Tk.orr else Tk.eit))):=by
  by_cases c:0<j
  ·have c':(0:Int)<(j:Int):=by omega
   rw [if_pos c]
   have e1:aG cB (aB (f2 dGt (aA 3) (fC (.int 0))) aD) [x0,some (.lst true (aS acc)),some P0,some (.int (j:Int))]=some (.int 1):=by simp! [cB,bY,c]
   exact aT (x:= .lst true [.str "{",.str "|"]) rfl e1 (by simp! [cB,bY,bE])
  ·have c':¬((0:Int)<(j:Int)):=by omega
   rw [if_neg c]
   have e1:aG cB (aB (f2 dGt (aA 3) (fC (.int 0))) aD) [x0,some (.lst true (aS acc)),some P0,some (.int (j:Int))]=some (.int 0):=by simp! [cB,bY,c]
   exact aT (x:= .lst true [.str "{",.str "|"]) rfl e1 (by simp! [cB,bY,bE])
 generalize (if 0<j then Tk.orr else Tk.eit)=t at s1|-
 have e:aS (acc++(t::toksR r))=aS acc++[.str (bE t)]++aS (toksR r):=by rw [kL,pM];simp! [cB,bY]
 rw [e]
 have s2:bI (aB (f2 dIx (bI (aB (fC (.str "{")) (aB (fC (.str "|")) aD))) (aG cB (aB (f2 dGt (aA 3) (fC (.int 0))) aD))) aD) [x0,some (.lst true (aS acc)),some P0,some (.int (j:Int))]=some (.lst true [.str (bE t)]):=eV (aO s1 rfl) (by simp! [cB,bY])
 have i2:D.imms (aS acc++[.str (bE t)])=true:=by rw [rH,lW];rfl
 refine cC (aT (aT rfl s2 (pT (lW _) rfl ?_)) (aU (ds:=[.tup (pcsD r)]) (aO (aT (aT rfl rfl hP) rfl hr) rfl) q) (pT i2 (lW _) ?_))
 ·rw [gO];simp;omega
 ·rw [List.length_append,gO,gO];simp;omega
theorem zv8:∀(rs:List (List Pc)) (j:Nat) (r:List Pc),rs[j]? =some r->(rowsD rs)[j]? =some (.tup (pcsD r))
 |[],_,_,h=>by simp! [cB,bY] at h
 |q::rs,0,r,h=>by simp! [cB,bY] at h;subst h;rfl
 |q::rs,j+1,r,h=>by simpa [rowsD] using zv8 rs j r (by simpa using h)
theorem zv9{P0:D}{all:List (List Pc)}(hP:dIx P0 (.int 1)=some (.tup (rowsD all)))(q:∀r∈all,G [.tup (pcsD r)]=some (.lst true (aS (toksR r)))):∀(pre rs:List (List Pc)) (acc:List Tk) (x3:Option D),all=pre++rs->pre≠[]->acc.length+(toksMore rs).length<=900->
  ∃y3,dJ 3 (yP G) ((List.range' pre.length rs.length).map fun(k:Nat)=>D.int (k:Int)) [x0,some (.lst true (aS acc)),some P0,x3]=some (.nx,[x0,some (.lst true (aS (acc++toksMore rs))),some P0,y3])
 |pre,[],acc,x3,_,_,_=>⟨x3,by simp! [cB,bY,dJ,toksMore]⟩
 |pre,r::rs,acc,x3,e,hp,hl=>by
  have e1:toksMore (r::rs)=Tk.orr::(toksR r++toksMore rs):=rfl
  rw [e1] at hl|-
  simp only [List.length_cons,List.length_append] at hl
  have hj:all[pre.length]? =some r:=by rw [e];simp! [cB,bY]
  have hpos:0<pre.length:=by cases pre with|nil=>exact absurd rfl hp|cons a l=>simp! [cB,bY]
  have s1:=zv7 (G:=G) (x0:=x0) (acc:=acc) (j:=pre.length) hP (qV (zv8 all _ r hj)) (q r (by rw [e];simp! [cB,bY])) (by omega)
  rw [if_pos hpos] at s1
  obtain⟨y3,s2⟩:=zv9 hP q (pre++[r]) rs (acc++(Tk.orr::toksR r)) (some (.int (pre.length:Int))) (by rw [e];simp! [cB,bY]) (by simp! [cB,bY]) (by simp;omega)
  refine⟨y3,?_⟩
  rw [List.length_append] at s2
  rw [List.length_cons,List.range'_succ,List.map_cons,dJ]
  show(yP G [x0,some (.lst true (aS acc)),some P0,some (.int (pre.length:Int))]).bind _=_
  rw [s1,Option.bind_some]
  refine Eq.trans s2 ?_
  simp! [cB,bY]
theorem zw0:∀rs:List (List Pc),rs.length<=(toksMore rs).length
 |[]=>Nat.le_refl _
 |q::rs=>by
  have ih:=zw0 rs
  show rs.length+1<=(Tk.orr::(toksR q++toksMore rs)).length
  rw [List.length_cons,List.length_append];omega
theorem yb2{rs:List (List Pc)}(hne:rs≠[])(q:∀r∈rs,G [.tup (pcsD r)]=some (.lst true (aS (toksR r))))(hz:acc.length+(dM (.either rs)).length<=900):∃y3,lM G [x0,some (.lst true (aS acc)),some (pcD (.either rs)),x3]=some (.nx,[x0,some (.lst true (aS (acc++dM (.either rs)))),some (pcD (.either rs)),y3]):=by
 cases rs with
 |nil=>exact absurd rfl hne
 | cons r rs=>
  have e0:dM (.either (r::rs))=Tk.eit::(toksR r++toksMore rs++[.don]):=rfl
  rw [e0] at hz|-
  simp only [List.length_cons,List.length_append,List.length_nil] at hz
  have hP:dIx (pcD (.either (r::rs))) (.int 1)=some (.tup (rowsD (r::rs))):=by simp! [cB,bY,pcD]
  have s1:=zv7 (G:=G) (x0:=x0) (acc:=acc) (j:=0) hP (by simp! [cB,bY,rowsD]) (q r List.mem_cons_self) (by omega)
  rw [if_neg (by decide)] at s1
  obtain⟨y3,s2⟩:=zv9 (G:=G) (x0:=x0) hP q [r] rs (acc++(Tk.eit::toksR r)) (some (.int 0)) rfl (by simp! [cB,bY]) (by simp;omega)
  refine⟨y3,?_⟩
  have er:dP (aB (aG bU (aB (f2 dIx (aA 2) (fC (.int 1))) aD)) aD) [x0,some (.lst true (aS acc)),some (pcD (.either (r::rs))),x3]=some ((List.range (r::rs).length).map fun(k:Nat)=>D.int (k:Int)):=by
   have e1:aB (aG bU (aB (f2 dIx (aA 2) (fC (.int 1))) aD)) aD [x0,some (.lst true (aS acc)),some (pcD (.either (r::rs))),x3]=some [.int ((r::rs).length:Nat)]:=by
    refine aO (aU (ds:=[.tup (rowsD (r::rs))]) (aO hP rfl) ?_) rfl
    show some (D.int ((rowsD (r::rs)).length:Int))=_
    rw [fS]
   have hlen:(r::rs).length<=1000:=by
    have:=zw0 rs
    simp;omega
   unfold dP
   rw [e1,Option.bind_some,qX (by omega) (by omega),uB,List.map_map];rfl
  have s3:dS 3 (dP (aB (aG bU (aB (f2 dIx (aA 2) (fC (.int 1))) aD)) aD)) (yP G) [x0,some (.lst true (aS acc)),some (pcD (.either (r::rs))),x3]=some (.nx,[x0,some (.lst true (aS (acc++(Tk.eit::toksR r)++toksMore rs))),some (pcD (.either (r::rs))),y3]):=by
   unfold dS
   rw [er,Option.bind_some,List.range_eq_range',List.length_cons,List.range'_succ,List.map_cons,dJ]
   show(yP G [x0,some (.lst true (aS acc)),some (pcD (.either (r::rs))),some (.int ((0:Nat):Int))]).bind _=_
   rw [s1,Option.bind_some]
   exact s2
  have hz4:(aS (acc++(Tk.eit::toksR r)++toksMore rs)).length<sizeLine:=by rw [gO];exact sz1 (by simp;omega)
  have s4:cN (dG 1 bS (aB (fC (.str "}")) aD) cK) [x0,some (.lst true (aS (acc++(Tk.eit::toksR r)++toksMore rs))),some (pcD (.either (r::rs))),y3]=some (.nx,[x0,some (.lst true (aS (acc++Tk.eit::(toksR r++toksMore rs++[.don])))),some (pcD (.either (r::rs))),y3]):=by
   have e:aS (acc++Tk.eit::(toksR r++toksMore rs++[.don]))=aS (acc++(Tk.eit::toksR r)++toksMore rs)++[.str "}"]:=by
    rw [show acc++Tk.eit::(toksR r++toksMore rs++[.don])=(acc++(Tk.eit::toksR r)++toksMore rs)++[Tk.don] by simp! [cB,bY],kL];rfl
   rw [e]
   generalize aS (acc++(Tk.eit::toksR r)++toksMore rs)=Z at hz4|-
   simp! [cB,bY,hz4]
  have hp:=rP "either" [.tup (rowsD (r::rs))]
  unfold lM
  refine(aE (dC hp (by decide))).trans ((aE (dC hp (by decide))).trans ((aE (dC hp (by decide))).trans ((aE (dC hp (by decide))).trans ((aE (dC hp (by decide))).trans ((aE (dC hp (by decide))).trans ?_)))))
  exact(rO hp).trans ((aE s3).trans s4)
end
theorem zw1{G:tz6}{x0:Option D}:∀(r:List Pc) (acc:List Tk) (x2 x3:Option D),okR r->(∀p∈r,∀r'∈jX p,G [.tup (pcsD r')]=some (.lst true (aS (toksR r'))))->acc.length+(toksR r).length<=900->
  ∃y2 y3,dJ 2 (lM G) (pcsD r) [x0,some (.lst true (aS acc)),x2,x3]=some (.nx,[x0,some (.lst true (aS (acc++toksR r))),y2,y3])
 |[],acc,x2,x3,_,_,_=>⟨x2,x3,by simp! [cB,bY,pcsD,dJ,toksR]⟩
 | p::r,acc,x2,x3,hok,h,hl=>by
  have e:toksR (p::r)=dM p++toksR r:=rfl
  rw [e] at hl|-
  rw [List.length_append] at hl
  have s1:∃y3,lM G [x0,some (.lst true (aS acc)),some (pcD p),x3]=some (.nx,[x0,some (.lst true (aS (acc++dM p))),some (pcD p),y3]):=by
   have hp:=h p List.mem_cons_self
   cases p with
   |leaf l=>exact⟨_,yv6 l hok.1 (by omega)⟩
   |group r'=>exact⟨_,yl8 (hp r' List.mem_cons_self) (by simp! [cB,bY,dM] at hl;omega)⟩
   |hang n r'=>exact⟨_,yv7 hok.1.1 (hp r' List.mem_cons_self) (by simp! [cB,bY,dM] at hl;omega)⟩
   |either rs=>
    have hne:rs≠[]:=fun z=>by have:2<=rs.length:=hok.1.1.1;rw [z] at this;simp! [cB,bY] at this
    exact yb2 hne hp (by omega)
  obtain⟨y3,s1⟩:=s1
  obtain⟨z2,z3,s2⟩:=zw1 r (acc++dM p) (some (pcD p)) y3 hok.2 (fun p' hp'=>h p' (List.mem_cons_of_mem _ hp')) (by rw [List.length_append];omega)
  refine⟨z2,z3,?_⟩
  rw [<-List.append_assoc,<-s2]
  show dJ 2 (lM G) (pcD p::pcsD r) _=_
  rw [dJ]
  show(lM G [x0,some (.lst true (aS acc)),some (pcD p),x3]).bind _=_
  rw [s1];rfl
def oW:Nat->tz6
 |0=>fun _=>none
 |n+1=>gP 1 3 (tK (oW n))
theorem zw2:∀{rs:List (List Pc)} {r:List Pc},okRs rs->r∈rs->okR r
 |[],_,_,h=>by simp! [cB,bY] at h
 |q::rs,r,h,hr=>(List.mem_cons.mp hr).elim (fun e=>e▸h.1) fun z=>zw2 h.2 z
theorem yg0:∀{r:List Pc} {p:Pc},okR r->p∈r->okP p
 |[],_,_,h=>by simp! [cB,bY] at h
 |q::rs,r,h,hr=>(List.mem_cons.mp hr).elim (fun e=>e▸h.1) fun z=>yg0 h.2 z
theorem yl9{p:Pc}{r:List Pc}(h:okP p)(hr:r∈jX p):okR r:=by
 cases p with
 |leaf l=>simp! [cB,bY,jX] at hr
 |group r'=>simp! [cB,bY,jX] at hr;subst hr;exact h
 |hang n r'=>simp! [cB,bY,jX] at hr;subst hr;exact h.2
 |either rs=>exact zw2 h.2 hr
theorem yb3{p:Pc}{r:List Pc}(hr:r∈jX p):(toksR r).length<=(dM p).length:=by
 cases p with
 |leaf l=>simp! [cB,bY,jX] at hr
 |group r'=>simp! [cB,bY,jX] at hr;subst hr;simp! [cB,bY,dM];omega
 |hang n r'=>simp! [cB,bY,jX] at hr;subst hr;simp! [cB,bY,dM];omega
 |either rs=>have:=yb0 (r:=r) (rs:=rs) hr;simp! [cB,bY,dM];omega
theorem yb4{p:Pc}{r:List Pc}(h:r∈jX p):depR r<nL p:=by
 cases p with
 |leaf l=>simp! [cB,bY,jX] at h
 |group r'=>simp! [cB,bY,jX] at h;subst h;show depR r<depR r+1;omega
 |hang n r'=>simp! [cB,bY,jX] at h;subst h;show depR r<depR r+1;omega
 |either rs=>have:=zl1 (r:=r) (rs:=rs) h;show depR r<depRs rs+1;omega
theorem yg1:∀(n:Nat) (r:List Pc),okR r->depR r<n->(toksR r).length<=900->oW n [.tup (pcsD r)]=some (.lst true (aS (toksR r)))
 |0,_,_,h,_=>by omega
 | n+1,r,hok,hd,hl=>by
  obtain⟨y2,y3,q⟩:=zw1 (G:=oW n) (x0:=some (.tup (pcsD r))) r [] none none hok (fun p hp r' hr'=>by
   have h1:=zu4 hp;have h2:=yb4 hr';have h3:=yb3 hr';have h4:=xd0 hp
   exact yg1 n r' (yl9 (yg0 hok hp) hr') (by omega) (by omega)) (by simp;omega)
  have e:tK (oW n)=aR (bF 1 (aJ (bI aD))) (aR (dS 2 (iM (aA 0)) (lM (oW n))) (dZ 1)):=rfl
  have s2:dS 2 (iM (aA 0)) (lM (oW n)) [some (.tup (pcsD r)),some (.lst true []),none,none]=some (.nx,[some (.tup (pcsD r)),some (.lst true (aS (toksR r))),y2,y3]):=by
   unfold dS;exact q
  have z:=(congrFun e [some (.tup (pcsD r)),none,none,none]).trans ((aE (cC (d:= .lst true []) rfl)).trans (aE s2))
  exact cR rfl (p:=[some (.tup (pcsD r)),none,y2,y3]) (z.trans rfl)
theorem zw3(a b:Nat):sLt ⟨#[a]⟩ ⟨#[b]⟩=decide (a<b):=by
 unfold sLt
 by_cases h:a<b
 ·rw [decide_eq_true h,decide_eq_true]
  exact List.Lex.rel h
 ·rw [decide_eq_false h,decide_eq_false]
  intro z
  cases z with
  |rel z=>exact h z
  |cons z=>cases z
theorem xd8:("!":Str)=⟨#[33]⟩:=by decide+kernel
theorem ym0:("~":Str)=⟨#[126]⟩:=by decide+kernel
theorem zl6:∀l:List Nat,l.all eW=true->iU [none] kM (fD (f2 dLe (fC (.str "!")) (aA 0)) (f2 dLe (aA 0) (fC (.str "~")))) (l.map fun c=>D.str ⟨#[c]⟩)=some (l.map fun _=>D.bl true)
 |[],_=>rfl
 | c::l,h=>by
  rw [List.all_cons,Bool.and_eq_true] at h
  have ih:=zl6 l h.2
  have hc:=h.1
  simp only [eW,Bool.and_eq_true,decide_eq_true_eq] at hc
  have e1:dLe (.str "!") (.str ⟨#[c]⟩)=some (.bl true):=by
   rw [dLe,xd8,zw3,decide_eq_false (by omega)];rfl
  have e2:dLe (.str ⟨#[c]⟩) (.str "~")=some (.bl true):=by
   rw [dLe,ym0,zw3,decide_eq_false (by omega)];rfl
  have e3:fD (f2 dLe (fC (.str "!")) (aA 0)) (f2 dLe (aA 0) (fC (.str "~"))) [some (.str ⟨#[c]⟩)]=some (.bl true):=by
   unfold fD
   rw [aT (x:= .str "!") (y:= .str ⟨#[c]⟩) rfl rfl e1]
   show f2 dLe (aA 0) (fC (.str "~")) [some (.str ⟨#[c]⟩)]=_
   exact aT (x:= .str ⟨#[c]⟩) (y:= .str "~") rfl rfl e2
  rw [List.map_cons,iU]
  show(kM [some (.str ⟨#[c]⟩)]).bind _=_
  show((fD (f2 dLe (fC (.str "!")) (aA 0)) (f2 dLe (aA 0) (fC (.str "~"))) [some (.str ⟨#[c]⟩)]).bind _)=_
  rw [e3,ih];rfl
theorem zc6:∀l:List Nat,D.bools (l.map fun _=>D.bl true)=some (l.map fun _=>true)
 |[]=>rfl
 |c::l=>by
  show D.bools (.bl true::l.map fun _=>D.bl true)=_
  rw [D.bools,zc6 l];rfl
abbrev lD:tz6:=gP 1 0 xM
theorem ym1{x:Str}(h:kU x):lD [.str x]=some (.bl true):=by
 obtain⟨h1,h2,h3⟩:=h
 have hz:x.length<=sizeLine:=sz (by omega)
 have s1:fIf (aL (mS (fT (aG gA (aB (aA 0) (aB (fC (.ty "str")) aD)))))) (cA (aJ (fC (.bl false)))) aY [some (.str x)]=some (.nx,[some (.str x)]):=by simp! [gA,dTy,eR,fD]
 have s2:fIf (aL (jP (fB (f2 dLt (aG bU (aB (aA 0) aD)) (fC (.int 1)))) (fB (f2 dGt (aG bU (aB (aA 0) aD)) (fC (.int 12)))))) (cA (aJ (fC (.bl false)))) aY [some (.str x)]=some (.nx,[some (.str x)]):=by
  have a1:¬((x.length:Int)<1):=by omega
  have a2:¬((12:Int)<(x.length:Int)):=by omega
  simp! [gA,dTy,eR,fD,hz,a1,a2]
 have s3:mU [none] (iT (aA 0)) kM (fD (f2 dLe (fC (.str "!")) (aA 0)) (f2 dLe (aA 0) (fC (.str "~")))) [some (.str x)]=some (.lst true (x.cps.toList.map fun _=>D.bl true)):=by
  have e1:iT (aA 0) [some (.str x)]=some (x.cps.toList.map fun c=>D.str ⟨#[c]⟩):=by
   unfold iT
   show xJ (.str x)=_
   unfold xJ
   refine(if_pos ?_).trans rfl
   rw [Array.all_eq_true]
   intro i hi
   have:=List.all_eq_true.mp h3 x.cps[i] (by simp! [gA,dTy,eR,fD])
   simp! [gA,dTy,eR,fD,eW] at this
   simp;omega
  unfold mU
  rw [e1,Option.bind_some,if_pos (by rw [List.length_map];exact hz)]
  show(iU [none] kM _ _).bind _=_
  rw [zl6 _ h3];rfl
 refine cR rfl (p:=[some (.str x)]) ((aE s1).trans ((aE s2).trans (bQ (aU (aO s3 rfl) ?_))))
 rw [vP,zc6]
 show some (D.bl ((x.cps.toList.map fun _=>true).all id))=_
 congr 2
 rw [List.all_map,List.all_eq_true]
 intro c _;rfl
theorem yv8{i:Int}(h0:0<=i)(h1:i<=40):1<=(iS i).length:=by
 have h:∀n:Fin 41,1<=(iS (n.val:Int)).length:=by decide+kernel
 have:=h ⟨i.toNat,by omega⟩
 rwa [show((i.toNat:Nat):Int)=i by omega] at this
theorem xv8{i j:Int}(hi:0<=i/\i<=40)(hj:0<=j/\j<=40)(h:iS i=iS j):i=j:=by
 have key:∀a b:Fin 41,iS (a.val:Int)=iS (b.val:Int)->a=b:=by decide+kernel
 have:=key ⟨i.toNat,by omega⟩ ⟨j.toNat,by omega⟩ (by
  rw [show((i.toNat:Nat):Int)=i by omega,show((j.toNat:Nat):Int)=j by omega];exact h)
 have:=congrArg (fun z:Fin 41=>z.val) this
 simp! [gA,dTy,eR,fD] at this
 omega
abbrev nU:tz6:=gP 3 1 qN
def qM:tz1:=(fIf (aL (fB (f2 dEq (aA 1) (aG bY (aB (aA 3) aD)))))
   (cA (aJ (gF (aB (dI (aA 0)) (aB (dI (aA 3)) aD)))))
   aY)
theorem yg2{k:Str}{c:Int}{m:Option D}(hc:0<=c/\c<=40):∀(l:List Int) (x3:Option D),(∀j∈l,0<=j/\j<=40)->c∈l->∃p,dJ 3 qM (l.map .int) [some (.str k),some (.str (iS c)),m,x3]=some (.ret (.tup [.str k,.int c]),p)
 |[],_,_,h=>by simp! [gA,dTy,eR,fD] at h
 | j::l,x3,hl,h=>by
  have hj:=hl j List.mem_cons_self
  have e1:f2 dEq (aA 1) (aG bY (aB (aA 3) aD)) [some (.str k),some (.str (iS c)),m,some (.int j)]=some (.bl (decide (iS c=iS j))):=
   aT (x:= .str (iS c)) (y:= .str (iS j)) rfl (aU (ds:=[.int j]) rfl (yD hj.1 hj.2)) rfl
  rw [List.map_cons,dJ]
  show ∃p,(qM [some (.str k),some (.str (iS c)),m,some (.int j)]).bind _=_
  by_cases hcj:c=j
  ·subst hcj
   refine⟨[some (.str k),some (.str (iS c)),m,some (.int c)],?_⟩
   have:qM [some (.str k),some (.str (iS c)),m,some (.int c)]=some (.ret (.tup [.str k,.int c]),[some (.str k),some (.str (iS c)),m,some (.int c)]):=by
    unfold qM
    refine(pK (p':=[some (.str k),some (.str (iS c)),m,some (.int c)]) ?_).trans (bQ (by simp! [gA,dTy,eR,fD]))
    unfold aL fB
    rw [e1];simp! [gA,dTy,eR,fD]
   rw [this];rfl
  ·have hne:¬iS c=iS j:=fun z=>hcj (xv8 hc hj z)
   obtain⟨p,q⟩:=yg2 hc l (some (.int j)) (fun i hi=>hl i (List.mem_cons_of_mem _ hi)) ((List.mem_cons.mp h).resolve_left hcj)
   refine⟨p,?_⟩
   have:qM [some (.str k),some (.str (iS c)),m,some (.int j)]=some (.nx,[some (.str k),some (.str (iS c)),m,some (.int j)]):=by
    unfold qM
    refine(jE (p':=[some (.str k),some (.str (iS c)),m,some (.int j)]) ?_).trans rfl
    unfold aL fB
    rw [e1,decide_eq_false hne];rfl
   rw [this];exact q
theorem yv9{k:Str}{c m:Int}(hc:0<=c/\c<=m)(hm:m<=40):nU [.str k,.str (iS c),.int m]=some (.tup [.str k,.int c]):=by
 obtain⟨p,q⟩:=yg2 (k:=k) (c:=c) (m:=some (.int m)) ⟨hc.1,by omega⟩ ((List.range (m+1).toNat).map fun(k:Nat)=>(k:Int)) none (fun j hj=>by
  obtain⟨i,hi,rfl⟩:=List.mem_map.mp hj
  have:=List.mem_range.mp hi
  omega) (List.mem_map.mpr ⟨c.toNat,List.mem_range.mpr (by omega),by omega⟩)
 rw [<-uB] at q
 have er:dP (aB (f2 aZ (aA 2) (fC (.int 1))) aD) [some (.str k),some (.str (iS c)),some (.int m),none]=some (fY 0 (m+1).toNat):=by
  have e1:aB (f2 aZ (aA 2) (fC (.int 1))) aD [some (.str k),some (.str (iS c)),some (.int m),none]=some [.int (m+1)]:=rfl
  unfold dP
  rw [e1,Option.bind_some,qX (by omega) (by omega)]
 have s1:dS 3 (dP (aB (f2 aZ (aA 2) (fC (.int 1))) aD)) qM [some (.str k),some (.str (iS c)),some (.int m),none]=some (.ret (.tup [.str k,.int c]),p):=by
  unfold dS;rw [er];exact q
 exact cR rfl (cO s1)
theorem xd9{z:Str}(h:2<=z.length):(eL.any fun j=>decide (j= .inr z))=false:=by
 have ne:∀s:String,(Str.ofString s).length=1->decide ((Sum.inr (Str.ofString s):Key)= .inr z)=false:=fun s hs=>decide_eq_false fun e=>by
  have:=Sum.inr.inj e
  rw [<-this] at h;omega
 simp only [eL,List.any_cons,List.any_nil,Bool.or_false]
 rw [ne "_" rfl,ne "." rfl,ne "/" rfl,ne "[" rfl,ne "]" rfl,ne "<" rfl,ne "{" rfl,ne "|" rfl,ne "}" rfl];rfl
theorem xe0{z:Str}{d:D}(h:rX (.dic false eL nM) (.str z)=some d):(eL.any fun j=>decide (j= .inr z))=true:=by
 have go:∀(ks:List Key) (ds:List D),zU ks ds (.inr z)=some d->(ks.any fun j=>decide (j= .inr z))=true:=fun ks=>by
  induction ks with
  |nil=>intro ds h;cases ds<;>cases h
  | cons k ks ih=>
   intro ds h
   cases ds with
   |nil=>cases h
   | cons e ds=>
    rw [zU] at h
    rw [List.any_cons]
    by_cases c:k= .inr z
    ·rw [decide_eq_true c];rfl
    ·rw [if_neg c] at h
     rw [ih ds h];simp! [gA,dTy,eR,fD]
 exact go _ _ h
abbrev jY:tz6:=gP 1 0 (kW nU lD)
theorem pN:("\x40":Str)=⟨#[64]⟩:=by decide+kernel
theorem sO:(">":Str)=⟨#[62]⟩:=by decide+kernel
theorem rQ:("'":Str)=⟨#[39]⟩:=by decide+kernel
section
variable{GN GW:tz6}{z:Str}{F:tz1}
theorem ym2(h:2<=z.length):fIf (aL (pF eL (aA 0))) F aY [some (.str z)]=some (.nx,[some (.str z)]):=by
 refine(jE (p':=[some (.str z)]) ?_).trans rfl
 show(some (eL.any fun j=>decide (j= .inr z))).bind _=_
 rw [xd9 h];rfl
theorem xG{y:Str}:fT (fMt fM (aA 0) (aB (fC (.str y)) aD)) [some (.str z)]=some (Txt.startswith z y):=rfl
theorem sP{y:Str}(h:Txt.startswith z y=false):fIf (aL (fT (fMt fM (aA 0) (aB (fC (.str y)) aD)))) F aY [some (.str z)]=some (.nx,[some (.str z)]):=by
 refine(jE (p':=[some (.str z)]) ?_).trans rfl
 unfold aL
 rw [xG,h];rfl
theorem zc7{y:Str}(h:Txt.startswith z y=true):fIf (aL (fT (fMt fM (aA 0) (aB (fC (.str y)) aD)))) F aY [some (.str z)]=F [some (.str z)]:=by
 refine pK (p':=[some (.str z)]) ?_
 unfold aL
 rw [xG,h];rfl
theorem ym3{c:Nat}{x:Str}(hz:x.length<=900):fSl (aA 0) (bX (fC (.int 1))) bL [some (.str (⟨#[c]⟩++x))]=some (.str x):=by
 have hl:(⟨#[c]⟩++x:Str).length<=sizeLine:=by rw [bZ];exact sz (by show 1+_<=1000;omega)
 show(if (⟨#[c]⟩++x:Str).length<=sizeLine then some (D.str (Txt.slice (⟨#[c]⟩++x) (some 1) none)) else none)=_
 rw [if_pos hl,yu7]
theorem xe1{d:D}(h:rX (.dic false eL nM) (.str z)=some d)(hi:d.imm=true):gP 1 0 (kW GN GW) [.str z]=some d:=by
 refine cR rfl (p:=[some (.str z)]) (cO ((pK (p':=[some (.str z)]) ?_).trans (bQ ?_)))
 ·show(some (eL.any fun j=>decide (j= .inr z))).bind _=_
  rw [xe0 h];rfl
 ·unfold dI
  rw [aT (x:= .dic false eL nM) (y:= .str z) rfl rfl h]
  show(if d.imm=true then some d else none)=_
  rw [if_pos hi]
end
theorem zl7{t:Tk}(h:jD t):jY [.str (bE t)]=some (tkD t):=by
 have hi:=xC t
 show gP 1 0 (kW nU lD) _=_
 have simple:∀d,tkD t=d->rX (.dic false eL nM) (.str (bE t))=some d->gP 1 0 (kW nU lD) [.str (bE t)]=some (tkD t):=fun d e q=>by
  rw [<-e] at q
  exact xe1 q hi
 cases t with
 | leaf l=>
  cases l with
  | word x=>
   have h':kU x:=h
   have e:bE (.leaf (.word x))=⟨#[39]⟩++x:=by show("'":Str)++x=_;rw [rQ]
   rw [e]
   have hl:2<=(⟨#[39]⟩++x:Str).length:=by rw [bZ];have:=h'.1;show 2<=1+_;omega
   have n1:Txt.startswith (⟨#[39]⟩++x) "\x40"=false:=by rw [pN,eZ];rfl
   have n2:Txt.startswith (⟨#[39]⟩++x) ">"=false:=by rw [sO,eZ];rfl
   have n3:Txt.startswith (⟨#[39]⟩++x) "'"=true:=by rw [rQ,eZ];rfl
   have hs:=ym3 (c:=39) (x:=x) (by have:=h'.2.1;omega)
   have hw:=ym1 h'
   generalize lD=GW at hw|-
   generalize nU=GN
   have c4:aL (cZ (fT (fMt fM (aA 0) (aB (fC (.str "'")) aD))) (fT (aG GW (aB (fSl (aA 0) (bX (fC (.int 1))) bL) aD)))) [some (.str (⟨#[39]⟩++x))]=some (true,[some (.str (⟨#[39]⟩++x))]):=by
    unfold aL cZ
    rw [xG,n3]
    show(fT (aG GW (aB (fSl (aA 0) (bX (fC (.int 1))) bL) aD)) [some (.str (⟨#[39]⟩++x))]).bind _=_
    unfold fT
    rw [aU (aO hs rfl) hw];rfl
   refine cR rfl (p:=[some (.str (⟨#[39]⟩++x))]) ((aE (ym2 hl)).trans ((aE (sP n1)).trans ((aE (sP n2)).trans (cO ((pK c4).trans (bQ ?_))))))
   unfold gF
   rw [aO (d:= .str "word") rfl (aO hs rfl)]
   simp! [gA,dTy,eR,fD,tkD,dW]
  |gap x=>
   have h':x=""\/x=" ":=h
   rcases h' with rfl|rfl
   ·exact simple _ rfl (by simp! [gA,dTy,eR,fD,bE,tkD,dW])
   ·exact simple _ rfl (by simp! [gA,dTy,eR,fD,bE,tkD,dW])
  |stop c=>
   have h':0<=c/\c<=40:=h
   have e:bE (.leaf (.stop c))=⟨#[64]⟩++iS c:=by show("\x40":Str)++iS c=_;rw [pN]
   rw [e]
   have h1:1<=(iS c).length:=yv8 h'.1 h'.2
   have h2:=rN h'.1 h'.2
   have hl:2<=(⟨#[64]⟩++iS c:Str).length:=by rw [bZ];show 2<=1+_;omega
   have n1:Txt.startswith (⟨#[64]⟩++iS c) "\x40"=true:=by rw [pN,eZ];rfl
   have hs:=ym3 (c:=64) (x:=iS c) (by omega)
   have hn:=yv9 (k:="stop") (c:=c) (m:=40) h' (by decide)
   generalize lD=GW
   generalize nU=GN at hn|-
   exact cR rfl ((aE (ym2 hl)).trans (cO ((zc7 n1).trans (bQ (aU (aO rfl (aO hs (aO rfl rfl))) hn)))))
  |fin=>exact simple _ rfl (by simp! [gA,dTy,eR,fD,bE,tkD,dW])
 |hng n=>
  have h':0<=n/\n<=12:=h
  have e:bE (.hng n)=⟨#[62]⟩++iS n:=by show(">":Str)++iS n=_;rw [sO]
  rw [e]
  have h1:1<=(iS n).length:=yv8 h'.1 (by omega)
  have h2:=rN h'.1 (by omega:n<=40)
  have hl:2<=(⟨#[62]⟩++iS n:Str).length:=by rw [bZ];show 2<=1+_;omega
  have n1:Txt.startswith (⟨#[62]⟩++iS n) "\x40"=false:=by rw [pN,eZ];rfl
  have n2:Txt.startswith (⟨#[62]⟩++iS n) ">"=true:=by rw [sO,eZ];rfl
  have hs:=ym3 (c:=62) (x:=iS n) (by omega)
  have hn:=yv9 (k:="hang") (c:=n) (m:=12) h' (by decide)
  generalize lD=GW
  generalize nU=GN at hn|-
  exact cR rfl ((aE (ym2 hl)).trans ((aE (sP n1)).trans (cO ((zc7 n2).trans (bQ (aU (aO rfl (aO hs (aO rfl rfl))) hn))))))
 |_=>exact simple _ rfl (by simp! [gA,dTy,eR,fD,bE,tkD,dW])
def xQ:List Tk->Nat->List Fm->List Fm->Prop
 |[],_,fs,fs'=>fs'=fs
 |t::ts,n,fs,fs'=>∃g,sC [aI n fs,tkD t]=some (.non,[aI (n+1) g,tkD t])/\xQ ts (n+1) g fs'
theorem xQ.app:∀{a b:List Tk} {n:Nat} {fs g fs':List Fm},xQ a n fs g->xQ b (n+a.length) g fs'->xQ (a++b) n fs fs'
 |[],b,n,fs,g,fs',h1,h2=>by cases h1;simpa using h2
 |t::a,b,n,fs,g,fs',⟨k,q,h⟩,h2=>⟨k,q,xQ.app h (by rw [List.length_cons] at h2;rwa [show n+1+a.length=n+(a.length+1) by omega])⟩
abbrev gAW:tz7:=gE 2 1 (dE [true,false]) (iG jY sC)
theorem xh7{n:Nat}{fs g:List Fm}{t:Tk}(h:jD t)(q:sC [aI n fs,tkD t]=some (.non,[aI (n+1) g,tkD t])):gAW [aI n fs,.str (bE t)]=some (.non,[aI (n+1) g,.str (bE t)]):=by
 have q1:=zl7 h
 have hi:=xC t
 show gE 2 1 (dE [true,false]) (iG jY sC) _=_
 generalize jY=GT at q1
 generalize sC=GA at q
 have hk:=vG t
 generalize bE t=z at q1|-
 have hm:nJ "Builder" "add" GA [tkD t] (aI n fs)=some (.non,aI (n+1) g):=by
  have nf:dD nsB "add"=none:=by simp! [gE,fIO,cX,dIs,gH]
  show(if (("Builder":Str)="Builder"/\dD nsB "add"=none) then(GA [aI n fs,tkD t]).bind _ else none)=_
  rw [if_pos ⟨rfl,nf⟩,q];rfl
 have s1:bF 2 (aJ (aG GT (aB (aA 1) aD))) [some (aI n fs),some (.str z),none]=some (.nx,[some (aI n fs),some (.str z),some (tkD t)]):=cC (aU rfl q1)
 have s2:fIf (aL (fB (f2 dIs (aA 2) (fC .non)))) lY aY [some (aI n fs),some (.str z),some (tkD t)]=some (.nx,[some (aI n fs),some (.str z),some (tkD t)]):=by
  rw [hk];simp! [gE,fIO,cX,dIs,gH]
 have s3:cN (dG 0 bS (fH [.im (aA 2)]) (nJ "Builder" "add" GA)) [some (aI n fs),some (.str z),some (tkD t)]=some (.nx,[some (aI (n+1) g),some (.str z),some (tkD t)]):=by
  generalize tkD t=d at hi hm|-
  simp! [gE,fIO,cX,dIs,gH,hi,hm]
 unfold gE
 refine(if_pos rfl).trans ?_
 show(iG GT GA [some (aI n fs),some (.str z),none]).bind _=_
 rw [show iG GT GA [some (aI n fs),some (.str z),none]=some (.nx,[some (aI (n+1) g),some (.str z),some (tkD t)]) from(aE s1).trans ((aE s2).trans s3)]
 simp! [gE,fIO,cX,dIs,gH]
theorem yg3{G:tz7}{x0:Option D}{b b':D}{z:Str}(q:G [b,.str z]=some (.non,[b',.str z])):cN (fIO [.io 1,.im (aA 2)] G) [x0,some b,some (.str z)]=some (.nx,[x0,some b',some (.str z)]):=by
 simp! [gE,fIO,cX,dIs,gH,q]
theorem zw4{x0:Option D}:∀(ts:List Tk) (n:Nat) (fs fs':List Fm) (x2:Option D),(∀t∈ts,jD t)->xQ ts n fs fs'->∃y2,dJ 2 (cN (fIO [.io 1,.im (aA 2)] gAW)) (aS ts) [x0,some (aI n fs),x2]=some (.nx,[x0,some (aI (n+ts.length) fs'),y2])
 |[],n,fs,fs',x2,_,h=>by cases h;exact⟨x2,rfl⟩
 |t::ts,n,fs,fs',x2,hk,⟨g,q,h⟩=>by
  obtain⟨y2,q2⟩:=zw4 (x0:=x0) ts (n+1) g fs' (some (.str (bE t))) (fun t' ht=>hk t' (List.mem_cons_of_mem _ ht)) h
  refine⟨y2,?_⟩
  rw [pM,dJ]
  show(cN (fIO [.io 1,.im (aA 2)] gAW) [x0,some (aI n fs),some (.str (bE t))]).bind _=_
  rw [yg3 (xh7 (hk t List.mem_cons_self) q),Option.bind_some]
  show dJ 2 _ (aS ts) [x0,some (aI (n+1) g),some (.str (bE t))]=_
  rw [q2,List.length_cons]
  rw [show n+1+ts.length=n+(ts.length+1) by omega]
abbrev zf5:tz6:=gP 1 0 nR
abbrev zf6:tz6:=gP 1 0 (kR zf5)
theorem yw0(n:Nat)(f:Fm):zf5 [aI n [f]]=some (.tup (pcsD f.parts)):=by
 refine cR rfl (p:=[some (aI n [f])]) (bQ (aU (ds:=[.lst true (pcsD f.parts)]) (aO ?_ rfl) (by simp! [gE,fIO,cX,dIs,gH,pcs_imm])))
 simp! [gE,fIO,cX,dIs,gH,aI,eE,cL]
theorem zw5(n:Nat)(f:Fm):zf6 [aI n [f]]=some (.tup (pcsD f.parts)):=by
 have q:=yw0 n f
 show gP 1 0 (kR zf5) _=_
 generalize zf5=G at q
 have s1:fIf (aL (fB (f2 dGt (aG bU (aB (eD "Builder" "nests" (aA 0)) aD)) (fC (.int 1))))) lY aY [some (aI n [f])]=some (.nx,[some (aI n [f])]):=by
  simp! [gE,fIO,cX,dIs,gH,aI,eE]
 exact cR rfl ((aE s1).trans (bQ (aU (aO (d:=aI n [f]) (by simp! [gE,fIO,cX,dIs,gH,aI]) rfl) q)))
abbrev mI:tz6:=gP 1 0 wM
def xj1(ts:List Tk):Str:=Txt.join " " (ts.map bE)
abbrev zp2:tz6:=gP 1 2 (xN qH mI gAW zf6)
structure Low(z:Str):Prop where
 ch:z.cps.all (·<128)=true
 len:z.length<=9000
theorem szB(h:n<=16777216):n<=sizeLine:=h
theorem yw1(z:Str):z=⟨#[]⟩\/∃c x,z=⟨#[c]⟩++x/\x.length+1=z.length/\∀d∈x.cps.toList,d∈z.cps.toList:=by
 obtain⟨a⟩:=z
 obtain⟨l⟩:=a
 cases l with
 |nil=>exact .inl rfl
 |cons c l=>
  refine .inr ⟨c,⟨⟨l⟩⟩,?_,rfl,fun d hd=>List.mem_cons_of_mem _ hd⟩
  show(⟨⟨c::l⟩⟩:Str)=⟨#[c]++⟨l⟩⟩
  rw [show(#[c]++⟨l⟩:Array Nat)=⟨c::l⟩ by simp! [gA,dTy,eR,fD]]
theorem Low.tail(h:Low z)(e:z=⟨#[c]⟩++x):Low x:=by
 subst e
 obtain⟨h1,h2⟩:=h
 rw [bZ] at h2
 refine⟨?_,by omega⟩
 rw [Array.all_eq_true'] at h1|-
 intro d hd
 exact h1 d (by rw [<-Array.mem_toList_iff,gY];exact List.mem_append_right _ (Array.mem_toList_iff.mpr hd))
theorem rD(hp:p[0]? =some (some (.str (⟨#[c]⟩++x))))(hz:x.length<=9000):fSl (aA 0) (bX (fC (.int 1))) bL p=some (.str x):=by
 have hl:(⟨#[c]⟩++x:Str).length<=sizeLine:=by rw [bZ];exact szB (by show 1+_<=_;omega)
 have e:aA 0 p=some (.str (⟨#[c]⟩++x)):=by unfold aA;rw [hp];rfl
 show((aA 0 p).bind fun d=>_)=_
 rw [e]
 show(if (⟨#[c]⟩++x:Str).length<=sizeLine then some (D.str (Txt.slice (⟨#[c]⟩++x) (some 1) none)) else none)=_
 rw [if_pos hl,yu7]
theorem zl8:∀(l:List Int) (x3:Option D),(∀j∈l,0<=j/\j<=40)->(∀j∈l,y≠iS j)->∃y3,dJ 3 qM (l.map .int) [some (.str k),some (.str y),m,x3]=some (.nx,[some (.str k),some (.str y),m,y3])
 |[],x3,_,_=>⟨x3,rfl⟩
 | j::l,x3,hl,h=>by
  have hj:=hl j List.mem_cons_self
  have e1:f2 dEq (aA 1) (aG bY (aB (aA 3) aD)) [some (.str k),some (.str y),m,some (.int j)]=some (.bl (decide (y=iS j))):=
   aT (x:= .str y) (y:= .str (iS j)) rfl (aU (ds:=[.int j]) rfl (yD hj.1 hj.2)) rfl
  obtain⟨y3,q⟩:=zl8 l (some (.int j)) (fun i hi=>hl i (List.mem_cons_of_mem _ hi)) fun i hi=>h i (List.mem_cons_of_mem _ hi)
  refine⟨y3,?_⟩
  rw [List.map_cons,dJ]
  show(qM [some (.str k),some (.str y),m,some (.int j)]).bind _=_
  have:qM [some (.str k),some (.str y),m,some (.int j)]=some (.nx,[some (.str k),some (.str y),m,some (.int j)]):=by
   unfold qM
   refine bG (eA (e1.trans ?_))
   rw [decide_eq_false (h j List.mem_cons_self)]
  rw [this];exact q
theorem zw6(hm:0<=m/\m<=40)(h:∀c,0<=c->c<=m->y≠iS c):nU [.str k,.str y,.int m]=some .non:=by
 obtain⟨y3,q⟩:=zl8 (k:=k) (y:=y) (m:=some (.int m)) ((List.range (m+1).toNat).map fun(k:Nat)=>(k:Int)) none (fun j hj=>by
  obtain⟨i,hi,rfl⟩:=List.mem_map.mp hj
  have:=List.mem_range.mp hi
  omega) fun j hj=>by
  obtain⟨i,hi,rfl⟩:=List.mem_map.mp hj
  have:=List.mem_range.mp hi
  exact h _ (by omega) (by omega)
 rw [<-uB] at q
 have er:dP (aB (f2 aZ (aA 2) (fC (.int 1))) aD) [some (.str k),some (.str y),some (.int m),none]=some (fY 0 (m+1).toNat):=by
  have e1:aB (f2 aZ (aA 2) (fC (.int 1))) aD [some (.str k),some (.str y),some (.int m),none]=some [.int (m+1)]:=rfl
  unfold dP
  rw [e1,Option.bind_some,qX (by omega) (by omega)]
 have s1:dS 3 (dP (aB (f2 aZ (aA 2) (fC (.int 1))) aD)) qM [some (.str k),some (.str y),some (.int m),none]=some (.nx,[some (.str k),some (.str y),some (.int m),y3]):=by
  unfold dS;rw [er];exact q
 exact cR rfl ((aE s1).trans (bQ rfl))
def mJ(c:Nat):Bool:=decide (48<=c/\c<=57)
theorem yw2:("0123456789":Str).cps.toList=[48,49,50,51,52,53,54,55,56,57]:=by decide+kernel
theorem yw3(c:Nat):qZ (.str ⟨#[c]⟩) (.str "0123456789")=some (.bl (!mJ c)):=by
 show some (D.bl (!(!(Builtin.Str.occurrences ("0123456789":Str) ⟨#[c]⟩ 0 ("0123456789":Str).length 1).isEmpty)))=_
 rw [PySem.StrLaws.found_one,yw2]
 congr 3
 unfold mJ
 refine decide_eq_decide.mpr ?_
 simp only [List.mem_cons,List.not_mem_nil,or_false]
 omega
def tD:tz1:=(fIf (aL (fB (f2 qZ (aA 2) (fC (.str "0123456789"))))) (cA (aJ (fC (.bl false)))) aY)
theorem yw4:(mJ c=true->tD [x0,x1,some (.str ⟨#[c]⟩)]=some (.nx,[x0,x1,some (.str ⟨#[c]⟩)]))/\(mJ c=false->tD [x0,x1,some (.str ⟨#[c]⟩)]=some (.ret (.bl false),[x0,x1,some (.str ⟨#[c]⟩)])):=by
 have e:fB (f2 qZ (aA 2) (fC (.str "0123456789"))) [x0,x1,some (.str ⟨#[c]⟩)]=some (!mJ c):=eA (aT (x:= .str ⟨#[c]⟩) (y:= .str "0123456789") rfl rfl (yw3 c))
 constructor
 ·intro h
  rw [h] at e
  exact bG e
 ·intro h
  rw [h] at e
  exact(cP e).trans (bQ rfl)
theorem zw7:∀(l:List Nat) (x2:Option D),(l.all mJ=true->∃y2,dJ 2 tD (l.map fun c=>D.str ⟨#[c]⟩) [x0,x1,x2]=some (.nx,[x0,x1,y2]))/\(l.all mJ=false->∃p,dJ 2 tD (l.map fun c=>D.str ⟨#[c]⟩) [x0,x1,x2]=some (.ret (.bl false),p))
 |[],x2=>And.intro (fun _=>Exists.intro x2 rfl) fun h=>by cases h
 | c::l,x2=>by
  obtain⟨i1,i2⟩:=zw7 (x0:=x0) (x1:=x1) l (some (.str ⟨#[c]⟩))
  obtain⟨s1,s2⟩:=yw4 (x0:=x0) (x1:=x1) (c:=c)
  rw [List.all_cons,List.map_cons,dJ]
  show(_->∃y2,(tD [x0,x1,some (.str ⟨#[c]⟩)]).bind _=_)/\(_->∃p,(tD [x0,x1,some (.str ⟨#[c]⟩)]).bind _=_)
  cases hc:mJ c with
  |true=>
   rw [s1 hc,Bool.true_and]
   exact⟨i1,i2⟩
  |false=>
   rw [s2 hc,Bool.false_and]
   exact And.intro (fun h=>by cases h) fun _=>⟨_,rfl⟩
theorem zl9(h:Low z){p:PSt}(hp:aA 0 p=some (.str z)):iT (aA 0) p=some (z.cps.toList.map fun c=>D.str ⟨#[c]⟩):=by
 unfold iT
 rw [hp]
 show xJ (.str z)=_
 unfold xJ
 exact(if_pos h.ch).trans rfl
abbrev qR:tz6:=gP 2 1 zn3
def xj2:tz4:=(jP (fB (f2 dEq (aA 0) (fC (.str "")))) (jP (fB (f2 dGt (aG bU (aB (aA 0) aD)) (fC (.int 2)))) (cZ (fB (f2 dEq (aG bU (aB (aA 0) aD)) (fC (.int 2)))) (fB (f2 dEq (f2 dIx (aA 0) (fC (.int 0))) (fC (.str "0")))))))
def tF(z:Str):Bool:=match z.cps.toList with
 |[]=>true
 |[_]=>false
 |[a,_]=>decide (a=48)
 |_=>true
theorem xv9:("0":Str)=⟨#[48]⟩:=by decide+kernel
theorem vJ:("":Str)=⟨#[]⟩:=by decide+kernel
theorem yw5(h:Low z):xj2 [some (.str z),x1,x2]=some (tF z):=by
 have hz:z.length<=sizeLine:=szB (by have:=h.len;omega)
 have ln:aG bU (aB (aA 0) aD) [some (.str z),x1,x2]=some (.int z.length):=aU (ds:=[.str z]) rfl (by rw [bU,if_pos hz])
 have e1:fB (f2 dEq (aA 0) (fC (.str ""))) [some (.str z),x1,x2]=some (decide (z="")):=eA (aT (x:= .str z) (y:= .str "") rfl rfl rfl)
 have e2:fB (f2 dGt (aG bU (aB (aA 0) aD)) (fC (.int 2))) [some (.str z),x1,x2]=some (decide (2<z.length)):=eA (aT (x:= .int z.length) (y:= .int 2) ln rfl (show some (D.bl (decide ((2:Int)<(z.length:Int))))=_ by congr 2;exact decide_eq_decide.mpr (by omega)))
 have e3:fB (f2 dEq (aG bU (aB (aA 0) aD)) (fC (.int 2))) [some (.str z),x1,x2]=some (decide (z.length=2)):=eA (aT (x:= .int z.length) (y:= .int 2) ln rfl (show some (D.bl (decide ((z.length:Int)=2)))=_ by congr 2;exact decide_eq_decide.mpr (by omega)))
 obtain⟨⟨l⟩⟩:=z
 unfold xj2 tF
 show _=some (match l with|[]=>true|[_]=>false|[a,_]=>decide (a=48)|_=>true)
 rcases l with _|⟨a,_|⟨b,_|⟨c,l⟩⟩⟩
 ·exact zo6 (e1.trans (by rw [decide_eq_true vJ.symm]))
 ·exact qP (e1.trans (by rw [decide_eq_false (fun z=>by rw [vJ] at z;cases z)])) (qP (e2.trans (by rw [decide_eq_false (by show ¬2<1;decide)])) (oH (e3.trans (by rw [decide_eq_false (by show ¬1=2;decide)]))))
 ·refine qP (e1.trans (by rw [decide_eq_false (fun z=>by rw [vJ] at z;cases z)])) (qP (e2.trans (by rw [decide_eq_false (by show ¬2<2;decide)])) (oJ (e3.trans (by rw [decide_eq_true (by show 2=2;rfl)])) ?_))
  refine eA (aT (x:= .str ⟨#[a]⟩) (y:= .str "0") (aT (x:= .str ⟨⟨[a,b]⟩⟩) (y:= .int 0) rfl rfl ?_) rfl ?_)
  ·show(if (⟨⟨[a,b]⟩⟩:Str).length<=sizeLine then(atI [a,b] 0).map fun c=>D.str ⟨#[c]⟩ else none)=_
   rw [if_pos hz];rfl
  ·show some (D.bl (decide ((⟨#[a]⟩:Str)="0")))=_
   congr 2
   rw [xv9]
   refine decide_eq_decide.mpr ⟨fun z=> ?_,fun z=>by rw [z]⟩
   injection z with z
   injection z with z
   injection z
 ·exact qP (e1.trans (by rw [decide_eq_false (fun z=>by rw [vJ] at z;cases z)])) (zo6 (e2.trans (by rw [decide_eq_true (by show 2<l.length+1+1+1;omega)])))
theorem zw8(h:Low z):(tF z=true\/z.cps.toList.all mJ=false->qR [.str z,.int m]=some (.bl false))/\(tF z=false->z.cps.toList.all mJ=true->∀n:Int,PySem.intText? z=some n->qR [.str z,.int m]=some (.bl (decide (n<=m)))):=by
 have e:=yw5 (x1:=some (.int m)) (x2:=none) h
 have es:=zl9 h (p:=[some (.str z),some (.int m),none]) rfl
 obtain⟨f1,f2'⟩:=zw7 (x0:=some (.str z)) (x1:=some (.int m)) z.cps.toList none
 have fr:dS 2 (iT (aA 0)) tD [some (.str z),some (.int m),none]=dJ 2 tD (z.cps.toList.map fun c=>D.str ⟨#[c]⟩) [some (.str z),some (.int m),none]:=by unfold dS;rw [es];rfl
 cases hh:tF z with
 |true=>
  rw [hh] at e
  exact⟨fun _=>cR rfl (cO ((cP e).trans (bQ rfl))),fun z=>by cases z⟩
 | false=>
  rw [hh] at e
  refine⟨fun hx=> ?_,fun _ ha n hn=> ?_⟩
  ·obtain⟨p,q⟩:=f2' (hx.resolve_left (by simp! [gA,dTy,eR,fD]))
   exact cR rfl ((aE (bG e)).trans (cO (fr.trans q)))
  ·obtain⟨y2,q⟩:=f1 ha
   have hl2:z.length<=640:=by
    obtain⟨⟨l⟩⟩:=z
    rcases l with _|⟨a,_|⟨b,_|⟨c,l⟩⟩⟩
    ·cases hh
    ·show 1<=640;decide
    ·show 2<=640;decide
    ·cases hh
   refine cR rfl ((aE (bG e)).trans ((aE (fr.trans q)).trans (bQ (aT (x:= .int n) (y:= .int m) (aU (ds:=[.str z]) rfl ?_) rfl rfl))))
   show(if z.length<=640 then(PySem.intText? z).bind fun n=>some (D.int n) else none)=_
   rw [if_pos hl2,hn];rfl
theorem xw0:∀d:Fin 10,PySem.intText? ⟨#[48+d.val]⟩=some (d.val:Int)/\iS (d.val:Int)=⟨#[48+d.val]⟩:=by decide+kernel
theorem xw1:∀d e:Fin 10,d.val≠0->PySem.intText? ⟨#[48+d.val,48+e.val]⟩=some ((10*d.val+e.val:Nat):Int)/\iS ((10*d.val+e.val:Nat):Int)=⟨#[48+d.val,48+e.val]⟩:=by decide+kernel
theorem xw2:∀n:Fin 41,tF (iS (n.val:Int))=false/\(iS (n.val:Int)).cps.toList.all mJ=true/\PySem.intText? (iS (n.val:Int))=some (n.val:Int)/\(iS (n.val:Int)).cps.all (·<128)=true:=by decide+kernel
theorem xw3(hh:tF z=false)(hd:z.cps.toList.all mJ=true):∃n:Nat,z=iS (n:Int)/\PySem.intText? z=some (n:Int):=by
 have dg:∀{c:Nat},mJ c=true->∃d:Fin 10,c=48+d.val:=fun {c} h=>by
  have:=of_decide_eq_true h
  exact⟨⟨c-48,by omega⟩,by show c=48+(c-48);omega⟩
 obtain⟨⟨l⟩⟩:=z
 rcases l with _|⟨a,_|⟨b,_|⟨c,l⟩⟩⟩
 ·cases hh
 ·have ha:(mJ a&&true)=true:=hd
  rw [Bool.and_true] at ha
  obtain⟨d,rfl⟩:=dg ha
  exact⟨d.val,(xw0 d).2.symm,(xw0 d).1⟩
 ·have ha:(mJ a&&(mJ b&&true))=true:=hd
  rw [Bool.and_true,Bool.and_eq_true] at ha
  obtain⟨d,rfl⟩:=dg ha.1
  obtain⟨e,rfl⟩:=dg ha.2
  have h0:d.val≠0:=fun z=>by
   have:¬48+d.val=48:=of_decide_eq_false hh
   omega
  exact⟨10*d.val+e.val,(xw1 d e h0).2.symm,(xw1 d e h0).1⟩
 ·cases hh
theorem yg4(h:Low z)(hz:∀c,0<=c->c<=m->z≠iS c):qR [.str z,.int m]=some (.bl false):=by
 obtain⟨u1,u2⟩:=zw8 (m:=m) h
 cases hh:tF z with
 |true=>exact u1 (.inl hh)
 | false=>
  cases hd:z.cps.toList.all mJ with
  |false=>exact u1 (.inr hd)
  |true=>
   obtain⟨n,e,hn⟩:=xw3 hh hd
   rw [u2 hh hd _ hn,decide_eq_false]
   intro hm
   exact hz n (by omega) hm e
theorem zw9(h0:0<=c)(hc:c<=m)(hm:m<=40):qR [.str (iS c),.int m]=some (.bl true):=by
 obtain⟨n,rfl⟩:=Int.eq_ofNat_of_zero_le h0
 obtain⟨t1,t2,t3,t4⟩:=xw2 ⟨n,by omega⟩
 have hl:Low (iS (n:Int)):=⟨t4,by have:=rN (i:=(n:Int)) h0 (by omega);omega⟩
 rw [(zw8 (m:=m) hl).2 t1 t2 _ t3,decide_eq_true hc]
def cH:Tk->String
 | .leaf _=>"leaf"
 | .opn=>"["
 | .cls=>"]"
 | .bck=>"<"
 | .eit=>"{"
 | .orr=>"|"
 | .don=>"}"
 | .hng _=>">"
theorem wb3(c:Nat)(x:Str):Txt.slice (⟨#[c]⟩++x) none (some 1)=⟨#[c]⟩:=by
 have hl:(⟨#[c]⟩++x:Str).length=x.length+1:=by rw [bZ];show 1+_=_;omega
 refine ye9 ?_
 unfold Txt.slice
 rw [hl]
 have hi:Builtin.Str.strSliceIndices none (some 1) 1 (x.length+1)=[0]:=by
  unfold Builtin.Str.strSliceIndices sliceRange
  have h1:¬((1:Int)<0):=by decide
  have h2:(1:Int)>0:=by decide
  simp only [h1,h2,if_true,if_false,Int.ediv_one]
  have m1:max (0:Int) (min 1 ((x.length+1:Nat):Int))=1:=by omega
  rw [m1]
  rfl
 rw [hi]
 by_cases h0:x.length=0
 ·have:x=⟨#[]⟩:=by
   obtain⟨⟨l⟩⟩:=x
   cases l with
   |nil=>rfl
   |cons a l=>cases h0
  subst this
  rfl
 ·rw [if_neg (by simp;omega)]
  show [0].filterMap (fun i=>(#[c]++x.cps)[i]?)=[c]
  rw [List.filterMap_cons,show(#[c]++x.cps)[0]? =some c by rw [Array.getElem?_append_left (by show 0<1;decide)];rfl]
  rfl
theorem uE(hz:x.length<=9000):fB (f2 dEq (fSl (aA 0) bL (bX (fC (.int 1)))) (fC (.str s))) [some (.str (⟨#[c]⟩++x))]=some (decide ((⟨#[c]⟩:Str)=s)):=by
 have hl:(⟨#[c]⟩++x:Str).length<=sizeLine:=by rw [bZ];exact szB (by show 1+_<=_;omega)
 refine eA (aT (x:= .str ⟨#[c]⟩) (y:= .str s) ?_ rfl rfl)
 show(if (⟨#[c]⟩++x:Str).length<=sizeLine then some (D.str (Txt.slice (⟨#[c]⟩++x) none (some 1))) else none)=_
 rw [if_pos hl,wb3]
theorem zx0:((⟨#[c]⟩:Str)=⟨#[d]⟩)↔c=d:=⟨fun z=>by injection z with z;injection z with z;injection z,fun z=>by rw [z]⟩
abbrev zz6:List Nat:=[95,46,47,91,93,60,123,124,125]
def mK(z:Str):Prop:=∀c∈zz6,z≠⟨#[c]⟩
theorem xe2:("_":Str)=⟨#[95]⟩/\(".":Str)=⟨#[46]⟩/\("/":Str)=⟨#[47]⟩/\("[":Str)=⟨#[91]⟩/\("]":Str)=⟨#[93]⟩/\("<":Str)=⟨#[60]⟩/\("{":Str)=⟨#[123]⟩/\("|":Str)=⟨#[124]⟩/\("}":Str)=⟨#[125]⟩:=by decide+kernel
theorem xw4(h:mK z):(eL.any fun j=>decide (j= .inr z))=false:=by
 have ne:∀c∈zz6,decide ((Sum.inr (⟨#[c]⟩:Str):Key)= .inr z)=false:=fun c hc=>decide_eq_false fun e=>h c hc (Sum.inr.inj e).symm
 obtain⟨a1,a2,a3,a4,a5,a6,a7,a8,a9⟩:=xe2
 simp only [eL,List.any_cons,List.any_nil,Bool.or_false]
 rw [a1,a2,a3,a4,a5,a6,a7,a8,a9,ne 95 (by decide),ne 46 (by decide),ne 47 (by decide),ne 91 (by decide),ne 93 (by decide),ne 60 (by decide),ne 123 (by decide),ne 124 (by decide),ne 125 (by decide)];rfl
theorem vK(h:mK z):fIf (aL (pF eL (aA 0))) F aY [some (.str z)]=some (.nx,[some (.str z)]):=by
 refine bG ?_
 show some (eL.any fun j=>decide (j= .inr z))=_
 rw [xw4 h]
theorem zc8(h:mK z):fB (f2 dIn (aA 0) (bI (fKs [.str "[",.str "]",.str "<",.str "{",.str "|",.str "}"]))) [some (.str z)]=some false:=by
 obtain⟨a1,a2,a3,a4,a5,a6,a7,a8,a9⟩:=xe2
 refine eA (aT (x:= .str z) (y:= .lst true [.str "[",.str "]",.str "<",.str "{",.str "|",.str "}"]) rfl (eV rfl (by simp! [gA,dTy,eR,fD])) ?_)
 rw [a4,a5,a6,a7,a8,a9]
 simp! [gA,dTy,eR,fD,(h 91 (by decide)).symm,(h 93 (by decide)).symm,(h 60 (by decide)).symm,(h 123 (by decide)).symm,(h 124 (by decide)).symm,(h 125 (by decide)).symm]
theorem zc9(h:mK z):fB (f2 dIn (aA 0) (bI (fKs [.str "_",.str ".",.str "/"]))) [some (.str z)]=some false:=by
 obtain⟨a1,a2,a3,a4,a5,a6,a7,a8,a9⟩:=xe2
 refine eA (aT (x:= .str z) (y:= .lst true [.str "_",.str ".",.str "/"]) rfl (eV rfl (by simp! [gA,dTy,eR,fD])) ?_)
 rw [a1,a2,a3]
 simp! [gA,dTy,eR,fD,(h 95 (by decide)).symm,(h 46 (by decide)).symm,(h 47 (by decide)).symm]
theorem zd0(a b:Nat):dLe (.str ⟨#[a]⟩) (.str ⟨#[b]⟩)=some (.bl (decide (a<=b))):=by
 rw [dLe,zw3]
 show some (D.bl (!decide (b<a)))=_
 rw [show(!decide (b<a))=decide (a<=b) by by_cases h:b<a<;>simp! [gA,dTy,eR,fD,h]<;>omega]
theorem xe3(c:Nat):fD (f2 dLe (fC (.str "!")) (aA 0)) (f2 dLe (aA 0) (fC (.str "~"))) [some (.str ⟨#[c]⟩)]=some (.bl (eW c)):=by
 have e1:f2 dLe (fC (.str "!")) (aA 0) [some (.str ⟨#[c]⟩)]=some (.bl (decide (33<=c))):=aT (x:= .str "!") (y:= .str ⟨#[c]⟩) rfl rfl (by rw [xd8,zd0])
 have e2:f2 dLe (aA 0) (fC (.str "~")) [some (.str ⟨#[c]⟩)]=some (.bl (decide (c<=126))):=aT (x:= .str ⟨#[c]⟩) (y:= .str "~") rfl rfl (by rw [ym0,zd0])
 unfold fD
 rw [e1]
 unfold eW
 cases h:decide (33<=c) with
 |true=>exact e2
 |false=>rfl
theorem xo5(c:Nat):f3 dLe dLe (fC (.str "!")) (aA 0) (fC (.str "~")) [some (.str ⟨#[c]⟩)]=some (.bl (eW c)):=by
 have e1:dLe (.str "!") (.str ⟨#[c]⟩)=some (.bl (decide (33<=c))):=by rw [xd8,zd0]
 have e2:dLe (.str ⟨#[c]⟩) (.str "~")=some (.bl (decide (c<=126))):=by rw [ym0,zd0]
 show((dLe (.str "!") (.str ⟨#[c]⟩)).bind fun k=>match k with| .bl true=>dLe (.str ⟨#[c]⟩) (.str "~")| .bl false=>some (.bl false)|_=>none)=_
 rw [e1]
 unfold eW
 cases h:decide (33<=c) with
 |true=>exact e2
 |false=>rfl
theorem zx1(h:∀c:Nat,fe [some (.str ⟨#[c]⟩)]=some (.bl (eW c))):∀l:List Nat,iU [none] kM fe (l.map fun c=>D.str ⟨#[c]⟩)=some (l.map fun c=>D.bl (eW c))
 |[]=>rfl
 |c::l=>by
  rw [List.map_cons,iU]
  show((fe [some (.str ⟨#[c]⟩)]).bind _)=_
  rw [h,zx1 h l];rfl
theorem zm0:∀l:List Nat,D.bools (l.map fun c=>D.bl (eW c))=some (l.map eW)
 |[]=>rfl
 |c::l=>by
  show D.bools (.bl (eW c)::l.map fun c=>D.bl (eW c))=_
  rw [D.bools,zm0 l];rfl
theorem yg5(hz:Low z)(h:∀c:Nat,fe [some (.str ⟨#[c]⟩)]=some (.bl (eW c))):aG vP (aB (mU [none] (iT (aA 0)) kM fe) aD) [some (.str z)]=some (.bl (z.cps.toList.all eW)):=by
 have s3:mU [none] (iT (aA 0)) kM fe [some (.str z)]=some (.lst true (z.cps.toList.map fun c=>D.bl (eW c))):=by
  unfold mU
  rw [zl9 hz rfl,Option.bind_some,if_pos (by rw [List.length_map];exact szB (by have:=hz.len;show z.cps.toList.length<=_;have e:z.cps.toList.length=z.length:=rfl;omega))]
  show(iU [none] kM _ _).bind _=_
  rw [zx1 h];rfl
 refine aU (aO s3 rfl) ?_
 rw [vP,zm0]
 show some (D.bl ((z.cps.toList.map eW).all id))=_
 rw [List.all_map];rfl
theorem yb5(h:Low x):lD [.str x]=some (.bl (decide (1<=x.length)&&decide (x.length<=12)&&x.cps.toList.all eW)):=by
 have hz:x.length<=sizeLine:=szB (by have:=h.len;omega)
 have s1:fIf (aL (mS (fT (aG gA (aB (aA 0) (aB (fC (.ty "str")) aD)))))) (cA (aJ (fC (.bl false)))) aY [some (.str x)]=some (.nx,[some (.str x)]):=by simp! [gA,dTy,eR,fD]
 have ln:aG bU (aB (aA 0) aD) [some (.str x)]=some (.int x.length):=aU (ds:=[.str x]) rfl (by rw [bU,if_pos hz])
 have a1:fB (f2 dLt (aG bU (aB (aA 0) aD)) (fC (.int 1))) [some (.str x)]=some (!decide (1<=x.length)):=eA (aT (x:= .int x.length) (y:= .int 1) ln rfl (show some (D.bl (decide ((x.length:Int)<1)))=_ by congr 2;by_cases c:1<=x.length<;>simp! [gA,dTy,eR,fD,c]<;>omega))
 have a2:fB (f2 dGt (aG bU (aB (aA 0) aD)) (fC (.int 12))) [some (.str x)]=some (!decide (x.length<=12)):=eA (aT (x:= .int x.length) (y:= .int 12) ln rfl (show some (D.bl (decide ((12:Int)<(x.length:Int))))=_ by congr 2;by_cases c:x.length<=12<;>simp! [gA,dTy,eR,fD,c]<;>omega))
 by_cases c1:1<=x.length
 ·rw [decide_eq_true c1] at a1|-
  by_cases c2:x.length<=12
  ·rw [decide_eq_true c2] at a2|-
   exact cR rfl ((aE s1).trans ((aE (bG (qP a1 a2))).trans (bQ (yg5 h xe3))))
  ·rw [decide_eq_false c2] at a2|-
   exact cR rfl ((aE s1).trans (cO ((cP (qP a1 a2)).trans (bQ rfl))))
 ·rw [decide_eq_false c1] at a1|-
  exact cR rfl ((aE s1).trans (cO ((cP (zo6 a1)).trans (bQ rfl))))
theorem kU.iff(x:Str):(decide (1<=x.length)&&decide (x.length<=12)&&x.cps.toList.all eW)=true↔kU x:=by
 simp only [Bool.and_eq_true,decide_eq_true_eq,kU]
 constructor
 ·rintro⟨⟨a,b⟩,c⟩;exact⟨a,b,c⟩
 ·rintro⟨a,b,c⟩;exact⟨⟨a,b⟩,c⟩
abbrev nA:tz6:=gP 1 0 (zn4 qR)
def xg2:tz4:=(cZ (fB (f2 dEq (fSl (aA 0) bL (bX (fC (.int 1)))) (fC (.str "\x40")))) (fT (aG qR (aB (fSl (aA 0) (bX (fC (.int 1))) bL) (aB (fC (.int 40)) aD)))))
def xg3:tz4:=(cZ (fB (f2 dEq (fSl (aA 0) bL (bX (fC (.int 1)))) (fC (.str ">")))) (fT (aG qR (aB (fSl (aA 0) (bX (fC (.int 1))) bL) (aB (fC (.int 12)) aD)))))
def xg4:tz4:=(cZ (fB (f2 dEq (fSl (aA 0) bL (bX (fC (.int 1)))) (fC (.str "'")))) (cZ (fB (f3 dLe dLe (fC (.int 2)) (aG bU (aB (aA 0) aD)) (fC (.int 13)))) (fT (aG vP (aB (mU [none] (iT (aA 0)) kM (f3 dLe dLe (fC (.str "!")) (aA 0) (fC (.str "~")))) aD)))))
theorem qY(h:mK z)(h1:xg2 [some (.str z)]=some a)(h2:a=false->xg3 [some (.str z)]=some b)(h3:a=false->b=false->xg4 [some (.str z)]=some c):
  nA [.str z]=some (.str (if a=true then "leaf" else if b=true then ">" else if c=true then "leaf" else "")):=by
 cases a with
 |true=>exact cR rfl ((aE (bG (zc8 h))).trans ((aE (bG (zc9 h))).trans (cO ((cP h1).trans (bQ rfl)))))
 | false=>
  have h2:=h2 rfl
  cases b with
  |true=>exact cR rfl ((aE (bG (zc8 h))).trans ((aE (bG (zc9 h))).trans ((aE (bG h1)).trans (cO ((cP h2).trans (bQ rfl))))))
  |false=>
   have h3:=h3 rfl rfl
   cases c with
   |true=>exact cR rfl ((aE (bG (zc8 h))).trans ((aE (bG (zc9 h))).trans ((aE (bG h1)).trans ((aE (bG h2)).trans (cO ((cP h3).trans (bQ rfl)))))))
   |false=>exact cR rfl ((aE (bG (zc8 h))).trans ((aE (bG (zc9 h))).trans ((aE (bG h1)).trans ((aE (bG h2)).trans ((aE (bG h3)).trans (bQ rfl))))))
theorem zo7(hx:x.length<=9000)(h:c≠64):xg2 [some (.str (⟨#[c]⟩++x))]=some false:=oH ((uE hx).trans (by rw [pN,decide_eq_false (fun z=>h (zx0.mp z))]))
theorem ym4(hx:x.length<=9000)(h:c≠62):xg3 [some (.str (⟨#[c]⟩++x))]=some false:=oH ((uE hx).trans (by rw [sO,decide_eq_false (fun z=>h (zx0.mp z))]))
theorem ym5(hx:x.length<=9000)(h:c≠39):xg4 [some (.str (⟨#[c]⟩++x))]=some false:=oH ((uE hx).trans (by rw [rQ,decide_eq_false (fun z=>h (zx0.mp z))]))
theorem xh8(hx:x.length<=9000)(h:qR [.str x,.int 40]=some (.bl b)):xg2 [some (.str (⟨#[64]⟩++x))]=some b:=by
 refine oJ ((uE hx).trans (by rw [pN,decide_eq_true rfl])) ?_
 unfold fT
 rw [aU (aO (rD rfl hx) (aO rfl rfl)) h];rfl
theorem xh9(hx:x.length<=9000)(h:qR [.str x,.int 12]=some (.bl b)):xg3 [some (.str (⟨#[62]⟩++x))]=some b:=by
 refine oJ ((uE hx).trans (by rw [sO,decide_eq_true rfl])) ?_
 unfold fT
 rw [aU (aO (rD rfl hx) (aO rfl rfl)) h];rfl
theorem wb4(hl:Low (⟨#[39]⟩++x)):xg4 [some (.str (⟨#[39]⟩++x))]=some (decide (1<=x.length)&&decide (x.length<=12)&&x.cps.toList.all eW):=by
 have hle:(⟨#[39]⟩++x:Str).length=x.length+1:=by rw [bZ];show 1+_=_;omega
 have hx:x.length<=9000:=by have:=hl.len;omega
 have hz:(⟨#[39]⟩++x:Str).length<=sizeLine:=szB (by have:=hl.len;omega)
 refine oJ ((uE hx).trans (by rw [rQ,decide_eq_true rfl])) ?_
 have ln:aG bU (aB (aA 0) aD) [some (.str (⟨#[39]⟩++x))]=some (.int ((x.length:Int)+1)):=aU (ds:=[.str (⟨#[39]⟩++x)]) rfl (by rw [bU,if_pos hz,hle];rfl)
 have e1:fB (f3 dLe dLe (fC (.int 2)) (aG bU (aB (aA 0) aD)) (fC (.int 13))) [some (.str (⟨#[39]⟩++x))]=some (decide (1<=x.length)&&decide (x.length<=12)):=by
  refine eA ?_
  unfold f3
  rw [ln]
  show((some (D.bl (decide ((2:Int)<=(x.length:Int)+1)))).bind fun k=>match k with| .bl true=>some (D.bl (decide ((x.length:Int)+1<=13)))| .bl false=>some (.bl false)|_=>none)=_
  by_cases c:1<=x.length
  ·rw [decide_eq_true c,decide_eq_true (show(2:Int)<=(x.length:Int)+1 by omega),Bool.true_and,show decide (x.length<=12)=decide ((x.length:Int)+1<=13) from decide_eq_decide.mpr (by omega)];rfl
  ·rw [decide_eq_false c,decide_eq_false (show ¬(2:Int)<=(x.length:Int)+1 by omega)];rfl
 have e2:fT (aG vP (aB (mU [none] (iT (aA 0)) kM (f3 dLe dLe (fC (.str "!")) (aA 0) (fC (.str "~")))) aD)) [some (.str (⟨#[39]⟩++x))]=some (x.cps.toList.all eW):=by
  unfold fT
  rw [yg5 hl xo5,gY]
  rfl
 cases c:(decide (1<=x.length)&&decide (x.length<=12)) with
 |false=>rw [c] at e1;exact oH e1
 |true=>rw [c] at e1;exact oJ e1 e2
theorem vL(h:c∉zz6):mK (⟨#[c]⟩++x):=fun d hd e=>by
 have:=congrArg (fun s:Str=>s.cps.toList) e
 simp only [gY] at this
 have h2:c::x.cps.toList=[d]:=this
 injection h2 with h2
 exact h (h2▸hd)
theorem xe4(h:z.length≠1):mK z:=fun d hd e=>h (by rw [e];rfl)
theorem ym6(h:Low z):(∃t,jD t/\z=bE t/\nA [.str z]=some (.str (cH t)))\/(jY [.str z]=some .non/\nA [.str z]=some (.str "")):=by
 rcases yw1 z with rfl|⟨c,x,rfl,hl,_⟩
 ·exact .inr ⟨by kernel_rfl,by kernel_rfl⟩
 have hx:x.length<=9000:=by have:=h.len;omega
 have lx:=h.tail rfl
 by_cases h64:c=64
 ·subst h64
  have ns:mK (⟨#[64]⟩++x):=vL (by decide)
  by_cases hn:∃n:Int,0<=n/\n<=40/\x=iS n
  ·obtain⟨n,n0,n1,rfl⟩:=hn
   refine .inl ⟨.leaf (.stop n),⟨n0,n1⟩,by show _=("\x40":Str)++iS n;rw [pN],?_⟩
   exact(qY (b:=false) (c:=false) ns (xh8 hx (zw9 n0 n1 (by decide))) (fun z=>by cases z) (fun z=>by cases z)).trans rfl
  ·have hn':∀n,0<=n->n<=40->x≠iS n:=fun n n0 n1 e=>hn ⟨n,n0,n1,e⟩
   refine .inr ⟨?_,(qY ns (xh8 hx (yg4 lx hn')) (fun _=>ym4 hx (by decide)) (fun _ _=>ym5 hx (by decide))).trans rfl⟩
   have q:=zw6 (k:="stop") (y:=x) (m:=40) (by decide) hn'
   exact cR rfl ((aE (vK ns)).trans (cO ((zc7 (by rw [pN,eZ];rfl)).trans (bQ (aU (aO rfl (aO (rD rfl hx) (aO rfl rfl))) q)))))
 by_cases h62:c=62
 ·subst h62
  have ns:mK (⟨#[62]⟩++x):=vL (by decide)
  have n9:Txt.startswith (⟨#[62]⟩++x) "\x40"=false:=by rw [pN,eZ];rfl
  by_cases hn:∃n:Int,0<=n/\n<=12/\x=iS n
  ·obtain⟨n,n0,n1,rfl⟩:=hn
   refine .inl ⟨.hng n,⟨n0,n1⟩,by show _=(">":Str)++iS n;rw [sO],?_⟩
   exact(qY (c:=false) ns (zo7 hx (by decide)) (fun _=>xh9 hx (zw9 n0 n1 (by decide))) (fun _ z=>by cases z)).trans rfl
  ·have hn':∀n,0<=n->n<=12->x≠iS n:=fun n n0 n1 e=>hn ⟨n,n0,n1,e⟩
   refine .inr ⟨?_,(qY ns (zo7 hx (by decide)) (fun _=>xh9 hx (yg4 lx hn')) (fun _ _=>ym5 hx (by decide))).trans rfl⟩
   have q:=zw6 (k:="hang") (y:=x) (m:=12) (by decide) hn'
   exact cR rfl ((aE (vK ns)).trans ((aE (sP n9)).trans (cO ((zc7 (by rw [sO,eZ];rfl)).trans (bQ (aU (aO rfl (aO (rD rfl hx) (aO rfl rfl))) q))))))
 have n1:Txt.startswith (⟨#[c]⟩++x) "\x40"=false:=by rw [pN,eZ,decide_eq_false h64]
 have n2:Txt.startswith (⟨#[c]⟩++x) ">"=false:=by rw [sO,eZ,decide_eq_false h62]
 by_cases h39:c=39
 ·subst h39
  have ns:mK (⟨#[39]⟩++x):=vL (by decide)
  have q:=qY ns (zo7 hx (by decide)) (fun _=>ym4 hx (by decide)) (fun _ _=>wb4 h)
  have hw:=yb5 lx
  cases hb:(decide (1<=x.length)&&decide (x.length<=12)&&x.cps.toList.all eW) with
  |true=>
   rw [hb] at q
   exact .inl ⟨.leaf (.word x),(kU.iff x).mp hb,by show _=("'":Str)++x;rw [rQ],q⟩
  | false=>
   rw [hb] at q hw
   refine .inr ⟨?_,q⟩
   have c4:cZ (fT (fMt fM (aA 0) (aB (fC (.str "'")) aD))) (fT (aG lD (aB (fSl (aA 0) (bX (fC (.int 1))) bL) aD))) [some (.str (⟨#[39]⟩++x))]=some false:=by
    refine oJ (b:=false) (xG.trans (by rw [rQ,eZ];rfl)) ?_
    unfold fT
    rw [aU (aO (rD rfl hx) rfl) hw];rfl
   exact cR rfl ((aE (vK ns)).trans ((aE (sP n1)).trans ((aE (sP n2)).trans ((aE (bG c4)).trans (bQ rfl)))))
 have other:mK (⟨#[c]⟩++x)->jY [.str (⟨#[c]⟩++x)]=some .non/\nA [.str (⟨#[c]⟩++x)]=some (.str ""):=fun ns=>by
  refine⟨?_,(qY ns (zo7 hx h64) (fun _=>ym4 hx h62) (fun _ _=>ym5 hx h39)).trans rfl⟩
  have c4:cZ (fT (fMt fM (aA 0) (aB (fC (.str "'")) aD))) (fT (aG lD (aB (fSl (aA 0) (bX (fC (.int 1))) bL) aD))) [some (.str (⟨#[c]⟩++x))]=some false:=oH (xG.trans (by rw [rQ,eZ,decide_eq_false h39]))
  exact cR rfl ((aE (vK ns)).trans ((aE (sP n1)).trans ((aE (sP n2)).trans ((aE (bG c4)).trans (bQ rfl)))))
 by_cases h1:x.length=0
 ·have:x=⟨#[]⟩:=by
   obtain⟨⟨l⟩⟩:=x
   cases l with
   |nil=>rfl
   |cons a l=>cases h1
  subst this
  by_cases h9:c∈zz6
  ·rw [show(⟨#[c]⟩++⟨#[]⟩:Str)=⟨#[c]⟩ from rfl]
   simp only [zz6,List.mem_cons,List.not_mem_nil,or_false] at h9
   rcases h9 with rfl|rfl|rfl|rfl|rfl|rfl|rfl|rfl|rfl
   ·exact .inl ⟨.leaf (.gap " "),.inr rfl,by decide+kernel,by kernel_rfl⟩
   ·exact .inl ⟨.leaf (.gap ""),.inl rfl,by decide+kernel,by kernel_rfl⟩
   ·exact .inl ⟨.leaf .fin,trivial,by decide+kernel,by kernel_rfl⟩
   ·exact .inl ⟨.opn,trivial,by decide+kernel,by kernel_rfl⟩
   ·exact .inl ⟨.cls,trivial,by decide+kernel,by kernel_rfl⟩
   ·exact .inl ⟨.bck,trivial,by decide+kernel,by kernel_rfl⟩
   ·exact .inl ⟨.eit,trivial,by decide+kernel,by kernel_rfl⟩
   ·exact .inl ⟨.orr,trivial,by decide+kernel,by kernel_rfl⟩
   ·exact .inl ⟨.don,trivial,by decide+kernel,by kernel_rfl⟩
  ·exact .inr (other (vL h9))
 ·exact .inr (other (xe4 (by omega)))
def nsF(f:Fm):D:= .lst true [.str (match f.op with|some t=>cH t|none=>"row"),.int ((f.full.length:Int)+1)]
def nsD:List Fm->List D
 |[]=>[]
 |[_]=>[]
 |f::g::r=>nsD (g::r)++[nsF f]
theorem yE:∀{fs:List Fm},Wf fs->(nsD fs).length+1=fs.length
 |[],w=>w.elim
 |[_],_=>rfl
 |f::g::r,w=>by
  show(nsD (g::r)++[nsF f]).length+1=(g::r).length+1
  rw [List.length_append,<-yE w.2];rfl
theorem yF(g:Fm)(p:Pc)(r:List Fm):nsD (put g p::r)=nsD (g::r):=by cases r<;>rfl
def pQ:tz1:=
 (fIf (aL (fB (f2 dIn (aA 3) (bI (fKs [.str "[",.str ">",.str "{"])))))
  (aR (fIf (aL (fB (f2 dEq (aG bU (aB (aA 1) aD)) (fC (.int 12)))))
  (cA (aJ (f2 aZ (aA 2) (fC (.int 1)))))
  aY)
 (cN (dG 1 bS (aB (bI (aB (dI (aA 3)) (aB (fC (.int 1)) aD))) aD) cK)))
  aY)
def lN:tz1:=
 (aR (fIf (aL (jP (fB (f2 dEq (aG bU (aB (aA 1) aD)) (fC (.int 0)))) (fB (f2 dNe (f2 dIx (f2 dIx (aA 1) (dR (fC (.int 1)))) (fC (.int 0))) (f2 rX (gG [("]",(fC (.str "["))),("<",(fC (.str ">"))),("|",(fC (.str "{"))),("}",(fC (.str "{")))]) (aA 3))))))
  (cA (aJ (f2 aZ (aA 2) (fC (.int 1)))))
  aY)
 (aR (fIf (aL (jP (cZ (fB (f2 dEq (aA 3) (fC (.str "|")))) (fB (f2 dEq (f2 dIx (f2 dIx (aA 1) (dR (fC (.int 1)))) (fC (.int 1))) (fC (.int 4))))) (cZ (fB (f2 dEq (aA 3) (fC (.str "}")))) (fB (f2 dEq (f2 dIx (f2 dIx (aA 1) (dR (fC (.int 1)))) (fC (.int 1))) (fC (.int 1)))))))
  (cA (aJ (f2 aZ (aA 2) (fC (.int 1)))))
  aY)
 (aR (cQ 1 (fL 1 bS (dR (fC (.int 1)))) (fC (.int 1)) (f2 aZ (f2 dIx (f2 dIx (aA 1) (dR (fC (.int 1)))) (fC (.int 1))) (fC (.int 1))))
 (fIf (aL (fB (f2 dNe (aA 3) (fC (.str "|")))))
  (cN (dG 1 bS aD qK))
  aY))))
def wC:tz1:=
 (fIf (aL (fB (f2 dIn (aA 3) (bI (fKs [.str "]",.str "<",.str "|",.str "}"])))))
  lN
  aY)
def lO(G:tz6):tz1:=
 (aR (bF 3 (aJ (aG G (aB (f2 dIx (aA 0) (aA 2)) aD))))
 (aR (fIf (aL (jP (fB (f2 dEq (aA 3) (fC (.str "")))) (fB (f2 dGe (aA 2) (fC (.int 200))))))
  (cA (aJ (f2 aZ (aA 2) (fC (.int 1)))))
  aY)
 (aR pQ wC)))
theorem qV{α:Type}{xs:List α}{n:Nat}{a:α}(h:xs[n]? =some a):atI xs (n:Int)=some a:=by
 have hl:=(List.getElem?_eq_some_iff.mp h).1
 unfold atI ixN
 rw [if_pos (by omega),if_pos (by omega)]
 show xs[((n:Int)).toNat]? =_
 rw [Int.toNat_natCast];exact h
def byS:Tk->String
 | .cls=>"["
 | .bck=>">"
 |_=>"{"
theorem mR{x0 x1 x2:Option D}{t:Tk}(h:opB t=false):pQ [x0,x1,x2,some (.str (cH t))]=some (.nx,[x0,x1,x2,some (.str (cH t))]):=by
 cases t with
 |opn=>cases h
 |hng m=>cases h
 |eit=>cases h
 |_=>simp! [cQ,cS,gG,eS,fO,pQ,cH]
theorem zd1{x0 x1 x2:Option D}{t:Tk}(h:¬xP t):wC [x0,x1,x2,some (.str (cH t))]=some (.nx,[x0,x1,x2,some (.str (cH t))]):=by
 cases t with
 |cls=>exact absurd (.inl rfl) h
 |bck=>exact absurd (.inr (.inl rfl)) h
 |orr=>exact absurd (.inr (.inr (.inl rfl))) h
 |don=>exact absurd (.inr (.inr (.inr rfl))) h
 |_=>simp! [cQ,cS,gG,eS,fO,wC,cH]
theorem xe5{x0:Option D}{xs:List D}{n:Nat}{t:Tk}(h:opB t=true)(hl:xs.length<12):pQ [x0,some (.lst true xs),some (.int n),some (.str (cH t))]=some (.nx,[x0,some (.lst true (xs++[.lst true [.str (cH t),.int 1]])),some (.int n),some (.str (cH t))]):=by
 have h1:¬(xs.length:Int)=12:=by omega
 have hz:xs.length<sizeLine:=sz1 (by omega)
 cases t<;>first|(cases h;done)|simp! [cQ,cS,gG,eS,fO,pQ,cH,h1,hz]
theorem xe6{x0:Option D}{xs:List D}{n:Nat}{t:Tk}(h:opB t=true)(hl:xs.length=12):pQ [x0,some (.lst true xs),some (.int n),some (.str (cH t))]=some (.ret (.int ((n:Int)+1)),[x0,some (.lst true xs),some (.int n),some (.str (cH t))]):=by
 have h1:(xs.length:Int)=12:=by omega
 cases t<;>first|(cases h;done)|simp! [cQ,cS,gG,eS,fO,pQ,cH,h1]
theorem rR{x0 x1 x2:Option D}{t:Tk}(h:xP t):wC [x0,x1,x2,some (.str (cH t))]=lN [x0,x1,x2,some (.str (cH t))]:=by
 refine cP ?_
 rcases h with rfl|rfl|rfl|rfl<;>simp! [cQ,cS,gG,eS,fO,cH]
theorem xw5{x0:Option D}{n:Nat}{k:Str}:lN [x0,some (.lst true []),some (.int n),some (.str k)]=some (.ret (.int ((n:Int)+1)),[x0,some (.lst true []),some (.int n),some (.str k)]):=by simp! [cQ,cS,gG,eS,fO,lN]
theorem xo6{x0:Option D}{n:Nat}{b:String}{i:Int}{xs:List D}{t:Tk}(ht:xP t)(h:b≠byS t):lN [x0,some (.lst true (xs++[.lst true [.str b,.int i]])),some (.int n),some (.str (cH t))]=some (.ret (.int ((n:Int)+1)),[x0,some (.lst true (xs++[.lst true [.str b,.int i]])),some (.int n),some (.str (cH t))]):=by
 have h0:¬(xs.length:Int)+1=0:=by omega
 rcases ht with rfl|rfl|rfl|rfl<;>simp! [cQ,cS,gG,eS,fO,byS] at h<;>simp! [cQ,cS,gG,eS,fO,lN,cH,h,h0]
theorem xw6{x0:Option D}{n:Nat}{i:Int}{xs:List D}{t:Tk}(h:(t= .orr/\i=4)\/(t= .don/\i=1)):lN [x0,some (.lst true (xs++[.lst true [.str (byS t),.int i]])),some (.int n),some (.str (cH t))]=some (.ret (.int ((n:Int)+1)),[x0,some (.lst true (xs++[.lst true [.str (byS t),.int i]])),some (.int n),some (.str (cH t))]):=by
 have h0:¬(xs.length:Int)+1=0:=by omega
 rcases h with ⟨rfl,rfl⟩|⟨rfl,rfl⟩<;>simp! [cQ,cS,gG,eS,fO,lN,cH,byS,h0]
theorem we1{x0:Option D}{n:Nat}{i:Int}{xs:List D}(h:i≠4):lN [x0,some (.lst true (xs++[.lst true [.str "{",.int i]])),some (.int n),some (.str (cH .orr))]=some (.nx,[x0,some (.lst true (xs++[.lst true [.str "{",.int (i+1)]])),some (.int n),some (.str (cH .orr))]):=by
 have h0:¬(xs.length:Int)+1=0:=by omega
 simp! [cQ,cS,gG,eS,fO,lN,cH,h,h0]
theorem zx2{x0:Option D}{n:Nat}{i:Int}{xs:List D}{t:Tk}(ht:xP t)(h1:t≠ .orr)(h2:¬(t= .don/\i=1)):lN [x0,some (.lst true (xs++[.lst true [.str (byS t),.int i]])),some (.int n),some (.str (cH t))]=some (.nx,[x0,some (.lst true xs),some (.int n),some (.str (cH t))]):=by
 have h0:¬(xs.length:Int)+1=0:=by omega
 rcases ht with rfl|rfl|rfl|rfl
 ·simp! [cQ,cS,gG,eS,fO,lN,cH,byS,h0]
 ·simp! [cQ,cS,gG,eS,fO,lN,cH,byS,h0]
 ·exact absurd rfl h1
 ·have:¬i=1:=fun z=>h2 ⟨rfl,z⟩
  simp! [cQ,cS,gG,eS,fO,lN,cH,byS,this,h0]
section
variable{G:tz6}{o:Bool}{all:List Str}{n:Nat}{z s:Str}{N:List D}{x3:Option D}
theorem zm1(h:all[n]? =some z)(hs:G [.str z]=some (.str s)):bF 3 (aJ (aG G (aB (f2 dIx (aA 0) (aA 2)) aD))) [some (.lst o (aM all)),some (.lst true N),some (.int n),x3]=some (.nx,[some (.lst o (aM all)),some (.lst true N),some (.int n),some (.str s)]):=
 cC (aU (aO (aT (x:= .lst o (aM all)) (y:= .int n) rfl rfl (qV (by rw [show aM all=all.map .str from rfl,List.getElem?_map,h];rfl))) rfl) hs)
theorem yg6:fB (f2 dGe (aA 2) (fC (.int 200))) [some (.lst o (aM all)),some (.lst true N),some (.int n),some (.str s)]=some (decide (200<=n)):=eA (aT (x:= .int n) (y:= .int 200) rfl rfl (show some (D.bl (decide ((200:Int)<=(n:Int))))=_ by rw [show decide ((200:Int)<=(n:Int))=decide (200<=n) from decide_eq_decide.mpr (by omega)]))
theorem zi1:fB (f2 dEq (aA 3) (fC (.str ""))) [some (.lst o (aM all)),some (.lst true N),some (.int n),some (.str s)]=some (decide (s="")):=eA (aT (x:= .str s) (y:= .str "") rfl rfl rfl)
theorem zd2(h:all[n]? =some z)(hs:G [.str z]=some (.str s))(h1:s≠"")(h2:n<200):lO G [some (.lst o (aM all)),some (.lst true N),some (.int n),x3]=aR pQ wC [some (.lst o (aM all)),some (.lst true N),some (.int n),some (.str s)]:=by
 unfold lO
 rw [aE (zm1 h hs)]
 exact aE (bG (qP (zi1.trans (by rw [decide_eq_false h1])) (yg6.trans (by rw [decide_eq_false (by omega)]))))
theorem xH(h:all[n]? =some z)(hs:G [.str z]=some (.str s))(hx:s=""\/200<=n):∃q,lO G [some (.lst o (aM all)),some (.lst true N),some (.int n),x3]=some (.ret (.int ((n:Int)+1)),q):=by
 unfold lO
 rw [aE (zm1 h hs)]
 refine⟨_,cO ((cP (c:=jP _ _) ?_).trans (bQ rfl))⟩
 by_cases h1:s=""
 ·exact zo6 (zi1.trans (by rw [decide_eq_true h1]))
 ·exact qP (zi1.trans (by rw [decide_eq_false h1])) (yg6.trans (by rw [decide_eq_true (hx.resolve_left h1)]))
end
theorem zx3(t:Tk):(cH t:Str)≠"":=by cases t<;>simp! [cQ,cS,gG,eS,fO,cH]
theorem goS{G:tz6}{x3:Option D}{o:Bool}{all:List Str}{n:Nat}{fs g:List Fm}{t:Tk}(hs:G [.str (bE t)]=some (.str (cH t)))(w:Wf fs)(ha:all[n]? =some (bE t))(hf:pI n fs t=true)(hg:Goes fs t g):
  ∃y3,lO G [some (.lst o (aM all)),some (.lst true (nsD fs)),some (.int n),x3]=some (.nx,[some (.lst o (aM all)),some (.lst true (nsD g)),some (.int n),y3]):=by
 have h0:n<200:=of_decide_eq_true (Bool.and_eq_true_iff.mp hf).1
 rw [zd2 ha hs (zx3 t) h0]
 have last:∀{f g':Fm} {r:List Fm} {t':Tk},f.op=some t'->nsD (f::g'::r)=nsD (g'::r)++[.lst true [.str (cH t'),.int ((f.full.length:Int)+1)]]:=fun {f g' r t'} ho=>by
  show _++[nsF f]=_
  unfold nsF;rw [ho]
 cases hg with
 |leaf=>
  rename_i f r l
  exact⟨_,by rw [aE (mR rfl),zd1 (by intro z;rcases z with z|z|z|z<;>cases z),yF]⟩
 |opn ht hl=>
  have hw:=yE w
  have ns:¬xP t:=by intro z;rcases z with rfl|rfl|rfl|rfl<;>cases ht
  refine⟨_,by rw [aE (xe5 ht (by omega)),zd1 ns];cases fs with|nil=>exact w.elim|cons f r=>rfl⟩
 |orr ho hl=>
  rename_i f r
  obtain⟨g',r',rfl⟩:=w.two ho
  refine⟨some (.str (cH .orr)),?_⟩
  rw [last ho,aE (mR (t:= .orr) rfl),rR (t:= .orr) (.inr (.inr (.inl rfl)))]
  refine(we1 (by omega)).trans ?_
  rw [last (f:={f with full:=f.full++[f.parts],parts:=[]}) ho]
  show some (Fl.nx,[_,some (D.lst true (_++[D.lst true [_,.int ((f.full.length:Int)+1+1)]])),_,_])=some (Fl.nx,[_,some (D.lst true (_++[D.lst true [_,.int (((f.full++[f.parts]).length:Int)+1)]])),_,_])
  rw [List.length_append];rfl
 |cls ho=>
  rename_i f g' r
  refine⟨some (.str (cH .cls)),?_⟩
  rw [last ho,yF,aE (mR (t:= .cls) rfl),rR (t:= .cls) (.inl rfl)]
  exact zx2 (t:= .cls) (.inl rfl) (by simp! [cQ,cS,gG,eS,fO]) (by simp! [cQ,cS,gG,eS,fO])
 |bck ho=>
  rename_i f g' r m
  refine⟨some (.str (cH .bck)),?_⟩
  rw [last ho,yF,aE (mR (t:= .bck) rfl),rR (t:= .bck) (.inr (.inl rfl))]
  exact zx2 (t:= .bck) (.inr (.inl rfl)) (by simp! [cQ,cS,gG,eS,fO]) (by simp! [cQ,cS,gG,eS,fO])
 |don ho hl=>
  rename_i f g' r
  refine⟨some (.str (cH .don)),?_⟩
  rw [last ho,yF,aE (mR (t:= .don) rfl),rR (t:= .don) (.inr (.inr (.inr rfl)))]
  exact zx2 (t:= .don) (.inr (.inr (.inr rfl))) (by simp! [cQ,cS,gG,eS,fO]) (fun z=>by have:=z.2;omega)
theorem noS{G:tz6}{x3:Option D}{o:Bool}{all:List Str}{n:Nat}{fs:List Fm}{t:Tk}(hs:G [.str (bE t)]=some (.str (cH t)))(w:Wf fs)(b:Bd8 n fs)(ha:all[n]? =some (bE t))(hf:pI n fs t=false):
  ∃q,lO G [some (.lst o (aM all)),some (.lst true (nsD fs)),some (.int n),x3]=some (.ret (.int ((n:Int)+1)),q):=by
 by_cases hn:200<=n
 ·exact xH ha hs (.inr hn)
 have h0:n<200:=by omega
 rw [zd2 ha hs (zx3 t) h0]
 have hf':yo0 fs t=false:=by
  unfold pI at hf
  rw [decide_eq_true h0] at hf
  simpa using hf
 have op:opB t=true->¬fs.length<=12->∃q,aR pQ wC [some (.lst o (aM all)),some (.lst true (nsD fs)),some (.int n),some (.str (cH t))]=some (.ret (.int ((n:Int)+1)),q):=fun ht hl=>by
  have:=yE w;have:=b.1
  exact⟨_,cO (xe6 ht (by omega))⟩
 have sh:xP t->opB t=false->∀{f:Fm} {r:List Fm},fs=f::r->sZ f.op f.full.length t=false->∃q,aR pQ wC [some (.lst o (aM all)),some (.lst true (nsD fs)),some (.int n),some (.str (cH t))]=some (.ret (.int ((n:Int)+1)),q):=fun ht hno f r e hs=>by
  subst e
  rw [aE (mR hno),rR ht]
  cases r with
  |nil=>exact⟨_,xw5⟩
  | cons g' r=>
   obtain⟨t',ho,hb⟩:=w.1
   have e:nsD (f::g'::r)=nsD (g'::r)++[.lst true [.str (cH t'),.int ((f.full.length:Int)+1)]]:=by show _++[nsF f]=_;unfold nsF;rw [ho]
   rw [e]
   by_cases hk:cH t'=byS t
   ·rw [hk]
    refine⟨_,xw6 ?_⟩
    rw [ho] at hs
    have h3:=(b.2 f List.mem_cons_self).2
    rcases ht with rfl|rfl|rfl|rfl
    ·cases t'<;>first|(cases hb;done)|(cases hs;done)|(simp! [cQ,cS,gG,eS,fO,cH,byS] at hk;done)
    ·cases t'<;>first|(cases hb;done)|(cases hs;done)|(simp! [cQ,cS,gG,eS,fO,cH,byS] at hk;done)
    ·cases t'<;>first|(cases hb;done)|(simp! [cQ,cS,gG,eS,fO,cH,byS] at hk;done)|exact .inl ⟨rfl,by have:=of_decide_eq_false hs;omega⟩
    ·cases t'<;>first|(cases hb;done)|(simp! [cQ,cS,gG,eS,fO,cH,byS] at hk;done)|exact .inr ⟨rfl,by have:=of_decide_eq_false hs;omega⟩
   ·exact⟨_,xo6 ht hk⟩
 cases fs with
 |nil=>exact w.elim
 |cons f r=>
  cases t with
  |leaf l=>cases hf'
  |opn=>exact op rfl (of_decide_eq_false hf')
  |hng m=>exact op rfl (of_decide_eq_false hf')
  |eit=>exact op rfl (of_decide_eq_false hf')
  |cls=>exact sh (.inl rfl) rfl rfl hf'
  |bck=>exact sh (.inr (.inl rfl)) rfl rfl hf'
  |orr=>exact sh (.inr (.inr (.inl rfl))) rfl rfl hf'
  |don=>exact sh (.inr (.inr (.inr rfl))) rfl rfl hf'
theorem ym7{G:tz6}{o:Bool}{all:List Str}:∀{ts:List Tk} {n m:Nat} {fs fs':List Fm} {zs:List Str} {x2 x3:Option D},(∀t∈ts,G [.str (bE t)]=some (.str (cH t)))->Wf fs->Bd8 n fs->all.drop n=ts.map bE++zs->Walk8 n fs ts fs'->m=zs.length->
  ∃y2 y3,dJ 2 (lO G) (fY (n:Int) (ts.length+m)) [some (.lst o (aM all)),some (.lst true (nsD fs)),x2,x3]=dJ 2 (lO G) (fY ((n+ts.length:Nat):Int) m) [some (.lst o (aM all)),some (.lst true (nsD fs')),y2,y3]
 |[],n,m,_,_,zs,x2,x3,_,_,_,_,.nil,_=>⟨x2,x3,by rw [List.length_nil,Nat.zero_add];rfl⟩
 |t::ts,n,m,fs,fs',zs,x2,x3,hs,w,b,ea,.cons (g:=g) hf hg h,hm=>by
  have ha:all[n]? =some (bE t):=by rw [<-List.head?_drop,ea];rfl
  obtain⟨y3,q1⟩:=goS (x3:=x3) (o:=o) (hs t List.mem_cons_self) w ha hf hg
  obtain⟨z2,z3,q2⟩:=ym7 (o:=o) (x2:=some (.int n)) (x3:=y3) (fun t' ht=>hs t' (List.mem_cons_of_mem _ ht)) (zh9 w hf hg) (uD b hg) (by rw [<-List.drop_drop,ea];rfl) h hm
  refine⟨z2,z3,?_⟩
  rw [List.length_cons,show ts.length+1+m=(ts.length+m)+1 by omega,zb9,dJ]
  show(lO G [some (.lst o (aM all)),some (.lst true (nsD fs)),some (.int n),x3]).bind _=_
  rw [q1,Option.bind_some,show n+(ts.length+1)=n+1+ts.length by omega]
  exact q2
abbrev nV(G:tz6):tz6:=gP 1 3 (jU G)
theorem zm2(G:tz6):jU G=aR (bF 1 (aJ (bI aD))) (aR (dS 2 (dP (aB (aG bU (aB (aA 0) aD)) aD)) (lO G)) (aR (fIf (aL (fB (f2 dGt (aG bU (aB (aA 1) aD)) (fC (.int 0))))) (cA (aJ (f2 aZ (aG bU (aB (aA 0) aD)) (fC (.int 1))))) aY) (cA (aJ (fC (.int 0)))))):=rfl
theorem xI{x:Option D}:bF 1 (aJ (bI aD)) [x,none,none,none]=some (.nx,[x,some (.lst true []),none,none]):=cC (eV rfl (by simp! [cQ,cS,gG,eS,fO]))
theorem zd3{o:Bool}{zs:List Str}{x:Option D}(hl:zs.length<=1000000):dP (aB (aG bU (aB (aA 0) aD)) aD) [some (.lst o (aM zs)),x,none,none]=some (fY ((0:Nat):Int) zs.length):=by
 have e:aB (aG bU (aB (aA 0) aD)) aD [some (.lst o (aM zs)),x,none,none]=some [.int zs.length]:=aO (aU (ds:=[.lst o (aM zs)]) rfl (by rw [bU,gD])) rfl
 unfold dP
 rw [e,Option.bind_some,qX (by omega) (by omega)];rfl
theorem zd4{G:tz6}{o:Bool}{a:List Tk}{z s:Str}{zs:List Str}{g:List Fm}(hs:∀t∈a,G [.str (bE t)]=some (.str (cH t)))(h:Walk8 0 [iF] a g)(hz:G [.str z]=some (.str s))(hl:(a.map bE++z::zs).length<=1000000)
  (hb:s=""\/200<=a.length\/∃t,z=bE t/\s=cH t/\Wf g/\pI a.length g t=false):nV G [.lst o (aM (a.map bE++z::zs))]=some (.int ((a.length:Int)+1)):=by
 obtain⟨y2,y3,q1⟩:=ym7 (o:=o) (all:=a.map bE++z::zs) (x2:=none) (x3:=none) (m:=zs.length+1) (zs:=z::zs) hs wf0 bd0 (List.drop_zero) h rfl
 rw [Nat.zero_add] at q1
 have ha:(a.map bE++z::zs)[a.length]? =some z:=by rw [List.getElem?_append_right (by rw [List.length_map];exact Nat.le_refl _),List.length_map,Nat.sub_self];rfl
 have q2:∃q,lO G [some (.lst o (aM (a.map bE++z::zs))),some (.lst true (nsD g)),some (.int (a.length:Nat)),y3]=some (.ret (.int ((a.length:Int)+1)),q):=by
  rcases hb with hb|hb|⟨t,rfl,rfl,w,hb⟩
  ·exact xH ha hz (.inl hb)
  ·exact xH ha hz (.inr hb)
  ·exact noS hz w (by have:=yf3 h bd0;rwa [Nat.zero_add] at this) ha hb
 obtain⟨q,q2⟩:=q2
 show gP 1 3 (jU G) _=_
 rw [zm2]
 refine cR (p:=q) rfl ((aE xI).trans (cO ?_))
 unfold dS
 rw [zd3 hl]
 show dJ 2 (lO G) (fY ((0:Nat):Int) (a.map bE++z::zs).length) [some (.lst o (aM (a.map bE++z::zs))),some (.lst true (nsD [iF])),none,none]=_
 rw [show(a.map bE++z::zs).length=a.length+(zs.length+1) by simp! [cQ,cS,gG,eS,fO],q1,zb9,dJ]
 show(lO G [some (.lst o (aM (a.map bE++z::zs))),some (.lst true (nsD g)),some (.int (a.length:Nat)),y3]).bind _=_
 rw [q2];rfl
theorem ym8{G:tz6}{o:Bool}{ts:List Tk}{fs:List Fm}(hs:∀t∈ts,G [.str (bE t)]=some (.str (cH t)))(h:Walk8 0 [iF] ts fs)(w:Wf fs)(hl:ts.length<=1000000):nV G [.lst o (aM (ts.map bE))]=some (.int (if 1<fs.length then(ts.length:Int)+1 else 0)):=by
 obtain⟨y2,y3,q1⟩:=ym7 (o:=o) (all:=ts.map bE) (x2:=none) (x3:=none) (m:=0) (zs:=[]) hs wf0 bd0 (by rw [List.drop_zero,List.append_nil]) h rfl
 have hw:=yE w
 have hlen:(ts.map bE).length=ts.length:=List.length_map _
 show gP 1 3 (jU G) _=_
 rw [zm2]
 have s2:dS 2 (dP (aB (aG bU (aB (aA 0) aD)) aD)) (lO G) [some (.lst o (aM (ts.map bE))),some (.lst true []),none,none]=some (.nx,[some (.lst o (aM (ts.map bE))),some (.lst true (nsD fs)),y2,y3]):=by
  unfold dS
  rw [zd3 (by omega),hlen];exact q1
 have c1:fB (f2 dGt (aG bU (aB (aA 1) aD)) (fC (.int 0))) [some (.lst o (aM (ts.map bE))),some (.lst true (nsD fs)),y2,y3]=some (decide (1<fs.length)):=by
  refine eA (aT (x:= .int (nsD fs).length) (y:= .int 0) rfl rfl ?_)
  show some (D.bl (decide ((0:Int)<((nsD fs).length:Int))))=_
  rw [show decide ((0:Int)<((nsD fs).length:Int))=decide (1<fs.length) from decide_eq_decide.mpr (by omega)]
 by_cases h1:1<fs.length
 ·rw [decide_eq_true h1] at c1
  rw [if_pos h1]
  refine cR rfl ((aE xI).trans ((aE s2).trans (cO ((cP c1).trans (bQ ?_)))))
  show some (D.int (((aM (ts.map bE)).length:Int)+1))=_
  rw [gD,hlen]
 ·rw [decide_eq_false h1] at c1
  rw [if_neg h1]
  exact cR rfl ((aE xI).trans ((aE s2).trans ((aE (bG c1)).trans (bQ rfl))))
theorem ym9{np n:Nat}{f:PSt->Option Int}{ds:List D}{k:Int}(hl:ds.length=np)(h:f (ds.map some++List.replicate n none)=some k):gN np n f ds=some k:=by unfold gN;rw [if_pos hl];exact h
abbrev wD:List D->Option Int:=gN 2 1 (eN jY wA)
theorem xe7{n:Nat}{fs:List Fm}{z:Str}(h:jY [.str z]=some .non)(hn:n<=1000):wD [aI n fs,.str z]=some ((n:Int)+1):=by
 show gN 2 1 (eN jY wA) _=_
 generalize jY=GT at h
 have s1:bF 2 (aJ (aG GT (aB (aA 1) aD))) [some (aI n fs),some (.str z),none]=some (.nx,[some (aI n fs),some (.str z),some .non]):=cC (aU rfl h)
 have e3:jR (f2 aZ (eD "Builder" "taken" (aA 0)) (fC (.int 1))) [some (aI n fs),some (.str z),some .non]=some ((n:Int)+1):=by
  unfold jR
  rw [show f2 aZ (eD "Builder" "taken" (aA 0)) (fC (.int 1)) [some (aI n fs),some (.str z),some .non]=some (.int ((n:Int)+1)) by simp! [gE,fIO,cX,dIs,gH,aI]]
  exact zi0 hn
 refine ym9 rfl ?_
 show eN GT wA [some (aI n fs),some (.str z),none]=_
 unfold eN mV
 rw [s1]
 show pG (qL _ _) _ [some (aI n fs),some (.str z),some .non]=_
 unfold pG
 rw [show qL (fB (f2 dIs (aA 2) (fC .non))) (jR (f2 aZ (eD "Builder" "taken" (aA 0)) (fC (.int 1)))) [some (aI n fs),some (.str z),some .non]=some ((n:Int)+1) from e3]
theorem yg7{n:Nat}{fs:List Fm}{t:Tk}{r:Option Int}(h:jD t)(q:wA [aI n fs,tkD t]=r):wD [aI n fs,.str (bE t)]=r:=by
 have q1:=zl7 h
 have hi:=xC t
 have hk:=vG t
 show gN 2 1 (eN jY wA) _=_
 generalize jY=GT at q1
 generalize wA=GA at q
 generalize bE t=z at q1|-
 have s1:bF 2 (aJ (aG GT (aB (aA 1) aD))) [some (aI n fs),some (.str z),none]=some (.nx,[some (aI n fs),some (.str z),some (tkD t)]):=cC (aU rfl q1)
 have c1:fB (f2 dIs (aA 2) (fC .non)) [some (aI n fs),some (.str z),some (tkD t)]=some false:=by rw [hk];simp! [gE,fIO,cX,dIs,gH]
 have hm:nG "Builder" "add" GA [tkD t] (aI n fs)=r:=by
  have nf:dD nsB "add"=none:=by simp! [gE,fIO,cX,dIs,gH]
  show(if (("Builder":Str)="Builder"/\dD nsB "add"=none) then GA [aI n fs,tkD t] else none)=_
  rw [if_pos ⟨rfl,nf⟩,q]
 have ha:fH [.im (aA 2)] [some (aI n fs),some (.str z),some (tkD t)]=some [tkD t]:=by
  generalize tkD t=d at hi|-
  simp! [gE,fIO,cX,dIs,gH,hi]
 have e4:vU 0 bS (fH [.im (aA 2)]) (nG "Builder" "add" GA) [some (aI n fs),some (.str z),some (tkD t)]=r:=by
  show(match fH [.im (aA 2)] [some (aI n fs),some (.str z),some (tkD t)] with|some ys=>(gJ (keepN (nG "Builder" "add" GA) ys) (aI n fs) []).bind fun r=>some r.1|none=>none)=_
  rw [ha]
  show((keepN (nG "Builder" "add" GA) [tkD t] (aI n fs)).bind fun r=>some r.1)=_
  unfold keepN
  rw [hm]
  cases r<;>rfl
 unfold gN
 refine(if_pos rfl).trans ?_
 show eN GT GA [some (aI n fs),some (.str z),none]=_
 unfold eN mV
 rw [s1]
 show pG (qL _ _) (fun ps=>match fIf (aL (fB (f2 dIs (aA 2) (fC .non)))) lY aY ps with|some (.nx,p)=>vU 0 bS (fH [.im (aA 2)]) (nG "Builder" "add" GA) p|_=>none) [some (aI n fs),some (.str z),some (tkD t)]=_
 unfold pG qL
 rw [c1]
 show(match fIf (aL (fB (f2 dIs (aA 2) (fC .non)))) lY aY [some (aI n fs),some (.str z),some (tkD t)] with|some (.nx,p)=>vU 0 bS (fH [.im (aA 2)]) (nG "Builder" "add" GA) p|_=>none)=_
 rw [bG c1]
 exact e4
abbrev kT:tz1:=cN (fIO [.io 1,.im (aA 2)] gAW)
abbrev lP:PSt->Option Int:=xg0 [.io 1,.im (aA 2)] wD
theorem zx4{x0:Option D}{b:D}{z:Str}:lP [x0,some b,some (.str z)]=wD [b,.str z]:=by
 show((fH [.io 1,.im (aA 2)] [x0,some b,some (.str z)]).bind wD)=_
 rw [show fH [.io 1,.im (aA 2)] [x0,some b,some (.str z)]=some [b,.str z] by simp! [gE,fIO,cX,dIs,gH]]
 rfl
theorem zm3:∀{ts:List Tk} {n:Nat} {fs fs':List Fm},Wf fs->Bd8 n fs->Walk8 n fs ts fs'->xQ ts n fs fs'
 |_,_,_,_,_,_,.nil=>rfl
 |_,n,_,_,w,b,.cons (g:=g) hf hg h=>⟨g,zv2 w b (by have:n<200:=of_decide_eq_true (Bool.and_eq_true_iff.mp hf).1;omega) hf hg,zm3 (zh9 w hf hg) (uD b hg) h⟩
theorem yn0{x0:Option D}{ds:List D}:∀{ts:List Tk} {n:Nat} {fs fs':List Fm} {x2:Option D},(∀t∈ts,jD t)->Wf fs->Bd8 n fs->Walk8 n fs ts fs'->∃y2,fU 2 kT lP (aS ts++ds) [x0,some (aI n fs),x2]=fU 2 kT lP ds [x0,some (aI (n+ts.length) fs'),y2]
 |[],_,_,_,x2,_,_,_,.nil=>⟨x2,rfl⟩
 |t::ts,n,fs,fs',x2,hk,w,b,.cons (g:=g) hf hg h=>by
  have h0:n<200:=of_decide_eq_true (Bool.and_eq_true_iff.mp hf).1
  have tk:=hk t List.mem_cons_self
  obtain⟨y2,q⟩:=yn0 (x0:=x0) (ds:=ds) (x2:=some (.str (bE t))) (fun t' ht=>hk t' (List.mem_cons_of_mem _ ht)) (zh9 w hf hg) (uD b hg) h
  refine⟨y2,?_⟩
  show fU 2 kT lP (.str (bE t)::(aS ts++ds)) _=_
  rw [fU]
  show(match lP [x0,some (aI n fs),some (.str (bE t))] with|some n=>some n|none=>match kT [x0,some (aI n fs),some (.str (bE t))] with|some (.nx,p)=>fU 2 kT lP (aS ts++ds) p|some (.ct,p)=>fU 2 kT lP (aS ts++ds) p|_=>none)=_
  rw [zx4,yg7 tk (xv2 (xE (by cases fs with|nil=>exact w.elim|cons=>simp! [gE,fIO,cX,dIs,gH]) (yf4 hf)) (by omega)),show kT [x0,some (aI n fs),some (.str (bE t))]=_ from yg3 (xh7 tk (zv2 w b (by omega) hf hg))]
  show fU 2 kT lP (aS ts++ds) [x0,some (aI (n+1) g),some (.str (bE t))]=_
  rw [q,List.length_cons,show n+1+ts.length=n+(ts.length+1) by omega]
def eT(x:Str):List Str:=if x="" then [] else Txt.split x " "
theorem yw6{x:Str}(hl:x.length<=9000):mI [.str x]=some (.lst true (aM (eT x))):=by
 have c1:fB (f2 dEq (aA 0) (fC (.str ""))) [some (.str x)]=some (decide (x="")):=eA (aT (x:= .str x) (y:= .str "") rfl rfl rfl)
 unfold eT
 by_cases h:x=""
 ·rw [if_pos h]
  exact cR rfl (cO ((cP (c1.trans (by rw [decide_eq_true h]))).trans (bQ rfl)))
 ·rw [if_neg h]
  refine cR rfl ((aE (bG (c1.trans (by rw [decide_eq_false h])))).trans (bQ (p:=[some (.str x)]) ?_))
  show(if xi5 (.str x)=true then pV (.str x) [.str " "] else none)=_
  refine(if_pos rfl).trans ?_
  rw [pV,if_pos ⟨rfl,by omega⟩]
  rfl
abbrev uI:List D->Option Int:=gN 1 2 (mX qH mI gAW wD pJ)
theorem zi2{x:Str}:bF 1 (aJ (oP "Builder" aD qH)) [some (.str x),none,none]=some (.nx,[some (.str x),some (aI 0 [iF]),none]):=by
 have qb:=xu8
 generalize qH=GB at qb
 refine cC ?_
 unfold oP
 show((GB [.obj true "Builder" [] []]).bind _)=_
 rw [qb];rfl
theorem zQ{x:Str}{b:D}(hl:x.length<=9000):iM (aG mI (aB (aA 0) aD)) [some (.str x),some b,none]=some (aM (eT x)):=by
 unfold iM
 rw [aU (ds:=[.str x]) rfl (yw6 hl)]
 show(if D.imms (aM (eT x))=true then some (aM (eT x)) else none)=_
 rw [if_pos (lV _)]
theorem zx5{x z:Str}{a:List Tk}{zs:List Str}{g:List Fm}(hl:x.length<=9000)(e:eT x=a.map bE++z::zs)(hk:∀t∈a,jD t)(h:Walk8 0 [iF] a g)(hx:wD [aI a.length g,.str z]=some ((a.length:Int)+1)):uI [.str x]=some ((a.length:Int)+1):=by
 obtain⟨y2,q⟩:=yn0 (x0:=some (.str x)) (x2:=none) (ds:= .str z::aM zs) hk wf0 bd0 h
 rw [Nat.zero_add] at q
 refine ym9 rfl ?_
 show mX qH mI gAW wD pJ [some (.str x),none,none]=_
 unfold mX mV
 rw [zi2]
 show pG (vV 2 (iM (aG mI (aB (aA 0) aD))) kT lP) _ [some (.str x),some (aI 0 [iF]),none]=_
 unfold pG vV
 rw [zQ hl,e,sN]
 show(match fU 2 kT lP (aS a++ .str z::aM zs) [some (.str x),some (aI 0 [iF]),none] with|some n=>some n|none=>_)=_
 rw [q,fU]
 show(match (match lP [some (.str x),some (aI a.length g),some (.str z)] with|some n=>some n|none=>_) with|some n=>some n|none=>_)=_
 rw [zx4,hx]
theorem zm4{x:Str}{ts:List Tk}{fs:List Fm}(hl:x.length<=9000)(e:eT x=ts.map bE)(hk:∀t∈ts,jD t)(h:Walk8 0 [iF] ts fs):∃y2,dS 2 (iM (aG mI (aB (aA 0) aD))) kT [some (.str x),some (aI 0 [iF]),none]=some (.nx,[some (.str x),some (aI ts.length fs),y2]):=by
 obtain⟨y2,q⟩:=zw4 (x0:=some (.str x)) ts 0 [iF] fs none hk (zm3 wf0 bd0 h)
 rw [Nat.zero_add] at q
 refine⟨y2,?_⟩
 unfold dS
 rw [zQ hl,e];exact q
theorem yw7{x:Str}{ts:List Tk}{fs:List Fm}(hl:x.length<=9000)(e:eT x=ts.map bE)(hk:∀t∈ts,jD t)(h:Walk8 0 [iF] ts fs)(h2:1<fs.length):uI [.str x]=some ((ts.length:Int)+1):=by
 obtain⟨y2,q⟩:=yn0 (x0:=some (.str x)) (x2:=none) (ds:=[]) hk wf0 bd0 h
 obtain⟨z2,s2⟩:=zm4 hl e hk h
 have hn:ts.length<=1000:=by
  cases ts with
  |nil=>simp! [gE,fIO,cX,dIs,gH]
  |cons t ts=>have:=vI h (by simp! [gE,fIO,cX,dIs,gH]);omega
 have qw:=xv3 ts.length fs (by omega)
 rw [if_pos h2] at qw
 rw [List.append_nil] at q
 refine ym9 rfl ?_
 show mX qH mI gAW wD pJ [some (.str x),none,none]=_
 unfold mX mV
 rw [zi2]
 show pG (vV 2 (iM (aG mI (aB (aA 0) aD))) kT lP) _ [some (.str x),some (aI 0 [iF]),none]=_
 unfold pG vV
 rw [zQ hl,e]
 show(match fU 2 kT lP (aS ts) [some (.str x),some (aI 0 [iF]),none] with|some n=>some n|none=>match dS 2 (iM (aG mI (aB (aA 0) aD))) kT [some (.str x),some (aI 0 [iF]),none] with|some (.nx,p)=>vT "Builder" "whole_row" (aA 1) pJ p|_=>none)=_
 rw [q,s2]
 show(match (fU 2 kT lP [] [some (.str x),some (aI (0+ts.length) fs),y2]:Option Int) with|some n=>some n|none=>vT "Builder" "whole_row" (aA 1) pJ [some (.str x),some (aI ts.length fs),z2])=_
 show vT "Builder" "whole_row" (aA 1) pJ [some (.str x),some (aI ts.length fs),z2]=_
 unfold vT
 rw [show fP "Builder" "whole_row" (aA 1) [some (.str x),some (aI ts.length fs),z2]=some (aI ts.length fs) by simp! [gE,fIO,cX,dIs,gH,aI]]
 exact qw
theorem yw8{x:Str}{ts:List Tk}{f:Fm}(hl:x.length<=9000)(e:eT x=ts.map bE)(hk:∀t∈ts,jD t)(h:Walk8 0 [iF] ts [f]):zp2 [.str x]=some (.tup (pcsD f.parts)):=by
 obtain⟨z2,s2⟩:=zm4 hl e hk h
 have qw:=zw5 ts.length f
 show gP 1 2 (xN qH mI gAW zf6) _=_
 generalize zf6=GW at qw
 exact cR rfl ((aE zi2).trans ((aE s2).trans (bQ (aU (aO (d:=aI ts.length [f]) (by simp! [gE,fIO,cX,dIs,gH,aI]) rfl) qw))))
def Dp8:List Fm->Prop
 |[]=>True
 |f::r=>depR f.parts+(r.length+1)<=13/\depRs f.full+(r.length+1)<=13/\Dp8 r
theorem zm5:∀a b:List Pc,depR (a++b)=max (depR a) (depR b)
 |[],b=>by show depR b=max 0 (depR b);omega
 |p::a,b=>by
  show max (nL p) (depR (a++b))=max (max (nL p) (depR a)) (depR b)
  rw [zm5 a b];omega
theorem vM:∀a b:List (List Pc),depRs (a++b)=max (depRs a) (depRs b)
 |[],b=>by show depRs b=max 0 (depRs b);omega
 |p::a,b=>by
  show max (depR p) (depRs (a++b))=max (max (depR p) (depRs a)) (depRs b)
  rw [vM a b];omega
theorem zd5{f:Fm}{r:List Fm}{p:Pc}(h:Dp8 (f::r))(hp:nL p+(r.length+1)<=13):Dp8 (put f p::r):=by
 obtain⟨h1,h2,h3⟩:=h
 refine⟨?_,h2,h3⟩
 show depR (f.parts++[p])+_<=13
 rw [zm5]
 have e:depR [p]=max (nL p) 0:=rfl
 omega
theorem xo7{fs g:List Fm}{t:Tk}(d:Dp8 fs)(h:Goes fs t g):Dp8 g:=by
 cases h with
 |leaf=>exact zd5 d (by obtain⟨h1,_⟩:=d;show 0+_<=13;omega)
 |opn ht hl=>exact⟨by show 0+_<=13;omega,by show 0+_<=13;omega,d⟩
 |orr ho hl=>
  rename_i f r
  obtain⟨h1,h2,h3⟩:=d
  refine⟨by show 0+_<=13;omega,?_,h3⟩
  show depRs (f.full++[f.parts])+_<=13
  rw [vM]
  have e:depRs [f.parts]=max (depR f.parts) 0:=rfl
  omega
 |cls ho=>
  obtain⟨h1,h2,h3⟩:=d
  refine zd5 h3 ?_
  show _+1+_<=13
  rw [List.length_cons] at h1;omega
 |bck ho=>
  obtain⟨h1,h2,h3⟩:=d
  refine zd5 h3 ?_
  show _+1+_<=13
  rw [List.length_cons] at h1;omega
 |don ho hl=>
  rename_i f g r
  obtain⟨h1,h2,h3⟩:=d
  refine zd5 h3 ?_
  show depRs (f.full++[f.parts])+1+_<=13
  rw [vM]
  have e:depRs [f.parts]=max (depR f.parts) 0:=rfl
  rw [List.length_cons] at h1 h2;omega
theorem yg8:∀{ts:List Tk} {n:Nat} {fs fs':List Fm},Walk8 n fs ts fs'->Dp8 fs->Dp8 fs'
 |_,_,_,_,.nil,d=>d
 |_,_,_,_,.cons _ hg h,d=>yg8 h (xo7 d hg)
structure FmOk(f:Fm):Prop where
 full:okRs f.full
 parts:okR f.parts
 op:∀n,f.op=some (.hng n)->0<=n/\n<=12
def sD(fs:List Fm):Prop:=∀f∈fs,FmOk f
theorem FmOk.put{f:Fm}{p:Pc}(h:FmOk f)(hp:okP p):FmOk (put f p):=⟨h.full,(yC _ _).mpr ⟨h.parts,(zh8 p).mpr hp⟩,h.op⟩
theorem sD.put{f:Fm}{r:List Fm}{p:Pc}(h:sD (f::r))(hp:okP p):sD (My.put f p::r):=fun x hx=>by
 rcases List.mem_cons.mp hx with rfl|hx
 ·exact(h f List.mem_cons_self).put hp
 ·exact h x (List.mem_cons_of_mem _ hx)
theorem xo8{n:Nat}{fs g:List Fm}{t:Tk}(b:Bd8 n fs)(k:sD fs)(ht:jD t)(h:Goes fs t g):sD g:=by
 cases h with
 |leaf=>exact k.put ht
 |opn hb hl=>
  intro x hx
  rcases List.mem_cons.mp hx with rfl|hx
  ·exact⟨trivial,trivial,fun n hn=>by cases hn;exact ht⟩
  ·exact k x hx
 |orr ho hl=>
  rename_i f r
  intro x hx
  have kf:=k f List.mem_cons_self
  rcases List.mem_cons.mp hx with rfl|hx
  ·exact⟨(rL _ _).mpr ⟨kf.full,(vH _).mpr kf.parts⟩,trivial,kf.op⟩
  ·exact k x (List.mem_cons_of_mem _ hx)
 |cls ho=>
  rename_i f g r
  exact sD.put (fun x hx=>k x (List.mem_cons_of_mem _ hx)) (k f List.mem_cons_self).parts
 |bck ho=>
  rename_i f g r m
  have kf:=k f List.mem_cons_self
  exact sD.put (fun x hx=>k x (List.mem_cons_of_mem _ hx)) ⟨kf.op m ho,kf.parts⟩
 |don ho hl=>
  rename_i f g r
  have kf:=k f List.mem_cons_self
  have h3:=(b.2 f List.mem_cons_self).2
  exact sD.put (fun x hx=>k x (List.mem_cons_of_mem _ hx)) ⟨⟨by rw [List.length_append,List.length_singleton];omega,by rw [List.length_append,List.length_singleton];omega⟩,(rL _ _).mpr ⟨kf.full,(vH _).mpr kf.parts⟩⟩
theorem yg9:∀{ts:List Tk} {n:Nat} {fs fs':List Fm},(∀t∈ts,jD t)->Bd8 n fs->sD fs->Walk8 n fs ts fs'->sD fs'
 |[],_,_,_,_,_,k,.nil=>k
 |t::_,_,_,_,hk,b,k,.cons _ hg h=>yg9 (fun t' ht=>hk t' (List.mem_cons_of_mem _ ht)) (uD b hg) (xo8 b k (hk t List.mem_cons_self) hg) h
theorem ok0:sD [iF]:=fun f hf=>by rw [List.mem_singleton.mp hf];exact⟨trivial,trivial,fun n hn=>by cases hn⟩
theorem zx6{c:Nat}:∀{ys:List Str} {p:Str},p∈ys->p.length<=(Str.join ⟨#[c]⟩ ys).length/\∀d∈p.cps.toList,d∈(Str.join ⟨#[c]⟩ ys).cps.toList
 |[y],p,h=>by rw [List.mem_singleton.mp h];exact⟨Nat.le_refl _,fun _ hd=>hd⟩
 | y::y2::r,p,h=>by
  have e:(Str.join ⟨#[c]⟩ (y::y2::r)).length=y.length+1+(Str.join ⟨#[c]⟩ (y2::r)).length:=by
   show((y++⟨#[c]⟩)++Str.join ⟨#[c]⟩ (y2::r)).length=_
   rw [bZ,bZ];rfl
  rw [e,zv0]
  rcases List.mem_cons.mp h with rfl|h
  ·exact⟨by omega,fun d hd=>List.mem_append_left _ hd⟩
  ·obtain⟨a,b⟩:=zx6 (c:=c) h
   exact⟨by omega,fun d hd=>List.mem_append_right _ (List.mem_cons_of_mem _ (b d hd))⟩
theorem zm6{c:Nat}:∀ys:List Str,ys.length<=(Str.join ⟨#[c]⟩ ys).length+1
 |[]=>Nat.zero_le _
 |[y]=>by show 1<=_;omega
 | y::y2::r=>by
  have e:(Str.join ⟨#[c]⟩ (y::y2::r)).length=y.length+1+(Str.join ⟨#[c]⟩ (y2::r)).length:=by
   show((y++⟨#[c]⟩)++Str.join ⟨#[c]⟩ (y2::r)).length=_
   rw [bZ,bZ];rfl
  have:=zm6 (c:=c) (y2::r)
  rw [e,List.length_cons];omega
theorem jM(z:Str):z.cps.all (·<128)=true↔∀d∈z.cps.toList,d<128:=by
 rw [<-Array.all_toList,List.all_eq_true]
 exact⟨fun h d hd=>of_decide_eq_true (h d hd),fun h d hd=>decide_eq_true (h d hd)⟩
theorem zd6(x:Str):Txt.join " " (eT x)=x:=by
 unfold eT
 by_cases h:x=""
 ·rw [if_pos h,h];rfl
 ·rw [if_neg h,zO]
  exact(StrLaws.glued_eq_join ⟨#[32]⟩ _).trans (StrLaws.join_split _ _)
theorem yw9{x:Str}(h:Low x):(∀z∈eT x,Low z)/\(eT x).length<=9001:=by
 have e:=zd6 x
 have e2:Str.join ⟨#[32]⟩ (eT x)=x:=by rw [<-StrLaws.glued_eq_join];rw [zO] at e;exact e
 refine⟨fun z hz=> ?_,?_⟩
 ·obtain⟨a,b⟩:=zx6 (c:=32) hz
  rw [e2] at a b
  exact⟨(jM z).mpr fun d hd=>(jM x).mp h.ch d (b d hd),Nat.le_trans a h.len⟩
 ·have:=zm6 (c:=32) (eT x)
  rw [e2] at this
  have:=h.len
  omega
theorem zm7:∀{zs:List Str},(∀z∈zs,Low z)->∃(ts:List Tk) (bK:List Str),zs=ts.map bE++bK/\(∀t∈ts,jD t/\nA [.str (bE t)]=some (.str (cH t)))/\(bK=[]\/∃z r,bK=z::r/\jY [.str z]=some .non/\nA [.str z]=some (.str ""))
 |[],_=>⟨[],[],rfl,fun t ht=>absurd ht (by simp),.inl rfl⟩
 | z::zs,h=>by
  rcases ym6 (h z List.mem_cons_self) with ⟨t,tk,rfl,q⟩|⟨q1,q2⟩
  ·obtain⟨ts,bK,e,h1,h2⟩:=zm7 fun y hy=>h y (List.mem_cons_of_mem _ hy)
   refine⟨t::ts,bK,by rw [e];rfl,fun t' ht=> ?_,h2⟩
   rcases List.mem_cons.mp ht with rfl|ht
   ·exact⟨tk,q⟩
   ·exact h1 t' ht
  ·exact⟨[],z::zs,rfl,fun t ht=>absurd ht (by simp),.inr ⟨z,zs,rfl,q1,q2⟩⟩
abbrev zf7:tz6:=gP 1 2 (vY uI)
theorem zR{d:D}{n:Int}(h:uI [d]=some n):zf7 [d]=some (.int n):=by
 refine cR rfl (p:=[some d,some .non,none]) ?_
 show vY uI [some d,none,none]=_
 generalize uI=G at h
 unfold vY
 rw [aE (p':=[some d,some .non,none]) (cC rfl)]
 show((G [d]).bind fun n=>if (fun _=>true) n=true then some (Fl.ret (.int n),[some d,some .non,none]) else none)=_
 rw [h,Option.bind_some,if_pos rfl]
theorem wb5{x:Str}(hx:Low x):(∃k:Int,0<k/\nV nA [.lst true (aM (eT x))]=some (.int k)/\zf7 [.str x]=some (.int k))\/
  (nV nA [.lst true (aM (eT x))]=some (.int 0)/\∃r,zp2 [.str x]=some (.tup (pcsD r))/\okR r/\depR r<=12/\(toksR r).length<=200/\xj1 (toksR r)=x):=by
 obtain⟨low,pl⟩:=yw9 hx
 obtain⟨ts,bK,e,hk,hr⟩:=zm7 low
 have hl:=hx.len
 rw [e] at pl
 rcases yf2 ts 0 [iF] wf0 with ⟨fs,h,w⟩|⟨a,t,b,g,rfl,h,w,hb⟩
 ·have hts:ts.length<=200:=by
   cases ts with
   |nil=>simp
   |cons t ts=>have:=vI h (by simp);omega
  rcases hr with rfl|⟨z,r,rfl,z1,z2⟩
  ·rw [List.append_nil] at e
   have q:=ym8 (o:=true) (fun t ht=>(hk t ht).2) h w (by omega)
   by_cases h1:1<fs.length
   ·rw [if_pos h1] at q
    exact .inl ⟨_,by omega,by rw [e];exact q,zR (yw7 hl e (fun t ht=>(hk t ht).1) h h1)⟩
   ·rw [if_neg h1] at q
    refine .inr ⟨by rw [e];exact q,?_⟩
    cases fs with
    |nil=>exact w.elim
    | cons f r=>
     cases r with
     |cons g r=>exact absurd (show 1<(f::g::r).length by simp) h1
     |nil=>
      have ko:=yg9 (fun t ht=>(hk t ht).1) bd0 ok0 h f List.mem_cons_self
      have q:=yw8 hl e (fun t ht=>(hk t ht).1) h
      obtain⟨op,fl,parts⟩:=f
      have ho:op=none:=w
      subst ho
      have hrow:toksR parts=ts:=xn3 (zv1 h)
      have hdp:depR parts+(0+1)<=13:=(yg8 h ⟨by show 0+_<=13;decide,by show 0+_<=13;decide,trivial⟩).1
      refine⟨parts,q,ko.parts,by omega,by rw [hrow];exact hts,?_⟩
      rw [hrow]
      unfold xj1
      rw [<-e]
      exact zd6 x
  ·have q:=zd4 (o:=true) (zs:=r) (z:=z) (s:="") (fun t ht=>(hk t ht).2) h z2 (by omega) (.inl rfl)
   exact .inl ⟨_,by omega,by rw [e];exact q,zR (zx5 hl e (fun t ht=>(hk t ht).1) h (xe7 z1 (by omega)))⟩
 ·rw [Nat.zero_add] at hb
  have e':eT x=a.map bE++bE t::(b.map bE++bK):=by rw [e];simp
  have ha:∀t'∈a,jD t'/\nA [.str (bE t')]=some (.str (cH t')):=fun t' ht=>hk t' (List.mem_append_left _ ht)
  obtain⟨tk,ts'⟩:=hk t (List.mem_append_right _ List.mem_cons_self)
  have hal:a.length<=200:=by
   cases a with
   |nil=>simp
   |cons t ts=>have:=vI h (by simp);omega
  have q:=zd4 (o:=true) (zs:=b.map bE++bK) (z:=bE t) (s:=cH t) (fun t ht=>(ha t ht).2) h ts' (by rw [<-e',e];omega) (.inr (.inr ⟨t,rfl,rfl,w,hb⟩))
  exact .inl ⟨_,by omega,by rw [e'];exact q,zR (zx5 hl e' (fun t ht=>(ha t ht).1) h (yg7 tk (xv2 (zv3 w hb) (by omega))))⟩
theorem zd7(ts:List Str)(k:Nat):(aM ts).take k=aM (ts.take k):=by simp [aM,List.map_take]
theorem zd8(ts:List Str)(k:Nat):(aM ts).drop k=aM (ts.drop k):=by simp [aM,List.map_drop]
theorem yx0(ts:List Str):(aM ts).reverse=aM ts.reverse:=by simp [aM]
theorem zd9(ts:List Str)(a:Nat):L2.rW (aM ts) none (some (a:Int))=aM (ts.take (min a ts.length)):=by
 unfold L2.rW
 rw [HT.sIx_none,HT.sIx_nat,gD,List.drop_zero,Nat.sub_zero,zd7]
theorem yx1(ts:List Str)(a:Nat):L2.rW (aM ts) (some (a:Int)) none=aM (ts.drop (min a ts.length)):=by
 unfold L2.rW
 rw [HT.sIx_none,HT.sIx_nat,gD,zd8,List.take_of_length_le (by rw [gD,List.length_drop];exact Nat.le_refl _)]
theorem xo9(ts:List Str)(a b:Nat):L2.rW (aM ts) (some (a:Int)) (some (b:Int))=aM ((ts.drop (min a ts.length)).take (min b ts.length-min a ts.length)):=by
 unfold L2.rW
 rw [HT.sIx_nat,HT.sIx_nat,gD,zd8,zd7]
theorem vN{o:Bool}{ts:List Str}{fl fh:PSt->Option (Option Int)}{p:PSt}{lo hi:Option Int}{us:List Str}{f:tz2}(h0:f p=some (.lst o (aM ts)))(h1:fl p=some lo)(h2:fh p=some hi)(e:L2.rW (aM ts) lo hi=aM us):fSl f fl fh p=some (.lst true (aM us)):=by
 unfold fSl
 rw [h0,h1,h2]
 show(if D.imms (aM ts)=true then some (D.lst true (L2.rW (aM ts) lo hi)) else none)=_
 rw [if_pos (lV _),e]
theorem jN{f:tz2}{p:PSt}{i:Int}(h:f p=some (.int i)):bX f p=some (some i):=by unfold bX;rw [h];rfl
theorem tH{f g:tz2}{p:PSt}{o o':Bool}{a b:List Str}(h1:f p=some (.lst o (aM a)))(h2:g p=some (.lst o' (aM b)))(hl:a.length+b.length<=1000):f2 aZ f g p=some (.lst true (aM (a++b))):=
 aT h1 h2 (by rw [pT (lV _) (lV _) (by rw [gD,gD];exact hl),sN])
structure PtOk(z:Str):Prop where
 ch:z.cps.all (·<128)=true
 len:z.length<=20
def eU(ts:List Str):Prop:=∀t∈ts,PtOk t
theorem eU.app{a b:List Str}(h:eU a)(k:eU b):eU (a++b):=fun t ht=>(List.mem_append.mp ht).elim (h t) (k t)
theorem eU.take{a:List Str}(h:eU a)(n:Nat):eU (a.take n):=fun t ht=>h t (List.mem_of_mem_take ht)
theorem eU.drop{a:List Str}(h:eU a)(n:Nat):eU (a.drop n):=fun t ht=>h t (List.mem_of_mem_drop ht)
theorem eU.rev{a:List Str}(h:eU a):eU a.reverse:=fun t ht=>h t (List.mem_reverse.mp ht)
def zp3:List Str:=["[","]","<","{","|","}","/",">12",">13",">0",">00",">-1",">","\x4040","\x4041","\x400","\x4007"]
def xj3:List Str:=["\x40","","'","x","__","..","//","[]","'abcdefghijkl","'abcdefghijklm","\x404 0","\x40+4",">1a"]
def qS:List Str:=zp3++xj3
def ptB(z:Str):Bool:=z.cps.all (·<128)&&decide (z.length<=20)
theorem rS{z:Str}(h:ptB z=true):PtOk z:=by
 obtain⟨a,b⟩:=Bool.and_eq_true_iff.mp h
 exact⟨a,of_decide_eq_true b⟩
theorem xp0:eU qS:=fun t ht=>rS (List.all_eq_true.mp (show qS.all ptB=true by decide+kernel) t ht)
theorem xp1(m:Int):∃t,atI (aM qS) (m % 30)=some (.str t)/\PtOk t:=by
 have h0:0<=m % 30:=Int.emod_nonneg _ (by decide)
 have h1:m % 30<30:=Int.emod_lt_of_pos _ (by decide)
 obtain⟨n,hn⟩:∃n:Nat,m % 30=(n:Int):=⟨(m % 30).toNat,by omega⟩
 have hl:n<qS.length:=by show n<30;omega
 refine⟨qS[n],?_,xp0 _ (List.getElem_mem hl)⟩
 rw [hn]
 exact qV (by rw [show aM qS=qS.map .str from rfl,List.getElem?_map,List.getElem?_eq_getElem hl];rfl)
abbrev wE:tz6:=gP 2 4 oS
abbrev pC(o:Bool)(ts:List Str)(m:Int)(a b:Nat):PSt:=[some (.lst o (aM ts)),some (.int m),some (.int (m % 5)),some (.int a),some (.int b),some (.lst true (aM qS))]
theorem yn1{o:Bool}{ts:List Str}{m:Int}(hm:0<=m)(hl:ts.length<=900)(hk:eU ts):∃us,wE [.lst o (aM ts),.int m]=some (.lst true (aM us))/\us.length<=ts.length+1/\eU us:=by
 obtain⟨a,ha⟩:∃a:Nat,m/5 % (if ((ts.length:Int))>1 then(ts.length:Int) else 1)=(a:Int):=⟨(m/5 % (if ((ts.length:Int))>1 then(ts.length:Int) else 1)).toNat,by
  have:0<=m/5 % (if ((ts.length:Int))>1 then(ts.length:Int) else 1):=Int.emod_nonneg _ (by split<;>omega)
  omega⟩
 obtain⟨b,hb⟩:∃b:Nat,m/1500 % ((ts.length:Int)+1)=(b:Int):=⟨(m/1500 % ((ts.length:Int)+1)).toNat,by
  have:0<=m/1500 % ((ts.length:Int)+1):=Int.emod_nonneg _ (by omega)
  omega⟩
 have hb1:b<=ts.length:=by
  have:m/1500 % ((ts.length:Int)+1)<(ts.length:Int)+1:=Int.emod_lt_of_pos _ (by omega)
  omega
 suffices h:∃us q,oS [some (.lst o (aM ts)),some (.int m),none,none,none,none]=some (.ret (.lst true (aM us)),q)/\us.length<=ts.length+1/\eU us from by
  obtain⟨us,q,h1,h2⟩:=h
  exact⟨us,cR rfl h1,h2⟩
 unfold oS
 have s1:bF 2 (aJ (f2 cW (aA 1) (fC (.int 5)))) [some (.lst o (aM ts)),some (.int m),none,none,none,none]=some (.nx,[some (.lst o (aM ts)),some (.int m),some (.int (m % 5)),none,none,none]):=cC (aT (x:= .int m) (y:= .int 5) rfl rfl (by rw [bO];rfl))
 have s2:bF 3 (aJ (f2 cW (f2 eP (aA 1) (fC (.int 5))) (aG zo8 (aB (fC (.int 1)) (aB (aG bU (aB (aA 0) aD)) aD))))) [some (.lst o (aM ts)),some (.int m),some (.int (m % 5)),none,none,none]=some (.nx,[some (.lst o (aM ts)),some (.int m),some (.int (m % 5)),some (.int a),none,none]):=by
  refine cC (aT (x:= .int (m/5)) (y:= .int (if ((ts.length:Int))>1 then(ts.length:Int) else 1)) (aT (x:= .int m) (y:= .int 5) rfl rfl (by rw [bW];rfl)) (aU (ds:=[.int 1,.int ts.length]) ?_ rfl) ?_)
  ·refine aO rfl (aO (aU (ds:=[.lst o (aM ts)]) rfl ?_) rfl)
   show some (D.int ((aM ts).length:Int))=_
   rw [gD]
  ·rw [bO,if_pos (by split<;>omega),ha]
 have s3:bF 4 (aJ (f2 cW (f2 eP (aA 1) (fC (.int 1500))) (f2 aZ (aG bU (aB (aA 0) aD)) (fC (.int 1))))) [some (.lst o (aM ts)),some (.int m),some (.int (m % 5)),some (.int a),none,none]=some (.nx,[some (.lst o (aM ts)),some (.int m),some (.int (m % 5)),some (.int a),some (.int b),none]):=by
  refine cC (aT (x:= .int (m/1500)) (y:= .int ((ts.length:Int)+1)) (aT (x:= .int m) (y:= .int 1500) rfl rfl (by rw [bW];rfl)) (aT (x:= .int ts.length) (y:= .int 1) (aU (ds:=[.lst o (aM ts)]) rfl ?_) rfl rfl) ?_)
  ·show some (D.int ((aM ts).length:Int))=_
   rw [gD]
  ·rw [bO,if_pos (by omega),hb]
 have s4:bF 5 (aJ (bI (fKs [.str "[",.str "]",.str "<",.str "{",.str "|",.str "}",.str "/",.str ">12",.str ">13",.str ">0",.str ">00",.str ">-1",.str ">",.str "\x4040",.str "\x4041",.str "\x400",.str "\x4007"]))) [some (.lst o (aM ts)),some (.int m),some (.int (m % 5)),some (.int a),some (.int b),none]=some (.nx,[some (.lst o (aM ts)),some (.int m),some (.int (m % 5)),some (.int a),some (.int b),some (.lst true (aM zp3))]):=cC (eV (ds:=aM zp3) rfl (show 17<=1000 by decide))
 have s5:bF 5 (aJ (f2 aZ (aA 5) (bI (fKs [.str "\x40",.str "",.str "'",.str "x",.str "__",.str "..",.str "//",.str "[]",.str "'abcdefghijkl",.str "'abcdefghijklm",.str "\x404 0",.str "\x40+4",.str ">1a"])))) [some (.lst o (aM ts)),some (.int m),some (.int (m % 5)),some (.int a),some (.int b),some (.lst true (aM zp3))]=some (.nx,pC o ts m a b):=cC (tH (o:=true) (o':=true) rfl (eV (ds:=aM xj3) rfl (show 13<=1000 by decide)) (show 17+13<=1000 by decide))
 have eq:∀k:Int,fB (f2 dEq (aA 2) (fC (.int k))) (pC o ts m a b)=some (decide (m % 5=k)):=fun k=>eA (aT (x:= .int (m % 5)) (y:= .int k) rfl rfl rfl)
 have hia:fSl (aA 0) bL (bX (aA 3)) (pC o ts m a b)=some (.lst true (aM (ts.take (min a ts.length)))):=vN rfl rfl (jN rfl) (zd9 ts a)
 have hib:fSl (aA 0) bL (bX (aA 4)) (pC o ts m a b)=some (.lst true (aM (ts.take (min b ts.length)))):=vN rfl rfl (jN rfl) (zd9 ts b)
 have lob:fSl (aA 0) (bX (aA 4)) bL (pC o ts m a b)=some (.lst true (aM (ts.drop (min b ts.length)))):=vN rfl (jN rfl) rfl (yx1 ts b)
 have loa:∀(k:Nat),fSl (aA 0) (bX (f2 aZ (aA 3) (fC (.int (k:Int))))) bL (pC o ts m a b)=some (.lst true (aM (ts.drop (min (a+k) ts.length)))):=fun k=>vN rfl (jN (i:=((a+k:Nat):Int)) rfl) rfl (yx1 ts (a+k))
 have mid:∀(k:Nat),fSl (aA 0) (bX (aA 3)) (bX (f2 aZ (aA 3) (fC (.int (k:Int))))) (pC o ts m a b)=some (.lst true (aM ((ts.drop (min a ts.length)).take (min (a+k) ts.length-min a ts.length)))):=fun k=>vN rfl (jN rfl) (jN (i:=((a+k:Nat):Int)) rfl) (xo9 ts a (a+k))
 rw [aE s1,aE s2,aE s3,aE s4,aE s5]
 by_cases w0:m % 5=0
 ·refine⟨_,_,cO ((cP ((eq 0).trans (by rw [decide_eq_true w0]))).trans (bQ (tH hia (loa 1) ?_))),?_,(hk.take _).app (hk.drop _)⟩
  ·simp only [List.length_take,List.length_drop];omega
  ·simp only [List.length_append,List.length_take,List.length_drop];omega
 rw [aE (bG ((eq 0).trans (by rw [decide_eq_false w0])))]
 by_cases w1:m % 5=1
 ·refine⟨_,_,cO ((cP ((eq 1).trans (by rw [decide_eq_true w1]))).trans (bQ (tH (tH hib (mid 1) ?_) lob ?_))),?_,((hk.take _).app ((hk.drop _).take _)).app (hk.drop _)⟩
  ·simp only [List.length_take,List.length_drop];omega
  ·simp only [List.length_append,List.length_take,List.length_drop];omega
  ·simp only [List.length_append,List.length_take,List.length_drop];omega
 rw [aE (bG ((eq 1).trans (by rw [decide_eq_false w1])))]
 by_cases w2:m % 5=2
 ·have r6:xf8 (fSl (aA 0) (bX (aA 3)) (bX (f2 aZ (aA 3) (fC (.int 2))))) (pC o ts m a b)=some (.lst true (aM ((ts.drop (min a ts.length)).take (min (a+2) ts.length-min a ts.length)).reverse)):=by
   refine(congrArg (fun z=>Option.bind z xf7) (mid 2)).trans ?_
   show(if D.imms (aM _)=true then some (D.lst true (aM _).reverse) else none)=_
   rw [if_pos (lV _),yx0]
  refine⟨_,_,cO ((cP ((eq 2).trans (by rw [decide_eq_true w2]))).trans (bQ (tH (tH hia r6 ?_) (loa 2) ?_))),?_,((hk.take _).app ((hk.drop _).take _).rev).app (hk.drop _)⟩
  ·simp only [List.length_reverse,List.length_take,List.length_drop];omega
  ·simp only [List.length_append,List.length_reverse,List.length_take,List.length_drop];omega
  ·simp only [List.length_append,List.length_reverse,List.length_take,List.length_drop];omega
 rw [aE (bG ((eq 2).trans (by rw [decide_eq_false w2])))]
 by_cases w3:m % 5=3
 ·obtain⟨t,ht,htk⟩:=xp1 (m/5)
  have one:bI (aB (dI (f2 dIx (aA 5) (f2 cW (f2 eP (aA 1) (fC (.int 5))) (fC (.int 30))))) aD) (pC o ts m a b)=some (.lst true (aM [t])):=by
   refine eV (ds:=[.str t]) (aO ?_ rfl) (show 1<=1000 by decide)
   unfold dI
   rw [aT (x:= .lst true (aM qS)) (y:= .int (m/5 % 30)) rfl (aT (x:= .int (m/5)) (y:= .int 30) (aT (x:= .int m) (y:= .int 5) rfl rfl (by rw [bW];rfl)) rfl (by rw [bO];rfl)) ht]
   show(if (D.str t).imm=true then some (D.str t) else none)=_
   rfl
  refine⟨_,_,cO ((cP ((eq 3).trans (by rw [decide_eq_true w3]))).trans (bQ (tH (tH hib one ?_) lob ?_))),?_,((hk.take _).app (fun x hx=>by rw [List.mem_singleton.mp hx];exact htk)).app (hk.drop _)⟩
  ·simp only [List.length_take,List.length_singleton];omega
  ·simp only [List.length_append,List.length_take,List.length_drop,List.length_singleton];omega
  ·simp only [List.length_append,List.length_take,List.length_drop,List.length_singleton];omega
 rw [aE (bG ((eq 3).trans (by rw [decide_eq_false w3])))]
 refine⟨_,_,bQ (vN rfl rfl (jN (i:=((a+1:Nat):Int)) rfl) (zd9 ts (a+1))),?_,hk.take _⟩
 simp only [List.length_take];omega
theorem yW{GM GL:tz6}{S:D}(hL:∀m,0<=m->∃l,GL [.int m]=some (dW l)/\jS l){s:Int}:∀(l:List Int),(∀j∈l,∃m,GM [S,.int j,.int s]=some (.int m)/\0<=m)->
  ∃ls:List Leaf,iU [none,some S] kM (aG GL (aB (aG GM (aB (aA 1) (aB (aA 0) (aB (fC (.int s)) aD)))) aD)) (l.map .int)=some (ls.map dW)/\ls.length=l.length/\∀x∈ls,jS x
 |[],_=>⟨[],rfl,rfl,fun x hx=>absurd hx (by simp! [dZ,fR,bO,bW,gU])⟩
 |j::l,h=>by
  obtain⟨m,hm,hm0⟩:=h j List.mem_cons_self
  obtain⟨x,hx,hxk⟩:=hL m hm0
  obtain⟨ls,q,hl,hk⟩:=yW hL l fun i hi=>h i (List.mem_cons_of_mem _ hi)
  refine⟨x::ls,?_,by simp! [dZ,fR,bO,bW,gU,hl],fun y hy=>(List.mem_cons.mp hy).elim (fun e=>e▸hxk) (hk y)⟩
  show iU [none,some S] kM _ (D.int j::l.map .int)=_
  rw [iU]
  simp! [dZ,fR,bO,bW,gU,kM,hm,hx,q]
theorem ze0:∀ls:List Leaf,ls.map dW=pcsD (ls.map .leaf)
 |[]=>rfl
 |l::ls=>by show dW l::ls.map dW=dW l::pcsD (ls.map .leaf);rw [ze0 ls]
theorem zm8:∀ls:List Leaf,(∀x∈ls,jS x)->RowOk 0 ls.length (ls.map .leaf)
 |[],_=>⟨trivial,Nat.le_refl _,Nat.le_refl _⟩
 |l::ls,h=>by
  obtain⟨h1,h2,h3⟩:=zm8 ls fun x hx=>h x (List.mem_cons_of_mem _ hx)
  exact⟨⟨h l List.mem_cons_self,h1⟩,by show max 0 (depR (ls.map .leaf))<=0;omega,by show([Tk.leaf l]++toksR (ls.map .leaf)).length<=ls.length+1;rw [List.length_append];simp;omega⟩
theorem wb6(n:Nat):∃k:Nat,(if (40:Int)<(n:Int)+3 then(40:Int) else(n:Int)+3)=(k:Int)/\k<=40:=by
 by_cases c:(40:Int)<(n:Int)+3
 ·exact⟨40,by rw [if_pos c];rfl,Nat.le_refl _⟩
 ·exact⟨n+3,by rw [if_neg c];push_cast;rfl,by omega⟩
theorem yG{x y:Str}(hx:x.cps.all (·<128)=true)(hy:y.cps.all (·<128)=true):(x++y).cps.all (·<128)=true:=by
 rw [jM] at hx hy|-
 intro d hd
 rw [gY] at hd
 exact(List.mem_append.mp hd).elim (hx d) (hy d)
theorem xp2{t:Tk}(h:jD t):PtOk (bE t):=by
 refine⟨?_,by have:=xd7 h;omega⟩
 have num:∀i:Int,0<=i->i<=40->(iS i).cps.all (·<128)=true:=fun i h0 h1=>by
  obtain⟨n,rfl⟩:=Int.eq_ofNat_of_zero_le h0
  exact(xw2 ⟨n,by omega⟩).2.2.2
 cases t with
 | leaf l=>
  cases l with
  |word x=>
   have h':kU x:=h
   refine yG (x:="'") (by decide+kernel) ((jM x).mpr fun d hd=> ?_)
   have:=List.all_eq_true.mp h'.2.2 d hd
   simp! [dZ,fR,bO,bW,gU,eW] at this
   omega
  |gap x=>
   show(if x="" then(".":Str) else "_").cps.all (·<128)=true
   split<;>decide+kernel
  |stop c=>
   have h':0<=c/\c<=40:=h
   exact yG (x:="\x40") (by decide+kernel) (num c h'.1 h'.2)
  |fin=>decide+kernel
 |hng n=>
  have h':0<=n/\n<=12:=h
  exact yG (x:=">") (by decide+kernel) (num n h'.1 (by omega))
 |opn=>decide+kernel
 |cls=>decide+kernel
 |bck=>decide+kernel
 |eit=>decide+kernel
 |orr=>decide+kernel
 |don=>decide+kernel
theorem zS{ts:List Tk}(h:∀t∈ts,jD t):eU (ts.map bE):=fun z hz=>by
 obtain⟨t,ht,rfl⟩:=List.mem_map.mp hz
 exact xp2 (h t ht)
theorem zm9(a:List Str):∀k:Nat,(List.replicate k (aM a)).flatten=aM (List.replicate k a).flatten
 |0=>rfl
 |k+1=>by rw [List.replicate_succ,List.flatten_cons,zm9 a k,List.replicate_succ,List.flatten_cons,sN]
theorem zi3(a:List Str):∀k:Nat,(List.replicate k a).flatten.length=a.length*k
 |0=>rfl
 |k+1=>by rw [List.replicate_succ,List.flatten_cons,List.length_append,zi3 a k,Nat.mul_succ];omega
theorem zx7{a:List Str}(h:eU a):∀k:Nat,eU (List.replicate k a).flatten
 |0=>fun t ht=>absurd ht (by simp! [dZ,fR,bO,bW,gU])
 |k+1=>by rw [List.replicate_succ,List.flatten_cons];exact h.app (zx7 h k)
theorem yx2{f g:tz2}{p:PSt}{o:Bool}{a:List Str}{k:Int}(h1:f p=some (.lst o (aM a)))(h2:g p=some (.int k))(h0:0<=k)(hk:k<=20)(ha:a.length<=3):f2 nD f g p=some (.lst true (aM (List.replicate k.toNat a).flatten)):=by
 refine aT h1 h2 ?_
 show(if (D.imms (aM a)&&decide (-(2^63)<=k)&&decide (k<2^63)&&decide ((aM a).length*k.toNat<=sizeLine))=true then some (D.lst true (List.replicate k.toNat (aM a)).flatten) else none)=_
 have hm:(aM a).length*k.toNat<=sizeLine:=by
  rw [gD]
  exact szB (Nat.le_trans (Nat.mul_le_mul ha (show k.toNat<=20 by omega)) (by decide))
 rw [lV,decide_eq_true (by omega),decide_eq_true (by omega),decide_eq_true hm,zm9]
 rfl
abbrev xj4(GM GLs GL GR:tz6):tz6:=gP 1 4 (zn1 GM GLs GL GR)
theorem yx3{p:PSt}{w:Int}{o:Bool}{a b c:D}{f:tz2}(hf:f p=some (.lst o [a,b,c]))(h:aA 4 p=some (.int w))(h0:0<=w)(h1:w<3){P:D->Prop}(pa:P a)(pb:P b)(pc:P c):∃d,f2 dIx f (aA 4) p=some d/\P d:=by
 rcases(show w=0\/w=1\/w=2 by omega) with rfl|rfl|rfl
 ·exact⟨a,aT hf h (by simp! [dZ,fR,bO,bW,gU]),pa⟩
 ·exact⟨b,aT hf h (by simp! [dZ,fR,bO,bW,gU]),pb⟩
 ·exact⟨c,aT hf h (by simp! [dZ,fR,bO,bW,gU]),pc⟩
theorem xp3{GM GLs GL GR:tz6}{xs:List D}(hL:∀m,0<=m->∃l,GL [.int m]=some (dW l)/\jS l)(hM:∀k s:Int,0<=k->k<1000->0<=s->s<1000->∃m,GM [.con xs,.int k,.int s]=some (.int m)/\0<=m)
  (hR:∀many:Nat,many<=40->∃r,GR [.con xs,.int 0,.int many,.int 3]=some (.tup (pcsD r))/\RowOk 3 (4*many) r)
  (hS:∀r,okR r->depR r<=12->(toksR r).length<=900->GLs [.tup (pcsD r)]=some (.lst true (aS (toksR r)))):
  ∃zs,xj4 GM GLs GL GR [.con xs]=some (.lst true (aM zs))/\zs.length<=210/\eU zs:=by
 obtain⟨m,hm,hm0⟩:=hM 0 40 (by decide) (by decide) (by decide) (by decide)
 obtain⟨k,hk,hk40⟩:=wb6 xs.length
 have s1:bF 1 (aJ (aG GM (aB (aA 0) (aB (fC (.int 0)) (aB (fC (.int 40)) aD))))) [some (.con xs),none,none,none,none]=some (.nx,[some (.con xs),some (.int m),none,none,none]):=cC (aU rfl hm)
 by_cases c1:m % 8=1
 ·have n0:=Int.emod_nonneg (m/8) (show(7:Int)≠0 by decide)
  have n1:=Int.emod_lt_of_pos (m/8) (show(0:Int)<7 by decide)
  obtain⟨ls,q,hl,hlk⟩:=yW (S:= .con xs) hL (s:=41) ((List.range (196+m/8 % 7).toNat).map fun(k:Nat)=>(k:Int)) fun j hj=>by
   obtain⟨i,hi,rfl⟩:=List.mem_map.mp hj
   have:=List.mem_range.mp hi
   exact hM _ 41 (by omega) (by omega) (by decide) (by decide)
  rw [<-uB] at q
  rw [List.length_map,List.length_range] at hl
  have hrow:=zm8 ls hlk
  have hlen:=hrow.len
  have qs:=hS _ hrow.ok (by have:=hrow.dep;omega) (by omega)
  refine⟨(toksR (ls.map .leaf)).map bE,?_,by rw [List.length_map];omega,zS (tk_okR _ hrow.ok)⟩
  have er:dP (aB (f2 aZ (fC (.int 196)) (f2 cW (f2 eP (aA 1) (fC (.int 8))) (fC (.int 7)))) aD) [some (.con xs),some (.int m),none,none,none]=some (fY 0 (196+m/8 % 7).toNat):=by
   have e1:aB (f2 aZ (fC (.int 196)) (f2 cW (f2 eP (aA 1) (fC (.int 8))) (fC (.int 7)))) aD [some (.con xs),some (.int m),none,none,none]=some [.int (196+m/8 % 7)]:=by simp! [dZ,fR,bO,bW,gU]
   unfold dP
   rw [e1,Option.bind_some,qX (by omega) (by omega)]
  have ec:mU [none,some 0] (dP (aB (f2 aZ (fC (.int 196)) (f2 cW (f2 eP (aA 1) (fC (.int 8))) (fC (.int 7)))) aD)) kM (aG GL (aB (aG GM (aB (aA 1) (aB (aA 0) (aB (fC (.int 41)) aD)))) aD)) [some (.con xs),some (.int m),none,none,none]=some (.lst true (ls.map dW)):=by
   unfold mU
   rw [er,Option.bind_some,if_pos (by unfold fY;rw [List.length_map,List.length_range];exact sz (by omega))]
   show(iU [none,some (.con xs)] kM _ _).bind _=_
   rw [q];rfl
  refine cR rfl ((aE s1).trans (cO ((pK (p':=[some (.con xs),some (.int m),none,none,none]) (by simp! [dZ,fR,bO,bW,gU,c1])).trans (bQ (aU (aO (aU (aO ec rfl) ?_) rfl) qs)))))
  rw [ze0];simp! [dZ,fR,bO,bW,gU,pcs_imm]
 ·obtain⟨r,qr,hr⟩:=hR k hk40
  have hlen:=hr.len
  have qs:=hS r hr.ok (by have:=hr.dep;omega) (by omega)
  have hpt:=zS (tk_okR _ hr.ok)
  have c1':fB (f2 dEq (f2 cW (aA 1) (fC (.int 8))) (fC (.int 1))) [some (.con xs),some (.int m),none,none,none]=some false:=by simp! [dZ,fR,bO,bW,gU,c1]
  have s2:bF 2 (aJ (aG GLs (aB (aG GR (aB (aA 0) (aB (fC (.int 0)) (aB (aG gU (aB (f2 aZ (aG bU (aB (aA 0) aD)) (fC (.int 3))) (aB (fC (.int 40)) aD))) (aB (fC (.int 3)) aD))))) aD))) [some (.con xs),some (.int m),none,none,none]=some (.nx,[some (.con xs),some (.int m),some (.lst true (aS (toksR r))),none,none]):=by
   refine cC (aU (aO (aU (ds:=[.con xs,.int 0,.int k,.int 3]) ?_ qr) rfl) qs)
   rw [<-hk];rfl
  by_cases c3:m % 8=3
  ·have c3':fB (f2 dEq (f2 cW (aA 1) (fC (.int 8))) (fC (.int 3))) [some (.con xs),some (.int m),some (.lst true (aS (toksR r))),none,none]=some true:=by simp! [dZ,fR,bO,bW,gU,c3]
   have n0:=Int.emod_nonneg (m/8) (show(5:Int)≠0 by decide)
   have n1:=Int.emod_lt_of_pos (m/8) (show(0:Int)<5 by decide)
   have w0:=Int.emod_nonneg (m/40) (show(3:Int)≠0 by decide)
   have w1:=Int.emod_lt_of_pos (m/40) (show(0:Int)<3 by decide)
   have s3:bF 3 (aJ (f2 aZ (fC (.int 9)) (f2 cW (f2 eP (aA 1) (fC (.int 8))) (fC (.int 5))))) [some (.con xs),some (.int m),some (.lst true (aS (toksR r))),none,none]=some (.nx,[some (.con xs),some (.int m),some (.lst true (aS (toksR r))),some (.int (9+m/8 % 5)),none]):=by simp! [dZ,fR,bO,bW,gU]
   have s4:bF 4 (aJ (f2 cW (f2 eP (aA 1) (fC (.int 40))) (fC (.int 3)))) [some (.con xs),some (.int m),some (.lst true (aS (toksR r))),some (.int (9+m/8 % 5)),none]=some (.nx,[some (.con xs),some (.int m),some (.lst true (aS (toksR r))),some (.int (9+m/8 % 5)),some (.int (m/40 % 3))]):=by simp! [dZ,fR,bO,bW,gU]
   obtain⟨d1,q1,z1,rfl,p1⟩:=yx3 (p:=[some (.con xs),some (.int m),some (.lst true (aS (toksR r))),some (.int (9+m/8 % 5)),some (.int (m/40 % 3))]) (w:=m/40 % 3) (o:=true) (a:= .str "[") (b:= .str ">3") (c:= .str "{") (f:=bI (fKs [.str "[",.str ">3",.str "{"])) (eV rfl (show 3<=1000 by decide)) rfl w0 w1 (P:=fun d=>∃z:Str,d= .str z/\PtOk z) ⟨_,rfl,rS (by decide+kernel)⟩ ⟨_,rfl,rS (by decide+kernel)⟩ ⟨_,rfl,rS (by decide+kernel)⟩
   obtain⟨d2,q2,y2,rfl,p2,l2⟩:=yx3 (p:=[some (.con xs),some (.int m),some (.lst true (aS (toksR r))),some (.int (9+m/8 % 5)),some (.int (m/40 % 3))]) (w:=m/40 % 3) (o:=true) (a:= .lst true [.str "]"]) (b:= .lst true [.str "<"]) (c:= .lst true [.str "|",.str "/",.str "}"]) (f:=bI (aB (bI (aB (fC (.str "]")) aD)) (aB (bI (aB (fC (.str "<")) aD)) (aB (bI (fKs [.str "|",.str "/",.str "}"])) aD)))) (by rfl) rfl w0 w1 (P:=fun d=>∃y:List Str,d= .lst true (aM y)/\eU y/\y.length<=3) ⟨["]"],rfl,fun t ht=>rS (List.all_eq_true.mp (show(["]"]:List Str).all ptB=true by decide+kernel) t ht),by decide⟩ ⟨["<"],rfl,fun t ht=>rS (List.all_eq_true.mp (show(["<"]:List Str).all ptB=true by decide+kernel) t ht),by decide⟩ ⟨["|","/","}"],rfl,fun t ht=>rS (List.all_eq_true.mp (show(["|","/","}"]:List Str).all ptB=true by decide+kernel) t ht),by decide⟩
   have u1:=yx2 (g:=aA 3) (f:=bI (aB (f2 dIx (bI (fKs [.str "[",.str ">3",.str "{"])) (aA 4)) aD)) (p:=[some (.con xs),some (.int m),some (.lst true (aS (toksR r))),some (.int (9+m/8 % 5)),some (.int (m/40 % 3))]) (o:=true) (a:=[z1]) (k:=9+m/8 % 5) (eV (ds:=[.str z1]) (aO q1 rfl) (show 1<=1000 by decide)) rfl (by omega) (by omega) (show 1<=3 by decide)
   have u2:=yx2 (g:=aA 3) (k:=9+m/8 % 5) q2 rfl (by omega) (by omega) l2
   have u3:fSl (aA 2) bL (bX (fC (.int 3))) [some (.con xs),some (.int m),some (.lst true (aS (toksR r))),some (.int (9+m/8 % 5)),some (.int (m/40 % 3))]=some (.lst true (aM (((toksR r).map bE).take (min 3 ((toksR r).map bE).length)))):=vN (o:=true) (ts:=(toksR r).map bE) rfl rfl (jN (i:=((3:Nat):Int)) rfl) (zd9 _ 3)
   have e1:=zi3 [z1] (9+m/8 % 5).toNat
   have e2:=zi3 y2 (9+m/8 % 5).toNat
   have e3:y2.length*(9+m/8 % 5).toNat<=39:=Nat.le_trans (Nat.mul_le_mul l2 (show(9+m/8 % 5).toNat<=13 by omega)) (by decide)
   have e4:(((toksR r).map bE).take (min 3 ((toksR r).map bE).length)).length<=3:=by rw [List.length_take];omega
   have e5:[z1].length*(9+m/8 % 5).toNat<=13:=Nat.le_trans (Nat.mul_le_mul (show [z1].length<=1 from Nat.le_refl 1) (show(9+m/8 % 5).toNat<=13 by omega)) (by decide)
   refine⟨_,cR rfl ((aE s1).trans ((aE (bG c1')).trans ((aE s2).trans (cO ((cP c3').trans ((aE s3).trans ((aE s4).trans (bQ (tH (tH u1 u3 (by omega)) u2 (by rw [List.length_append];omega)))))))))),by rw [List.length_append,List.length_append];omega,((zx7 (fun t ht=>by rw [List.mem_singleton.mp ht];exact p1) _).app (hpt.take _)).app (zx7 p2 _)⟩
  ·have c3':fB (f2 dEq (f2 cW (aA 1) (fC (.int 8))) (fC (.int 3))) [some (.con xs),some (.int m),some (.lst true (aS (toksR r))),none,none]=some false:=by simp! [dZ,fR,bO,bW,gU,c3]
   exact⟨(toksR r).map bE,cR rfl ((aE s1).trans ((aE (bG c1')).trans ((aE s2).trans ((aE (bG c3')).trans rfl)))),by rw [List.length_map];omega,hpt⟩
theorem ze1:∀ys:List Str,D.strs (aM ys)=some ys
 |[]=>rfl
 |y::ys=>by
  show D.strs (.str y::aM ys)=_
  rw [D.strs,ze1 ys];rfl
theorem yx4:∀us:List Str,eU us->(us.map (·.length)).sum<=20*us.length
 |[],_=>Nat.le_refl _
 |t::ts,h=>by
  have ih:=yx4 ts fun t' ht=>h t' (List.mem_cons_of_mem _ ht)
  have h1:=(h t List.mem_cons_self).len
  show t.length+(ts.map (·.length)).sum<=20*(ts.length+1)
  omega
theorem yh0{o:Bool}{us:List Str}(h:eU us)(hl:us.length<=1000):sR (.str " ") [.lst o (aM us)]=some (.str (Txt.join " " us)):=by
 have h1:=yx4 us h
 rw [sR,ze1,Option.bind_some]
 exact if_pos ⟨by decide+kernel,by omega⟩
theorem zx8:∀us:List Str,eU us->(Str.join ⟨#[32]⟩ us).length<=21*us.length/\∀d∈(Str.join ⟨#[32]⟩ us).cps.toList,d<128
 |[],_=>⟨Nat.le_refl _,fun d hd=>absurd hd (by simp [Str.join,Str.empty])⟩
 |[y],h=>by
  obtain⟨a,b⟩:=h y List.mem_cons_self
  exact⟨by show y.length<=21*1;omega,(jM y).mp a⟩
 | y::y2::r,h=>by
  obtain⟨i1,i2⟩:=zx8 (y2::r) fun t ht=>h t (List.mem_cons_of_mem _ ht)
  obtain⟨a,b⟩:=h y List.mem_cons_self
  have e:(Str.join ⟨#[32]⟩ (y::y2::r)).length=y.length+1+(Str.join ⟨#[32]⟩ (y2::r)).length:=by
   show((y++⟨#[32]⟩)++Str.join ⟨#[32]⟩ (y2::r)).length=_
   rw [bZ,bZ];rfl
  refine⟨by rw [e,List.length_cons];omega,fun d hd=> ?_⟩
  rw [zv0] at hd
  rcases List.mem_append.mp hd with hd|hd
  ·exact(jM y).mp a d hd
  ·rcases List.mem_cons.mp hd with rfl|hd
   ·decide
   ·exact i2 d hd
theorem xe8{us:List Str}(h:eU us)(hl:us.length<=213):(Txt.join " " us).cps.all (·<128)=true/\(Txt.join " " us).length<=4473:=by
 obtain⟨a,b⟩:=zx8 us h
 have e:Txt.join " " us=Str.join ⟨#[32]⟩ us:=by rw [zO];exact StrLaws.glued_eq_join ⟨#[32]⟩ us
 rw [e]
 exact⟨(jM _).mpr b,by omega⟩
theorem yx5{z:Str}{i:Int}(h:z.cps.all (·<128)=true)(hz:z.length<=1000)(h0:0<=i)(h1:i<z.length):∃c:Nat,dIx (.str z) (.int i)=some (.str ⟨#[c]⟩)/\c<128:=by
 obtain⟨c,hc,e⟩:=pA z.cps.toList i h0 (by rw [show z.cps.toList.length=z.length from rfl];exact h1)
 refine⟨c,?_,(jM z).mp h c hc⟩
 rw [dIx,if_pos (sz hz),e];rfl
abbrev yQ:tz6:=gP 1 1 zn2
def sgA:Str:=" !\"#$&'()*+,-./0123456789:;<=>?\x40ABCDEFGHIJKLMNOPQRSTUVWXYZ[\\]^_`"
def sgB:Str:="abcdefghijklmnopqrstuvwxyz{|}~\n"
theorem xw7:(sgA++sgB).cps.all (·<128)=true/\(sgA++sgB).length<=1000/\0<(sgA++sgB).length:=by decide+kernel
theorem yx6{m:Int}(hm:0<=m):∃c:Nat,yQ [.int m]=some (.str ⟨#[c]⟩)/\c<128:=by
 obtain⟨g1,g2,g3⟩:=xw7
 have hs:(sgA++sgB).length<=sizeLine:=sz g2
 have hs2:sgA.length+sgB.length<=sizeLine:=by rw [<-bZ];exact hs
 have s1:bF 1 (aJ (fC (.str " !\"#$&'()*+,-./0123456789:;<=>?\x40ABCDEFGHIJKLMNOPQRSTUVWXYZ[\\]^_`"))) [some (.int m),none]=some (.nx,[some (.int m),some (.str sgA)]):=cC rfl
 have s2:bF 1 (aJ (f2 aZ (aA 1) (fC (.str "abcdefghijklmnopqrstuvwxyz{|}~\n")))) [some (.int m),some (.str sgA)]=some (.nx,[some (.int m),some (.str (sgA++sgB))]):=cC (aT (x:= .str sgA) (y:= .str sgB) rfl rfl (by rw [aZ,if_pos hs2]))
 have c3:fB (f2 dEq (f2 cW (aA 0) (fC (.int 3))) (fC (.int 0))) [some (.int m),some (.str (sgA++sgB))]=some (decide (m % 3=0)):=eA (aT (x:= .int (m % 3)) (y:= .int 0) (aT (x:= .int m) (y:= .int 3) rfl rfl (by rw [bO];rfl)) rfl rfl)
 have d3:f2 eP (aA 0) (fC (.int 3)) [some (.int m),some (.str (sgA++sgB))]=some (.int (m/3)):=aT (x:= .int m) (y:= .int 3) rfl rfl (by rw [bW];rfl)
 by_cases h:m % 3=0
 ·obtain⟨c,e,hc⟩:=yx5 (z:=" '0\x40") (i:=m/3 % 4) (by decide+kernel) (by decide+kernel) (Int.emod_nonneg _ (by decide)) (Int.emod_lt_of_pos _ (by decide))
  exact⟨c,cR rfl ((aE s1).trans ((aE s2).trans (cO ((cP (c3.trans (by rw [decide_eq_true h]))).trans (bQ (aT (x:= .str " '0\x40") (y:= .int (m/3 % 4)) rfl (aT d3 rfl (by rw [bO];rfl)) e)))))),hc⟩
 ·obtain⟨c,e,hc⟩:=yx5 (z:=sgA++sgB) (i:=m/3 % ((sgA++sgB).length:Int)) g1 g2 (Int.emod_nonneg _ (by omega)) (Int.emod_lt_of_pos _ (by omega))
  refine⟨c,cR rfl ((aE s1).trans ((aE s2).trans ((aE (bG (c3.trans (by rw [decide_eq_false h])))).trans (bQ ?_)))),hc⟩
  have ln:aG bU (aB (aA 1) aD) [some (.int m),some (.str (sgA++sgB))]=some (.int (sgA++sgB).length):=aU (ds:=[.str (sgA++sgB)]) rfl (by rw [bU,if_pos hs])
  unfold dI
  rw [aT (x:= .str (sgA++sgB)) (y:= .int (m/3 % ((sgA++sgB).length:Int))) rfl (aT d3 ln (by rw [bO,if_pos (by omega)])) e]
  rfl
theorem xw8(m:Int):∃c:Nat,atI [D.int 0,.int 1,.int 1,.int 2,.int 3] (m % 5)=some (.int c)/\c<=3:=by
 have h0:0<=m % 5:=Int.emod_nonneg _ (by decide)
 have h1:m % 5<5:=Int.emod_lt_of_pos _ (by decide)
 rcases(show m % 5=0\/m % 5=1\/m % 5=2\/m % 5=3\/m % 5=4 by omega) with h|h|h|h|h<;>rw [h]
 ·exact⟨0,rfl,by decide⟩
 ·exact⟨1,rfl,by decide⟩
 ·exact⟨1,rfl,by decide⟩
 ·exact⟨2,rfl,by decide⟩
 ·exact⟨3,rfl,by decide⟩
abbrev zp4(GM:tz6):tz1:=bF 1 (aJ (aG wE (aB (aA 1) (aB (aG GM (aB (aA 0) (aB (f2 aZ (fC (.int 3)) (aA 2)) (aB (fC (.int 44)) aD)))) aD))))
theorem ze2{GM:tz6}{xs:List D}(hM:∀k s:Int,0<=k->k<1000->0<=s->s<1000->∃m,GM [.con xs,.int k,.int s]=some (.int m)/\0<=m):∀(l:List Int),(∀j∈l,0<=j/\j<100)->∀(ts:List Str) (x2:Option D),ts.length+l.length<=900->eU ts->
  ∃us y2,dJ 2 (zp4 GM) (l.map .int) [some (.con xs),some (.lst true (aM ts)),x2,none,none,none,none,none]=some (.nx,[some (.con xs),some (.lst true (aM us)),y2,none,none,none,none,none])/\us.length<=ts.length+l.length/\eU us
 |[],_,ts,x2,_,hk=>⟨ts,x2,rfl,Nat.le_refl _,hk⟩
 |j::l,hj,ts,x2,hl,hk=>by
  rw [List.length_cons] at hl
  obtain⟨j0,j1⟩:=hj j List.mem_cons_self
  obtain⟨m,hm,hm0⟩:=hM (3+j) 44 (by omega) (by omega) (by decide) (by decide)
  obtain⟨us,q,ul,uk⟩:=yn1 (o:=true) (ts:=ts) hm0 (by omega) hk
  obtain⟨vs,y2,q2,vl,vk⟩:=ze2 hM l (fun i hi=>hj i (List.mem_cons_of_mem _ hi)) us (some (.int j)) (by omega) uk
  refine⟨vs,y2,?_,by rw [List.length_cons];omega,vk⟩
  have s1:zp4 GM [some (.con xs),some (.lst true (aM ts)),some (.int j),none,none,none,none,none]=some (.nx,[some (.con xs),some (.lst true (aM us)),some (.int j),none,none,none,none,none]):=cC (aU (ds:=[.lst true (aM ts),.int m]) (aO rfl (aO (aU (ds:=[.con xs,.int (3+j),.int 44]) rfl hm) rfl)) q)
  rw [List.map_cons,dJ]
  show(zp4 GM [some (.con xs),some (.lst true (aM ts)),some (.int j),none,none,none,none,none]).bind _=_
  rw [s1,Option.bind_some]
  exact q2
theorem zi4{p:PSt}{x:Str}{lo hi:Option Int}{fl fh:PSt->Option (Option Int)}(hp:aA 3 p=some (.str x))(h1:fl p=some lo)(h2:fh p=some hi)(hx:x.cps.all (·<128)=true)(hl:x.length<=4473):∃y:Str,fSl (aA 3) fl fh p=some (.str y)/\y.cps.all (·<128)=true/\y.length<=4473:=by
 refine⟨Txt.slice x lo hi,?_,(jM _).mpr fun d hd=>(jM x).mp hx d (L2.yr6 x lo hi d hd),Nat.le_trans (PyProof.Txt.length_slice_le x lo hi) hl⟩
 unfold fSl
 rw [hp,h1,h2]
 show(if x.length<=sizeLine then some (D.str (Txt.slice x lo hi)) else none)=_
 rw [if_pos (szB (by omega))]
theorem zx9{f g:tz2}{p:PSt}{x y:Str}(h1:f p=some (.str x))(h2:g p=some (.str y))(hx:x.cps.all (·<128)=true)(hy:y.cps.all (·<128)=true)(hl:x.length+y.length<=16777216):f2 aZ f g p=some (.str (x++y))/\(x++y).cps.all (·<128)=true/\(x++y).length=x.length+y.length:=
 ⟨aT h1 h2 (by rw [aZ,if_pos (szB hl)]),yG hx hy,bZ x y⟩
abbrev pL(xs us:List D)(y2:Option D)(x:Str)(n a:Int):PSt:=[some (.con xs),some (.lst true us),y2,some (.str x),some (.int n),some (.int a),none,none]
theorem xe9{xs us:List D}{y2:Option D}{x:Str}{n a:Int}(hn:0<=n)(hx:x.cps.all (·<128)=true)(hl:x.length<=4473):
  ∃x':Str,Low x'/\∀F:tz1,aR (fIf (aL (fB (f2 dEq (f2 cW (aA 4) (fC (.int 6))) (fC (.int 0)))))
   (bF 3 (aJ (f2 aZ (f2 aZ (fSl (aA 3) bL (bX (aA 5))) (aG yQ (aB (f2 eP (aA 4) (fC (.int 6))) aD))) (fSl (aA 3) (bX (aA 5)) bL))))
   aY)
 (aR (fIf (aL (fB (f2 dEq (f2 cW (aA 4) (fC (.int 6))) (fC (.int 1)))))
  (bF 3 (aJ (f2 aZ (fSl (aA 3) bL (bX (aA 5))) (fSl (aA 3) (bX (f2 aZ (aA 5) (fC (.int 1)))) bL))))
  aY) F) (pL xs us y2 x n a)=F (pL xs us y2 x' n a):=by
 have e6:∀(k:Int) (x:Str),fB (f2 dEq (f2 cW (aA 4) (fC (.int 6))) (fC (.int k))) (pL xs us y2 x n a)=some (decide (n % 6=k)):=fun k x=>eA (aT (x:= .int (n % 6)) (y:= .int k) (aT (x:= .int n) (y:= .int 6) rfl rfl (by rw [bO];rfl)) rfl rfl)
 have d6:f2 eP (aA 4) (fC (.int 6)) (pL xs us y2 x n a)=some (.int (n/6)):=aT (x:= .int n) (y:= .int 6) rfl rfl (by rw [bW];rfl)
 obtain⟨y1,q1,l1,g1⟩:=zi4 (p:=pL xs us y2 x n a) (fl:=bL) (fh:=bX (aA 5)) (lo:=none) (hi:=some a) rfl rfl (jN rfl) hx hl
 by_cases h0:n % 6=0
 ·obtain⟨c,qs,hc⟩:=yx6 (m:=n/6) (by omega)
  obtain⟨y3,q3,l3,g3⟩:=zi4 (p:=pL xs us y2 x n a) (fl:=bX (aA 5)) (fh:=bL) (lo:=some a) (hi:=none) rfl (jN rfl) rfl hx hl
  have lc:(⟨#[c]⟩:Str).cps.all (·<128)=true:=(jM _).mpr fun d hd=>by rw [show d=c from List.mem_singleton.mp hd];exact hc
  have lc1:(⟨#[c]⟩:Str).length=1:=rfl
  generalize (⟨#[c]⟩:Str)=sg at qs lc lc1
  obtain⟨a1,a2,a3⟩:=zx9 q1 (aU (g:=aB (f2 eP (aA 4) (fC (.int 6))) aD) (aO d6 rfl) qs) l1 lc (by omega)
  obtain⟨b1,b2,b3⟩:=zx9 a1 q3 a2 l3 (by omega)
  have hlen:((y1++sg)++y3).length<=9000:=by rw [b3,a3,lc1];omega
  refine⟨(y1++sg)++y3,⟨b2,hlen⟩,fun F=> ?_⟩
  rw [aE (p':=pL xs us y2 ((y1++sg)++y3) n a) ((cP ((e6 0 x).trans (by rw [decide_eq_true h0]))).trans (cC b1))]
  exact aE (bG ((e6 1 _).trans (by rw [decide_eq_false (by omega)])))
 ·by_cases h1:n % 6=1
  ·obtain⟨y3,q3,l3,g3⟩:=zi4 (p:=pL xs us y2 x n a) (fl:=bX (f2 aZ (aA 5) (fC (.int 1)))) (fh:=bL) (lo:=some (a+1)) (hi:=none) rfl (jN rfl) rfl hx hl
   obtain⟨b1,b2,b3⟩:=zx9 q1 q3 l1 l3 (by omega)
   have hlen:(y1++y3).length<=9000:=by rw [b3];omega
   refine⟨y1++y3,⟨b2,hlen⟩,fun F=> ?_⟩
   rw [aE (bG ((e6 0 x).trans (by rw [decide_eq_false h0])))]
   exact aE (p':=pL xs us y2 (y1++y3) n a) ((cP ((e6 1 x).trans (by rw [decide_eq_true h1]))).trans (cC b1))
  ·refine⟨x,⟨hx,by omega⟩,fun F=> ?_⟩
   rw [aE (bG ((e6 0 x).trans (by rw [decide_eq_false h0])))]
   exact aE (bG ((e6 1 x).trans (by rw [decide_eq_false h1])))
theorem zy0{h:D->tz6}{f:tz2}{g:tz3}{p:PSt}{x:Str}{ds:List D}{d:D}(h1:f p=some (.str x))(h2:g p=some ds)(h3:h (.str x) ds=some d):fMt h f g p=some d:=by
 unfold fMt
 rw [h1,Option.bind_some,h2,Option.bind_some]
 exact(if_pos rfl).trans h3
theorem yn2{GD GM GL:tz6}{xs:List D}{ts:List Str}(h0:GD [.con xs]=some (.lst true (aM ts)))(hl:ts.length<=210)(hk:eU ts)(hM:∀k s:Int,0<=k->k<1000->0<=s->s<1000->∃m,GM [.con xs,.int k,.int s]=some (.int m)/\0<=m)
  (hS:∀r,okR r->depR r<=12->(toksR r).length<=900->GL [.tup (pcsD r)]=some (.lst true (aS (toksR r)))):
  gP 1 7 (zz2 GD GM wE yQ (nV nA) zf7 GL zp2) [.con xs]=some (.bl true):=by
 obtain⟨m,hm,hm0⟩:=hM 2 43 (by decide) (by decide) (by decide) (by decide)
 obtain⟨n,hn,hn0⟩:=hM 4 45 (by decide) (by decide) (by decide) (by decide)
 obtain⟨c,hc,hc3⟩:=xw8 m
 obtain⟨us,y2,q,ul,uk⟩:=ze2 hM ((List.range c).map fun(k:Nat)=>(k:Int)) (fun j hj=>by obtain⟨k,hk,rfl⟩:=List.mem_map.mp hj;have:=List.mem_range.mp hk;omega) ts none (by rw [List.length_map,List.length_range];omega) hk
 rw [<-uB] at q
 rw [List.length_map,List.length_range] at ul
 obtain⟨t1,t2⟩:=xe8 uk (by omega)
 have hj:=yh0 (o:=true) uk (by omega)
 generalize Txt.join " " us=x at t1 t2 hj
 have s1:bF 1 (aJ (aG GD (aB (aA 0) aD))) [some (.con xs),none,none,none,none,none,none,none]=some (.nx,[some (.con xs),some (.lst true (aM ts)),none,none,none,none,none,none]):=cC (aU rfl h0)
 have er:dP (aB (f2 dIx (bI (fKs [.int 0,.int 1,.int 1,.int 2,.int 3])) (f2 cW (aG GM (aB (aA 0) (aB (fC (.int 2)) (aB (fC (.int 43)) aD)))) (fC (.int 5)))) aD) [some (.con xs),some (.lst true (aM ts)),none,none,none,none,none,none]=some (fY 0 c):=by
  have e1:aB (f2 dIx (bI (fKs [.int 0,.int 1,.int 1,.int 2,.int 3])) (f2 cW (aG GM (aB (aA 0) (aB (fC (.int 2)) (aB (fC (.int 43)) aD)))) (fC (.int 5)))) aD [some (.con xs),some (.lst true (aM ts)),none,none,none,none,none,none]=some [.int c]:=by
   refine aO (aT (x:= .lst true [.int 0,.int 1,.int 1,.int 2,.int 3]) (y:= .int (m % 5)) (eV rfl (show 5<=1000 by decide)) (aT (x:= .int m) (y:= .int 5) (aU rfl hm) rfl (by rw [bO];rfl)) hc) rfl
  unfold dP
  rw [e1,Option.bind_some,qX (by omega) (by omega)];rfl
 have s2:dS 2 (dP (aB (f2 dIx (bI (fKs [.int 0,.int 1,.int 1,.int 2,.int 3])) (f2 cW (aG GM (aB (aA 0) (aB (fC (.int 2)) (aB (fC (.int 43)) aD)))) (fC (.int 5)))) aD)) (zp4 GM) [some (.con xs),some (.lst true (aM ts)),none,none,none,none,none,none]=some (.nx,[some (.con xs),some (.lst true (aM us)),y2,none,none,none,none,none]):=by
  unfold dS;rw [er];exact q
 have s3:bF 3 (aJ (fMt sR (fC (.str " ")) (aB (aA 1) aD))) [some (.con xs),some (.lst true (aM us)),y2,none,none,none,none,none]=some (.nx,[some (.con xs),some (.lst true (aM us)),y2,some (.str x),none,none,none,none]):=cC (zy0 (x:=" ") rfl rfl hj)
 have s4:bF 4 (aJ (aG GM (aB (aA 0) (aB (fC (.int 4)) (aB (fC (.int 45)) aD))))) [some (.con xs),some (.lst true (aM us)),y2,some (.str x),none,none,none,none]=some (.nx,[some (.con xs),some (.lst true (aM us)),y2,some (.str x),some (.int n),none,none,none]):=cC (aU rfl hn)
 have s5:bF 5 (aJ (f2 cW (f2 eP (aA 4) (fC (.int 600))) (f2 aZ (aG bU (aB (aA 3) aD)) (fC (.int 1))))) [some (.con xs),some (.lst true (aM us)),y2,some (.str x),some (.int n),none,none,none]=some (.nx,pL xs (aM us) y2 x n (n/600 % ((x.length:Int)+1))):=by
  refine cC (aT (x:= .int (n/600)) (y:= .int ((x.length:Int)+1)) (aT (x:= .int n) (y:= .int 600) rfl rfl (by rw [bW];rfl)) (aT (x:= .int x.length) (y:= .int 1) (aU (ds:=[.str x]) rfl (by rw [bU,if_pos (szB (by omega))])) rfl rfl) ?_)
  rw [bO,if_pos (by omega)]
 obtain⟨x',lx,qF⟩:=xe9 (xs:=xs) (us:=aM us) (y2:=y2) (x:=x) (n:=n) (a:=n/600 % ((x.length:Int)+1)) hn0 t1 t2
 generalize n/600 % ((x.length:Int)+1)=a at s5 qF
 have s8:bF 6 (aJ (bI aD)) (pL xs (aM us) y2 x' n a)=some (.nx,[some (.con xs),some (.lst true (aM us)),y2,some (.str x'),some (.int n),some (.int a),some (.lst true []),none]):=cC (eV rfl (by simp))
 have s9:fIf (aL (fB (f2 dNe (aA 3) (fC (.str ""))))) (bF 6 (aJ (fMt pV (aA 3) (aB (fC (.str " ")) aD)))) aY [some (.con xs),some (.lst true (aM us)),y2,some (.str x'),some (.int n),some (.int a),some (.lst true []),none]=some (.nx,[some (.con xs),some (.lst true (aM us)),y2,some (.str x'),some (.int n),some (.int a),some (.lst true (aM (eT x'))),none]):=by
  have c9:fB (f2 dNe (aA 3) (fC (.str ""))) [some (.con xs),some (.lst true (aM us)),y2,some (.str x'),some (.int n),some (.int a),some (.lst true []),none]=some (!decide (x'="")):=eA (aT (x:= .str x') (y:= .str "") rfl rfl rfl)
  unfold eT
  by_cases h:x'=""
  ·rw [if_pos h]
   exact bG (c9.trans (by rw [decide_eq_true h];rfl))
  ·rw [if_neg h]
   refine(cP (c9.trans (by rw [decide_eq_false h];rfl))).trans (cC (zy0 (x:=x') rfl rfl ?_))
   rw [pV,if_pos ⟨rfl,by have:=lx.len;omega⟩];rfl
 have s10:∀k:Int,nV nA [.lst true (aM (eT x'))]=some (.int k)->bF 7 (aJ (aG (nV nA) (aB (aA 6) aD))) [some (.con xs),some (.lst true (aM us)),y2,some (.str x'),some (.int n),some (.int a),some (.lst true (aM (eT x'))),none]=some (.nx,[some (.con xs),some (.lst true (aM us)),y2,some (.str x'),some (.int n),some (.int a),some (.lst true (aM (eT x'))),some (.int k)]):=fun k hk=>cC (aU rfl hk)
 have c11:∀k:Int,fB (f2 dGt (aA 7) (fC (.int 0))) [some (.con xs),some (.lst true (aM us)),y2,some (.str x'),some (.int n),some (.int a),some (.lst true (aM (eT x'))),some (.int k)]=some (decide (0<k)):=fun k=>eA (aT (x:= .int k) (y:= .int 0) rfl rfl rfl)
 rcases wb5 lx with ⟨k,hk0,f1,f2'⟩|⟨f1,r,r1,r2,r3,r4,r5⟩
 ·refine cR rfl ((aE s1).trans ((aE s2).trans ((aE s3).trans ((aE s4).trans ((aE s5).trans ((qF _).trans ((aE s8).trans ((aE s9).trans ((aE (s10 k f1)).trans (cO ((cP ((c11 k).trans (by rw [decide_eq_true hk0]))).trans (bQ (aT (x:= .int k) (y:= .int k) (aU rfl f2') rfl ?_)))))))))))))
  show some (D.bl (decide (k=k)))=_
  rw [decide_eq_true rfl]
 ·have hjr:sR (.str " ") [.lst true (aS (toksR r))]=some (.str x'):=by
   rw [<-r5]
   exact yh0 (zS (tk_okR r r2)) (by rw [List.length_map];omega)
  refine cR rfl ((aE s1).trans ((aE s2).trans ((aE s3).trans ((aE s4).trans ((aE s5).trans ((qF _).trans ((aE s8).trans ((aE s9).trans ((aE (s10 0 f1)).trans ((aE (bG ((c11 0).trans (by rw [decide_eq_false (by decide)])))).trans (bQ (aT (x:= .str x') (y:= .str x') (zy0 (x:=" ") rfl (aO (aU (aO (aU rfl r1) rfl) (hS r r2 r3 (by omega))) rfl) hjr) rfl ?_))))))))))))
  show some (D.bl (decide (x'=x')))=_
  rw [decide_eq_true rfl]
theorem yn3{GM:tz6}{xs:List D}(hx:xs.length<=63)(hM:∀k s:Int,0<=k->k<1000->0<=s->s<1000->∃m,GM [.con xs,.int k,.int s]=some (.int m)/\0<=m):
  gP 1 7 (zz2 (xj4 GM (oW 50) zf2 (xg1 GM zf2)) GM wE yQ (nV nA) zf7 (oW 50) zp2) [.con xs]=some (.bl true):=by
 have hS:∀r,okR r->depR r<=12->(toksR r).length<=900->oW 50 [.tup (pcsD r)]=some (.lst true (aS (toksR r))):=fun r h1 h2 h3=>yg1 50 r h1 (by omega) h3
 obtain⟨zs,q,h1,h2⟩:=xp3 (GLs:=oW 50) (GL:=zf2) (GR:=xg1 GM zf2) (fun m hm=>ye8 hm) hM (fun many h=>xv5 (a:=0) (nest:=3) (fun m hm=>ye8 hm) (fun j s hj hs=>hM j s (by omega) (by omega) (by omega) (by omega)) (by omega) (by omega) (by omega)) hS
 exact yn2 q h1 h2 hM hS
end My
namespace My
open PySem PySem.Spec PyProof.Rows L2 L3
variable{P:Program}{w:World}{K:tz0}{mg:tzA}{base:Heap}{κ:tz9}
abbrev zz7:List D->Option (List Int):=D.ints
theorem ze3:∀ns:List Int,zz7 (ns.map .int)=some ns
 |[]=>rfl
 |n::ns=>by show(D.ints (ns.map .int)).map (n::·)=_;rw [show D.ints (ns.map .int)=some ns from ze3 ns];rfl
def xg5:tz6
 |[.con xs,.int k,.int s]=>match zz7 xs with
  |some ns=>if ns.length<=63/\(0<=k/\k<1000000)/\(0<=s/\s<1000000) then some (.int (vW ns k s)) else none
  |none=>none
 |_=>none
theorem xf0{ns:List Int}(h:ns.length<=63)(k s:Int)(hk:0<=k)(hk1:k<1000)(hs:0<=s)(hs1:s<1000):∃m,xg5 [.con (ns.map .int),.int k,.int s]=some (.int m)/\0<=m:=by
 refine⟨vW ns k s,?_,(ya7 ns k s).1⟩
 show(match zz7 (ns.map .int) with|some ns=>if ns.length<=63/\(0<=k/\k<1000000)/\(0<=s/\s<1000000) then some (D.int (vW ns k s)) else none|none=>none)=_
 rw [ze3]
 exact if_pos ⟨h,⟨hk,by omega⟩,hs,by omega⟩
theorem we2{k:Nat}{f:Addr}{fd:FuncData}{ps:List Str}(F:FnOk P w K mg base CX0 k f fd ps (yh1 K)):FnOk P w K mg base CX0 k f fd ps (SpP 3 K κ xg5):=by
 refine F.imp fun vs H Q E ⟨_,ds,fp,d,r,e,q⟩=> ?_
 unfold xg5 at e
 split at e
 ·rename_i xs k s
  split at e
  ·rename_i ns hns
   obtain⟨hc,e⟩:=bV e
   cases e
   obtain⟨v1,us,f,g,rfl,r1,r2,rfl⟩:=r.split
   obtain⟨v2,us2,f2,g2,rfl,r3,r4,rfl⟩:=r2.split
   obtain⟨v3,rfl,r5⟩:=r4.one_inv
   rw [r3.is_int,r5.is_int]
   obtain⟨a,vs,rfl,hS,hs⟩:=r1.con_inv
   rw [yc9 hs hns] at hS
   exact⟨a,ns,k,s,rfl,hS.l,hc.1,hc.2.1,hc.2.2,q _ H [] (SameK.refl H) (fun _ ha=>absurd ha (by simp)) List.nodup_nil (.int _)⟩
  ·cases e
 ·cases e
def zp5(K:tz0):Sp:=fun vs H Q _=>∃(a:Addr) (ns:List Int),vs=[.ref a]/\SqF K H a (ns.map V.int)/\ns.length<=63/\∀H',Q (.bl true) H'
theorem zn0{H:Hp}:∀ns:List Int,Reps K κ H (ns.map V.int) (ns.map .int) []
 |[]=> .nil
 |n::ns=> .cons (f:=[]) (g:=[]) (.int n) (zn0 ns)
theorem we3{k:Nat}{f:Addr}{fd:FuncData}{ps:List Str}{g:tz6}(F:FnOk P w K mg base CX0 k f fd ps (SpP 1 K κ g))(h:∀ns:List Int,ns.length<=63->g [.con (ns.map .int)]=some (.bl true)):FnOk P w K mg base CX0 k f fd ps (zp5 K):=
 F.imp fun vs H Q E ⟨a,ns,e,hS,hl,q⟩=>e▸⟨rfl,[.con (ns.map .int)],[],.bl true,.cons (f:=[]) (g:=[]) (.con hS (zn0 ns)) .nil,h ns hl,fun v H' fv _ _ _ r=>by cases r;exact q H'⟩
def Cur:Nat->(List Value->Prop)->Prop
 |0,P=>P []
 |n+1,P=>∀a,Cur n fun us=>P (a::us)
theorem yH{n:Nat}:∀{P:List Value->Prop},Cur n P->∀us:List Value,us.length=n->P us:=by
 induction n with
 |zero=>intro P h us hl;cases List.eq_nil_of_length_eq_zero hl;exact h
 |succ n ih=>
  intro P h us hl
  cases us with
  |nil=>cases hl
  |cons a us=>exact ih (h a) us (Nat.succ.inj hl)
structure FzT(K:tz0)(x:Str)(st:Stmt)(f:Addr)(fd:FuncData):Prop where
 a:PySem.W.nsIn K mainGlobals x=some (some (.ref f))
 F:Fun K x x st f fd
structure MzT(K:tz0)(C:Addr)(m q:Str)(st:Stmt)(f:Addr)(fd:FuncData):Prop where
 i:PySem.W.findIn K (.ref C) m=some (some (.ref f))
 s:PySem.W.isFn K (.ref f)=true
 F:Fun K m q st f fd
structure CzT(K:tz0)(x:Str)(C:Addr):Prop where
 a:PySem.W.nsIn K mainGlobals x=some (some (.ref C))
 g:PySem.W.plainGet K C Str.empty=true
 d:PySem.W.hasDictIn K C=true
 o:PySem.W.plainOver K C=true
 s:PySem.W.findIn K (.ref C) "__setattr__"=some (some (.builtin "object.__setattr__"))
 m:PySem.W.makesIn K C=true
 k:PySem.W.keepIn K (.ref C)=true
abbrev IzT(K:tz0)(x:Str)(i:Int):Prop:=∃v,PySem.W.nsIn K mainGlobals x=some (some v)/\∃t,v= .int i t
abbrev SzT(K:tz0)(x y:Str):Prop:=∃v,PySem.W.nsIn K mainGlobals x=some (some v)/\∃t,v= .str y t
theorem wb7{x:Str}{v:Value}{p:Value->Prop}(h:PySem.W.nsIn K mainGlobals x=some (some v))(h2:p v):∃v,PySem.W.nsIn K mainGlobals x=some (some v)/\p v:=⟨v,h,h2⟩
abbrev BiT(x q:Str)(st:Stmt)(ps:List Str):Prop:=∀(kV doc pm:Value) (an:Option Addr) (cdv ct:Value) (us:List Value),us.length=ps.length->bindArgs (PySem.W.fnOf x q (uG st) (jO st) (aW st) .none kV doc pm an cdv ct) ⟨us,[]⟩=pure (ps.zip us)
theorem jB{N ps:List Str}{h:Heap}{x:Str}{st:Stmt}{f:Addr}{fd:FuncData}(_:FnScope N ps (aW st))(X:K.In h)(G:h.Ns mainGlobals mg)(a:FzT K x st f fd)(hb:BiT x x st ps:=by exact fun _ _ _ _ _ _=>yH (by(repeat intro _);exact rfl)):Dn K mg x st ps f fd:=
 ⟨a.F,a.F.binds hb,PySem.W.mg_of X G a.a⟩
theorem yn4{x:Str}{C:Addr}(e:κ x=C)(c:CzT K x C):Cls K (κ x):=by rw [e];exact⟨c.g,c.d,c.o,c.s⟩
theorem zy1{x y:Str}{C:Addr}(e:κ x=C)(h:PySem.W.findIn K (.ref C) y=some none):cY K (κ x) y:=by rw [e];exact h
theorem zT{N ps:List Str}{x m q:Str}{C:Addr}{st:Stmt}{f:Addr}{fd:FuncData}(_:FnScope N ps (aW st))(e:κ x=C)(c:CzT K x C)(a:MzT K C m q st f fd)(hb:BiT m q st ps:=by exact fun _ _ _ _ _ _=>yH (by(repeat intro _);exact rfl)):Mn K κ x m q st ps f fd:=
 ⟨a.F,a.F.binds hb,yn4 e c,by rw [e];exact⟨a.i,a.s,a.F.kp⟩⟩
theorem xw9{N ps:List Str}{h:Heap}{x q:Str}{C:Addr}{st:Stmt}{f:Addr}{fd:FuncData}(_:FnScope N ps (aW st))(X:K.In h)(G:h.Ns mainGlobals mg)(e:κ x=C)(c:CzT K x C)(a:MzT K C "__init__" q st f fd)(hb:BiT "__init__" q st ps:=by exact fun _ _ _ _ _ _=>yH (by(repeat intro _);exact rfl)):Kn K mg κ x q st ps f fd:=
 ⟨a.F,a.F.binds hb,by rw [e];exact⟨c.m,a.i,a.s,c.k⟩,by rw [e];exact PySem.W.mg_of X G c.a⟩
theorem _root_.L2.FnOk.up{CX:CXT}{k k':Nat}{f:Addr}{fd:FuncData}{ps:List Str}{sp:Sp}(h:FnOk P w K mg base CX k f fd ps sp)(hk:k<=k':=by decide):FnOk P w K mg base CX k' f fd ps sp:=h.mono hk
theorem we4{l:PySem.W.OpenLaw}{q:Program}{loose:List Str}{XP:(tzA)->Heap->Prop}{YP:World->Heap->Prop}{d:DefRec}{K:Params->tz0}{lev:Nat}(hn:l.most=some 63)(hdf:d.params.defaults=[])(hr:Room lev callerA)
  (hY:∀(w:World) (h:Heap),YP w h->(K w.params).In h)
  (F:∀(w:World) (mg:tzA) (fa:Addr) (h:Heap),(K w.params).In h->h.Ns mainGlobals mg->mg d.name=some (.ref fa)->
   ∃fd:FuncData,(∀(s:Shared) (u:Value),BindsTo s fd ⟨[u],[]⟩ [("_law_script",u)])/\∀base:Heap,(K w.params).In base->base.Ns mainGlobals mg->FnOk l.prog w (K w.params) mg base CX0 lev fa fd ["_law_script"] (zp5 (K w.params))):
  PySem.W.WalkO q loose XP YP l.row.toRowW d [] (fun f vs=>PySem.call f vs):=
 L2.xk5 (n:=63) (k:=lev) (x:="_law_script") (CX:=fun _=>CX0) (sp:=fun w=>zp5 (K w.params)) hn (by decide) hdf hr hY F (fun _ H a ns hl hO hS=>⟨a,ns,rfl,by
  rcases hS with (h|h)|h
  ·rcases hO a with z|⟨o,xs,z⟩<;>rw [h] at z<;>cases z
  ·exact .inl h
  ·exact .inr h,hl,fun _=>rfl⟩) fun _ _ _ _ _ z=>z
end My
namespace My
open PySem PySem.Spec PyProof.Rows L2 L3
theorem xx0{l:PySem.W.OpenLaw}{w:World}{K:tz0}{h:Heap}{mg:tzA}{fa:Addr}(X:K.In h)(G:h.Ns mainGlobals mg)(hfa:mg "law"=some (.ref fa))
  (nt:FzT K "is_word" mD la kh)
  (k9:FzT K "number_token" jF jb i5)
  (m6:FzT K "token_of" kX gd ej)
  (m7:FzT K "parts_of" kY gf et)
  (lw:FzT K "add_written" gK ck ce)
  (p8:FzT K "read" nQ j7 jf)
  (nu:FzT K "_law_cell_at" oR sv sd)
  (pq:FzT K "_law_mixed" mW f8 dw)
  (p9:FzT K "_law_word" sT m9 mr)
  (qa:FzT K "_law_leaf" pX jy je)
  (qc:FzT K "_law_shut" sU na mv)
  (qx:FzT K "_law_row" vX pe ng)
  (oq:FzT K "_law_listed" nH i7 ij)
  (qd:FzT K "_law_list" qA no my)
  (qe:FzT K "_law_sign" sV nq mz)
  (nv:FzT K "_law_changed" oU lb km)
  (qf:FzT K "_law_upto" sW ni mw)
  (qg:FzT K "_law_sort" qE nj mx)
  (mo:FzT K "_law_first_bad" mY kg js)
  (qy:FzT K "_law_bad" vZ ph nr)
  (ny:FzT K "law" zz3 vt se)
  (z0:PySem.W.nsIn K mainGlobals "all"=some none)
  (z1:PySem.W.nsIn K mainGlobals "isinstance"=some none)
  (z2:PySem.W.nsIn K mainGlobals "str"=some none)
  (z3:PySem.W.nsIn K mainGlobals "len"=some none)
  (z4:PySem.W.nsIn K mainGlobals "range"=some none)
  (z5:PySem.W.nsIn K mainGlobals "max"=some none)
  (z6:PySem.W.nsIn K mainGlobals "tuple"=some none)
  (z7:PySem.W.nsIn K mainGlobals "int"=some none)
  (z8:PySem.W.nsIn K mainGlobals "min"=some none)
  (z9:PySem.W.nsIn K mainGlobals "list"=some none)
  (z10:PySem.W.nsIn K mainGlobals "reversed"=some none)
  (z11:PySem.W.nsIn K mainGlobals "bool"=some none)
  (z12:PySem.W.nsIn K mainGlobals "ValueError"=some none)
  (g0:IzT K "LONGEST_WORD" 12)
  (g1:IzT K "FURTHEST_STOP" 40)
  (g2:IzT K "WIDEST_HANG" 12)
  (g3:IzT K "FEWEST_ROWS" 2)
  (g4:IzT K "MOST_ROWS" 4)
  (g5:IzT K "DEEPEST" 12)
  (g6:IzT K "MOST_TOKENS" 200)
  (g7:PySem.W.nsIn K mainGlobals "OPENERS"=some (some (.ref b8)))
  (pr:K.lookup b8=some ⟨.type "tuple",sw,.seq #[.str "open" sx,.str "hang" sy,.str "either" tj] tm,tq⟩)
  (g8:PySem.W.nsIn K mainGlobals "OPENER_OF"=some (some (.ref bh)))
  (nz:K.lookup bh=some ⟨.type "dict",none,.dict kr n6,#[]⟩)
  (kt:kr= #[⟨hashStr w "close",.str "close" sf,.str "open" n8⟩,⟨hashStr w "back",.str "back" si,.str "hang" oa⟩,⟨hashStr w "or",.str "or" sj,.str "either" og⟩,⟨hashStr w "done",.str "done" sk,.str "either" oh⟩])
  (oi:(bh==sysModules)=false)
  (g9:PySem.W.nsIn K mainGlobals "SIGNS"=some (some (.ref jr)))
  (qz:K.lookup jr=some ⟨.type "dict",none,.dict oj re,#[]⟩)
  (om:oj= #[⟨hashStr w "_",.str "_" vg,.ref ly⟩,⟨hashStr w ".",.str "." vh,.ref lz⟩,⟨hashStr w "/",.str "/" vi,.ref l0⟩,⟨hashStr w "[",.str "[" vj,.ref l4⟩,⟨hashStr w "]",.str "]" vm,.ref l5⟩,⟨hashStr w "<",.str "<" vn,.ref l6⟩,⟨hashStr w "{",.str "{" vo,.ref l7⟩,⟨hashStr w "|",.str "|" vp,.ref l9⟩,⟨hashStr w "}",.str "}" vq,.ref ma⟩])
  (rf:(jr==sysModules)=false)
  (qh:K.lookup ly=some ⟨.type "tuple",uf,.seq #[.str "gap" tu,.str " " tw] ug,uh⟩)
  (qi:K.lookup lz=some ⟨.type "tuple",ui,.seq #[.str "gap" tz,.str "" t5] uj,um⟩)
  (qj:K.lookup l0=some ⟨.type "tuple",uo,.seq #[.str "end" t6] uq,ur⟩)
  (qk:K.lookup l4=some ⟨.type "tuple",ut,.seq #[.str "open" t7] uu,uv⟩)
  (ql:K.lookup l5=some ⟨.type "tuple",uw,.seq #[.str "close" t8] ux,uy⟩)
  (qm:K.lookup l6=some ⟨.type "tuple",uz,.seq #[.str "back" t9] u0,u4⟩)
  (qo:K.lookup l7=some ⟨.type "tuple",u5,.seq #[.str "either" ua] u7,u9⟩)
  (qp:K.lookup l9=some ⟨.type "tuple",va,.seq #[.str "or" ub] vb,vc⟩)
  (qq:K.lookup ma=some ⟨.type "tuple",vd,.seq #[.str "done" uc] ve,vf⟩)
  (g10:SzT K "WORD_SIGN" "'")
  (g11:SzT K "STOP_SIGN" "\x40")
  (g12:SzT K "HANG_SIGN" ">")
  (ju:CzT K "Nest" gm)
  (on:MzT K gm "__init__" "Nest.__init__" mH ik gi)
  (me:MzT K gm "end_row" "Nest.end_row" lK jt jg)
  (ku:MzT K gm "can_end_by" "Nest.can_end_by" iX i6 il)
  (md:MzT K gm "as_piece" "Nest.as_piece" kQ jh jd)
  (qt:PySem.W.findIn K (.ref gm) "opener"=some none)
  (rg:PySem.W.findIn K (.ref gm) "ended"=some none)
  (qu:PySem.W.findIn K (.ref gm) "pieces"=some none)
  (d8:CzT K "Builder" cm)
  (mf:MzT K cm "__init__" "Builder.__init__" st_Builder_init dv dr)
  (ka:MzT K cm "can_stand" "Builder.can_stand" gC cg b6)
  (mq:MzT K cm "add" "Builder.add" st_Builder_add eo du)
  (jv:MzT K cm "row_so_far" "Builder.row_so_far" gW gl f9)
  (kc:MzT K cm "whole_row" "Builder.whole_row" st_Builder_whole_row cf b5)
  (rh:PySem.W.findIn K (.ref cm) "taken"=some none)
  (rj:PySem.W.findIn K (.ref cm) "nests"=some none)
  (pw:PySem.W.nsIn K mainGlobals "NoPiece"=some (some (.ref aa)))
  (gn:MzT K aa "__init__" "NoPiece.__init__" sX ic rm)
  (ke:zf0 K aa ic=true)
  (pz:PySem.W.findIn K (.ref aa) "__setattr__"=some (some (.builtin "object.__setattr__")))
  (mh:PySem.W.findIn K (.ref aa) "at"=some none)
  (dt:PySem.W.mroIn K aa (.ref aa)=some true)
  (ot:PySem.W.findIn K (.ref aa) "__getattribute__"=some (some (.builtin "BaseException.__getattribute__")))
  (ou:PySem.W.findIn K (.ref aa) "__getattr__"=some none)
  (oy:PySem.W.mroIn K aa (.type "BaseException")=some true)
  (oz:PySem.W.findIn K (.ref aa) "__class__"=some (some (.builtin "object.__class__")))
  (o4:PySem.W.specialIn K (.builtin "object.__class__") "__get__"=some (some (.builtin "getset_descriptor.__get__")))
  (o5:PySem.W.takesIn K (.builtin "object.__class__")=some true)
  (o6:PySem.W.mroIn K aa (.type "object")=some true)
  (o7:PySem.W.nsIn K mainGlobals "NoChoice"=some (some (.ref i8)))
  (qv:PySem.W.nsIn K mainGlobals "NoRoom"=some (some (.ref j9)))
  (b0:PySem.W.kitAny K (.ref aa) [.ref i8,.ref j9]=some false)
  (kx:PySem.W.nsIn K mainGlobals "LineError"=some (some (.ref cr)))
  (de:PySem.W.kitOne K (.ref aa) (.ref cr)=some true)
  (cz:PySem.W.kitOne K (.ref aa) (.type "ValueError")=some true)
  (o8:PySem.W.specialIn K (.ref cr) "__getattribute__"=some (some (.builtin "type.__getattribute__")))
  (o9:PySem.W.readsIn K cr (.type "type")=true)
  (pd:PySem.W.findCls K (.ref cr) (.type "type") "__init__"=some (.val (.builtin "ValueError.__init__")))
  :∃fd:FuncData,(∀(s:Shared) (v:Value),BindsTo s fd ⟨[v],[]⟩ [("_law_script",v)])/\∀base:Heap,K.In base->base.Ns mainGlobals mg->FnOk l.prog w K mg base CX0 52 fa fd ["_law_script"] (zp5 K):=by
 have e:=hfa.symm.trans (PySem.W.mg_of X G ny.a)
 cases e
 have di:=jB wY X G nt
 have bj:=jB nC X G k9
 have bo:=jB wK X G m6
 have bf:=jB wL X G m7
 have ag:=jB iD X G lw
 have bz:=jB kB X G p8
 have ie:=jB wX X G nu
 have bb:=jB kH X G pq
 have gv:=jB kC X G p9
 have dc:=jB sJ X G qa
 have fj:=jB gR X G qc
 have i9:=jB lT X G qx
 have ay:=jB hX X G oq
 have gx:=jB nO X G qd
 have gy:=jB sK X G qe
 have dj:=jB iE X G nv
 have f7:=jB wZ X G qf
 have gz:=jB zl2 X G qg
 have ci:=jB jK X G mo
 have ja:=jB vC X G qy
 have pj:=jB jL X G ny
 obtain⟨κ,hκ⟩:∃κ,κ=(kap [("Nest",gm),("Builder",cm)]):=⟨_,rfl⟩
 have gb:κ "Nest"=gm:=by rw [hκ];simp [kap,uA]
 have ah:=yn4 gb ju
 have gh:=xw9 xA X G gb ju on
 have ca:=zT sL gb ju me
 have bu:=zT lU gb ju ku
 have bx:=zT kJ gb ju md
 have b7:=zy1 gb qt
 have b4:=zy1 gb rg
 have al:=zy1 gb qu
 have cq:κ "Builder"=cm:=by rw [hκ];simp [kap,uA]
 have ac:=yn4 cq d8
 have cj:=xw9 sM X G cq d8 mf
 have aj:=zT oG cq d8 ka
 have am:=zT iA cq d8 mq
 have az:=zT nP cq d8 jv
 have af:=zT kK cq d8 kc
 have ao:=zy1 cq rh
 have ai:=zy1 cq rj
 have kz:=PySem.W.mg_none_of X G z0
 have bd:=PySem.W.mg_none_of X G z1
 have ig:=PySem.W.mg_none_of X G z2
 have ae:=PySem.W.mg_none_of X G z3
 have aq:=PySem.W.mg_none_of X G z4
 have ky:=PySem.W.mg_none_of X G z5
 have ar:=PySem.W.mg_none_of X G z6
 have ii:=PySem.W.mg_none_of X G z7
 have pi:=PySem.W.mg_none_of X G z8
 have nh:=PySem.W.mg_none_of X G z9
 have jz:=PySem.W.mg_none_of X G z10
 have nk:=PySem.W.mg_none_of X G z11
 have jc:=PySem.W.mg_none_of X G z12
 obtain⟨_,g0,_,rfl⟩:=g0
 have gq:=PySem.W.mg_of X G g0
 obtain⟨_,g1,_,rfl⟩:=g1
 have gc:=PySem.W.mg_of X G g1
 obtain⟨_,g2,_,rfl⟩:=g2
 have iq:=PySem.W.mg_of X G g2
 obtain⟨_,g3,_,rfl⟩:=g3
 have iz:=PySem.W.mg_of X G g3
 obtain⟨_,g4,_,rfl⟩:=g4
 have jq:=PySem.W.mg_of X G g4
 obtain⟨_,g5,_,rfl⟩:=g5
 have kn:=PySem.W.mg_of X G g5
 obtain⟨_,g6,_,rfl⟩:=g6
 have i4:=PySem.W.mg_of X G g6
 have c5:=PySem.W.mg_of X G g7
 have c6:∀H,Rep K κ H (.ref b8) (.tup [(.str "open"),(.str "hang"),(.str "either")]) []:=fun H=>jA (ys:=[("open",_),("hang",_),("either",_)]) pr (Nat.le_of_ble_eq_true rfl) H
 have bg:=PySem.W.mg_of X G g8
 have bi:vR l.prog w K κ bh dN jT:=⟨[(.inr "close",.str "open"),(.inr "back",.str "hang"),(.inr "or",.str "either"),(.inr "done",.str "either")],⟨oi,_,kr,n6,[(.inr "close",.str "open" n8),(.inr "back",.str "hang" oa),(.inr "or",.str "either" og),(.inr "done",.str "either" oh)],nz,⟨rfl,rfl,rfl⟩,rfl,(.cons ⟨rfl,⟨_,rfl⟩⟩ (.cons ⟨rfl,⟨_,rfl⟩⟩ (.cons ⟨rfl,⟨_,rfl⟩⟩ (.cons ⟨rfl,⟨_,rfl⟩⟩ .nil)))),(by subst kt;intro e he;simp only [List.mem_toArray,List.mem_cons,List.not_mem_nil,or_false] at he;rcases he with rfl|rfl|rfl|rfl<;>exact⟨_,dO _ _ _ _,rfl⟩),(by subst kt;exact(.cons (dO _ _ _ _) rfl (.cons (dO _ _ _ _) rfl (.cons (dO _ _ _ _) rfl (.cons (dO _ _ _ _) rfl .nil))))),(show(dN:List Key).Nodup by decide+kernel)⟩,rfl,fun _=>(.cons (f:=[]) (g:=[]) (.str _) (.cons (f:=[]) (g:=[]) (.str _) (.cons (f:=[]) (g:=[]) (.str _) (.cons (f:=[]) (g:=[]) (.str _) .nil))))⟩
 have k7:=PySem.W.mg_of X G g9
 have k8:vR l.prog w K κ jr eL nM:=⟨[(.inr "_",.ref ly),(.inr ".",.ref lz),(.inr "/",.ref l0),(.inr "[",.ref l4),(.inr "]",.ref l5),(.inr "<",.ref l6),(.inr "{",.ref l7),(.inr "|",.ref l9),(.inr "}",.ref ma)],⟨rf,_,oj,re,[(.inr "_",.ref ly),(.inr ".",.ref lz),(.inr "/",.ref l0),(.inr "[",.ref l4),(.inr "]",.ref l5),(.inr "<",.ref l6),(.inr "{",.ref l7),(.inr "|",.ref l9),(.inr "}",.ref ma)],qz,⟨rfl,rfl,rfl⟩,rfl,(.cons ⟨rfl,rfl⟩ (.cons ⟨rfl,rfl⟩ (.cons ⟨rfl,rfl⟩ (.cons ⟨rfl,rfl⟩ (.cons ⟨rfl,rfl⟩ (.cons ⟨rfl,rfl⟩ (.cons ⟨rfl,rfl⟩ (.cons ⟨rfl,rfl⟩ (.cons ⟨rfl,rfl⟩ .nil))))))))),(by subst om;intro e he;simp only [List.mem_toArray,List.mem_cons,List.not_mem_nil,or_false] at he;rcases he with rfl|rfl|rfl|rfl|rfl|rfl|rfl|rfl|rfl<;>exact⟨_,dO _ _ _ _,rfl⟩),(by subst om;exact(.cons (dO _ _ _ _) rfl (.cons (dO _ _ _ _) rfl (.cons (dO _ _ _ _) rfl (.cons (dO _ _ _ _) rfl (.cons (dO _ _ _ _) rfl (.cons (dO _ _ _ _) rfl (.cons (dO _ _ _ _) rfl (.cons (dO _ _ _ _) rfl (.cons (dO _ _ _ _) rfl .nil)))))))))),(show(eL:List Key).Nodup by decide+kernel)⟩,rfl,fun _=>(.cons (f:=[]) (g:=[]) (jA (ys:=[("gap",_),(" ",_)]) qh (Nat.le_of_ble_eq_true rfl) _) (.cons (f:=[]) (g:=[]) (jA (ys:=[("gap",_),("",_)]) qi (Nat.le_of_ble_eq_true rfl) _) (.cons (f:=[]) (g:=[]) (jA (ys:=[("end",_)]) qj (Nat.le_of_ble_eq_true rfl) _) (.cons (f:=[]) (g:=[]) (jA (ys:=[("open",_)]) qk (Nat.le_of_ble_eq_true rfl) _) (.cons (f:=[]) (g:=[]) (jA (ys:=[("close",_)]) ql (Nat.le_of_ble_eq_true rfl) _) (.cons (f:=[]) (g:=[]) (jA (ys:=[("back",_)]) qm (Nat.le_of_ble_eq_true rfl) _) (.cons (f:=[]) (g:=[]) (jA (ys:=[("either",_)]) qo (Nat.le_of_ble_eq_true rfl) _) (.cons (f:=[]) (g:=[]) (jA (ys:=[("or",_)]) qp (Nat.le_of_ble_eq_true rfl) _) (.cons (f:=[]) (g:=[]) (jA (ys:=[("done",_)]) qq (Nat.le_of_ble_eq_true rfl) _) .nil)))))))))⟩
 obtain⟨_,g10,_,rfl⟩:=g10
 have jk:=PySem.W.mg_of X G g10
 obtain⟨_,g11,_,rfl⟩:=g11
 have jl:=PySem.W.mg_of X G g11
 obtain⟨_,g12,_,rfl⟩:=g12
 have jm:=PySem.W.mg_of X G g12
 obtain⟨oc,od,kV,doc,pm,an,cdv,ct,osl,el,_,_⟩:=ny.F.ex
 refine⟨se,fun s v=>by rw [el];exact .of_eq rfl,fun base KB _=> ?_⟩
 have d7:KExc K aa:=⟨ot,ou,oz,o4,o5,o6,oy,(by obtain⟨cd,e,_⟩:=zu1 ke;rw [e];rfl)⟩
 have gg:KNum K aa:=⟨d7,mh,zu1 ke⟩
 have j8:=PySem.W.mg_of X G o7
 have lj:=PySem.W.mg_of X G qv
 have jn:=PySem.W.mg_of X G kx
 have mi:NumCls K aa ic base:=⟨xn2 KB ke,xc4 KB gn.s,pz,mh⟩
 have aw:NumI l.prog w K mg base "NoPiece" aa:=⟨PySem.W.mg_of X G pw,ic,_,mi,xn1 (k:=0) gn.F zb8 rfl (PySem.W.mg_of X G kx) ⟨o8,o9,pd⟩ mi rfl (by decide+kernel) (by decide) (fun _ _=>⟨_,rfl⟩),(gn.F.binds fun _ _ _ _ _ _=>yH (fun _ _=>rfl))⟩
 have H1:=zu5 (P:=l.prog) (w:=w) (base:=base) (n:=0) ie ae
 have H2:=yk8 (n:=1) bb ie H1 ae ky
 have bn:=we2 (κ:=κ) H2
 have p7:∀n,FnOk l.prog w K mg base CX0 (n+0) _ _ ["_law_row_here"] (SpP 1 K κ (oW n)):=fun n=>by
  induction n with
  |zero=>exact FnOk.noneP (ps:=["_law_row_here"])
  |succ n ih=>exact ya8 ay ih aq ae ii ig
 have br:=p7 50
 have lg:=yt9 (P:=l.prog) (w:=w) (base:=base) (κ:=κ) (n:=0) gv aq
 have gw:=yu0 (n:=1) dc gv lg.up
 have jx:=yu1 (P:=l.prog) (w:=w) (base:=base) (κ:=κ) (n:=0) fj ar ae
 have ml:=xc7 (n:=2) i9 bb bn.up fj jx.up dc gw.up aq ar ae
 have lq:=yu2 (n:=50) gx bb bn.up ay br.up dc gw.up i9 ml.up ar pi ae aq
 have jp:=zu7 (P:=l.prog) (w:=w) (base:=base) (κ:=κ) (n:=0) dj ky ae nh jz
 have lr:=yu3 (P:=l.prog) (w:=w) (base:=base) (κ:=κ) (n:=0) gy ae
 have j6:=yu4 (P:=l.prog) (w:=w) (base:=base) (κ:=κ) (n:=0) f7 ii ae
 have li:=yu5 (n:=1) gz f7 j6.up kz ae
 have iy:=zh6 (n:=2) ci gz li.up aq ae
 have dk:=zu8 (P:=l.prog) (w:=w) (base:=base) (κ:=κ) (n:=0) gh ah b7 b4 al
 have b9:=zb6 (n:=1) cj gh dk.up ac ao ai
 have cc:=zo0 (P:=l.prog) (w:=w) (base:=base) (κ:=κ) (n:=0) bf
 have c8:=yR (P:=l.prog) (w:=w) (base:=base) (κ:=κ) (n:=0) bj aq ig
 have jj:=zu6 (P:=l.prog) (w:=w) (base:=base) (κ:=κ) (n:=0) di kz bd ig ae gq
 have cw:=zn9 (n:=1) bo bj c8.up di jj.up gc iq k7 k8 jk jl jm
 have eh:=xB (P:=l.prog) (w:=w) (base:=base) (κ:=κ) (n:=0) bu ah b7 b4 ae iz jq bg bi
 have bc:=vD (n:=1) aj bu eh.up ac ao ai ae kn i4 c5 c6 bg bi
 have ib:=zb5 (P:=l.prog) (w:=w) (base:=base) (κ:=κ) (n:=0) ca ah al b4 ar
 have gk:=zK (P:=l.prog) (w:=w) (base:=base) (κ:=κ) (n:=0) bx ah b7 al b4 ar
 have iu:=zh7 (n:=1) am aj bc.up gh dk.up ca ib.up bx gk.up ac ah ao ai al c5 c6 bg bi
 have bq:=zJ (n:=3) ag bo cw.up am iu.up
 have gu:=zb7 (n:=0) am aj bc.up aw ac ah ao ai al c5 c6 bg bi
 have fg:=yS (n:=1) ag bo cw.up am gu.up aw ac ao
 have db:=tZ (P:=l.prog) (w:=w) (base:=base) (κ:=κ) (n:=0) af aw ac ai ao ae
 have kj:=yk9 (n:=3) bz cj b9.up bf cc.up ag bq.up fg.up af db.up aw
 have mn:=xc8 (n:=5) ja bz kj.up aw dt d7 gg j8 lj b0 jn de cz bd nk jc ii
 have dh:=tY (P:=l.prog) (w:=w) (base:=base) (κ:=κ) (n:=0) az ac ah al ai ar
 have dq:=vE (n:=1) af az dh.up ac ai ae
 have lu:=yt8 (n:=3) bz cj b9.up bf cc.up ag bq.up af dq.up
 have ud:=xu2 (n:=51) pj gx lq.up bb bn.up dj jp.up gy lr.up ci iy.up ja mn.up ay br.up bz lu.up aq ae
 exact we3 ud fun ns hl=>yn3 (by rw [List.length_map];exact hl) (xf0 hl)
end My
open PySem PySem.W PyProof.Rows
set_option maxRecDepth 100000 in
set_option maxHeartbeats 0 in
theorem PySem.Challenge.cw_linepress_k17_any_notation_holds : PySem.Challenge.rw_linepress_k17_any_notation.Holds := by
 w_on;o_law;k_head;(case hw=>w_witness2)
 k_fill
 refine My.we4 (lev:=52) (l:=PySem.Challenge.rw_linepress_k17_any_notation) rfl rfl ⟨rfl,by decide,by decide⟩ (fun w h Y=>PySem.W.kIn_of Y) ?F
 case F=>
  intro w mg fa h KX G hmg
  apply My.xx0 KX G hmg
  all_goals first
   |(refine' My.FzT.mk ?a (L2.yq8 ?b ?c ?d);(case a=>k_is);(case b=>k_is);(case c=>k_is);(case d=>k_is))
   |(refine' My.MzT.mk ?a ?e (L2.yq8 ?b ?c ?d);(case a=>k_is);(case e=>k_is);(case b=>k_is);(case c=>k_is);(case d=>k_is))
   |(refine' My.CzT.mk ?a ?_ ?_ ?_ ?_ ?_ ?_;(case a=>k_is);all_goals k_is)
   |(refine' My.wb7 ?a ?b;(case a=>k_is);(case b=>exact⟨_,rfl⟩))
   |k_is
   |rfl
   |kit_is
   |k_exc
   |kernel_rfl
#print axioms PySem.Challenge.cw_linepress_k17_any_notation_holds

